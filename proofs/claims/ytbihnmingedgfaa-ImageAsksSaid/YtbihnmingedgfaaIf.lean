/-
The program's image: the shots are put.
-/
import Derived.Test.YtbihnmingedgfaaIe
import Derived.Laws.CopyOwn
import Derived.Laws.MakeOwn
namespace Go.Proofs.Ytbihnmingedgfaa
open Go.RowKit Go.Shelf
set_option linter.unusedVariables false

def Im.shot (s : Gm.Shot) : List Int := Im.bytesOf 1 s.owner ++ (Im.flight (fun k => match k with | 0 => s.x | 1 => s.y | 2 => s.vx | _ => s.vy) 4 ++ Im.bytesOf 1 s.left)
def Im.shots (l : List Gm.Shot) : List Int := l.flatMap Im.shot
theorem Im.shot_len (s : Gm.Shot) : (Im.shot s).length = 18 := by unfold Im.shot; rw [List.length_append, List.length_append, Im.bytesOf_len, Im.bytesOf_len, Im.flight_len]
theorem Im.shots_len (l : List Gm.Shot) : (Im.shots l).length = 18 * l.length := by
  induction l with
  | nil => rfl
  | cons s l ih => unfold Im.shots at *; rw [List.flatMap_cons, List.length_append, ih, Im.shot_len, List.length_cons]; omega
theorem Im.shots_snoc (l : List Gm.Shot) (k : Nat) (h : k < l.length) : Im.shots (l.take (k + 1)) = Im.shots (l.take k) ++ Im.shot l[k] := by
  unfold Im.shots
  rw [List.take_succ_eq_append_getElem h, List.flatMap_append]
  simp
theorem shot_size : (Try.prog.info? 108).map (·.size) = some 6 := by kernel_rfl


set_option maxRecDepth 100000 in
set_option maxHeartbeats 4000000 in
theorem layshots_w (l : List Gm.Shot) (n : Nat) (A : Option Addr) (c B : Nat) (t : TypeId) (cs : Array Value) (bs : List Int) (b Bb Bp : Nat) (w : World) (hn : n = l.length) (hn32 : n ≤ 32) (hok : ∀ s ∈ l, Gm.okShot s) (hbB : b ≤ Bb) (hbP : b ≤ B) (hbw : b ≤ w.heap.size) (h : Wr b Bb Bp bs w) (hl : bs.length + 1 + 18 * 32 ≤ 65536) (hP : Box w B t cs)
    (ho : cs[58]? = some (.slice A n c)) (hL : Lies w b 6 A n (Gm.shotCells l)) (h1 : t ≠ 54) (h2 : t ≠ 5) (h3 : t ≠ 120) (h4 : t ≠ 108) :
    Calls Try.prog 127 #[.func (.func 129) #[] #[.pointer (some ⟨Bp, 0, none⟩)], .pointer (some ⟨B, 0, none⟩)] w fun e w' => e = .returned (.tuple #[]) ∧ Wr b Bb Bp (bs ++ (Im.bytesOf 1 n ++ Im.shots l)) w' ∧ Below b w w' ∧ Kb B w w' ∧ ∃ S, Box w' B t (cs.setIfInBounds 58 (.slice (some ⟨S, 0, none⟩) n n)) := by
  have k0 := hP.cell 58
  rw [ho] at k0
  have ltP := hP.lt
  have hwn : IntKind.u64.wrap (n : Int) = n := by rw [IntKind.wrap_u64]; omega
  have HL := Lib.hid (Box.made w 3 #[.int .i64 n])
  have HPA := Lib.hid (hP.alloc (.cells #[.int .i64 n] 3))
  have HA := Lib.hid (h.alloc (.cells #[.int .i64 n] 3))
  have WA := Lib.hid ((Wrote.refl hbB w).alloc (.cells #[.int .i64 n] 3))
  have KA := Lib.hid ((Kb.refl (B := B) w).call (one_below w (.cells #[.int .i64 n] 3)))
  have c1 := Lib.hid (layint_w 1 1 rfl n w.heap.size 0 3 #[.int .i64 n] bs b Bb Bp _ (by decide) (by omega) hbB HA.out (by omega) HL.out rfl (by decide) (by decide) (by decide))
  rw [hwn] at c1
  have hvar := Lib.hid HA.out.isvar
  have HO := Lib.hid ho
  have HLs := Lib.hid hL
  obtain ⟨i0, hi0, hz0, hz1, hz2⟩ := info_parts shot_info
  obtain ⟨Z, hZ⟩ : ∃ Z, Z = madeCells (Value.agg #[.int .i64 0, .int .i32 0, .int .i32 0, .int .i32 0, .int .i32 0, .int .i64 0]).cells (n * 6) := ⟨_, rfl⟩
  have hZs : Z.size = n * 6 := by rw [hZ, size_madeCells]
  have hmk : ∀ W : World, (Instr.makeSlice 28 (.int .i64 (n : Int)) (.int .i64 (n : Int))).run Try.prog W = .ok (.slice (some ⟨W.heap.size, 0, none⟩) n n) (W.alloc (.cells Z 108)) := fun W => by
    have := run_make (P := Try.prog) W 28 108 i0 _ Try.underlying28 hi0 hz0 .i64 .i64 n n (by omega) (Int.le_refl _) (by rw [hz2]; omega) (by omega)
    rw [this, hZ, hz1, Int.toNat_natCast]
  have hcp : ∀ W : World, Lies W W.heap.size 6 A n (Gm.shotCells l) → (Builtin.copy_ #[28, 28] 3 #[.slice (some ⟨W.heap.size, 0, none⟩) n n, .slice A n c]).run Try.prog (W.alloc (.cells Z 108)) = .ok (.int .i64 n) (W.alloc (.cells (Gm.shotCells l).toArray 108)) := fun W hW => by
    cases A with
    | none =>
      have hn0 : n = 0 := by
        by_cases h0 : n = 0
        · exact h0
        · obtain ⟨ad, e, _⟩ := hW.start h0
          cases e
      have hl0 : l = [] := List.eq_nil_of_length_eq_zero (by omega)
      have hz : Z = #[] := Array.eq_empty_of_size_eq_zero (by omega)
      have := run_copy_nought (P := Try.prog) (W.alloc (.cells Z 108)) 28 28 3 108 ⟨W.heap.size, 0, none⟩ n n c Try.underlying28 (by rw [Option.isSome_map]; rw [hi0]; rfl)
      rw [hn0] at this ⊢
      rw [hl0]
      rw [hz] at this ⊢
      simpa [goInt, Gm.shotCells] using this
    | some ad =>
      have hc : ∀ j v, (Gm.shotCells l)[j]? = some v → (W.alloc (.cells Z 108)).cell? (ad.add j) = some v := fun j v hv => by
        have hn0 : n ≠ 0 := fun e => by
          have := (List.getElem?_eq_some_iff.1 hv).1
          rw [Gm.shotCells_len] at this
          omega
        exact (hW.below (one_below W (.cells Z 108))).cell ad rfl hn0 j v hv
      have := run_copy_rows (P := Try.prog) (W.alloc (.cells Z 108)) 28 28 3 108 6 W.heap.size n n ad n c Z 108 (Gm.shotCells l) Try.underlying28 shot_size (Box.made W _ _).is (by rw [hW.len]; simp) hc (by rw [hW.len, hZs]) (shotCells_one l)
      rw [World.setRow_alloc_new] at this
      simpa [goInt] using this
  have NL := Lib.hid hn
  clear h hP ho hL hZ hn
  go_enter Try.func127, Try.ntmps127
  go_upto_region 2 with (go_at_call 124; ((with_reducible refine (c1.out).mono ?_); rintro e w1 ⟨rfl, hI1, hK1⟩; have L1 := HL.out.wrote' hK1 hvar.out (by decide) (by decide); have l1 := L1.cell 0; have P1 := Lib.hid (HPA.out.wrote' hK1 hvar.out h1 h2); have I1 := Lib.hid hI1; have K1 := Lib.hid (WA.out.trans hK1); have B1 := Lib.hid (KA.out.wrote hK1 hvar.out); clear hI1 hK1 L1 k0))
  have lw1 := (HLs.out.below (K1.out.to hbw))
  have hcpw := hcp w1 (lw1.wider (Nat.le_trans hbw K1.out.size))
  have p58 : ∀ o, (w1.alloc o).cell? ⟨B, 58, none⟩ = some (.slice A n c) := fun o => ((P1.out.alloc o).cell 58).trans HO.out
  have f58 : ∀ o, (w1.alloc o).frozen? ⟨B, 58, none⟩ = false := fun o => (P1.out.alloc o).free 58
  have sz1 : w.heap.size ≤ w1.heap.size := K1.out.size
  clear hcp lw1 HLs HL HPA HA WA KA c1
  go_upto_region 5 with fail
  obtain ⟨U, hU⟩ : ∃ U, U = (w1.alloc (.cells (Gm.shotCells l).toArray 108)).setCell ⟨B, 58, none⟩ (.slice (some ⟨w1.heap.size, 0, none⟩) n n) := ⟨_, rfl⟩
  have PU : Box U B t (cs.setIfInBounds 58 (.slice (some ⟨w1.heap.size, 0, none⟩) n n)) := by rw [hU]; exact (P1.out.alloc _).put 58 _
  have SU : Box U w1.heap.size 108 (Gm.shotCells l).toArray := by rw [hU]; exact (Box.made w1 _ _).far (by show _ ≠ B; have := P1.out.lt; omega) _
  have IU : Wr b Bb Bp (bs ++ Im.bytesOf 1 n) U := by rw [hU]; exact (I1.out.alloc _).off (p := ⟨B, 58, none⟩) (P1.out.alloc _) h3 h1 h2 _
  have BU : Below b w U := by rw [hU]; exact ((K1.out.to hbw).alloc (Nat.le_trans hbw sz1) _).setCell hbP _
  have KU : Kb B w U := by rw [hU]; exact (B1.out.call (one_below _ _)).put 58 _
  rw [← hU]
  generalize w1.heap.size = S at *
  have IU := Lib.hid IU
  have PU := Lib.hid PU
  have SU := Lib.hid SU
  have BU := Lib.hid BU
  have KU := Lib.hid KU
  have IVU := Lib.hid IU.out.isvar
  clear hU I1 K1 P1 B1 p58 f58 hcpw hmk l1 hvar HO
  go_wp2
  go_loopw [29] (fun i wr => ∃ k : Nat, k ≤ n ∧ i = .int .i64 k ∧ Wr b Bb Bp (bs ++ Im.bytesOf 1 n ++ Im.shots (l.take k)) wr ∧ Wrote b Bb U wr) (fun i _ => n - (intOf i).toNat)
  case atStart => exact ⟨0, by omega, rfl, by simpa [Im.shots] using IU.out, Wrote.refl hbB U⟩
  case round =>
    obtain ⟨k, hk, rfl, hI, hK⟩ := hrel
    by_cases hlt : k < n
    · have hk8 : (k : Int) < n := by omega
      have hkl : k < l.length := by have := NL.out; omega
      have ok := hok l[k] (List.getElem_mem hkl)
      have hsn := Im.shots_snoc l k hkl
      have lens : (bs ++ Im.bytesOf 1 n ++ Im.shots (l.take k)).length ≤ bs.length + 1 + 18 * k := by
        rw [List.length_append, List.length_append, Im.bytesOf_len, Im.shots_len]; have := List.length_take_le k l; omega
      have sc : ∀ j, j < 6 → (Gm.shotCells l).toArray[k * 6 + j]? = (l[k]).cells[j]? := fun j hj => by rw [List.getElem?_toArray]; exact Gm.shotCells_at l k j hkl hj
      generalize hs : l[k] = s at ok hsn sc
      obtain ⟨owner, x, y, vx, vy, left⟩ := s
      have s0 := sc 0 (by omega)
      have s1 := sc 1 (by omega)
      have s2 := sc 2 (by omega)
      have s3 := sc 3 (by omega)
      have s4 := sc 4 (by omega)
      have s5 := sc 5 (by omega)
      simp only [Gm.Shot.cells, List.getElem?_cons_zero, List.getElem?_cons_succ, Nat.add_zero] at s0 s1 s2 s3 s4 s5
      obtain ⟨w0, w1', ⟨w2, w2'⟩, ⟨w3, w3'⟩, ⟨w4, w4'⟩, ⟨w5, w5'⟩, w6, w6'⟩ := ok
      dsimp only at w0 w1' w2 w2' w3 w3' w4 w4' w5 w5' w6 w6'
      generalize hbs : bs ++ Im.bytesOf 1 n ++ Im.shots (l.take k) = bk at *
      have HSN := Lib.hid (show bs ++ Im.bytesOf 1 n ++ Im.shots (l.take (k + 1)) = bk ++ Im.bytesOf 1 owner ++ Im.flight (fun k => match k with | 0 => x | 1 => y | 2 => vx | _ => vy) 4 ++ Im.bytesOf 1 left by rw [hsn, ← List.append_assoc, hbs]; simp [Im.shot])
      have hwo : IntKind.u64.wrap owner = owner := by rw [IntKind.wrap_u64]; omega
      have hwl : IntKind.u64.wrap left = left := by rw [IntKind.wrap_u64]; omega
      have P2 := Lib.hid (SU.out.wrote' hK IVU.out (by decide) (by decide))
      have IV2 := Lib.hid hI.isvar
      have K2 := Lib.hid hK
      have c3 := Lib.hid (layint_w 1 1 rfl owner S (k * 6) 108 _ bk b Bb Bp wr (by decide) (by omega) hbB hI (by omega) P2.out s0 (by decide) (by decide) (by decide))
      rw [hwo] at c3
      have p2 := P2.out.cell
      clear hsn sc hs hbs hI hK hwo
      go_upto_region 10 with (go_at_call 124; ((with_reducible refine (c3.out).mono ?_); rintro e w3 ⟨rfl, hI, hK⟩; have P3 := Lib.hid (P2.out.wrote' hK IV2.out (by decide) (by decide)); have p3 := P3.out.cell; have IV3 := Lib.hid hI.isvar; have I3 := Lib.hid hI; have K3 := Lib.hid (K2.out.trans hK); clear hI hK))
      have lf := Im.flight_len (fun k => match k with | 0 => x | 1 => y | 2 => vx | _ => vy) 4
      have cf := fun X (hX : Wr b Bb Bp (bk ++ Im.bytesOf 1 owner) X) (hB : Box X S 108 (Gm.shotCells l).toArray) Bq hq => Lib.hid (layflight_w (fun k => match k with | 0 => x | 1 => y | 2 => vx | _ => vy) (fun j => k * 6 + 1 + j) S Bq 108 _ (bk ++ Im.bytesOf 1 owner) b Bb Bp X (fun k hk => by
        match k, hk with
        | 0, _ => exact (show -2147483648 ≤ x ∧ x ≤ 2147483647 by omega)
        | 1, _ => exact (show -2147483648 ≤ y ∧ y ≤ 2147483647 by omega)
        | 2, _ => exact (show -2147483648 ≤ vx ∧ vx ≤ 2147483647 by omega)
        | 3, _ => exact (show -2147483648 ≤ vy ∧ vy ≤ 2147483647 by omega)) hbB hX (by rw [List.length_append, Im.bytesOf_len]; omega) hB (fun k hk => by
        match k, hk with
        | 0, _ => exact s1
        | 1, _ => exact s2
        | 2, _ => exact s3
        | 3, _ => exact s4) (by decide) (by decide) (by decide) hq 4)
      refine Rp.wp_region_lex (by kernel_rfl) [] (by kernel_rfl) (· = w3.drew) (fun _ => True) (fun _ => True) rfl (fun W hW => ⟨trivial, trivial⟩) ?_
      repeat (first
        | (apply Rp.lex_free rfl rfl; focus (intro _; go_simp; first | done | rfl))
        | (apply Rp.lex_look rfl rfl rfl rfl; focus (intro W hW; clear hW; go_simp; first | done | rfl)))
      refine Rp.lex_make rfl (W' := w3.drew.alloc (.cells #[.pointer (some ⟨S, k * 6 + 1, none⟩), .pointer (some ⟨S, k * 6 + 2, none⟩), .pointer (some ⟨S, k * 6 + 3, none⟩), .pointer (some ⟨S, k * 6 + 4, none⟩)] 180)) (v := .slice (some ⟨w3.drew.heap.size, 0, none⟩) 4 4) ?_ ⟨trivial, trivial⟩ ?_
      focus (go_simp; first | done | rfl)
      refine Rp.lex_call (C' := fun Z => Wr b Bb Bp (bk ++ Im.bytesOf 1 owner ++ Im.flight (fun k => match k with | 0 => x | 1 => y | 2 => vx | _ => vy) 4) Z ∧ Wrote b Bb U Z ∧ Box Z S 108 (Gm.shotCells l).toArray) (v := .tuple #[]) (f := 153) (args := #[.func (.func 129) #[] #[.pointer (some ⟨Bp, 0, none⟩)], .slice (some ⟨w3.drew.heap.size, 0, none⟩) 4 4]) rfl ?_ ?_ ?_ ?_
      · intro Z hZ; clear hZ; go_simp; first | done | rfl | exact ⟨rfl, rfl⟩
      · intro Z hZ
        subst hZ
        have hW := (I3.out.call (one_below' w3)).alloc (.cells #[.pointer (some ⟨S, k * 6 + 1, none⟩), .pointer (some ⟨S, k * 6 + 2, none⟩), .pointer (some ⟨S, k * 6 + 3, none⟩), .pointer (some ⟨S, k * 6 + 4, none⟩)] 180)
        refine (cf _ hW (P3.out.drew.alloc _) w3.drew.heap.size (Box.made _ _ _)).out.mono ?_
        rintro e Z2 ⟨rfl, hI2, hK2⟩
        exact ⟨rfl, hI2, (K3.out.drew.alloc _).trans hK2, (P3.out.drew.alloc _).wrote' hK2 hW.isvar (by decide) (by decide)⟩
      · exact fun Z hZ => ⟨trivial, trivial⟩
      refine Rp.lex_end fun W4 hW4 => ?_
      obtain ⟨hI4, hK4, hP4⟩ := hW4
      have P4 := Lib.hid hP4
      have p4 := P4.out.cell
      have IV4 := Lib.hid hI4.isvar
      have K4 := Lib.hid hK4
      have c5 := Lib.hid (layint_w 1 1 rfl left S (k * 6 + 5) 108 _ _ b Bb Bp W4 (by decide) (by omega) hbB hI4 (by rw [List.length_append, List.length_append, Im.bytesOf_len, lf]; omega) hP4 s5 (by decide) (by decide) (by decide))
      rw [hwl] at c5
      generalize Im.flight (fun k => match k with | 0 => x | 1 => y | 2 => vx | _ => vy) 4 = FL at *
      clear hI4 hK4 hP4 cf lf hwl s0 s1 s2 s3 s4 s5 p3 p2 c3
      go_wp2_with (go_at_call 124; ((with_reducible refine (c5.out).mono ?_); rintro e w5 ⟨rfl, hI, hK⟩; have P5 := Lib.hid (P4.out.wrote' hK IV4.out (by decide) (by decide)); have p5 := P5.out.cell; have IV5 := Lib.hid hI.isvar; have I5 := Lib.hid hI; have K5 := Lib.hid (K4.out.trans hK); clear hI hK))
      go_roundw
      case rel => exact ⟨k + 1, by omega, by go_num, by rw [HSN.out]; exact I5.out, K5.out⟩
      case measure => simp [intOf]; omega
    · have hk8 : ¬ (k : Int) < n := by omega
      obtain rfl : k = n := by omega
      have ht : l.take k = l := List.take_of_length_le (by have := NL.out; omega)
      rw [ht] at hI
      have HI := Lib.hid hI
      have HK := Lib.hid hK
      clear hI hK
      go_wp2
      go_end0
      refine ⟨rfl, by rw [← List.append_assoc]; exact HI.out, BU.out.trans (HK.out.to (Nat.le_trans hbw BU.out.size)), KU.out.wrote HK.out IVU.out, S, PU.out.wrote' HK.out IVU.out h1 h2⟩
end Go.Proofs.Ytbihnmingedgfaa
