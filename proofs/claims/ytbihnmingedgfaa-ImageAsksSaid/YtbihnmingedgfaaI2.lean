/-
Shots, read.
-/
import Derived.Test.YtbihnmingedgfaaIy
namespace Go.Proofs.Ytbihnmingedgfaa
open Go.RowKit Go.Shelf
set_option linter.unusedVariables false
set_option linter.unusedSimpArgs false

theorem made_at (z : Array Value) (n i : Nat) (h : i < n) : (madeCells z n)[i]? = some (z[i % z.size]!) := by
  unfold madeCells
  rw [Array.getElem?_map, Array.getElem?_range, if_pos h]
  rfl
def Im.shotsFrom : List Gm.Shot → List Int := Im.shots
theorem Im.shots_drop (l : List Gm.Shot) (k : Nat) (h : k < l.length) : Im.shots (l.drop k) = Im.shot l[k] ++ Im.shots (l.drop (k + 1)) := by
  unfold Im.shots
  rw [List.drop_eq_getElem_cons h, List.flatMap_cons]
theorem shotCells_snoc (l : List Gm.Shot) (k : Nat) (h : k < l.length) : Gm.shotCells (l.take (k + 1)) = Gm.shotCells (l.take k) ++ (l[k]).cells := by
  unfold Gm.shotCells
  rw [List.take_succ_eq_append_getElem h, List.flatMap_append]
  simp
theorem patch_all {Z cs : Array Value} {l : List Value} (h : Im.Patch Z 0 l cs) (hz : Z.size = l.length) : cs = l.toArray := by
  apply Array.ext_getElem?
  intro i
  have e : l.toArray[i]? = l[i]? := by simp
  rw [h i, e]
  by_cases hi : i < l.length
  · rw [if_pos (by omega), Nat.sub_zero]
  · rw [if_neg (by omega), Array.getElem?_eq_none (show Z.size ≤ i by omega), List.getElem?_eq_none (show l.length ≤ i by omega)]

set_option maxRecDepth 100000 in
set_option maxHeartbeats 4000000 in
theorem layshots_r (l : List Gm.Shot) (n : Nat) (B : Nat) (t : TypeId) (cs : Array Value) (rest : List Int) (b Bb Bp : Nat) (w : World) (hn : n = l.length) (hn32 : n ≤ 32) (hok : ∀ s ∈ l, Gm.okShot s) (hbB : b ≤ Bb) (hbP : b ≤ B) (hbw : b ≤ w.heap.size) (h : Rd b Bb Bp (Im.bytesOf 1 n ++ (Im.shots l ++ rest)) w) (hP : Box w B t cs)
    (ho : cs[58]? = some (.slice none 0 0)) (h1 : t ≠ 54) (h2 : t ≠ 5) (h3 : t ≠ 120) (h4 : t ≠ 108) :
    Calls Try.prog 127 #[.func (.func 130) #[] #[.pointer (some ⟨Bp, 0, none⟩)], .pointer (some ⟨B, 0, none⟩)] w fun e w' => e = .returned (.tuple #[]) ∧ Rd b Bb Bp rest w' ∧ Rk b Bb B w w' ∧ ∃ S, Box w' B t (cs.setIfInBounds 58 (.slice (some ⟨S, 0, none⟩) n n)) ∧ Box w' S 108 (Gm.shotCells l).toArray := by
  have k0 := hP.cell 58
  rw [ho] at k0
  have ltP := hP.lt
  have HPA := Lib.hid (hP.alloc (.cells #[.int .i64 0] 3))
  have HKA := Lib.hid (Rk.alloc (w := w) (Bb := Bb) (P := B) hbw (.cells #[.int .i64 0] 3))
  have c1 := Lib.hid (layint_r 1 1 rfl n n 0 (by omega) (by omega) w.heap.size 0 3 #[.int .i64 0] _ b Bb Bp _ (by decide) hbB hbw (by simp <;> omega) (h.call (one_below w (.cells #[.int .i64 0] 3)) hbw) (Box.made w 3 #[.int .i64 0]) rfl (by decide) (by decide) (by decide))
  obtain ⟨i0, hi0, hz0, hz1, hz2⟩ := info_parts shot_info
  obtain ⟨Z, hZ⟩ : ∃ Z, Z = madeCells (Value.agg #[.int .i64 0, .int .i32 0, .int .i32 0, .int .i32 0, .int .i32 0, .int .i64 0]).cells (n * 6) := ⟨_, rfl⟩
  have hZs : Z.size = n * 6 := by rw [hZ, size_madeCells]
  have hZc : ∀ k j, k < n → j < 6 → Z[k * 6 + j]? = (#[.int .i64 0, .int .i32 0, .int .i32 0, .int .i32 0, .int .i32 0, .int .i64 0] : Array Value)[j]? := fun k j hk hj => by
    rw [hZ, made_at _ _ _ (by omega)]
    have e : (k * 6 + j) % (Value.agg #[.int .i64 0, .int .i32 0, .int .i32 0, .int .i32 0, .int .i32 0, .int .i64 0]).cells.size = j := by
      show (k * 6 + j) % 6 = j
      omega
    rw [e]
    match j, hj with
    | 0, _ | 1, _ | 2, _ | 3, _ | 4, _ | 5, _ => rfl
  have hmk : ∀ W : World, (Instr.makeSlice 28 (.int .i64 (n : Int)) (.int .i64 (n : Int))).run Try.prog W = .ok (.slice (some ⟨W.heap.size, 0, none⟩) n n) (W.alloc (.cells Z 108)) := fun W => by
    have := run_make (P := Try.prog) W 28 108 i0 _ Try.underlying28 hi0 hz0 .i64 .i64 n n (by omega) (Int.le_refl _) (by rw [hz2]; omega) (by omega)
    rw [this, hZ, hz1, Int.toNat_natCast]
  have hcp : ∀ W : World, (Builtin.copy_ #[28, 28] 3 #[.slice (some ⟨W.heap.size, 0, none⟩) n n, .slice none 0 0]).run Try.prog (W.alloc (.cells Z 108)) = .ok (.int .i64 0) (W.alloc (.cells Z 108)) := fun W => by
    have := run_copy_nought (P := Try.prog) (W.alloc (.cells Z 108)) 28 28 3 108 ⟨W.heap.size, 0, none⟩ n n 0 Try.underlying28 (by rw [Option.isSome_map]; rw [hi0]; rfl)
    simpa [goInt] using this
  have HO := Lib.hid ho
  have HB := Lib.hid hbP
  have HW := Lib.hid hbw
  have NL := Lib.hid hn
  clear h hP ho hZ hn
  go_enter Try.func127, Try.ntmps127
  go_upto_region 2 with (go_at_call 124; ((with_reducible refine (c1.out).mono ?_); rintro e w1 ⟨rfl, hI1, hK1, hL1⟩; have l1 := hL1.cell 0; have P1 := Lib.hid (hK1.kb _ _ _ HPA.out (by omega) h1 h2); have I1 := Lib.hid hI1; have K1 := Lib.hid (HKA.out.local hK1 (Nat.le_refl _)); clear hI1 hK1 hL1 k0 c1))
  have hcpw := hcp w1
  have p58 : ∀ o, (w1.alloc o).cell? ⟨B, 58, none⟩ = some (.slice none 0 0) := fun o => ((P1.out.alloc o).cell 58).trans HO.out
  have f58 : ∀ o, (w1.alloc o).frozen? ⟨B, 58, none⟩ = false := fun o => (P1.out.alloc o).free 58
  have s1 := Nat.le_trans HW.out K1.out.below.size
  have sz1 := K1.out.below.size
  clear hcp HPA HKA
  go_upto_region 5 with fail
  obtain ⟨U, hU⟩ : ∃ U, U = (w1.alloc (.cells Z 108)).setCell ⟨B, 58, none⟩ (.slice (some ⟨w1.heap.size, 0, none⟩) n n) := ⟨_, rfl⟩
  have PU := Lib.hid (show Box U B t (cs.setIfInBounds 58 (.slice (some ⟨w1.heap.size, 0, none⟩) n n)) by (rw [hU]; exact (P1.out.alloc _).put 58 _))
  have SU := Lib.hid (show Box U w1.heap.size 108 Z by (rw [hU]; exact (Box.made w1 _ _).far (by show _ ≠ B; have := P1.out.lt; omega) _))
  have IU := Lib.hid (show Rd b Bb Bp (Im.shots l ++ rest) U by (rw [hU]; exact (I1.out.call (one_below w1 _) s1).off (p := ⟨B, 58, none⟩) (P1.out.alloc _) h3 h1 HB.out _))
  have KU := Lib.hid (show Rk b Bb B w U by (rw [hU]; exact (K1.out.trans (Rk.alloc (w := w1) (Bb := Bb) (P := B) s1 _)).put HB.out 58 _))
  have hSB : Hid (w1.heap.size ≠ B) := Lib.hid (by have := P1.out.lt; omega)
  have hSw : Hid (b ≤ w1.heap.size) := Lib.hid s1
  have hSz : Hid (w.heap.size ≤ w1.heap.size) := Lib.hid sz1
  rw [← hU]
  generalize w1.heap.size = S at *
  clear hU I1 K1 P1 p58 f58 hcpw hmk l1 HO s1 sz1
  go_wp2
  go_loopw [29] (fun i wr => ∃ k : Nat, k ≤ n ∧ i = .int .i64 k ∧ Rd b Bb Bp (Im.shots (l.drop k) ++ rest) wr ∧ Rk b Bb S U wr ∧ ∃ cs', Box wr S 108 cs' ∧ Im.Patch Z 0 (Gm.shotCells (l.take k)) cs') (fun i _ => n - (intOf i).toNat)
  case atStart => exact ⟨0, by omega, rfl, IU.out, Rk.refl _ _ _ _, Z, SU.out, Im.Patch.nil _ _⟩
  case round =>
    obtain ⟨k, hk, rfl, hI, hK, cs', hB, hpt⟩ := hrel
    by_cases hlt : k < n
    · have hk8 : (k : Int) < n := by omega
      have hkl : k < l.length := by have := NL.out; omega
      have ok := hok l[k] (List.getElem_mem hkl)
      have hsn := shotCells_snoc l k hkl
      rw [Im.shots_drop l k hkl] at hI
      have hlen : (Gm.shotCells (l.take k)).length = k * 6 := by rw [Gm.shotCells_len, List.length_take]; congr 1; omega
      have zc : ∀ j, j < 6 → cs'[k * 6 + j]? = (#[.int .i64 0, .int .i32 0, .int .i32 0, .int .i32 0, .int .i32 0, .int .i64 0] : Array Value)[j]? := fun j hj => (hpt.cell (.inr (by rw [hlen]; omega))).trans (hZc k j hlt hj)
      generalize hs : l[k] = s at ok hsn hI
      obtain ⟨owner, x, y, vx, vy, left⟩ := s
      obtain ⟨w0, w1', ⟨w2, w2'⟩, ⟨w3, w3'⟩, ⟨w4, w4'⟩, ⟨w5, w5'⟩, w6, w6'⟩ := ok
      dsimp only at w0 w1' w2 w2' w3 w3' w4 w4' w5 w5' w6 w6'
      have eI : Im.shot ⟨owner, x, y, vx, vy, left⟩ ++ Im.shots (l.drop (k + 1)) ++ rest = Im.bytesOf 1 owner ++ (Im.flight (fun k => match k with | 0 => x | 1 => y | 2 => vx | _ => vy) 4 ++ (Im.bytesOf 1 left ++ (Im.shots (l.drop (k + 1)) ++ rest))) := by
        unfold Im.shot
        simp only [List.append_assoc]
        rfl
      rw [eI] at hI
      obtain ⟨rs, hrs⟩ : ∃ rs, rs = Im.shots (l.drop (k + 1)) ++ rest := ⟨_, rfl⟩
      rw [← hrs] at hI
      have HRS := Lib.hid hrs
      clear hrs
      have z0 := zc 0 (by omega)
      have T0 := hpt.trans (Im.Patch.one (.int .i64 owner) z0) (by rw [hlen]; omega)
      have len0 : (Gm.shotCells (l.take k) ++ [Value.int .i64 owner]).length = k * 6 + 1 := by rw [List.length_append, hlen]; rfl
      have zf : ∀ j, j < 4 → (cs'.setIfInBounds (k * 6 + 0) (.int .i64 owner))[k * 6 + 1 + j]? = some (.int .i32 0) := fun j hj => by
        rw [Array.getElem?_setIfInBounds_ne (by omega), Nat.add_assoc, zc (1 + j) (by omega)]
        match j, hj with
        | 0, _ | 1, _ | 2, _ | 3, _ => rfl
      have z5 : (cs'.setIfInBounds (k * 6 + 0) (.int .i64 owner))[k * 6 + 5]? = some (.int .i64 0) := by
        rw [Array.getElem?_setIfInBounds_ne (by omega), zc 5 (by omega)]
        rfl
      have p2 := hB.cell
      have K2 := Lib.hid hK
      have c3 := Lib.hid (layint_r 1 1 rfl owner owner 0 (by omega) (by omega) S (k * 6) 108 cs' _ b Bb Bp wr (by decide) hbB hSw.out (Nat.le_trans HW.out (Nat.le_trans KU.out.below.size hK.below.size)) hI hB z0 (by decide) (by decide) (by decide))
      have HSN := Lib.hid hsn
      have LT := Lib.hid hB.lt
      clear hs hI hK eI hsn zc hpt z0 hB
      go_upto_region 10 with (go_at_call 124; ((with_reducible refine (c3.out).mono ?_); rintro e w3 ⟨rfl, hI, hK, hB⟩; have P3 := Lib.hid hB; have p3 := P3.out.cell; have I3 := Lib.hid hI; have K3 := Lib.hid (K2.out.trans hK); clear hI hK hB))
      have cf := fun X hX1 hX2 (hX3 : Box X S 108 (cs'.setIfInBounds (k * 6) (.int .i64 owner))) Bq hne hq => Lib.hid (layflight_r (fun k => match k with | 0 => x | 1 => y | 2 => vx | _ => vy) S (k * 6 + 1) Bq 108 _ (Im.bytesOf 1 left ++ rs) b Bb Bp X (fun k hk => by
        match k, hk with
        | 0, _ => exact (show -2147483648 ≤ x ∧ x ≤ 2147483647 by omega)
        | 1, _ => exact (show -2147483648 ≤ y ∧ y ≤ 2147483647 by omega)
        | 2, _ => exact (show -2147483648 ≤ vx ∧ vx ≤ 2147483647 by omega)
        | 3, _ => exact (show -2147483648 ≤ vy ∧ vy ≤ 2147483647 by omega)) hbB hSw.out hX1 hX2 hX3 zf (by decide) (by decide) (by decide) hne hq 4)
      refine Rp.wp_region_lex (by kernel_rfl) [] (by kernel_rfl) (· = w3.drew) (fun _ => True) (fun _ => True) rfl (fun W hW => ⟨trivial, trivial⟩) ?_
      repeat (first
        | (apply Rp.lex_free rfl rfl; focus (intro _; go_simp; first | done | rfl))
        | (apply Rp.lex_look rfl rfl rfl rfl; focus (intro W hW; clear hW; go_simp; first | done | rfl)))
      refine Rp.lex_make rfl (W' := w3.drew.alloc (.cells #[.pointer (some ⟨S, k * 6 + 1, none⟩), .pointer (some ⟨S, k * 6 + 2, none⟩), .pointer (some ⟨S, k * 6 + 3, none⟩), .pointer (some ⟨S, k * 6 + 4, none⟩)] 180)) (v := .slice (some ⟨w3.drew.heap.size, 0, none⟩) 4 4) ?_ ⟨trivial, trivial⟩ ?_
      focus (go_simp; first | done | rfl)
      refine Rp.lex_call (C' := fun Z' => Rd b Bb Bp (Im.bytesOf 1 left ++ rs) Z' ∧ Rk b Bb S U Z' ∧ ∃ cf', Box Z' S 108 cf' ∧ Im.Patch (cs'.setIfInBounds (k * 6) (.int .i64 owner)) (k * 6 + 1) (Im.parts (fun k => match k with | 0 => x | 1 => y | 2 => vx | _ => vy) 4) cf') (v := .tuple #[]) (f := 153) (args := #[.func (.func 130) #[] #[.pointer (some ⟨Bp, 0, none⟩)], .slice (some ⟨w3.drew.heap.size, 0, none⟩) 4 4]) rfl ?_ ?_ ?_ ?_
      · intro Z' hZ'; clear hZ'; go_simp; first | done | rfl | exact ⟨rfl, rfl⟩
      · intro Z' hZ'
        subst hZ'
        have hs0 : b ≤ w3.heap.size := Nat.le_trans HW.out (Nat.le_trans KU.out.below.size K3.out.below.size)
        have KA : Rk b Bb S U (w3.drew.alloc (.cells #[.pointer (some ⟨S, k * 6 + 1, none⟩), .pointer (some ⟨S, k * 6 + 2, none⟩), .pointer (some ⟨S, k * 6 + 3, none⟩), .pointer (some ⟨S, k * 6 + 4, none⟩)] 180)) := K3.out.trans ⟨((one_below' w3).mono hs0).trans ((one_below w3.drew _).mono hs0), ((Kb.refl w3).call (one_below' w3)).call (one_below w3.drew _)⟩
        have hW := (I3.out.call (one_below' w3) hs0).call (one_below w3.drew (.cells #[.pointer (some ⟨S, k * 6 + 1, none⟩), .pointer (some ⟨S, k * 6 + 2, none⟩), .pointer (some ⟨S, k * 6 + 3, none⟩), .pointer (some ⟨S, k * 6 + 4, none⟩)] 180)) hs0
        refine (cf _ (Nat.le_trans HW.out (Nat.le_trans KU.out.below.size KA.below.size)) hW (P3.out.drew.alloc _) w3.drew.heap.size (by have := P3.out.drew.lt; omega) (Box.made _ _ _)).out.mono ?_
        rintro e Z2 ⟨rfl, hI2, hK2, cf', hB2, hp2⟩
        exact ⟨rfl, hI2, KA.trans hK2, cf', hB2, hp2⟩
      · exact fun Z' hZ' => ⟨trivial, trivial⟩
      refine Rp.lex_end fun W4 hW4 => ?_
      obtain ⟨hI4, hK4, c4, hP4, hp4⟩ := hW4
      have T4 := T0.trans hp4 (by rw [len0]; omega)
      have len4 : (Gm.shotCells (l.take k) ++ [Value.int .i64 owner] ++ Im.parts (fun k => match k with | 0 => x | 1 => y | 2 => vx | _ => vy) 4).length = k * 6 + 5 := by rw [List.length_append, len0, Im.parts_len]
      have z5' : c4[k * 6 + 5]? = some (.int .i64 0) := (hp4.cell (.inr (by rw [Im.parts_len]; omega))).trans z5
      have T5 := T4.trans (Im.Patch.one (.int .i64 left) z5') (by rw [len4]; omega)
      have eT : Gm.shotCells (l.take k) ++ [Value.int .i64 owner] ++ Im.parts (fun k => match k with | 0 => x | 1 => y | 2 => vx | _ => vy) 4 ++ [Value.int .i64 left] = Gm.shotCells (l.take (k + 1)) := by
        rw [HSN.out]
        simp [Im.parts, Gm.Shot.cells]
      rw [eT] at T5
      have c5 := Lib.hid (layint_r 1 1 rfl left left 0 (by omega) (by omega) S (k * 6 + 5) 108 c4 rs b Bb Bp W4 (by decide) hbB hSw.out (Nat.le_trans HW.out (Nat.le_trans KU.out.below.size hK4.below.size)) hI4 hP4 z5' (by decide) (by decide) (by decide))
      have p4 := hP4.cell
      have K4 := Lib.hid hK4
      have HT5 := Lib.hid T5
      clear hI4 hK4 hP4 cf zf z5 z5' T4 T5 T0 len0 len4 eT hp4 p3 p2 c3
      go_wp2_with (go_at_call 124; ((with_reducible refine (c5.out).mono ?_); rintro e w5 ⟨rfl, hI, hK, hB⟩; have P5 := Lib.hid hB; have I5 := Lib.hid hI; have K5 := Lib.hid (K4.out.trans hK); clear hI hK hB))
      go_roundw
      case rel => exact ⟨k + 1, by omega, by go_num, by rw [← HRS.out]; exact I5.out, K5.out, _, P5.out, HT5.out⟩
      case measure => simp [intOf]; omega
    · have hk8 : ¬ (k : Int) < n := by omega
      obtain rfl : k = n := by omega
      have ht : l.take k = l := List.take_of_length_le (by have := NL.out; omega)
      have hd : l.drop k = [] := List.drop_eq_nil_of_le (by have := NL.out; omega)
      rw [ht] at hpt
      rw [hd] at hI
      have hcs := patch_all hpt (by rw [hZs, Gm.shotCells_len, ← NL.out])
      rw [hcs] at hB
      have HI := Lib.hid hI
      have HK := Lib.hid hK
      have HBB := Lib.hid hB
      clear hI hK hB hpt hcs
      go_wp2
      go_end0
      exact ⟨rfl, HI.out, KU.out.local HK.out hSz.out, S, HK.out.kb _ _ _ PU.out (fun e => hSB.out e.symm) h1 h2, HBB.out⟩
end Go.Proofs.Ytbihnmingedgfaa
