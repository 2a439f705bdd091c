/-
The program's entry: the events, a whole entry are put.
-/
import Derived.Test.YtbihnmingedgfaaEw
namespace Go.Proofs.Ytbihnmingedgfaa
open Go.RowKit Go.Shelf
set_option linter.unusedVariables false
set_option linter.unusedSimpArgs false

theorem ev_size : (Try.prog.info? 83).map (·.size) = some 4 := by kernel_rfl
theorem made_at4 (z : Array Value) (n i : Nat) (h : i < n) : (madeCells z n)[i]? = some (z[i % z.size]!) := by
  unfold madeCells
  rw [Array.getElem?_map, Array.getElem?_range, if_pos h]
  rfl

set_option maxRecDepth 100000 in
set_option maxHeartbeats 4000000 in
theorem layevents_w (l : List En.Ev) (n : Nat) (A : Option Addr) (c B : Nat) (t : TypeId) (cs : Array Value) (bs : List Int) (b Bb Bp : Nat) (w : World) (hn : n = l.length) (hn16 : n ≤ 16) (hok : ∀ s ∈ l, En.evOk s) (hbB : b ≤ Bb) (hbP : b ≤ B) (hbw : b ≤ w.heap.size) (h : Wr b Bb Bp bs w) (hl : bs.length + 1 + 5 * 16 ≤ 65536) (hP : Box w B t cs)
    (ho : cs[1]? = some (.slice A n c)) (hL : Lies w b 4 A n (En.evCells l)) (h1 : t ≠ 54) (h2 : t ≠ 5) (h3 : t ≠ 120) (h4 : t ≠ 83) :
    Calls Try.prog 131 #[.func (.func 129) #[] #[.pointer (some ⟨Bp, 0, none⟩)], .pointer (some ⟨B, 0, none⟩)] w fun e w' => e = .returned (.tuple #[]) ∧ Wr b Bb Bp (bs ++ (Im.bytesOf 1 n ++ En.evsBytes l)) w' ∧ Below b w w' ∧ Kb B w w' ∧ ∃ S, Box w' B t (cs.setIfInBounds 1 (.slice (some ⟨S, 0, none⟩) n n)) := by
  have k0 := hP.cell 1
  rw [ho] at k0
  have ltP := hP.lt
  have hwn : IntKind.u64.wrap (n : Int) = n := by rw [IntKind.wrap_u64]; omega
  have HL := Lib.hid (Box.made w 3 #[.int .i64 n])
  have HPA := Lib.hid (hP.alloc (.cells #[.int .i64 n] 3))
  have HA := Lib.hid (h.alloc (.cells #[.int .i64 n] 3))
  have WA := Lib.hid ((Wrote.refl hbB w).alloc (.cells #[.int .i64 n] 3))
  have KA := Lib.hid ((Kb.refl (B := B) w).call (one_below w (.cells #[.int .i64 n] 3)))
  have c1 := Lib.hid (layint_w 1 1 rfl n w.heap.size 0 3 #[.int .i64 n] bs b Bb Bp _ (by decide) (by omega) hbB HA.out (by omega) HL.out rfl (by decide) (by decide) (by decide))
  rw [hwn] at c1
  have hvar := Lib.hid HA.out.isvar
  have HO := Lib.hid ho
  have HLs := Lib.hid hL
  obtain ⟨i0, hi0, hz0, hz1, hz2⟩ := info_parts ev_info
  obtain ⟨Z, hZ⟩ : ∃ Z, Z = madeCells (Value.agg #[.int .i64 0, .int .i64 0, .int .i64 0, .int .i64 0]).cells (n * 4) := ⟨_, rfl⟩
  have hZs : Z.size = n * 4 := by rw [hZ, size_madeCells]
  have hmk : ∀ W : World, (Instr.makeSlice 70 (.int .i64 (n : Int)) (.int .i64 (n : Int))).run Try.prog W = .ok (.slice (some ⟨W.heap.size, 0, none⟩) n n) (W.alloc (.cells Z 83)) := fun W => by
    have := run_make (P := Try.prog) W 70 83 i0 _ Try.underlying70 hi0 hz0 .i64 .i64 n n (by omega) (Int.le_refl _) (by rw [hz2]; omega) (by omega)
    rw [this, hZ, hz1, Int.toNat_natCast]
  have hcp : ∀ W : World, Lies W W.heap.size 4 A n (En.evCells l) → (Builtin.copy_ #[70, 70] 3 #[.slice (some ⟨W.heap.size, 0, none⟩) n n, .slice A n c]).run Try.prog (W.alloc (.cells Z 83)) = .ok (.int .i64 n) (W.alloc (.cells (En.evCells l).toArray 83)) := fun W hW => by
    cases A with
    | none =>
      have hn0 : n = 0 := by
        by_cases h0 : n = 0
        · exact h0
        · obtain ⟨ad, e, _⟩ := hW.start h0
          cases e
      have hl0 : l = [] := List.eq_nil_of_length_eq_zero (by omega)
      have hz : Z = #[] := Array.eq_empty_of_size_eq_zero (by omega)
      have := run_copy_nought (P := Try.prog) (W.alloc (.cells Z 83)) 70 70 3 83 ⟨W.heap.size, 0, none⟩ n n c Try.underlying70 (by rw [Option.isSome_map]; rw [hi0]; rfl)
      rw [hn0] at this ⊢
      rw [hl0]
      rw [hz] at this ⊢
      simpa [goInt, En.evCells] using this
    | some ad =>
      have hc : ∀ j v, (En.evCells l)[j]? = some v → (W.alloc (.cells Z 83)).cell? (ad.add j) = some v := fun j v hv => by
        have hn0 : n ≠ 0 := fun e => by
          have := (List.getElem?_eq_some_iff.1 hv).1
          rw [En.evCells_len] at this
          omega
        exact (hW.below (one_below W (.cells Z 83))).cell ad rfl hn0 j v hv
      have := run_copy_rows (P := Try.prog) (W.alloc (.cells Z 83)) 70 70 3 83 4 W.heap.size n n ad n c Z 83 (En.evCells l) Try.underlying70 ev_size (Box.made W _ _).is (by rw [hW.len]; simp) hc (by rw [hW.len, hZs]) (En.evCells_one l)
      rw [World.setRow_alloc_new] at this
      simpa [goInt] using this
  have NL := Lib.hid hn
  clear h hP ho hL hZ hn
  go_enter Try.func131, Try.ntmps131
  go_upto_region 2 with (go_at_call 124; ((with_reducible refine (c1.out).mono ?_); rintro e w1 ⟨rfl, hI1, hK1⟩; have L1 := HL.out.wrote' hK1 hvar.out (by decide) (by decide); have l1 := L1.cell 0; have P1 := Lib.hid (HPA.out.wrote' hK1 hvar.out h1 h2); have I1 := Lib.hid hI1; have K1 := Lib.hid (WA.out.trans hK1); have B1 := Lib.hid (KA.out.wrote hK1 hvar.out); clear hI1 hK1 L1 k0))
  have lw1 := (HLs.out.below (K1.out.to hbw))
  have hcpw := hcp w1 (lw1.wider (Nat.le_trans hbw K1.out.size))
  have p58 : ∀ o, (w1.alloc o).cell? ⟨B, 1, none⟩ = some (.slice A n c) := fun o => ((P1.out.alloc o).cell 1).trans HO.out
  have f58 : ∀ o, (w1.alloc o).frozen? ⟨B, 1, none⟩ = false := fun o => (P1.out.alloc o).free 1
  have sz1 : w.heap.size ≤ w1.heap.size := K1.out.size
  clear hcp lw1 HLs HL HPA HA WA KA c1
  go_upto_region 5 with fail
  obtain ⟨U, hU⟩ : ∃ U, U = (w1.alloc (.cells (En.evCells l).toArray 83)).setCell ⟨B, 1, none⟩ (.slice (some ⟨w1.heap.size, 0, none⟩) n n) := ⟨_, rfl⟩
  have PU : Box U B t (cs.setIfInBounds 1 (.slice (some ⟨w1.heap.size, 0, none⟩) n n)) := by rw [hU]; exact (P1.out.alloc _).put 1 _
  have SU : Box U w1.heap.size 83 (En.evCells l).toArray := by rw [hU]; exact (Box.made w1 _ _).far (by show _ ≠ B; have := P1.out.lt; omega) _
  have IU : Wr b Bb Bp (bs ++ Im.bytesOf 1 n) U := by rw [hU]; exact (I1.out.alloc _).off (p := ⟨B, 1, none⟩) (P1.out.alloc _) h3 h1 h2 _
  have BU : Below b w U := by rw [hU]; exact ((K1.out.to hbw).alloc (Nat.le_trans hbw sz1) _).setCell hbP _
  have KU : Kb B w U := by rw [hU]; exact (B1.out.call (one_below _ _)).put 1 _
  rw [← hU]
  generalize w1.heap.size = S at *
  have IU := Lib.hid IU
  have PU := Lib.hid PU
  have SU := Lib.hid SU
  have BU := Lib.hid BU
  have KU := Lib.hid KU
  have IVU := Lib.hid IU.out.isvar
  clear hU I1 K1 P1 B1 p58 f58 hcpw hmk l1 hvar HO
  go_wp2
  go_loopw [29] (fun i wr => ∃ k : Nat, k ≤ n ∧ i = .int .i64 k ∧ Wr b Bb Bp (bs ++ Im.bytesOf 1 n ++ En.evsBytes (l.take k)) wr ∧ Wrote b Bb U wr) (fun i _ => n - (intOf i).toNat)
  case atStart => exact ⟨0, by omega, rfl, by simpa [En.evsBytes] using IU.out, Wrote.refl hbB U⟩
  case round =>
    obtain ⟨k, hk, rfl, hI, hK⟩ := hrel
    by_cases hlt : k < n
    · have hk8 : (k : Int) < n := by omega
      have hkl : k < l.length := by have := NL.out; omega
      have ok := hok l[k] (List.getElem_mem hkl)
      have hsn := En.evsBytes_snoc l k hkl
      have lens : (bs ++ Im.bytesOf 1 n ++ En.evsBytes (l.take k)).length ≤ bs.length + 1 + 5 * k := by
        rw [List.length_append, List.length_append, Im.bytesOf_len, En.evsBytes_len]; have := List.length_take_le k l; omega
      have sc : ∀ j, j < 4 → (En.evCells l).toArray[k * 4 + j]? = (l[k]).cells[j]? := fun j hj => by rw [List.getElem?_toArray]; exact En.evCells_at l k j hkl hj
      generalize hs : l[k] = s at ok hsn sc
      obtain ⟨kind, slot, gen, peer⟩ := s
      have s0 := sc 0 (by omega)
      have s1 := sc 1 (by omega)
      have s2 := sc 2 (by omega)
      have s3 := sc 3 (by omega)
      simp only [En.Ev.cells, List.getElem?_cons_zero, List.getElem?_cons_succ, Nat.add_zero] at s0 s1 s2 s3
      obtain ⟨v1, v2, v3, v4⟩ := ok
      dsimp only at v1 v2 v3 v4
      generalize hbs : bs ++ Im.bytesOf 1 n ++ En.evsBytes (l.take k) = bk at *
      have HSN := Lib.hid (show bs ++ Im.bytesOf 1 n ++ En.evsBytes (l.take (k + 1)) = bk ++ Im.bytesOf 1 kind ++ Im.bytesOf 1 slot ++ Im.bytesOf 2 gen ++ Im.bytesOf 1 peer by rw [hsn, ← List.append_assoc, hbs]; simp [En.evBytes])
      have hw0 : IntKind.u64.wrap kind = kind := by rw [IntKind.wrap_u64]; omega
      have hw1 : IntKind.u64.wrap slot = slot := by rw [IntKind.wrap_u64]; omega
      have hw2 : IntKind.u64.wrap gen = gen := by rw [IntKind.wrap_u64]; omega
      have hw3 : IntKind.u64.wrap peer = peer := by rw [IntKind.wrap_u64]; omega
      have P2 := Lib.hid (SU.out.wrote' hK IVU.out (by decide) (by decide))
      have IV2 := Lib.hid hI.isvar
      have K2 := Lib.hid hK
      have c0 := Lib.hid (layint_w 1 1 rfl kind S (k * 4) 83 _ bk b Bb Bp wr (by decide) (by omega) hbB hI (by omega) P2.out s0 (by decide) (by decide) (by decide))
      rw [hw0] at c0
      have c1 := fun X (hX : Wr b Bb Bp (bk ++ Im.bytesOf 1 kind) X) hB => Lib.hid (layint_w 1 1 rfl slot S (k * 4 + 1) 83 _ _ b Bb Bp X (by decide) (by omega) hbB hX (by rw [List.length_append, Im.bytesOf_len]; omega) hB s1 (by decide) (by decide) (by decide))
      rw [hw1] at c1
      have c2 := fun X (hX : Wr b Bb Bp (bk ++ Im.bytesOf 1 kind ++ Im.bytesOf 1 slot) X) hB => Lib.hid (layint_w 2 2 rfl gen S (k * 4 + 2) 83 _ _ b Bb Bp X (by decide) (by omega) hbB hX (by rw [List.length_append, List.length_append, Im.bytesOf_len, Im.bytesOf_len]; omega) hB s2 (by decide) (by decide) (by decide))
      rw [hw2] at c2
      have c3 := fun X (hX : Wr b Bb Bp (bk ++ Im.bytesOf 1 kind ++ Im.bytesOf 1 slot ++ Im.bytesOf 2 gen) X) hB => Lib.hid (layint_w 1 1 rfl peer S (k * 4 + 3) 83 _ _ b Bb Bp X (by decide) (by omega) hbB hX (by rw [List.length_append, List.length_append, List.length_append, Im.bytesOf_len, Im.bytesOf_len, Im.bytesOf_len]; omega) hB s3 (by decide) (by decide) (by decide))
      rw [hw3] at c3
      clear hsn sc hs hbs hI hK hw0 hw1 hw2 hw3 s0 s1 s2 s3
      go_wp2_with (go_at_call 124; first | ((with_reducible refine (c0.out).mono ?_); rintro e w3 ⟨rfl, hI, hK⟩; have P3 := Lib.hid (P2.out.wrote' hK IV2.out (by decide) (by decide)); have IV3 := Lib.hid hI.isvar; have I3 := Lib.hid hI; have K3 := Lib.hid (K2.out.trans hK); clear hI hK c0) | ((with_reducible refine ((c1 _ I3.out P3.out).out).mono ?_); rintro e w4 ⟨rfl, hI, hK⟩; have P4 := Lib.hid (P3.out.wrote' hK IV3.out (by decide) (by decide)); have IV4 := Lib.hid hI.isvar; have I4 := Lib.hid hI; have K4 := Lib.hid (K3.out.trans hK); clear hI hK) | ((with_reducible refine ((c2 _ I4.out P4.out).out).mono ?_); rintro e w5 ⟨rfl, hI, hK⟩; have P5 := Lib.hid (P4.out.wrote' hK IV4.out (by decide) (by decide)); have IV5 := Lib.hid hI.isvar; have I5 := Lib.hid hI; have K5 := Lib.hid (K4.out.trans hK); clear hI hK) | ((with_reducible refine ((c3 _ I5.out P5.out).out).mono ?_); rintro e w6 ⟨rfl, hI, hK⟩; have I6 := Lib.hid hI; have K6 := Lib.hid (K5.out.trans hK); clear hI hK))
      go_roundw
      case rel => exact ⟨k + 1, by omega, by go_num, by rw [HSN.out]; exact I6.out, K6.out⟩
      case measure => simp [intOf]; omega
    · have hk8 : ¬ (k : Int) < n := by omega
      obtain rfl : k = n := by omega
      have ht : l.take k = l := List.take_of_length_le (by have := NL.out; omega)
      rw [ht] at hI
      have HI := Lib.hid hI
      have HK := Lib.hid hK
      clear hI hK
      go_wp2
      go_end0
      refine ⟨rfl, by rw [← List.append_assoc]; exact HI.out, BU.out.trans (HK.out.to (Nat.le_trans hbw BU.out.size)), KU.out.wrote HK.out IVU.out, S, PU.out.wrote' HK.out IVU.out h1 h2⟩

set_option maxRecDepth 100000 in
set_option maxHeartbeats 2000000 in
theorem layentry_w (e : En.E) (n : Nat) (A : Option Addr) (c B : Nat) (bs : List Int) (b Bb Bp : Nat) (w : World) (hn : n = e.evs.length) (hok : En.Ok e) (hty : ∀ i, i < 8 → Gm.tyIn (e.inp i)) (hbB : b ≤ Bb) (hbP : b ≤ B) (hbw : b ≤ w.heap.size) (h : Wr b Bb Bp bs w) (hl : bs.length ≤ 60000) (hP : Box w B 72 (En.cells e (.slice A n c))) (hL : Lies w b 4 A n (En.evCells e.evs)) :
    Calls Try.prog 91 #[.func (.func 129) #[] #[.pointer (some ⟨Bp, 0, none⟩)], .pointer (some ⟨B, 0, none⟩)] w fun r w' => r = .returned (.tuple #[]) ∧ Wr b Bb Bp (bs ++ En.put e) w' ∧ Below b w w' ∧ Kb B w w' := by
  have hf := hok.frame
  have hw0 : IntKind.u64.wrap e.frame = e.frame := by rw [IntKind.wrap_u64]; omega
  have hc16 := hok.count
  have hevl := En.evsBytes_len e.evs
  have c1 := Lib.hid (layint_w 4 4 rfl e.frame B 0 72 _ bs b Bb Bp w (by decide) (by omega) hbB h (by omega) hP (En.cells_0 _ _) (by decide) (by decide) (by decide))
  rw [hw0] at c1
  have c2 := fun X (hX : Wr b Bb Bp (bs ++ Im.bytesOf 4 e.frame) X) hB hS hLX => Lib.hid (layevents_w e.evs n A c B 72 (En.cells e (.slice A n c)) _ b Bb Bp X hn (by omega) (En.row_mem _ _ hok.row) hbB hbP hS hX (by rw [List.length_append, Im.bytesOf_len]; omega) hB (En.cells_1 _ _) hLX (by decide) (by decide) (by decide) (by decide))
  have c3 := fun S X (hX : Wr b Bb Bp (bs ++ Im.bytesOf 4 e.frame ++ (Im.bytesOf 1 n ++ En.evsBytes e.evs)) X) hB => Lib.hid (layinputs_w e (.slice (some ⟨S, 0, none⟩) n n) B _ b Bb Bp X hty hbB hX (by rw [List.length_append, List.length_append, List.length_append, Im.bytesOf_len, Im.bytesOf_len, hevl]; omega) hB)
  have HE := Lib.hid (show bs ++ Im.bytesOf 4 e.frame ++ (Im.bytesOf 1 n ++ En.evsBytes e.evs) ++ (Im.bytesOf 1 (En.mask e.inp 8) ++ En.insBytes e.inp 8) = bs ++ En.put e by rw [hn]; unfold En.put; simp only [List.append_assoc])
  have IV0 := Lib.hid h.isvar
  have P0 := Lib.hid hP
  have L0 := Lib.hid hL
  have ltP := hP.lt
  clear h hP hL hf hn hw0 hevl hc16
  go_enter Try.func91, Try.ntmps91
  go_wp2_with (first | (go_at_call 124; ((with_reducible refine (c1.out).mono ?_); rintro r w1 ⟨rfl, hI, hK⟩; have P1 := Lib.hid (P0.out.wrote' hK IV0.out (by decide) (by decide)); have IV1 := Lib.hid hI.isvar; have I1 := Lib.hid hI; have K1 := Lib.hid (hK.to hbw); have Q1 := Lib.hid ((Kb.refl (B := B) w).wrote hK IV0.out); clear hI hK)) | (go_at_call 131; ((with_reducible refine ((c2 _ I1.out P1.out (Nat.le_trans hbw K1.out.size) (L0.out.below K1.out)).out).mono ?_); rintro r w2 ⟨rfl, hI, hb, hk, S, hB⟩; rw [En.cells_evs] at hB; have P2 := Lib.hid hB; have IV2 := Lib.hid hI.isvar; have I2 := Lib.hid hI; have K2 := Lib.hid (K1.out.trans hb); have Q2 := Lib.hid (Q1.out.trans hk); clear hI hb hk hB)) | (go_at_call 132; ((with_reducible refine ((c3 _ _ I2.out P2.out).out).mono ?_); rintro r w3 ⟨rfl, hI, hK⟩; have I3 := Lib.hid hI; have K3 := Lib.hid (K2.out.trans (hK.to (Nat.le_trans hbw K2.out.size))); have Q3 := Lib.hid (Q2.out.wrote hK IV2.out); clear hI hK)))
  go_end0
  exact ⟨rfl, by rw [← HE.out]; exact I3.out, K3.out, Q3.out⟩
end Go.Proofs.Ytbihnmingedgfaa
