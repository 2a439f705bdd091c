/-
A seat, a ship that is off and no shots, read.
-/
import Derived.Test.YtbihnmingedgfaaIn
import Derived.Test.YtbihnmingedgfaaIl
namespace Go.Proofs.Ytbihnmingedgfaa
open Go.RowKit Go.Shelf
set_option linter.unusedVariables false
set_option linter.unusedSimpArgs false


set_option maxRecDepth 100000 in
set_option maxHeartbeats 2000000 in
theorem layseat_r (pe g : Int) (P o : Nat) (t : TypeId) (cs : Array Value) (rest : List Int) (b Bb Bp : Nat) (w : World) (hpe : -1 ≤ pe ∧ pe ≤ 254) (hg : 0 ≤ g ∧ g ≤ 65535) (hbB : b ≤ Bb) (hbP : b ≤ P) (hbw : b ≤ w.heap.size) (h : Rd b Bb Bp (Im.bytesOf 1 (pe + 1) ++ (Im.bytesOf 2 g ++ rest)) w) (hP : Box w P t cs) (ho : cs[o]? = some (.int .i64 0)) (ho1 : cs[o + 1]? = some (.int .i64 0)) (h1 : t ≠ 54) (h2 : t ≠ 5) (h3 : t ≠ 120) :
    Calls Try.prog 128 #[.func (.func 130) #[] #[.pointer (some ⟨Bp, 0, none⟩)], .pointer (some ⟨P, o, none⟩)] w fun e w' => e = .returned (.tuple #[]) ∧ Rd b Bb Bp rest w' ∧ Rk b Bb P w w' ∧ Box w' P t ((cs.setIfInBounds o (.int .i64 pe)).setIfInBounds (o + 1) (.int .i64 g)) := by
  have hw4 : IntKind.i64.wrap (pe + 1 - 1) = pe := by rw [IntKind.wrap_i64]; omega
  have k0 := hP.cell o
  rw [ho] at k0
  have ltP := hP.lt
  have HPA := Lib.hid (hP.alloc (.cells #[.int .i64 1] 3))
  have HKA := Lib.hid (Rk.alloc (w := w) (Bb := Bb) (P := P) hbw (.cells #[.int .i64 1] 3))
  have c1 := Lib.hid (layint_r 1 1 rfl (pe + 1) (pe + 1) 1 (by omega) (by omega) w.heap.size 0 3 #[.int .i64 1] (Im.bytesOf 2 g ++ rest) b Bb Bp _ (by decide) hbB hbw (by simp <;> omega) (h.call (one_below w (.cells #[.int .i64 1] 3)) hbw) (Box.made w 3 #[.int .i64 1]) rfl (by decide) (by decide) (by decide))
  have e1 : (cs.setIfInBounds o (.int .i64 pe))[o + 1]? = some (.int .i64 0) := by rw [Array.getElem?_setIfInBounds_ne (by omega), ho1]
  have c2 := fun X hX1 hX2 hX3 => Lib.hid (layint_r 2 2 rfl g g 0 (by omega) (by omega) P (o + 1) t (cs.setIfInBounds o (.int .i64 pe)) rest b Bb Bp X (by decide) hbB hbP hX1 hX2 hX3 e1 h1 h2 h3)
  have HO := Lib.hid ho
  have HB := Lib.hid hbP
  have HW := Lib.hid hbw
  clear h hP ho ho1 e1
  go_enter Try.func128, Try.ntmps128
  go_wp2_with (go_at_call 124; first | ((with_reducible refine (c1.out).mono ?_); rintro e w1 ⟨rfl, hI1, hK1, hL1⟩; have l1 := hL1.cell 0; have P1 := Lib.hid (hK1.kb _ _ _ HPA.out (by omega) h1 h2); have p1 := P1.out.cell o; rw [HO.out] at p1; have f1 := P1.out.free o; have I1 := Lib.hid hI1; have K1 := Lib.hid (HKA.out.local hK1 (Nat.le_refl _)); clear hI1 hK1 hL1 k0 c1) | ((with_reducible refine ((c2 _ (Nat.le_trans HW.out (K1.out.put HB.out _ _).below.size) (I1.out.off (p := ⟨P, o, none⟩) P1.out h3 h1 HB.out _) (P1.out.put o _)).out).mono ?_); rintro e w2 ⟨rfl, hI2, hK2, hL2⟩; have I2 := Lib.hid hI2; have P2 := Lib.hid hL2; have K2 := Lib.hid ((K1.out.put HB.out _ _).trans hK2); clear hI2 hK2 hL2))
  go_end0
  exact ⟨rfl, I2.out, K2.out, P2.out⟩

set_option maxRecDepth 100000 in
set_option maxHeartbeats 2000000 in
theorem layship_off_r (P o : Nat) (t : TypeId) (cs : Array Value) (rest : List Int) (b Bb Bp : Nat) (w : World) (hbB : b ≤ Bb) (hbP : b ≤ P) (hbw : b ≤ w.heap.size) (h : Rd b Bb Bp (Im.bytesOf 1 0 ++ rest) w) (hP : Box w P t cs) (ho : cs[o]? = some (.bool false)) (h1 : t ≠ 54) (h2 : t ≠ 5) (h3 : t ≠ 120) :
    Calls Try.prog 126 #[.func (.func 130) #[] #[.pointer (some ⟨Bp, 0, none⟩)], .pointer (some ⟨P, o, none⟩)] w fun e w' => e = .returned (.tuple #[]) ∧ Rd b Bb Bp rest w' ∧ Rk b Bb P w w' ∧ Box w' P t cs := by
  have k0 := hP.cell o
  rw [ho] at k0
  have ltP := hP.lt
  have HPA := Lib.hid (hP.alloc (.cells #[.int .i64 0] 3))
  have HKA := Lib.hid (Rk.alloc (w := w) (Bb := Bb) (P := P) hbw (.cells #[.int .i64 0] 3))
  have c1 := Lib.hid (layint_r 1 1 rfl 0 0 0 (by omega) (by omega) w.heap.size 0 3 #[.int .i64 0] rest b Bb Bp _ (by decide) hbB hbw (by simp <;> omega) (h.call (one_below w (.cells #[.int .i64 0] 3)) hbw) (Box.made w 3 #[.int .i64 0]) rfl (by decide) (by decide) (by decide))
  have HO := Lib.hid ho
  have HB := Lib.hid hbP
  clear h hP ho
  go_enter Try.func126, Try.ntmps126
  go_wp2_with (first | (go_at_call 76; ((with_reducible refine (need_yes _ _).mono ?_); rintro e wn ⟨rfl, rfl⟩)) | (go_at_call 124; ((with_reducible refine (c1.out).mono ?_); rintro e w1 ⟨rfl, hI1, hK1, hL1⟩; have l1 := hL1.cell 0; have P1 := Lib.hid (hK1.kb _ _ _ HPA.out (by omega) h1 h2); have p1 := P1.out.cell o; rw [HO.out] at p1; have f1 := P1.out.free o; have I1 := Lib.hid hI1; have K1 := Lib.hid (HKA.out.local hK1 (Nat.le_refl _)); clear hI1 hK1 hL1 k0 c1)))
  refine bodyPost_ret (results_none rfl _ _ _) rfl ?_
  exact ⟨rfl, I1.out.off (p := ⟨P, o, none⟩) P1.out h3 h1 HB.out _, K1.out.put HB.out _ _, by have := P1.out.put o (.bool false); rwa [set_same HO.out] at this⟩

set_option maxRecDepth 100000 in
set_option maxHeartbeats 4000000 in
theorem layshots_none_r (B : Nat) (t : TypeId) (cs : Array Value) (rest : List Int) (b Bb Bp : Nat) (w : World) (hbB : b ≤ Bb) (hbP : b ≤ B) (hbw : b ≤ w.heap.size) (h : Rd b Bb Bp (Im.bytesOf 1 0 ++ rest) w) (hP : Box w B t cs)
    (ho : cs[58]? = some (.slice none 0 0)) (h1 : t ≠ 54) (h2 : t ≠ 5) (h3 : t ≠ 120) :
    Calls Try.prog 127 #[.func (.func 130) #[] #[.pointer (some ⟨Bp, 0, none⟩)], .pointer (some ⟨B, 0, none⟩)] w fun e w' => e = .returned (.tuple #[]) ∧ Rd b Bb Bp rest w' ∧ Rk b Bb B w w' ∧ ∃ S, Box w' B t (cs.setIfInBounds 58 (.slice (some ⟨S, 0, none⟩) 0 0)) := by
  have k0 := hP.cell 58
  rw [ho] at k0
  have ltP := hP.lt
  have HPA := Lib.hid (hP.alloc (.cells #[.int .i64 0] 3))
  have HKA := Lib.hid (Rk.alloc (w := w) (Bb := Bb) (P := B) hbw (.cells #[.int .i64 0] 3))
  have c1 := Lib.hid (layint_r 1 1 rfl 0 0 0 (by omega) (by omega) w.heap.size 0 3 #[.int .i64 0] rest b Bb Bp _ (by decide) hbB hbw (by simp <;> omega) (h.call (one_below w (.cells #[.int .i64 0] 3)) hbw) (Box.made w 3 #[.int .i64 0]) rfl (by decide) (by decide) (by decide))
  obtain ⟨i0, hi0, hz0, hz1, hz2⟩ := info_parts shot_info
  have hmk : ∀ W : World, (Instr.makeSlice 28 (.int .i64 0) (.int .i64 0)).run Try.prog W = .ok (.slice (some ⟨W.heap.size, 0, none⟩) 0 0) (W.alloc (.cells #[] 108)) := fun W => by
    have := run_make (P := Try.prog) W 28 108 i0 _ Try.underlying28 hi0 hz0 .i64 .i64 0 0 (by omega) (Int.le_refl _) (by rw [hz2]; omega) (by omega)
    rw [this, hz1, Array.eq_empty_of_size_eq_zero (xs := madeCells _ (Int.toNat 0 * 6)) (by rw [size_madeCells]; rfl)]
    rfl
  have hcp : ∀ W : World, (Builtin.copy_ #[28, 28] 3 #[.slice (some ⟨W.heap.size, 0, none⟩) 0 0, .slice none 0 0]).run Try.prog (W.alloc (.cells #[] 108)) = .ok (.int .i64 0) (W.alloc (.cells #[] 108)) := fun W => by
    have := run_copy_nought (P := Try.prog) (W.alloc (.cells #[] 108)) 28 28 3 108 ⟨W.heap.size, 0, none⟩ 0 0 0 Try.underlying28 (by rw [Option.isSome_map]; rw [hi0]; rfl)
    simpa [goInt] using this
  have HO := Lib.hid ho
  have HB := Lib.hid hbP
  have HW := Lib.hid hbw
  clear h hP ho
  go_enter Try.func127, Try.ntmps127
  go_upto_region 2 with (go_at_call 124; ((with_reducible refine (c1.out).mono ?_); rintro e w1 ⟨rfl, hI1, hK1, hL1⟩; have l1 := hL1.cell 0; have P1 := Lib.hid (hK1.kb _ _ _ HPA.out (by omega) h1 h2); have I1 := Lib.hid hI1; have K1 := Lib.hid (HKA.out.local hK1 (Nat.le_refl _)); clear hI1 hK1 hL1 k0 c1))
  have hcpw := hcp w1
  have p58 : ∀ o, (w1.alloc o).cell? ⟨B, 58, none⟩ = some (.slice none 0 0) := fun o => ((P1.out.alloc o).cell 58).trans HO.out
  have f58 : ∀ o, (w1.alloc o).frozen? ⟨B, 58, none⟩ = false := fun o => (P1.out.alloc o).free 58
  have PU := Lib.hid ((P1.out.alloc (.cells #[] 108)).put 58 (.slice (some ⟨w1.heap.size, 0, none⟩) 0 0))
  have s1 := Nat.le_trans HW.out K1.out.below.size
  have IU := Lib.hid ((I1.out.call (one_below w1 (.cells #[] 108)) s1).off (p := ⟨B, 58, none⟩) (P1.out.alloc _) h3 h1 HB.out (.slice (some ⟨w1.heap.size, 0, none⟩) 0 0))
  have KU := Lib.hid ((K1.out.trans (Rk.alloc (w := w1) (Bb := Bb) (P := B) s1 (.cells #[] 108))).put HB.out 58 (.slice (some ⟨w1.heap.size, 0, none⟩) 0 0))
  clear hcp s1
  go_upto_region 5 with fail
  go_wp2
  go_loopw [29] (fun i wr => i = .int .i64 0 ∧ wr = (w1.alloc (.cells #[] 108)).setCell ⟨B, 58, none⟩ (.slice (some ⟨w1.heap.size, 0, none⟩) 0 0)) (fun i _ => 0)
  case atStart => exact ⟨rfl, rfl⟩
  case round =>
    obtain ⟨rfl, rfl⟩ := hrel
    go_wp2
    go_end0
    exact ⟨rfl, IU.out, KU.out, _, PU.out⟩
end Go.Proofs.Ytbihnmingedgfaa
