/-
The program's game: which games may be (those that may).
-/
import Derived.Test.YtbihnmingedgfaaGb
import Derived.Test.YtbihnmingedgfaaGa
import Derived.Outline
namespace Go.Proofs.Ytbihnmingedgfaa
open Go.RowKit
set_option linter.unusedVariables false

set_option maxHeartbeats 400000 in
theorem isslot_any (i : Int) (wi : -9223372036854775808 ≤ i ∧ i ≤ 9223372036854775807) (w : World) :
    Calls Try.prog 54 #[.int .i64 i] w fun e w' => e = .returned (.bool (decide (0 ≤ i) && decide (i < 8))) ∧ w = w' := by
  go_enter Try.func54, Try.ntmps54
  go_wp2
  all_goals
    go_ret
    exact ⟨ret_bool (by rw [Bool.eq_iff_iff]; simp; omega), rfl⟩

theorem wrap_in {x : Int} (h : Gm.inF x) : Gf.wrap x = x := by unfold Gm.inF at h; unfold Gf.wrap; omega
set_option maxHeartbeats 400000 in
theorem there_yes (x y : Int) (hx : Gm.inF x) (hy : Gm.inF y) (w : World) :
    Calls Try.prog 137 #[.int .i32 x, .int .i32 y] w fun e w' => e = .returned (.bool true) ∧ Below w.heap.size w w' := by
  have c1 := fun X => Lib.hid (fldwrap_any x (by unfold Gm.inF at hx; omega) X)
  have c2 := fun X => Lib.hid (fldwrap_any y (by unfold Gm.inF at hy; omega) X)
  rw [wrap_in hx] at c1
  rw [wrap_in hy] at c2
  go_enter Try.func137, Try.ntmps137
  go_wp2_with (go_at_call 156; first | ((with_reducible refine ((c1 _).out).mono ?_); rintro e w1 ⟨rfl, hb1⟩; clear c1) | ((with_reducible refine ((c2 _).out).mono ?_); rintro e w2 ⟨rfl, hb2⟩))
  go_ret
  exact ⟨rfl, hb1.trans (hb2.mono hb1.size)⟩

theorem clamp_in {a m : Int} (h : Gm.slow a m) : Fx.clamp a (-m) m = a := by unfold Gm.slow at h; unfold Fx.clamp; omega
set_option maxHeartbeats 400000 in
theorem within_yes (x y m : Int) (hm : 0 ≤ m ∧ m ≤ 1000000) (hx : Gm.slow x m) (hy : Gm.slow y m) (w : World) :
    Calls Try.prog 138 #[.int .i32 x, .int .i32 y, .int .i32 m] w fun e w' => e = .returned (.bool true) ∧ Below w.heap.size w w' := by
  have c1 := fun X => Lib.hid (clamp_any x (-m) m (by unfold Gm.slow at hx; omega) (by omega) (by omega) X)
  have c2 := fun X => Lib.hid (clamp_any y (-m) m (by unfold Gm.slow at hy; omega) (by omega) (by omega) X)
  rw [clamp_in hx] at c1
  rw [clamp_in hy] at c2
  go_enter Try.func138, Try.ntmps138
  go_wp2_with (go_at_call 72; first | ((with_reducible refine ((c1 _).out).mono ?_); rintro e w1 ⟨rfl, hb1⟩; clear c1) | ((with_reducible refine ((c2 _).out).mono ?_); rintro e w2 ⟨rfl, hb2⟩))
  go_ret
  exact ⟨rfl, hb1.trans (hb2.mono hb1.size)⟩

set_option maxRecDepth 100000 in
set_option maxHeartbeats 1000000 in
theorem mayship_yes (s : Gm.Ship) (h : Gm.okShip s) (w : World) :
    Calls Try.prog 101 #[.agg s.cells.toArray] w fun e w' => e = .returned (.bool true) ∧ Below w.heap.size w w' := by
  obtain ⟨on, x, y, vx, vy, cool, score⟩ := s
  obtain ⟨o1, o2, o3, o4, o5, o6, o7, o8, o9⟩ := h
  dsimp only at o1 o2 o3 o4 o5 o6 o7 o8 o9
  simp only [Gm.Ship.cells]
  rcases o1 with rfl | o1
  · have c1 := fun X => Lib.hid (there_yes x y o2 o3 X)
    have c2 := fun X => Lib.hid (within_yes vx vy 524288 (by omega) o4 o5 X)
    clear o2 o3 o4 o5
    go_enter Try.func101, Try.ntmps101
    go_wp2_with (first | (go_at_call 137; ((with_reducible refine ((c1 _).out).mono ?_); rintro e w1 ⟨rfl, hb1⟩; have B1 := (Box.made w 26 #[.bool true, .int .i32 x, .int .i32 y, .int .i32 vx, .int .i32 vy, .int .i64 cool, .int .i64 score]).below hb1 (by simp); have K1 := B1.cell)) | (go_at_call 138; ((with_reducible refine ((c2 _).out).mono ?_); rintro e w2 ⟨rfl, hb2⟩; have B2 := B1.below hb2 B1.lt; have K2 := B2.cell; clear K1)))
    go_ret
    exact ⟨rfl, ((one_below w _).trans (hb1.mono (by simp))).trans (hb2.mono (by have := hb1.size; simp at this; omega))⟩
  · injection o1 with z1 z2 z3 z4 z5 z6 z7
    subst z1 z2 z3 z4 z5 z6 z7
    clear o2 o3 o4 o5
    go_enter Try.func101, Try.ntmps101
    go_wp2
    go_ret
    exact ⟨rfl, one_below _ _⟩

set_option maxRecDepth 100000 in
set_option maxHeartbeats 1000000 in
theorem mayshot_yes (s : Gm.Shot) (h : Gm.okShot s) (w : World) :
    Calls Try.prog 103 #[.agg s.cells.toArray] w fun e w' => e = .returned (.bool true) ∧ Below w.heap.size w w' := by
  obtain ⟨owner, x, y, vx, vy, left⟩ := s
  obtain ⟨o1, o2, o3, o4, o5, o6, o7, o8⟩ := h
  dsimp only at o1 o2 o3 o4 o5 o6 o7 o8
  simp only [Gm.Shot.cells]
  have c0 := fun X => Lib.hid (isslot_any owner (by omega) X)
  rw [decide_eq_true o1, decide_eq_true o2, Bool.and_self] at c0
  have c1 := fun X => Lib.hid (there_yes x y o3 o4 X)
  have c2 := fun X => Lib.hid (within_yes vx vy 393216 (by omega) o5 o6 X)
  clear o3 o4 o5 o6
  go_enter Try.func103, Try.ntmps103
  go_wp2_with (first | (go_at_call 54; ((with_reducible refine ((c0 _).out).mono ?_); rintro e w0 ⟨rfl, rfl⟩)) | (go_at_call 137; ((with_reducible refine ((c1 _).out).mono ?_); rintro e w1 ⟨rfl, hb1⟩; have B1 := (Box.made w 108 #[.int .i64 owner, .int .i32 x, .int .i32 y, .int .i32 vx, .int .i32 vy, .int .i64 left]).below hb1 (by simp); have K1 := B1.cell)) | (go_at_call 138; ((with_reducible refine ((c2 _).out).mono ?_); rintro e w2 ⟨rfl, hb2⟩; have B2 := B1.below hb2 B1.lt; have K2 := B2.cell; clear K1)))
  go_ret
  exact ⟨rfl, ((one_below w _).trans (hb1.mono (by simp))).trans (hb2.mono (by have := hb1.size; simp at this; omega))⟩
end Go.Proofs.Ytbihnmingedgfaa
