/-
FixRing: the walk.
-/
import Derived.Test.YtpcndjmhikigfaaFt
namespace Go.Proofs.Ytpcndjmhikigfaa
open Go.RowKit
set_option linter.unusedVariables false

theorem mul_one {a : Int} (wa : I32 a) : Fx.mul a 65536 = a := by
  unfold Fx.mul
  rw [Int.mul_tdiv_cancel a (by omega)]
  exact Fx.cut_in wa.1 wa.2
theorem mul_zero (a : Int) : Fx.mul a 0 = 0 := by unfold Fx.mul; rw [Int.mul_zero]; rfl
theorem div_one {a : Int} (wa : I32 a) : Fx.div a 65536 = a := by
  unfold Fx.div
  rw [if_neg (by omega), Int.mul_tdiv_cancel a (by omega)]
  exact Fx.cut_in wa.1 wa.2

set_option maxRecDepth 100000 in
set_option maxHeartbeats 2000000 in
theorem ring_in (a b m : Int) (wa : I32 a) (wb : I32 b) (h1 : -2147483648 ≤ a + b) (h2 : a + b ≤ 2147483647) (hm : Fx.mul a b = m) (w : World) :
    Calls Try.prog 5 #[.int .i32 a, .int .i32 b] w fun e w' => e = .returned (.bool true) ∧ Kept w w' := by
  have hk := Kept.refl w
  have b1 : I32 (a + b) := by omega
  have w0 : I32 0 := by omega
  have w1 : I32 65536 := by omega
  have hm' : Fx.mul b a = m := by rw [← hm]; unfold Fx.mul; rw [Int.mul_comm]
  have c0 := fun (x : World) (h : Kept w x) => Lib.hid (told_t h)
  have c1 := fun (x : World) (h : Kept w x) => Lib.hid (fixadd_t h a b (a + b) wa wb (by unfold Fx.cut; omega))
  have c2 := fun (x : World) (h : Kept w x) => Lib.hid (fixadd_t h b a (a + b) wb wa (by unfold Fx.cut; omega))
  have c3 := fun (x : World) (h : Kept w x) => Lib.hid (fixadd_t h a 0 a wa w0 (by unfold Fx.cut; omega))
  have c4 := fun (x : World) (h : Kept w x) => Lib.hid (fixmul_t h a b m wa wb hm)
  have c5 := fun (x : World) (h : Kept w x) => Lib.hid (fixmul_t h b a m wb wa hm')
  have c6 := fun (x : World) (h : Kept w x) => Lib.hid (fixmul_t h a 65536 a wa w1 (mul_one wa))
  have c7 := fun (x : World) (h : Kept w x) => Lib.hid (fixmul_t h a 0 0 wa w0 (mul_zero a))
  have c8 := fun (x : World) (h : Kept w x) => Lib.hid (fixdiv_t h a 65536 a wa w1 (div_one wa))
  have c9 := fun (x : World) (h : Kept w x) => Lib.hid (fixsub_t h (a + b) b a b1 wb (by unfold Fx.cut; omega))
  clear b1 w0 w1 hm hm'
  go_enter Try.func5, Try.ntmps5
  go_wp2_with (first | (go_at_call 11; ((with_reducible refine ((c0 _ (by assumption)).out).mono ?_); rintro e w' ⟨rfl, hk⟩)) | (go_at_call 12; first | ((with_reducible refine ((c1 _ (by assumption)).out).mono ?_); rintro e w' ⟨rfl, hk⟩) | ((with_reducible refine ((c2 _ (by assumption)).out).mono ?_); rintro e w' ⟨rfl, hk⟩) | ((with_reducible refine ((c3 _ (by assumption)).out).mono ?_); rintro e w' ⟨rfl, hk⟩)) | (go_at_call 16; first | ((with_reducible refine ((c4 _ (by assumption)).out).mono ?_); rintro e w' ⟨rfl, hk⟩) | ((with_reducible refine ((c5 _ (by assumption)).out).mono ?_); rintro e w' ⟨rfl, hk⟩) | ((with_reducible refine ((c6 _ (by assumption)).out).mono ?_); rintro e w' ⟨rfl, hk⟩) | ((with_reducible refine ((c7 _ (by assumption)).out).mono ?_); rintro e w' ⟨rfl, hk⟩)) | (go_at_call 18; ((with_reducible refine ((c8 _ (by assumption)).out).mono ?_); rintro e w' ⟨rfl, hk⟩)) | (go_at_call 14; ((with_reducible refine ((c9 _ (by assumption)).out).mono ?_); rintro e w' ⟨rfl, hk⟩)))
  all_goals
    go_ret
    exact ⟨ret_bool (by simp), by assumption⟩

set_option maxRecDepth 100000 in
set_option maxHeartbeats 2000000 in
theorem ring_over (a b m : Int) (wa : I32 a) (wb : I32 b) (h1 : 2147483647 < a + b) (hm : Fx.mul a b = m) (w : World) :
    Calls Try.prog 5 #[.int .i32 a, .int .i32 b] w fun e w' => e = .returned (.bool true) ∧ Kept w w' := by
  have hk := Kept.refl w
  have b1 : I32 (2147483647) := by omega
  have w0 : I32 0 := by omega
  have w1 : I32 65536 := by omega
  have hm' : Fx.mul b a = m := by rw [← hm]; unfold Fx.mul; rw [Int.mul_comm]
  have c0 := fun (x : World) (h : Kept w x) => Lib.hid (told_t h)
  have c1 := fun (x : World) (h : Kept w x) => Lib.hid (fixadd_t h a b (2147483647) wa wb (by unfold Fx.cut; omega))
  have c2 := fun (x : World) (h : Kept w x) => Lib.hid (fixadd_t h b a (2147483647) wb wa (by unfold Fx.cut; omega))
  have c3 := fun (x : World) (h : Kept w x) => Lib.hid (fixadd_t h a 0 a wa w0 (by unfold Fx.cut; omega))
  have c4 := fun (x : World) (h : Kept w x) => Lib.hid (fixmul_t h a b m wa wb hm)
  have c5 := fun (x : World) (h : Kept w x) => Lib.hid (fixmul_t h b a m wb wa hm')
  have c6 := fun (x : World) (h : Kept w x) => Lib.hid (fixmul_t h a 65536 a wa w1 (mul_one wa))
  have c7 := fun (x : World) (h : Kept w x) => Lib.hid (fixmul_t h a 0 0 wa w0 (mul_zero a))
  have c8 := fun (x : World) (h : Kept w x) => Lib.hid (fixdiv_t h a 65536 a wa w1 (div_one wa))
  clear b1 w0 w1 hm hm'
  go_enter Try.func5, Try.ntmps5
  go_wp2_with (first | (go_at_call 11; ((with_reducible refine ((c0 _ (by assumption)).out).mono ?_); rintro e w' ⟨rfl, hk⟩)) | (go_at_call 12; first | ((with_reducible refine ((c1 _ (by assumption)).out).mono ?_); rintro e w' ⟨rfl, hk⟩) | ((with_reducible refine ((c2 _ (by assumption)).out).mono ?_); rintro e w' ⟨rfl, hk⟩) | ((with_reducible refine ((c3 _ (by assumption)).out).mono ?_); rintro e w' ⟨rfl, hk⟩)) | (go_at_call 16; first | ((with_reducible refine ((c4 _ (by assumption)).out).mono ?_); rintro e w' ⟨rfl, hk⟩) | ((with_reducible refine ((c5 _ (by assumption)).out).mono ?_); rintro e w' ⟨rfl, hk⟩) | ((with_reducible refine ((c6 _ (by assumption)).out).mono ?_); rintro e w' ⟨rfl, hk⟩) | ((with_reducible refine ((c7 _ (by assumption)).out).mono ?_); rintro e w' ⟨rfl, hk⟩)) | (go_at_call 18; ((with_reducible refine ((c8 _ (by assumption)).out).mono ?_); rintro e w' ⟨rfl, hk⟩)))
  all_goals
    go_ret
    exact ⟨ret_bool (by simp), by assumption⟩

set_option maxRecDepth 100000 in
set_option maxHeartbeats 2000000 in
theorem ring_under (a b m : Int) (wa : I32 a) (wb : I32 b) (h1 : a + b < -2147483648) (hm : Fx.mul a b = m) (w : World) :
    Calls Try.prog 5 #[.int .i32 a, .int .i32 b] w fun e w' => e = .returned (.bool true) ∧ Kept w w' := by
  have hk := Kept.refl w
  have b1 : I32 (-2147483648) := by omega
  have w0 : I32 0 := by omega
  have w1 : I32 65536 := by omega
  have hm' : Fx.mul b a = m := by rw [← hm]; unfold Fx.mul; rw [Int.mul_comm]
  have c0 := fun (x : World) (h : Kept w x) => Lib.hid (told_t h)
  have c1 := fun (x : World) (h : Kept w x) => Lib.hid (fixadd_t h a b (-2147483648) wa wb (by unfold Fx.cut; omega))
  have c2 := fun (x : World) (h : Kept w x) => Lib.hid (fixadd_t h b a (-2147483648) wb wa (by unfold Fx.cut; omega))
  have c3 := fun (x : World) (h : Kept w x) => Lib.hid (fixadd_t h a 0 a wa w0 (by unfold Fx.cut; omega))
  have c4 := fun (x : World) (h : Kept w x) => Lib.hid (fixmul_t h a b m wa wb hm)
  have c5 := fun (x : World) (h : Kept w x) => Lib.hid (fixmul_t h b a m wb wa hm')
  have c6 := fun (x : World) (h : Kept w x) => Lib.hid (fixmul_t h a 65536 a wa w1 (mul_one wa))
  have c7 := fun (x : World) (h : Kept w x) => Lib.hid (fixmul_t h a 0 0 wa w0 (mul_zero a))
  have c8 := fun (x : World) (h : Kept w x) => Lib.hid (fixdiv_t h a 65536 a wa w1 (div_one wa))
  clear b1 w0 w1 hm hm'
  go_enter Try.func5, Try.ntmps5
  go_wp2_with (first | (go_at_call 11; ((with_reducible refine ((c0 _ (by assumption)).out).mono ?_); rintro e w' ⟨rfl, hk⟩)) | (go_at_call 12; first | ((with_reducible refine ((c1 _ (by assumption)).out).mono ?_); rintro e w' ⟨rfl, hk⟩) | ((with_reducible refine ((c2 _ (by assumption)).out).mono ?_); rintro e w' ⟨rfl, hk⟩) | ((with_reducible refine ((c3 _ (by assumption)).out).mono ?_); rintro e w' ⟨rfl, hk⟩)) | (go_at_call 16; first | ((with_reducible refine ((c4 _ (by assumption)).out).mono ?_); rintro e w' ⟨rfl, hk⟩) | ((with_reducible refine ((c5 _ (by assumption)).out).mono ?_); rintro e w' ⟨rfl, hk⟩) | ((with_reducible refine ((c6 _ (by assumption)).out).mono ?_); rintro e w' ⟨rfl, hk⟩) | ((with_reducible refine ((c7 _ (by assumption)).out).mono ?_); rintro e w' ⟨rfl, hk⟩)) | (go_at_call 18; ((with_reducible refine ((c8 _ (by assumption)).out).mono ?_); rintro e w' ⟨rfl, hk⟩)))
  all_goals
    go_ret
    exact ⟨ret_bool (by simp), by assumption⟩

theorem ring_law (a b : Int) (wa : I32 a) (wb : I32 b) (w : World) :
    Calls Try.prog 5 #[.int .i32 a, .int .i32 b] w fun e w' => e = .returned (.bool true) ∧ Kept w w' := by
  by_cases h1 : 2147483647 < a + b
  · exact ring_over a b _ wa wb h1 rfl w
  · by_cases h2 : a + b < -2147483648
    · exact ring_under a b _ wa wb h2 rfl w
    · exact ring_in a b _ wa wb (by omega) (by omega) rfl w

end Go.Proofs.Ytpcndjmhikigfaa
