/-
The contracts of package fix: whole numbers.
-/
import Derived.Test.YtpcndjmhikigfaaRows
import Derived.Test.YtpcndjmhikigfaaFx
import Derived.WalkKit
import Derived.WalkSpells
import Derived.WalkLawsBesides
import Derived.Lib.Hide
namespace Go.Proofs.Ytpcndjmhikigfaa
open Go.RowKit
set_option linter.unusedVariables false

theorem ret_i32 {a b : Int} (h : a = b) : Ending.returned (.int .i32 a) = .returned (.int .i32 b) := by rw [h]
theorem ret_bool {a b : Bool} (h : a = b) : Ending.returned (.bool a) = .returned (.bool b) := by rw [h]

theorem two_below (w : World) (o1 o2 : Obj) : Below w.heap.size w ((w.alloc o1).alloc o2) := ((Below.refl _ _).alloc (Nat.le_refl _) _).alloc (by simp) _

set_option maxHeartbeats 400000 in
theorem fixcut_any (v : Int) (h : -9223372036854775808 ≤ v) (h' : v ≤ 9223372036854775807) (w : World) :
    Calls Try.prog 30 #[.int .i64 v] w fun e w' => e = .returned (.int .i32 (Fx.cut v)) ∧ Below w.heap.size w w' := by
  have hmf : ∀ (fn : Fn) (first cap : Array Value) (w : World), (Instr.makeFunc fn first cap).run Try.prog w = .ok (.func fn first cap) w := fun _ _ _ _ => rfl
  go_enter Try.func30, Try.ntmps30
  go_wp2
  all_goals
    go_ret
    exact ⟨ret_i32 (by unfold Fx.cut; omega), two_below _ _ _⟩

set_option maxHeartbeats 400000 in
theorem refcut_any (v : Int) (h : -9223372036854775808 ≤ v) (h' : v ≤ 9223372036854775807) (w : World) :
    Calls Try.prog 31 #[.int .i64 v] w fun e w' => e = .returned (.int .i32 (Fx.cut v)) ∧ w = w' := by
  go_enter Try.func31, Try.ntmps31
  go_wp2
  all_goals
    go_ret
    exact ⟨ret_i32 (by unfold Fx.cut; omega), rfl⟩

set_option maxHeartbeats 400000 in
theorem clamp_any (a lo hi : Int) (wa : -2147483648 ≤ a ∧ a ≤ 2147483647) (wl : -2147483648 ≤ lo ∧ lo ≤ 2147483647) (wh : -2147483648 ≤ hi ∧ hi ≤ 2147483647) (w : World) :
    Calls Try.prog 22 #[.int .i32 a, .int .i32 lo, .int .i32 hi] w fun e w' => e = .returned (.int .i32 (Fx.clamp a lo hi)) ∧ Below w.heap.size w w' := by
  have hmf : ∀ (fn : Fn) (first cap : Array Value) (w : World), (Instr.makeFunc fn first cap).run Try.prog w = .ok (.func fn first cap) w := fun _ _ _ _ => rfl
  go_enter Try.func22, Try.ntmps22
  go_wp2
  all_goals
    go_ret
    exact ⟨ret_i32 (by unfold Fx.clamp; omega), two_below _ _ _⟩

set_option maxHeartbeats 400000 in
theorem refclamp_any (a lo hi : Int) (wa : -2147483648 ≤ a ∧ a ≤ 2147483647) (wl : -2147483648 ≤ lo ∧ lo ≤ 2147483647) (wh : -2147483648 ≤ hi ∧ hi ≤ 2147483647) (w : World) :
    Calls Try.prog 23 #[.int .i32 a, .int .i32 lo, .int .i32 hi] w fun e w' => e = .returned (.int .i32 (Fx.clamp a lo hi)) ∧ w = w' := by
  go_enter Try.func23, Try.ntmps23
  go_wp2
  all_goals
    go_ret
    exact ⟨ret_i32 (by unfold Fx.clamp; omega), rfl⟩

set_option maxHeartbeats 400000 in
theorem fixadd_any (a b : Int) (wa : -2147483648 ≤ a ∧ a ≤ 2147483647) (wb : -2147483648 ≤ b ∧ b ≤ 2147483647) (w : World) :
    Calls Try.prog 12 #[.int .i32 a, .int .i32 b] w fun e w' => e = .returned (.int .i32 (Fx.cut (a + b))) ∧ Below w.heap.size w w' := by
  go_enter Try.func12, Try.ntmps12
  go_wp2_with fail
  refine (fixcut_any _ (by omega) (by omega) _).mono ?_
  rintro e w1 ⟨rfl, hb⟩
  go_wp2_with fail
  go_ret
  exact ⟨rfl, by assumption⟩

set_option maxHeartbeats 400000 in
theorem fixsub_any (a b : Int) (wa : -2147483648 ≤ a ∧ a ≤ 2147483647) (wb : -2147483648 ≤ b ∧ b ≤ 2147483647) (w : World) :
    Calls Try.prog 14 #[.int .i32 a, .int .i32 b] w fun e w' => e = .returned (.int .i32 (Fx.cut (a - b))) ∧ Below w.heap.size w w' := by
  go_enter Try.func14, Try.ntmps14
  go_wp2_with fail
  refine (fixcut_any _ (by omega) (by omega) _).mono ?_
  rintro e w1 ⟨rfl, hb⟩
  go_wp2_with fail
  go_ret
  exact ⟨rfl, by assumption⟩

set_option maxHeartbeats 400000 in
theorem fixmul_any (a b : Int) (wa : -2147483648 ≤ a ∧ a ≤ 2147483647) (wb : -2147483648 ≤ b ∧ b ≤ 2147483647) (w : World) :
    Calls Try.prog 16 #[.int .i32 a, .int .i32 b] w fun e w' => e = .returned (.int .i32 (Fx.mul a b)) ∧ Below w.heap.size w w' := by
  have hp := Fx.prod_bd wa wb
  have hq := Fx.tdiv_bd (a := a * b) (b := 65536) 4611686018427387904 (by omega)
  go_enter Try.func16, Try.ntmps16
  go_wp2_with fail
  refine (fixcut_any _ (by omega) (by omega) _).mono ?_
  rintro e w1 ⟨rfl, hb⟩
  go_wp2_with fail
  go_ret
  exact ⟨rfl, by assumption⟩

set_option maxHeartbeats 400000 in
theorem fixdiv_num (a b : Int) (hz : (b != 0) = true) (wa : -2147483648 ≤ a ∧ a ≤ 2147483647) (wb : -2147483648 ≤ b ∧ b ≤ 2147483647) (w : World) :
    Calls Try.prog 18 #[.int .i32 a, .int .i32 b] w fun e w' => e = .returned (.int .i32 (Fx.div a b)) ∧ Below w.heap.size w w' := by
  have hq := Fx.tdiv_bd (a := a * 65536) (b := b) 140737488355328 (by omega)
  have hb0 : b ≠ 0 := by simpa using hz
  have hd : Fx.div a b = Fx.cut ((a * 65536).tdiv b) := by unfold Fx.div; rw [if_neg hb0]
  have hd' := Lib.hid hd
  clear hd
  go_enter Try.func18, Try.ntmps18
  go_wp2_with fail
  refine (fixcut_any _ (by omega) (by omega) _).mono ?_
  rintro e w1 ⟨rfl, hb⟩
  go_wp2_with fail
  go_ret
  exact ⟨ret_i32 hd'.out.symm, by assumption⟩

set_option maxHeartbeats 400000 in
theorem fixdiv_zero (a : Int) (wa : -2147483648 ≤ a ∧ a ≤ 2147483647) (w : World) :
    Calls Try.prog 18 #[.int .i32 a, .int .i32 0] w fun e w' => e = .returned (.int .i32 (Fx.div a 0)) ∧ Below w.heap.size w w' := by
  go_enter Try.func18, Try.ntmps18
  go_wp2_with fail
  all_goals
    go_ret
    exact ⟨ret_i32 (by unfold Fx.div; rw [if_pos rfl]; (repeat' split) <;> omega), Below.refl _ _⟩

theorem fixdiv_any (a b : Int) (wa : -2147483648 ≤ a ∧ a ≤ 2147483647) (wb : -2147483648 ≤ b ∧ b ≤ 2147483647) (w : World) :
    Calls Try.prog 18 #[.int .i32 a, .int .i32 b] w fun e w' => e = .returned (.int .i32 (Fx.div a b)) ∧ Below w.heap.size w w' := by
  by_cases h : b = 0
  · subst h; exact fixdiv_zero a wa w
  · exact fixdiv_num a b (by simpa using h) wa wb w

set_option maxHeartbeats 400000 in
theorem refadd_any (a b : Int) (wa : -2147483648 ≤ a ∧ a ≤ 2147483647) (wb : -2147483648 ≤ b ∧ b ≤ 2147483647) (w : World) :
    Calls Try.prog 13 #[.int .i32 a, .int .i32 b] w fun e w' => e = .returned (.int .i32 (Fx.cut (a + b))) ∧ w = w' := by
  go_enter Try.func13, Try.ntmps13
  go_wp2_with fail
  refine (refcut_any _ (by omega) (by omega) _).mono ?_
  rintro e w1 ⟨rfl, rfl⟩
  go_wp2_with fail
  go_ret
  exact ⟨rfl, rfl⟩

set_option maxHeartbeats 400000 in
theorem refsub_any (a b : Int) (wa : -2147483648 ≤ a ∧ a ≤ 2147483647) (wb : -2147483648 ≤ b ∧ b ≤ 2147483647) (w : World) :
    Calls Try.prog 15 #[.int .i32 a, .int .i32 b] w fun e w' => e = .returned (.int .i32 (Fx.cut (a - b))) ∧ w = w' := by
  go_enter Try.func15, Try.ntmps15
  go_wp2_with fail
  refine (refcut_any _ (by omega) (by omega) _).mono ?_
  rintro e w1 ⟨rfl, rfl⟩
  go_wp2_with fail
  go_ret
  exact ⟨rfl, rfl⟩

set_option maxHeartbeats 400000 in
theorem refmul_any (a b : Int) (wa : -2147483648 ≤ a ∧ a ≤ 2147483647) (wb : -2147483648 ≤ b ∧ b ≤ 2147483647) (w : World) :
    Calls Try.prog 17 #[.int .i32 a, .int .i32 b] w fun e w' => e = .returned (.int .i32 (Fx.mul a b)) ∧ w = w' := by
  have hp := Fx.prod_bd wa wb
  have hq := Fx.tdiv_bd (a := a * b) (b := 65536) 4611686018427387904 (by omega)
  go_enter Try.func17, Try.ntmps17
  go_wp2_with fail
  refine (refcut_any _ (by omega) (by omega) _).mono ?_
  rintro e w1 ⟨rfl, rfl⟩
  go_wp2_with fail
  go_ret
  exact ⟨rfl, rfl⟩

set_option maxHeartbeats 400000 in
theorem refdiv_num (a b : Int) (hz : (b != 0) = true) (wa : -2147483648 ≤ a ∧ a ≤ 2147483647) (wb : -2147483648 ≤ b ∧ b ≤ 2147483647) (w : World) :
    Calls Try.prog 19 #[.int .i32 a, .int .i32 b] w fun e w' => e = .returned (.int .i32 (Fx.div a b)) ∧ w = w' := by
  have hq := Fx.tdiv_bd (a := a * 65536) (b := b) 140737488355328 (by omega)
  have hb0 : b ≠ 0 := by simpa using hz
  have hd : Fx.div a b = Fx.cut ((a * 65536).tdiv b) := by unfold Fx.div; rw [if_neg hb0]
  have hd' := Lib.hid hd
  clear hd
  go_enter Try.func19, Try.ntmps19
  go_wp2_with fail
  refine (refcut_any _ (by omega) (by omega) _).mono ?_
  rintro e w1 ⟨rfl, rfl⟩
  go_wp2_with fail
  go_ret
  exact ⟨ret_i32 hd'.out.symm, rfl⟩

set_option maxHeartbeats 400000 in
theorem refdiv_zero (a : Int) (wa : -2147483648 ≤ a ∧ a ≤ 2147483647) (w : World) :
    Calls Try.prog 19 #[.int .i32 a, .int .i32 0] w fun e w' => e = .returned (.int .i32 (Fx.div a 0)) ∧ w = w' := by
  go_enter Try.func19, Try.ntmps19
  go_wp2_with fail
  all_goals
    go_ret
    exact ⟨ret_i32 (by unfold Fx.div; rw [if_pos rfl]; (repeat' split) <;> omega), rfl⟩

theorem refdiv_any (a b : Int) (wa : -2147483648 ≤ a ∧ a ≤ 2147483647) (wb : -2147483648 ≤ b ∧ b ≤ 2147483647) (w : World) :
    Calls Try.prog 19 #[.int .i32 a, .int .i32 b] w fun e w' => e = .returned (.int .i32 (Fx.div a b)) ∧ w = w' := by
  by_cases h : b = 0
  · subst h; exact refdiv_zero a wa w
  · exact refdiv_num a b (by simpa using h) wa wb w
end Go.Proofs.Ytpcndjmhikigfaa
