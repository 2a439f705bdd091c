/-
The contracts of package fix: what is cut, clamped, added (a part of Fw, over Kp).
-/
import Derived.Test.YtbihnmingedgfaaKp
import Derived.Test.YtbihnmingedgfaaFx
namespace Go.Proofs.Ytbihnmingedgfaa
open Go.RowKit
set_option linter.unusedVariables false

theorem ret_i32 {a b : Int} (h : a = b) : Ending.returned (.int .i32 a) = .returned (.int .i32 b) := by rw [h]
theorem two_below (w : World) (o1 o2 : Obj) : Below w.heap.size w ((w.alloc o1).alloc o2) := ((Below.refl _ _).alloc (Nat.le_refl _) _).alloc (by simp) _

set_option maxHeartbeats 400000 in
theorem fixcut_any (v : Int) (h : -9223372036854775808 ≤ v) (h' : v ≤ 9223372036854775807) (w : World) :
    Calls Try.prog 121 #[.int .i64 v] w fun e w' => e = .returned (.int .i32 (Fx.cut v)) ∧ Below w.heap.size w w' := by
  have hmf : ∀ (fn : Fn) (first cap : Array Value) (w : World), (Instr.makeFunc fn first cap).run Try.prog w = .ok (.func fn first cap) w := fun _ _ _ _ => rfl
  go_enter Try.func121, Try.ntmps121
  go_wp2
  all_goals
    go_ret
    exact ⟨ret_i32 (by unfold Fx.cut; omega), two_below _ _ _⟩

set_option maxHeartbeats 400000 in
theorem refcut_any (v : Int) (h : -9223372036854775808 ≤ v) (h' : v ≤ 9223372036854775807) (w : World) :
    Calls Try.prog 148 #[.int .i64 v] w fun e w' => e = .returned (.int .i32 (Fx.cut v)) ∧ w = w' := by
  go_enter Try.func148, Try.ntmps148
  go_wp2
  all_goals
    go_ret
    exact ⟨ret_i32 (by unfold Fx.cut; omega), rfl⟩

set_option maxHeartbeats 400000 in
theorem clamp_any (a lo hi : Int) (wa : -2147483648 ≤ a ∧ a ≤ 2147483647) (wl : -2147483648 ≤ lo ∧ lo ≤ 2147483647) (wh : -2147483648 ≤ hi ∧ hi ≤ 2147483647) (w : World) :
    Calls Try.prog 72 #[.int .i32 a, .int .i32 lo, .int .i32 hi] w fun e w' => e = .returned (.int .i32 (Fx.clamp a lo hi)) ∧ Below w.heap.size w w' := by
  have hmf : ∀ (fn : Fn) (first cap : Array Value) (w : World), (Instr.makeFunc fn first cap).run Try.prog w = .ok (.func fn first cap) w := fun _ _ _ _ => rfl
  go_enter Try.func72, Try.ntmps72
  go_wp2
  all_goals
    go_ret
    exact ⟨ret_i32 (by unfold Fx.clamp; omega), two_below _ _ _⟩

set_option maxHeartbeats 400000 in
theorem refclamp_any (a lo hi : Int) (wa : -2147483648 ≤ a ∧ a ≤ 2147483647) (wl : -2147483648 ≤ lo ∧ lo ≤ 2147483647) (wh : -2147483648 ≤ hi ∧ hi ≤ 2147483647) (w : World) :
    Calls Try.prog 114 #[.int .i32 a, .int .i32 lo, .int .i32 hi] w fun e w' => e = .returned (.int .i32 (Fx.clamp a lo hi)) ∧ w = w' := by
  go_enter Try.func114, Try.ntmps114
  go_wp2
  all_goals
    go_ret
    exact ⟨ret_i32 (by unfold Fx.clamp; omega), rfl⟩

set_option maxHeartbeats 400000 in
theorem fixadd_any (a b : Int) (wa : -2147483648 ≤ a ∧ a ≤ 2147483647) (wb : -2147483648 ≤ b ∧ b ≤ 2147483647) (w : World) :
    Calls Try.prog 73 #[.int .i32 a, .int .i32 b] w fun e w' => e = .returned (.int .i32 (Fx.cut (a + b))) ∧ Below w.heap.size w w' := by
  go_enter Try.func73, Try.ntmps73
  go_wp2_with fail
  refine (fixcut_any _ (by omega) (by omega) _).mono ?_
  rintro e w1 ⟨rfl, hb⟩
  go_wp2_with fail
  go_ret
  exact ⟨rfl, by assumption⟩

set_option maxHeartbeats 400000 in
theorem refadd_any (a b : Int) (wa : -2147483648 ≤ a ∧ a ≤ 2147483647) (wb : -2147483648 ≤ b ∧ b ≤ 2147483647) (w : World) :
    Calls Try.prog 115 #[.int .i32 a, .int .i32 b] w fun e w' => e = .returned (.int .i32 (Fx.cut (a + b))) ∧ w = w' := by
  go_enter Try.func115, Try.ntmps115
  go_wp2_with fail
  refine (refcut_any _ (by omega) (by omega) _).mono ?_
  rintro e w1 ⟨rfl, rfl⟩
  go_wp2_with fail
  go_ret
  exact ⟨rfl, rfl⟩

end Go.Proofs.Ytbihnmingedgfaa
