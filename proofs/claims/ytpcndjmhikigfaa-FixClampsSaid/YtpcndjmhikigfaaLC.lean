/-
FixClamps: the walk.
-/
import Derived.Test.YtpcndjmhikigfaaFt
namespace Go.Proofs.Ytpcndjmhikigfaa
open Go.RowKit
set_option linter.unusedVariables false

set_option maxRecDepth 100000 in
set_option maxHeartbeats 2000000 in
theorem clamps_over (a l u : Int) (wa : I32 a) (wl : I32 l) (wu : I32 u) (h0 : u < l) (w : World) :
    Calls Try.prog 7 #[.int .i32 a, .int .i32 l, .int .i32 u] w fun e w' => e = .returned (.bool true) ∧ Kept w w' := by
  have hk := Kept.refl w
  have b1 : I32 (u) := by omega
  have c0 := fun (x : World) (h : Kept w x) => Lib.hid (told_t h)
  have c1 := fun (x : World) (h : Kept w x) => Lib.hid (fixclamp_t h a l u (u) wa wl wu (by unfold Fx.clamp; omega))
  have c2 := fun (x : World) (h : Kept w x) => Lib.hid (fixclamp_t h (u) l u (u) b1 wl wu (by unfold Fx.clamp; omega))
  clear b1
  go_enter Try.func7, Try.ntmps7
  go_wp2_with (first | (go_at_call 11; ((with_reducible refine ((c0 _ (by assumption)).out).mono ?_); rintro e w' ⟨rfl, hk⟩)) | (go_at_call 22; first | ((with_reducible refine ((c1 _ (by assumption)).out).mono ?_); rintro e w' ⟨rfl, hk⟩) | ((with_reducible refine ((c2 _ (by assumption)).out).mono ?_); rintro e w' ⟨rfl, hk⟩)))
  all_goals
    go_ret
    exact ⟨ret_bool (by simp), by assumption⟩

set_option maxRecDepth 100000 in
set_option maxHeartbeats 2000000 in
theorem clamps_low (a l u : Int) (wa : I32 a) (wl : I32 l) (wu : I32 u) (h0 : l ≤ u) (h1 : a < l) (w : World) :
    Calls Try.prog 7 #[.int .i32 a, .int .i32 l, .int .i32 u] w fun e w' => e = .returned (.bool true) ∧ Kept w w' := by
  have hk := Kept.refl w
  have b1 : I32 (l) := by omega
  have c0 := fun (x : World) (h : Kept w x) => Lib.hid (told_t h)
  have c1 := fun (x : World) (h : Kept w x) => Lib.hid (fixclamp_t h a l u (l) wa wl wu (by unfold Fx.clamp; omega))
  have c2 := fun (x : World) (h : Kept w x) => Lib.hid (fixclamp_t h (l) l u (l) b1 wl wu (by unfold Fx.clamp; omega))
  clear b1
  go_enter Try.func7, Try.ntmps7
  go_wp2_with (first | (go_at_call 11; ((with_reducible refine ((c0 _ (by assumption)).out).mono ?_); rintro e w' ⟨rfl, hk⟩)) | (go_at_call 22; first | ((with_reducible refine ((c1 _ (by assumption)).out).mono ?_); rintro e w' ⟨rfl, hk⟩) | ((with_reducible refine ((c2 _ (by assumption)).out).mono ?_); rintro e w' ⟨rfl, hk⟩)))
  all_goals
    go_ret
    exact ⟨ret_bool (by simp), by assumption⟩

set_option maxRecDepth 100000 in
set_option maxHeartbeats 2000000 in
theorem clamps_high (a l u : Int) (wa : I32 a) (wl : I32 l) (wu : I32 u) (h0 : l ≤ u) (h1 : u < a) (w : World) :
    Calls Try.prog 7 #[.int .i32 a, .int .i32 l, .int .i32 u] w fun e w' => e = .returned (.bool true) ∧ Kept w w' := by
  have hk := Kept.refl w
  have b1 : I32 (u) := by omega
  have c0 := fun (x : World) (h : Kept w x) => Lib.hid (told_t h)
  have c1 := fun (x : World) (h : Kept w x) => Lib.hid (fixclamp_t h a l u (u) wa wl wu (by unfold Fx.clamp; omega))
  have c2 := fun (x : World) (h : Kept w x) => Lib.hid (fixclamp_t h (u) l u (u) b1 wl wu (by unfold Fx.clamp; omega))
  clear b1
  go_enter Try.func7, Try.ntmps7
  go_wp2_with (first | (go_at_call 11; ((with_reducible refine ((c0 _ (by assumption)).out).mono ?_); rintro e w' ⟨rfl, hk⟩)) | (go_at_call 22; first | ((with_reducible refine ((c1 _ (by assumption)).out).mono ?_); rintro e w' ⟨rfl, hk⟩) | ((with_reducible refine ((c2 _ (by assumption)).out).mono ?_); rintro e w' ⟨rfl, hk⟩)))
  all_goals
    go_ret
    exact ⟨ret_bool (by simp), by assumption⟩

set_option maxRecDepth 100000 in
set_option maxHeartbeats 2000000 in
theorem clamps_mid (a l u : Int) (wa : I32 a) (wl : I32 l) (wu : I32 u) (h0 : l ≤ u) (h1 : l ≤ a) (h2 : a ≤ u) (w : World) :
    Calls Try.prog 7 #[.int .i32 a, .int .i32 l, .int .i32 u] w fun e w' => e = .returned (.bool true) ∧ Kept w w' := by
  have hk := Kept.refl w
  have b1 : I32 (a) := by omega
  have c0 := fun (x : World) (h : Kept w x) => Lib.hid (told_t h)
  have c1 := fun (x : World) (h : Kept w x) => Lib.hid (fixclamp_t h a l u (a) wa wl wu (by unfold Fx.clamp; omega))
  have c2 := fun (x : World) (h : Kept w x) => Lib.hid (fixclamp_t h (a) l u (a) b1 wl wu (by unfold Fx.clamp; omega))
  clear b1
  go_enter Try.func7, Try.ntmps7
  go_wp2_with (first | (go_at_call 11; ((with_reducible refine ((c0 _ (by assumption)).out).mono ?_); rintro e w' ⟨rfl, hk⟩)) | (go_at_call 22; first | ((with_reducible refine ((c1 _ (by assumption)).out).mono ?_); rintro e w' ⟨rfl, hk⟩) | ((with_reducible refine ((c2 _ (by assumption)).out).mono ?_); rintro e w' ⟨rfl, hk⟩)))
  all_goals
    go_ret
    exact ⟨ret_bool (by simp), by assumption⟩

theorem clamps_law (a l u : Int) (wa : I32 a) (wl : I32 l) (wu : I32 u) (w : World) :
    Calls Try.prog 7 #[.int .i32 a, .int .i32 l, .int .i32 u] w fun e w' => e = .returned (.bool true) ∧ Kept w w' := by
  by_cases h0 : u < l
  · exact clamps_over a l u wa wl wu h0 w
  · by_cases h1 : a < l
    · exact clamps_low a l u wa wl wu (by omega) h1 w
    · by_cases h2 : u < a
      · exact clamps_high a l u wa wl wu (by omega) h2 w
      · exact clamps_mid a l u wa wl wu (by omega) (by omega) (by omega) w

end Go.Proofs.Ytpcndjmhikigfaa
