/-
CurveOrder: the walk.
-/
import Derived.Test.YtdddpnjamgbcmaaCt
namespace Go.Proofs.Ytdddpnjamgbcmaa
open Go.RowKit
set_option linter.unusedVariables false

set_option maxRecDepth 100000 in
set_option maxHeartbeats 2000000 in
theorem order_up1 (a b c : Nat) (wa : a < 2 ^ 64) (wb : b < 2 ^ 64) (h1 : Cv.less a b = true) (h2 : Cv.less b a = false) (h3 : Cv.same a b = false) (h4 : Cv.less b c = false) (w : World) :
    Calls Try.prog 4 #[.float .f64 a, .float .f64 b, .float .f64 c] w fun e w' => e = .returned (.bool true) ∧ Kept w w' := by
  have hk := Kept.refl w
  have c0 := fun (X : World) (hX : Kept w X) => Lib.hid (told_t hX)
  have c1 := fun (X : World) (hX : Kept w X) => Lib.hid (less_t hX a b _ h1)
  have c2 := fun (X : World) (hX : Kept w X) => Lib.hid (less_t hX b a _ h2)
  have c3 := fun (X : World) (hX : Kept w X) => Lib.hid (same_t hX a b _ wa wb h3)
  have c6 := fun (X : World) (hX : Kept w X) => Lib.hid (less_t hX a a false (decide_eq_false (by omega)))
  have c7 := fun (X : World) (hX : Kept w X) => Lib.hid (same_t hX a a true wa wa (Cv.same_self a))
  have c4 := fun (X : World) (hX : Kept w X) => Lib.hid (less_t hX b c _ h4)
  clear h1 h2 h3 wa wb h4
  go_enter Try.func4, Try.ntmps4
  go_wp2_with (first | (go_at_call 11; ((with_reducible refine ((c0 _ (by assumption)).out).mono ?_); rintro e w' ⟨rfl, hk⟩)) | (go_at_call 14; first | ((with_reducible refine ((c1 _ (by assumption)).out).mono ?_); rintro e w' ⟨rfl, hk⟩) | ((with_reducible refine ((c2 _ (by assumption)).out).mono ?_); rintro e w' ⟨rfl, hk⟩) | ((with_reducible refine ((c6 _ (by assumption)).out).mono ?_); rintro e w' ⟨rfl, hk⟩) | ((with_reducible refine ((c4 _ (by assumption)).out).mono ?_); rintro e w' ⟨rfl, hk⟩)) | (go_at_call 12; first | ((with_reducible refine ((c3 _ (by assumption)).out).mono ?_); rintro e w' ⟨rfl, hk⟩) | ((with_reducible refine ((c7 _ (by assumption)).out).mono ?_); rintro e w' ⟨rfl, hk⟩)))
  all_goals
    go_ret
    exact ⟨ret_bool (by simp), by assumption⟩

set_option maxRecDepth 100000 in
set_option maxHeartbeats 2000000 in
theorem order_up2 (a b c : Nat) (wa : a < 2 ^ 64) (wb : b < 2 ^ 64) (h1 : Cv.less a b = true) (h2 : Cv.less b a = false) (h3 : Cv.same a b = false) (h4 : Cv.less b c = true) (h5 : Cv.less a c = true) (w : World) :
    Calls Try.prog 4 #[.float .f64 a, .float .f64 b, .float .f64 c] w fun e w' => e = .returned (.bool true) ∧ Kept w w' := by
  have hk := Kept.refl w
  have c0 := fun (X : World) (hX : Kept w X) => Lib.hid (told_t hX)
  have c1 := fun (X : World) (hX : Kept w X) => Lib.hid (less_t hX a b _ h1)
  have c2 := fun (X : World) (hX : Kept w X) => Lib.hid (less_t hX b a _ h2)
  have c3 := fun (X : World) (hX : Kept w X) => Lib.hid (same_t hX a b _ wa wb h3)
  have c6 := fun (X : World) (hX : Kept w X) => Lib.hid (less_t hX a a false (decide_eq_false (by omega)))
  have c7 := fun (X : World) (hX : Kept w X) => Lib.hid (same_t hX a a true wa wa (Cv.same_self a))
  have c4 := fun (X : World) (hX : Kept w X) => Lib.hid (less_t hX b c _ h4)
  have c5 := fun (X : World) (hX : Kept w X) => Lib.hid (less_t hX a c _ h5)
  clear h1 h2 h3 wa wb h4 h5
  go_enter Try.func4, Try.ntmps4
  go_wp2_with (first | (go_at_call 11; ((with_reducible refine ((c0 _ (by assumption)).out).mono ?_); rintro e w' ⟨rfl, hk⟩)) | (go_at_call 14; first | ((with_reducible refine ((c1 _ (by assumption)).out).mono ?_); rintro e w' ⟨rfl, hk⟩) | ((with_reducible refine ((c2 _ (by assumption)).out).mono ?_); rintro e w' ⟨rfl, hk⟩) | ((with_reducible refine ((c6 _ (by assumption)).out).mono ?_); rintro e w' ⟨rfl, hk⟩) | ((with_reducible refine ((c4 _ (by assumption)).out).mono ?_); rintro e w' ⟨rfl, hk⟩) | ((with_reducible refine ((c5 _ (by assumption)).out).mono ?_); rintro e w' ⟨rfl, hk⟩)) | (go_at_call 12; first | ((with_reducible refine ((c3 _ (by assumption)).out).mono ?_); rintro e w' ⟨rfl, hk⟩) | ((with_reducible refine ((c7 _ (by assumption)).out).mono ?_); rintro e w' ⟨rfl, hk⟩)))
  all_goals
    go_ret
    exact ⟨ret_bool (by simp), by assumption⟩

set_option maxRecDepth 100000 in
set_option maxHeartbeats 2000000 in
theorem order_down (a b c : Nat) (wa : a < 2 ^ 64) (wb : b < 2 ^ 64) (h1 : Cv.less a b = false) (h2 : Cv.less b a = true) (h3 : Cv.same a b = false) (w : World) :
    Calls Try.prog 4 #[.float .f64 a, .float .f64 b, .float .f64 c] w fun e w' => e = .returned (.bool true) ∧ Kept w w' := by
  have hk := Kept.refl w
  have c0 := fun (X : World) (hX : Kept w X) => Lib.hid (told_t hX)
  have c1 := fun (X : World) (hX : Kept w X) => Lib.hid (less_t hX a b _ h1)
  have c2 := fun (X : World) (hX : Kept w X) => Lib.hid (less_t hX b a _ h2)
  have c3 := fun (X : World) (hX : Kept w X) => Lib.hid (same_t hX a b _ wa wb h3)
  have c6 := fun (X : World) (hX : Kept w X) => Lib.hid (less_t hX a a false (decide_eq_false (by omega)))
  have c7 := fun (X : World) (hX : Kept w X) => Lib.hid (same_t hX a a true wa wa (Cv.same_self a))
  clear h1 h2 h3 wa wb
  go_enter Try.func4, Try.ntmps4
  go_wp2_with (first | (go_at_call 11; ((with_reducible refine ((c0 _ (by assumption)).out).mono ?_); rintro e w' ⟨rfl, hk⟩)) | (go_at_call 14; first | ((with_reducible refine ((c1 _ (by assumption)).out).mono ?_); rintro e w' ⟨rfl, hk⟩) | ((with_reducible refine ((c2 _ (by assumption)).out).mono ?_); rintro e w' ⟨rfl, hk⟩) | ((with_reducible refine ((c6 _ (by assumption)).out).mono ?_); rintro e w' ⟨rfl, hk⟩)) | (go_at_call 12; first | ((with_reducible refine ((c3 _ (by assumption)).out).mono ?_); rintro e w' ⟨rfl, hk⟩) | ((with_reducible refine ((c7 _ (by assumption)).out).mono ?_); rintro e w' ⟨rfl, hk⟩)))
  all_goals
    go_ret
    exact ⟨ret_bool (by simp), by assumption⟩

set_option maxRecDepth 100000 in
set_option maxHeartbeats 2000000 in
theorem order_same (a b c : Nat) (wa : a < 2 ^ 64) (wb : b < 2 ^ 64) (h1 : Cv.less a b = false) (h2 : Cv.less b a = false) (h3 : Cv.same a b = true) (w : World) :
    Calls Try.prog 4 #[.float .f64 a, .float .f64 b, .float .f64 c] w fun e w' => e = .returned (.bool true) ∧ Kept w w' := by
  have hk := Kept.refl w
  have c0 := fun (X : World) (hX : Kept w X) => Lib.hid (told_t hX)
  have c1 := fun (X : World) (hX : Kept w X) => Lib.hid (less_t hX a b _ h1)
  have c2 := fun (X : World) (hX : Kept w X) => Lib.hid (less_t hX b a _ h2)
  have c3 := fun (X : World) (hX : Kept w X) => Lib.hid (same_t hX a b _ wa wb h3)
  have c6 := fun (X : World) (hX : Kept w X) => Lib.hid (less_t hX a a false (decide_eq_false (by omega)))
  have c7 := fun (X : World) (hX : Kept w X) => Lib.hid (same_t hX a a true wa wa (Cv.same_self a))
  clear h1 h2 h3 wa wb
  go_enter Try.func4, Try.ntmps4
  go_wp2_with (first | (go_at_call 11; ((with_reducible refine ((c0 _ (by assumption)).out).mono ?_); rintro e w' ⟨rfl, hk⟩)) | (go_at_call 14; first | ((with_reducible refine ((c1 _ (by assumption)).out).mono ?_); rintro e w' ⟨rfl, hk⟩) | ((with_reducible refine ((c2 _ (by assumption)).out).mono ?_); rintro e w' ⟨rfl, hk⟩) | ((with_reducible refine ((c6 _ (by assumption)).out).mono ?_); rintro e w' ⟨rfl, hk⟩)) | (go_at_call 12; first | ((with_reducible refine ((c3 _ (by assumption)).out).mono ?_); rintro e w' ⟨rfl, hk⟩) | ((with_reducible refine ((c7 _ (by assumption)).out).mono ?_); rintro e w' ⟨rfl, hk⟩)))
  all_goals
    go_ret
    exact ⟨ret_bool (by simp), by assumption⟩

theorem order_law (a b c : Nat) (wa : a < 2 ^ 64) (wb : b < 2 ^ 64) (w : World) :
    Calls Try.prog 4 #[.float .f64 a, .float .f64 b, .float .f64 c] w fun e w' => e = .returned (.bool true) ∧ Kept w w' := by
  have hs : Cv.same a b = false ∨ Cv.rank a = Cv.rank b := by
    cases h : Cv.same a b
    · exact Or.inl rfl
    · exact Or.inr (Cv.same_rank h)
  have hl : ∀ x y, Cv.less x y = decide (Cv.rank x < Cv.rank y) := fun _ _ => rfl
  by_cases c1 : Cv.rank a < Cv.rank b
  · have k1 := (hl a b).trans (decide_eq_true c1)
    have k2 := (hl b a).trans (decide_eq_false (by omega))
    have k3 : Cv.same a b = false := by rcases hs with h | h; exact h; omega
    by_cases c2 : Cv.rank b < Cv.rank c
    · exact order_up2 a b c wa wb k1 k2 k3 ((hl b c).trans (decide_eq_true c2)) ((hl a c).trans (decide_eq_true (by omega))) w
    · exact order_up1 a b c wa wb k1 k2 k3 ((hl b c).trans (decide_eq_false c2)) w
  · have k1 := (hl a b).trans (decide_eq_false c1)
    by_cases c2 : Cv.rank b < Cv.rank a
    · have k3 : Cv.same a b = false := by rcases hs with h | h; exact h; omega
      exact order_down a b c wa wb k1 ((hl b a).trans (decide_eq_true c2)) k3 w
    · exact order_same a b c wa wb k1 ((hl b a).trans (decide_eq_false c2)) (Cv.rank_inj wa wb (by omega)) w

end Go.Proofs.Ytdddpnjamgbcmaa
