/-
CurveAsks: the walk.
-/
import Derived.Test.YtdddpnjamgbcmaaCt
namespace Go.Proofs.Ytdddpnjamgbcmaa
open Go.RowKit
set_option linter.unusedVariables false

theorem refsame_t {v w : World} (hb : Kept v w) (a b : Nat) (n : Bool)  (h : Cv.same a b = n) :
    Calls Try.prog 13 #[.float .f64 a, .float .f64 b] w fun e w' => e = .returned (.bool n) ∧ Kept v w' := by
  rw [← h]; exact on_same hb (refsame_any a b w)

theorem refless_t {v w : World} (hb : Kept v w) (a b : Nat) (n : Bool) (wa : a < 2 ^ 64)(wb : b < 2 ^ 64) (h : Cv.less a b = n) :
    Calls Try.prog 15 #[.float .f64 a, .float .f64 b] w fun e w' => e = .returned (.bool n) ∧ Kept v w' := by
  rw [← h]; exact on_same hb (refless_any wa wb w)

theorem refunit_t {v w : World} (hb : Kept v w) (t : Nat) (n : Nat)  (h : Cv.unit t = n) :
    Calls Try.prog 17 #[.float .f64 t] w fun e w' => e = .returned (.float .f64 n) ∧ Kept v w' := by
  rw [← h]; exact on_same hb (refunit_any t w)

theorem refmix_t {v w : World} (hb : Kept v w) (a b t : Nat) (n : Nat)  (h : Cv.mix a b t = n) :
    Calls Try.prog 19 #[.float .f64 a, .float .f64 b, .float .f64 t] w fun e w' => e = .returned (.float .f64 n) ∧ Kept v w' := by
  rw [← h]; exact on_below hb (refmix_any a b t w)

theorem refease_t {v w : World} (hb : Kept v w) (t : Nat) (n : Nat)  (h : Cv.ease t = n) :
    Calls Try.prog 21 #[.float .f64 t] w fun e w' => e = .returned (.float .f64 n) ∧ Kept v w' := by
  rw [← h]; exact on_same hb (refease_any t w)

theorem refturn_t {v w : World} (hb : Kept v w) (a : Nat) (n : Nat)  (h : Cv.turn a = n) :
    Calls Try.prog 23 #[.float .f64 a] w fun e w' => e = .returned (.float .f64 n) ∧ Kept v w' := by
  rw [← h]; exact on_same hb (refturn_any w)

set_option maxRecDepth 100000 in
set_option maxHeartbeats 2000000 in
theorem asks_walk (a b t : Nat) (s l : Bool) (u m f r : Nat) (wa : a < 2 ^ 64) (wb : b < 2 ^ 64)
    (h1 : Cv.same a b = s) (h2 : Cv.less a b = l) (h3 : Cv.unit t = u) (h4 : Cv.mix a b t = m) (h5 : Cv.ease t = f) (h6 : Cv.turn a = r) (w : World) :
    Calls Try.prog 3 #[.float .f64 a, .float .f64 b, .float .f64 t] w fun e w' => e = .returned (.bool true) ∧ Kept w w' := by
  have hk := Kept.refl w
  have c0 := fun (X : World) (hX : Kept w X) => Lib.hid (told_t hX)
  have c1 := fun (X : World) (hX : Kept w X) => Lib.hid (same_t hX _ _ s wa wb h1)
  have d1 := fun (X : World) (hX : Kept w X) => Lib.hid (refsame_t hX _ _ s h1)
  have c2 := fun (X : World) (hX : Kept w X) => Lib.hid (less_t hX _ _ l h2)
  have d2 := fun (X : World) (hX : Kept w X) => Lib.hid (refless_t hX _ _ l wa wb h2)
  have c3 := fun (X : World) (hX : Kept w X) => Lib.hid (unit_t hX _ u h3)
  have d3 := fun (X : World) (hX : Kept w X) => Lib.hid (refunit_t hX _ u h3)
  have c4 := fun (X : World) (hX : Kept w X) => Lib.hid (mix_t hX _ _ _ m h4)
  have d4 := fun (X : World) (hX : Kept w X) => Lib.hid (refmix_t hX _ _ _ m h4)
  have c5 := fun (X : World) (hX : Kept w X) => Lib.hid (ease_t hX _ f h5)
  have d5 := fun (X : World) (hX : Kept w X) => Lib.hid (refease_t hX _ f h5)
  have c6 := fun (X : World) (hX : Kept w X) => Lib.hid (turn_t hX _ r wa h6)
  have d6 := fun (X : World) (hX : Kept w X) => Lib.hid (refturn_t hX _ r h6)
  have q0 := fun (X : World) (hX : Kept w X) => Lib.hid (refsame_t hX u u true (Cv.same_self _))
  have q1 := fun (X : World) (hX : Kept w X) => Lib.hid (refsame_t hX m m true (Cv.same_self _))
  have q2 := fun (X : World) (hX : Kept w X) => Lib.hid (refsame_t hX f f true (Cv.same_self _))
  have q3 := fun (X : World) (hX : Kept w X) => Lib.hid (refsame_t hX r r true (Cv.same_self _))
  clear h1 h2 h3 h4 h5 h6
  go_enter Try.func3, Try.ntmps3
  go_wp2_with (first | (go_at_call 11; ((with_reducible refine ((c0 _ (by assumption)).out).mono ?_); rintro e w' ⟨rfl, hk⟩)) | (go_at_call 12; ((with_reducible refine ((c1 _ (by assumption)).out).mono ?_); rintro e w' ⟨rfl, hk⟩)) | (go_at_call 14; ((with_reducible refine ((c2 _ (by assumption)).out).mono ?_); rintro e w' ⟨rfl, hk⟩)) | (go_at_call 15; ((with_reducible refine ((d2 _ (by assumption)).out).mono ?_); rintro e w' ⟨rfl, hk⟩)) | (go_at_call 16; ((with_reducible refine ((c3 _ (by assumption)).out).mono ?_); rintro e w' ⟨rfl, hk⟩)) | (go_at_call 17; ((with_reducible refine ((d3 _ (by assumption)).out).mono ?_); rintro e w' ⟨rfl, hk⟩)) | (go_at_call 18; ((with_reducible refine ((c4 _ (by assumption)).out).mono ?_); rintro e w' ⟨rfl, hk⟩)) | (go_at_call 19; ((with_reducible refine ((d4 _ (by assumption)).out).mono ?_); rintro e w' ⟨rfl, hk⟩)) | (go_at_call 20; ((with_reducible refine ((c5 _ (by assumption)).out).mono ?_); rintro e w' ⟨rfl, hk⟩)) | (go_at_call 21; ((with_reducible refine ((d5 _ (by assumption)).out).mono ?_); rintro e w' ⟨rfl, hk⟩)) | (go_at_call 22; ((with_reducible refine ((c6 _ (by assumption)).out).mono ?_); rintro e w' ⟨rfl, hk⟩)) | (go_at_call 23; ((with_reducible refine ((d6 _ (by assumption)).out).mono ?_); rintro e w' ⟨rfl, hk⟩)) | (go_at_call 13; first | ((with_reducible refine ((d1 _ (by assumption)).out).mono ?_); rintro e w' ⟨rfl, hk⟩) | ((with_reducible refine ((q0 _ (by assumption)).out).mono ?_); rintro e w' ⟨rfl, hk⟩) | ((with_reducible refine ((q1 _ (by assumption)).out).mono ?_); rintro e w' ⟨rfl, hk⟩) | ((with_reducible refine ((q2 _ (by assumption)).out).mono ?_); rintro e w' ⟨rfl, hk⟩) | ((with_reducible refine ((q3 _ (by assumption)).out).mono ?_); rintro e w' ⟨rfl, hk⟩)))
  all_goals
    go_ret
    exact ⟨ret_bool (by simp), by assumption⟩

theorem asks_law (a b t : Nat) (wa : a < 2 ^ 64) (wb : b < 2 ^ 64) (w : World) :
    Calls Try.prog 3 #[.float .f64 a, .float .f64 b, .float .f64 t] w fun e w' => e = .returned (.bool true) ∧ Kept w w' :=
  asks_walk a b t _ _ _ _ _ _ wa wb rfl rfl rfl rfl rfl rfl w

end Go.Proofs.Ytdddpnjamgbcmaa
