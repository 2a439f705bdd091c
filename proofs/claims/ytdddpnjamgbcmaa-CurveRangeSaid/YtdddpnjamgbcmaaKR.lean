/-
CurveRange: the walk.
-/
import Derived.Test.YtdddpnjamgbcmaaCt
namespace Go.Proofs.Ytdddpnjamgbcmaa
open Go.RowKit
set_option linter.unusedVariables false

set_option maxRecDepth 100000 in
set_option maxHeartbeats 2000000 in
theorem range_ne (a r : Nat) (wa : a < 2 ^ 64) (hr : Cv.turn a = r) (i1 : (FloatKind.f64.format.order r 13826050856027422720 == some .gt || FloatKind.f64.format.order r 13826050856027422720 == some .eq) = true) (i2 : (FloatKind.f64.format.order r 4602678819172646912 == some .lt) = true) (i3 : (FloatKind.f64.format.order r 0 != some .eq) = true) (w : World) :
    Calls Try.prog 8 #[.float .f64 a] w fun e w' => e = .returned (.bool true) ∧ Kept w w' := by
  have hk := Kept.refl w
  have c0 := fun (x : World) (h : Kept w x) => Lib.hid (told_t h)
  have c1 := fun (x : World) (h : Kept w x) => Lib.hid (turn_t h a r wa hr)
  clear hr wa
  go_enter Try.func8, Try.ntmps8
  go_wp2_with (first | (go_at_call 11; ((with_reducible refine ((c0 _ (by assumption)).out).mono ?_); rintro e w' ⟨rfl, hk⟩)) | (go_at_call 22; ((with_reducible refine ((c1 _ (by assumption)).out).mono ?_); rintro e w' ⟨rfl, hk⟩)))
  all_goals
    go_ret
    exact ⟨ret_bool (by simp), by assumption⟩

set_option maxRecDepth 100000 in
set_option maxHeartbeats 2000000 in
theorem range_eq (a r : Nat) (wa : a < 2 ^ 64) (hr : Cv.turn a = r) (i1 : (FloatKind.f64.format.order r 13826050856027422720 == some .gt || FloatKind.f64.format.order r 13826050856027422720 == some .eq) = true) (i2 : (FloatKind.f64.format.order r 4602678819172646912 == some .lt) = true) (i3 : (FloatKind.f64.format.order r 0 != some .eq) = false) (sr : Fl.sgn r = false) (w : World) :
    Calls Try.prog 8 #[.float .f64 a] w fun e w' => e = .returned (.bool true) ∧ Kept w w' := by
  have hk := Kept.refl w
  have c0 := fun (x : World) (h : Kept w x) => Lib.hid (told_t h)
  have c1 := fun (x : World) (h : Kept w x) => Lib.hid (turn_t h a r wa hr)
  have c2 := fun (x : World) (h : Kept w x) => Lib.hid (signbit_k h r false sr)
  clear hr wa
  go_enter Try.func8, Try.ntmps8
  go_wp2_with (first | (go_at_call 11; ((with_reducible refine ((c0 _ (by assumption)).out).mono ?_); rintro e w' ⟨rfl, hk⟩)) | (go_at_call 22; ((with_reducible refine ((c1 _ (by assumption)).out).mono ?_); rintro e w' ⟨rfl, hk⟩)) | (go_at_call 24; ((with_reducible refine ((c2 _ (by assumption)).out).mono ?_); rintro e w' ⟨rfl, hk⟩)))
  all_goals
    go_ret
    exact ⟨ret_bool (by simp), by assumption⟩

theorem turn_range (a : Nat) : Fl.isNaN (Cv.turn a) = false ∧ -(Fl.U : Int) ≤ 2 * Fl.Z (Cv.turn a) ∧ 2 * Fl.Z (Cv.turn a) < Fl.U ∧ (Fl.Z (Cv.turn a) = 0 → Fl.sgn (Cv.turn a) = false) := by
  have up := Cv.U0
  by_cases fin : Fl.rung a < Fl.inf
  · obtain ⟨p, q, _, np, p0, p1, sp, _, _, nq, hq, e, _, _⟩ := Cv.turn_steps fin
    rw [e]
    by_cases c : (Fl.U : Int) ≤ 2 * Fl.Z p
    · rw [if_pos c]
      obtain ⟨h1, h2, h3⟩ := hq c
      exact ⟨nq, h1, by omega, h3⟩
    · rw [if_neg c]
      exact ⟨np, by omega, by omega, fun _ => sp⟩
  · have e : Cv.turn a = 0 := by unfold Cv.turn; rw [if_neg fin]
    rw [e, Cv.z0]
    exact ⟨Cv.n0, by omega, by omega, fun _ => by decide +kernel⟩

theorem range_law (a : Nat) (wa : a < 2 ^ 64) (w : World) :
    Calls Try.prog 8 #[.float .f64 a] w fun e w' => e = .returned (.bool true) ∧ Kept w w' := by
  obtain ⟨n, h1, h2, h3⟩ := turn_range a
  have zh := Cv.zh
  have zm := Cv.zmh
  have nm : Fl.isNaN 13826050856027422720 = false := by decide +kernel
  have i1 := Fl.ge_iff n nm
  rw [decide_eq_true (by omega)] at i1
  have i2 := Fl.lt_iff n Cv.nh
  rw [decide_eq_true (by omega)] at i2
  have i3 := Fl.eq_iff n Cv.n0
  rw [Cv.z0] at i3
  by_cases c : Fl.Z (Cv.turn a) = 0
  · rw [decide_eq_true c] at i3
    exact range_eq a _ wa rfl i1 i2 (by rw [bne, show FloatKind.f64.format.order (Cv.turn a) 0 = Ieee.double.order (Cv.turn a) 0 from rfl, i3]; rfl) (h3 c) w
  · rw [decide_eq_false c] at i3
    exact range_ne a _ wa rfl i1 i2 (by rw [bne, show FloatKind.f64.format.order (Cv.turn a) 0 = Ieee.double.order (Cv.turn a) 0 from rfl, i3]; rfl) w

end Go.Proofs.Ytdddpnjamgbcmaa
