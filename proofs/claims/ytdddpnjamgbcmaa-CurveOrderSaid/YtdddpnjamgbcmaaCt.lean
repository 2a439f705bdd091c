/-
The contracts of package curve with named answers, carried on from a world that is kept; that told is true.
-/
import Derived.Test.YtdddpnjamgbcmaaCm
namespace Go.Proofs.Ytdddpnjamgbcmaa
open Go.RowKit
set_option linter.unusedVariables false

theorem same_t {v w : World} (hb : Kept v w) (a b : Nat) (n : Bool) (wa : a < 2 ^ 64)(wb : b < 2 ^ 64) (h : Cv.same a b = n) :
    Calls Try.prog 12 #[.float .f64 a, .float .f64 b] w fun e w' => e = .returned (.bool n) ∧ Kept v w' := by
  rw [← h]; exact on_same hb (same_any wa wb w)

theorem less_t {v w : World} (hb : Kept v w) (a b : Nat) (n : Bool)  (h : Cv.less a b = n) :
    Calls Try.prog 14 #[.float .f64 a, .float .f64 b] w fun e w' => e = .returned (.bool n) ∧ Kept v w' := by
  rw [← h]; exact on_same hb (less_any a b w)

theorem unit_t {v w : World} (hb : Kept v w) (t : Nat) (n : Nat)  (h : Cv.unit t = n) :
    Calls Try.prog 16 #[.float .f64 t] w fun e w' => e = .returned (.float .f64 n) ∧ Kept v w' := by
  rw [← h]; exact on_same hb (unit_any t w)

theorem mix_t {v w : World} (hb : Kept v w) (a b t : Nat) (n : Nat)  (h : Cv.mix a b t = n) :
    Calls Try.prog 18 #[.float .f64 a, .float .f64 b, .float .f64 t] w fun e w' => e = .returned (.float .f64 n) ∧ Kept v w' := by
  rw [← h]; exact on_below hb (mix_any a b t w)

theorem ease_t {v w : World} (hb : Kept v w) (t : Nat) (n : Nat)  (h : Cv.ease t = n) :
    Calls Try.prog 20 #[.float .f64 t] w fun e w' => e = .returned (.float .f64 n) ∧ Kept v w' := by
  rw [← h]; exact on_same hb (ease_any t w)

theorem turn_t {v w : World} (hb : Kept v w) (a : Nat) (n : Nat) (wa : a < 2 ^ 64) (h : Cv.turn a = n) :
    Calls Try.prog 22 #[.float .f64 a] w fun e w' => e = .returned (.float .f64 n) ∧ Kept v w' := by
  rw [← h]; exact on_same hb (turn_any wa w)

theorem signbit_k {v w : World} (hb : Kept v w) (b : Nat) (n : Bool)  (h : Fl.sgn b = n) :
    Calls Try.prog 24 #[.float .f64 b] w fun e w' => e = .returned (.bool n) ∧ Kept v w' := by
  rw [← h]; exact on_same hb (signbit_any b w)
theorem nan_t {v w : World} (hb : Kept v w) :
    Calls Try.prog 25 #[] w fun e w' => e = .returned (.float .f64 9221120237041090561) ∧ Kept v w' := on_same hb (nan_any w)
theorem inf_t {v w : World} (hb : Kept v w) :
    Calls Try.prog 27 #[.int .i64 1] w fun e w' => e = .returned (.float .f64 9218868437227405312) ∧ Kept v w' := on_same hb (inf_pos w)
theorem mz_t {v w : World} (hb : Kept v w) :
    Calls Try.prog 26 #[.float .f64 0, .float .f64 13830554455654793216] w fun e w' => e = .returned (.float .f64 9223372036854775808) ∧ Kept v w' := on_same hb (minus_zero w)

set_option maxRecDepth 100000 in
set_option maxHeartbeats 2000000 in
theorem told_any (w : World) :
    Calls Try.prog 11 #[] w fun e w' => e = .returned (.bool true) ∧ Kept w w' := by
  have hk := Kept.refl w
  have o0 : (FloatKind.f64.format.order 4607182418800017408 4607182418800017408 == some .eq) = true := by decide +kernel
  have o1 : (FloatKind.f64.format.order 13821547256400052224 13821547256400052224 == some .eq) = true := by decide +kernel
  have o2 : (FloatKind.f64.format.order 0 0 == some .eq) = true := by decide +kernel
  have o3 : (FloatKind.f64.format.order 4602678819172646912 4602678819172646912 == some .eq) = true := by decide +kernel
  have o4 : (FloatKind.f64.format.order 4613937818241073152 4613937818241073152 == some .eq) = true := by decide +kernel
  have m1 := fun (x : World) (h : Kept w x) => Lib.hid (mix_t h 0 4616189618054758400 4598175219545276416 4607182418800017408 (by decide +kernel))
  have t1 := fun (x : World) (h : Kept w x) => Lib.hid (turn_t h 4604930618986332160 13821547256400052224 (by decide) (by decide +kernel))
  have s1 := fun (x : World) (h : Kept w x) => Lib.hid (same_t h 9221120237041090561 9221120237041090561 true (by decide) (by decide) (by decide +kernel))
  have s2 := fun (x : World) (h : Kept w x) => Lib.hid (same_t h 0 9223372036854775808 false (by decide) (by decide) (by decide +kernel))
  have l1 := fun (x : World) (h : Kept w x) => Lib.hid (less_t h 9223372036854775808 0 true (by decide +kernel))
  have l2 := fun (x : World) (h : Kept w x) => Lib.hid (less_t h 0 9223372036854775808 false (by decide +kernel))
  have l3 := fun (x : World) (h : Kept w x) => Lib.hid (less_t h 9218868437227405312 9221120237041090561 true (by decide +kernel))
  have u1 := fun (x : World) (h : Kept w x) => Lib.hid (unit_t h 9221120237041090561 0 (by decide +kernel))
  have e1 := fun (x : World) (h : Kept w x) => Lib.hid (ease_t h 4602678819172646912 4602678819172646912 (by decide +kernel))
  have m2 := fun (x : World) (h : Kept w x) => Lib.hid (mix_t h 4613937818241073152 9221120237041090561 0 4613937818241073152 (by decide +kernel))
  have n1 := fun (x : World) (h : Kept w x) => Lib.hid (nan_t h)
  have i1 := fun (x : World) (h : Kept w x) => Lib.hid (inf_t h)
  have z1 := fun (x : World) (h : Kept w x) => Lib.hid (mz_t h)
  go_enter Try.func11, Try.ntmps11
  go_wp2_with (first | (go_at_call 18; first | ((with_reducible refine ((m1 _ (by assumption)).out).mono ?_); rintro e w' ⟨rfl, hk⟩) | ((with_reducible refine ((m2 _ (by assumption)).out).mono ?_); rintro e w' ⟨rfl, hk⟩)) | (go_at_call 22; ((with_reducible refine ((t1 _ (by assumption)).out).mono ?_); rintro e w' ⟨rfl, hk⟩)) | (go_at_call 12; first | ((with_reducible refine ((s1 _ (by assumption)).out).mono ?_); rintro e w' ⟨rfl, hk⟩) | ((with_reducible refine ((s2 _ (by assumption)).out).mono ?_); rintro e w' ⟨rfl, hk⟩)) | (go_at_call 14; first | ((with_reducible refine ((l1 _ (by assumption)).out).mono ?_); rintro e w' ⟨rfl, hk⟩) | ((with_reducible refine ((l2 _ (by assumption)).out).mono ?_); rintro e w' ⟨rfl, hk⟩) | ((with_reducible refine ((l3 _ (by assumption)).out).mono ?_); rintro e w' ⟨rfl, hk⟩)) | (go_at_call 16; ((with_reducible refine ((u1 _ (by assumption)).out).mono ?_); rintro e w' ⟨rfl, hk⟩)) | (go_at_call 20; ((with_reducible refine ((e1 _ (by assumption)).out).mono ?_); rintro e w' ⟨rfl, hk⟩)) | (go_at_call 25; ((with_reducible refine ((n1 _ (by assumption)).out).mono ?_); rintro e w' ⟨rfl, hk⟩)) | (go_at_call 27; ((with_reducible refine ((i1 _ (by assumption)).out).mono ?_); rintro e w' ⟨rfl, hk⟩)) | (go_at_call 26; ((with_reducible refine ((z1 _ (by assumption)).out).mono ?_); rintro e w' ⟨rfl, hk⟩)))
  go_ret
  exact ⟨rfl, by assumption⟩
theorem told_t {v w : World} (hb : Kept v w) :
    Calls Try.prog 11 #[] w fun e w' => e = .returned (.bool true) ∧ Kept v w' := on_below hb (told_any w)
end Go.Proofs.Ytdddpnjamgbcmaa
