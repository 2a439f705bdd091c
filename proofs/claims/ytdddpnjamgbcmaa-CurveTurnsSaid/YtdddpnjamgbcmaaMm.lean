/-
The contracts of package math, as far as curve asks: bits, signs, NaN, infinities, cuts downwards.
-/
import Derived.Test.YtdddpnjamgbcmaaKp
import Derived.Test.YtdddpnjamgbcmaaCx
namespace Go.Proofs.Ytdddpnjamgbcmaa
open Go.RowKit
set_option linter.unusedVariables false

@[go_sem] theorem bits_any (b : Nat) (w : World) : (callFunc 30 #[.float .f64 b]).run Try.prog w = .ok (.value (.int .u64 b)) w := by
  rw [run_callFunc_extern Try.func30 (by kernel_rfl) (by kernel_rfl) (by kernel_rfl) (e := Extern.MathFloatBits.float64bits) (by kernel_rfl)]
  rfl
@[go_sem] theorem from_any (n : Int) (w : World) : (callFunc 35 #[.int .u64 n]).run Try.prog w = .ok (.value (.float .f64 n.toNat)) w := by
  rw [run_callFunc_extern Try.func35 (by kernel_rfl) (by kernel_rfl) (by kernel_rfl) (e := Extern.MathFloatBits.float64frombits) (by kernel_rfl)]
  rfl

theorem abs_num (b : Nat) (hb : b < 2 ^ 64) : (bits .andNot .u64 (b : Int) 9223372036854775808).toNat = b % 2 ^ 63 := by
  have h := u64_andNot_nat b 9223372036854775808 hb (by omega)
  rw [show ((9223372036854775808 : Nat) : Int) = 9223372036854775808 from rfl] at h
  rw [h, Int.toNat_natCast]
  exact Nat.and_two_pow_sub_one_eq_mod b 63
theorem sgn_num (b : Nat) : decide (wrap64 (b : Int) < 0) = Fl.sgn b := by
  unfold wrap64 Fl.sgn
  rw [Bool.eq_iff_iff, decide_eq_true_eq, beq_iff_eq]
  omega

set_option maxHeartbeats 400000 in
theorem abs_any (b : Nat) (hb : b < 2 ^ 64) (w : World) :
    Calls Try.prog 36 #[.float .f64 b] w fun e w' => e = .returned (.float .f64 (b % 2 ^ 63)) ∧ w = w' := by
  go_enter Try.func36, Try.ntmps36
  go_wp2
  go_ret
  exact ⟨ret_float (abs_num b hb), rfl⟩

set_option maxHeartbeats 400000 in
theorem signbit_any (b : Nat) (w : World) :
    Calls Try.prog 24 #[.float .f64 b] w fun e w' => e = .returned (.bool (Fl.sgn b)) ∧ w = w' := by
  go_enter Try.func24, Try.ntmps24
  go_wp2
  go_ret
  exact ⟨ret_bool (sgn_num b), rfl⟩

set_option maxHeartbeats 400000 in
theorem isnan_any (b : Nat) (w : World) :
    Calls Try.prog 28 #[.float .f64 b] w fun e w' => e = .returned (.bool (Fl.isNaN b)) ∧ w = w' := by
  go_enter Try.func28, Try.ntmps28
  go_wp2
  go_ret
  exact ⟨ret_bool (ne_self b), rfl⟩
theorem isnan_t (b : Nat) (t : Bool) (h : Fl.isNaN b = t) (w : World) :
    Calls Try.prog 28 #[.float .f64 b] w fun e w' => e = .returned (.bool t) ∧ w = w' := by
  rw [← h]; exact isnan_any b w

set_option maxHeartbeats 400000 in
theorem nan_any (w : World) :
    Calls Try.prog 25 #[] w fun e w' => e = .returned (.float .f64 9221120237041090561) ∧ w = w' := by
  go_enter Try.func25, Try.ntmps25
  go_wp2
  go_ret
  exact ⟨rfl, rfl⟩

set_option maxHeartbeats 400000 in
theorem inf_pos (w : World) :
    Calls Try.prog 27 #[.int .i64 1] w fun e w' => e = .returned (.float .f64 9218868437227405312) ∧ w = w' := by
  go_enter Try.func27, Try.ntmps27
  go_wp2
  go_ret
  exact ⟨rfl, rfl⟩

set_option maxHeartbeats 400000 in
theorem minus_zero (w : World) :
    Calls Try.prog 26 #[.float .f64 0, .float .f64 13830554455654793216] w fun e w' => e = .returned (.float .f64 9223372036854775808) ∧ w = w' := by
  go_enter Try.func26, Try.ntmps26
  go_wp2
  go_ret
  exact ⟨ret_float (by decide +kernel), rfl⟩

theorem max_fin {b : Nat} (h : Fl.rung b < Fl.inf) (wb : b < 2 ^ 64) : (FloatKind.f64.format.order (b % 2 ^ 63) 9218868437227405311 == some .gt) = false := by
  have n : Fl.isNaN (b % 2 ^ 63) = false := by rw [Fl.abs_nan]; exact Fo.fin_num h
  rw [show FloatKind.format .f64 = Ieee.double from rfl, Fl.gt_iff n (by decide +kernel), Fl.abs_Z]
  have e : Fl.Z 9218868437227405311 = Fl.G 9218868437227405311 := by decide +kernel
  have i : Fl.inf = 9218868437227405312 := by decide
  have := Fl.G_le (show Fl.rung b ≤ 9218868437227405311 by omega)
  rw [e]
  exact decide_eq_false (by omega)
theorem max_inf {b : Nat} (h : Fl.rung b = Fl.inf) (wb : b < 2 ^ 64) : (FloatKind.f64.format.order (b % 2 ^ 63) 9218868437227405311 == some .gt) = true := by
  have n : Fl.isNaN (b % 2 ^ 63) = false := by rw [Fl.abs_nan]; unfold Fl.isNaN; simp; omega
  rw [show FloatKind.format .f64 = Ieee.double from rfl, Fl.gt_iff n (by decide +kernel), Fl.abs_Z, h]
  exact decide_eq_true (by decide +kernel)

set_option maxHeartbeats 400000 in
theorem isinf_any (b : Nat) (wb : b < 2 ^ 64) (w : World) :
    Calls Try.prog 33 #[.float .f64 b, .int .i64 0] w fun e w' => e = .returned (.bool (FloatKind.f64.format.order (b % 2 ^ 63) 9218868437227405311 == some .gt)) ∧ w = w' := by
  go_enter Try.func33, Try.ntmps33
  go_wp2_with (go_at_call 36; refine (abs_any _ wb _).mono ?_; rintro e w' ⟨rfl, rfl⟩)
  go_ret
  exact ⟨rfl, rfl⟩
theorem isinf_fin {b : Nat} (h : Fl.rung b < Fl.inf) (wb : b < 2 ^ 64) (w : World) :
    Calls Try.prog 33 #[.float .f64 b, .int .i64 0] w fun e w' => e = .returned (.bool false) ∧ w = w' := by
  rw [← max_fin h wb]; exact isinf_any b wb w
theorem isinf_inf {b : Nat} (h : Fl.rung b = Fl.inf) (wb : b < 2 ^ 64) (w : World) :
    Calls Try.prog 33 #[.float .f64 b, .int .i64 0] w fun e w' => e = .returned (.bool true) ∧ w = w' := by
  rw [← max_inf h wb]; exact isinf_any b wb w

theorem arch_floor {x : Nat} (h : Fl.rung x < Fl.inf) (w : World) : (callFunc 37 #[.float .f64 x]).run Try.prog w = .ok (.value (.float .f64 (Cv.flr x))) w := by
  rw [run_callFunc_extern Try.func37 (by kernel_rfl) (by kernel_rfl) (by kernel_rfl) (e := Extern.MathFloor.toIntegral "math.archFloor" .down) (by kernel_rfl)]
  rcases Fl.read_cases x with ⟨_, m, p, r, _⟩ | ⟨c, _⟩ | ⟨c, _⟩
  · have e : FloatKind.f64.decode x = .number (Fl.sgn x) m p := r
    change (Sem.run Try.prog (match FloatKind.f64.decode x with | .nan s t => _ | d => (pure (Value.float .f64 (FloatKind.f64.encode (d.integral .down))) : Sem Value)) w).andThen _ = _
    rw [e]
    unfold Cv.flr
    rw [r]
    rfl
  · omega
  · omega

set_option maxHeartbeats 400000 in
theorem floor_any {x : Nat} (h : Fl.rung x < Fl.inf) (w : World) :
    Calls Try.prog 34 #[.float .f64 x] w fun e w' => e = .returned (.float .f64 (Cv.flr x)) ∧ w = w' := by
  have h1 := fun w => arch_floor h w
  go_enter Try.func34, Try.ntmps34
  go_wp2
  go_ret
  exact ⟨rfl, rfl⟩
end Go.Proofs.Ytdddpnjamgbcmaa
