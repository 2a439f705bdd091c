/-
The contracts of package curve, and of the document's answers for it.
-/
import Derived.Test.YtdddpnjamgbcmaaMm
namespace Go.Proofs.Ytdddpnjamgbcmaa
open Go.RowKit
set_option linter.unusedVariables false

theorem signbit_t (b : Nat) (t : Bool) (h : Fl.sgn b = t) (w : World) :
    Calls Try.prog 24 #[.float .f64 b] w fun e w' => e = .returned (.bool t) ∧ w = w' := by
  rw [← h]; exact signbit_any b w

set_option maxHeartbeats 400000 in
theorem refnan_any (b : Nat) (w : World) :
    Calls Try.prog 29 #[.float .f64 b] w fun e w' => e = .returned (.bool (Fl.isNaN b)) ∧ w = w' := by
  go_enter Try.func29, Try.ntmps29
  go_wp2
  go_ret
  exact ⟨ret_bool (ne_self b), rfl⟩
theorem refnan_t (b : Nat) (t : Bool) (h : Fl.isNaN b = t) (w : World) :
    Calls Try.prog 29 #[.float .f64 b] w fun e w' => e = .returned (.bool t) ∧ w = w' := by
  rw [← h]; exact refnan_any b w

set_option maxHeartbeats 1000000 in
theorem same_nan (a b : Nat) (h : Fl.isNaN a = true) (w : World) :
    Calls Try.prog 12 #[.float .f64 a, .float .f64 b] w fun e w' => e = .returned (.bool (Fl.isNaN b)) ∧ w = w' := by
  have c1 := fun (x : World) => Lib.hid (isnan_t a true h x)
  have c2 := fun (x : World) => Lib.hid (isnan_any b x)
  clear h
  go_enter Try.func12, Try.ntmps12
  go_wp2_with (first | (go_at_call 28; first | ((with_reducible refine ((c1 _).out).mono ?_); rintro e w' ⟨rfl, rfl⟩) | ((with_reducible refine ((c2 _).out).mono ?_); rintro e w' ⟨rfl, rfl⟩)))
  all_goals
    go_ret
    exact ⟨rfl, rfl⟩

set_option maxHeartbeats 1000000 in
theorem same_ne (a b : Nat) (h : Fl.isNaN a = false) (i : (FloatKind.f64.format.order a b == some .eq) = false) (w : World) :
    Calls Try.prog 12 #[.float .f64 a, .float .f64 b] w fun e w' => e = .returned (.bool false) ∧ w = w' := by
  have c1 := fun (x : World) => Lib.hid (isnan_t a false h x)
  clear h
  go_enter Try.func12, Try.ntmps12
  go_wp2_with (first | (go_at_call 28; ((with_reducible refine ((c1 _).out).mono ?_); rintro e w' ⟨rfl, rfl⟩)))
  all_goals
    go_ret
    exact ⟨rfl, rfl⟩

set_option maxHeartbeats 1000000 in
theorem same_eq (a b : Nat) (h : Fl.isNaN a = false) (i : (FloatKind.f64.format.order a b == some .eq) = true) (w : World) :
    Calls Try.prog 12 #[.float .f64 a, .float .f64 b] w fun e w' => e = .returned (.bool (Fl.sgn a == Fl.sgn b)) ∧ w = w' := by
  have c1 := fun (x : World) => Lib.hid (isnan_t a false h x)
  have d1 := fun (x : World) => Lib.hid (signbit_any a x)
  have d2 := fun (x : World) => Lib.hid (signbit_any b x)
  clear h
  go_enter Try.func12, Try.ntmps12
  go_wp2_with (first | (go_at_call 28; ((with_reducible refine ((c1 _).out).mono ?_); rintro e w' ⟨rfl, rfl⟩)) | (go_at_call 24; first | ((with_reducible refine ((d1 _).out).mono ?_); rintro e w' ⟨rfl, rfl⟩) | ((with_reducible refine ((d2 _).out).mono ?_); rintro e w' ⟨rfl, rfl⟩)))
  all_goals
    go_ret
    exact ⟨rfl, rfl⟩

theorem same_any {a b : Nat} (wa : a < 2 ^ 64) (wb : b < 2 ^ 64) (w : World) :
    Calls Try.prog 12 #[.float .f64 a, .float .f64 b] w fun e w' => e = .returned (.bool (Cv.same a b)) ∧ w = w' := by
  unfold Cv.same
  cases h : Fl.isNaN a
  · have e := Cv.same_num wa wb h
    cases i : (FloatKind.f64.format.order a b == some .eq)
    · refine (same_ne a b h i w).mono fun e1 w' ⟨he, hw⟩ => ⟨he.trans (ret_bool ?_), hw⟩
      rw [show Ieee.double.order a b = FloatKind.f64.format.order a b from rfl, i] at e
      simp at e ⊢
      exact e
    · refine (same_eq a b h i w).mono fun e1 w' ⟨he, hw⟩ => ⟨he.trans (ret_bool ?_), hw⟩
      rw [show Ieee.double.order a b = FloatKind.f64.format.order a b from rfl, i, Bool.true_and] at e
      rw [e]; rfl
  · exact same_nan a b h w

set_option maxHeartbeats 1000000 in
theorem refsame_num (a b : Nat) (h : Fl.isNaN a = false) (w : World) :
    Calls Try.prog 13 #[.float .f64 a, .float .f64 b] w fun e w' => e = .returned (.bool (decide (a = b))) ∧ w = w' := by
  have c1 := fun (x : World) => Lib.hid (refnan_t a false h x)
  clear h
  go_enter Try.func13, Try.ntmps13
  go_wp2_with (first | (go_at_call 29; ((with_reducible refine ((c1 _).out).mono ?_); rintro e w' ⟨rfl, rfl⟩)))
  all_goals
    go_ret
    exact ⟨ret_bool (by exact decide_eq_decide.2 (by omega)), rfl⟩

set_option maxHeartbeats 1000000 in
theorem refsame_nan (a b : Nat) (h : Fl.isNaN a = true) (h' : Fl.isNaN b = true) (w : World) :
    Calls Try.prog 13 #[.float .f64 a, .float .f64 b] w fun e w' => e = .returned (.bool true) ∧ w = w' := by
  have c1 := fun (x : World) => Lib.hid (refnan_t a true h x)
  have c2 := fun (x : World) => Lib.hid (refnan_t b true h' x)
  clear h h'
  go_enter Try.func13, Try.ntmps13
  go_wp2_with (first | (go_at_call 29; first | ((with_reducible refine ((c1 _).out).mono ?_); rintro e w' ⟨rfl, rfl⟩) | ((with_reducible refine ((c2 _).out).mono ?_); rintro e w' ⟨rfl, rfl⟩)))
  all_goals
    go_ret
    exact ⟨rfl, rfl⟩

set_option maxHeartbeats 1000000 in
theorem refsame_half (a b : Nat) (h : Fl.isNaN a = true) (h' : Fl.isNaN b = false) (w : World) :
    Calls Try.prog 13 #[.float .f64 a, .float .f64 b] w fun e w' => e = .returned (.bool (decide (a = b))) ∧ w = w' := by
  have c1 := fun (x : World) => Lib.hid (refnan_t a true h x)
  have c2 := fun (x : World) => Lib.hid (refnan_t b false h' x)
  clear h h'
  go_enter Try.func13, Try.ntmps13
  go_wp2_with (first | (go_at_call 29; first | ((with_reducible refine ((c1 _).out).mono ?_); rintro e w' ⟨rfl, rfl⟩) | ((with_reducible refine ((c2 _).out).mono ?_); rintro e w' ⟨rfl, rfl⟩)))
  all_goals
    go_ret
    exact ⟨ret_bool (by exact decide_eq_decide.2 (by omega)), rfl⟩

theorem refsame_any (a b : Nat) (w : World) :
    Calls Try.prog 13 #[.float .f64 a, .float .f64 b] w fun e w' => e = .returned (.bool (Cv.same a b)) ∧ w = w' := by
  unfold Cv.same
  cases h : Fl.isNaN a
  · exact refsame_num a b h w
  · cases h' : Fl.isNaN b
    · refine (refsame_half a b h h' w).mono fun e1 w' ⟨he, hw⟩ => ⟨he.trans (ret_bool ?_), hw⟩
      have : a ≠ b := by intro e; subst e; rw [h] at h'; cases h'
      rw [decide_eq_false this]; rfl
    · exact refsame_nan a b h h' w

set_option maxHeartbeats 1000000 in
theorem less_nan1 (a b : Nat) (h : Fl.isNaN a = true) (w : World) :
    Calls Try.prog 14 #[.float .f64 a, .float .f64 b] w fun e w' => e = .returned (.bool false) ∧ w = w' := by
  have c1 := fun (x : World) => Lib.hid (isnan_t a true h x)
  clear h
  go_enter Try.func14, Try.ntmps14
  go_wp2_with (first | (go_at_call 28; ((with_reducible refine ((c1 _).out).mono ?_); rintro e w' ⟨rfl, rfl⟩)))
  all_goals
    go_ret
    exact ⟨rfl, rfl⟩

set_option maxHeartbeats 1000000 in
theorem less_nan2 (a b : Nat) (h : Fl.isNaN a = false) (h' : Fl.isNaN b = true) (w : World) :
    Calls Try.prog 14 #[.float .f64 a, .float .f64 b] w fun e w' => e = .returned (.bool true) ∧ w = w' := by
  have c1 := fun (x : World) => Lib.hid (isnan_t a false h x)
  have c2 := fun (x : World) => Lib.hid (isnan_t b true h' x)
  clear h h'
  go_enter Try.func14, Try.ntmps14
  go_wp2_with (first | (go_at_call 28; first | ((with_reducible refine ((c1 _).out).mono ?_); rintro e w' ⟨rfl, rfl⟩) | ((with_reducible refine ((c2 _).out).mono ?_); rintro e w' ⟨rfl, rfl⟩)))
  all_goals
    go_ret
    exact ⟨rfl, rfl⟩

set_option maxHeartbeats 1000000 in
theorem less_eq1 (a b : Nat) (h : Fl.isNaN a = false) (h' : Fl.isNaN b = false) (i : (FloatKind.f64.format.order a b == some .eq) = true) (s : Fl.sgn a = true) (w : World) :
    Calls Try.prog 14 #[.float .f64 a, .float .f64 b] w fun e w' => e = .returned (.bool (!Fl.sgn b)) ∧ w = w' := by
  have c1 := fun (x : World) => Lib.hid (isnan_t a false h x)
  have c2 := fun (x : World) => Lib.hid (isnan_t b false h' x)
  have d1 := fun (x : World) => Lib.hid (signbit_t a true s x)
  have d2 := fun (x : World) => Lib.hid (signbit_any b x)
  clear h h' s
  go_enter Try.func14, Try.ntmps14
  go_wp2_with (first | (go_at_call 28; first | ((with_reducible refine ((c1 _).out).mono ?_); rintro e w' ⟨rfl, rfl⟩) | ((with_reducible refine ((c2 _).out).mono ?_); rintro e w' ⟨rfl, rfl⟩)) | (go_at_call 24; first | ((with_reducible refine ((d1 _).out).mono ?_); rintro e w' ⟨rfl, rfl⟩) | ((with_reducible refine ((d2 _).out).mono ?_); rintro e w' ⟨rfl, rfl⟩)))
  all_goals
    go_ret
    exact ⟨rfl, rfl⟩

set_option maxHeartbeats 1000000 in
theorem less_eq2 (a b : Nat) (h : Fl.isNaN a = false) (h' : Fl.isNaN b = false) (i : (FloatKind.f64.format.order a b == some .eq) = true) (s : Fl.sgn a = false) (w : World) :
    Calls Try.prog 14 #[.float .f64 a, .float .f64 b] w fun e w' => e = .returned (.bool false) ∧ w = w' := by
  have c1 := fun (x : World) => Lib.hid (isnan_t a false h x)
  have c2 := fun (x : World) => Lib.hid (isnan_t b false h' x)
  have d1 := fun (x : World) => Lib.hid (signbit_t a false s x)
  clear h h' s
  go_enter Try.func14, Try.ntmps14
  go_wp2_with (first | (go_at_call 28; first | ((with_reducible refine ((c1 _).out).mono ?_); rintro e w' ⟨rfl, rfl⟩) | ((with_reducible refine ((c2 _).out).mono ?_); rintro e w' ⟨rfl, rfl⟩)) | (go_at_call 24; ((with_reducible refine ((d1 _).out).mono ?_); rintro e w' ⟨rfl, rfl⟩)))
  all_goals
    go_ret
    exact ⟨rfl, rfl⟩

set_option maxHeartbeats 1000000 in
theorem less_lt (a b : Nat) (h : Fl.isNaN a = false) (h' : Fl.isNaN b = false) (i : (FloatKind.f64.format.order a b == some .eq) = false) (w : World) :
    Calls Try.prog 14 #[.float .f64 a, .float .f64 b] w fun e w' => e = .returned (.bool (FloatKind.f64.format.order a b == some .lt)) ∧ w = w' := by
  have c1 := fun (x : World) => Lib.hid (isnan_t a false h x)
  have c2 := fun (x : World) => Lib.hid (isnan_t b false h' x)
  clear h h'
  go_enter Try.func14, Try.ntmps14
  go_wp2_with (first | (go_at_call 28; first | ((with_reducible refine ((c1 _).out).mono ?_); rintro e w' ⟨rfl, rfl⟩) | ((with_reducible refine ((c2 _).out).mono ?_); rintro e w' ⟨rfl, rfl⟩)))
  all_goals
    go_ret
    exact ⟨rfl, rfl⟩

theorem less_any (a b : Nat) (w : World) :
    Calls Try.prog 14 #[.float .f64 a, .float .f64 b] w fun e w' => e = .returned (.bool (Cv.less a b)) ∧ w = w' := by
  cases h : Fl.isNaN a
  · cases h' : Fl.isNaN b
    · have e := Fl.eq_iff h h'
      by_cases hz : Fl.Z a = Fl.Z b
      · rw [decide_eq_true hz] at e
        have k := Cv.less_eq h h' hz
        cases s : Fl.sgn a
        · rw [s] at k
          rw [k]
          exact less_eq2 a b h h' e s w
        · rw [s] at k
          rw [k]
          exact less_eq1 a b h h' e s w
      · rw [decide_eq_false hz] at e
        have l := Fl.lt_iff h h'
        rw [Cv.less_ne h h' hz, ← l]
        exact less_lt a b h h' e w
    · rw [Cv.nan_less h h']
      exact less_nan2 a b h h' w
  · rw [Cv.less_nan b h]
    exact less_nan1 a b h w

theorem rung_bits {a : Nat} (wa : a < 2 ^ 64) : bits .andNot .u64 (a : Int) 9223372036854775808 = Fl.rung a := by
  have h := u64_andNot_nat a 9223372036854775808 wa (by omega)
  rw [show ((9223372036854775808 : Nat) : Int) = 9223372036854775808 from rfl] at h
  rw [h]
  exact congrArg Int.ofNat (Nat.and_two_pow_sub_one_eq_mod a 63)

set_option maxHeartbeats 1000000 in
theorem rank_nan (a : Nat) (h : Fl.isNaN a = true) (w : World) :
    Calls Try.prog 31 #[.float .f64 a] w fun e w' => e = .returned (.int .i64 9223372036854775807) ∧ w = w' := by
  have c1 := fun (x : World) => Lib.hid (refnan_t a true h x)
  clear h
  go_enter Try.func31, Try.ntmps31
  go_wp2_with (first | (go_at_call 29; ((with_reducible refine ((c1 _).out).mono ?_); rintro e w' ⟨rfl, rfl⟩)))
  all_goals
    go_ret
    exact ⟨rfl, rfl⟩

set_option maxHeartbeats 1000000 in
theorem rank_neg (a : Nat) (r : Int) (h : Fl.isNaN a = false) (hb : bits .andNot .u64 (a : Int) 9223372036854775808 = r) (h0 : 0 ≤ r) (h1 : r ≤ 9218868437227405312) (s0 : 9223372036854775808 ≤ a) (s1 : a < 18446744073709551616) (w : World) :
    Calls Try.prog 31 #[.float .f64 a] w fun e w' => e = .returned (.int .i64 (-r - 1)) ∧ w = w' := by
  have c1 := fun (x : World) => Lib.hid (refnan_t a false h x)
  clear h
  go_enter Try.func31, Try.ntmps31
  go_wp2_with (first | (go_at_call 29; ((with_reducible refine ((c1 _).out).mono ?_); rintro e w' ⟨rfl, rfl⟩)))
  all_goals
    go_ret
    exact ⟨ret_int (by omega), rfl⟩

set_option maxHeartbeats 1000000 in
theorem rank_pos (a : Nat) (r : Int) (h : Fl.isNaN a = false) (hb : bits .andNot .u64 (a : Int) 9223372036854775808 = r) (h0 : 0 ≤ r) (h1 : r ≤ 9218868437227405312) (s0 : a < 9223372036854775808) (w : World) :
    Calls Try.prog 31 #[.float .f64 a] w fun e w' => e = .returned (.int .i64 r) ∧ w = w' := by
  have c1 := fun (x : World) => Lib.hid (refnan_t a false h x)
  clear h
  go_enter Try.func31, Try.ntmps31
  go_wp2_with (first | (go_at_call 29; ((with_reducible refine ((c1 _).out).mono ?_); rintro e w' ⟨rfl, rfl⟩)))
  all_goals
    go_ret
    exact ⟨ret_int (by omega), rfl⟩

theorem rank_any {a : Nat} (wa : a < 2 ^ 64) (w : World) :
    Calls Try.prog 31 #[.float .f64 a] w fun e w' => e = .returned (.int .i64 (Cv.rank a)) ∧ w = w' := by
  cases h : Fl.isNaN a
  · have b := Cv.rung_num h
    rw [Cv.inf_num] at b
    have hb := rung_bits wa
    cases s : Fl.sgn a
    · have e : Cv.rank a = (Fl.rung a : Int) := by unfold Cv.rank; rw [h, s]; rfl
      rw [e]
      refine rank_pos a _ h hb (by omega) (by omega) ?_ w
      unfold Fl.sgn at s
      simp at s
      omega
    · have e : Cv.rank a = -(Fl.rung a : Int) - 1 := by unfold Cv.rank; rw [h, s]; rfl
      rw [e]
      refine rank_neg a _ h hb (by omega) (by omega) ?_ (by omega) w
      unfold Fl.sgn at s
      simp at s
      omega
  · have e : Cv.rank a = 9223372036854775807 := by unfold Cv.rank; rw [h]; rfl
    rw [e]
    exact rank_nan a h w

set_option maxHeartbeats 1000000 in
theorem refless_any {a b : Nat} (wa : a < 2 ^ 64) (wb : b < 2 ^ 64) (w : World) :
    Calls Try.prog 15 #[.float .f64 a, .float .f64 b] w fun e w' => e = .returned (.bool (Cv.less a b)) ∧ w = w' := by
  have c1 := fun (x : World) => Lib.hid (rank_any wa x)
  have c2 := fun (x : World) => Lib.hid (rank_any wb x)
  clear wa wb
  go_enter Try.func15, Try.ntmps15
  go_wp2_with (first | (go_at_call 31; first | ((with_reducible refine ((c1 _).out).mono ?_); rintro e w' ⟨rfl, rfl⟩) | ((with_reducible refine ((c2 _).out).mono ?_); rintro e w' ⟨rfl, rfl⟩)))
  all_goals
    go_ret
    exact ⟨rfl, rfl⟩

set_option maxHeartbeats 1000000 in
theorem unit_nan (t : Nat) (h : Fl.isNaN t = true) (w : World) :
    Calls Try.prog 16 #[.float .f64 t] w fun e w' => e = .returned (.float .f64 0) ∧ w = w' := by
  have c1 := fun (x : World) => Lib.hid (isnan_t t true h x)
  clear h
  go_enter Try.func16, Try.ntmps16
  go_wp2_with (first | (go_at_call 28; ((with_reducible refine ((c1 _).out).mono ?_); rintro e w' ⟨rfl, rfl⟩)))
  all_goals
    go_ret
    exact ⟨rfl, rfl⟩

set_option maxHeartbeats 1000000 in
theorem unit_low (t : Nat) (h : Fl.isNaN t = false) (i : (FloatKind.f64.format.order t 0 == some .lt || FloatKind.f64.format.order t 0 == some .eq) = true) (w : World) :
    Calls Try.prog 16 #[.float .f64 t] w fun e w' => e = .returned (.float .f64 0) ∧ w = w' := by
  have c1 := fun (x : World) => Lib.hid (isnan_t t false h x)
  clear h
  go_enter Try.func16, Try.ntmps16
  go_wp2_with (first | (go_at_call 28; ((with_reducible refine ((c1 _).out).mono ?_); rintro e w' ⟨rfl, rfl⟩)))
  all_goals
    go_ret
    exact ⟨rfl, rfl⟩

set_option maxHeartbeats 1000000 in
theorem unit_high (t : Nat) (h : Fl.isNaN t = false) (i : (FloatKind.f64.format.order t 0 == some .lt || FloatKind.f64.format.order t 0 == some .eq) = false) (j : (FloatKind.f64.format.order t 4607182418800017408 == some .gt || FloatKind.f64.format.order t 4607182418800017408 == some .eq) = true) (w : World) :
    Calls Try.prog 16 #[.float .f64 t] w fun e w' => e = .returned (.float .f64 4607182418800017408) ∧ w = w' := by
  have c1 := fun (x : World) => Lib.hid (isnan_t t false h x)
  clear h
  go_enter Try.func16, Try.ntmps16
  go_wp2_with (first | (go_at_call 28; ((with_reducible refine ((c1 _).out).mono ?_); rintro e w' ⟨rfl, rfl⟩)))
  all_goals
    go_ret
    exact ⟨rfl, rfl⟩

set_option maxHeartbeats 1000000 in
theorem unit_mid (t : Nat) (h : Fl.isNaN t = false) (i : (FloatKind.f64.format.order t 0 == some .lt || FloatKind.f64.format.order t 0 == some .eq) = false) (j : (FloatKind.f64.format.order t 4607182418800017408 == some .gt || FloatKind.f64.format.order t 4607182418800017408 == some .eq) = false) (w : World) :
    Calls Try.prog 16 #[.float .f64 t] w fun e w' => e = .returned (.float .f64 t) ∧ w = w' := by
  have c1 := fun (x : World) => Lib.hid (isnan_t t false h x)
  clear h
  go_enter Try.func16, Try.ntmps16
  go_wp2_with (first | (go_at_call 28; ((with_reducible refine ((c1 _).out).mono ?_); rintro e w' ⟨rfl, rfl⟩)))
  all_goals
    go_ret
    exact ⟨rfl, rfl⟩

set_option maxHeartbeats 1000000 in
theorem refunit_high (t : Nat) (j : (FloatKind.f64.format.order t 4607182418800017408 == some .gt || FloatKind.f64.format.order t 4607182418800017408 == some .eq) = true) (w : World) :
    Calls Try.prog 17 #[.float .f64 t] w fun e w' => e = .returned (.float .f64 4607182418800017408) ∧ w = w' := by
  go_enter Try.func17, Try.ntmps17
  go_wp2
  all_goals
    go_ret
    exact ⟨rfl, rfl⟩

set_option maxHeartbeats 1000000 in
theorem refunit_mid (t : Nat) (j : (FloatKind.f64.format.order t 4607182418800017408 == some .gt || FloatKind.f64.format.order t 4607182418800017408 == some .eq) = false) (i : (FloatKind.f64.format.order t 0 == some .gt) = true) (w : World) :
    Calls Try.prog 17 #[.float .f64 t] w fun e w' => e = .returned (.float .f64 t) ∧ w = w' := by
  go_enter Try.func17, Try.ntmps17
  go_wp2
  all_goals
    go_ret
    exact ⟨rfl, rfl⟩

set_option maxHeartbeats 1000000 in
theorem refunit_low (t : Nat) (j : (FloatKind.f64.format.order t 4607182418800017408 == some .gt || FloatKind.f64.format.order t 4607182418800017408 == some .eq) = false) (i : (FloatKind.f64.format.order t 0 == some .gt) = false) (w : World) :
    Calls Try.prog 17 #[.float .f64 t] w fun e w' => e = .returned (.float .f64 0) ∧ w = w' := by
  go_enter Try.func17, Try.ntmps17
  go_wp2
  all_goals
    go_ret
    exact ⟨rfl, rfl⟩

theorem unit_any (t : Nat) (w : World) :
    Calls Try.prog 16 #[.float .f64 t] w fun e w' => e = .returned (.float .f64 (Cv.unit t)) ∧ w = w' := by
  unfold Cv.unit
  cases h : Fl.isNaN t
  · rw [if_neg (by simp)]
    have i := Fl.le_iff h Cv.n0
    have j := Fl.ge_iff h Cv.n1
    rw [Cv.z0] at i
    rw [Cv.z1] at j
    by_cases c : Fl.Z t ≤ 0
    · rw [if_pos c]; rw [decide_eq_true c] at i; exact unit_low t h i w
    · rw [if_neg c]; rw [decide_eq_false c] at i
      by_cases c2 : (Fl.U : Int) ≤ Fl.Z t
      · rw [if_pos c2]; rw [decide_eq_true c2] at j; exact unit_high t h i j w
      · rw [if_neg c2]; rw [decide_eq_false c2] at j; exact unit_mid t h i j w
  · rw [if_pos rfl]; exact unit_nan t h w

theorem refunit_any (t : Nat) (w : World) :
    Calls Try.prog 17 #[.float .f64 t] w fun e w' => e = .returned (.float .f64 (Cv.unit t)) ∧ w = w' := by
  unfold Cv.unit
  cases h : Fl.isNaN t
  · rw [if_neg (by simp)]
    have i := Fl.gt_iff h Cv.n0
    have j := Fl.ge_iff h Cv.n1
    rw [Cv.z0] at i
    rw [Cv.z1] at j
    have up := Cv.U0
    by_cases c : Fl.Z t ≤ 0
    · rw [if_pos c]; rw [decide_eq_false (by omega)] at i; rw [decide_eq_false (by omega)] at j; exact refunit_low t j i w
    · rw [if_neg c]; rw [decide_eq_true (by omega)] at i
      by_cases c2 : (Fl.U : Int) ≤ Fl.Z t
      · rw [if_pos c2]; rw [decide_eq_true c2] at j; exact refunit_high t j w
      · rw [if_neg c2]; rw [decide_eq_false c2] at j; exact refunit_mid t j i w
  · rw [if_pos rfl]
    have i : (FloatKind.f64.format.order t 0 == some .gt) = false := by rw [show FloatKind.f64.format.order t 0 = none from Fl.order_nan_left _ h]; rfl
    have j : (FloatKind.f64.format.order t 4607182418800017408 == some .gt || FloatKind.f64.format.order t 4607182418800017408 == some .eq) = false := by rw [show FloatKind.f64.format.order t 4607182418800017408 = none from Fl.order_nan_left _ h]; rfl
    exact refunit_low t j i w
end Go.Proofs.Ytdddpnjamgbcmaa
