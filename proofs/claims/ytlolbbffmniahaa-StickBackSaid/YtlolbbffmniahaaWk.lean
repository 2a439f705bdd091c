import Derived.Test.YtlolbbffmniahaaRows
import Derived.Test.YtlolbbffmniahaaSt
import Derived.WalkKit
import Derived.WalkSpells
import Derived.WalkLawsBesides
import Derived.Laws.Externs
import Derived.Laws.BitsAllLaws
import Derived.Lib.Hide
namespace Go.Proofs.Ytlolbbffmniahaa
open Go.RowKit

@[go_sem] theorem bits28 (b : Nat) (w : World) : (callFunc 28 #[.float .f64 b]).run Try.prog w = .ok (.value (.int .u64 b)) w := by
  rw [run_callFunc_extern Try.func28 (by kernel_rfl) (by kernel_rfl) (by kernel_rfl) (e := Extern.MathFloatBits.float64bits) (by kernel_rfl)]
  rfl
@[go_sem] theorem from30 (n : Int) (w : World) : (callFunc 30 #[.int .u64 n]).run Try.prog w = .ok (.value (.float .f64 n.toNat)) w := by
  rw [run_callFunc_extern Try.func30 (by kernel_rfl) (by kernel_rfl) (by kernel_rfl) (e := Extern.MathFloatBits.float64frombits) (by kernel_rfl)]
  rfl

@[go_sem] theorem unary_negf (b : Nat) : Op.unary .neg (.float .f64 b) = pure (.float .f64 (Fl.flip b)) := rfl

theorem abs_num (b : Nat) (hb : b < 2 ^ 64) : (bits .andNot .u64 (b : Int) 9223372036854775808).toNat = b % 2 ^ 63 := by
  have h := u64_andNot_nat b 9223372036854775808 hb (by omega)
  rw [show ((9223372036854775808 : Nat) : Int) = 9223372036854775808 from rfl] at h
  rw [h, Int.toNat_natCast]
  exact Nat.and_two_pow_sub_one_eq_mod b 63

theorem sgn_num (b : Nat) (_hb : b < 2 ^ 64) : decide (wrap64 (b : Int) < 0) = Fl.sgn b := by
  unfold wrap64 Fl.sgn
  rw [Bool.eq_iff_iff, decide_eq_true_eq, beq_iff_eq]
  omega

theorem ret_float {a b : Nat} (h : a = b) : Ending.returned (.float .f64 a) = .returned (.float .f64 b) := by rw [h]
theorem ret_bool {a b : Bool} (h : a = b) : Ending.returned (.bool a) = .returned (.bool b) := by rw [h]
theorem ret_i8 {a b : Int} (h : a = b) : Ending.returned (.int .i8 a) = .returned (.int .i8 b) := by rw [h]

set_option maxHeartbeats 400000 in
theorem abs_any (b : Nat) (hb : b < 2 ^ 64) (w : World) :
    Calls Try.prog 25 #[.float .f64 b] w fun e w' => e = .returned (.float .f64 (b % 2 ^ 63)) ∧ w = w' := by
  go_enter Try.func25, Try.ntmps25
  go_wp2
  go_ret
  exact ⟨ret_float (abs_num b hb), rfl⟩

set_option maxHeartbeats 400000 in
theorem signbit_any (b : Nat) (hb : b < 2 ^ 64) (w : World) :
    Calls Try.prog 31 #[.float .f64 b] w fun e w' => e = .returned (.bool (Fl.sgn b)) ∧ w = w' := by
  go_enter Try.func31, Try.ntmps31
  go_wp2
  go_ret
  exact ⟨ret_bool (sgn_num b hb), rfl⟩

theorem ne_self (b : Nat) : (FloatKind.f64.format.order b b != some .eq) = Fl.isNaN b := by
  show (Ieee.double.order b b != some .eq) = _
  cases h : Fl.isNaN b
  · have := Fl.eq_iff h h
    rw [bne, this]; simp
  · rw [Fl.order_nan_left b h]; rfl

set_option maxHeartbeats 400000 in
theorem isnan_any (b : Nat) (w : World) :
    Calls Try.prog 23 #[.float .f64 b] w fun e w' => e = .returned (.bool (Fl.isNaN b)) ∧ w = w' := by
  go_enter Try.func23, Try.ntmps23
  go_wp2
  go_ret
  exact ⟨ret_bool (ne_self b), rfl⟩

set_option maxHeartbeats 400000 in
theorem nan_any (w : World) :
    Calls Try.prog 21 #[] w fun e w' => e = .returned (.float .f64 9221120237041090561) ∧ w = w' := by
  go_enter Try.func21, Try.ntmps21
  go_wp2
  go_ret
  exact ⟨rfl, rfl⟩

set_option maxHeartbeats 400000 in
theorem inf_pos (w : World) :
    Calls Try.prog 22 #[.int .i64 1] w fun e w' => e = .returned (.float .f64 9218868437227405312) ∧ w = w' := by
  go_enter Try.func22, Try.ntmps22
  go_wp2
  go_ret
  exact ⟨rfl, rfl⟩

set_option maxHeartbeats 400000 in
theorem isinf_pos (b : Nat) (w : World) :
    Calls Try.prog 24 #[.float .f64 b, .int .i64 1] w fun e w' => e = .returned (.bool (Ieee.double.order b 9218868437227405311 == some .gt)) ∧ w = w' := by
  go_enter Try.func24, Try.ntmps24
  go_wp2
  go_ret
  exact ⟨rfl, rfl⟩

set_option maxHeartbeats 400000 in
theorem isinf_neg (b : Nat) (w : World) :
    Calls Try.prog 24 #[.float .f64 b, .int .i64 (-1)] w fun e w' => e = .returned (.bool (Ieee.double.order (Fl.flip b) 9218868437227405311 == some .gt)) ∧ w = w' := by
  go_enter Try.func24, Try.ntmps24
  go_wp2
  go_ret
  exact ⟨rfl, rfl⟩

theorem n1 : Fl.isNaN 9218868437227405311 = false := by decide +kernel
theorem n2 : Fl.isNaN 0 = false := by decide +kernel
theorem n3 : Fl.isNaN 4607182418800017408 = false := by decide +kernel
theorem n4 : Fl.isNaN 13830554455654793216 = false := by decide +kernel
theorem n5 : Fl.isNaN 4593671619917905920 = false := by decide +kernel
theorem z1 : Fl.Z 9218868437227405311 = Fl.G 9218868437227405311 := by decide +kernel
theorem z2 : Fl.Z 0 = 0 := by decide +kernel
theorem z3 : Fl.Z 4607182418800017408 = Fl.U := by decide +kernel
theorem z4 : Fl.Z 13830554455654793216 = -(Fl.U : Int) := by decide +kernel
theorem z5 : 8 * Fl.Z 4593671619917905920 = Fl.U := by decide +kernel
theorem g1 : Fl.U < Fl.G 9218868437227405311 := by decide +kernel

set_option maxHeartbeats 400000 in
theorem round_neg (b s t : Nat) (n : Int) (hb : b < 2 ^ 64) (hs : Fl.sgn b = true) (hm : Ieee.double.mul b 4638637247447433216 = some s) (hd : Ieee.double.sub s 4602678819172646912 = some t) (hc : floatToIntVal .f64 t .i8 = some n) (w : World) :
    Calls Try.prog 26 #[.float .f64 b] w fun e w' => e = .returned (.int .i8 n) ∧ w = w' := by
  have h1 := fun w => run_float_arith (P := Try.prog) w .mul 22 .f64 b 4638637247447433216 s hm
  have h2 := fun w => run_float_arith (P := Try.prog) w .sub 22 .f64 s 4602678819172646912 t hd
  have h3 := fun w => run_convert_float_int (P := Try.prog) w 22 23 .f64 .i8 t n (by kernel_rfl) Try.underlying23 hc
  clear hm hd hc
  go_enter Try.func26, Try.ntmps26
  go_wp2_with (go_at_call 31; refine (signbit_any _ hb _).mono ?_; rintro e w' ⟨rfl, rfl⟩)
  go_ret
  exact ⟨rfl, rfl⟩

set_option maxHeartbeats 400000 in
theorem round_pos (b s t : Nat) (n : Int) (hb : b < 2 ^ 64) (hs : Fl.sgn b = false) (hm : Ieee.double.mul b 4638637247447433216 = some s) (hd : Ieee.double.add s 4602678819172646912 = some t) (hc : floatToIntVal .f64 t .i8 = some n) (w : World) :
    Calls Try.prog 26 #[.float .f64 b] w fun e w' => e = .returned (.int .i8 n) ∧ w = w' := by
  have h1 := fun w => run_float_arith (P := Try.prog) w .mul 22 .f64 b 4638637247447433216 s hm
  have h2 := fun w => run_float_arith (P := Try.prog) w .add 22 .f64 s 4602678819172646912 t hd
  have h3 := fun w => run_convert_float_int (P := Try.prog) w 22 23 .f64 .i8 t n (by kernel_rfl) Try.underlying23 hc
  clear hm hd hc
  go_enter Try.func26, Try.ntmps26
  go_wp2_with (go_at_call 31; refine (signbit_any _ hb _).mono ?_; rintro e w' ⟨rfl, rfl⟩)
  go_ret
  exact ⟨rfl, rfl⟩

/-- Between an eighth and one, either way. -/
theorem round_any (b : Nat) (hb : b < 2 ^ 64) (h : Fl.G (Fl.rung b) ≤ Fl.U) (w : World) :
    Calls Try.prog 26 #[.float .f64 b] w fun e w' => e = .returned (.int .i8 (if Fl.sgn b then -(St.K (Fl.rung b) : Int) else St.K (Fl.rung b))) ∧ w = w' := by
  cases hs : Fl.sgn b
  · obtain ⟨s, t, h1, h2, h3⟩ := St.steps_pos hs h
    exact round_pos b s t _ hb hs h1 h2 h3 w
  · obtain ⟨s, t, h1, h2, h3⟩ := St.steps_neg hs h
    exact round_neg b s t _ hb hs h1 h2 h3 w

theorem axis_nan (b : Nat) (hn : Fl.isNaN b = true) (w : World) :
    Calls Try.prog 12 #[.float .f64 b] w fun e w' => e = .returned (.int .i8 0) ∧ w = w' := by
  go_enter Try.func12, Try.ntmps12
  go_wp2_with (go_at_call 23; refine (isnan_any _ _).mono ?_; rintro e w' ⟨rfl, rfl⟩)
  go_ret
  exact ⟨rfl, rfl⟩

theorem isinf_pos_t (b : Nat) (t : Bool) (h : (Ieee.double.order b 9218868437227405311 == some .gt) = t) (w : World) :
    Calls Try.prog 24 #[.float .f64 b, .int .i64 1] w fun e w' => e = .returned (.bool t) ∧ w = w' := by
  rw [← h]; exact isinf_pos b w
theorem isinf_neg_t (b : Nat) (t : Bool) (h : (Ieee.double.order (Fl.flip b) 9218868437227405311 == some .gt) = t) (w : World) :
    Calls Try.prog 24 #[.float .f64 b, .int .i64 (-1)] w fun e w' => e = .returned (.bool t) ∧ w = w' := by
  rw [← h]; exact isinf_neg b w
theorem isnan_t (b : Nat) (t : Bool) (h : Fl.isNaN b = t) (w : World) :
    Calls Try.prog 23 #[.float .f64 b] w fun e w' => e = .returned (.bool t) ∧ w = w' := by
  rw [← h]; exact isnan_any b w

set_option maxHeartbeats 1000000 in
theorem axis_path (b : Nat) (n : Int) (t1 t2 t3 t4 t5 t6 : Bool) (hb : b < 2 ^ 64) (hn : Hid (Fl.isNaN b = false))
    (i1 : Hid ((Ieee.double.order b 9218868437227405311 == some .gt) = t1))
    (i2 : Hid ((Ieee.double.order (Fl.flip b) 9218868437227405311 == some .gt) = t2))
    (i3 : (FloatKind.f64.format.order b 0 == some .eq) = t3)
    (i4 : (FloatKind.f64.format.order b 4607182418800017408 == some .gt || FloatKind.f64.format.order b 4607182418800017408 == some .eq) = t4)
    (i5 : (FloatKind.f64.format.order b 13830554455654793216 == some .lt || FloatKind.f64.format.order b 13830554455654793216 == some .eq) = t5)
    (i6 : (FloatKind.f64.format.order (b % 2 ^ 63) 4593671619917905920 == some .lt) = t6)
    (hr : t1 = false → t2 = false → t3 = false → t4 = false → t5 = false → t6 = false → ∀ w, Calls Try.prog 26 #[.float .f64 b] w fun e w' => e = .returned (.int .i8 n) ∧ w = w') (w : World) :
    Calls Try.prog 12 #[.float .f64 b] w fun e w' => e = .returned (.int .i8 (if t1 then 127 else if t2 then -127 else if t3 then 0 else if t4 then 127 else if t5 then -127 else if t6 then 0 else n)) ∧ w = w' := by
  cases t1
  · cases t2
    · cases t3
      · cases t4
        · cases t5
          · cases t6
            · have hr' := Lib.hid (hr rfl rfl rfl rfl rfl rfl)
              clear hr
              go_enter Try.func12, Try.ntmps12
              go_wp2_with (first | (go_at_call 23; refine (isnan_t _ _ hn.out _).mono ?_; rintro e w' ⟨rfl, rfl⟩) | (go_at_call 24; ((with_reducible refine (isinf_pos_t _ _ i1.out _).mono ?_); rintro e w' ⟨rfl, rfl⟩)) | (go_at_call 24; ((with_reducible refine (isinf_neg_t _ _ i2.out _).mono ?_); rintro e w' ⟨rfl, rfl⟩)) | (go_at_call 25; refine (abs_any _ hb _).mono ?_; rintro e w' ⟨rfl, rfl⟩) | (go_at_call 26; refine (hr'.out _).mono ?_; rintro e w' ⟨rfl, rfl⟩))
              go_ret
              exact ⟨rfl, rfl⟩
            · clear hr
              go_enter Try.func12, Try.ntmps12
              go_wp2_with (first | (go_at_call 23; refine (isnan_t _ _ hn.out _).mono ?_; rintro e w' ⟨rfl, rfl⟩) | (go_at_call 24; ((with_reducible refine (isinf_pos_t _ _ i1.out _).mono ?_); rintro e w' ⟨rfl, rfl⟩)) | (go_at_call 24; ((with_reducible refine (isinf_neg_t _ _ i2.out _).mono ?_); rintro e w' ⟨rfl, rfl⟩)) | (go_at_call 25; refine (abs_any _ hb _).mono ?_; rintro e w' ⟨rfl, rfl⟩))
              go_ret
              exact ⟨rfl, rfl⟩
          · clear hr
            go_enter Try.func12, Try.ntmps12
            go_wp2_with (first | (go_at_call 23; refine (isnan_t _ _ hn.out _).mono ?_; rintro e w' ⟨rfl, rfl⟩) | (go_at_call 24; ((with_reducible refine (isinf_pos_t _ _ i1.out _).mono ?_); rintro e w' ⟨rfl, rfl⟩)) | (go_at_call 24; ((with_reducible refine (isinf_neg_t _ _ i2.out _).mono ?_); rintro e w' ⟨rfl, rfl⟩)) | (go_at_call 25; refine (abs_any _ hb _).mono ?_; rintro e w' ⟨rfl, rfl⟩))
            go_ret
            exact ⟨rfl, rfl⟩
        · clear hr
          go_enter Try.func12, Try.ntmps12
          go_wp2_with (first | (go_at_call 23; refine (isnan_t _ _ hn.out _).mono ?_; rintro e w' ⟨rfl, rfl⟩) | (go_at_call 24; ((with_reducible refine (isinf_pos_t _ _ i1.out _).mono ?_); rintro e w' ⟨rfl, rfl⟩)) | (go_at_call 24; ((with_reducible refine (isinf_neg_t _ _ i2.out _).mono ?_); rintro e w' ⟨rfl, rfl⟩)) | (go_at_call 25; refine (abs_any _ hb _).mono ?_; rintro e w' ⟨rfl, rfl⟩))
          go_ret
          exact ⟨rfl, rfl⟩
      · clear hr
        go_enter Try.func12, Try.ntmps12
        go_wp2_with (first | (go_at_call 23; refine (isnan_t _ _ hn.out _).mono ?_; rintro e w' ⟨rfl, rfl⟩) | (go_at_call 24; ((with_reducible refine (isinf_pos_t _ _ i1.out _).mono ?_); rintro e w' ⟨rfl, rfl⟩)) | (go_at_call 24; ((with_reducible refine (isinf_neg_t _ _ i2.out _).mono ?_); rintro e w' ⟨rfl, rfl⟩)) | (go_at_call 25; refine (abs_any _ hb _).mono ?_; rintro e w' ⟨rfl, rfl⟩))
        go_ret
        exact ⟨rfl, rfl⟩
    · clear hr
      go_enter Try.func12, Try.ntmps12
      go_wp2_with (first | (go_at_call 23; refine (isnan_t _ _ hn.out _).mono ?_; rintro e w' ⟨rfl, rfl⟩) | (go_at_call 24; ((with_reducible refine (isinf_pos_t _ _ i1.out _).mono ?_); rintro e w' ⟨rfl, rfl⟩)) | (go_at_call 24; ((with_reducible refine (isinf_neg_t _ _ i2.out _).mono ?_); rintro e w' ⟨rfl, rfl⟩)) | (go_at_call 25; refine (abs_any _ hb _).mono ?_; rintro e w' ⟨rfl, rfl⟩))
      go_ret
      exact ⟨rfl, rfl⟩
  · clear hr
    go_enter Try.func12, Try.ntmps12
    go_wp2_with (first | (go_at_call 23; refine (isnan_t _ _ hn.out _).mono ?_; rintro e w' ⟨rfl, rfl⟩) | (go_at_call 24; ((with_reducible refine (isinf_pos_t _ _ i1.out _).mono ?_); rintro e w' ⟨rfl, rfl⟩)) | (go_at_call 24; ((with_reducible refine (isinf_neg_t _ _ i2.out _).mono ?_); rintro e w' ⟨rfl, rfl⟩)) | (go_at_call 25; refine (abs_any _ hb _).mono ?_; rintro e w' ⟨rfl, rfl⟩))
    go_ret
    exact ⟨rfl, rfl⟩

theorem axis_any (b : Nat) (hb : b < 2 ^ 64) (w : World) :
    Calls Try.prog 12 #[.float .f64 b] w fun e w' => e = .returned (.int .i8 (St.axis b)) ∧ w = w' := by
  cases hn : Fl.isNaN b
  · have up := St.U_pos
    have i1 : (Ieee.double.order b 9218868437227405311 == some .gt) = decide (Fl.Z 9218868437227405311 < Fl.Z b) := Fl.gt_iff hn n1
    have i2 : (Ieee.double.order (Fl.flip b) 9218868437227405311 == some .gt) = decide (Fl.Z 9218868437227405311 < Fl.Z (Fl.flip b)) := Fl.gt_iff (by rw [Fl.flip_nan]; exact hn) n1
    have i3 : (FloatKind.f64.format.order b 0 == some .eq) = decide (Fl.Z b = Fl.Z 0) := Fl.eq_iff hn n2
    have i4 : (FloatKind.f64.format.order b 4607182418800017408 == some .gt || FloatKind.f64.format.order b 4607182418800017408 == some .eq) = decide (Fl.Z 4607182418800017408 ≤ Fl.Z b) := Fl.ge_iff hn n3
    have i5 : (FloatKind.f64.format.order b 13830554455654793216 == some .lt || FloatKind.f64.format.order b 13830554455654793216 == some .eq) = decide (Fl.Z b ≤ Fl.Z 13830554455654793216) := Fl.le_iff hn n4
    have i6 : (FloatKind.f64.format.order (b % 2 ^ 63) 4593671619917905920 == some .lt) = decide (Fl.Z (b % 2 ^ 63) < Fl.Z 4593671619917905920) := Fl.lt_iff (by rw [Fl.abs_nan]; exact hn) n5
    rw [Fl.flip_Z b hb] at i2
    rw [z1] at i1 i2
    rw [z2] at i3
    rw [z3] at i4
    rw [z4] at i5
    rw [Fl.abs_Z] at i6
    have zz5 := z5
    have gg1 := g1
    refine (axis_path b (if Fl.sgn b then -(St.K (Fl.rung b) : Int) else St.K (Fl.rung b)) _ _ _ _ _ _ hb (Lib.hid hn) (Lib.hid i1) (Lib.hid i2) i3 i4 i5 i6 ?_ w).mono ?_
    · intro a1 a2 a3 a4 a5 a6 w
      simp only [decide_eq_false_iff_not] at a1 a2 a3 a4 a5 a6
      refine round_any b hb ?_ w
      have := Fl.Z_abs b
      omega
    · rintro e w' ⟨rfl, rfl⟩
      refine ⟨ret_i8 ?_, rfl⟩
      unfold St.axis
      rw [hn]
      have zb : Fl.Z b = if Fl.sgn b then -(Fl.G (Fl.rung b) : Int) else Fl.G (Fl.rung b) := rfl
      rw [zb]
      generalize Fl.sgn b = s at *
      generalize Fl.G (Fl.rung b) = g at *
      generalize St.K (Fl.rung b) = k at *
      generalize Fl.Z 4593671619917905920 = z at *
      generalize Fl.G 9218868437227405311 = g2 at *
      generalize Fl.U = u at *
      clear i1 i2 i3 i4 i5 i6
      cases s <;> simp only [decide_eq_true_eq, Bool.false_eq_true, if_false, if_true] <;> (repeat' split) <;> omega
  · refine (axis_nan b hn w).mono ?_
    rintro e w' ⟨rfl, rfl⟩
    refine ⟨ret_i8 ?_, rfl⟩
    unfold St.axis
    rw [hn]
    rfl
end Go.Proofs.Ytlolbbffmniahaa
