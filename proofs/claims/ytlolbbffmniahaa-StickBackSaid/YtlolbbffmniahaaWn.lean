import Derived.Test.YtlolbbffmniahaaWl
import Derived.Deep.QuietTactic
import Derived.BigQuiet
namespace Go.Proofs.Ytlolbbffmniahaa
open Go.RowKit

theorem below_drewN {B : Nat} {a w : World} (n : Nat) (h : Below B a w) : Below B a (w.drewN n) := ⟨h.os, h.tape, h.output, h.size, h.block⟩

theorem bes_t (x y : Int) (t : Bool) (h : bes x y = t) (wx : -128 ≤ x ∧ x ≤ 127) (wy : -128 ≤ y ∧ y ≤ 127) (w : World) :
    Calls Try.prog 29 #[.int .i8 x, .int .i8 y] w fun e w' => e = .returned (.bool t) ∧ w = w' := by
  rw [← h]; exact beside_any x y wx wy w

set_option maxHeartbeats 400000 in
theorem near_any (x y b x' y' b' : Int) (wx : -128 ≤ x ∧ x ≤ 127) (wy : -128 ≤ y ∧ y ≤ 127) (wx' : -128 ≤ x' ∧ x' ≤ 127) (wy' : -128 ≤ y' ∧ y' ≤ 127) (w : World) :
    Calls Try.prog 19 #[.agg #[.int .i8 x, .int .i8 y, .int .u8 b], .agg #[.int .i8 x', .int .i8 y', .int .u8 b']] w fun e w' => e = .returned (.bool (near x y b x' y' b')) ∧ Below w.heap.size w w' := by
  have hfin : ∀ t1 t2 t3 : Bool, (b == b') = t1 → bes x x' = t2 → bes y y' = t3 → near x y b x' y' b' = (t1 && t2 && t3) := by rintro _ _ _ rfl rfl rfl; rfl
  by_cases h1 : (b == b') = true
  · by_cases h2 : bes x x' = true
    · have H := Lib.hid (hfin true true _ h1 h2 rfl); clear hfin
      have h2' := Lib.hid h2; clear h2
      go_enter Try.func19, Try.ntmps19
      go_wp2_with (first | (go_at_call 29; ((with_reducible refine (bes_t x x' _ h2'.out wx wx' _).mono ?_); rintro e w' ⟨rfl, rfl⟩)) | (go_at_call 29; ((with_reducible refine (beside_any y y' wy wy' _).mono ?_); rintro e w' ⟨rfl, rfl⟩)))
      go_ret
      exact ⟨by rw [H.out]; simp, ((Below.refl _ _).alloc (Nat.le_refl _) _).alloc (by simp) _⟩
    · have h2' : bes x x' = false := by simpa using h2
      have H := Lib.hid (hfin true false _ h1 h2' rfl); clear hfin h2
      have h3 := Lib.hid h2'; clear h2'
      go_enter Try.func19, Try.ntmps19
      go_wp2_with (go_at_call 29; ((with_reducible refine (bes_t x x' _ h3.out wx wx' _).mono ?_); rintro e w' ⟨rfl, rfl⟩))
      go_ret
      exact ⟨by rw [H.out]; simp, ((Below.refl _ _).alloc (Nat.le_refl _) _).alloc (by simp) _⟩
  · have h1' : (b == b') = false := by simpa using h1
    have H := Lib.hid (hfin false _ _ h1' rfl rfl); clear hfin h1
    go_enter Try.func19, Try.ntmps19
    go_wp2
    go_ret
    exact ⟨by rw [H.out]; simp, ((Below.refl _ _).alloc (Nat.le_refl _) _).alloc (by simp) _⟩

theorem bes_pair (x x' : Int) : bes x x' = (decide (-8 ≤ x - x') && decide (x - x' ≤ 8)) := rfl

set_option maxHeartbeats 400000 in
theorem refnear_any (x y b x' y' b' : Int) (wx : -128 ≤ x ∧ x ≤ 127) (wy : -128 ≤ y ∧ y ≤ 127) (wx' : -128 ≤ x' ∧ x' ≤ 127) (wy' : -128 ≤ y' ∧ y' ≤ 127) (w : World) :
    Calls Try.prog 20 #[.agg #[.int .i8 x, .int .i8 y, .int .u8 b], .agg #[.int .i8 x', .int .i8 y', .int .u8 b']] w fun e w' => e = .returned (.bool (near x y b x' y' b')) ∧ Below w.heap.size w w' := by
  go_enter Try.func20, Try.ntmps20
  go_wp2
  go_quiet (fail)
  go_wp2
  all_goals
    go_ret
    refine ⟨ret_bool ?_, below_drewN _ (((Below.refl _ _).alloc (Nat.le_refl _) _).alloc (by simp) _)⟩
    rw [Bool.eq_iff_iff]
    simp [near, bes, *]
    try omega

theorem value_least : St.value (-128) = St.value (-127) := by decide +kernel

set_option maxHeartbeats 400000 in
theorem value_any (a : Int) (wa : -128 ≤ a ∧ a ≤ 127) (w : World) :
    Calls Try.prog 15 #[.int .i8 a] w fun e w' => e = .returned (.float .f64 (St.value a)) ∧ w = w' := by
  have hv := fun w => run_float_arith (P := Try.prog) w .quo 22 .f64 _ 4638637247447433216 _ (St.value_some a wa.1 wa.2)
  by_cases h : a < -127
  · obtain rfl : a = -128 := by omega
    rw [show max (-128 : Int) (-127) = -127 from by omega] at hv
    go_enter Try.func15, Try.ntmps15
    go_wp2
    go_ret
    exact ⟨rfl, rfl⟩
  · rw [show max a (-127) = a from by omega] at hv
    have h' : decide (a < -127) = false := by simpa using h
    go_enter Try.func15, Try.ntmps15
    go_wp2
    go_ret
    exact ⟨rfl, rfl⟩

set_option maxHeartbeats 400000 in
theorem refvalue_any (a : Int) (wa : -128 ≤ a ∧ a ≤ 127) (w : World) :
    Calls Try.prog 16 #[.int .i8 a] w fun e w' => e = .returned (.float .f64 (St.value a)) ∧ w = w' := by
  have hv := fun w => run_float_arith (P := Try.prog) w .quo 22 .f64 _ 4638637247447433216 _ (St.value_some a wa.1 wa.2)
  by_cases h : a = -128
  · subst h
    rw [show max (-128 : Int) (-127) = -127 from by omega] at hv
    go_enter Try.func16, Try.ntmps16
    go_wp2
    go_ret
    exact ⟨rfl, rfl⟩
  · rw [show max a (-127) = a from by omega] at hv
    have h' : (a == -128) = false := by simpa using h
    go_enter Try.func16, Try.ntmps16
    go_wp2
    go_ret
    exact ⟨rfl, rfl⟩

set_option maxHeartbeats 400000 in
theorem refnan_any (b : Nat) (w : World) :
    Calls Try.prog 27 #[.float .f64 b] w fun e w' => e = .returned (.bool (Fl.isNaN b)) ∧ w = w' := by
  go_enter Try.func27, Try.ntmps27
  go_wp2
  go_ret
  exact ⟨ret_bool (ne_self b), rfl⟩
theorem refnan_t (b : Nat) (t : Bool) (h : Fl.isNaN b = t) (w : World) :
    Calls Try.prog 27 #[.float .f64 b] w fun e w' => e = .returned (.bool t) ∧ w = w' := by
  rw [← h]; exact refnan_any b w

set_option maxHeartbeats 400000 in
theorem same_num (b : Nat) (hn : Fl.isNaN b = false) (w : World) :
    Calls Try.prog 14 #[.float .f64 b, .float .f64 b] w fun e w' => e = .returned (.bool true) ∧ w = w' := by
  have hn' := Lib.hid hn; clear hn
  go_enter Try.func14, Try.ntmps14
  go_wp2_with (go_at_call 27; refine (refnan_t _ _ hn'.out _).mono ?_; rintro e w' ⟨rfl, rfl⟩)
  go_ret
  exact ⟨ret_bool (by simp), rfl⟩

set_option maxHeartbeats 1000000 in
theorem refaxis_path (b s t : Nat) (n : Int) (t2 t3 t4 t5 t6 : Bool) (hn : Hid (Fl.isNaN b = false))
    (i2 : (FloatKind.f64.format.order b 13817043656772681728 == some .gt) = t2)
    (i3 : (FloatKind.f64.format.order b 4593671619917905920 == some .lt) = t3)
    (i4 : (FloatKind.f64.format.order b 4607182418800017408 == some .gt || FloatKind.f64.format.order b 4607182418800017408 == some .eq) = t4)
    (i5 : (FloatKind.f64.format.order b 13830554455654793216 == some .lt || FloatKind.f64.format.order b 13830554455654793216 == some .eq) = t5)
    (i6 : (FloatKind.f64.format.order b 0 == some .gt) = t6)
    (hm : (t2 && t3) = false → t4 = false → t5 = false → Ieee.double.mul b 4638637247447433216 = some s ∧ (if t6 then Ieee.double.add s 4602678819172646912 else Ieee.double.sub s 4602678819172646912) = some t ∧ floatToIntVal .f64 t .i8 = some n) (w : World) :
    Calls Try.prog 13 #[.float .f64 b] w fun e w' => e = .returned (.int .i8 (if t2 && t3 then 0 else if t4 then 127 else if t5 then -127 else n)) ∧ w = w' := by
  cases t2
  · cases t4
    · cases t5
      · obtain ⟨h1, h2, h3⟩ := hm rfl rfl rfl
        have k1 := fun w => run_float_arith (P := Try.prog) w .mul 22 .f64 b 4638637247447433216 s h1
        have k3 := fun w => run_convert_float_int (P := Try.prog) w 22 23 .f64 .i8 t n (by kernel_rfl) Try.underlying23 h3
        clear h1 h3 hm
        cases t6
        · have k2 := fun w => run_float_arith (P := Try.prog) w .sub 22 .f64 s 4602678819172646912 t h2
          clear h2
          go_enter Try.func13, Try.ntmps13
          go_wp2_with (go_at_call 27; refine (refnan_t _ _ hn.out _).mono ?_; rintro e w' ⟨rfl, rfl⟩)
          go_ret
          exact ⟨rfl, rfl⟩
        · have k2 := fun w => run_float_arith (P := Try.prog) w .add 22 .f64 s 4602678819172646912 t h2
          clear h2
          go_enter Try.func13, Try.ntmps13
          go_wp2_with (go_at_call 27; refine (refnan_t _ _ hn.out _).mono ?_; rintro e w' ⟨rfl, rfl⟩)
          go_ret
          exact ⟨rfl, rfl⟩
      · clear hm
        go_enter Try.func13, Try.ntmps13
        go_wp2_with (go_at_call 27; refine (refnan_t _ _ hn.out _).mono ?_; rintro e w' ⟨rfl, rfl⟩)
        go_ret
        exact ⟨rfl, rfl⟩
    · clear hm
      go_enter Try.func13, Try.ntmps13
      go_wp2_with (go_at_call 27; refine (refnan_t _ _ hn.out _).mono ?_; rintro e w' ⟨rfl, rfl⟩)
      go_ret
      exact ⟨rfl, rfl⟩
  · cases t3
    · cases t4
      · cases t5
        · obtain ⟨h1, h2, h3⟩ := hm rfl rfl rfl
          have k1 := fun w => run_float_arith (P := Try.prog) w .mul 22 .f64 b 4638637247447433216 s h1
          have k3 := fun w => run_convert_float_int (P := Try.prog) w 22 23 .f64 .i8 t n (by kernel_rfl) Try.underlying23 h3
          clear h1 h3 hm
          cases t6
          · have k2 := fun w => run_float_arith (P := Try.prog) w .sub 22 .f64 s 4602678819172646912 t h2
            clear h2
            go_enter Try.func13, Try.ntmps13
            go_wp2_with (go_at_call 27; refine (refnan_t _ _ hn.out _).mono ?_; rintro e w' ⟨rfl, rfl⟩)
            go_ret
            exact ⟨rfl, rfl⟩
          · have k2 := fun w => run_float_arith (P := Try.prog) w .add 22 .f64 s 4602678819172646912 t h2
            clear h2
            go_enter Try.func13, Try.ntmps13
            go_wp2_with (go_at_call 27; refine (refnan_t _ _ hn.out _).mono ?_; rintro e w' ⟨rfl, rfl⟩)
            go_ret
            exact ⟨rfl, rfl⟩
        · clear hm
          go_enter Try.func13, Try.ntmps13
          go_wp2_with (go_at_call 27; refine (refnan_t _ _ hn.out _).mono ?_; rintro e w' ⟨rfl, rfl⟩)
          go_ret
          exact ⟨rfl, rfl⟩
      · clear hm
        go_enter Try.func13, Try.ntmps13
        go_wp2_with (go_at_call 27; refine (refnan_t _ _ hn.out _).mono ?_; rintro e w' ⟨rfl, rfl⟩)
        go_ret
        exact ⟨rfl, rfl⟩
    · clear hm
      go_enter Try.func13, Try.ntmps13
      go_wp2_with (go_at_call 27; refine (refnan_t _ _ hn.out _).mono ?_; rintro e w' ⟨rfl, rfl⟩)
      go_ret
      exact ⟨rfl, rfl⟩

theorem n6 : Fl.isNaN 13817043656772681728 = false := by decide +kernel
theorem z6 : 8 * Fl.Z 13817043656772681728 = -(Fl.U : Int) := by decide +kernel

theorem refaxis_nan (b : Nat) (hn : Fl.isNaN b = true) (w : World) :
    Calls Try.prog 13 #[.float .f64 b] w fun e w' => e = .returned (.int .i8 0) ∧ w = w' := by
  have hn' := Lib.hid hn; clear hn
  go_enter Try.func13, Try.ntmps13
  go_wp2_with (go_at_call 27; refine (refnan_t _ _ hn'.out _).mono ?_; rintro e w' ⟨rfl, rfl⟩)
  go_ret
  exact ⟨rfl, rfl⟩

theorem refaxis_any (b : Nat) (w : World) :
    Calls Try.prog 13 #[.float .f64 b] w fun e w' => e = .returned (.int .i8 (St.axis b)) ∧ w = w' := by
  cases hn : Fl.isNaN b
  · have up := St.U_pos
    have i2 : (FloatKind.f64.format.order b 13817043656772681728 == some .gt) = decide (Fl.Z 13817043656772681728 < Fl.Z b) := Fl.gt_iff hn n6
    have i3 : (FloatKind.f64.format.order b 4593671619917905920 == some .lt) = decide (Fl.Z b < Fl.Z 4593671619917905920) := Fl.lt_iff hn n5
    have i4 : (FloatKind.f64.format.order b 4607182418800017408 == some .gt || FloatKind.f64.format.order b 4607182418800017408 == some .eq) = decide (Fl.Z 4607182418800017408 ≤ Fl.Z b) := Fl.ge_iff hn n3
    have i5 : (FloatKind.f64.format.order b 13830554455654793216 == some .lt || FloatKind.f64.format.order b 13830554455654793216 == some .eq) = decide (Fl.Z b ≤ Fl.Z 13830554455654793216) := Fl.le_iff hn n4
    have i6 : (FloatKind.f64.format.order b 0 == some .gt) = decide (Fl.Z 0 < Fl.Z b) := Fl.gt_iff hn n2
    rw [z3] at i4
    rw [z4] at i5
    rw [z2] at i6
    have zz5 := z5
    have zz6 := z6
    have zb : Fl.Z b = if Fl.sgn b then -(Fl.G (Fl.rung b) : Int) else Fl.G (Fl.rung b) := rfl
    have key : ∃ s t, (decide (Fl.Z 13817043656772681728 < Fl.Z b) && decide (Fl.Z b < Fl.Z 4593671619917905920)) = false → decide ((Fl.U : Int) ≤ Fl.Z b) = false → decide (Fl.Z b ≤ -(Fl.U : Int)) = false →
        Ieee.double.mul b 4638637247447433216 = some s ∧ (if decide (0 < Fl.Z b) then Ieee.double.add s 4602678819172646912 else Ieee.double.sub s 4602678819172646912) = some t ∧ floatToIntVal .f64 t .i8 = some (if Fl.sgn b then -(St.K (Fl.rung b) : Int) else St.K (Fl.rung b)) := by
      by_cases a : 8 * (Fl.G (Fl.rung b) : Int) < Fl.U ∨ (Fl.U : Int) ≤ Fl.G (Fl.rung b)
      · refine ⟨0, 0, fun a1 a2 a3 => ?_⟩
        exfalso
        simp only [Bool.and_eq_false_iff, decide_eq_false_iff_not] at a1 a2 a3
        rw [zb] at a1 a2 a3
        generalize Fl.sgn b = sg at *
        cases sg <;> simp only [Bool.false_eq_true, if_false, if_true] at a1 a2 a3 <;> omega
      · cases hs : Fl.sgn b
        · obtain ⟨s, t, h1, h2, h3⟩ := St.steps_pos hs (show Fl.G (Fl.rung b) ≤ Fl.U by omega)
          refine ⟨s, t, fun _ _ _ => ⟨h1, ?_, h3⟩⟩
          rw [hs] at zb
          simp only [Bool.false_eq_true, if_false] at zb
          rw [decide_eq_true (by omega), if_pos rfl]
          exact h2
        · obtain ⟨s, t, h1, h2, h3⟩ := St.steps_neg hs (show Fl.G (Fl.rung b) ≤ Fl.U by omega)
          refine ⟨s, t, fun _ _ _ => ⟨h1, ?_, h3⟩⟩
          rw [hs] at zb
          simp only [if_true] at zb
          rw [decide_eq_false (by omega), if_neg (by simp)]
          exact h2
    obtain ⟨s, t, key⟩ := key
    refine (refaxis_path b s t _ _ _ _ _ _ (Lib.hid hn) i2 i3 i4 i5 i6 key w).mono ?_
    rintro e w' ⟨rfl, rfl⟩
    refine ⟨ret_i8 ?_, rfl⟩
    clear key
    unfold St.axis
    rw [hn]
    rw [zb]
    generalize Fl.sgn b = s at *
    generalize Fl.G (Fl.rung b) = g at *
    generalize St.K (Fl.rung b) = k at *
    generalize Fl.Z 4593671619917905920 = z at *
    generalize Fl.Z 13817043656772681728 = z' at *
    generalize Fl.U = u at *
    clear i2 i3 i4 i5 i6 zb
    cases s <;> simp only [decide_eq_true_eq, Bool.and_eq_true, Bool.false_eq_true, if_false, if_true] <;> (repeat' split) <;> omega
  · refine (refaxis_nan b hn w).mono ?_
    rintro e w' ⟨rfl, rfl⟩
    refine ⟨ret_i8 ?_, rfl⟩
    unfold St.axis
    rw [hn]
    rfl

set_option maxHeartbeats 400000 in
theorem read_any (x y : Nat) (b : Int) (hx : x < 2 ^ 64) (hy : y < 2 ^ 64) (w : World) :
    Calls Try.prog 10 #[.float .f64 x, .float .f64 y, .int .u8 b] w fun e w' => e = .returned (.agg #[.int .i8 (St.axis x), .int .i8 (St.axis y), .int .u8 b]) ∧ Below w.heap.size w w' := by
  go_enter Try.func10, Try.ntmps10
  go_wp2_with (go_at_call 12; first | ((with_reducible refine (axis_any x hx _).mono ?_); rintro e w' ⟨rfl, rfl⟩) | ((with_reducible refine (axis_any y hy _).mono ?_); rintro e w' ⟨rfl, rfl⟩))
  exact bodyPost_ret (v := .agg #[.int .i8 (St.axis x), .int .i8 (St.axis y), .int .u8 b]) (by simp [results, Try.results10, go_sem]) rfl ⟨rfl, ((Below.refl _ _).alloc (Nat.le_refl _) _)⟩
end Go.Proofs.Ytlolbbffmniahaa
