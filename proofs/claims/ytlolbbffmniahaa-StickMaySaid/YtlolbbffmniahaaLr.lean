import Derived.Test.YtlolbbffmniahaaWt
namespace Go.Proofs.Ytlolbbffmniahaa
open Go.RowKit

/-! StickRises -/
set_option maxHeartbeats 1000000 in
theorem rises_num (x y : Nat) (hx : x < 2 ^ 64) (hy : y < 2 ^ 64) (nx : Fl.isNaN x = false) (ny : Fl.isNaN y = false) (w : World) :
    Calls Try.prog 6 #[.float .f64 x, .float .f64 y] w fun e w' => e = .returned (.bool true) ∧ Below w.heap.size w w' := by
  have o1 : (FloatKind.f64.format.order x x != some .eq) = false := (ne_self x).trans nx
  have o2 : (FloatKind.f64.format.order y y != some .eq) = false := (ne_self y).trans ny
  have o3 : (FloatKind.f64.format.order x y == some .gt) = decide (Fl.Z y < Fl.Z x) := Fl.gt_iff nx ny
  have o4 : (FloatKind.f64.format.order x y == some .lt) = decide (Fl.Z x < Fl.Z y) := Fl.lt_iff nx ny
  have c1 := fun w => Lib.hid (axis_any x hx w)
  have c2 := fun w => Lib.hid (axis_any y hy w)
  have m1 := St.axis_mono x y nx ny
  have m2 := St.axis_mono y x ny nx
  generalize St.axis x = a at *
  generalize St.axis y = b at *
  clear nx ny
  rcases Int.lt_trichotomy (Fl.Z x) (Fl.Z y) with h | h | h
  · have hab : a ≤ b := m1 (by omega)
    rw [decide_eq_false (by omega)] at o3
    rw [decide_eq_true h] at o4
    clear m1 m2 h
    go_enter Try.func6, Try.ntmps6
    go_wp2_with (first | (go_at_call 12; first | ((with_reducible refine ((c1 _).out).mono ?_); rintro e w' ⟨rfl, rfl⟩) | ((with_reducible refine ((c2 _).out).mono ?_); rintro e w' ⟨rfl, rfl⟩)) | (go_at_call 11; refine (told_any _).mono ?_; rintro e w1 ⟨rfl, hb1⟩))
    go_ret
    exact ⟨ret_bool (by simp), by assumption⟩
  · obtain rfl : a = b := by have := m1 (by omega); have := m2 (by omega); omega
    rw [decide_eq_false (by omega)] at o3 o4
    clear m1 m2 h
    go_enter Try.func6, Try.ntmps6
    go_wp2_with (first | (go_at_call 12; first | ((with_reducible refine ((c1 _).out).mono ?_); rintro e w' ⟨rfl, rfl⟩) | ((with_reducible refine ((c2 _).out).mono ?_); rintro e w' ⟨rfl, rfl⟩)) | (go_at_call 11; refine (told_any _).mono ?_; rintro e w1 ⟨rfl, hb1⟩))
    go_ret
    exact ⟨ret_bool (by simp), by assumption⟩
  · have hab : b ≤ a := m2 (by omega)
    rw [decide_eq_true h] at o3
    rw [decide_eq_false (by omega)] at o4
    clear m1 m2 h
    go_enter Try.func6, Try.ntmps6
    go_wp2_with (first | (go_at_call 12; first | ((with_reducible refine ((c1 _).out).mono ?_); rintro e w' ⟨rfl, rfl⟩) | ((with_reducible refine ((c2 _).out).mono ?_); rintro e w' ⟨rfl, rfl⟩)) | (go_at_call 11; refine (told_any _).mono ?_; rintro e w1 ⟨rfl, hb1⟩))
    go_ret
    exact ⟨ret_bool (by simp), by assumption⟩

theorem eq_self (b : Nat) : (FloatKind.f64.format.order b b == some .eq) = !Fl.isNaN b := by
  have := ne_self b
  rw [bne] at this
  rw [← this, Bool.not_not]

theorem axis_of_nan {b : Nat} (h : Fl.isNaN b = true) : St.axis b = 0 := by unfold St.axis; rw [h]; rfl

set_option maxHeartbeats 1000000 in
theorem rises_nan (x y : Nat) (hx : x < 2 ^ 64) (h : Fl.isNaN x = true ∨ Fl.isNaN x = false ∧ Fl.isNaN y = true) (w : World) :
    Calls Try.prog 6 #[.float .f64 x, .float .f64 y] w fun e w' => e = .returned (.bool true) ∧ Below w.heap.size w w' := by
  rcases h with nx | ⟨nx, ny⟩
  · have o1 : (FloatKind.f64.format.order x x != some .eq) = true := (ne_self x).trans nx
    have o2 : (FloatKind.f64.format.order x x == some .eq) = false := (eq_self x).trans (by rw [nx]; rfl)
    have c1 := fun w => Lib.hid (axis_t x 0 hx (axis_of_nan nx) w)
    clear nx
    go_enter Try.func6, Try.ntmps6
    go_wp2_with (first | (go_at_call 12; ((with_reducible refine ((c1 _).out).mono ?_); rintro e w' ⟨rfl, rfl⟩)) | (go_at_call 11; refine (told_any _).mono ?_; rintro e w1 ⟨rfl, hb1⟩))
    go_ret
    exact ⟨ret_bool (by simp), by assumption⟩
  · have o1 : (FloatKind.f64.format.order x x != some .eq) = false := (ne_self x).trans nx
    have o2 : (FloatKind.f64.format.order y y != some .eq) = true := (ne_self y).trans ny
    have o3 : (FloatKind.f64.format.order x x == some .eq) = true := (eq_self x).trans (by rw [nx]; rfl)
    clear nx ny
    go_enter Try.func6, Try.ntmps6
    go_wp2_with (go_at_call 11; refine (told_any _).mono ?_; rintro e w1 ⟨rfl, hb1⟩)
    go_ret
    exact ⟨ret_bool (by simp), by assumption⟩

theorem rises_law (x y : Nat) (hx : x < 2 ^ 64) (hy : y < 2 ^ 64) (w : World) :
    Calls Try.prog 6 #[.float .f64 x, .float .f64 y] w fun e w' => e = .returned (.bool true) ∧ Below w.heap.size w w' := by
  cases nx : Fl.isNaN x
  · cases ny : Fl.isNaN y
    · exact rises_num x y hx hy nx ny w
    · exact rises_nan x y hx (.inr ⟨nx, ny⟩) w
  · exact rises_nan x y hx (.inl nx) w

/-! StickBack -/
def backOk (a : Int) : Bool :=
  let v := St.value a
  St.reckon v == some (if -16 < max a (-127) && max a (-127) < 16 then 0 else max a (-127)) &&
  (if -16 < max a (-127) && max a (-127) < 16 then Ieee.double.order v 13817043656772681728 == some .gt && Ieee.double.order v 4593707648714924884 == some .lt
   else (Ieee.double.order v 13830554455654793216 == some .gt || Ieee.double.order v 13830554455654793216 == some .eq) && (Ieee.double.order v 4607182418800017408 == some .lt || Ieee.double.order v 4607182418800017408 == some .eq))

theorem back_ok (a : Int) (h1 : -128 ≤ a) (h2 : a ≤ 127) : backOk a = true := St.i8_cases (P := fun a => backOk a = true) (by decide +kernel) a h1 h2

set_option maxHeartbeats 1000000 in
theorem back_law (a : Int) (wa : -128 ≤ a ∧ a ≤ 127) (w : World) :
    Calls Try.prog 5 #[.int .i8 a] w fun e w' => e = .returned (.bool true) ∧ Below w.heap.size w w' := by
  have h := back_ok a wa.1 wa.2
  unfold backOk at h
  simp only [Bool.and_eq_true, beq_iff_eq] at h
  obtain ⟨h1, h2⟩ := h
  have h1 := St.axis_of h1
  have c1 := fun w => Lib.hid (value_any a wa w)
  have c2 := fun w => Lib.hid (axis_t (St.value a) _ (St.value_lt a wa.1 wa.2) h1 w)
  generalize St.value a = v at *
  clear h1
  by_cases e : a = -128
  · subst e
    rw [if_neg (by decide)] at h2
    rw [show max (-128 : Int) (-127) = -127 from by decide] at c2
    obtain ⟨o1, o2⟩ := Bool.and_eq_true_iff.1 h2
    clear h2
    have o1' : (FloatKind.f64.format.order v 13830554455654793216 == some .gt || FloatKind.f64.format.order v 13830554455654793216 == some .eq) = true := o1
    have o2' : (FloatKind.f64.format.order v 4607182418800017408 == some .lt || FloatKind.f64.format.order v 4607182418800017408 == some .eq) = true := o2
    clear o1 o2
    simp only [Int.reduceLT, Int.reduceNeg, decide_true, decide_false, Bool.false_eq_true] at c2
    go_enter Try.func5, Try.ntmps5
    go_wp2_with (first | (go_at_call 12; refine ((c2 _).out).mono ?_; rintro e w' ⟨rfl, rfl⟩) | (go_at_call 15; refine ((c1 _).out).mono ?_; rintro e w' ⟨rfl, rfl⟩) | (go_at_call 11; refine (told_any _).mono ?_; rintro e w1 ⟨rfl, hb1⟩))
    go_ret
    exact ⟨ret_bool (by simp), by assumption⟩
  · rw [show max a (-127) = a from by omega] at c2 h2
    have e' : (a == -128) = false := by simpa using e
    by_cases g1 : -16 < a
    · by_cases g2 : a < 16
      · rw [if_pos (by simp; omega)] at h2 c2
        obtain ⟨o1, o2⟩ := Bool.and_eq_true_iff.1 h2
        clear h2 e
        have o1' : (FloatKind.f64.format.order v 13817043656772681728 == some .gt) = true := o1
        have o2' : (FloatKind.f64.format.order v 4593707648714924884 == some .lt) = true := o2
        clear o1 o2
        go_enter Try.func5, Try.ntmps5
        go_wp2_with (first | (go_at_call 12; refine ((c2 _).out).mono ?_; rintro e w' ⟨rfl, rfl⟩) | (go_at_call 15; refine ((c1 _).out).mono ?_; rintro e w' ⟨rfl, rfl⟩) | (go_at_call 11; refine (told_any _).mono ?_; rintro e w1 ⟨rfl, hb1⟩))
        go_ret
        exact ⟨ret_bool (by simp), by assumption⟩
      · rw [if_neg (by simp; omega)] at h2 c2
        obtain ⟨o1, o2⟩ := Bool.and_eq_true_iff.1 h2
        clear h2 e
        have o1' : (FloatKind.f64.format.order v 13830554455654793216 == some .gt || FloatKind.f64.format.order v 13830554455654793216 == some .eq) = true := o1
        have o2' : (FloatKind.f64.format.order v 4607182418800017408 == some .lt || FloatKind.f64.format.order v 4607182418800017408 == some .eq) = true := o2
        clear o1 o2
        go_enter Try.func5, Try.ntmps5
        go_wp2_with (first | (go_at_call 12; refine ((c2 _).out).mono ?_; rintro e w' ⟨rfl, rfl⟩) | (go_at_call 15; refine ((c1 _).out).mono ?_; rintro e w' ⟨rfl, rfl⟩) | (go_at_call 11; refine (told_any _).mono ?_; rintro e w1 ⟨rfl, hb1⟩))
        go_ret
        exact ⟨ret_bool (by simp), by assumption⟩
    · rw [if_neg (by simp; omega)] at h2 c2
      obtain ⟨o1, o2⟩ := Bool.and_eq_true_iff.1 h2
      clear h2 e
      have o1' : (FloatKind.f64.format.order v 13830554455654793216 == some .gt || FloatKind.f64.format.order v 13830554455654793216 == some .eq) = true := o1
      have o2' : (FloatKind.f64.format.order v 4607182418800017408 == some .lt || FloatKind.f64.format.order v 4607182418800017408 == some .eq) = true := o2
      clear o1 o2
      have g1' : decide (-16 < a) = false := by simpa using g1
      go_enter Try.func5, Try.ntmps5
      go_wp2_with (first | (go_at_call 12; refine ((c2 _).out).mono ?_; rintro e w' ⟨rfl, rfl⟩) | (go_at_call 15; refine ((c1 _).out).mono ?_; rintro e w' ⟨rfl, rfl⟩) | (go_at_call 11; refine (told_any _).mono ?_; rintro e w1 ⟨rfl, hb1⟩))
      go_ret
      exact ⟨ret_bool (by simp), by assumption⟩
end Go.Proofs.Ytlolbbffmniahaa
