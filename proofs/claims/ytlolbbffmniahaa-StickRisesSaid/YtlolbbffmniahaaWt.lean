import Derived.Test.YtlolbbffmniahaaWn
namespace Go.Proofs.Ytlolbbffmniahaa
open Go.RowKit

theorem a1 : St.axis 4602678819172646912 = 64 := St.axis_of (by decide +kernel)
theorem a2 : St.axis 13830554455654793216 = -127 := St.axis_of (by decide +kernel)
theorem a3 : St.axis 9221120237041090561 = 0 := St.axis_of (by decide +kernel)
theorem a4 : St.axis 9218868437227405312 = 127 := St.axis_of (by decide +kernel)
theorem a5 : St.axis 4593671619917905920 = 16 := St.axis_of (by decide +kernel)
theorem v127 : St.value 127 = 4607182418800017408 := by decide +kernel
theorem m1 : may 1 0 = true := by decide +kernel
theorem m2 : may 0 (-128) = false := by decide +kernel
theorem e1 : near 1 0 0 9 0 0 = true := by decide +kernel
theorem e2 : near 1 0 0 10 0 0 = false := by decide +kernel

theorem axis_t (b : Nat) (n : Int) (hb : b < 2 ^ 64) (h : St.axis b = n) (w : World) :
    Calls Try.prog 12 #[.float .f64 b] w fun e w' => e = .returned (.int .i8 n) ∧ w = w' := by
  rw [← h]; exact axis_any b hb w
theorem may_t (x y b : Int) (t : Bool) (h : may x y = t) (w : World) :
    Calls Try.prog 17 #[.agg #[.int .i8 x, .int .i8 y, .int .u8 b]] w fun e w' => e = .returned (.bool t) ∧ Below w.heap.size w w' := by
  rw [← h]; exact may_any x y b w
theorem near_t (x y b x' y' b' : Int) (t : Bool) (h : near x y b x' y' b' = t) (wx : -128 ≤ x ∧ x ≤ 127) (wy : -128 ≤ y ∧ y ≤ 127) (wx' : -128 ≤ x' ∧ x' ≤ 127) (wy' : -128 ≤ y' ∧ y' ≤ 127) (w : World) :
    Calls Try.prog 19 #[.agg #[.int .i8 x, .int .i8 y, .int .u8 b], .agg #[.int .i8 x', .int .i8 y', .int .u8 b']] w fun e w' => e = .returned (.bool t) ∧ Below w.heap.size w w' := by
  rw [← h]; exact near_any x y b x' y' b' wx wy wx' wy' w
theorem value_t (a : Int) (b : Nat) (wa : -128 ≤ a ∧ a ≤ 127) (h : St.value a = b) (w : World) :
    Calls Try.prog 15 #[.int .i8 a] w fun e w' => e = .returned (.float .f64 b) ∧ w = w' := by
  rw [← h]; exact value_any a wa w

theorem below2 {w w1 w2 : World} (h : Below w.heap.size w w1) (h' : Below w1.heap.size w1 w2) : Below w.heap.size w w2 := h.trans (h'.mono h.size)

set_option maxHeartbeats 1000000 in
theorem told_any (w : World) :
    Calls Try.prog 11 #[] w fun e w' => e = .returned (.bool true) ∧ Below w.heap.size w w' := by
  have o1 : (FloatKind.f64.format.order 4607182418800017408 4607182418800017408 == some .eq) = true := by decide +kernel
  go_enter Try.func11, Try.ntmps11
  go_wp2_with (first | (go_at_call 12; first | ((with_reducible refine (axis_t _ _ (by decide) a1 _).mono ?_); rintro e w' ⟨rfl, rfl⟩) | ((with_reducible refine (axis_t _ _ (by decide) a2 _).mono ?_); rintro e w' ⟨rfl, rfl⟩) | ((with_reducible refine (axis_t _ _ (by decide) a3 _).mono ?_); rintro e w' ⟨rfl, rfl⟩) | ((with_reducible refine (axis_t _ _ (by decide) a4 _).mono ?_); rintro e w' ⟨rfl, rfl⟩) | ((with_reducible refine (axis_t _ _ (by decide) a5 _).mono ?_); rintro e w' ⟨rfl, rfl⟩)) | (go_at_call 21; refine (nan_any _).mono ?_; rintro e w' ⟨rfl, rfl⟩) | (go_at_call 22; refine (inf_pos _).mono ?_; rintro e w' ⟨rfl, rfl⟩) | (go_at_call 15; refine (value_t _ _ (by decide) v127 _).mono ?_; rintro e w' ⟨rfl, rfl⟩))
  refine (may_t 1 0 0 _ m1 _).mono ?_
  rintro e w1 ⟨rfl, hb1⟩
  go_wp2_with fail
  refine (may_t 0 (-128) 0 _ m2 _).mono ?_
  rintro e w2 ⟨rfl, hb2⟩
  go_wp2_with fail
  refine (near_t 1 0 0 9 0 0 _ e1 (by decide) (by decide) (by decide) (by decide) _).mono ?_
  rintro e w3 ⟨rfl, hb3⟩
  go_wp2_with fail
  refine (near_t 1 0 0 10 0 0 _ e2 (by decide) (by decide) (by decide) (by decide) _).mono ?_
  rintro e w4 ⟨rfl, hb4⟩
  go_wp2_with fail
  go_ret
  exact ⟨rfl, below2 (below2 (below2 hb1 hb2) hb3) hb4⟩
end Go.Proofs.Ytlolbbffmniahaa
