/-
CurveEases: the walk.
-/
import Derived.Test.YtdddpnjamgbcmaaCt
namespace Go.Proofs.Ytdddpnjamgbcmaa
open Go.RowKit
set_option linter.unusedVariables false

theorem u64_mod (n m : Int) (hm : 0 < m) : 0 ≤ (IntKind.u64.wrap n).tmod m ∧ (IntKind.u64.wrap n).tmod m < m := by
  have h : 0 ≤ IntKind.u64.wrap n := by simp only [IntKind.wrap_u64]; omega
  rw [Int.tmod_eq_emod_of_nonneg h]
  exact ⟨Int.emod_nonneg _ (by omega), Int.emod_lt_of_pos _ hm⟩

def kf (j : Int) : Nat := (Ieee.double.div (floatOfInt .f64 j) 4634204016564240384).getD 0
def lf (j : Int) : Nat := (Ieee.double.sub 4607182418800017408 (kf j)).getD 0
def sf (j : Int) : Nat := (Ieee.double.add (Cv.ease (kf j)) (Cv.ease (lf j))).getD 0
structure Eases (j : Int) : Prop where
  e1 : Ieee.double.div (floatOfInt .f64 j) 4634204016564240384 = some (kf j)
  e2 : Ieee.double.sub 4607182418800017408 (kf j) = some (lf j)
  e3 : Ieee.double.add (Cv.ease (kf j)) (Cv.ease (lf j)) = some (sf j)
  i1 : (Ieee.double.order (sf j) 4607182409792818153 == some .gt) = true
  i2 : (Ieee.double.order (sf j) 4607182423303617035 == some .lt) = true
  i3 : (Ieee.double.order (kf j) 4602678819172646912 == some .gt || Ieee.double.order (kf j) 4602678819172646912 == some .eq) = decide (32 ≤ j)
  i4 : j < 32 → (Ieee.double.order (Cv.ease (kf j)) (kf j) == some .lt || Ieee.double.order (Cv.ease (kf j)) (kf j) == some .eq) = true
  i5 : (Ieee.double.order (kf j) 4602678819172646912 == some .lt || Ieee.double.order (kf j) 4602678819172646912 == some .eq) = decide (j ≤ 32)
  i6 : 32 < j → (Ieee.double.order (Cv.ease (kf j)) (kf j) == some .gt || Ieee.double.order (Cv.ease (kf j)) (kf j) == some .eq) = true
instance (j : Int) : Decidable (Eases j) :=
  decidable_of_iff (Ieee.double.div (floatOfInt .f64 j) 4634204016564240384 = some (kf j) ∧ Ieee.double.sub 4607182418800017408 (kf j) = some (lf j) ∧ Ieee.double.add (Cv.ease (kf j)) (Cv.ease (lf j)) = some (sf j) ∧
    (Ieee.double.order (sf j) 4607182409792818153 == some .gt) = true ∧ (Ieee.double.order (sf j) 4607182423303617035 == some .lt) = true ∧
    (Ieee.double.order (kf j) 4602678819172646912 == some .gt || Ieee.double.order (kf j) 4602678819172646912 == some .eq) = decide (32 ≤ j) ∧
    (j < 32 → (Ieee.double.order (Cv.ease (kf j)) (kf j) == some .lt || Ieee.double.order (Cv.ease (kf j)) (kf j) == some .eq) = true) ∧
    (Ieee.double.order (kf j) 4602678819172646912 == some .lt || Ieee.double.order (kf j) 4602678819172646912 == some .eq) = decide (j ≤ 32) ∧
    (32 < j → (Ieee.double.order (Cv.ease (kf j)) (kf j) == some .gt || Ieee.double.order (Cv.ease (kf j)) (kf j) == some .eq) = true))
    ⟨fun ⟨a, b, c, d, e, f, g, h, i⟩ => ⟨a, b, c, d, e, f, g, h, i⟩, fun ⟨a, b, c, d, e, f, g, h, i⟩ => ⟨a, b, c, d, e, f, g, h, i⟩⟩
theorem eases_all (j : Fin 65) : Eases (j.val : Int) := by
  have h : ∀ j : Fin 65, Eases (j.val : Int) := by decide +kernel
  exact h j
theorem eases_some (j : Int) (h0 : 0 ≤ j) (h1 : j < 65) : Eases j := by
  have := eases_all ⟨j.toNat, by omega⟩
  have e : ((j.toNat : Nat) : Int) = j := by omega
  simpa only [e] using this

set_option maxRecDepth 100000 in
set_option maxHeartbeats 2000000 in
theorem eases_low (n j : Int) (k l s g f : Nat) (hj : (IntKind.u64.wrap n).tmod 65 = j) (j0 : 0 ≤ j) (j1 : j < 65)
    (e1 : Ieee.double.div (floatOfInt .f64 j) 4634204016564240384 = some k) (e2 : Ieee.double.sub 4607182418800017408 k = some l) (hg : Cv.ease k = g) (hf : Cv.ease l = f) (e3 : Ieee.double.add g f = some s)
    (i1 : (FloatKind.f64.format.order s 4607182409792818153 == some .gt) = true) (i2 : (FloatKind.f64.format.order s 4607182423303617035 == some .lt) = true) (i3 : (FloatKind.f64.format.order k 4602678819172646912 == some .gt || FloatKind.f64.format.order k 4602678819172646912 == some .eq) = false)(i4 : (FloatKind.f64.format.order g k == some .lt || FloatKind.f64.format.order g k == some .eq) = true)(i5 : (FloatKind.f64.format.order k 4602678819172646912 == some .lt || FloatKind.f64.format.order k 4602678819172646912 == some .eq) = true) (w : World) :
    Calls Try.prog 10 #[.int .i64 n] w fun e w' => e = .returned (.bool true) ∧ Kept w w' := by
  have hk := Kept.refl w
  have o1 : (FloatKind.f64.format.order 0 0 == some .eq) = true := by decide +kernel
  have o2 : (FloatKind.f64.format.order 4607182418800017408 4607182418800017408 == some .eq) = true := by decide +kernel
  have r1 := fun w => run_float_arith (P := Try.prog) w .quo 22 .f64 _ _ _ e1
  have r2 := fun w => run_float_arith (P := Try.prog) w .sub 22 .f64 _ _ _ e2
  have r3 := fun w => run_float_arith (P := Try.prog) w .add 22 .f64 _ _ _ e3
  have c0 := fun (x : World) (h : Kept w x) => Lib.hid (told_t h)
  have c1 := fun (x : World) (h : Kept w x) => Lib.hid (ease_t h k g hg)
  have c2 := fun (x : World) (h : Kept w x) => Lib.hid (ease_t h l f hf)
  have c3 := fun (x : World) (h : Kept w x) => Lib.hid (ease_t h 0 0 (by decide +kernel))
  have c4 := fun (x : World) (h : Kept w x) => Lib.hid (ease_t h 4607182418800017408 4607182418800017408 (by decide +kernel))
  clear e1 e2 e3 hg hf
  go_enter Try.func10, Try.ntmps10
  go_wp2_with (first | (go_at_call 11; ((with_reducible refine ((c0 _ (by assumption)).out).mono ?_); rintro e w' ⟨rfl, hk⟩)) | (go_at_call 20; first | ((with_reducible refine ((c1 _ (by assumption)).out).mono ?_); rintro e w' ⟨rfl, hk⟩) | ((with_reducible refine ((c2 _ (by assumption)).out).mono ?_); rintro e w' ⟨rfl, hk⟩) | ((with_reducible refine ((c3 _ (by assumption)).out).mono ?_); rintro e w' ⟨rfl, hk⟩) | ((with_reducible refine ((c4 _ (by assumption)).out).mono ?_); rintro e w' ⟨rfl, hk⟩)))
  all_goals
    go_ret
    exact ⟨ret_bool (by simp), by assumption⟩

set_option maxRecDepth 100000 in
set_option maxHeartbeats 2000000 in
theorem eases_mid (n j : Int) (k l s g f : Nat) (hj : (IntKind.u64.wrap n).tmod 65 = j) (j0 : 0 ≤ j) (j1 : j < 65)
    (e1 : Ieee.double.div (floatOfInt .f64 j) 4634204016564240384 = some k) (e2 : Ieee.double.sub 4607182418800017408 k = some l) (hg : Cv.ease k = g) (hf : Cv.ease l = f) (e3 : Ieee.double.add g f = some s)
    (i1 : (FloatKind.f64.format.order s 4607182409792818153 == some .gt) = true) (i2 : (FloatKind.f64.format.order s 4607182423303617035 == some .lt) = true) (i3 : (FloatKind.f64.format.order k 4602678819172646912 == some .gt || FloatKind.f64.format.order k 4602678819172646912 == some .eq) = true)(i5 : (FloatKind.f64.format.order k 4602678819172646912 == some .lt || FloatKind.f64.format.order k 4602678819172646912 == some .eq) = true) (w : World) :
    Calls Try.prog 10 #[.int .i64 n] w fun e w' => e = .returned (.bool true) ∧ Kept w w' := by
  have hk := Kept.refl w
  have o1 : (FloatKind.f64.format.order 0 0 == some .eq) = true := by decide +kernel
  have o2 : (FloatKind.f64.format.order 4607182418800017408 4607182418800017408 == some .eq) = true := by decide +kernel
  have r1 := fun w => run_float_arith (P := Try.prog) w .quo 22 .f64 _ _ _ e1
  have r2 := fun w => run_float_arith (P := Try.prog) w .sub 22 .f64 _ _ _ e2
  have r3 := fun w => run_float_arith (P := Try.prog) w .add 22 .f64 _ _ _ e3
  have c0 := fun (x : World) (h : Kept w x) => Lib.hid (told_t h)
  have c1 := fun (x : World) (h : Kept w x) => Lib.hid (ease_t h k g hg)
  have c2 := fun (x : World) (h : Kept w x) => Lib.hid (ease_t h l f hf)
  have c3 := fun (x : World) (h : Kept w x) => Lib.hid (ease_t h 0 0 (by decide +kernel))
  have c4 := fun (x : World) (h : Kept w x) => Lib.hid (ease_t h 4607182418800017408 4607182418800017408 (by decide +kernel))
  clear e1 e2 e3 hg hf
  go_enter Try.func10, Try.ntmps10
  go_wp2_with (first | (go_at_call 11; ((with_reducible refine ((c0 _ (by assumption)).out).mono ?_); rintro e w' ⟨rfl, hk⟩)) | (go_at_call 20; first | ((with_reducible refine ((c1 _ (by assumption)).out).mono ?_); rintro e w' ⟨rfl, hk⟩) | ((with_reducible refine ((c2 _ (by assumption)).out).mono ?_); rintro e w' ⟨rfl, hk⟩) | ((with_reducible refine ((c3 _ (by assumption)).out).mono ?_); rintro e w' ⟨rfl, hk⟩) | ((with_reducible refine ((c4 _ (by assumption)).out).mono ?_); rintro e w' ⟨rfl, hk⟩)))
  all_goals
    go_ret
    exact ⟨ret_bool (by simp), by assumption⟩

set_option maxRecDepth 100000 in
set_option maxHeartbeats 2000000 in
theorem eases_high (n j : Int) (k l s g f : Nat) (hj : (IntKind.u64.wrap n).tmod 65 = j) (j0 : 0 ≤ j) (j1 : j < 65)
    (e1 : Ieee.double.div (floatOfInt .f64 j) 4634204016564240384 = some k) (e2 : Ieee.double.sub 4607182418800017408 k = some l) (hg : Cv.ease k = g) (hf : Cv.ease l = f) (e3 : Ieee.double.add g f = some s)
    (i1 : (FloatKind.f64.format.order s 4607182409792818153 == some .gt) = true) (i2 : (FloatKind.f64.format.order s 4607182423303617035 == some .lt) = true) (i3 : (FloatKind.f64.format.order k 4602678819172646912 == some .gt || FloatKind.f64.format.order k 4602678819172646912 == some .eq) = true)(i5 : (FloatKind.f64.format.order k 4602678819172646912 == some .lt || FloatKind.f64.format.order k 4602678819172646912 == some .eq) = false)(i6 : (FloatKind.f64.format.order g k == some .gt || FloatKind.f64.format.order g k == some .eq) = true) (w : World) :
    Calls Try.prog 10 #[.int .i64 n] w fun e w' => e = .returned (.bool true) ∧ Kept w w' := by
  have hk := Kept.refl w
  have o1 : (FloatKind.f64.format.order 0 0 == some .eq) = true := by decide +kernel
  have o2 : (FloatKind.f64.format.order 4607182418800017408 4607182418800017408 == some .eq) = true := by decide +kernel
  have r1 := fun w => run_float_arith (P := Try.prog) w .quo 22 .f64 _ _ _ e1
  have r2 := fun w => run_float_arith (P := Try.prog) w .sub 22 .f64 _ _ _ e2
  have r3 := fun w => run_float_arith (P := Try.prog) w .add 22 .f64 _ _ _ e3
  have c0 := fun (x : World) (h : Kept w x) => Lib.hid (told_t h)
  have c1 := fun (x : World) (h : Kept w x) => Lib.hid (ease_t h k g hg)
  have c2 := fun (x : World) (h : Kept w x) => Lib.hid (ease_t h l f hf)
  have c3 := fun (x : World) (h : Kept w x) => Lib.hid (ease_t h 0 0 (by decide +kernel))
  have c4 := fun (x : World) (h : Kept w x) => Lib.hid (ease_t h 4607182418800017408 4607182418800017408 (by decide +kernel))
  clear e1 e2 e3 hg hf
  go_enter Try.func10, Try.ntmps10
  go_wp2_with (first | (go_at_call 11; ((with_reducible refine ((c0 _ (by assumption)).out).mono ?_); rintro e w' ⟨rfl, hk⟩)) | (go_at_call 20; first | ((with_reducible refine ((c1 _ (by assumption)).out).mono ?_); rintro e w' ⟨rfl, hk⟩) | ((with_reducible refine ((c2 _ (by assumption)).out).mono ?_); rintro e w' ⟨rfl, hk⟩) | ((with_reducible refine ((c3 _ (by assumption)).out).mono ?_); rintro e w' ⟨rfl, hk⟩) | ((with_reducible refine ((c4 _ (by assumption)).out).mono ?_); rintro e w' ⟨rfl, hk⟩)))
  all_goals
    go_ret
    exact ⟨ret_bool (by simp), by assumption⟩

theorem eases_law (n : Int) (w : World) :
    Calls Try.prog 10 #[.int .i64 n] w fun e w' => e = .returned (.bool true) ∧ Kept w w' := by
  obtain ⟨j0, j1⟩ := u64_mod n 65 (by omega)
  generalize hj : (IntKind.u64.wrap n).tmod 65 = j at *
  obtain ⟨e1, e2, e3, i1, i2, i3, i4, i5, i6⟩ := eases_some j j0 j1
  by_cases c : 32 ≤ j
  · rw [decide_eq_true c] at i3
    by_cases c2 : j ≤ 32
    · rw [decide_eq_true c2] at i5
      exact eases_mid n j _ _ _ _ _ hj j0 j1 e1 e2 rfl rfl e3 i1 i2 i3 i5 w
    · rw [decide_eq_false c2] at i5
      exact eases_high n j _ _ _ _ _ hj j0 j1 e1 e2 rfl rfl e3 i1 i2 i3 i5 (i6 (by omega)) w
  · rw [decide_eq_false c] at i3
    rw [decide_eq_true (by omega)] at i5
    exact eases_low n j _ _ _ _ _ hj j0 j1 e1 e2 rfl rfl e3 i1 i2 i3 (i4 (by omega)) i5 w

end Go.Proofs.Ytdddpnjamgbcmaa
