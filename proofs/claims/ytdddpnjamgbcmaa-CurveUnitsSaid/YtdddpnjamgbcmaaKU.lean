/-
CurveUnits: the walk.
-/
import Derived.Test.YtdddpnjamgbcmaaCt
namespace Go.Proofs.Ytdddpnjamgbcmaa
open Go.RowKit
set_option linter.unusedVariables false

theorem unit_unit (t : Nat) : Cv.unit (Cv.unit t) = Cv.unit t := by
  have k0 : Cv.unit 0 = 0 := by decide +kernel
  have k1 : Cv.unit 4607182418800017408 = 4607182418800017408 := by decide +kernel
  have e : Cv.unit t = if Fl.isNaN t then 0 else if Fl.Z t ≤ 0 then 0 else if (Fl.U : Int) ≤ Fl.Z t then 4607182418800017408 else t := rfl
  cases hn : Fl.isNaN t
  · rw [hn, if_neg (by simp)] at e
    by_cases c : Fl.Z t ≤ 0
    · rw [if_pos c] at e; rw [e]; exact k0
    · rw [if_neg c] at e
      by_cases c2 : (Fl.U : Int) ≤ Fl.Z t
      · rw [if_pos c2] at e; rw [e]; exact k1
      · rw [if_neg c2] at e; rw [e, e]
  · rw [hn, if_pos rfl] at e; rw [e]; exact k0

set_option maxRecDepth 100000 in
set_option maxHeartbeats 2000000 in
theorem units_low (s t u v g : Nat) (hu : Cv.unit t = u) (huu : Cv.unit u = u) (hv : Cv.unit s = v) (hg : Cv.ease t = g) (wu : u < 2 ^ 64) (su : Fl.sgn u = false)
    (i1 : (FloatKind.f64.format.order u 0 == some .lt) = false) (i2 : (FloatKind.f64.format.order u 4607182418800017408 == some .gt) = false) (i3 : (FloatKind.f64.format.order u u != some .eq) = false) (i4 : (FloatKind.f64.format.order g 0 == some .lt) = false) (i5 : (FloatKind.f64.format.order g 4607182418800017409 == some .gt) = false) (i6 : (FloatKind.f64.format.order v 0 == some .gt || FloatKind.f64.format.order v 0 == some .eq) = true) (j1 : (FloatKind.f64.format.order t 0 == some .lt || FloatKind.f64.format.order t 0 == some .eq) = true) (w : World) :
    Calls Try.prog 6 #[.float .f64 s, .float .f64 t] w fun e w' => e = .returned (.bool true) ∧ Kept w w' := by
  have hk := Kept.refl w
  have c0 := fun (x : World) (h : Kept w x) => Lib.hid (told_t h)
  have c1 := fun (x : World) (h : Kept w x) => Lib.hid (unit_t h t u hu)
  have c2 := fun (x : World) (h : Kept w x) => Lib.hid (unit_t h u u huu)
  have c3 := fun (x : World) (h : Kept w x) => Lib.hid (unit_t h s v hv)
  have c4 := fun (x : World) (h : Kept w x) => Lib.hid (ease_t h t g hg)
  have c5 := fun (x : World) (h : Kept w x) => Lib.hid (same_t h u u true wu wu (Cv.same_self u))
  have c6 := fun (x : World) (h : Kept w x) => Lib.hid (signbit_k h u false su)
  clear hu huu hv hg wu su
  go_enter Try.func6, Try.ntmps6
  go_wp2_with (first | (go_at_call 11; ((with_reducible refine ((c0 _ (by assumption)).out).mono ?_); rintro e w' ⟨rfl, hk⟩)) | (go_at_call 16; first | ((with_reducible refine ((c1 _ (by assumption)).out).mono ?_); rintro e w' ⟨rfl, hk⟩) | ((with_reducible refine ((c2 _ (by assumption)).out).mono ?_); rintro e w' ⟨rfl, hk⟩) | ((with_reducible refine ((c3 _ (by assumption)).out).mono ?_); rintro e w' ⟨rfl, hk⟩)) | (go_at_call 20; ((with_reducible refine ((c4 _ (by assumption)).out).mono ?_); rintro e w' ⟨rfl, hk⟩)) | (go_at_call 12; ((with_reducible refine ((c5 _ (by assumption)).out).mono ?_); rintro e w' ⟨rfl, hk⟩)) | (go_at_call 24; ((with_reducible refine ((c6 _ (by assumption)).out).mono ?_); rintro e w' ⟨rfl, hk⟩)))
  all_goals
    go_ret
    exact ⟨ret_bool (by simp), by assumption⟩

set_option maxRecDepth 100000 in
set_option maxHeartbeats 2000000 in
theorem units_high (s t u v g : Nat) (hu : Cv.unit t = u) (huu : Cv.unit u = u) (hv : Cv.unit s = v) (hg : Cv.ease t = g) (wu : u < 2 ^ 64) (su : Fl.sgn u = false)
    (i1 : (FloatKind.f64.format.order u 0 == some .lt) = false) (i2 : (FloatKind.f64.format.order u 4607182418800017408 == some .gt) = false) (i3 : (FloatKind.f64.format.order u u != some .eq) = false) (i4 : (FloatKind.f64.format.order g 0 == some .lt) = false) (i5 : (FloatKind.f64.format.order g 4607182418800017409 == some .gt) = false) (i6 : (FloatKind.f64.format.order v 0 == some .gt || FloatKind.f64.format.order v 0 == some .eq) = true) (j1 : (FloatKind.f64.format.order t 0 == some .lt || FloatKind.f64.format.order t 0 == some .eq) = false)(j2 : (FloatKind.f64.format.order t 4607182418800017408 == some .gt || FloatKind.f64.format.order t 4607182418800017408 == some .eq) = true) (w : World) :
    Calls Try.prog 6 #[.float .f64 s, .float .f64 t] w fun e w' => e = .returned (.bool true) ∧ Kept w w' := by
  have hk := Kept.refl w
  have c0 := fun (x : World) (h : Kept w x) => Lib.hid (told_t h)
  have c1 := fun (x : World) (h : Kept w x) => Lib.hid (unit_t h t u hu)
  have c2 := fun (x : World) (h : Kept w x) => Lib.hid (unit_t h u u huu)
  have c3 := fun (x : World) (h : Kept w x) => Lib.hid (unit_t h s v hv)
  have c4 := fun (x : World) (h : Kept w x) => Lib.hid (ease_t h t g hg)
  have c5 := fun (x : World) (h : Kept w x) => Lib.hid (same_t h u u true wu wu (Cv.same_self u))
  have c6 := fun (x : World) (h : Kept w x) => Lib.hid (signbit_k h u false su)
  clear hu huu hv hg wu su
  go_enter Try.func6, Try.ntmps6
  go_wp2_with (first | (go_at_call 11; ((with_reducible refine ((c0 _ (by assumption)).out).mono ?_); rintro e w' ⟨rfl, hk⟩)) | (go_at_call 16; first | ((with_reducible refine ((c1 _ (by assumption)).out).mono ?_); rintro e w' ⟨rfl, hk⟩) | ((with_reducible refine ((c2 _ (by assumption)).out).mono ?_); rintro e w' ⟨rfl, hk⟩) | ((with_reducible refine ((c3 _ (by assumption)).out).mono ?_); rintro e w' ⟨rfl, hk⟩)) | (go_at_call 20; ((with_reducible refine ((c4 _ (by assumption)).out).mono ?_); rintro e w' ⟨rfl, hk⟩)) | (go_at_call 12; ((with_reducible refine ((c5 _ (by assumption)).out).mono ?_); rintro e w' ⟨rfl, hk⟩)) | (go_at_call 24; ((with_reducible refine ((c6 _ (by assumption)).out).mono ?_); rintro e w' ⟨rfl, hk⟩)))
  all_goals
    go_ret
    exact ⟨ret_bool (by simp), by assumption⟩

set_option maxRecDepth 100000 in
set_option maxHeartbeats 2000000 in
theorem units_nan (s t u v g : Nat) (hu : Cv.unit t = u) (huu : Cv.unit u = u) (hv : Cv.unit s = v) (hg : Cv.ease t = g) (wu : u < 2 ^ 64) (su : Fl.sgn u = false)
    (i1 : (FloatKind.f64.format.order u 0 == some .lt) = false) (i2 : (FloatKind.f64.format.order u 4607182418800017408 == some .gt) = false) (i3 : (FloatKind.f64.format.order u u != some .eq) = false) (i4 : (FloatKind.f64.format.order g 0 == some .lt) = false) (i5 : (FloatKind.f64.format.order g 4607182418800017409 == some .gt) = false) (i6 : (FloatKind.f64.format.order v 0 == some .gt || FloatKind.f64.format.order v 0 == some .eq) = true) (j1 : (FloatKind.f64.format.order t 0 == some .lt || FloatKind.f64.format.order t 0 == some .eq) = false)(j2 : (FloatKind.f64.format.order t 4607182418800017408 == some .gt || FloatKind.f64.format.order t 4607182418800017408 == some .eq) = false)(j3 : (FloatKind.f64.format.order t t != some .eq) = true) (w : World) :
    Calls Try.prog 6 #[.float .f64 s, .float .f64 t] w fun e w' => e = .returned (.bool true) ∧ Kept w w' := by
  have hk := Kept.refl w
  have c0 := fun (x : World) (h : Kept w x) => Lib.hid (told_t h)
  have c1 := fun (x : World) (h : Kept w x) => Lib.hid (unit_t h t u hu)
  have c2 := fun (x : World) (h : Kept w x) => Lib.hid (unit_t h u u huu)
  have c3 := fun (x : World) (h : Kept w x) => Lib.hid (unit_t h s v hv)
  have c4 := fun (x : World) (h : Kept w x) => Lib.hid (ease_t h t g hg)
  have c5 := fun (x : World) (h : Kept w x) => Lib.hid (same_t h u u true wu wu (Cv.same_self u))
  have c6 := fun (x : World) (h : Kept w x) => Lib.hid (signbit_k h u false su)
  clear hu huu hv hg wu su
  go_enter Try.func6, Try.ntmps6
  go_wp2_with (first | (go_at_call 11; ((with_reducible refine ((c0 _ (by assumption)).out).mono ?_); rintro e w' ⟨rfl, hk⟩)) | (go_at_call 16; first | ((with_reducible refine ((c1 _ (by assumption)).out).mono ?_); rintro e w' ⟨rfl, hk⟩) | ((with_reducible refine ((c2 _ (by assumption)).out).mono ?_); rintro e w' ⟨rfl, hk⟩) | ((with_reducible refine ((c3 _ (by assumption)).out).mono ?_); rintro e w' ⟨rfl, hk⟩)) | (go_at_call 20; ((with_reducible refine ((c4 _ (by assumption)).out).mono ?_); rintro e w' ⟨rfl, hk⟩)) | (go_at_call 12; ((with_reducible refine ((c5 _ (by assumption)).out).mono ?_); rintro e w' ⟨rfl, hk⟩)) | (go_at_call 24; ((with_reducible refine ((c6 _ (by assumption)).out).mono ?_); rintro e w' ⟨rfl, hk⟩)))
  all_goals
    go_ret
    exact ⟨ret_bool (by simp), by assumption⟩

set_option maxRecDepth 100000 in
set_option maxHeartbeats 2000000 in
theorem units_mid (s t u v g : Nat) (hu : Cv.unit t = u) (huu : Cv.unit u = u) (hv : Cv.unit s = v) (hg : Cv.ease t = g) (wu : u < 2 ^ 64) (su : Fl.sgn u = false)
    (i1 : (FloatKind.f64.format.order u 0 == some .lt) = false) (i2 : (FloatKind.f64.format.order u 4607182418800017408 == some .gt) = false) (i3 : (FloatKind.f64.format.order u u != some .eq) = false) (i4 : (FloatKind.f64.format.order g 0 == some .lt) = false) (i5 : (FloatKind.f64.format.order g 4607182418800017409 == some .gt) = false) (i6 : (FloatKind.f64.format.order v 0 == some .gt || FloatKind.f64.format.order v 0 == some .eq) = true) (j1 : (FloatKind.f64.format.order t 0 == some .lt || FloatKind.f64.format.order t 0 == some .eq) = false)(j2 : (FloatKind.f64.format.order t 4607182418800017408 == some .gt || FloatKind.f64.format.order t 4607182418800017408 == some .eq) = false)(j3 : (FloatKind.f64.format.order t t != some .eq) = false)(j4 : (FloatKind.f64.format.order u t == some .eq) = true) (w : World) :
    Calls Try.prog 6 #[.float .f64 s, .float .f64 t] w fun e w' => e = .returned (.bool true) ∧ Kept w w' := by
  have hk := Kept.refl w
  have c0 := fun (x : World) (h : Kept w x) => Lib.hid (told_t h)
  have c1 := fun (x : World) (h : Kept w x) => Lib.hid (unit_t h t u hu)
  have c2 := fun (x : World) (h : Kept w x) => Lib.hid (unit_t h u u huu)
  have c3 := fun (x : World) (h : Kept w x) => Lib.hid (unit_t h s v hv)
  have c4 := fun (x : World) (h : Kept w x) => Lib.hid (ease_t h t g hg)
  have c5 := fun (x : World) (h : Kept w x) => Lib.hid (same_t h u u true wu wu (Cv.same_self u))
  have c6 := fun (x : World) (h : Kept w x) => Lib.hid (signbit_k h u false su)
  clear hu huu hv hg wu su
  go_enter Try.func6, Try.ntmps6
  go_wp2_with (first | (go_at_call 11; ((with_reducible refine ((c0 _ (by assumption)).out).mono ?_); rintro e w' ⟨rfl, hk⟩)) | (go_at_call 16; first | ((with_reducible refine ((c1 _ (by assumption)).out).mono ?_); rintro e w' ⟨rfl, hk⟩) | ((with_reducible refine ((c2 _ (by assumption)).out).mono ?_); rintro e w' ⟨rfl, hk⟩) | ((with_reducible refine ((c3 _ (by assumption)).out).mono ?_); rintro e w' ⟨rfl, hk⟩)) | (go_at_call 20; ((with_reducible refine ((c4 _ (by assumption)).out).mono ?_); rintro e w' ⟨rfl, hk⟩)) | (go_at_call 12; ((with_reducible refine ((c5 _ (by assumption)).out).mono ?_); rintro e w' ⟨rfl, hk⟩)) | (go_at_call 24; ((with_reducible refine ((c6 _ (by assumption)).out).mono ?_); rintro e w' ⟨rfl, hk⟩)))
  all_goals
    go_ret
    exact ⟨ret_bool (by simp), by assumption⟩

theorem units_law (s t : Nat) (wt : t < 2 ^ 64) (w : World) :
    Calls Try.prog 6 #[.float .f64 s, .float .f64 t] w fun e w' => e = .returned (.bool true) ∧ Kept w w' := by
  obtain ⟨nu, u0, u1, su, fu, wu⟩ := Cv.unit_spec t
  obtain ⟨nv, v0, _, _, _, _⟩ := Cv.unit_spec s
  obtain ⟨_, _, _, g, _, _, _, _, he, ng, g0, g1⟩ := Cv.ease_steps u1 fu su
  have hg : Cv.ease t = g := he
  have up := Cv.U0
  have nn : Fl.isNaN 4607182418800017409 = false := by decide +kernel
  have i1 := Fl.lt_iff nu Cv.n0
  rw [Cv.z0, decide_eq_false (by omega)] at i1
  have i2 := Fl.gt_iff nu Cv.n1
  rw [Cv.z1, decide_eq_false (by omega)] at i2
  have i3 := ne_self (Cv.unit t)
  rw [nu] at i3
  have i4 := Fl.lt_iff ng Cv.n0
  rw [Cv.z0, decide_eq_false (by omega)] at i4
  have i5 := Fl.gt_iff ng nn
  rw [decide_eq_false (by omega)] at i5
  have i6 := Fl.ge_iff nv Cv.n0
  rw [Cv.z0, decide_eq_true (by omega)] at i6
  have j3 := ne_self t
  cases ht : Fl.isNaN t
  · rw [ht] at j3
    have jl := Fl.le_iff ht Cv.n0
    have jh := Fl.ge_iff ht Cv.n1
    rw [Cv.z0] at jl
    rw [Cv.z1] at jh
    by_cases c1 : Fl.Z t ≤ 0
    · rw [decide_eq_true c1] at jl
      exact units_low s t _ _ g rfl (unit_unit t) rfl hg (wu wt) su i1 i2 i3 i4 i5 i6 jl w
    · rw [decide_eq_false c1] at jl
      by_cases c2 : (Fl.U : Int) ≤ Fl.Z t
      · rw [decide_eq_true c2] at jh
        exact units_high s t _ _ g rfl (unit_unit t) rfl hg (wu wt) su i1 i2 i3 i4 i5 i6 jl jh w
      · rw [decide_eq_false c2] at jh
        have hu : Cv.unit t = t := by unfold Cv.unit; rw [ht, if_neg (by simp), if_neg c1, if_neg c2]
        have j4 := Fl.eq_iff nu ht
        rw [decide_eq_true (by rw [hu])] at j4
        exact units_mid s t _ _ g rfl (unit_unit t) rfl hg (wu wt) su i1 i2 i3 i4 i5 i6 jl jh j3 j4 w
  · rw [ht] at j3
    have j1 : (FloatKind.f64.format.order t 0 == some .lt || FloatKind.f64.format.order t 0 == some .eq) = false := by rw [show FloatKind.f64.format.order t 0 = none from Fl.order_nan_left _ ht]; rfl
    have j2 : (FloatKind.f64.format.order t 4607182418800017408 == some .gt || FloatKind.f64.format.order t 4607182418800017408 == some .eq) = false := by rw [show FloatKind.f64.format.order t 4607182418800017408 = none from Fl.order_nan_left _ ht]; rfl
    exact units_nan s t _ _ g rfl (unit_unit t) rfl hg (wu wt) su i1 i2 i3 i4 i5 i6 j1 j2 j3 w

end Go.Proofs.Ytdddpnjamgbcmaa
