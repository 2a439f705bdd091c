/-
The contracts of Mix, Ease and Turn, and of the document's answers for them.
-/
import Derived.Test.YtdddpnjamgbcmaaCw
namespace Go.Proofs.Ytdddpnjamgbcmaa
open Go.RowKit
set_option linter.unusedVariables false

set_option maxHeartbeats 1000000 in
theorem btw_r (a b u d m r : Nat) (h1 : Ieee.double.sub b a = some d) (h2 : Ieee.double.mul d u = some m) (h3 : Ieee.double.add a m = some r) (w : World) :
    Calls Try.prog 32 #[.float .f64 a, .float .f64 b, .float .f64 u] w fun e w' => e = .returned (.float .f64 r) ∧ w = w' := by
  have k1 := fun w => run_float_arith (P := Try.prog) w .sub 22 .f64 b a d h1
  have k2 := fun w => run_float_arith (P := Try.prog) w .mul 22 .f64 d u m h2
  have k3 := fun w => run_float_arith (P := Try.prog) w .add 22 .f64 a m r h3
  clear h1 h2 h3
  go_enter Try.func32, Try.ntmps32
  go_wp2
  all_goals
    go_ret
    exact ⟨rfl, rfl⟩

set_option maxHeartbeats 1000000 in
theorem btw_none (a b u d m : Nat) (h1 : Ieee.double.sub b a = some d) (h2 : Ieee.double.mul d u = some m) (h3 : Ieee.double.add a m = none) (w : World) :
    ∃ n, Fl.isNaN n = true ∧ Calls Try.prog 32 #[.float .f64 a, .float .f64 b, .float .f64 u] w fun e w' => e = .returned (.float .f64 n) ∧ Below w.heap.size w w' := by
  obtain ⟨n, hn, _, k3⟩ := run_float_nan (P := Try.prog) w .add (by simp) 22 a m h3
  refine ⟨n, hn, ?_⟩
  have k1 := fun w => run_float_arith (P := Try.prog) w .sub 22 .f64 b a d h1
  have k2 := fun w => run_float_arith (P := Try.prog) w .mul 22 .f64 d u m h2
  clear h1 h2 h3 hn
  go_enter Try.func32, Try.ntmps32
  go_wp2
  go_ret
  exact ⟨rfl, (Below.refl _ _).drew⟩

set_option maxHeartbeats 1000000 in
theorem mix_a (a b t u : Nat) (hu : Cv.unit t = u)(i0 : (FloatKind.f64.format.order u 0 == some .eq) = true) (w : World) :
    Calls Try.prog 18 #[.float .f64 a, .float .f64 b, .float .f64 t] w fun e w' => e = .returned (.float .f64 a) ∧ w = w' := by
  have c0 := fun (x : World) => Lib.hid ((show Calls Try.prog 16 #[.float .f64 t] x fun e w' => e = .returned (.float .f64 u) ∧ x = w' from hu ▸ unit_any t x))
  clear hu
  go_enter Try.func18, Try.ntmps18
  go_wp2_with (first | (go_at_call 16; ((with_reducible refine ((c0 _).out).mono ?_); rintro e w' ⟨rfl, rfl⟩)))
  all_goals
    go_ret
    exact ⟨rfl, rfl⟩

set_option maxHeartbeats 1000000 in
theorem mix_b (a b t u : Nat) (hu : Cv.unit t = u)(i0 : (FloatKind.f64.format.order u 0 == some .eq) = false)(i1 : (FloatKind.f64.format.order u 4607182418800017408 == some .eq) = true) (w : World) :
    Calls Try.prog 18 #[.float .f64 a, .float .f64 b, .float .f64 t] w fun e w' => e = .returned (.float .f64 b) ∧ w = w' := by
  have c0 := fun (x : World) => Lib.hid ((show Calls Try.prog 16 #[.float .f64 t] x fun e w' => e = .returned (.float .f64 u) ∧ x = w' from hu ▸ unit_any t x))
  clear hu
  go_enter Try.func18, Try.ntmps18
  go_wp2_with (first | (go_at_call 16; ((with_reducible refine ((c0 _).out).mono ?_); rintro e w' ⟨rfl, rfl⟩)))
  all_goals
    go_ret
    exact ⟨rfl, rfl⟩

set_option maxHeartbeats 1000000 in
theorem mix_nan1 (a b t u : Nat) (hu : Cv.unit t = u)(i0 : (FloatKind.f64.format.order u 0 == some .eq) = false)(i1 : (FloatKind.f64.format.order u 4607182418800017408 == some .eq) = false)(na : Fl.isNaN a = true) (w : World) :
    Calls Try.prog 18 #[.float .f64 a, .float .f64 b, .float .f64 t] w fun e w' => e = .returned (.float .f64 9221120237041090561) ∧ w = w' := by
  have c0 := fun (x : World) => Lib.hid ((show Calls Try.prog 16 #[.float .f64 t] x fun e w' => e = .returned (.float .f64 u) ∧ x = w' from hu ▸ unit_any t x))
  have ca := fun (x : World) => Lib.hid (isnan_t a true na x)
  have cn := fun (x : World) => Lib.hid (nan_any x)
  clear hu na
  go_enter Try.func18, Try.ntmps18
  go_wp2_with (first | (go_at_call 16; ((with_reducible refine ((c0 _).out).mono ?_); rintro e w' ⟨rfl, rfl⟩)) | (go_at_call 28; ((with_reducible refine ((ca _).out).mono ?_); rintro e w' ⟨rfl, rfl⟩)) | (go_at_call 25; ((with_reducible refine ((cn _).out).mono ?_); rintro e w' ⟨rfl, rfl⟩)))
  all_goals
    go_ret
    exact ⟨rfl, rfl⟩

set_option maxHeartbeats 1000000 in
theorem mix_nan2 (a b t u : Nat) (hu : Cv.unit t = u)(i0 : (FloatKind.f64.format.order u 0 == some .eq) = false)(i1 : (FloatKind.f64.format.order u 4607182418800017408 == some .eq) = false)(na : Fl.isNaN a = false)(nb : Fl.isNaN b = true) (w : World) :
    Calls Try.prog 18 #[.float .f64 a, .float .f64 b, .float .f64 t] w fun e w' => e = .returned (.float .f64 9221120237041090561) ∧ w = w' := by
  have c0 := fun (x : World) => Lib.hid ((show Calls Try.prog 16 #[.float .f64 t] x fun e w' => e = .returned (.float .f64 u) ∧ x = w' from hu ▸ unit_any t x))
  have ca := fun (x : World) => Lib.hid (isnan_t a false na x)
  have cb := fun (x : World) => Lib.hid (isnan_t b true nb x)
  have cn := fun (x : World) => Lib.hid (nan_any x)
  clear hu na nb
  go_enter Try.func18, Try.ntmps18
  go_wp2_with (first | (go_at_call 16; ((with_reducible refine ((c0 _).out).mono ?_); rintro e w' ⟨rfl, rfl⟩)) | (go_at_call 28; first | ((with_reducible refine ((ca _).out).mono ?_); rintro e w' ⟨rfl, rfl⟩) | ((with_reducible refine ((cb _).out).mono ?_); rintro e w' ⟨rfl, rfl⟩)) | (go_at_call 25; ((with_reducible refine ((cn _).out).mono ?_); rintro e w' ⟨rfl, rfl⟩)))
  all_goals
    go_ret
    exact ⟨rfl, rfl⟩

set_option maxHeartbeats 1000000 in
theorem mix_same (a b t u : Nat) (hu : Cv.unit t = u)(i0 : (FloatKind.f64.format.order u 0 == some .eq) = false)(i1 : (FloatKind.f64.format.order u 4607182418800017408 == some .eq) = false)(na : Fl.isNaN a = false)(nb : Fl.isNaN b = false)(iab : (FloatKind.f64.format.order a b == some .eq) = true) (w : World) :
    Calls Try.prog 18 #[.float .f64 a, .float .f64 b, .float .f64 t] w fun e w' => e = .returned (.float .f64 a) ∧ w = w' := by
  have c0 := fun (x : World) => Lib.hid ((show Calls Try.prog 16 #[.float .f64 t] x fun e w' => e = .returned (.float .f64 u) ∧ x = w' from hu ▸ unit_any t x))
  have ca := fun (x : World) => Lib.hid (isnan_t a false na x)
  have cb := fun (x : World) => Lib.hid (isnan_t b false nb x)
  clear hu na nb
  go_enter Try.func18, Try.ntmps18
  go_wp2_with (first | (go_at_call 16; ((with_reducible refine ((c0 _).out).mono ?_); rintro e w' ⟨rfl, rfl⟩)) | (go_at_call 28; first | ((with_reducible refine ((ca _).out).mono ?_); rintro e w' ⟨rfl, rfl⟩) | ((with_reducible refine ((cb _).out).mono ?_); rintro e w' ⟨rfl, rfl⟩)))
  all_goals
    go_ret
    exact ⟨rfl, rfl⟩

set_option maxHeartbeats 1000000 in
theorem mix_r (a b t u d m r : Nat) (hu : Cv.unit t = u)(i0 : (FloatKind.f64.format.order u 0 == some .eq) = false)(i1 : (FloatKind.f64.format.order u 4607182418800017408 == some .eq) = false)(na : Fl.isNaN a = false)(nb : Fl.isNaN b = false)(iab : (FloatKind.f64.format.order a b == some .eq) = false)(h1 : Ieee.double.sub b a = some d) (h2 : Ieee.double.mul d u = some m)(h3 : Ieee.double.add a m = some r) (nr : Fl.isNaN r = false) (w : World) :
    Calls Try.prog 18 #[.float .f64 a, .float .f64 b, .float .f64 t] w fun e w' => e = .returned (.float .f64 r) ∧ w = w' := by
  have c0 := fun (x : World) => Lib.hid ((show Calls Try.prog 16 #[.float .f64 t] x fun e w' => e = .returned (.float .f64 u) ∧ x = w' from hu ▸ unit_any t x))
  have ca := fun (x : World) => Lib.hid (isnan_t a false na x)
  have cb := fun (x : World) => Lib.hid (isnan_t b false nb x)
  have cr := fun (x : World) => Lib.hid (isnan_t r false nr x)
  have c9 := fun (x : World) => Lib.hid (btw_r a b u d m r h1 h2 h3 x)
  clear hu na nb h1 h2 h3 nr
  go_enter Try.func18, Try.ntmps18
  go_wp2_with (first | (go_at_call 16; ((with_reducible refine ((c0 _).out).mono ?_); rintro e w' ⟨rfl, rfl⟩)) | (go_at_call 28; first | ((with_reducible refine ((ca _).out).mono ?_); rintro e w' ⟨rfl, rfl⟩) | ((with_reducible refine ((cb _).out).mono ?_); rintro e w' ⟨rfl, rfl⟩) | ((with_reducible refine ((cr _).out).mono ?_); rintro e w' ⟨rfl, rfl⟩)) | (go_at_call 32; ((with_reducible refine ((c9 _).out).mono ?_); rintro e w' ⟨rfl, rfl⟩)))
  all_goals
    go_ret
    exact ⟨rfl, rfl⟩

set_option maxHeartbeats 1000000 in
theorem mix_none (a b t u d m : Nat) (hu : Cv.unit t = u)(i0 : (FloatKind.f64.format.order u 0 == some .eq) = false)(i1 : (FloatKind.f64.format.order u 4607182418800017408 == some .eq) = false)(na : Fl.isNaN a = false)(nb : Fl.isNaN b = false)(iab : (FloatKind.f64.format.order a b == some .eq) = false) (h1 : Ieee.double.sub b a = some d) (h2 : Ieee.double.mul d u = some m) (h3 : Ieee.double.add a m = none) (w : World) :
    Calls Try.prog 18 #[.float .f64 a, .float .f64 b, .float .f64 t] w fun e w' => e = .returned (.float .f64 b) ∧ Below w.heap.size w w' := by
  obtain ⟨n, hn, k⟩ := btw_none a b u d m h1 h2 h3 w
  have k' := Lib.hid k
  have c0 := fun (x : World) => Lib.hid ((show Calls Try.prog 16 #[.float .f64 t] x fun e w' => e = .returned (.float .f64 u) ∧ x = w' from hu ▸ unit_any t x))
  have ca := fun (x : World) => Lib.hid (isnan_t a false na x)
  have cb := fun (x : World) => Lib.hid (isnan_t b false nb x)
  have cr := fun (x : World) => Lib.hid (isnan_t n true hn x)
  clear hu na nb h1 h2 h3 hn k
  go_enter Try.func18, Try.ntmps18
  go_wp2_with (first | (go_at_call 32; refine (k'.out).mono ?_; rintro e w' ⟨rfl, hk⟩) | (first | (go_at_call 16; ((with_reducible refine ((c0 _).out).mono ?_); rintro e w' ⟨rfl, rfl⟩)) | (go_at_call 28; first | ((with_reducible refine ((ca _).out).mono ?_); rintro e w' ⟨rfl, rfl⟩) | ((with_reducible refine ((cb _).out).mono ?_); rintro e w' ⟨rfl, rfl⟩) | ((with_reducible refine ((cr _).out).mono ?_); rintro e w' ⟨rfl, rfl⟩))))
  go_ret
  exact ⟨rfl, hk⟩

theorem mix_any (a b t : Nat) (w : World) :
    Calls Try.prog 18 #[.float .f64 a, .float .f64 b, .float .f64 t] w fun e w' => e = .returned (.float .f64 (Cv.mix a b t)) ∧ Below w.heap.size w w' := by
  obtain ⟨nu, u0, u1, _, fu, _⟩ := Cv.unit_spec t
  have i0 := Fl.eq_iff nu Cv.n0
  have i1 := Fl.eq_iff nu Cv.n1
  rw [Cv.z0] at i0
  rw [Cv.z1] at i1
  by_cases h0 : Fl.Z (Cv.unit t) = 0
  · rw [decide_eq_true h0] at i0
    have e : Cv.mix a b t = a := by unfold Cv.mix; rw [if_pos h0]
    rw [e]
    exact to_below (mix_a a b t _ rfl i0 w)
  · rw [decide_eq_false h0] at i0
    by_cases h1 : Fl.Z (Cv.unit t) = Fl.U
    · rw [decide_eq_true h1] at i1
      have e : Cv.mix a b t = b := by unfold Cv.mix; rw [if_neg h0, if_pos h1]
      rw [e]
      exact to_below (mix_b a b t _ rfl i0 i1 w)
    · rw [decide_eq_false h1] at i1
      cases na : Fl.isNaN a
      · cases nb : Fl.isNaN b
        · have iab := Fl.eq_iff na nb
          by_cases hz : Fl.Z a = Fl.Z b
          · rw [decide_eq_true hz] at iab
            have e : Cv.mix a b t = a := by unfold Cv.mix; rw [if_neg h0, if_neg h1, na, nb, if_pos hz]; rfl
            rw [e]
            exact to_below (mix_same a b t _ rfl i0 i1 na nb iab w)
          · rw [decide_eq_false hz] at iab
            obtain ⟨d, m, h2, h3, he, hr⟩ := Cv.btw_steps na nb hz fu h0
            have e : Cv.mix a b t = (Ieee.double.add a m).getD b := by unfold Cv.mix; rw [if_neg h0, if_neg h1, na, nb, if_neg hz, he]; rfl
            rw [e]
            rcases hr with hr | ⟨r, hr, nr⟩
            · rw [hr]
              exact mix_none a b t _ d m rfl i0 i1 na nb iab h2 h3 hr w
            · rw [hr]
              exact to_below (mix_r a b t _ d m r rfl i0 i1 na nb iab h2 h3 hr nr w)
        · rw [Cv.mix_nan h0 h1 (by rw [nb]; simp)]
          exact to_below (mix_nan2 a b t _ rfl i0 i1 na nb w)
      · rw [Cv.mix_nan h0 h1 (by rw [na]; simp)]
        exact to_below (mix_nan1 a b t _ rfl i0 i1 na w)

set_option maxHeartbeats 1000000 in
theorem refmix_a (a b t u : Nat) (hu : Cv.unit t = u)(i0 : (FloatKind.f64.format.order u 0 == some .eq) = true) (w : World) :
    Calls Try.prog 19 #[.float .f64 a, .float .f64 b, .float .f64 t] w fun e w' => e = .returned (.float .f64 a) ∧ w = w' := by
  have c0 := fun (x : World) => Lib.hid ((show Calls Try.prog 17 #[.float .f64 t] x fun e w' => e = .returned (.float .f64 u) ∧ x = w' from hu ▸ refunit_any t x))
  clear hu
  go_enter Try.func19, Try.ntmps19
  go_wp2_with (first | (go_at_call 17; ((with_reducible refine ((c0 _).out).mono ?_); rintro e w' ⟨rfl, rfl⟩)))
  all_goals
    go_ret
    exact ⟨rfl, rfl⟩

set_option maxHeartbeats 1000000 in
theorem refmix_b (a b t u : Nat) (hu : Cv.unit t = u)(i0 : (FloatKind.f64.format.order u 0 == some .eq) = false)(i1 : (FloatKind.f64.format.order u 4607182418800017408 == some .eq) = true) (w : World) :
    Calls Try.prog 19 #[.float .f64 a, .float .f64 b, .float .f64 t] w fun e w' => e = .returned (.float .f64 b) ∧ w = w' := by
  have c0 := fun (x : World) => Lib.hid ((show Calls Try.prog 17 #[.float .f64 t] x fun e w' => e = .returned (.float .f64 u) ∧ x = w' from hu ▸ refunit_any t x))
  clear hu
  go_enter Try.func19, Try.ntmps19
  go_wp2_with (first | (go_at_call 17; ((with_reducible refine ((c0 _).out).mono ?_); rintro e w' ⟨rfl, rfl⟩)))
  all_goals
    go_ret
    exact ⟨rfl, rfl⟩

set_option maxHeartbeats 1000000 in
theorem refmix_nan1 (a b t u : Nat) (hu : Cv.unit t = u)(i0 : (FloatKind.f64.format.order u 0 == some .eq) = false)(i1 : (FloatKind.f64.format.order u 4607182418800017408 == some .eq) = false)(na : Fl.isNaN a = true) (w : World) :
    Calls Try.prog 19 #[.float .f64 a, .float .f64 b, .float .f64 t] w fun e w' => e = .returned (.float .f64 9221120237041090561) ∧ w = w' := by
  have c0 := fun (x : World) => Lib.hid ((show Calls Try.prog 17 #[.float .f64 t] x fun e w' => e = .returned (.float .f64 u) ∧ x = w' from hu ▸ refunit_any t x))
  have ca := fun (x : World) => Lib.hid (refnan_t a true na x)
  have cn := fun (x : World) => Lib.hid (nan_any x)
  clear hu na
  go_enter Try.func19, Try.ntmps19
  go_wp2_with (first | (go_at_call 17; ((with_reducible refine ((c0 _).out).mono ?_); rintro e w' ⟨rfl, rfl⟩)) | (go_at_call 29; ((with_reducible refine ((ca _).out).mono ?_); rintro e w' ⟨rfl, rfl⟩)) | (go_at_call 25; ((with_reducible refine ((cn _).out).mono ?_); rintro e w' ⟨rfl, rfl⟩)))
  all_goals
    go_ret
    exact ⟨rfl, rfl⟩

set_option maxHeartbeats 1000000 in
theorem refmix_nan2 (a b t u : Nat) (hu : Cv.unit t = u)(i0 : (FloatKind.f64.format.order u 0 == some .eq) = false)(i1 : (FloatKind.f64.format.order u 4607182418800017408 == some .eq) = false)(na : Fl.isNaN a = false)(nb : Fl.isNaN b = true) (w : World) :
    Calls Try.prog 19 #[.float .f64 a, .float .f64 b, .float .f64 t] w fun e w' => e = .returned (.float .f64 9221120237041090561) ∧ w = w' := by
  have c0 := fun (x : World) => Lib.hid ((show Calls Try.prog 17 #[.float .f64 t] x fun e w' => e = .returned (.float .f64 u) ∧ x = w' from hu ▸ refunit_any t x))
  have ca := fun (x : World) => Lib.hid (refnan_t a false na x)
  have cb := fun (x : World) => Lib.hid (refnan_t b true nb x)
  have cn := fun (x : World) => Lib.hid (nan_any x)
  clear hu na nb
  go_enter Try.func19, Try.ntmps19
  go_wp2_with (first | (go_at_call 17; ((with_reducible refine ((c0 _).out).mono ?_); rintro e w' ⟨rfl, rfl⟩)) | (go_at_call 29; first | ((with_reducible refine ((ca _).out).mono ?_); rintro e w' ⟨rfl, rfl⟩) | ((with_reducible refine ((cb _).out).mono ?_); rintro e w' ⟨rfl, rfl⟩)) | (go_at_call 25; ((with_reducible refine ((cn _).out).mono ?_); rintro e w' ⟨rfl, rfl⟩)))
  all_goals
    go_ret
    exact ⟨rfl, rfl⟩

set_option maxHeartbeats 1000000 in
theorem refmix_same (a b t u : Nat) (hu : Cv.unit t = u)(i0 : (FloatKind.f64.format.order u 0 == some .eq) = false)(i1 : (FloatKind.f64.format.order u 4607182418800017408 == some .eq) = false)(na : Fl.isNaN a = false)(nb : Fl.isNaN b = false)(iab : (FloatKind.f64.format.order a b == some .eq) = true) (w : World) :
    Calls Try.prog 19 #[.float .f64 a, .float .f64 b, .float .f64 t] w fun e w' => e = .returned (.float .f64 a) ∧ w = w' := by
  have c0 := fun (x : World) => Lib.hid ((show Calls Try.prog 17 #[.float .f64 t] x fun e w' => e = .returned (.float .f64 u) ∧ x = w' from hu ▸ refunit_any t x))
  have ca := fun (x : World) => Lib.hid (refnan_t a false na x)
  have cb := fun (x : World) => Lib.hid (refnan_t b false nb x)
  clear hu na nb
  go_enter Try.func19, Try.ntmps19
  go_wp2_with (first | (go_at_call 17; ((with_reducible refine ((c0 _).out).mono ?_); rintro e w' ⟨rfl, rfl⟩)) | (go_at_call 29; first | ((with_reducible refine ((ca _).out).mono ?_); rintro e w' ⟨rfl, rfl⟩) | ((with_reducible refine ((cb _).out).mono ?_); rintro e w' ⟨rfl, rfl⟩)))
  all_goals
    go_ret
    exact ⟨rfl, rfl⟩

set_option maxHeartbeats 1000000 in
theorem refmix_r (a b t u d m r : Nat) (hu : Cv.unit t = u)(i0 : (FloatKind.f64.format.order u 0 == some .eq) = false)(i1 : (FloatKind.f64.format.order u 4607182418800017408 == some .eq) = false)(na : Fl.isNaN a = false)(nb : Fl.isNaN b = false)(iab : (FloatKind.f64.format.order a b == some .eq) = false)(h1 : Ieee.double.sub b a = some d) (h2 : Ieee.double.mul d u = some m)(h3 : Ieee.double.add a m = some r) (nr : Fl.isNaN r = false) (w : World) :
    Calls Try.prog 19 #[.float .f64 a, .float .f64 b, .float .f64 t] w fun e w' => e = .returned (.float .f64 r) ∧ w = w' := by
  have c0 := fun (x : World) => Lib.hid ((show Calls Try.prog 17 #[.float .f64 t] x fun e w' => e = .returned (.float .f64 u) ∧ x = w' from hu ▸ refunit_any t x))
  have ca := fun (x : World) => Lib.hid (refnan_t a false na x)
  have cb := fun (x : World) => Lib.hid (refnan_t b false nb x)
  have cr := fun (x : World) => Lib.hid (refnan_t r false nr x)
  have k1 := fun w => run_float_arith (P := Try.prog) w .sub 22 .f64 b a d h1
  have k2 := fun w => run_float_arith (P := Try.prog) w .mul 22 .f64 d u m h2
  have k3 := fun w => run_float_arith (P := Try.prog) w .add 22 .f64 a m r h3
  clear hu na nb h1 h2 h3 nr
  go_enter Try.func19, Try.ntmps19
  go_wp2_with (first | (go_at_call 17; ((with_reducible refine ((c0 _).out).mono ?_); rintro e w' ⟨rfl, rfl⟩)) | (go_at_call 29; first | ((with_reducible refine ((ca _).out).mono ?_); rintro e w' ⟨rfl, rfl⟩) | ((with_reducible refine ((cb _).out).mono ?_); rintro e w' ⟨rfl, rfl⟩) | ((with_reducible refine ((cr _).out).mono ?_); rintro e w' ⟨rfl, rfl⟩)))
  all_goals
    go_ret
    exact ⟨rfl, rfl⟩

set_option maxHeartbeats 1000000 in
theorem refmix_none (a b t u d m : Nat) (hu : Cv.unit t = u)(i0 : (FloatKind.f64.format.order u 0 == some .eq) = false)(i1 : (FloatKind.f64.format.order u 4607182418800017408 == some .eq) = false)(na : Fl.isNaN a = false)(nb : Fl.isNaN b = false)(iab : (FloatKind.f64.format.order a b == some .eq) = false) (h1 : Ieee.double.sub b a = some d) (h2 : Ieee.double.mul d u = some m) (h3 : Ieee.double.add a m = none) (w : World) :
    Calls Try.prog 19 #[.float .f64 a, .float .f64 b, .float .f64 t] w fun e w' => e = .returned (.float .f64 b) ∧ Below w.heap.size w w' := by
  obtain ⟨n, hn, _, k3⟩ := run_float_nan (P := Try.prog) w .add (by simp) 22 a m h3
  have c0 := fun (x : World) => Lib.hid ((show Calls Try.prog 17 #[.float .f64 t] x fun e w' => e = .returned (.float .f64 u) ∧ x = w' from hu ▸ refunit_any t x))
  have ca := fun (x : World) => Lib.hid (refnan_t a false na x)
  have cb := fun (x : World) => Lib.hid (refnan_t b false nb x)
  have cr := fun (x : World) => Lib.hid (refnan_t n true hn x)
  have k1 := fun w => run_float_arith (P := Try.prog) w .sub 22 .f64 b a d h1
  have k2 := fun w => run_float_arith (P := Try.prog) w .mul 22 .f64 d u m h2
  clear hu na nb h1 h2 h3 hn
  go_enter Try.func19, Try.ntmps19
  go_wp2_with (first | (go_at_call 17; ((with_reducible refine ((c0 _).out).mono ?_); rintro e w' ⟨rfl, rfl⟩)) | (go_at_call 29; first | ((with_reducible refine ((ca _).out).mono ?_); rintro e w' ⟨rfl, rfl⟩) | ((with_reducible refine ((cb _).out).mono ?_); rintro e w' ⟨rfl, rfl⟩) | ((with_reducible refine ((cr _).out).mono ?_); rintro e w' ⟨rfl, rfl⟩)))
  go_ret
  exact ⟨rfl, (Below.refl _ _).drew⟩

theorem refmix_any (a b t : Nat) (w : World) :
    Calls Try.prog 19 #[.float .f64 a, .float .f64 b, .float .f64 t] w fun e w' => e = .returned (.float .f64 (Cv.mix a b t)) ∧ Below w.heap.size w w' := by
  obtain ⟨nu, u0, u1, _, fu, _⟩ := Cv.unit_spec t
  have i0 := Fl.eq_iff nu Cv.n0
  have i1 := Fl.eq_iff nu Cv.n1
  rw [Cv.z0] at i0
  rw [Cv.z1] at i1
  by_cases h0 : Fl.Z (Cv.unit t) = 0
  · rw [decide_eq_true h0] at i0
    have e : Cv.mix a b t = a := by unfold Cv.mix; rw [if_pos h0]
    rw [e]
    exact to_below (refmix_a a b t _ rfl i0 w)
  · rw [decide_eq_false h0] at i0
    by_cases h1 : Fl.Z (Cv.unit t) = Fl.U
    · rw [decide_eq_true h1] at i1
      have e : Cv.mix a b t = b := by unfold Cv.mix; rw [if_neg h0, if_pos h1]
      rw [e]
      exact to_below (refmix_b a b t _ rfl i0 i1 w)
    · rw [decide_eq_false h1] at i1
      cases na : Fl.isNaN a
      · cases nb : Fl.isNaN b
        · have iab := Fl.eq_iff na nb
          by_cases hz : Fl.Z a = Fl.Z b
          · rw [decide_eq_true hz] at iab
            have e : Cv.mix a b t = a := by unfold Cv.mix; rw [if_neg h0, if_neg h1, na, nb, if_pos hz]; rfl
            rw [e]
            exact to_below (refmix_same a b t _ rfl i0 i1 na nb iab w)
          · rw [decide_eq_false hz] at iab
            obtain ⟨d, m, h2, h3, he, hr⟩ := Cv.btw_steps na nb hz fu h0
            have e : Cv.mix a b t = (Ieee.double.add a m).getD b := by unfold Cv.mix; rw [if_neg h0, if_neg h1, na, nb, if_neg hz, he]; rfl
            rw [e]
            rcases hr with hr | ⟨r, hr, nr⟩
            · rw [hr]
              exact refmix_none a b t _ d m rfl i0 i1 na nb iab h2 h3 hr w
            · rw [hr]
              exact to_below (refmix_r a b t _ d m r rfl i0 i1 na nb iab h2 h3 hr nr w)
        · rw [Cv.mix_nan h0 h1 (by rw [nb]; simp)]
          exact to_below (refmix_nan2 a b t _ rfl i0 i1 na nb w)
      · rw [Cv.mix_nan h0 h1 (by rw [na]; simp)]
        exact to_below (refmix_nan1 a b t _ rfl i0 i1 na w)

set_option maxHeartbeats 1000000 in
theorem ease_path (t u q v r f : Nat) (hu : Cv.unit t = u) (h1 : Ieee.double.mul u u = some q) (h2 : Ieee.double.mul 4611686018427387904 u = some v) (h3 : Ieee.double.sub 4613937818241073152 v = some r) (h4 : Ieee.double.mul q r = some f) (w : World) :
    Calls Try.prog 20 #[.float .f64 t] w fun e w' => e = .returned (.float .f64 f) ∧ w = w' := by
  have c0 := fun (x : World) => Lib.hid ((show Calls Try.prog 16 #[.float .f64 t] x fun e w' => e = .returned (.float .f64 u) ∧ x = w' from hu ▸ unit_any t x))
  have k1 := fun w => run_float_arith (P := Try.prog) w .mul 22 .f64 u u q h1
  have k2 := fun w => run_float_arith (P := Try.prog) w .mul 22 .f64 4611686018427387904 u v h2
  have k3 := fun w => run_float_arith (P := Try.prog) w .sub 22 .f64 4613937818241073152 v r h3
  have k4 := fun w => run_float_arith (P := Try.prog) w .mul 22 .f64 q r f h4
  clear hu h1 h2 h3 h4
  go_enter Try.func20, Try.ntmps20
  go_wp2_with (first | (go_at_call 16; ((with_reducible refine ((c0 _).out).mono ?_); rintro e w' ⟨rfl, rfl⟩)))
  all_goals
    go_ret
    exact ⟨rfl, rfl⟩

theorem ease_any (t : Nat) (w : World) :
    Calls Try.prog 20 #[.float .f64 t] w fun e w' => e = .returned (.float .f64 (Cv.ease t)) ∧ w = w' := by
  obtain ⟨nu, u0, u1, su, fu, _⟩ := Cv.unit_spec t
  obtain ⟨q, v, r, f, h1, h2, h3, h4, he, _⟩ := Cv.ease_steps u1 fu su
  have e : Cv.ease t = f := he
  rw [e]
  exact ease_path t _ q v r f rfl h1 h2 h3 h4 w

set_option maxHeartbeats 1000000 in
theorem refease_path (t u q v r f : Nat) (hu : Cv.unit t = u) (h1 : Ieee.double.mul u u = some q) (h2 : Ieee.double.mul 4611686018427387904 u = some v) (h3 : Ieee.double.sub 4613937818241073152 v = some r) (h4 : Ieee.double.mul q r = some f) (w : World) :
    Calls Try.prog 21 #[.float .f64 t] w fun e w' => e = .returned (.float .f64 f) ∧ w = w' := by
  have c0 := fun (x : World) => Lib.hid ((show Calls Try.prog 17 #[.float .f64 t] x fun e w' => e = .returned (.float .f64 u) ∧ x = w' from hu ▸ refunit_any t x))
  have k1 := fun w => run_float_arith (P := Try.prog) w .mul 22 .f64 u u q h1
  have k2 := fun w => run_float_arith (P := Try.prog) w .mul 22 .f64 4611686018427387904 u v h2
  have k3 := fun w => run_float_arith (P := Try.prog) w .sub 22 .f64 4613937818241073152 v r h3
  have k4 := fun w => run_float_arith (P := Try.prog) w .mul 22 .f64 q r f h4
  clear hu h1 h2 h3 h4
  go_enter Try.func21, Try.ntmps21
  go_wp2_with (first | (go_at_call 17; ((with_reducible refine ((c0 _).out).mono ?_); rintro e w' ⟨rfl, rfl⟩)))
  all_goals
    go_ret
    exact ⟨rfl, rfl⟩

theorem refease_any (t : Nat) (w : World) :
    Calls Try.prog 21 #[.float .f64 t] w fun e w' => e = .returned (.float .f64 (Cv.ease t)) ∧ w = w' := by
  obtain ⟨nu, u0, u1, su, fu, _⟩ := Cv.unit_spec t
  obtain ⟨q, v, r, f, h1, h2, h3, h4, he, _⟩ := Cv.ease_steps u1 fu su
  have e : Cv.ease t = f := he
  rw [e]
  exact refease_path t _ q v r f rfl h1 h2 h3 h4 w

set_option maxHeartbeats 1000000 in
theorem turn_nan (a : Nat) (na : Fl.isNaN a = true) (w : World) :
    Calls Try.prog 22 #[.float .f64 a] w fun e w' => e = .returned (.float .f64 0) ∧ w = w' := by
  have c1 := fun (x : World) => Lib.hid (isnan_t a true na x)
  clear na
  go_enter Try.func22, Try.ntmps22
  go_wp2_with (first | (go_at_call 28; ((with_reducible refine ((c1 _).out).mono ?_); rintro e w' ⟨rfl, rfl⟩)))
  all_goals
    go_ret
    exact ⟨rfl, rfl⟩

set_option maxHeartbeats 1000000 in
theorem turn_inf (a : Nat) (na : Fl.isNaN a = false) (fin : Fl.rung a = Fl.inf) (wa : a < 2 ^ 64) (w : World) :
    Calls Try.prog 22 #[.float .f64 a] w fun e w' => e = .returned (.float .f64 0) ∧ w = w' := by
  have c1 := fun (x : World) => Lib.hid (isnan_t a false na x)
  have c2 := fun (x : World) => Lib.hid (isinf_inf fin wa x)
  clear na fin wa
  go_enter Try.func22, Try.ntmps22
  go_wp2_with (first | (go_at_call 28; ((with_reducible refine ((c1 _).out).mono ?_); rintro e w' ⟨rfl, rfl⟩)) | (go_at_call 33; ((with_reducible refine ((c2 _).out).mono ?_); rintro e w' ⟨rfl, rfl⟩)))
  all_goals
    go_ret
    exact ⟨rfl, rfl⟩

set_option maxHeartbeats 1000000 in
theorem turn_low (a f p : Nat) (na : Fl.isNaN a = false) (fin : Fl.rung a < Fl.inf) (wa : a < 2 ^ 64) (hf : Cv.flr a = f) (h1 : Ieee.double.sub a f = some p)(ih : (FloatKind.f64.format.order p 4602678819172646912 == some .gt || FloatKind.f64.format.order p 4602678819172646912 == some .eq) = false) (w : World) :
    Calls Try.prog 22 #[.float .f64 a] w fun e w' => e = .returned (.float .f64 p) ∧ w = w' := by
  have c1 := fun (x : World) => Lib.hid (isnan_t a false na x)
  have c2 := fun (x : World) => Lib.hid (isinf_fin fin wa x)
  have cf := fun (x : World) => Lib.hid ((show Calls Try.prog 34 #[.float .f64 a] x fun e w' => e = .returned (.float .f64 f) ∧ x = w' from hf ▸ floor_any fin x))
  have k1 := fun w => run_float_arith (P := Try.prog) w .sub 22 .f64 a f p h1
  clear na fin wa hf h1
  go_enter Try.func22, Try.ntmps22
  go_wp2_with (first | (go_at_call 28; ((with_reducible refine ((c1 _).out).mono ?_); rintro e w' ⟨rfl, rfl⟩)) | (go_at_call 33; ((with_reducible refine ((c2 _).out).mono ?_); rintro e w' ⟨rfl, rfl⟩)) | (go_at_call 34; ((with_reducible refine ((cf _).out).mono ?_); rintro e w' ⟨rfl, rfl⟩)))
  all_goals
    go_ret
    exact ⟨rfl, rfl⟩

set_option maxHeartbeats 1000000 in
theorem turn_high (a f p q : Nat) (na : Fl.isNaN a = false) (fin : Fl.rung a < Fl.inf) (wa : a < 2 ^ 64) (hf : Cv.flr a = f) (h1 : Ieee.double.sub a f = some p)(ih : (FloatKind.f64.format.order p 4602678819172646912 == some .gt || FloatKind.f64.format.order p 4602678819172646912 == some .eq) = true)(h2 : Ieee.double.sub p 4607182418800017408 = some q) (w : World) :
    Calls Try.prog 22 #[.float .f64 a] w fun e w' => e = .returned (.float .f64 q) ∧ w = w' := by
  have c1 := fun (x : World) => Lib.hid (isnan_t a false na x)
  have c2 := fun (x : World) => Lib.hid (isinf_fin fin wa x)
  have cf := fun (x : World) => Lib.hid ((show Calls Try.prog 34 #[.float .f64 a] x fun e w' => e = .returned (.float .f64 f) ∧ x = w' from hf ▸ floor_any fin x))
  have k1 := fun w => run_float_arith (P := Try.prog) w .sub 22 .f64 a f p h1
  have k2 := fun w => run_float_arith (P := Try.prog) w .sub 22 .f64 p 4607182418800017408 q h2
  clear na fin wa hf h1 h2
  go_enter Try.func22, Try.ntmps22
  go_wp2_with (first | (go_at_call 28; ((with_reducible refine ((c1 _).out).mono ?_); rintro e w' ⟨rfl, rfl⟩)) | (go_at_call 33; ((with_reducible refine ((c2 _).out).mono ?_); rintro e w' ⟨rfl, rfl⟩)) | (go_at_call 34; ((with_reducible refine ((cf _).out).mono ?_); rintro e w' ⟨rfl, rfl⟩)))
  all_goals
    go_ret
    exact ⟨rfl, rfl⟩

set_option maxHeartbeats 1000000 in
theorem refturn_nan (a : Nat) (na : Fl.isNaN a = true) (w : World) :
    Calls Try.prog 23 #[.float .f64 a] w fun e w' => e = .returned (.float .f64 0) ∧ w = w' := by
  have c1 := fun (x : World) => Lib.hid (refnan_t a true na x)
  clear na
  go_enter Try.func23, Try.ntmps23
  go_wp2_with (first | (go_at_call 29; ((with_reducible refine ((c1 _).out).mono ?_); rintro e w' ⟨rfl, rfl⟩)))
  all_goals
    go_ret
    exact ⟨rfl, rfl⟩

set_option maxHeartbeats 1000000 in
theorem refturn_inf1 (a : Nat) (na : Fl.isNaN a = false)(ig : (FloatKind.f64.format.order a 9218868437227405311 == some .gt) = true) (w : World) :
    Calls Try.prog 23 #[.float .f64 a] w fun e w' => e = .returned (.float .f64 0) ∧ w = w' := by
  have c1 := fun (x : World) => Lib.hid (refnan_t a false na x)
  clear na
  go_enter Try.func23, Try.ntmps23
  go_wp2_with (first | (go_at_call 29; ((with_reducible refine ((c1 _).out).mono ?_); rintro e w' ⟨rfl, rfl⟩)))
  all_goals
    go_ret
    exact ⟨rfl, rfl⟩

set_option maxHeartbeats 1000000 in
theorem refturn_inf2 (a : Nat) (na : Fl.isNaN a = false)(ig : (FloatKind.f64.format.order a 9218868437227405311 == some .gt) = false)(il : (FloatKind.f64.format.order a 18442240474082181119 == some .lt) = true) (w : World) :
    Calls Try.prog 23 #[.float .f64 a] w fun e w' => e = .returned (.float .f64 0) ∧ w = w' := by
  have c1 := fun (x : World) => Lib.hid (refnan_t a false na x)
  clear na
  go_enter Try.func23, Try.ntmps23
  go_wp2_with (first | (go_at_call 29; ((with_reducible refine ((c1 _).out).mono ?_); rintro e w' ⟨rfl, rfl⟩)))
  all_goals
    go_ret
    exact ⟨rfl, rfl⟩

set_option maxHeartbeats 1000000 in
theorem refturn_low0 (a f p : Nat) (na : Fl.isNaN a = false)(ig : (FloatKind.f64.format.order a 9218868437227405311 == some .gt) = false)(il : (FloatKind.f64.format.order a 18442240474082181119 == some .lt) = false)(fin : Fl.rung a < Fl.inf) (hf : Cv.flr a = f) (h1 : Ieee.double.sub a f = some p)(ih : (FloatKind.f64.format.order p 4602678819172646912 == some .gt || FloatKind.f64.format.order p 4602678819172646912 == some .eq) = false)(iz : (FloatKind.f64.format.order p 0 == some .eq) = true) (w : World) :
    Calls Try.prog 23 #[.float .f64 a] w fun e w' => e = .returned (.float .f64 0) ∧ w = w' := by
  have c1 := fun (x : World) => Lib.hid (refnan_t a false na x)
  have cf := fun (x : World) => Lib.hid ((show Calls Try.prog 34 #[.float .f64 a] x fun e w' => e = .returned (.float .f64 f) ∧ x = w' from hf ▸ floor_any fin x))
  have k1 := fun w => run_float_arith (P := Try.prog) w .sub 22 .f64 a f p h1
  clear na fin hf h1
  go_enter Try.func23, Try.ntmps23
  go_wp2_with (first | (go_at_call 29; ((with_reducible refine ((c1 _).out).mono ?_); rintro e w' ⟨rfl, rfl⟩)) | (go_at_call 34; ((with_reducible refine ((cf _).out).mono ?_); rintro e w' ⟨rfl, rfl⟩)))
  all_goals
    go_ret
    exact ⟨rfl, rfl⟩

set_option maxHeartbeats 1000000 in
theorem refturn_high0 (a f p q : Nat) (na : Fl.isNaN a = false)(ig : (FloatKind.f64.format.order a 9218868437227405311 == some .gt) = false)(il : (FloatKind.f64.format.order a 18442240474082181119 == some .lt) = false)(fin : Fl.rung a < Fl.inf) (hf : Cv.flr a = f) (h1 : Ieee.double.sub a f = some p)(ih : (FloatKind.f64.format.order p 4602678819172646912 == some .gt || FloatKind.f64.format.order p 4602678819172646912 == some .eq) = true)(h2 : Ieee.double.sub p 4607182418800017408 = some q)(iz : (FloatKind.f64.format.order q 0 == some .eq) = true) (w : World) :
    Calls Try.prog 23 #[.float .f64 a] w fun e w' => e = .returned (.float .f64 0) ∧ w = w' := by
  have c1 := fun (x : World) => Lib.hid (refnan_t a false na x)
  have cf := fun (x : World) => Lib.hid ((show Calls Try.prog 34 #[.float .f64 a] x fun e w' => e = .returned (.float .f64 f) ∧ x = w' from hf ▸ floor_any fin x))
  have k1 := fun w => run_float_arith (P := Try.prog) w .sub 22 .f64 a f p h1
  have k2 := fun w => run_float_arith (P := Try.prog) w .sub 22 .f64 p 4607182418800017408 q h2
  clear na fin hf h1 h2
  go_enter Try.func23, Try.ntmps23
  go_wp2_with (first | (go_at_call 29; ((with_reducible refine ((c1 _).out).mono ?_); rintro e w' ⟨rfl, rfl⟩)) | (go_at_call 34; ((with_reducible refine ((cf _).out).mono ?_); rintro e w' ⟨rfl, rfl⟩)))
  all_goals
    go_ret
    exact ⟨rfl, rfl⟩

set_option maxHeartbeats 1000000 in
theorem refturn_low (a f p : Nat) (na : Fl.isNaN a = false)(ig : (FloatKind.f64.format.order a 9218868437227405311 == some .gt) = false)(il : (FloatKind.f64.format.order a 18442240474082181119 == some .lt) = false)(fin : Fl.rung a < Fl.inf) (hf : Cv.flr a = f) (h1 : Ieee.double.sub a f = some p)(ih : (FloatKind.f64.format.order p 4602678819172646912 == some .gt || FloatKind.f64.format.order p 4602678819172646912 == some .eq) = false)(iz : (FloatKind.f64.format.order p 0 == some .eq) = false) (w : World) :
    Calls Try.prog 23 #[.float .f64 a] w fun e w' => e = .returned (.float .f64 p) ∧ w = w' := by
  have c1 := fun (x : World) => Lib.hid (refnan_t a false na x)
  have cf := fun (x : World) => Lib.hid ((show Calls Try.prog 34 #[.float .f64 a] x fun e w' => e = .returned (.float .f64 f) ∧ x = w' from hf ▸ floor_any fin x))
  have k1 := fun w => run_float_arith (P := Try.prog) w .sub 22 .f64 a f p h1
  clear na fin hf h1
  go_enter Try.func23, Try.ntmps23
  go_wp2_with (first | (go_at_call 29; ((with_reducible refine ((c1 _).out).mono ?_); rintro e w' ⟨rfl, rfl⟩)) | (go_at_call 34; ((with_reducible refine ((cf _).out).mono ?_); rintro e w' ⟨rfl, rfl⟩)))
  all_goals
    go_ret
    exact ⟨rfl, rfl⟩

set_option maxHeartbeats 1000000 in
theorem refturn_high (a f p q : Nat) (na : Fl.isNaN a = false)(ig : (FloatKind.f64.format.order a 9218868437227405311 == some .gt) = false)(il : (FloatKind.f64.format.order a 18442240474082181119 == some .lt) = false)(fin : Fl.rung a < Fl.inf) (hf : Cv.flr a = f) (h1 : Ieee.double.sub a f = some p)(ih : (FloatKind.f64.format.order p 4602678819172646912 == some .gt || FloatKind.f64.format.order p 4602678819172646912 == some .eq) = true)(h2 : Ieee.double.sub p 4607182418800017408 = some q)(iz : (FloatKind.f64.format.order q 0 == some .eq) = false) (w : World) :
    Calls Try.prog 23 #[.float .f64 a] w fun e w' => e = .returned (.float .f64 q) ∧ w = w' := by
  have c1 := fun (x : World) => Lib.hid (refnan_t a false na x)
  have cf := fun (x : World) => Lib.hid ((show Calls Try.prog 34 #[.float .f64 a] x fun e w' => e = .returned (.float .f64 f) ∧ x = w' from hf ▸ floor_any fin x))
  have k1 := fun w => run_float_arith (P := Try.prog) w .sub 22 .f64 a f p h1
  have k2 := fun w => run_float_arith (P := Try.prog) w .sub 22 .f64 p 4607182418800017408 q h2
  clear na fin hf h1 h2
  go_enter Try.func23, Try.ntmps23
  go_wp2_with (first | (go_at_call 29; ((with_reducible refine ((c1 _).out).mono ?_); rintro e w' ⟨rfl, rfl⟩)) | (go_at_call 34; ((with_reducible refine ((cf _).out).mono ?_); rintro e w' ⟨rfl, rfl⟩)))
  all_goals
    go_ret
    exact ⟨rfl, rfl⟩

theorem turn_any {a : Nat} (wa : a < 2 ^ 64) (w : World) :
    Calls Try.prog 22 #[.float .f64 a] w fun e w' => e = .returned (.float .f64 (Cv.turn a)) ∧ w = w' := by
  cases na : Fl.isNaN a
  · by_cases fin : Fl.rung a < Fl.inf
    · obtain ⟨p, q, h1, np, p0, p1, sp, fp, h2, nq, _, e, _, _⟩ := Cv.turn_steps fin
      have ih := Fl.ge_iff np Cv.nh
      have zh := Cv.zh
      rw [e]
      by_cases c : (Fl.U : Int) ≤ 2 * Fl.Z p
      · rw [if_pos c]
        rw [decide_eq_true (by omega)] at ih
        exact turn_high a _ p q na fin wa rfl h1 ih h2 w
      · rw [if_neg c]
        rw [decide_eq_false (by omega)] at ih
        exact turn_low a _ p na fin wa rfl h1 ih w
    · have := Cv.rung_num na
      have e : Cv.turn a = 0 := by unfold Cv.turn; rw [if_neg fin]
      rw [e]
      exact turn_inf a na (by omega) wa w
  · have e : Cv.turn a = 0 := by
      unfold Cv.turn; rw [if_neg]
      simp only [Fl.isNaN, decide_eq_true_eq] at na
      omega
    rw [e]
    exact turn_nan a na w

theorem zmax : Fl.Z 9218868437227405311 = Fl.G 9218868437227405311 := by decide +kernel
theorem zmin : Fl.Z 18442240474082181119 = -(Fl.G 9218868437227405311 : Int) := by decide +kernel
theorem nmax : Fl.isNaN 9218868437227405311 = false := by decide +kernel
theorem nmin : Fl.isNaN 18442240474082181119 = false := by decide +kernel
theorem gmax : Fl.G 9218868437227405311 < Fl.G Fl.inf := by decide +kernel
theorem zero_of {r : Nat} (w : r < 2 ^ 64) (z : Fl.Z r = 0) (s : Fl.sgn r = false) : r = 0 := by
  have e : Fl.Z r = if Fl.sgn r then -(Fl.G (Fl.rung r) : Int) else Fl.G (Fl.rung r) := rfl
  rw [s] at e
  simp at e
  have := Fl.G_inj (show Fl.G (Fl.rung r) = Fl.G 0 by rw [Fl.G_zero]; omega)
  rw [← Fl.word_of w, s, this]
  rfl

theorem refturn_any {a : Nat} (w : World) :
    Calls Try.prog 23 #[.float .f64 a] w fun e w' => e = .returned (.float .f64 (Cv.turn a)) ∧ w = w' := by
  cases na : Fl.isNaN a
  · have ig := Fl.gt_iff na nmax
    have il := Fl.lt_iff na nmin
    rw [zmax] at ig
    rw [zmin] at il
    have gm := gmax
    by_cases fin : Fl.rung a < Fl.inf
    · obtain ⟨p, q, h1, np, p0, p1, sp, fp, h2, nq, hq, e, ep, eq⟩ := Cv.turn_steps fin
      have ih := Fl.ge_iff np Cv.nh
      have zh := Cv.zh
      have b := Fl.G_le (show Fl.rung a ≤ 9218868437227405311 by have := Cv.inf_num; omega)
      have za := Fl.Z_abs a
      rw [decide_eq_false (by omega)] at ig
      rw [decide_eq_false (by omega)] at il
      have wp : p < 2 ^ 64 := by rw [ep]; exact Cv.rd_lt _ _
      have wq : q < 2 ^ 64 := by rw [eq]; exact Cv.rd_lt _ _
      have izp := Fl.eq_iff np Cv.n0
      have izq := Fl.eq_iff nq Cv.n0
      rw [Cv.z0] at izp izq
      clear ep eq
      rw [e]
      by_cases c : (Fl.U : Int) ≤ 2 * Fl.Z p
      · rw [if_pos c]
        rw [decide_eq_true (by omega)] at ih
        obtain ⟨_, _, hs⟩ := hq c
        by_cases z : Fl.Z q = 0
        · rw [decide_eq_true z] at izq
          have := refturn_high0 a _ p q na ig il fin rfl h1 ih h2 izq w
          rw [zero_of wq z (hs z)]
          exact this
        · rw [decide_eq_false z] at izq
          exact refturn_high a _ p q na ig il fin rfl h1 ih h2 izq w
      · rw [if_neg c]
        rw [decide_eq_false (by omega)] at ih
        by_cases z : Fl.Z p = 0
        · rw [decide_eq_true z] at izp
          have := refturn_low0 a _ p na ig il fin rfl h1 ih izp w
          rw [zero_of wp z sp]
          exact this
        · rw [decide_eq_false z] at izp
          exact refturn_low a _ p na ig il fin rfl h1 ih izp w
    · have := Cv.rung_num na
      have e : Cv.turn a = 0 := by unfold Cv.turn; rw [if_neg fin]
      rw [e]
      have za := Cv.Z_inf (x := a) (by omega)
      cases s : Fl.sgn a
      · rw [s] at za
        simp at za
        rw [decide_eq_true (by omega)] at ig
        exact refturn_inf1 a na ig w
      · rw [s] at za
        simp at za
        rw [decide_eq_false (by omega)] at ig
        rw [decide_eq_true (by omega)] at il
        exact refturn_inf2 a na ig il w
  · have e : Cv.turn a = 0 := by
      unfold Cv.turn; rw [if_neg]
      simp only [Fl.isNaN, decide_eq_true_eq] at na
      omega
    rw [e]
    exact refturn_nan a na w
end Go.Proofs.Ytdddpnjamgbcmaa
