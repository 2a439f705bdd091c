/-
CurveTurns: the walk.
-/
import Derived.Test.YtdddpnjamgbcmaaCt
import Derived.Test.YtdddpnjamgbcmaaCy
namespace Go.Proofs.Ytdddpnjamgbcmaa
open Go.RowKit
set_option linter.unusedVariables false

theorem u64_mod (n m : Int) (hm : 0 < m) : 0 ≤ (IntKind.u64.wrap n).tmod m ∧ (IntKind.u64.wrap n).tmod m < m := by
  have h : 0 ≤ IntKind.u64.wrap n := by simp only [IntKind.wrap_u64]; omega
  rw [Int.tmod_eq_emod_of_nonneg h]
  exact ⟨Int.emod_nonneg _ (by omega), Int.emod_lt_of_pos _ hm⟩

set_option maxRecDepth 100000 in
set_option maxHeartbeats 2000000 in
theorem turns_low (n p j e : Int) (g v x r z : Nat) (hj : (IntKind.u64.wrap n).tmod 2001 = j) (j0 : 0 ≤ j) (j1 : j < 2001) (he : (IntKind.u64.wrap p).tmod 8 = e) (h0 : 0 ≤ e) (h1 : e < 4)
    (hg : floatOfInt .f64 (j - 1000) = g) (e1 : Ieee.double.div (floatOfInt .f64 e) 4620693217682128896 = some v) (e2 : Ieee.double.add g v = some x) (wx : x < 2 ^ 64) (wg : g < 2 ^ 64)
    (hr : Cv.turn x = r) (hz : Cv.turn g = z) (i1 : (FloatKind.f64.format.order r v == some .eq) = true) (sz : Fl.sgn z = false) (i2 : (FloatKind.f64.format.order z 0 == some .eq) = true) (w : World) :
    Calls Try.prog 7 #[.int .i64 n, .int .i64 p] w fun e w' => e = .returned (.bool true) ∧ Kept w w' := by
  have hk := Kept.refl w
  have k1 := fun w => run_float_arith (P := Try.prog) w .quo 22 .f64 _ _ _ e1
  have k2 := fun w => run_float_arith (P := Try.prog) w .add 22 .f64 _ _ _ e2
  have c0 := fun (X : World) (hX : Kept w X) => Lib.hid (told_t hX)
  have c1 := fun (X : World) (hX : Kept w X) => Lib.hid (turn_t hX x r wx hr)
  have c2 := fun (X : World) (hX : Kept w X) => Lib.hid (turn_t hX g z wg hz)
  have c3 := fun (X : World) (hX : Kept w X) => Lib.hid (signbit_k hX z false sz)
  clear e1 e2 hr hz sz wx wg
  go_enter Try.func7, Try.ntmps7
  go_wp2_with (first | (go_at_call 11; ((with_reducible refine ((c0 _ (by assumption)).out).mono ?_); rintro e w' ⟨rfl, hk⟩)) | (go_at_call 22; first | ((with_reducible refine ((c1 _ (by assumption)).out).mono ?_); rintro e w' ⟨rfl, hk⟩) | ((with_reducible refine ((c2 _ (by assumption)).out).mono ?_); rintro e w' ⟨rfl, hk⟩)) | (go_at_call 24; ((with_reducible refine ((c3 _ (by assumption)).out).mono ?_); rintro e w' ⟨rfl, hk⟩)))
  all_goals
    go_ret
    exact ⟨ret_bool (by simp), by assumption⟩

set_option maxRecDepth 100000 in
set_option maxHeartbeats 2000000 in
theorem turns_high (n p j e : Int) (g v x r z : Nat) (hj : (IntKind.u64.wrap n).tmod 2001 = j) (j0 : 0 ≤ j) (j1 : j < 2001) (he : (IntKind.u64.wrap p).tmod 8 = e) (h0 : 4 ≤ e) (h1 : e < 8) (q : Nat) (e3 : Ieee.double.sub v 4607182418800017408 = some q)
    (hg : floatOfInt .f64 (j - 1000) = g) (e1 : Ieee.double.div (floatOfInt .f64 e) 4620693217682128896 = some v) (e2 : Ieee.double.add g v = some x) (wx : x < 2 ^ 64) (wg : g < 2 ^ 64)
    (hr : Cv.turn x = r) (hz : Cv.turn g = z) (i1 : (FloatKind.f64.format.order r q == some .eq) = true) (sz : Fl.sgn z = false) (i2 : (FloatKind.f64.format.order z 0 == some .eq) = true) (w : World) :
    Calls Try.prog 7 #[.int .i64 n, .int .i64 p] w fun e w' => e = .returned (.bool true) ∧ Kept w w' := by
  have hk := Kept.refl w
  have k1 := fun w => run_float_arith (P := Try.prog) w .quo 22 .f64 _ _ _ e1
  have k2 := fun w => run_float_arith (P := Try.prog) w .add 22 .f64 _ _ _ e2
  have k3 := fun w => run_float_arith (P := Try.prog) w .sub 22 .f64 _ _ _ e3
  have c0 := fun (X : World) (hX : Kept w X) => Lib.hid (told_t hX)
  have c1 := fun (X : World) (hX : Kept w X) => Lib.hid (turn_t hX x r wx hr)
  have c2 := fun (X : World) (hX : Kept w X) => Lib.hid (turn_t hX g z wg hz)
  have c3 := fun (X : World) (hX : Kept w X) => Lib.hid (signbit_k hX z false sz)
  clear e1 e2 hr hz sz wx wg e3
  go_enter Try.func7, Try.ntmps7
  go_wp2_with (first | (go_at_call 11; ((with_reducible refine ((c0 _ (by assumption)).out).mono ?_); rintro e w' ⟨rfl, hk⟩)) | (go_at_call 22; first | ((with_reducible refine ((c1 _ (by assumption)).out).mono ?_); rintro e w' ⟨rfl, hk⟩) | ((with_reducible refine ((c2 _ (by assumption)).out).mono ?_); rintro e w' ⟨rfl, hk⟩)) | (go_at_call 24; ((with_reducible refine ((c3 _ (by assumption)).out).mono ?_); rintro e w' ⟨rfl, hk⟩)))
  all_goals
    go_ret
    exact ⟨ret_bool (by simp), by assumption⟩

theorem turns_law (n p : Int) (w : World) :
    Calls Try.prog 7 #[.int .i64 n, .int .i64 p] w fun e w' => e = .returned (.bool true) ∧ Kept w w' := by
  obtain ⟨j0, j1⟩ := u64_mod n 2001 (by omega)
  obtain ⟨h0, h1⟩ := u64_mod p 8 (by omega)
  generalize hj : (IntKind.u64.wrap n).tmod 2001 = j at *
  generalize he : (IntKind.u64.wrap p).tmod 8 = e at *
  obtain ⟨k, W, hk, hW, W0⟩ := Cv.W_some
  have hU : (Fl.U : Int) = 16 * W := by omega
  obtain ⟨zg, fg, wg⟩ := Cv.of_int_Z (j - 1000) (by omega)
  obtain ⟨v, e1, zv, fv⟩ := Cv.eighth hk hW e (by omega)
  have e2 := Cv.add_rd fg fv
  have hS : Fl.Z (floatOfInt .f64 (j - 1000)) + Fl.Z v = (2 * (8 * (j - 1000) + e)) * W := by rw [zg, zv, hU]; grind
  rw [hS] at e2
  obtain ⟨zx, fx⟩ := Cv.rd_W hk hW (Fl.sgn (floatOfInt .f64 (j - 1000)) && Fl.sgn v) (2 * (8 * (j - 1000) + e)) (by omega)
  have wx := Cv.rd_lt (Fl.sgn (floatOfInt .f64 (j - 1000)) && Fl.sgn v) (2 * (8 * (j - 1000) + e) * W)
  generalize Cv.rd (Fl.sgn (floatOfInt .f64 (j - 1000)) && Fl.sgn v) (2 * (8 * (j - 1000) + e) * W) = x at *
  obtain ⟨nr, zr, _⟩ := Cv.turn_eighths hk hW fx (j - 1000) e h0 h1 zx
  have zg' : Fl.Z (floatOfInt .f64 (j - 1000)) = 2 * (8 * (j - 1000) + 0) * W := by rw [zg, hU]; grind
  obtain ⟨nz, zz, sz⟩ := Cv.turn_eighths hk hW fg (j - 1000) 0 (by omega) (by omega) zg'
  have i2 := Fl.eq_iff nz Cv.n0
  rw [Cv.z0, decide_eq_true (by rw [zz]; simp)] at i2
  by_cases c : 4 ≤ e
  · rw [if_pos c] at zr
    have e3 := Cv.sub_rd fv Cv.r1f
    have hD : Fl.Z v - Fl.Z 4607182418800017408 = (2 * (e - 8)) * W := by rw [zv, Cv.z1, hU]; grind
    rw [hD] at e3
    obtain ⟨zq, _⟩ := Cv.rd_W hk hW (Fl.sgn v && !Fl.sgn 4607182418800017408) (2 * (e - 8)) (by omega)
    have i1 := Fl.eq_iff nr (Cv.rd_num (Fl.sgn v && !Fl.sgn 4607182418800017408) (2 * (e - 8) * W))
    rw [decide_eq_true (by rw [zr, zq])] at i1
    exact turns_high n p j e _ v x _ _ hj j0 j1 he c h1 _ e3 rfl e1 e2 wx wg rfl rfl i1 (sz rfl) i2 w
  · rw [if_neg c] at zr
    have i1 := Fl.eq_iff nr (Fo.fin_num fv)
    rw [decide_eq_true (by rw [zr, zv])] at i1
    exact turns_low n p j e _ v x _ _ hj j0 j1 he h0 (by omega) rfl e1 e2 wx wg rfl rfl i1 (sz rfl) i2 w

end Go.Proofs.Ytdddpnjamgbcmaa
