/-
CurveBetween: the walk.
-/
import Derived.Test.YtdddpnjamgbcmaaCt
import Derived.Test.YtdddpnjamgbcmaaCy
namespace Go.Proofs.Ytdddpnjamgbcmaa
open Go.RowKit
set_option linter.unusedVariables false

theorem u64_mod (n m : Int) (hm : 0 < m) : 0 ≤ (IntKind.u64.wrap n).tmod m ∧ (IntKind.u64.wrap n).tmod m < m := by
  have h : 0 ≤ IntKind.u64.wrap n := by simp only [IntKind.wrap_u64]; omega
  rw [Int.tmod_eq_emod_of_nonneg h]
  exact ⟨Int.emod_nonneg _ (by omega), Int.emod_lt_of_pos _ hm⟩

theorem run_min_float {P : Program} {x y : Nat} (hx : Fl.isNaN x = false) (hy : Fl.isNaN y = false) : ∃ l, (l = x ∨ l = y) ∧ Fl.Z l ≤ Fl.Z x ∧ Fl.Z l ≤ Fl.Z y ∧
    ∀ (ts : Array TypeId) (t : TypeId) (w : World), (Builtin.min_ ts t #[.float .f64 x, .float .f64 y]).run P w = .ok (.float .f64 l) w := by
  have e := Fl.order_eq hx hy
  have o : FloatKind.f64.format.order x y = some (compare (Fl.Z x) (Fl.Z y)) := e
  by_cases a : Fl.Z x < Fl.Z y
  · refine ⟨x, Or.inl rfl, by omega, by omega, fun ts t w => ?_⟩
    have c : compare (Fl.Z x) (Fl.Z y) = .lt := by simp only [compare, compareOfLessAndEq]; rw [if_pos a]
    rw [c] at o
    simp [Builtin.min_, Builtin.min2, o]
  · by_cases b : Fl.Z x = Fl.Z y
    · have c : compare (Fl.Z x) (Fl.Z y) = .eq := by simp only [compare, compareOfLessAndEq]; rw [if_neg a, if_pos b]
      rw [c] at o
      refine ⟨if (FloatKind.f64.decode x).neg then x else y, by split <;> simp, by split <;> omega, by split <;> omega, fun ts t w => ?_⟩
      simp [Builtin.min_, Builtin.min2, o]
    · refine ⟨y, Or.inr rfl, by omega, by omega, fun ts t w => ?_⟩
      have c : compare (Fl.Z x) (Fl.Z y) = .gt := by simp only [compare, compareOfLessAndEq]; rw [if_neg a, if_neg b]
      rw [c] at o
      simp [Builtin.min_, Builtin.min2, o]
theorem run_max_float {P : Program} {x y : Nat} (hx : Fl.isNaN x = false) (hy : Fl.isNaN y = false) : ∃ l, (l = x ∨ l = y) ∧ Fl.Z x ≤ Fl.Z l ∧ Fl.Z y ≤ Fl.Z l ∧
    ∀ (ts : Array TypeId) (t : TypeId) (w : World), (Builtin.max_ ts t #[.float .f64 x, .float .f64 y]).run P w = .ok (.float .f64 l) w := by
  have e := Fl.order_eq hx hy
  have o : FloatKind.f64.format.order x y = some (compare (Fl.Z x) (Fl.Z y)) := e
  by_cases a : Fl.Z x < Fl.Z y
  · refine ⟨y, Or.inr rfl, by omega, by omega, fun ts t w => ?_⟩
    have c : compare (Fl.Z x) (Fl.Z y) = .lt := by simp only [compare, compareOfLessAndEq]; rw [if_pos a]
    rw [c] at o
    simp [Builtin.max_, Builtin.max2, o]
  · by_cases b : Fl.Z x = Fl.Z y
    · have c : compare (Fl.Z x) (Fl.Z y) = .eq := by simp only [compare, compareOfLessAndEq]; rw [if_neg a, if_pos b]
      rw [c] at o
      refine ⟨if (FloatKind.f64.decode x).neg then y else x, by split <;> simp, by split <;> omega, by split <;> omega, fun ts t w => ?_⟩
      simp [Builtin.max_, Builtin.max2, o]
    · refine ⟨x, Or.inl rfl, by omega, by omega, fun ts t w => ?_⟩
      have c : compare (Fl.Z x) (Fl.Z y) = .gt := by simp only [compare, compareOfLessAndEq]; rw [if_neg a, if_neg b]
      rw [c] at o
      simp [Builtin.max_, Builtin.max2, o]

set_option maxRecDepth 100000 in
set_option maxHeartbeats 2000000 in
theorem between_walk (p q i j : Int) (t x y m l u s d h2 s2 h : Nat) (hi : (IntKind.u64.wrap p).tmod 16001 = i) (i0 : 0 ≤ i) (i1 : i < 16001) (hj : (IntKind.u64.wrap q).tmod 16001 = j) (j0 : 0 ≤ j) (j1 : j < 16001)
    (e1 : Ieee.double.div (floatOfInt .f64 (i - 8000)) 4620693217682128896 = some x) (e2 : Ieee.double.div (floatOfInt .f64 (j - 8000)) 4620693217682128896 = some y)
    (hm : Cv.mix x y t = m) (hl : ∀ (ts : Array TypeId) (t : TypeId) (w : World), (Builtin.min_ ts t #[.float .f64 x, .float .f64 y]).run Try.prog w = .ok (.float .f64 l) w)
    (hu : ∀ (ts : Array TypeId) (t : TypeId) (w : World), (Builtin.max_ ts t #[.float .f64 x, .float .f64 y]).run Try.prog w = .ok (.float .f64 u) w)
    (e3 : Ieee.double.sub l 4562254508917369340 = some s) (e4 : Ieee.double.add u 4562254508917369340 = some d) (k1 : (FloatKind.f64.format.order m s == some .gt || FloatKind.f64.format.order m s == some .eq) = true) (k2 : (FloatKind.f64.format.order m d == some .lt || FloatKind.f64.format.order m d == some .eq) = true)
    (hh : Cv.mix x y 4602678819172646912 = h) (e5 : Ieee.double.add x y = some s2) (e6 : Ieee.double.div s2 4611686018427387904 = some h2) (k3 : (FloatKind.f64.format.order h h2 == some .eq) = true)
    (hs : Cv.mix x x t = x) (k4 : (FloatKind.f64.format.order x x == some .eq) = true) (w : World) :
    Calls Try.prog 9 #[.int .i64 p, .int .i64 q, .float .f64 t] w fun e w' => e = .returned (.bool true) ∧ Kept w w' := by
  have hk := Kept.refl w
  have r1 := fun w => run_float_arith (P := Try.prog) w .quo 22 .f64 _ _ _ e1
  have r2 := fun w => run_float_arith (P := Try.prog) w .quo 22 .f64 _ _ _ e2
  have r3 := fun w => run_float_arith (P := Try.prog) w .sub 22 .f64 _ _ _ e3
  have r4 := fun w => run_float_arith (P := Try.prog) w .add 22 .f64 _ _ _ e4
  have r5 := fun w => run_float_arith (P := Try.prog) w .add 22 .f64 _ _ _ e5
  have r6 := fun w => run_float_arith (P := Try.prog) w .quo 22 .f64 _ _ _ e6
  have c0 := fun (X : World) (hX : Kept w X) => Lib.hid (told_t hX)
  have c1 := fun (X : World) (hX : Kept w X) => Lib.hid (mix_t hX x y t m hm)
  have c2 := fun (X : World) (hX : Kept w X) => Lib.hid (mix_t hX x y 4602678819172646912 _ hh)
  have c3 := fun (X : World) (hX : Kept w X) => Lib.hid (mix_t hX x x t x hs)
  clear e1 e2 e3 e4 e5 e6 hm hh hs
  go_enter Try.func9, Try.ntmps9
  go_wp2_with (first | (go_at_call 11; ((with_reducible refine ((c0 _ (by assumption)).out).mono ?_); rintro e w' ⟨rfl, hk⟩)) | (go_at_call 18; first | ((with_reducible refine ((c1 _ (by assumption)).out).mono ?_); rintro e w' ⟨rfl, hk⟩) | ((with_reducible refine ((c2 _ (by assumption)).out).mono ?_); rintro e w' ⟨rfl, hk⟩) | ((with_reducible refine ((c3 _ (by assumption)).out).mono ?_); rintro e w' ⟨rfl, hk⟩)))
  all_goals
    go_ret
    exact ⟨ret_bool (by simp), by assumption⟩

theorem between_law (p q : Int) (t : Nat) (w : World) :
    Calls Try.prog 9 #[.int .i64 p, .int .i64 q, .float .f64 t] w fun e w' => e = .returned (.bool true) ∧ Kept w w' := by
  obtain ⟨i0, i1⟩ := u64_mod p 16001 (by omega)
  obtain ⟨j0, j1⟩ := u64_mod q 16001 (by omega)
  generalize hi : (IntKind.u64.wrap p).tmod 16001 = i at *
  generalize hj : (IntKind.u64.wrap q).tmod 16001 = j at *
  obtain ⟨k, W, hk, hW, W0⟩ := Cv.W_some
  obtain ⟨x, e1, zx, fx⟩ := Cv.eighth hk hW (i - 8000) (by omega)
  obtain ⟨y, e2, zy, fy⟩ := Cv.eighth hk hW (j - 8000) (by omega)
  have nx := Fo.fin_num fx
  have ny := Fo.fin_num fy
  obtain ⟨l, l1, l2, l3, l4⟩ := run_min_float (P := Try.prog) nx ny
  obtain ⟨u, u1, u2, u3, u4⟩ := run_max_float (P := Try.prog) nx ny
  have fl : Fl.rung l < Fl.inf := by rcases l1 with h | h <;> rw [h] <;> assumption
  have fu : Fl.rung u < Fl.inf := by rcases u1 with h | h <;> rw [h] <;> assumption
  have fe : Fl.rung 4562254508917369340 < Fl.inf := by decide +kernel
  have ze : 0 ≤ Fl.Z 4562254508917369340 := by decide +kernel
  have e3 := Cv.sub_rd fl fe
  have e4 := Cv.add_rd fu fe
  have b3 := Cv.rd_le (z := Fl.sgn l && !Fl.sgn 4562254508917369340) (S := Fl.Z l - Fl.Z 4562254508917369340) (h := l) (Nat.le_of_lt fl) (by omega)
  have b4 := Cv.le_rd (z := Fl.sgn u && Fl.sgn 4562254508917369340) (S := Fl.Z u + Fl.Z 4562254508917369340) (l := u) (Nat.le_of_lt fu) (by omega)
  have n3 := Cv.rd_num (Fl.sgn l && !Fl.sgn 4562254508917369340) (Fl.Z l - Fl.Z 4562254508917369340)
  have n4 := Cv.rd_num (Fl.sgn u && Fl.sgn 4562254508917369340) (Fl.Z u + Fl.Z 4562254508917369340)
  generalize Cv.rd (Fl.sgn l && !Fl.sgn 4562254508917369340) (Fl.Z l - Fl.Z 4562254508917369340) = s at *
  generalize Cv.rd (Fl.sgn u && Fl.sgn 4562254508917369340) (Fl.Z u + Fl.Z 4562254508917369340) = d at *
  have hd : ∃ h, Fl.rung h < Fl.inf ∧ Fl.Z y - Fl.Z x = Fl.Z h := by
    obtain ⟨h, zh, fh, _⟩ := Cv.W_word hk hW (2 * (j - i)) (by omega)
    refine ⟨h, fh, ?_⟩
    rw [zh, zx, zy]
    grind
  have mid := Cv.mix_mid (t := t) fx fy hd
  have nm := Cv.mix_num (t := t) nx ny
  have k1 := Fl.ge_iff nm n3
  rw [decide_eq_true (by omega)] at k1
  have k2 := Fl.le_iff nm n4
  rw [decide_eq_true (by omega)] at k2
  have zh := Cv.mix_half hk hW fx fy _ _ zx zy (by omega) (by omega)
  obtain ⟨s2, h2, e5, e6, z2, f2⟩ := Cv.sum_half hk hW fx fy _ _ zx zy (by omega) (by omega)
  have k3 := Fl.eq_iff (Cv.mix_num (t := 4602678819172646912) nx ny) (Fo.fin_num f2)
  rw [decide_eq_true (by rw [zh, z2])] at k3
  have k4 := Fl.eq_iff nx nx
  rw [decide_eq_true rfl] at k4
  exact between_walk p q i j t x y _ l u s d h2 s2 _ hi i0 i1 hj j0 j1 e1 e2 rfl l4 u4 e3 e4 k1 k2 rfl e5 e6 k3 (Cv.mix_self nx) k4 w

end Go.Proofs.Ytdddpnjamgbcmaa
