/-
What package fix makes of floats and floats of numbers, plainly.
-/
import Derived.Test.YtdddpnjamgbcmaaFl
import Derived.Test.YtdddpnjamgbcmaaFx
namespace Fo
open Fl Ieee

def c16 : Nat := 4679240012837945344

/-- Every rung has one twice as high (on beyond infinity as if there were none). -/
theorem twice (r : Nat) : ∃ r', G r' = 2 * G r := by
  obtain ⟨e, q, rfl, h1, h2⟩ := rep r
  by_cases c : e = 0 ∧ q < 2 ^ 52
  · refine ⟨0 * 2 ^ 52 + 2 * q, ?_⟩
    rw [G_kept 0 (2 * q) (by omega) (Or.inl rfl), G_kept e q (by omega) h2, c.1]
    simp
  · refine ⟨(e + 1) * 2 ^ 52 + q, ?_⟩
    rw [G_kept (e + 1) q (by omega) (by omega), G_kept e q (by omega) h2, Nat.pow_succ 2 e]
    ac_rfl
theorem times (r k : Nat) : ∃ r', G r' = G r * 2 ^ k := by
  induction k with
  | zero => exact ⟨r, by simp⟩
  | succ k ih =>
    obtain ⟨r', h⟩ := ih
    obtain ⟨r'', h'⟩ := twice r'
    exact ⟨r'', by rw [h', h, Nat.pow_succ]; ac_rfl⟩
/-- A number of at most 53 bits, at any place, is a rung. -/
theorem rung_of (m k : Nat) (h : m < 2 ^ 53) : ∃ r, G r = m * 2 ^ k := by
  have h0 : G (0 * 2 ^ 52 + m) = m * 2 ^ 0 := G_kept 0 m (by omega) (Or.inl rfl)
  obtain ⟨r, hr⟩ := times (0 * 2 ^ 52 + m) k
  exact ⟨r, by rw [hr, h0]; simp⟩

theorem U_pow {k : Nat} (h : k = 1074) : 2 ^ k = U := by subst h; unfold U; exact Eq.refl _
theorem rn_U (r : Nat) : rn (G r * U) 1074 = r := by unfold U; exact rn_exact 1074 r
theorem nearest_int (neg : Bool) (m r : Nat) (h : G r = m * U) : double.nearest neg m 0 = double.word neg (min r inf) := by
  have e : ((0 : Int) + 1074 + ((0 : Nat) : Int)).toNat = 1074 := by decide
  have e0 : rn (G r) 0 = r := by have := rn_exact 0 r; rwa [Nat.pow_zero, Nat.mul_one] at this
  rw [nearest_eq neg m 0 0 (G r) (by omega) ((congrArg (m * ·) (U_pow e)).trans h.symm), e0]
theorem U_pos : 0 < U := by decide +kernel
theorem G16 : G c16 = 65536 * U := by decide +kernel
theorem fin16 : rung c16 < inf := by decide +kernel
theorem rung16 : rung c16 = c16 := by decide +kernel
theorem sgn16 : sgn c16 = false := by decide +kernel
theorem read16 : double.read c16 = .number false (2 ^ 52) (-36) := by decide +kernel
theorem read_inf {x : Nat} (h : rung x = inf) : double.read x = .infinity (sgn x) := by
  rcases read_cases x with ⟨c, _⟩ | ⟨_, r⟩ | ⟨c, _⟩
  · omega
  · exact r
  · omega
theorem Ginf_big : 4294967296 * U < G inf := by decide +kernel
theorem inf63 : inf < 2 ^ 63 := by decide +kernel

theorem mul_nan {x : Nat} (y : Nat) (h : isNaN x = true) : double.mul x y = none := by
  simp only [isNaN, decide_eq_true_eq] at h
  unfold Format.mul
  rcases read_cases x with ⟨c, _⟩ | ⟨c, _⟩ | ⟨_, r⟩
  · omega
  · omega
  · rw [r]; rfl

/-- 65,536 times a word that is no NaN: just that, or infinite where it must be. -/
theorem mul16 {b : Nat} (hn : isNaN b = false) : ∃ v, double.mul b c16 = some v ∧ v < 2 ^ 64 ∧ isNaN v = false ∧
    ((Z v = 65536 * Z b ∧ rung v < inf) ∨ ((G inf : Int) ≤ Z v ∧ (G inf : Int) ≤ 65536 * Z b) ∨ (Z v ≤ -(G inf : Int) ∧ 65536 * Z b ≤ -(G inf : Int))) := by
  simp only [isNaN, decide_eq_false_iff_not] at hn
  have i63 := inf63
  by_cases hf : rung b < inf
  · obtain ⟨r, hr⟩ := times (rung b) 16
    have e : rn (G (rung b) * G c16) 1074 = r := by
      have : G (rung b) * G c16 = G r * U := by
        rw [G16, hr, ← Nat.mul_assoc]
      rw [this, rn_U]
    refine ⟨double.word (sgn b) (min r inf), ?_, word_wf _ (by omega), ?_, ?_⟩
    · have := mul_eq hf fin16
      rw [rung16, sgn16, e] at this
      rw [this]
      simp
    · obtain ⟨p1, p2⟩ := word_parts (sgn b) (r := min r inf) (by omega)
      unfold isNaN; rw [p2]; simp; omega
    · obtain ⟨p1, p2⟩ := word_parts (sgn b) (r := min r inf) (by omega)
      have zv : Z (double.word (sgn b) (min r inf)) = if sgn b then -(G (min r inf) : Int) else G (min r inf) := by unfold Z; rw [p1, p2]
      rw [zv, p2]
      have zb : Z b = if sgn b then -(G (rung b) : Int) else G (rung b) := rfl
      rw [zb]
      by_cases c : r < inf
      · rw [Nat.min_eq_left (by omega)]
        left
        refine ⟨?_, c⟩
        cases sgn b <;> simp <;> omega
      · have := G_le (Nat.le_of_not_lt c)
        rw [Nat.min_eq_right (by omega)]
        right
        cases sgn b <;> simp <;> omega
  · have hi : rung b = inf := by omega
    refine ⟨double.word (sgn b) inf, ?_, word_wf _ (by omega), ?_, ?_⟩
    · unfold Format.mul
      rw [read_inf hi, read16]
      show some (double.word (sgn b ^^ false) double.infRung) = _
      rw [d_inf]; simp
    · obtain ⟨p1, p2⟩ := word_parts (sgn b) (r := inf) (by omega)
      unfold isNaN; rw [p2]; simp
    · obtain ⟨p1, p2⟩ := word_parts (sgn b) (r := inf) (by omega)
      have zv : Z (double.word (sgn b) inf) = if sgn b then -(G inf : Int) else G inf := by unfold Z; rw [p1, p2]
      have zb : Z b = if sgn b then -(G (rung b) : Int) else G (rung b) := rfl
      rw [zv, zb, hi]
      right
      cases sgn b <;> simp <;> omega

/-- What a float comes to. -/
def of (b : Nat) : Int := if isNaN b then 0 else Fx.cut ((65536 * Z b).tdiv U)

theorem tdiv_le {a b : Int} {u : Nat} (hu : 0 < u) (h : a ≤ b) : a.tdiv u ≤ b.tdiv u := Int.tdiv_le_tdiv (by omega) h
theorem tdiv_self {k : Int} {u : Nat} (hu : 0 < u) : (k * (u : Int)).tdiv u = k := Int.mul_tdiv_cancel k (by omega)

theorem of_high {b : Nat} (hn : isNaN b = false) (h : 2147483647 * (U : Int) ≤ 65536 * Z b) : of b = 2147483647 := by
  have := tdiv_le U_pos h
  rw [tdiv_self U_pos] at this
  unfold of Fx.cut
  rw [hn]
  simp only [Bool.false_eq_true, if_false]
  omega
theorem of_low {b : Nat} (hn : isNaN b = false) (h : 65536 * Z b ≤ -2147483648 * (U : Int)) : of b = -2147483648 := by
  have := tdiv_le U_pos h
  rw [tdiv_self U_pos] at this
  unfold of Fx.cut
  rw [hn]
  simp only [Bool.false_eq_true, if_false]
  omega
theorem of_mid {b : Nat} (hn : isNaN b = false) (h : 65536 * Z b ≤ 2147483647 * (U : Int)) (h' : -2147483648 * (U : Int) ≤ 65536 * Z b) :
    of b = (65536 * Z b).tdiv U ∧ -2147483648 ≤ of b ∧ of b ≤ 2147483647 := by
  have h1 := tdiv_le U_pos h
  have h2 := tdiv_le U_pos h'
  rw [tdiv_self U_pos] at h1 h2
  have e : of b = (65536 * Z b).tdiv U := by
    unfold of
    rw [hn]
    exact Fx.cut_in h2 h1
  omega
theorem of_nan {b : Nat} (hn : isNaN b = true) : of b = 0 := by unfold of; rw [hn]; rfl
theorem of_bd (b : Nat) : -2147483648 ≤ of b ∧ of b ≤ 2147483647 := by
  unfold of
  split
  · omega
  · exact Fx.cut_bd _

theorem floatInt32 {v : Nat} {n : Int} (hf : rung v < inf) (h : (Z v).tdiv U = n) (h1 : -2147483648 ≤ n) (h2 : n ≤ 2147483647) : Go.floatToIntVal .f64 v .i32 = some n := by
  unfold Go.floatToIntVal Go.FloatKind.decode
  rw [show Go.FloatKind.format .f64 = double from rfl, toInt_eq hf, h]
  simp only [Go.IntKind.min, Go.IntKind.max, Go.IntKind.signed, Go.IntKind.bits]
  rw [if_pos (by constructor <;> simp <;> omega)]

/-- A whole number of at most 53 bits as a float. -/
theorem of_int (a : Int) (h : a.natAbs < 2 ^ 53) : ∃ r, Go.floatOfInt .f64 a = double.word (decide (a < 0)) r ∧ G r = a.natAbs * U ∧ r < inf := by
  obtain ⟨r, hr⟩ := rung_of a.natAbs 1074 h
  rw [U_pow rfl] at hr
  have lt : r < inf := by
    rw [← G_lt_iff, hr]
    refine Nat.lt_of_le_of_lt (Nat.mul_le_mul_right U (show a.natAbs ≤ 2 ^ 53 by omega)) (by decide +kernel)
  refine ⟨r, ?_, hr, lt⟩
  show double.nearest (decide (a < 0)) a.natAbs 0 = _
  rw [nearest_int _ _ r hr, Nat.min_eq_left (by omega)]

theorem read_bd {x : Nat} {s : Bool} {m : Nat} {p : Int} (h : double.read x = .number s m p) : m < 2 ^ 53 := by
  unfold Format.read at h
  simp only [d_sign, d_binade, d_inf, d_least] at h
  split at h
  · injection h with h1 h2 h3; omega
  · split at h
    · injection h with h1 h2 h3; omega
    · split at h <;> cases h

theorem log_le {m : Nat} (h : m < 2 ^ 53) : m.log2 ≤ 52 := by
  by_cases c : m = 0
  · subst c; decide
  · have := (Nat.log2_lt c).2 h
    omega

/-- A 65,536th of a finite word. -/
theorem div16 {x : Nat} (hx : rung x < inf) : double.div x c16 = some (double.word (sgn x) (min (rn (G (rung x)) 16) inf)) := by
  rcases read_cases x with ⟨_, m, p, r1, p1, g1⟩ | ⟨c1, _⟩ | ⟨c1, _⟩
  · have hm := log_le (read_bd r1)
    unfold Format.div
    rw [r1, read16]
    show some (double.nearest (sgn x ^^ false) (2 * ((m <<< (54 + (2 ^ 52 : Nat).log2 - m.log2)) / 2 ^ 52) + ((m <<< (54 + (2 ^ 52 : Nat).log2 - m.log2)) % 2 ^ 52 != 0).toNat) (p - (-36) - ((54 + (2 ^ 52 : Nat).log2 - m.log2 : Nat) : Int) - 1)) = _
    rw [show (2 ^ 52 : Nat).log2 = 52 from by decide +kernel]
    obtain ⟨k, hk⟩ : ∃ k, 54 + 52 - m.log2 = 52 + k := ⟨54 - m.log2, by omega⟩
    have hd : m <<< (54 + 52 - m.log2) = m * 2 ^ k * 2 ^ 52 := by
      rw [hk, Nat.shiftLeft_eq, Nat.pow_add]; ac_rfl
    rw [hd, hk, Nat.mul_div_cancel _ (by decide), Nat.mul_mod_left]
    rw [nearest_eq _ _ _ (16 + (k + 1)) (G (rung x) * 2 ^ (k + 1)) (by omega) ?_, rn_of ((near_rn (G (rung x)) 16).scale (k + 1))]
    · simp
    · rw [← g1]
      simp only [bne_self_eq_false, Bool.toNat_false, Nat.add_zero]
      have e : ((p - -36 - ((52 + k : Nat) : Int) - 1) + 1074 + ((16 + (k + 1) : Nat) : Int)).toNat = (p + 1074).toNat := by omega
      rw [e, Nat.pow_succ]
      ac_rfl
  · omega
  · omega

/-- What a number is as a float. -/
def val (a : Int) : Nat := (double.div (Go.floatOfInt .f64 a) c16).getD 0

theorem val_spec (a : Int) (h : a.natAbs ≤ 2147483648) : double.div (Go.floatOfInt .f64 a) c16 = some (val a) ∧ val a < 2 ^ 64 ∧ rung (val a) < inf ∧ 65536 * Z (val a) = a * U := by
  obtain ⟨r, e, g, lt⟩ := of_int a (by omega)
  have i63 := inf63
  obtain ⟨p1, p2⟩ := word_parts (decide (a < 0)) (r := r) (by omega)
  have d := div16 (x := double.word (decide (a < 0)) r) (by rw [p2]; exact lt)
  rw [p1, p2] at d
  obtain ⟨k, hk⟩ : ∃ k : Nat, k = 1058 := ⟨_, rfl⟩
  obtain ⟨q, hq⟩ := rung_of a.natAbs k (by omega)
  have hU : 2 ^ 16 * 2 ^ k = U := by rw [← Nat.pow_add]; exact U_pow (by omega)
  have hG : G r = G q * 2 ^ 16 := by rw [g, hq, ← hU]; ac_rfl
  clear hU hk
  rw [hG, rn_exact] at d
  have lq : q < inf := by
    have := (@G_le_iff q r).1 (by omega)
    omega
  rw [Nat.min_eq_left (by omega)] at d
  obtain ⟨p3, p4⟩ := word_parts (decide (a < 0)) (r := q) (by omega)
  have hv : val a = double.word (decide (a < 0)) q := by unfold val; rw [e, d]; rfl
  refine ⟨by rw [e, d, hv], by rw [hv]; exact word_wf _ (by omega), by rw [hv, p4]; exact lq, ?_⟩
  have zv : Z (double.word (decide (a < 0)) q) = if decide (a < 0) then -(G q : Int) else G q := by unfold Z; rw [p3, p4]
  rw [hv, zv]
  have h65 : 65536 * G q = a.natAbs * U := by omega
  by_cases c : a < 0
  · obtain ⟨n, rfl⟩ : ∃ n : Nat, a = -(n : Int) := ⟨a.natAbs, by omega⟩
    rw [decide_eq_true c]
    simp only [if_true]
    rw [Int.neg_mul, ← Int.natCast_mul]
    rw [show (-(n : Int)).natAbs = n from by omega] at h65
    omega
  · obtain ⟨n, rfl⟩ : ∃ n : Nat, a = (n : Int) := ⟨a.natAbs, by omega⟩
    rw [decide_eq_false c]
    simp only [Bool.false_eq_true, if_false]
    rw [← Int.natCast_mul]
    rw [show (n : Int).natAbs = n from by omega] at h65
    omega

theorem fin_num {x : Nat} (h : rung x < inf) : isNaN x = false := by unfold isNaN; simp; omega

/-- Each number comes back. -/
theorem of_val (a : Int) (h : -2147483648 ≤ a) (h' : a ≤ 2147483647) : of (val a) = a := by
  obtain ⟨_, _, f, z⟩ := val_spec a (by omega)
  unfold of
  rw [fin_num f, z, tdiv_self U_pos]
  simp only [Bool.false_eq_true, if_false]
  exact Fx.cut_in h h'
end Fo
