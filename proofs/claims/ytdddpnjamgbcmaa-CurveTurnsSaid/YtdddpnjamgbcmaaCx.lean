/-
Floats plainly, on: what a whole number is rounded to, cuts downwards, quotients by powers of two; turns and eases.
-/
import Derived.Test.YtdddpnjamgbcmaaCv
namespace Cv
open Fl Ieee

theorem word_Z (neg : Bool) {r : Nat} (h : r < 2 ^ 63) : Z (double.word neg r) = if neg then -(G r : Int) else G r := by
  obtain ⟨p1, p2⟩ := word_parts neg h
  unfold Z; rw [p1, p2]

/-- A whole number (of units of the least one), rounded; z: whether nought has a sign. -/
noncomputable def rd (z : Bool) (S : Int) : Nat := double.word (if S = 0 then z else decide (S < 0)) (min (rn S.natAbs 0) inf)

theorem rd_num (z : Bool) (S : Int) : isNaN (rd z S) = false := nan_word _ (Nat.min_le_right _ _)
theorem rd_lt (z : Bool) (S : Int) : rd z S < 2 ^ 64 := by have := Fo.inf63; exact word_wf _ (by omega)
theorem rd_Z (z : Bool) (S : Int) : Z (rd z S) = if S < 0 then -(G (min (rn S.natAbs 0) inf) : Int) else G (min (rn S.natAbs 0) inf) := by
  have i := Fo.inf63
  unfold rd
  rw [word_Z _ (by omega)]
  by_cases c : S = 0
  · subst c
    have e : rn (Int.natAbs 0) 0 = 0 := rn_zero 0
    rw [e]
    simp [G_zero]
  · rw [if_neg c]
    by_cases c2 : S < 0
    · rw [decide_eq_true c2, if_pos c2]; rfl
    · rw [decide_eq_false c2, if_neg c2]; rfl
theorem rd_sgn (z : Bool) (S : Int) : sgn (rd z S) = if S = 0 then z else decide (S < 0) := by
  have i := Fo.inf63
  exact (word_parts _ (by omega)).1

theorem rn_le0 {v r : Nat} (h : v ≤ G r) : rn v 0 ≤ r := rn_le (by rw [Nat.pow_zero, Nat.mul_one]; exact h)
theorem le_rn0 {v r : Nat} (h : G r ≤ v) : r ≤ rn v 0 := le_rn (by rw [Nat.pow_zero, Nat.mul_one]; exact h)

theorem Z_pos {h : Nat} (c : 0 < Z h) : Z h = G (rung h) := by
  unfold Z at *
  cases hs : sgn h <;> rw [hs] at c <;> simp at c ⊢
  omega
theorem Z_neg {h : Nat} (c : Z h < 0) : Z h = -(G (rung h) : Int) := by
  unfold Z at *
  cases hs : sgn h <;> rw [hs] at c <;> simp at c ⊢
  omega

/-- To round keeps below, and above, whatever is a word. -/
theorem rd_le {z : Bool} {S : Int} {h : Nat} (hh : rung h ≤ inf) (hS : S ≤ Z h) : Z (rd z S) ≤ Z h := by
  rw [rd_Z]
  by_cases c : S < 0
  · rw [if_pos c]
    by_cases c2 : Z h < 0
    · have e := Z_neg c2
      have : rung h ≤ rn S.natAbs 0 := le_rn0 (by omega)
      have := G_le (Nat.le_min.2 ⟨this, hh⟩)
      omega
    · omega
  · rw [if_neg c]
    by_cases c2 : S = 0
    · subst c2
      have e : rn (Int.natAbs 0) 0 = 0 := rn_zero 0
      rw [e, Nat.min_eq_left (Nat.zero_le _), G_zero]
      omega
    · have e := Z_pos (h := h) (by omega)
      have : rn S.natAbs 0 ≤ rung h := rn_le0 (by omega)
      have := G_le (Nat.le_trans (Nat.min_le_left (rn S.natAbs 0) inf) this)
      omega
theorem le_rd {z : Bool} {S : Int} {l : Nat} (hl : rung l ≤ inf) (hS : Z l ≤ S) : Z l ≤ Z (rd z S) := by
  rw [rd_Z]
  by_cases c : S < 0
  · rw [if_pos c]
    have e := Z_neg (h := l) (by omega)
    have : rn S.natAbs 0 ≤ rung l := rn_le0 (by omega)
    have := G_le (Nat.le_trans (Nat.min_le_left (rn S.natAbs 0) inf) this)
    omega
  · rw [if_neg c]
    by_cases c2 : 0 < Z l
    · have e := Z_pos c2
      have : rung l ≤ rn S.natAbs 0 := le_rn0 (by omega)
      have := G_le (Nat.le_min.2 ⟨this, hl⟩)
      omega
    · omega
theorem rd_exact {z : Bool} {S : Int} {h : Nat} (hh : rung h ≤ inf) (hS : S = Z h) : Z (rd z S) = Z h := by
  have := rd_le (z := z) hh (Int.le_of_eq hS)
  have := le_rd (z := z) hh (Int.le_of_eq hS.symm)
  omega
theorem rd_zero {z : Bool} {S : Int} (h : Z (rd z S) = 0) : S = 0 := by
  by_cases c : S = 0
  · exact c
  · exfalso
    have g : 1 ≤ rn S.natAbs 0 := le_rn0 (by show G 1 ≤ _; have : G 1 = 1 := by decide
                                             omega)
    have i : 1 ≤ inf := by decide
    have := G_le (Nat.le_min.2 ⟨g, i⟩)
    have e : G 1 = 1 := by decide
    rw [rd_Z] at h
    split at h <;> omega

theorem add_rd {x y : Nat} (hx : rung x < inf) (hy : rung y < inf) : double.add x y = some (rd (sgn x && sgn y) (Z x + Z y)) := add_eq hx hy
theorem sub_rd {x y : Nat} (hx : rung x < inf) (hy : rung y < inf) : double.sub x y = some (rd (sgn x && !sgn y) (Z x - Z y)) := sub_eq hx hy

theorem rung_fin {x h : Nat} (hh : rung h < inf) (h1 : Z x ≤ (Z h).natAbs) (h2 : -((Z h).natAbs : Int) ≤ Z x) : rung x < inf := by
  have a := Z_abs h
  have b := Z_abs x
  have := G_lt hh
  exact G_lt_iff.1 (by omega)

/-- A number of at most 53 bits, at any place, as a word. -/
theorem word_of_bits (S : Int) (n k : Nat) (hn : n < 2 ^ 53) (he : S.natAbs = n * 2 ^ k) (hi : S.natAbs < G inf) : ∃ h, Z h = S ∧ rung h < inf ∧ h < 2 ^ 64 := by
  obtain ⟨r, hr⟩ := Fo.rung_of n k hn
  have lt : r < inf := G_lt_iff.1 (by omega)
  have i := Fo.inf63
  refine ⟨double.word (decide (S < 0)) r, ?_, by rw [(word_parts _ (by omega)).2]; exact lt, word_wf _ (by omega)⟩
  rw [word_Z _ (by omega)]
  by_cases c : S < 0
  · rw [decide_eq_true c]; simp; omega
  · rw [decide_eq_false c]; simp; omega

/-- Cut downwards. -/
theorem cut_down (s : Bool) (n d : Nat) : Toward.down.cut s n d = n / 2 ^ d + (s && n % 2 ^ d != 0).toNat := by
  unfold Toward.cut
  by_cases c : d ≤ n.log2 + 2
  · rw [Nat.min_eq_left c]
    simp only [Nat.one_shiftLeft]
  · rw [Nat.min_eq_right (by omega)]
    simp only [Nat.one_shiftLeft]
    have hl : n < 2 ^ (n.log2 + 1) := Nat.lt_log2_self
    have h1 : n < 2 ^ (n.log2 + 2) := Nat.lt_of_lt_of_le hl (Nat.pow_le_pow_right (by omega) (by omega))
    have h2 : n < 2 ^ d := Nat.lt_of_lt_of_le hl (Nat.pow_le_pow_right (by omega) (by omega))
    rw [Nat.div_eq_of_lt h1, Nat.mod_eq_of_lt h1, Nat.div_eq_of_lt h2, Nat.mod_eq_of_lt h2]

def flr (x : Nat) : Nat := double.write ((double.read x).integral .down)

theorem big53 : 2 ^ 53 * U < G inf := by decide +kernel

theorem flr_spec {x : Nat} (hx : rung x < inf) : ∃ c r, flr x = double.word (sgn x) r ∧ G r = c * U ∧ r < inf ∧
    (sgn x = false → c * U ≤ G (rung x) ∧ G (rung x) < c * U + U) ∧ (sgn x = true → G (rung x) ≤ c * U ∧ c * U < G (rung x) + U) := by
  rcases read_cases x with ⟨_, m, p, r1, p1, g1⟩ | ⟨c1, _⟩ | ⟨c1, _⟩
  · have hm := Fo.read_bd r1
    have hf : flr x = double.nearest (sgn x) (Toward.down.cut (sgn x) (m <<< p.toNat) (-p).toNat) 0 := by unfold flr; rw [r1]; rfl
    rw [hf, cut_down, Nat.shiftLeft_eq]
    have up := U0
    obtain ⟨k, hk⟩ : ∃ k : Nat, k = 1074 := ⟨_, rfl⟩
    have hU := Fo.U_pow hk
    by_cases hp : 0 ≤ p
    · have e0 : (-p).toNat = 0 := by omega
      have hc : m * 2 ^ p.toNat / 2 ^ (-p).toNat + (sgn x && m * 2 ^ p.toNat % 2 ^ (-p).toNat != 0).toNat = m * 2 ^ p.toNat := by
        rw [e0, Nat.pow_zero, Nat.div_one, Nat.mod_one]; simp
      have hg : G (rung x) = m * 2 ^ p.toNat * U := by
        rw [← g1, ← hU, Nat.mul_assoc, ← Nat.pow_add]
        congr 2
        omega
      rw [hc]
      refine ⟨m * 2 ^ p.toNat, rung x, ?_, hg, hx, fun _ => by omega, fun _ => by omega⟩
      rw [Fo.nearest_int _ _ _ hg, Nat.min_eq_left (by omega)]
    · have e0 : p.toNat = 0 := by omega
      rw [e0, Nat.pow_zero, Nat.mul_one]
      obtain ⟨d, hd⟩ : ∃ d, (-p).toNat = d + 1 := ⟨(-p).toNat - 1, by omega⟩
      rw [hd]
      obtain ⟨A, hA⟩ : ∃ A, 2 ^ (p + 1074).toNat = A := ⟨_, rfl⟩
      have hUA : U = 2 ^ (d + 1) * A := by
        rw [← hU, ← hA, ← Nat.pow_add]
        congr 1
        omega
      rw [hA] at g1
      have hp2 := Nat.two_pow_pos (d + 1)
      have two : 2 ≤ 2 ^ (d + 1) := by rw [Nat.pow_succ]; have := Nat.two_pow_pos d; omega
      generalize 2 ^ (d + 1) = D at *
      have dm := Nat.div_add_mod m D
      have ml := Nat.mod_lt m hp2
      have ql : m / D ≤ m / 2 := Nat.div_le_div_left two (by omega)
      generalize m / D = q at *
      generalize m % D = t at *
      have hA0 : 0 < A := by
        by_cases c : A = 0
        · rw [c, Nat.mul_zero] at hUA; omega
        · omega
      have b : (sgn x && t != 0).toNat ≤ 1 := by cases (sgn x && t != 0) <;> decide
      obtain ⟨r, hr⟩ := Fo.rung_of (q + (sgn x && t != 0).toNat) k (by omega)
      rw [hU] at hr
      have lt : r < inf := by
        rw [← G_lt_iff, hr]
        exact Nat.lt_of_le_of_lt (Nat.mul_le_mul_right U (show _ ≤ 2 ^ 53 by omega)) big53
      refine ⟨q + (sgn x && t != 0).toNat, r, ?_, hr, lt, ?_, ?_⟩
      · rw [Fo.nearest_int _ _ _ hr, Nat.min_eq_left (by omega)]
      · intro hs
        rw [hs]
        simp only [Bool.false_and, Bool.toNat_false, Nat.add_zero]
        rw [← g1, ← dm, hUA]
        have h1 := Nat.mul_lt_mul_of_pos_right ml hA0
        have h2 : q * (D * A) = D * q * A := by rw [← Nat.mul_assoc, Nat.mul_comm q D]
        rw [Nat.add_mul, h2]
        omega
      · intro hs
        rw [hs]
        simp only [Bool.true_and]
        rw [← g1, ← dm, hUA]
        have h1 := Nat.mul_lt_mul_of_pos_right ml hA0
        have h2 : q * (D * A) = D * q * A := by rw [← Nat.mul_assoc, Nat.mul_comm q D]
        by_cases c : t = 0
        · rw [c]
          simp
          rw [h2]
          have := Nat.mul_pos hp2 hA0
          omega
        · have : (t != 0) = true := by simp [c]
          rw [this, Nat.add_mul, Nat.add_mul, h2]
          have := Nat.mul_pos (Nat.pos_of_ne_zero c) hA0
          simp
          omega
  · omega
  · omega

theorem flr_Z {x : Nat} (hx : rung x < inf) : ∃ k : Int, Z (flr x) = k * U ∧ Z (flr x) ≤ Z x ∧ Z x < Z (flr x) + U ∧ rung (flr x) < inf ∧ sgn (flr x) = sgn x := by
  obtain ⟨c, r, h1, h2, h3, h4, h5⟩ := flr_spec hx
  have i := Fo.inf63
  obtain ⟨p1, p2⟩ := word_parts (sgn x) (r := r) (by omega)
  rw [h1, word_Z _ (by omega), p1, p2]
  unfold Z
  cases hs : sgn x
  · have := h4 hs
    refine ⟨c, ?_, ?_, ?_, h3, rfl⟩
    · simp; rw [h2]; simp
    · simp; omega
    · simp; omega
  · have := h5 hs
    refine ⟨-c, ?_, ?_, ?_, h3, rfl⟩
    · simp; rw [h2, Int.natCast_mul, Int.neg_mul]
    · simp; omega
    · simp; omega

/-- 3.3. -/
def turn (a : Nat) : Nat :=
  if rung a < inf then
    (if (U : Int) ≤ 2 * Z ((double.sub a (flr a)).getD 0) then (double.sub ((double.sub a (flr a)).getD 0) 4607182418800017408).getD 0 else (double.sub a (flr a)).getD 0)
  else 0

theorem r1 : rung 4607182418800017408 = 4607182418800017408 := by decide +kernel
theorem r1f : rung 4607182418800017408 < inf := by decide +kernel
theorem s1 : sgn 4607182418800017408 = false := by decide +kernel
theorem zmh : 2 * Z 13826050856027422720 = -(U : Int) := by decide +kernel
theorem rmh : rung 13826050856027422720 ≤ inf := by decide +kernel

theorem turn_steps {a : Nat} (h : rung a < inf) : ∃ p q, double.sub a (flr a) = some p ∧ isNaN p = false ∧ 0 ≤ Z p ∧ Z p ≤ U ∧ sgn p = false ∧ rung p < inf ∧
    double.sub p 4607182418800017408 = some q ∧ isNaN q = false ∧ ((U : Int) ≤ 2 * Z p → -(U : Int) ≤ 2 * Z q ∧ Z q ≤ 0 ∧ (Z q = 0 → sgn q = false)) ∧
    turn a = (if (U : Int) ≤ 2 * Z p then q else p) ∧ p = rd false (Z a - Z (flr a)) ∧ q = rd false (Z p - U) := by
  obtain ⟨k, h1, h2, h3, h4, h5⟩ := flr_Z h
  have up := U0
  have e := sub_rd h h4
  have hs : (sgn a && !sgn (flr a)) = false := by rw [h5]; cases sgn a <;> rfl
  rw [hs] at e
  generalize hp : rd false (Z a - Z (flr a)) = p at *
  have np : isNaN p = false := by rw [← hp]; exact rd_num _ _
  have b1 : Z p ≤ U := by
    have := rd_le (z := false) (S := Z a - Z (flr a)) (Nat.le_of_lt r1f) (by rw [z1]; omega)
    rw [z1, hp] at this
    exact this
  have b0 : 0 ≤ Z p := by
    have := le_rd (z := false) (S := Z a - Z (flr a)) (l := 0) (by decide +kernel) (by rw [z0]; omega)
    rw [z0, hp] at this
    exact this
  have sp : sgn p = false := by
    rw [← hp, rd_sgn]
    split
    · rfl
    · exact decide_eq_false (by omega)
  have fp : rung p < inf := rung_fin r1f (by rw [z1]; omega) (by rw [z1]; omega)
  have e2 := sub_rd fp r1f
  rw [sp, z1] at e2
  have e3 : (false && !sgn 4607182418800017408) = false := rfl
  rw [e3] at e2
  refine ⟨p, rd false (Z p - U), e, np, b0, b1, sp, fp, e2, rd_num _ _, ?_, ?_, rfl, rfl⟩
  · intro hh
    refine ⟨?_, ?_, ?_⟩
    · have := le_rd (z := false) (S := Z p - U) rmh (by have := zmh; omega)
      have := zmh
      omega
    · have := rd_le (z := false) (S := Z p - U) (h := 0) (by decide +kernel) (by rw [z0]; omega)
      rw [z0] at this
      exact this
    · intro hz
      rw [rd_sgn, if_pos (rd_zero hz)]
  · unfold turn
    rw [if_pos h, e]
    simp only [Option.getD_some]
    rw [e2]
    rfl

/-- 3.2, once more: an ease. -/
def easeOf (u : Nat) : Nat := (double.mul ((double.mul u u).getD 0) ((double.sub 4613937818241073152 ((double.mul 4611686018427387904 u).getD 0)).getD 0)).getD 0
def ease (t : Nat) : Nat := easeOf (unit t)

/-- The step from a rung to the next one. -/
theorem gap {p K : Nat} (hK : 2 ≤ K) (h : p < K * 2 ^ 52) : G (p + 1) ≤ G p + 2 ^ (K - 2) := by
  obtain ⟨e, q, rfl, h1, h2⟩ := rep p
  rw [Nat.add_assoc, G_kept e q (by omega) h2, G_kept e (q + 1) (by omega) (by omega), Nat.add_mul, Nat.one_mul]
  have : 2 ^ e ≤ 2 ^ (K - 2) := Nat.pow_le_pow_right (by omega) (by
    rcases h2 with h2 | h2
    · omega
    · omega)
  omega

theorem rn_bd {v s K : Nat} (hK : 2 ≤ K) (h : rn v s ≤ K * 2 ^ 52) : 2 * G (rn v s) * 2 ^ s ≤ 2 * v + 2 ^ (K - 2) * 2 ^ s := by
  have n := near_rn v s
  generalize rn v s = r at *
  by_cases c : r = 0
  · subst c; rw [G_zero]; simp
  · obtain ⟨p, rfl⟩ : ∃ p, r = p + 1 := ⟨r - 1, by omega⟩
    have a := (n.lo p rfl).1
    have b := Nat.mul_le_mul_right (2 ^ s) (gap hK (show p < K * 2 ^ 52 by omega))
    rw [Nat.add_mul] at a b
    rw [Nat.mul_assoc]
    omega

theorem rn_le_of {v s r : Nat} (h : 2 * v < (G r + G (r + 1)) * 2 ^ s) : rn v s ≤ r := by
  by_cases c : rn v s ≤ r
  · exact c
  · exfalso
    obtain ⟨p, hp⟩ : ∃ p, rn v s = p + 1 := ⟨rn v s - 1, by omega⟩
    have a := ((near_rn v s).lo p hp).1
    rw [hp] at a
    have g1 := G_le (show r ≤ p by omega)
    have g2 := G_le (show r + 1 ≤ p + 1 by omega)
    have := Nat.mul_le_mul_right (2 ^ s) (Nat.add_le_add g1 g2)
    omega

def H : Nat := 2 ^ 1021
theorem H_pow {k : Nat} (h : k = 1021) : 2 ^ k = H := by subst h; unfold H; exact Eq.refl _
theorem H2_pow {k : Nat} (h : k = 1022) : 2 ^ k = 2 * H := by subst h; unfold H; decide +kernel
theorem UH : U = 9007199254740992 * H := by decide +kernel
theorem g1 : G 4607182418800017408 = U := by decide +kernel
theorem g1a : G 4607182418800017409 = U + 2 * H := by decide +kernel
theorem g1b : G 4607182418800017410 = U + 4 * H := by decide +kernel
theorem g2 : G 4611686018427387904 = 2 * U := by decide +kernel
theorem r2 : rung 4611686018427387904 = 4611686018427387904 := by decide +kernel
theorem f2 : rung 4611686018427387904 < inf := by decide +kernel
theorem s2 : sgn 4611686018427387904 = false := by decide +kernel
theorem g3 : G 4613937818241073152 = 3 * U := by decide +kernel
theorem z3 : Z 4613937818241073152 = 3 * U := by decide +kernel
theorem f3 : rung 4613937818241073152 < inf := by decide +kernel
theorem s3 : sgn 4613937818241073152 = false := by decide +kernel
theorem gq : 4 * G 4598175219545276416 = U := by decide +kernel
theorem k1023 : 4607182418800017408 = 1023 * 2 ^ 52 := by decide
theorem k1024 : 4611686018427387904 = 1024 * 2 ^ 52 := by decide

theorem poly (x U H Q V : Int) (hx : 0 ≤ x) (hx2 : x ≤ U) (hH : 0 < H) (hU : H ≤ U) (h3 : 2 * Q * U ≤ 2 * (x * x) + H * U) (h4 : V ≤ 3 * U - 2 * x + H) (h5 : 0 ≤ V) (hU0 : 0 < U) :
    2 * (Q * V) < (2 * U + 6 * H) * U := by
  have a1 : 2 * Q * U * V ≤ (2 * (x * x) + H * U) * V := Int.mul_le_mul_of_nonneg_right h3 h5
  have n1 : 0 ≤ 2 * (x * x) + H * U := by
    have := Int.mul_nonneg hx hx
    have := Int.mul_nonneg (Int.le_of_lt hH) (Int.le_of_lt hU0)
    omega
  have a2 : (2 * (x * x) + H * U) * V ≤ (2 * (x * x) + H * U) * (3 * U - 2 * x + H) := Int.mul_le_mul_of_nonneg_left h4 n1
  have e : (2 * (x * x) + H * U) * (3 * U - 2 * x + H) = 2 * (U * U * U) - 2 * ((U - x) * (U - x) * (U + 2 * x)) + 2 * (x * x) * H + 3 * (H * U * U) - 2 * (H * U * x) + H * H * U := by grind
  have b1 : 0 ≤ (U - x) * (U - x) * (U + 2 * x) := Int.mul_nonneg (Int.mul_nonneg (by omega) (by omega)) (by omega)
  have b2 : x * x ≤ U * x := Int.mul_le_mul_of_nonneg_right hx2 hx
  have b3 : x * x * H ≤ U * x * H := Int.mul_le_mul_of_nonneg_right b2 (Int.le_of_lt hH)
  have b4 : H * (H * U) ≤ U * (H * U) := Int.mul_le_mul_of_nonneg_right hU (Int.mul_nonneg (Int.le_of_lt hH) (Int.le_of_lt hU0))
  have b5 : 0 < H * U * U := Int.mul_pos (Int.mul_pos hH hU0) hU0
  have c : 2 * (Q * V) * U < (2 * U + 6 * H) * U * U := by
    have d1 : 2 * (Q * V) * U = 2 * Q * U * V := by grind
    have d2 : (2 * U + 6 * H) * U * U = 2 * (U * U * U) + 6 * (H * U * U) := by grind
    have d3 : H * H * U = H * (H * U) := by grind
    have d4 : U * (H * U) = H * U * U := by grind
    have d5 : 2 * (x * x) * H = 2 * (x * x * H) := by grind
    have d6 : U * x * H = H * U * x := by grind
    rw [d1, d2]
    rw [e] at a2
    omega
  exact Int.lt_of_mul_lt_mul_right c (Int.le_of_lt hU0)

theorem polyN (x U H Q V : Nat) (hx : x ≤ U) (hH : 0 < H) (hU : H ≤ U) (h3 : 2 * Q * U ≤ 2 * (x * x) + H * U) (h4 : 2 * V ≤ 2 * (3 * U - 2 * x) + 2 * H) :
    2 * (Q * V) < (2 * U + 6 * H) * U := by
  have n : 2 * (Q : Int) * U ≤ 2 * ((x : Int) * x) + H * U := by exact_mod_cast h3
  have := poly x U H Q V (by omega) (by omega) (by omega) (by omega) n (by omega) (by omega) (by omega)
  exact_mod_cast this

theorem ease_steps {u : Nat} (h1 : Z u ≤ U) (hf : rung u < inf) (hs : sgn u = false) : ∃ q w v e, double.mul u u = some q ∧ double.mul 4611686018427387904 u = some w ∧
    double.sub 4613937818241073152 w = some v ∧ double.mul q v = some e ∧ easeOf u = e ∧ isNaN e = false ∧ 0 ≤ Z e ∧ Z e ≤ Z 4607182418800017409 := by
  have i63 := Fo.inf63
  have up := U0
  have hg : G (rung u) ≤ U := by have : Z u = if sgn u then -(G (rung u) : Int) else G (rung u) := rfl
                                 rw [hs] at this; simp at this; omega
  obtain ⟨k, hk⟩ : ∃ k : Nat, k = 1074 := ⟨_, rfl⟩
  have hU := Fo.U_pow hk
  -- u u
  have eq := mul_eq hf hf
  rw [hs, ← hk] at eq
  have bq : rn (G (rung u) * G (rung u)) k ≤ 4607182418800017408 := rn_le (by rw [g1, hU]; exact Nat.mul_le_mul hg hg)
  have bq4 : 2 * G (rung u) ≤ U → rn (G (rung u) * G (rung u)) k ≤ 4598175219545276416 := fun c => rn_le (by
    rw [hU]
    have := Nat.mul_le_mul c c
    have e1 : 2 * G (rung u) * (2 * G (rung u)) = 4 * (G (rung u) * G (rung u)) := by grind
    have e2 := gq
    have e3 : U * U = 4 * (G 4598175219545276416 * U) := by
      rw [← Nat.mul_assoc, e2]
    omega)
  have nq := rn_bd (v := G (rung u) * G (rung u)) (s := k) (K := 1023) (by omega) (by rw [← k1023]; exact bq)
  rw [H_pow (k := 1023 - 2) (by omega), hU] at nq
  have lq : rn (G (rung u) * G (rung u)) k < inf := by have := r1f; rw [r1] at this; omega
  rw [Nat.min_eq_left (by omega)] at eq
  generalize rn (G (rung u) * G (rung u)) k = rq at *
  have e1 : (false ^^ false) = false := rfl
  rw [e1] at eq
  obtain ⟨sq, gq'⟩ := word_parts false (r := rq) (by omega)
  -- 2 u
  have ew := mul_eq f2 hf
  rw [r2, g2, hs, s2, e1] at ew
  obtain ⟨rw', hrw⟩ := Fo.twice (rung u)
  have e4 : 2 * U * G (rung u) = G rw' * U := by rw [hrw]; grind
  rw [e4, Fo.rn_U] at ew
  have lw : rw' < inf := by
    have := Uinf
    exact G_lt_iff.1 (by omega)
  rw [Nat.min_eq_left (by omega)] at ew
  obtain ⟨sw, gw⟩ := word_parts false (r := rw') (by omega)
  have zw : Z (double.word false rw') = 2 * G (rung u) := by rw [word_Z _ (by omega)]; simp; omega
  generalize double.word false rw' = w at *
  -- 3 - 2 u
  have fw : rung w < inf := by rw [gw]; exact lw
  have ev := sub_rd f3 fw
  rw [s3, z3, zw] at ev
  have e5 : (false && !sgn w) = false := rfl
  rw [e5] at ev
  have hS : (3 * (U : Int) - 2 * G (rung u)).natAbs = 3 * U - 2 * G (rung u) := by omega
  have zv := rd_Z false (3 * (U : Int) - 2 * G (rung u))
  have sv := rd_sgn false (3 * (U : Int) - 2 * G (rung u))
  rw [if_neg (by omega), decide_eq_false (by omega)] at sv
  rw [if_neg (by omega), hS] at zv
  have bv3 : rn (3 * U - 2 * G (rung u)) 0 ≤ 4613937818241073152 := rn_le0 (by rw [g3]; omega)
  have bv2 : U ≤ 2 * G (rung u) → rn (3 * U - 2 * G (rung u)) 0 ≤ 4611686018427387904 := fun c => rn_le0 (by rw [g2]; omega)
  have nv : U ≤ 2 * G (rung u) → 2 * G (rn (3 * U - 2 * G (rung u)) 0) ≤ 2 * (3 * U - 2 * G (rung u)) + 2 * H := fun c => by
    have := rn_bd (v := 3 * U - 2 * G (rung u)) (s := 0) (K := 1024) (by omega) (by rw [← k1024]; exact bv2 c)
    rw [H2_pow (k := 1024 - 2) (by omega)] at this
    simpa using this
  have l3 : 4613937818241073152 < inf := by decide
  have hv : rung (rd false (3 * (U : Int) - 2 * G (rung u))) = rn (3 * U - 2 * G (rung u)) 0 := by
    unfold rd
    rw [(word_parts _ (by omega)).2, hS, Nat.min_eq_left (by omega)]
  rw [Nat.min_eq_left (by omega)] at zv
  generalize rd false (3 * (U : Int) - 2 * G (rung u)) = v at *
  generalize rn (3 * U - 2 * G (rung u)) 0 = rv at *
  -- the product
  have fq : rung (double.word false rq) < inf := by rw [gq']; exact lq
  have fv : rung v < inf := by rw [hv]; omega
  have ee := mul_eq fq fv
  rw [sq, sv, e1, gq', hv, ← hk] at ee
  have be : rn (G rq * G rv) k ≤ 4607182418800017409 := by
    by_cases c : 2 * G (rung u) ≤ U
    · have b1 := G_le (bq4 c)
      have b2 := G_le bv3
      rw [g3] at b2
      have b3 := Nat.mul_le_mul b1 b2
      have := gq
      refine Nat.le_trans (rn_le (r := 4607182418800017408) ?_) (by omega)
      rw [g1, hU]
      refine Nat.le_trans b3 ?_
      rw [← Nat.mul_assoc]
      exact Nat.mul_le_mul_right U (by omega)
    · refine rn_le_of ?_
      have b := nv (by omega)
      rw [g1a, show (4607182418800017409 + 1 : Nat) = 4607182418800017410 from rfl, g1b, hU]
      have H0 : 0 < H := by decide +kernel
      have HU : H ≤ U := by have := UH; omega
      have t := polyN _ _ _ _ _ hg H0 HU nq b
      have e6 : U + 2 * H + (U + 4 * H) = 2 * U + 6 * H := by omega
      rw [e6]
      exact t
  have l1 : 4607182418800017409 < inf := by decide
  rw [Nat.min_eq_left (by omega)] at ee
  refine ⟨_, _, _, _, eq, ew, ev, ee, ?_, nan_word false (by omega), ?_, ?_⟩
  · unfold easeOf
    rw [eq, ew]
    simp only [Option.getD_some]
    rw [ev]
    simp only [Option.getD_some]
    rw [ee]
    rfl
  · rw [word_Z _ (by omega)]; simp
  · have z : Z 4607182418800017409 = G 4607182418800017409 := by decide +kernel
    rw [word_Z _ (by omega), z]
    have := G_le be
    simp
    omega
end Cv
