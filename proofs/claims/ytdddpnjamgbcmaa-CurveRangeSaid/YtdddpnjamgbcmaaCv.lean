/-
Floats that are no NaN: sums, differences and products that have an answer; what package curve makes of floats, plainly.
-/
import Derived.Test.YtdddpnjamgbcmaaFo
namespace Cv
open Fl Ieee

theorem nan_word (s : Bool) {r : Nat} (h : r ≤ inf) : isNaN (double.word s r) = false := by
  have i := Fo.inf63
  obtain ⟨p1, p2⟩ := word_parts s (r := r) (by omega)
  unfold isNaN
  rw [p2]
  simp
  omega

theorem nearest_num (s : Bool) (mag : Nat) (place : Int) : isNaN (double.nearest s mag place) = false := by
  unfold Format.nearest
  split
  · exact nan_word s (Nat.zero_le _)
  · simp only [d_inf]
    exact nan_word s (Nat.min_le_right _ _)

theorem write_num {d : Datum} (h : d.isNaN = false) : isNaN (double.write d) = false := by
  cases d with
  | number s m p => exact nearest_num s m p
  | infinity s =>
    show isNaN (double.word s double.infRung) = false
    rw [d_inf]
    exact nan_word s (Nat.le_refl _)
  | nan s t => cases h

theorem read_num {x : Nat} (h : isNaN x = false) : (double.read x).isNaN = false := by
  simp only [isNaN, decide_eq_false_iff_not] at h
  rcases read_cases x with ⟨_, m, p, r, _⟩ | ⟨_, r⟩ | ⟨c, _⟩
  · rw [r]; rfl
  · rw [r]; rfl
  · omega

theorem opposite_num {d : Datum} (h : d.isNaN = false) : d.opposite.isNaN = false := by cases d <;> first | rfl | cases h

theorem sum_num {d e : Datum} (h : d.isNaN = false) (h' : e.isNaN = false) : d.sum e = none ∨ ∃ g, d.sum e = some g ∧ g.isNaN = false := by
  cases d with
  | nan => cases h
  | infinity s =>
    cases e with
    | nan => cases h'
    | infinity t =>
      show (if s = t then some (Datum.infinity s) else none) = none ∨ ∃ g, (if s = t then some (Datum.infinity s) else none) = some g ∧ g.isNaN = false
      split
      · exact Or.inr ⟨_, rfl, rfl⟩
      · exact Or.inl rfl
    | number t n q => exact Or.inr ⟨_, rfl, rfl⟩
  | number s m p =>
    cases e with
    | nan => cases h'
    | infinity t => exact Or.inr ⟨_, rfl, rfl⟩
    | number t n q => exact Or.inr ⟨_, rfl, rfl⟩

theorem add_num {x y : Nat} (hx : isNaN x = false) (hy : isNaN y = false) : double.add x y = none ∨ ∃ r, double.add x y = some r ∧ isNaN r = false := by
  unfold Format.add
  rcases sum_num (read_num hx) (read_num hy) with h | ⟨g, h, h'⟩
  · rw [h]; exact Or.inl rfl
  · rw [h]; exact Or.inr ⟨_, rfl, write_num h'⟩

theorem Z_inf {x : Nat} (h : rung x = inf) : Z x = if sgn x then -(G inf : Int) else G inf := by unfold Z; rw [h]

theorem sub_some {x y : Nat} (hx : isNaN x = false) (hy : isNaN y = false) (hz : Z x ≠ Z y) : ∃ r, double.sub x y = some r ∧ isNaN r = false := by
  unfold Format.sub
  rcases sum_num (read_num hx) (opposite_num (read_num hy)) with h | ⟨g, h, h'⟩
  · exfalso
    simp only [isNaN, decide_eq_false_iff_not] at hx hy
    rcases read_cases x with ⟨_, m, p, r, _⟩ | ⟨c, r⟩ | ⟨c, _⟩
    · rw [r] at h
      rcases read_cases y with ⟨_, n, q, r', _⟩ | ⟨c', r'⟩ | ⟨c', _⟩
      · rw [r'] at h; cases h
      · rw [r'] at h; cases h
      · omega
    · rw [r] at h
      rcases read_cases y with ⟨_, n, q, r', _⟩ | ⟨c', r'⟩ | ⟨c', _⟩
      · rw [r'] at h; cases h
      · rw [r'] at h
        have h2 : (if sgn x = !sgn y then some (Datum.infinity (sgn x)) else none) = none := h
        apply hz
        rw [Z_inf c, Z_inf c']
        revert h2
        cases sgn x <;> cases sgn y <;> simp
      · omega
    · omega
  · rw [h]; exact ⟨_, rfl, write_num h'⟩

theorem mul_some {x u : Nat} (hx : isNaN x = false) (hu : rung u < inf) (h0 : Z u ≠ 0) : ∃ r, double.mul x u = some r ∧ isNaN r = false := by
  unfold Format.mul
  simp only [isNaN, decide_eq_false_iff_not] at hx
  rcases read_cases u with ⟨_, n, q, r', _, g'⟩ | ⟨c', _⟩ | ⟨c', _⟩
  · have hn : n ≠ 0 := by
      intro e
      apply h0
      rw [e, Nat.zero_mul] at g'
      unfold Z
      rw [← g']
      simp
    rcases read_cases x with ⟨_, m, p, r, _⟩ | ⟨c, r⟩ | ⟨c, _⟩
    · rw [r, r']
      exact ⟨_, rfl, nearest_num _ _ _⟩
    · rw [r, r']
      refine ⟨double.write (.infinity (sgn x ^^ sgn u)), ?_, write_num rfl⟩
      show ((if n = 0 then none else some (Datum.infinity (sgn x ^^ sgn u))).map double.write : Option Nat) = _
      rw [if_neg hn]
      rfl
    · omega
  · omega
  · omega

/- One, a half, two, three, the next behind one. -/
theorem z0 : Z 0 = 0 := by decide +kernel
theorem z1 : Z 4607182418800017408 = U := by decide +kernel
theorem zh : 2 * Z 4602678819172646912 = U := by decide +kernel
theorem n0 : isNaN 0 = false := by decide +kernel
theorem n1 : isNaN 4607182418800017408 = false := by decide +kernel
theorem nh : isNaN 4602678819172646912 = false := by decide +kernel
theorem U0 : 0 < U := by decide +kernel
theorem Uinf : 4 * U < G inf := by decide +kernel
theorem fin_of {x k : Nat} (h : (Z x).natAbs ≤ k) (hk : k < G inf) : rung x < inf := by
  rw [Z_abs] at h
  exact G_lt_iff.1 (by omega)

/-- 3.1. -/
def same (a b : Nat) : Bool := if isNaN a then isNaN b else decide (a = b)
def rank (a : Nat) : Int := if isNaN a then 9223372036854775807 else if sgn a then -(rung a : Int) - 1 else rung a
def less (a b : Nat) : Bool := decide (rank a < rank b)

theorem rung_num {a : Nat} (h : isNaN a = false) : rung a ≤ inf := by simp only [isNaN, decide_eq_false_iff_not] at h; omega
theorem inf_num : inf = 9218868437227405312 := by decide +kernel
theorem rank_bd {a : Nat} (h : isNaN a = false) : -9218868437227405313 ≤ rank a ∧ rank a ≤ 9218868437227405312 := by
  have := rung_num h
  rw [inf_num] at this
  unfold rank
  rw [h]
  cases sgn a <;> simp <;> omega
theorem same_num {a b : Nat} (wa : a < 2 ^ 64) (wb : b < 2 ^ 64) (h : isNaN a = false) : (double.order a b == some .eq && (sgn a == sgn b)) = decide (a = b) := by
  cases h' : isNaN b
  · rw [eq_iff h h']
    by_cases c : a = b
    · subst c; simp
    · rw [decide_eq_false c]
      cases e : (decide (Z a = Z b) && (sgn a == sgn b))
      · rfl
      · exfalso
        simp only [Bool.and_eq_true, decide_eq_true_eq, beq_iff_eq] at e
        obtain ⟨e1, e2⟩ := e
        apply c
        have : G (rung a) = G (rung b) := by
          unfold Z at e1
          rw [e2] at e1
          cases hs : sgn b <;> rw [hs] at e1 <;> simp at e1 <;> omega
        have := G_inj this
        rw [← word_of wa, ← word_of wb, e2, this]
  · rw [order_nan_right a h']
    have : a ≠ b := by intro e; subst e; rw [h] at h'; cases h'
    rw [decide_eq_false this]
    rfl
theorem same_self (a : Nat) : same a a = true := by unfold same; cases isNaN a <;> simp
theorem less_nan {a : Nat} (b : Nat) (h : isNaN a = true) : less a b = false := by
  unfold less
  rw [decide_eq_false]
  cases h' : isNaN b
  · have := rank_bd h'
    unfold rank at *
    rw [h]
    rw [h'] at *
    simp at *
    omega
  · unfold rank
    rw [h, h']
    simp
theorem nan_less {a b : Nat} (h : isNaN a = false) (h' : isNaN b = true) : less a b = true := by
  unfold less
  rw [decide_eq_true_eq]
  have := rank_bd h
  have e : rank b = 9223372036854775807 := by unfold rank; rw [h']; rfl
  omega
theorem less_eq {a b : Nat} (h : isNaN a = false) (h' : isNaN b = false) (hz : Z a = Z b) : less a b = (sgn a && !sgn b) := by
  unfold less rank
  unfold Z at hz
  rw [h, h']
  have g0 : ∀ r, G r = 0 → r = 0 := fun r e => G_inj (e.trans G_zero.symm)
  cases ha : sgn a <;> cases hb : sgn b <;> rw [ha, hb] at hz <;> simp at hz ⊢
  · have := @G_inj (rung a) (rung b) (by omega); omega
  · have := g0 (rung a) (by omega); have := g0 (rung b) (by omega); omega
  · omega
  · have := @G_inj (rung a) (rung b) (by omega); omega
theorem less_ne {a b : Nat} (h : isNaN a = false) (h' : isNaN b = false) (hz : Z a ≠ Z b) : less a b = decide (Z a < Z b) := by
  unfold less rank
  unfold Z at *
  rw [h, h']
  refine decide_eq_decide.2 ?_
  have l1 := @G_lt_iff (rung a) (rung b)
  have l2 := @G_lt_iff (rung b) (rung a)
  have g0 : rung a = 0 → G (rung a) = 0 := fun e => by rw [e]; rfl
  have g0' : rung b = 0 → G (rung b) = 0 := fun e => by rw [e]; rfl
  cases ha : sgn a <;> cases hb : sgn b <;> rw [ha, hb] at hz <;> simp at hz ⊢ <;> omega

theorem rank_inj {a b : Nat} (wa : a < 2 ^ 64) (wb : b < 2 ^ 64) (h : rank a = rank b) : same a b = true := by
  unfold same
  cases na : isNaN a <;> cases nb : isNaN b
  · simp
    unfold rank at h
    rw [na, nb] at h
    rw [← word_of wa, ← word_of wb]
    cases ha : sgn a <;> cases hb : sgn b <;> rw [ha, hb] at h <;> simp at h <;> first | (rw [h]; done) | omega | (congr 1; omega)
  · have := rank_bd na
    have e : rank b = 9223372036854775807 := by unfold rank; rw [nb]; rfl
    omega
  · have := rank_bd nb
    have e : rank a = 9223372036854775807 := by unfold rank; rw [na]; rfl
    omega
  · rfl
theorem same_rank {a b : Nat} (h : same a b = true) : rank a = rank b := by
  unfold same at h
  cases na : isNaN a <;> rw [na] at h <;> simp at h
  · rw [h]
  · unfold rank; rw [na, h]; rfl

/-- 3.2. -/
def unit (t : Nat) : Nat := if isNaN t then 0 else if Z t ≤ 0 then 0 else if (U : Int) ≤ Z t then 4607182418800017408 else t

theorem unit_spec (t : Nat) : isNaN (unit t) = false ∧ 0 ≤ Z (unit t) ∧ Z (unit t) ≤ U ∧ sgn (unit t) = false ∧ rung (unit t) < inf ∧ (t < 2 ^ 64 → unit t < 2 ^ 64) := by
  have h : isNaN (unit t) = false ∧ 0 ≤ Z (unit t) ∧ Z (unit t) ≤ U ∧ sgn (unit t) = false ∧ (t < 2 ^ 64 → unit t < 2 ^ 64) := by
    have up := U0
    have k0 : isNaN 0 = false ∧ 0 ≤ Z 0 ∧ Z 0 ≤ U ∧ sgn 0 = false ∧ (t < 2 ^ 64 → 0 < 2 ^ 64) := by
      rw [z0]; exact ⟨n0, by omega, by omega, by decide +kernel, fun _ => by omega⟩
    unfold unit
    cases hn : isNaN t
    · by_cases c : Z t ≤ 0
      · rw [if_neg (by simp), if_pos c]; exact k0
      · by_cases c2 : (U : Int) ≤ Z t
        · rw [if_neg (by simp), if_neg c, if_pos c2, z1]; exact ⟨n1, by omega, by omega, by decide +kernel, fun _ => by omega⟩
        · rw [if_neg (by simp), if_neg c, if_neg c2]
          refine ⟨hn, by omega, by omega, ?_, fun h => h⟩
          cases hs : sgn t
          · rfl
          · have := Z_neg_le hs; omega
    · rw [if_pos rfl]; exact k0
  obtain ⟨a, b, c, d, e⟩ := h
  have := Uinf
  exact ⟨a, b, c, d, fin_of (k := U) (by omega) (by omega), e⟩

/-- What is between, if it has an answer. -/
def btw (a b u : Nat) : Option Nat :=
  match double.sub b a with
  | none => none
  | some d => match double.mul d u with
    | none => none
    | some m => double.add a m
def mix (a b t : Nat) : Nat :=
  if Z (unit t) = 0 then a else if Z (unit t) = U then b else if isNaN a || isNaN b then 9221120237041090561 else if Z a = Z b then a else (btw a b (unit t)).getD b

/-- The steps between two that are no NaN, nor equal. -/
theorem btw_steps {a b u : Nat} (ha : isNaN a = false) (hb : isNaN b = false) (hz : Z a ≠ Z b) (hu : rung u < inf) (h0 : Z u ≠ 0) :
    ∃ d m, double.sub b a = some d ∧ double.mul d u = some m ∧ btw a b u = double.add a m ∧ (double.add a m = none ∨ ∃ r, double.add a m = some r ∧ isNaN r = false) := by
  obtain ⟨d, h1, n1⟩ := sub_some hb ha (fun e => hz e.symm)
  obtain ⟨m, h2, n2⟩ := mul_some n1 hu h0
  refine ⟨d, m, h1, h2, ?_, add_num ha n2⟩
  unfold btw
  rw [h1]
  simp only [h2]

theorem mix_nan {a b t : Nat} (h0 : Z (unit t) ≠ 0) (h1 : Z (unit t) ≠ U) (h : (isNaN a || isNaN b) = true) : mix a b t = 9221120237041090561 := by
  unfold mix; rw [if_neg h0, if_neg h1, if_pos h]
theorem mix_num {a b t : Nat} (ha : isNaN a = false) (hb : isNaN b = false) : isNaN (mix a b t) = false := by
  unfold mix
  by_cases h0 : Z (unit t) = 0
  · rw [if_pos h0]; exact ha
  · rw [if_neg h0]
    by_cases h1 : Z (unit t) = U
    · rw [if_pos h1]; exact hb
    · rw [if_neg h1, ha, hb]
      by_cases hz : Z a = Z b
      · rw [if_pos hz]; exact ha
      · rw [if_neg hz]
        obtain ⟨d, m, _, _, e, h⟩ := btw_steps ha hb hz (unit_spec t).2.2.2.2.1 h0
        show isNaN ((btw a b (unit t)).getD b) = false
        rw [e]
        rcases h with h | ⟨r, h, hr⟩
        · rw [h]; exact hb
        · rw [h]; exact hr
theorem mix_self {a t : Nat} (ha : isNaN a = false) : mix a a t = a := by unfold mix; rw [ha]; simp
end Cv
