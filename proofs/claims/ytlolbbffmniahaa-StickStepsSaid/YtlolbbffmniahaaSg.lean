/-
Each 127th from the sixteenth on is reckoned; what stands between it and the next one lies between, as rounding keeps the order.
-/
import Derived.Test.YtlolbbffmniahaaSt
namespace St
open Fl Ieee

def c100 : Nat := 4636737291354636288
/-- 99 hundredths of a 127th. -/
def top : Nat := (double.div ((double.div (Go.floatOfInt .f64 99) c100).getD 0) cM).getD 0

/-- A sum of what is not below nought. -/
theorem add_pos {f b : Nat} (hf : rung f < inf) (hb : rung b < inf) (sf : sgn f = false) (sb : sgn b = false) :
    ∃ g, double.add f b = some g ∧ sgn g = false ∧ rung g = min (rn (G (rung f) + G (rung b)) 0) inf ∧ g < 2 ^ 64 := by
  have h := add_eq hf hb
  have zf : Z f = G (rung f) := by unfold Z; rw [sf]; rfl
  have zb : Z b = G (rung b) := by unfold Z; rw [sb]; rfl
  have i63 := inf_lt
  have hm : min (rn (G (rung f) + G (rung b)) 0) inf < 2 ^ 63 := by omega
  rw [zf, zb, show ((G (rung f) : Int) + G (rung b)).natAbs = G (rung f) + G (rung b) from by omega, sf, sb, decide_eq_false (by omega)] at h
  obtain ⟨p1, p2⟩ := word_parts false hm
  refine ⟨_, h, ?_, ?_, ?_⟩
  · split <;> exact p1
  · split <;> exact p2
  · split <;> exact word_wf _ hm

theorem nan_of {g r : Nat} (h : rung g = min r inf) : isNaN g = false := by unfold isNaN; rw [decide_eq_false]; omega

theorem add_between {f b t g g' : Nat} (hf : rung f < inf) (hb : rung b < inf) (ht : rung t < inf) (sf : sgn f = false) (sb : sgn b = false) (st : sgn t = false) (hbt : rung b ≤ rung t)
    (e : double.add f b = some g) (e' : double.add f t = some g') : axis f ≤ axis g ∧ axis g ≤ axis g' ∧ g < 2 ^ 64 := by
  obtain ⟨g1, e1, s1, r1, l1⟩ := add_pos hf hb sf sb
  obtain ⟨g2, e2, s2, r2, _⟩ := add_pos hf ht sf st
  obtain rfl : g1 = g := by rw [e1] at e; exact Option.some.inj e
  obtain rfl : g2 = g' := by rw [e2] at e'; exact Option.some.inj e'
  have m1 : rung f ≤ rn (G (rung f) + G (rung b)) 0 := le_rn (by simp)
  have m2 : rn (G (rung f) + G (rung b)) 0 ≤ rn (G (rung f) + G (rung t)) 0 := rn_mono (by have := G_le hbt; omega)
  have zf : Z f = G (rung f) := by unfold Z; rw [sf]; rfl
  have z1 : Z g1 = G (rung g1) := by unfold Z; rw [s1]; rfl
  have z2 : Z g2 = G (rung g2) := by unfold Z; rw [s2]; rfl
  have o1 : G (rung f) ≤ G (rung g1) := G_le (by omega)
  have o2 : G (rung g1) ≤ G (rung g2) := G_le (by omega)
  exact ⟨axis_mono f g1 (by unfold isNaN; rw [decide_eq_false]; omega) (nan_of r1) (by omega), axis_mono g1 g2 (nan_of r1) (nan_of r2) (by omega), l1⟩

def placeOk (k : Nat) : Bool :=
  match double.div (Go.floatOfInt .f64 (16 + k)) cM with
  | some f => decide (rung f < inf) && !sgn f && decide (f < 2 ^ 64) && reckon f == some (16 + k : Int) && reckon (flip f) == some (-(16 + k : Int)) &&
    (match double.add f top with
    | some g => reckon g == some (16 + k : Int) || reckon g == some (min (16 + k + 1) 127 : Int)
    | none => false)
  | none => false
def partOk (q : Nat) : Bool :=
  match double.div (Go.floatOfInt .f64 q) c100 with
  | some a =>
    match double.div a cM with
    | some b => decide (rung b < inf) && !sgn b && decide (rung b ≤ rung top)
    | none => false
  | none => false

theorem places : ((List.range 112).all placeOk) = true := by decide +kernel
theorem parts : ((List.range 100).all partOk) = true := by decide +kernel
theorem top_fin : rung top < inf := by decide +kernel
theorem top_sgn : sgn top = false := by decide +kernel

theorem step_ok (k q : Nat) (hk : k < 112) (hq : q < 100) : ∃ f a b g, double.div (Go.floatOfInt .f64 (16 + k)) cM = some f ∧ double.div (Go.floatOfInt .f64 q) c100 = some a ∧ double.div a cM = some b ∧ double.add f b = some g ∧
    axis f = 16 + k ∧ axis (flip f) = -(16 + k) ∧ (axis g = 16 + k ∨ axis g = min (16 + k + 1) 127) ∧ f < 2 ^ 64 ∧ g < 2 ^ 64 := by
  have h := places
  have h' := parts
  simp only [List.all_eq_true, List.mem_range] at h h'
  have h := h k hk
  have h' := h' q hq
  unfold placeOk at h
  unfold partOk at h'
  split at h
  · rename_i f e1
    simp only [Bool.and_eq_true, beq_iff_eq, decide_eq_true_eq, Bool.not_eq_true'] at h
    obtain ⟨⟨⟨⟨⟨h1, h2⟩, h3⟩, h4⟩, h5⟩, h6⟩ := h
    split at h6
    · rename_i g' e2
      simp only [Bool.or_eq_true, beq_iff_eq] at h6
      split at h'
      · rename_i a e3
        split at h'
        · rename_i b e4
          simp only [Bool.and_eq_true, decide_eq_true_eq, Bool.not_eq_true'] at h'
          obtain ⟨⟨k1, k2⟩, k3⟩ := h'
          obtain ⟨g, e5, _, _, _⟩ := add_pos h1 k1 h2 k2
          obtain ⟨l1, l2, l3⟩ := add_between h1 k1 top_fin h2 k2 top_sgn k3 e5 e2
          have a1 := axis_of h4
          have a2 := h6.imp axis_of axis_of
          exact ⟨f, a, b, g, e1, e3, e4, e5, a1, axis_of h5, by omega, h3, l3⟩
        · cases h'
      · cases h'
    · cases h6
  · cases h
end St
