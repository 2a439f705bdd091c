/-
A sixteenth of a step, and sums that are exact.
-/
import Derived.Test.YtpcndjmhikigfaaFt
namespace Go.Proofs.Ytpcndjmhikigfaa
open Go.RowKit
set_option linter.unusedVariables false

open Fl in
theorem word_Z (neg : Bool) {r : Nat} (h : r < 2 ^ 63) : Z (Ieee.double.word neg r) = if neg then -(G r : Int) else G r := by
  obtain ⟨p1, p2⟩ := word_parts neg h
  unfold Z; rw [p1, p2]
open Fl in
theorem add_exact {x y : Nat} {s : Int} (hx : rung x < inf) (hy : rung y < inf) (hs : Z x + Z y = s) (n k : Nat) (hn : n < 2 ^ 53) (he : s.natAbs = n * 2 ^ k) (hi : s.natAbs < G inf) :
    ∃ g, Ieee.double.add x y = some g ∧ Z g = s ∧ isNaN g = false := by
  obtain ⟨r, hr⟩ := Fo.rung_of n k hn
  have lt : r < inf := G_lt_iff.1 (by omega)
  have i63 := Fo.inf63
  have e := add_eq hx hy
  rw [hs, he, ← hr] at e
  have e0 : rn (G r) 0 = r := by have := rn_exact 0 r; rwa [Nat.pow_zero, Nat.mul_one] at this
  rw [e0, Nat.min_eq_left (by omega)] at e
  refine ⟨_, e, ?_, ?_⟩
  · rw [word_Z _ (by omega)]
    by_cases c : s = 0
    · have g0 : G r = 0 := by omega
      rw [g0, c]; simp
    · rw [if_neg c]
      by_cases c2 : s < 0
      · rw [decide_eq_true c2]; simp; omega
      · rw [decide_eq_false c2]; simp; omega
  · obtain ⟨p1, p2⟩ := word_parts (if s = 0 then sgn x && sgn y else decide (s < 0)) (r := r) (by omega)
    unfold isNaN; rw [p2]; simp; omega
open Fl in
theorem sub_exact {x y : Nat} {s : Int} (hx : rung x < inf) (hy : rung y < inf) (hs : Z x - Z y = s) (n k : Nat) (hn : n < 2 ^ 53) (he : s.natAbs = n * 2 ^ k) (hi : s.natAbs < G inf) :
    ∃ g, Ieee.double.sub x y = some g ∧ Z g = s ∧ isNaN g = false := by
  obtain ⟨r, hr⟩ := Fo.rung_of n k hn
  have lt : r < inf := G_lt_iff.1 (by omega)
  have i63 := Fo.inf63
  have e := sub_eq hx hy
  rw [hs, he, ← hr] at e
  have e0 : rn (G r) 0 = r := by have := rn_exact 0 r; rwa [Nat.pow_zero, Nat.mul_one] at this
  rw [e0, Nat.min_eq_left (by omega)] at e
  refine ⟨_, e, ?_, ?_⟩
  · rw [word_Z _ (by omega)]
    by_cases c : s = 0
    · have g0 : G r = 0 := by omega
      rw [g0, c]; simp
    · rw [if_neg c]
      by_cases c2 : s < 0
      · rw [decide_eq_true c2]; simp; omega
      · rw [decide_eq_false c2]; simp; omega
  · obtain ⟨p1, p2⟩ := word_parts (if s = 0 then sgn x && !sgn y else decide (s < 0)) (r := r) (by omega)
    unfold isNaN; rw [p2]; simp; omega

def k1 (j : Int) : Nat := (Ieee.double.div (floatOfInt .f64 j) 4625196817309499392).getD 0
def k2 (j : Int) : Nat := (Ieee.double.div (k1 j) 4679240012837945344).getD 0
theorem k_all (j : Fin 16) : Ieee.double.div (floatOfInt .f64 (j.val : Int)) 4625196817309499392 = some (k1 j.val) ∧ Ieee.double.div (k1 j.val) 4679240012837945344 = some (k2 j.val) ∧
    1048576 * Fl.Z (k2 j.val) = j.val * Fl.U ∧ Fl.rung (k2 j.val) < Fl.inf := by
  have h : ∀ j : Fin 16, Ieee.double.div (floatOfInt .f64 (j.val : Int)) 4625196817309499392 = some (k1 j.val) ∧ Ieee.double.div (k1 j.val) 4679240012837945344 = some (k2 j.val) ∧
    1048576 * Fl.Z (k2 j.val) = j.val * Fl.U ∧ Fl.rung (k2 j.val) < Fl.inf := by decide +kernel
  exact h j
theorem k_spec (j : Int) (h0 : 0 ≤ j) (h1 : j < 16) : Ieee.double.div (floatOfInt .f64 j) 4625196817309499392 = some (k1 j) ∧ Ieee.double.div (k1 j) 4679240012837945344 = some (k2 j) ∧
    1048576 * Fl.Z (k2 j) = j * Fl.U ∧ Fl.rung (k2 j) < Fl.inf := by
  have := k_all ⟨j.toNat, by omega⟩
  have e : ((j.toNat : Nat) : Int) = j := by omega
  simpa only [e] using this

end Go.Proofs.Ytpcndjmhikigfaa
