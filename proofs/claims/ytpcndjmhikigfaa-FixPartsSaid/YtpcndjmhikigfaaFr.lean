/-
The contracts of package fix: roots, bit by bit.
-/
import Derived.Test.YtpcndjmhikigfaaFw
import Derived.LoopTactic
import Derived.Laws.BitsAllLaws
import Derived.Outline
namespace Go.Proofs.Ytpcndjmhikigfaa
open Go.RowKit
set_option linter.unusedVariables false

theorem i64_or_nat (a b : Nat) (ha : a < 9223372036854775808) (hb : b < 9223372036854775808) : bits .or .i64 (a : Int) (b : Int) = ((a ||| b : Nat) : Int) := by
  have hx : a ||| b < 2 ^ 63 := Nat.or_lt_two_pow (by omega) (by omega)
  show IntKind.i64.wrap ((BitVec.ofInt 64 (a : Int) ||| BitVec.ofInt 64 (b : Int)).toNat : Int) = _
  rw [BitVec.toNat_or, ofInt_u64 a (by omega), ofInt_u64 b (by omega), IntKind.wrap_i64]
  omega

theorem root_pos {a : Int} (h : 0 < a) : Fx.root a = Fx.sq (a.toNat * 65536) := by unfold Fx.root; rw [if_neg (by omega)]
theorem root_neg {a : Int} (h : a ≤ 0) : Fx.root a = 0 := by unfold Fx.root; rw [if_pos h]
theorem sq_i64 {S M Q : Nat} (hQ : S * S = Q) (h : S ≤ M) (hM : M * M ≤ 9223372036854775807) : (S : Int) * S = (Q : Int) ∧ Q ≤ 9223372036854775807 := by
  subst hQ
  have := Nat.mul_le_mul h h
  exact ⟨by rw [Int.natCast_mul], by omega⟩

theorem half_val {B k : Nat} (h : B / 2 = if k = 0 then 0 else 2 ^ (k - 1)) : Value.int .i64 ((B : Int) / 2) = Value.int .i64 (if k = 0 then 0 else ((2 ^ (k - 1) : Nat) : Int)) := by
  congr 1
  rw [show (B : Int) / 2 = ((B / 2 : Nat) : Int) from by omega, h]
  split <;> rfl

set_option maxHeartbeats 400000 in
theorem fixroot_pos (a : Int) (h0 : 0 < a) (wa : a ≤ 2147483647) (w : World) :
    Calls Try.prog 20 #[.int .i32 a] w fun e w' => e = .returned (.int .i32 (Fx.root a)) ∧ w = w' := by
  have h0' : decide (a ≤ 0) = false := by simpa using h0
  have hr := Lib.hid (root_pos h0)
  go_enter Try.func20, Try.ntmps20
  go_wp2
  go_loop [4, 5] (fun r b => ∃ R j : Nat, Fx.Half (a.toNat * 65536) R j ∧ j ≤ 24 ∧ r = .int .i64 R ∧ b = .int .i64 (if j = 0 then 0 else (2 ^ (j - 1) : Nat))) (fun _ b => (intOf b).toNat)
  case atStart => exact ⟨0, 24, Fx.Half.start (by simp; omega), by omega, rfl, rfl⟩
  case round =>
    obtain ⟨R, j, hh, hj, rfl, rfl⟩ := hrel
    by_cases hz : j = 0
    · subst hz
      simp only [if_true]
      have e := Lib.hid hh.done
      have hR := hh.below 16777216 (by omega)
      clear hh
      go_wp2
      go_ret
      exact ⟨ret_i32 (by rw [hr.out, e.out]), rfl⟩
    · obtain ⟨k, rfl⟩ : ∃ k, j = k + 1 := ⟨j - 1, by omega⟩
      simp only [Nat.add_one_ne_zero, if_false, Nat.add_sub_cancel]
      have hB : 0 < 2 ^ k := Nat.two_pow_pos k
      have hB2 : 2 ^ k ≤ 8388608 := Nat.pow_le_pow_right (n := 2) (by omega) (show k ≤ 23 by omega)
      have hR := hh.below 16777216 (by omega)
      have hor := i64_or_nat R (2 ^ k) (by omega) (by omega)
      rw [hh.or] at hor
      obtain ⟨S, hS⟩ : ∃ S, R + 2 ^ k = S := ⟨_, rfl⟩
      obtain ⟨Q, hQ⟩ : ∃ Q, S * S = Q := ⟨_, rfl⟩
      obtain ⟨hq, hq'⟩ := sq_i64 hQ (show S ≤ 33554432 by omega) (by omega)
      have hH := Lib.hid hh
      have hE : Hid (2 ^ k / 2 = if k = 0 then 0 else 2 ^ (k - 1)) := Lib.hid (by
        cases k with
        | zero => simp
        | succ k => simp [Nat.pow_succ])
      have hSB := Lib.hid hS
      have hQB := Lib.hid hQ
      obtain ⟨B, hBk⟩ : ∃ B, 2 ^ k = B := ⟨_, rfl⟩
      have hBB := Lib.hid hBk
      rw [hS] at hor
      rw [hBk] at hB hB2 hor ⊢
      have hSl : S = R + B := by omega
      have hSI := Lib.hid hSl
      clear hh hS hQ hBk hSl
      go_wp2
      · have hle : (Q : Int) ≤ a * 65536 := by assumption
        go_round
        case rel =>
          have c : (R + 2 ^ k) * (R + 2 ^ k) ≤ a.toNat * 65536 := by rw [hSB.out, hQB.out]; omega
          refine ⟨S, k, by have := hH.out.take c; rwa [hSB.out] at this, by omega, rfl, ?_⟩
          have := hE.out
          rw [hBB.out] at this
          exact half_val this
        case measure => simp [intOf]; omega
      · have hle : a * 65536 < (Q : Int) := by assumption
        go_round
        case rel =>
          have c : a.toNat * 65536 < (R + 2 ^ k) * (R + 2 ^ k) := by rw [hSB.out, hQB.out]; omega
          refine ⟨R, k, hH.out.pass c, by omega, rfl, ?_⟩
          have := hE.out
          rw [hBB.out] at this
          exact half_val this
        case measure => simp [intOf]; omega

set_option maxHeartbeats 400000 in
theorem fixroot_neg (a : Int) (h0 : a ≤ 0) (w : World) :
    Calls Try.prog 20 #[.int .i32 a] w fun e w' => e = .returned (.int .i32 (Fx.root a)) ∧ w = w' := by
  have hr := Lib.hid (root_neg h0)
  go_enter Try.func20, Try.ntmps20
  go_wp2
  go_ret
  exact ⟨ret_i32 (by rw [hr.out]), rfl⟩

theorem fixroot_any (a : Int) (wa : a ≤ 2147483647) (w : World) :
    Calls Try.prog 20 #[.int .i32 a] w fun e w' => e = .returned (.int .i32 (Fx.root a)) ∧ w = w' := by
  by_cases h : a ≤ 0
  · exact fixroot_neg a h w
  · exact fixroot_pos a (by omega) wa w

end Go.Proofs.Ytpcndjmhikigfaa
