/-
The contract of the document's own root.
-/
import Derived.Test.YtpcndjmhikigfaaFr
import Derived.Laws.ShiftsVar
namespace Go.Proofs.Ytpcndjmhikigfaa
open Go.RowKit
set_option linter.unusedVariables false

set_option maxHeartbeats 400000 in
theorem refroot_neg (a : Int) (h0 : a ≤ 0) (w : World) :
    Calls Try.prog 21 #[.int .i32 a] w fun e w' => e = .returned (.int .i32 (Fx.root a)) ∧ w = w' := by
  have hr := Lib.hid (root_neg h0)
  have h0' : decide (0 < a) = false := by simpa using h0
  go_enter Try.func21, Try.ntmps21
  go_wp2
  refine wp_loop_rounds 1 ?_
  rw [rounds_succ]
  go_wp2
  go_ret
  exact ⟨ret_i32 (by rw [hr.out]), rfl⟩

set_option maxHeartbeats 400000 in
theorem refroot_pos (a : Int) (h0 : 0 < a) (wa : a ≤ 2147483647) (w : World) :
    Calls Try.prog 21 #[.int .i32 a] w fun e w' => e = .returned (.int .i32 (Fx.root a)) ∧ w = w' := by
  have h0' : decide (0 < a) = true := by simpa using h0
  have hr := Lib.hid (root_pos h0)
  go_enter Try.func21, Try.ntmps21
  go_wp2
  go_loop [3, 4] (fun r i => ∃ R j : Nat, Fx.Half (a.toNat * 65536) R j ∧ j ≤ 31 ∧ r = .int .i64 R ∧ i = .int .i64 ((j : Int) - 1)) (fun _ i => (intOf i + 1).toNat)
  case atStart => exact ⟨0, 31, Fx.Half.start (by simp; omega), by omega, rfl, rfl⟩
  case round =>
    obtain ⟨R, j, hh, hj, rfl, rfl⟩ := hrel
    have hR := hh.below 16777216 (by omega)
    by_cases hz : j = 0
    · subst hz
      have e := Lib.hid hh.done
      clear hh
      go_wp2
      go_ret
      exact ⟨ret_i32 (by rw [hr.out, e.out]), rfl⟩
    · obtain ⟨k, rfl⟩ : ∃ k, j = k + 1 := ⟨j - 1, by omega⟩
      rw [show ((k + 1 : Nat) : Int) - 1 = (k : Int) from by omega]
      have hB : 0 < 2 ^ k := Nat.two_pow_pos k
      have hB2 : 2 ^ k ≤ 1073741824 := Nat.pow_le_pow_right (n := 2) (by omega) (show k ≤ 30 by omega)
      obtain ⟨S, hS⟩ : ∃ S, R + 2 ^ k = S := ⟨_, rfl⟩
      obtain ⟨Q, hQ⟩ : ∃ Q, S * S = Q := ⟨_, rfl⟩
      obtain ⟨hq, hq'⟩ := sq_i64 hQ (show S ≤ 2147483647 by omega) (by omega)
      obtain ⟨B, hBk⟩ : ∃ B, 2 ^ k = B := ⟨_, rfl⟩
      have hH := Lib.hid hh
      have hSB := Lib.hid hS
      have hQB := Lib.hid hQ
      have hp : (2 : Int) ^ k = (B : Int) := by rw [← hBk, Int.natCast_pow]; rfl
      have hs : (R : Int) + B = S := by omega
      rw [hBk] at hB hB2
      have hs' : 0 ≤ (S : Int) := by omega
      have hs2 : (S : Int) ≤ 2147483647 := by omega
      clear hh hS hQ hBk
      go_wp2
      · have hle : (Q : Int) ≤ a * 65536 := by assumption
        clear hp hs hq
        go_round
        case rel =>
          have c : (R + 2 ^ k) * (R + 2 ^ k) ≤ a.toNat * 65536 := by rw [hSB.out, hQB.out]; omega
          exact ⟨S, k, by have := hH.out.take c; rwa [hSB.out] at this, by omega, rfl, rfl⟩
        case measure => simp [intOf]
      · have hle : a * 65536 < (Q : Int) := by assumption
        clear hp hs hq
        go_round
        case rel =>
          have c : a.toNat * 65536 < (R + 2 ^ k) * (R + 2 ^ k) := by rw [hSB.out, hQB.out]; omega
          exact ⟨R, k, hH.out.pass c, by omega, rfl, rfl⟩
        case measure => simp [intOf]

theorem refroot_any (a : Int) (wa : a ≤ 2147483647) (w : World) :
    Calls Try.prog 21 #[.int .i32 a] w fun e w' => e = .returned (.int .i32 (Fx.root a)) ∧ w = w' := by
  by_cases h : a ≤ 0
  · exact refroot_neg a h w
  · exact refroot_pos a (by omega) wa w
end Go.Proofs.Ytpcndjmhikigfaa
