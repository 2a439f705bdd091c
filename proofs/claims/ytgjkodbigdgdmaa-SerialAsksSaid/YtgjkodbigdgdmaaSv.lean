/-
Package serial: the way between two numbers, the bit of one; the document's.
-/
import Derived.Test.YtgjkodbigdgdmaaSp
import Derived.Test.YtgjkodbigdgdmaaMw
import Derived.Test.YtgjkodbigdgdmaaMv
import Derived.Laws.ShiftsVarLaws
namespace Go.Proofs.Ytgjkodbigdgdmaa
open Go.RowKit
set_option linter.unusedVariables false

theorem way_is (a b : Int) : wrap64 (IntKind.i16.wrap (IntKind.u16.wrap (b - a))) = Sr.way a b := by
  have h1 : IntKind.u16.wrap (b - a) = (b - a) % 65536 := IntKind.wrap_u16 _
  have h2 : IntKind.i16.wrap ((b - a) % 65536) = Sr.way a b := by
    simp only [IntKind.wrap, IntKind.bits, IntKind.signed, Sr.way, Bool.true_and]
    simp only [show (2 : Int) ^ 16 = 65536 from rfl, show (2 : Int) ^ (16 - 1) = 32768 from rfl]
    by_cases h : (b - a) % 65536 % 65536 ≥ 32768
    · rw [if_pos (decide_eq_true h)]; omega
    · rw [if_neg (by rw [decide_eq_false h]; decide)]; omega
  rw [h1, h2]
  have := Sr.way_bd a b
  exact IntWalk.wrap64_in _ (by omega)
/-- One shifted by all but one. -/
theorem shift_bit (k : Int) (hk : 0 < k) : Op.shift .shl .u32 1 .i64 (k - 1) = pure (.int .u32 (Sr.bitN k : Nat)) := by
  unfold Op.shift
  rw [if_neg (by omega)]
  simp only [IntKind.bits]
  refine congrArg (fun z => pure (Value.int .u32 z)) ?_
  rw [IntKind.wrap_u32', Int.one_mul, u32_shl_one_var (k - 1) (by omega)]
  unfold Sr.bitN
  by_cases h : k ≤ 32
  · rw [if_neg (by omega), if_neg (by omega), if_pos h]; push_cast; rfl
  · rw [if_pos (by omega), if_neg (by omega), if_neg h]; rfl
theorem bit_test (n : Nat) (d : Int) (hd : 1 ≤ d) (hn : n < 4294967296) : (false || bits .and .u32 ((n : Int) / 2 ^ (d.toNat - 1)) 1 == 1) = (false || (true && n.testBit (d - 1).toNat)) := by
  rw [show (d - 1).toNat = d.toNat - 1 by omega]
  generalize d.toNat - 1 = j
  have e : (n : Int) / 2 ^ j = ((n / 2 ^ j : Nat) : Int) := by push_cast; rfl
  have hl : n / 2 ^ j < 4294967296 := Nat.lt_of_le_of_lt (Nat.div_le_self _ _) hn
  rw [e, show ((1 : Int)) = ((1 : Nat) : Int) from rfl, u32_and_nat _ _ hl (by decide), Bool.false_or, Bool.true_and, Bool.false_or, Nat.testBit, Nat.shiftRight_eq_div_pow, Bool.eq_iff_iff, Nat.and_comm]
  simp only [beq_iff_eq, bne_iff_ne, Nat.one_and_eq_mod_two]
  omega
set_option maxHeartbeats 400000 in
theorem serway_any (a b : Int) (w : World) :
    Calls Try.prog 10 #[.int .u16 a, .int .u16 b] w fun e w' => e = .returned (.int .i64 (Sr.way a b)) ∧ w = w' := by
  go_enter Try.func10, Try.ntmps10
  go_wp2
  go_ret
  exact ⟨ret_int (way_is a b), rfl⟩
set_option maxHeartbeats 400000 in
theorem refway_any (a b : Int) (ha : 0 ≤ a ∧ a ≤ 65535) (hb : 0 ≤ b ∧ b ≤ 65535) (w : World) :
    Calls Try.prog 11 #[.int .u16 a, .int .u16 b] w fun e w' => e = .returned (.int .i64 (Sr.way a b)) ∧ w = w' := by
  go_enter Try.func11, Try.ntmps11
  go_wp2
  all_goals
    go_ret
    exact ⟨ret_int (by unfold Sr.way; split <;> omega), rfl⟩
set_option maxHeartbeats 400000 in
theorem serahead_any (a b : Int) (w : World) :
    Calls Try.prog 12 #[.int .u16 a, .int .u16 b] w fun e w' => e = .returned (.bool (decide (0 < Sr.way b a))) ∧ w = w' := by
  have c1 := Lib.hid (serway_any b a w)
  generalize Sr.way b a = k at *
  go_enter Try.func12, Try.ntmps12
  go_wp2_with (go_at_call 10; ((with_reducible refine ((c1).out).mono ?_); rintro e w1 ⟨rfl, rfl⟩))
  go_ret
  exact ⟨rfl, rfl⟩
set_option maxHeartbeats 400000 in
theorem serbits_any (a : Int) (w : World) :
    Calls Try.prog 20 #[.int .u16 a] w fun e w' => e = .returned (.func (.func 22) #[] #[.pointer (some ⟨w.heap.size, 0, none⟩)]) ∧ w' = w.alloc (.cells #[.int .u16 a] 22) := by
  have hmf : ∀ (fn : Fn) (first cap : Array Value) (w : World), (Instr.makeFunc fn first cap).run Try.prog w = .ok (.func fn first cap) w := fun _ _ _ _ => rfl
  go_enter Try.func20, Try.ntmps20
  go_wp2
  go_ret
  exact ⟨rfl, rfl⟩
set_option maxHeartbeats 400000 in
theorem serbit_any (a s : Int) (B : Nat) (w : World) (hB : w.heap[B]? = some (.cells #[.int .u16 a] 22 (0, 0))) :
    Calls Try.prog 22 #[.int .u16 s, .pointer (some ⟨B, 0, none⟩)] w fun e w' => e = .returned (.int .u32 (Sr.bitN (Sr.way s a) : Nat)) ∧ w = w' := by
  have c0 := cell_of_one hB
  have c1 := Lib.hid (serway_any s a w)
  have hk := Sr.way_bd s a
  generalize Sr.way s a = k at *
  clear hB
  by_cases hk0 : k ≤ 0
  · have hr : Sr.bitN k = 0 := by unfold Sr.bitN; rw [if_pos hk0]
    rw [hr]
    go_enter Try.func22, Try.ntmps22
    go_wp2_with (go_at_call 10; ((with_reducible refine ((c1).out).mono ?_); rintro e w1 ⟨rfl, rfl⟩))
    go_ret
    exact ⟨rfl, rfl⟩
  · have hs := shift_bit k (by omega)
    generalize ((Sr.bitN k : Nat) : Int) = z at *
    go_enter Try.func22, Try.ntmps22
    go_wp2_with (go_at_call 10; ((with_reducible refine ((c1).out).mono ?_); rintro e w1 ⟨rfl, rfl⟩))
    go_ret
    exact ⟨rfl, rfl⟩
set_option maxHeartbeats 400000 in
theorem reftold_any (s a : Int) (n : Nat) (ha : 0 ≤ a ∧ a ≤ 65535) (hs : 0 ≤ s ∧ s ≤ 65535) (hn : n < 4294967296) (w : World) :
    Calls Try.prog 14 #[.int .u16 s, .int .u16 a, .int .u32 n] w fun e w' => e = .returned (.bool (Sr.told s a n)) ∧ w = w' := by
  have c1 := Lib.hid (refway_any a s ha hs w)
  have hk := Sr.way_bd a s
  have hb := Lib.hid (Sr.told_ref a s n ha hs)
  generalize Sr.way a s = k at *
  generalize Sr.told s a n = T at *
  go_enter Try.func14, Try.ntmps14
  go_wp2_with (go_at_call 11; ((with_reducible refine ((c1).out).mono ?_); rintro e w1 ⟨rfl, rfl⟩))
  all_goals
    go_ret
    refine ⟨ret_bool ?_, rfl⟩
    rw [hb.out]
    first
      | (rw [decide_eq_true (show -k = 0 by omega)]; rfl)
      | (rw [decide_eq_false (show ¬ -k = 0 by omega), show ((-k == 0) = false) from (by simpa using (by omega : ¬ (-k = 0))), decide_eq_true (show 1 ≤ -k ∧ -k ≤ 32 by omega)]; exact bit_test n (-k) (by omega) hn)
      | (rw [decide_eq_false (show ¬ -k = 0 by omega), show ((-k == 0) = false) from (by simpa using (by omega : ¬ (-k = 0))), decide_eq_false (show ¬ (1 ≤ -k ∧ -k ≤ 32) by omega)]; rfl)
end Go.Proofs.Ytgjkodbigdgdmaa
