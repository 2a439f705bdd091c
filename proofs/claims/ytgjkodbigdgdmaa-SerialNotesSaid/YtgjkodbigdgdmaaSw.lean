/-
Package serial: what came is noted.
-/
import Derived.Test.YtgjkodbigdgdmaaSv
import Derived.Test.YtgjkodbigdgdmaaRy
import Derived.Deep.CutRange
import Derived.Deep.CutBlock
import Derived.Deep.DeepCutAuto
import Derived.Deep.RegionWith
import Derived.BigQuiet
import Derived.Deep.QuietTactic
namespace Sr
open Go
def H.cells (h : H) : Array Value := #[.bool h.some, .int .u16 h.last, .int .u32 (h.seen : Nat)]
end Sr
namespace Go.Proofs.Ytgjkodbigdgdmaa
open Go.RowKit
set_option linter.unusedVariables false

/-- All that was there stays, but block B. -/
structure Only (B : Nat) (w w' : World) : Prop where
  os : w'.os = w.os
  tape : w'.tape = w.tape
  output : w'.output = w.output
  size : w.heap.size ≤ w'.heap.size
  block : ∀ k, k < w.heap.size → k ≠ B → w'.heap[k]? = w.heap[k]?
section
variable {B : Nat} {w w' w'' : World}
theorem Only.refl (B : Nat) (w : World) : Only B w w := ⟨rfl, rfl, rfl, Nat.le_refl _, fun _ _ _ => rfl⟩
theorem Only.trans (h : Only B w w') (h' : Only B w' w'') : Only B w w'' :=
  ⟨h'.os.trans h.os, h'.tape.trans h.tape, h'.output.trans h.output, Nat.le_trans h.size h'.size, fun k hk hB => (h'.block k (Nat.lt_of_lt_of_le hk h.size) hB).trans (h.block k hk hB)⟩
theorem Only.of_below (h : Below w.heap.size w w') : Only B w w' := ⟨h.os, h.tape, h.output, h.size, fun k hk _ => h.block k hk⟩
theorem Only.set (w : World) (i : Nat) (u : Value) : Only B w (w.setCell ⟨B, i, none⟩ u) := by
  have h := (Below.refl B w).setCell (p := ⟨B, i, none⟩) (Nat.le_refl _) u
  exact ⟨h.os, h.tape, h.output, h.size, fun k hk hB => Below.heap_setCell w _ u k hB⟩
theorem Only.below {n : Nat} (h : Only B w w') (hn : n ≤ B) (hs : n ≤ w.heap.size) : Below n w w' := ⟨h.os, h.tape, h.output, h.size, fun k hk => h.block k (by omega) (by omega)⟩
theorem Only.box {g : Nat} {t : TypeId} {cs : Array Value} (h : Only B w w') (hb : Box w g t cs) (hg : g ≠ B) : Box w' g t cs := ⟨(h.block g hb.lt hg).trans hb.is⟩
end

theorem shift_up (n : Nat) (d : Int) (hd : 0 < d) : Op.shift .shl .u32 (n : Int) .i64 d = pure (.int .u32 ((n * 2 ^ d.toNat % 4294967296 : Nat) : Int)) := by
  unfold Op.shift
  rw [if_neg (by omega)]
  simp only [IntKind.bits]
  refine congrArg (fun z => pure (Value.int .u32 z)) ?_
  rw [IntKind.wrap_u32']
  by_cases h : d.toNat ≤ 32
  · rw [show min d.toNat 32 = d.toNat by omega, Int.natCast_emod, Int.natCast_mul, Int.natCast_pow]; rfl
  · have h1 : n * 2 ^ d.toNat % 4294967296 = 0 := by
      rw [show d.toNat = (d.toNat - 32) + 32 by omega, Nat.pow_add, ← Nat.mul_assoc]
      exact Nat.mul_mod_left _ _
    have h2 : (n : Int) * 2 ^ 32 % 4294967296 = 0 := Int.mul_emod_left _ _
    rw [show min d.toNat 32 = 32 by omega, h1, h2]; rfl

set_option maxHeartbeats 400000 in
theorem sertold_any (s a : Int) (n : Nat) (hn : n < 4294967296) (w : World) :
    Calls Try.prog 13 #[.int .u16 s, .int .u16 a, .int .u32 n] w fun e w' => e = .returned (.bool (Sr.told s a n)) ∧ Below w.heap.size w w' := by
  have c1 := fun X => Lib.hid (serbits_any a X)
  have c2 := Lib.hid (serbit_any a s w.heap.size (w.alloc (.cells #[.int .u16 a] 22)) (heap_alloc_new w _))
  have hand := u32_and_nat n (Sr.bitN (Sr.way s a)) hn (Sr.bitN_lt _)
  have hs := Lib.hid (Sr.has_and n (Sr.way s a))
  have hb := Lib.hid (one_below w (.cells #[.int .u16 a] 22))
  unfold Sr.told
  generalize Sr.has n (Sr.way s a) = T at *
  generalize hX : n &&& Sr.bitN (Sr.way s a) = X at *
  clear hX
  generalize Sr.bitN (Sr.way s a) = Z at *
  by_cases h : s = a
  · rw [decide_eq_true h]
    have hbq : (s == a) = true := by simpa using h
    clear h
    go_enter Try.func13, Try.ntmps13
    go_wp2_with (first | (go_at_call 20; ((with_reducible refine ((c1 _).out).mono ?_); rintro e w1 ⟨rfl, rfl⟩)) | (go_at_call 22; ((with_reducible refine ((c2).out).mono ?_); rintro e w1 ⟨rfl, rfl⟩)))
    all_goals
      go_ret
      exact ⟨ret_bool (by simp), Below.refl _ _⟩
  · rw [decide_eq_false h, Bool.false_or]
    have hbq : (s == a) = false := by simpa using h
    clear h
    go_enter Try.func13, Try.ntmps13
    go_wp2_with (first | (go_at_call 20; ((with_reducible refine ((c1 _).out).mono ?_); rintro e w1 ⟨rfl, rfl⟩)) | (go_at_call 22; ((with_reducible refine ((c2).out).mono ?_); rintro e w1 ⟨rfl, rfl⟩)))
    all_goals
      go_ret
      exact ⟨ret_bool (by rw [← hs.out, Bool.eq_iff_iff]; simp), hb.out⟩

set_option maxHeartbeats 400000 in
theorem sernew_any (w : World) :
    Calls Try.prog 15 #[] w fun e w' => e = .returned (.pointer (some ⟨w.heap.size, 0, none⟩)) ∧ w' = w.alloc (.cells Sr.none.cells 48) := by
  go_enter Try.func15, Try.ntmps15
  go_wp2
  go_ret
  exact ⟨rfl, rfl⟩

set_option maxHeartbeats 400000 in
theorem serlast_any (h : Sr.H) (B : Nat) (w : World) (hB : Box w B 48 h.cells) :
    Calls Try.prog 18 #[.pointer (some ⟨B, 0, none⟩)] w fun e w' => e = .returned (.tuple #[.int .u16 h.last, .int .u32 (h.seen : Nat)]) ∧ Below w.heap.size w w' := by
  have q1 : w.cell? ⟨B, 1, none⟩ = some (.int .u16 h.last) := hB.cell 1
  have q2 : w.cell? ⟨B, 2, none⟩ = some (.int .u32 (h.seen : Nat)) := hB.cell 2
  obtain ⟨so, la, se⟩ := h
  dsimp only at q1 q2 ⊢
  go_enter Try.func18, Try.ntmps18
  go_upto_region 3 with fail
  go_quiet (fail)
  all_goals
    go_wp2
    go_ret2
    exact ⟨rfl, draws_below (Below.refl _ _) _⟩
set_option maxHeartbeats 400000 in
theorem serlast_nil (w : World) :
    Calls Try.prog 18 #[.pointer none] w fun e w' => e = .returned (.tuple #[.int .u16 0, .int .u32 0]) ∧ w = w' := by
  go_enter Try.func18, Try.ntmps18
  go_wp2
  go_ret2
  exact ⟨rfl, rfl⟩
end Go.Proofs.Ytgjkodbigdgdmaa
