/-
What 'x, e := f(..)' leaves, one by one, in a region that draws its order, where x is a struct without lists.
-/
import Derived.Test.YtbpipkcdbcfenaaTd
namespace Go.Proofs.Ytbpipkcdbcfenaa
open Go.RowKit
set_option linter.unusedVariables false

/-- The call, its tuple, the struct, the code, x's block, the struct in it. -/
def madeV (t : TypeId) (cs : Array Value) (code : Int) (b : Nat) (k : Nat) (vm : Nat → Value) (w : World) : Prop :=
  match k with
  | 0 => vm 0 = .tuple #[.agg cs, .int .i64 code]
  | 1 => vm 1 = .tuple #[.agg cs, .int .i64 code]
  | 2 => vm 2 = .agg cs
  | 3 => vm 3 = .int .i64 code
  | 4 => ∃ B old, vm 4 = .pointer (some ⟨B, 0, none⟩) ∧ b ≤ B ∧ Box w B t old ∧ old.size = cs.size
  | _ => ∃ B, vm 4 = .pointer (some ⟨B, 0, none⟩) ∧ b ≤ B ∧ Box w B t cs
section
variable {t : TypeId} {cs : Array Value} {code : Int} {b k : Nat} {vm vm' : Nat → Value} {w w' : World}
theorem madeV_below (h : madeV t cs code b k vm w) (hb : Below w.heap.size w w') : madeV t cs code b k vm w' := by
  match k, h with
  | 0, h => exact h
  | 1, h => exact h
  | 2, h => exact h
  | 3, h => exact h
  | 4, ⟨B, old, e, hb', hB, hs⟩ => exact ⟨B, old, e, hb', hB.below hb hB.lt, hs⟩
  | k + 5, ⟨B, e, hb', hB⟩ => exact ⟨B, e, hb', hB.below hb hB.lt⟩
theorem madeV_row {B : Nat} {old : Array Value} (h : madeV t cs code b k vm w) (hk : k < 5) (h4 : vm 4 = .pointer (some ⟨B, 0, none⟩)) (hB : Box w B t old) : madeV t cs code b k vm (w.setRow B cs) := by
  match k, h with
  | 0, h => exact h
  | 1, h => exact h
  | 2, h => exact h
  | 3, h => exact h
  | 4, ⟨B', old', e, hb', hB', hs⟩ =>
    have eb : B' = B := by rw [e] at h4; injection h4 with h4; injection h4 with h4; injection h4
    subst eb
    exact ⟨B', cs, e, hb', hB'.row _, rfl⟩
theorem madeV_congr (h : madeV t cs code b k vm w) (hk : k < 6) (h0 : vm k = vm' k) (h4 : k = 5 → vm 4 = vm' 4) : madeV t cs code b k vm' w := by
  match k, hk, h with
  | 0, _, h => exact h0.symm.trans h
  | 1, _, h => exact h0.symm.trans h
  | 2, _, h => exact h0.symm.trans h
  | 3, _, h => exact h0.symm.trans h
  | 4, _, ⟨B, old, e, hb', hB, hs⟩ => exact ⟨B, old, h0 ▸ e, hb', hB, hs⟩
  | 5, _, ⟨B, e, hb', hB⟩ => exact ⟨B, (h4 rfl) ▸ e, hb', hB⟩
end
theorem exec_alloc_z {P : Program} {o : Oper} {a : Act} {w : World} {t : TypeId} {z : Value} {cs : Array Value} (ho : o.op = .alloc t) (hz : (P.info? t).map (·.zero) = some (some z)) (hc : z.cells = cs) :
    (execOp a.eval o).run P w = .ok (.value (.pointer (some ⟨w.heap.size, 0, none⟩))) (w.alloc (.cells cs t)) := by
  have hz' : (zeroValue t).run P w = .ok z w := by
    cases hq : P.info? t with
    | none => simp [hq] at hz
    | some i => simp [hq] at hz; simp [zeroValue, typeInfo, hq, hz]
  subst hc
  unfold execOp
  simp only [ho, Instr.alloc, Sem.run_bind, hz', Result.andThen_ok]
  rfl
theorem exec_store_blk {P : Program} {o : Oper} {a : Act} {w : World} {x y : Operand} {B : Nat} {t : TypeId} {cs old : Array Value} (ho : o.op = .store t x y) (hx : a.eval x = .pointer (some ⟨B, 0, none⟩)) (hy : a.eval y = .agg cs) (hB : Box w B t old) (hi : (P.info? t).map (·.size) = some cs.size) (hs : old.size = cs.size) (h1 : cs.all (·.oneCell') = true) :
    (execOp a.eval o).run P w = .ok .skip (w.setRow B cs) := by
  have hs := run_storeVar_row (P := P) w B t t old cs hB.is hi hs h1
  unfold execOp
  simp only [ho, hx, hy, Instr.storeAt, Instr.sureAddr, Sem.run_bind, Sem.run_pure, Result.andThen_ok, hs]
theorem exec_load_ros {o : Oper} {a : Act} {w : World} {x : Operand} {B : Nat} {r : Ros.R} (ho : o.op = .load 51 x) (hx : a.eval x = .pointer (some ⟨B, 0, none⟩)) (hB : Box w B 51 (Ros.cells r)) :
    (execOp a.eval o).run Try.prog w = .ok (.value (.agg (Ros.cells r))) w := exec_load_blk ho hx hB Try.underlying51 rfl ros_info
end Go.Proofs.Ytbpipkcdbcfenaa
