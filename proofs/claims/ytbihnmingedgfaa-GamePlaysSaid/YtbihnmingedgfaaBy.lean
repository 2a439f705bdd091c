/-
Boxes turned, results handed back, regions that draw their order, rows compared.
-/
import Derived.Test.YtbihnmingedgfaaMv
import Derived.Test.YtbihnmingedgfaaRz
import Derived.Deep.WholeRow
import Derived.RangeFuncNested
import Derived.RangeFuncBound
import Derived.RangeFuncCalls
import Derived.RangeFuncLeaves
import Derived.Shelf.Abstract
import Derived.Shelf.RegionOpen
import Derived.Laws.StructEq
import Derived.ChangeKeysEq
import Derived.Deep.CutRange
import Derived.Deep.CutBlock
import Derived.Deep.DeepCutAuto
import Derived.Deep.LoopGhost
import Derived.WalkKit
import Derived.LoopTactic
import Derived.Outline
import Derived.BigQuiet
import Derived.OwnWalkIn
import Derived.TacticsInMore
import Derived.LoopNIn
import Derived.LoopIn
namespace Go.Proofs.Ytbihnmingedgfaa
open Go.RowKit
set_option linter.unusedVariables false

/-- A struct and one more slot, handed back. -/
theorem results_cell_tmp {P : Program} {fn : Func} {p q : Tmp} {ty : TypeId} (h : fn.results = #[.cell p ty, .tmp q]) (tmps : Array Value) (w : World) (g : Nat) (t : TypeId) (cs : Array Value) (d : TypeDesc)
    (hp : tmps.getD p undef = .pointer (some ⟨g, 0, none⟩)) (hg : Box w g t cs) (hu : P.underlying ty = some d) (hd : d.isRow = true) (hi : (P.info? ty).map (·.size) = some cs.size) :
    (results fn tmps).run P w = .ok (.tuple #[.agg cs, tmps.getD q undef]) w := by
  have hp' : tmps[p]?.getD undef = .pointer (some ⟨g, 0, none⟩) := by simpa using hp
  have hl := run_loadVar_row (P := P) w g t ty cs (0, 0) d hg.is hu (by cases d <;> first | rfl | cases hd) hi
  simp [results, h, hp', asAddr, hl]

theorem row_no {W : World} {B : Nat} {t : TypeId} {cs : Array Value} {row : Option Nat} (h : Box W B t cs) (hr : ∀ r, row = some r → ∃ o : Obj, W.heap[r]? = some o ∧ o.isCells = false) : row ≠ some B := fun e => by
  obtain ⟨o, ho, hc⟩ := hr B e
  rw [h.is] at ho
  injection ho with ho
  subst ho
  cases hc
theorem Box.turned {W W' : World} {B : Nat} {t : TypeId} {cs : Array Value} {row : Option Nat} (h : Box W B t cs) (hg : W.grownBy W' row) (hr : ∀ r, row = some r → ∃ o : Obj, W.heap[r]? = some o ∧ o.isCells = false) : Box W' B t cs :=
  h.grown hg (row_no h hr)
theorem below_others {W W' : World} (h : Below W.heap.size W W') : KeepsOthers W W' := ⟨h.size, fun k o hk _ => (h.block k (Array.getElem?_eq_some_iff.1 hk).1).trans hk⟩
theorem others_kept {W W' : World} {D : Nat} (h : KeepsOthers W W') (hD : W.heap[D]? = some (.deferred (some []))) : W'.heap[D]? = some (.deferred (some [])) := h.same D _ hD rfl
theorem exec_load_blk {P : Program} {o : Oper} {a : Act} {w : World} {ty : TypeId} {x : Operand} {g : Nat} {t : TypeId} {cs : Array Value} {d : TypeDesc} (ho : o.op = .load ty x) (hx : a.eval x = .pointer (some ⟨g, 0, none⟩)) (hg : Box w g t cs) (hu : P.underlying ty = some d) (hd : d.isRow = true) (hi : (P.info? ty).map (·.size) = some cs.size) :
    (execOp a.eval o).run P w = .ok (.value (.agg cs)) w := by
  have hl := run_loadVar_row (P := P) w g t ty cs (0, 0) d hg.is hu (by cases d <;> first | rfl | cases hd) hi
  unfold execOp
  simp only [ho, hx, Instr.loadAt, Instr.sureAddr, Sem.run_bind, Sem.run_pure, Result.andThen_ok, hl]
theorem gives_call {P : Program} {o : Oper} {a : Act} {w : World} {R : Value → World → Prop} {f : FuncId} {args : Array Value} (hrun : (execOp a.eval o).run P w = .ok (.enter f args) w) (hc : Calls P f args w fun e w' => ∃ v, e = .returned v ∧ R v w') : Rz.Gives P o a w R := by
  exact ⟨by unfold Rz.gives; rw [hrun]; exact hc⟩
theorem gives_val {P : Program} {o : Oper} {a : Act} {w w' : World} {R : Value → World → Prop} {v : Value} (hrun : (execOp a.eval o).run P w = .ok (.value v) w') (h : R v w') : Rz.Gives P o a w R := by
  exact ⟨by unfold Rz.gives; rw [hrun]; exact h⟩
theorem gives_skip {P : Program} {o : Oper} {a : Act} {w w' : World} {R : Value → World → Prop} (hrun : (execOp a.eval o).run P w = .ok .skip w') (h : R undef w') : Rz.Gives P o a w R := by
  exact ⟨by unfold Rz.gives; rw [hrun]; exact h⟩
theorem run_eqItems_all {P : Program} (w : World) (d : Nat) (e : TypeId) (c : Nat) (xs ys : Array Value) (A B : Nat → Value) (E : Nat → Bool) : ∀ (is : List Nat),
    (∀ i ∈ is, (part e xs (i * c)).run P w = .ok (A i) w ∧ (part e ys (i * c)).run P w = .ok (B i) w ∧ (Op.equalIn d e (A i) (B i)).run P w = .ok (E i) w) →
    (Op.eqItems d e c xs ys is).run P w = .ok (is.all E) w
  | [], _ => by simp [Op.eqItems]
  | i :: is, h => by
    obtain ⟨h1, h2, h3⟩ := h i (by simp)
    have ih := run_eqItems_all w d e c xs ys A B E is (fun j hj => h j (by simp [hj]))
    simp only [Op.eqItems, Sem.run_bind, h1, h2, h3, Result.andThen_ok, List.all_cons]
    cases E i
    · simp
    · simpa using ih

end Go.Proofs.Ytbihnmingedgfaa
