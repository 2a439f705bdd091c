/-
A region that draws its order, in a round of a range over a function: what is walked plainly serves there.
-/
import Derived.OrdersIn
import Derived.RangeFuncCalls
import Derived.Test.YtbihnmingedgfaaRp
import Derived.Test.YtbihnmingedgfaaQx
namespace Rt
open Go Go.RowKit
set_option linter.unusedVariables false

def tame (o : Oper) : Bool := match o.op with | .defer .. => false | _ => true
theorem rows_in {n l : Nat} {P : Program} {row : String} {args : Array Value} {w : World} {R : Value → World → Prop} (h : Rows P row args w R) : RowsIn (Fence.wide.inRound l) n P row args w R :=
  fun c cs _ => let ⟨v, w', r, s⟩ := h c cs; ⟨v, w', r, stepsIn_wide.2 s⟩
theorem oper_in {n l : Nat} {P : Program} {o : Oper} {a : Act} {w : World} {K : Act → World → Prop} {Q : Exit → Act → World → Prop} (ht : tame o = true) (h : o.wp P a w K Q) : o.wpIn (Fence.wide.inRound l) n P a w K Q := by
  refine ⟨fun _ _ => trivial, ?_⟩
  rw [Oper.semAt_eq _ _ _ (fun c e => by unfold tame at ht; rw [e] at ht; cases ht)]
  unfold Oper.wp at h
  generalize (execOp a.eval o).run P w = r at *
  cases r with
  | ok x w' =>
    cases x <;> simp only [Oper.upon] at h <;> simp only [Oper.uponIn]
    case value => exact h
    case skip => exact h
    case defer => exact h
    case enter => exact ⟨fun e => (by cases e), (callsIn_wide.2 h).inRound l⟩
    case row => exact ⟨fun e => (by cases e), rows_in h⟩
  | halt x w' => cases x <;> simp only [Oper.upon] at h <;> simp only [Oper.uponIn] <;> exact h
theorem op_in {n l : Nat} {P : Program} {ops : Array Oper} {i : Nat} {a : Act} {w : World} {K : Act → World → Prop} {Q : Exit → Act → World → Prop} (ht : ops.all tame = true) (hQ : ¬ LetsOut Q) (h : wpOp P ops Q i K a w) : wpOpIn (Fence.wide.inRound l) n P ops Q i K a w := by
  unfold wpOp at h
  unfold wpOpIn
  split
  · rename_i e; simp only [e] at h; exact h
  · rename_i o e
    simp only [e] at h
    have hto : tame o = true := Array.all_eq_true_iff_forall_mem.1 ht o (Array.mem_of_getElem? e)
    split
    · rename_i hw
      simp only [hw, if_true] at h
      rcases h with h | h
      · exact oper_in hto h
      · exact absurd h.2 hQ
    · rename_i hw
      simp only [hw] at h
      exact ⟨fun _ _ => trivial, h⟩
theorem any_in {n l : Nat} {P : Program} {ops : Array Oper} {Q : Exit → Act → World → Prop} (ht : ops.all tame = true) (hQ : ¬ LetsOut Q) : ∀ (fuel : Nat) (listed : Array Bool) (a : Act) (w : World), wpAny P .any ops Q fuel listed a w → wpAnyIn (Fence.wide.inRound l) n P .any ops Q fuel listed a w
  | 0, _, _, _, h => h
  | fuel + 1, listed, a, w, h => ⟨h.1, fun i hi => wpOpIn_mono (fun a' w' h' => any_in ht hQ fuel _ a' w' h') (op_in ht hQ (h.2 i hi))⟩

theorem region_lex {n l id : Nat} {P : Program} {ops : List Oper} {a : Act} {w : World} {Q : Exit → Act → World → Prop} (hm : P.follows .mixedOrders = true) (ht : ops.toArray.all tame = true) (st : List Nat) (hB : Rp.okB st ops = true) (hQ : ¬ LetsOut Q) (C0 D0 E : World → Prop) (hC : C0 w.drew) (hCD : ∀ w, C0 w → D0 w ∧ E w)
    (h : Rp.wpLex P st E (fun a' C' => ∀ w', C' w' → Q .normal a' w') ops 0 a C0 D0) : (Code.region id ops.toArray true).wpIn (Fence.wide.inRound l) n P Q a w :=
  wpIn_region_any hm (any_in ht hQ _ _ _ _ (Rp.any_of_lex hB C0 D0 hC hCD h))
theorem region_ext {n l id : Nat} {P : Program} {ops : List Oper} {a : Act} {w : World} {Q : Exit → Act → World → Prop} (B : Nat) (W : World) (hm : P.follows .mixedOrders = true) (ht : ops.toArray.all tame = true) (hB : Region.lexB .any ops.toArray = true) (hQ : ¬ LetsOut Q) (hC : Below B W w)
    (h : wpQuiet P ops.toArray (fun w' => ∃ q : Ext B W, w' = q.w) (fun a' => ∀ w', (∃ q : Ext B W, w' = q.w) → Q .normal a' w') ops a) : (Code.region id ops.toArray true).wpIn (Fence.wide.inRound l) n P Q a w := by
  refine wpIn_region_any hm (any_in ht hQ _ _ _ _ ?_)
  simp only [Region.lexB, Bool.and_eq_true] at hB
  refine wpAny_of_quiet (C := fun w' => ∃ q : Ext B W, w' = q.w) (Q := fun a' => ∀ w', (∃ q : Ext B W, w' = q.w) → Q .normal a' w') (fun _ w' hw' h => h w' hw') _ _ _ _ ⟨⟨_, hC.drew⟩, rfl⟩ ?_
  have := wpAnyQ_lex (C := fun w' => ∃ q : Ext B W, w' = q.w) (md := .any) hB.1 ops.toArray.toList 0 (Array.replicate ops.toArray.size false) a (by simp) (by simpa using hB.2) (by simpa using h)
  simpa using this
end Rt
