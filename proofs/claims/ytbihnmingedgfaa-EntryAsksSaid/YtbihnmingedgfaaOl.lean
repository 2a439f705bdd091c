/-
A struct that lies anywhere is loaded whole.
-/
import Derived.Test.YtbihnmingedgfaaOw
import Derived.Deep.MidRow
namespace Go.Proofs.Ytbihnmingedgfaa
open Go.RowKit
set_option linter.unusedVariables false

section
variable {P : Program} {ops : Array Oper} {rest : List Oper} {o : Oper} {a : Act} {w : World} {Q : Exit → Act → World → Prop}
theorem run_loadVar_any (w : World) (ad : Addr) (ty : TypeId) (cs : List Value) (d : TypeDesc) (hc : ∀ j v, cs[j]? = some v → w.cell? (ad.add j) = some v)
    (hu : P.underlying ty = some d) (hd : d.isRow = true) (hi : (P.info? ty).map (·.size) = some cs.length) :
    (loadVar ty ad).run P w = .ok (.agg cs.toArray) w := by
  have hl : (loadCells ad cs.length).run P w = .ok cs.toArray w := run_loadCells_list (P := P) w ad cs hc
  cases hq : P.info? ty with
  | none => simp [hq] at hi
  | some i =>
    have hs : i.size = cs.length := by simpa [hq] using hi
    have hagg : (isAgg ty).run P w = .ok true w := by
      unfold isAgg
      rw [Sem.run_bind, run_underlying hu w]
      cases d <;> simp_all
    simp [loadVar, Sem.run_bind, hagg, sizeOf, typeInfo, hq, hs, hl]
/-- What the load of a struct at an address wants. -/
def LoadAt (P : Program) (ops : Array Oper) (Q : Exit → Act → World → Prop) (rest : List Oper) (dst : Option Tmp) (p : Value) (size : Nat) (a : Act) (w : World) : Prop :=
  ∃ (ad : Addr) (cs : List Value), p = .pointer (some ad) ∧ (∀ j v, cs[j]? = some v → w.cell? (ad.add j) = some v) ∧ cs.length = size ∧ wpList P ops Q rest (a.put dst (.agg cs.toArray)) w
theorem LoadAt.mk {dst : Option Tmp} {p : Value} {size : Nat} {ad : Addr} {cs : List Value} (hp : p = .pointer (some ad)) (hc : ∀ j v, cs[j]? = some v → w.cell? (ad.add j) = some v) (hs : cs.length = size) (h : wpList P ops Q rest (a.put dst (.agg cs.toArray)) w) : LoadAt P ops Q rest dst p size a w := ⟨ad, cs, hp, hc, hs, h⟩
theorem load_at_gate {ty : TypeId} {x : Operand} {size : Nat} {d : TypeDesc} (hgd : o.guard = none) (ho : o.op = .load ty x) (hu : P.underlying ty = some d) (hd : d.isRow = true) (hi : (P.info? ty).map (·.size) = some size) (h : LoadAt P ops Q rest o.dst (a.eval x) size a w) : wpList P ops Q (o :: rest) a w := by
  obtain ⟨ad, cs, hx, hc, hs, h⟩ := h
  refine wpList_plain hgd fun _ hK => ?_
  unfold Oper.wp execOp
  simp only [ho, hx, Instr.loadAt, Instr.sureAddr, Sem.run_bind, Sem.run_pure, Result.andThen_ok, run_loadVar_any w ad ty cs d hc hu hd (by rw [hi, hs])]
  exact hK _ _ h
theorem load_at_gate_g {ty : TypeId} {x : Operand} {size : Nat} {d : TypeDesc} (hw : Region.wanted o (yielded ops a.tmps) = true) (ho : o.op = .load ty x) (hu : P.underlying ty = some d) (hd : d.isRow = true) (hi : (P.info? ty).map (·.size) = some size) (h : LoadAt P ops Q rest o.dst (a.eval x) size a w) : wpList P ops Q (o :: rest) a w := by
  obtain ⟨ad, cs, hx, hc, hs, h⟩ := h
  refine wpList_step fun K hK => ?_
  rw [if_pos hw]
  unfold Oper.wp execOp
  simp only [ho, hx, Instr.loadAt, Instr.sureAddr, Sem.run_bind, Sem.run_pure, Result.andThen_ok, run_loadVar_any w ad ty cs d hc hu hd (by rw [hi, hs])]
  exact hK _ _ h
theorem exec_load_any {x : Operand} {ty : TypeId} {ad : Addr} {cs : List Value} {d : TypeDesc} (ho : o.op = .load ty x) (hx : a.eval x = .pointer (some ad)) (hc : ∀ j v, cs[j]? = some v → w.cell? (ad.add j) = some v) (hu : P.underlying ty = some d) (hd : d.isRow = true) (hi : (P.info? ty).map (·.size) = some cs.length) :
    (execOp a.eval o).run P w = .ok (.value (.agg cs.toArray)) w := by
  unfold execOp
  simp only [ho, hx, Instr.loadAt, Instr.sureAddr, Sem.run_bind, Sem.run_pure, Result.andThen_ok, run_loadVar_any w ad ty cs d hc hu hd hi]
end
/-- The first n of a slice. -/
theorem run_slice_to {P : Program} {t e : TypeId} {sz : Nat} (a : Option Addr) (len cap n : Nat) (hu : P.underlying t = some (.slice e)) (hs : (P.info? e).map (·.size) = some sz) (h : n ≤ cap) (w : World) :
    (Instr.slice t (.slice a len cap) none (some (.int .i64 (n : Int))) none).run P w = .ok (.slice a n cap) w := by
  have h0 : (0 : Int) ≤ n := by omega
  have h1 : (n : Int) ≤ cap := by omega
  cases hq : P.info? e with
  | none => simp [hq] at hs
  | some i =>
    have ea : (if cap = 0 then a else a.map fun x => x.add 0) = a := by
      split
      · rfl
      · cases a
        · rfl
        · simp [Addr.add]
    simp [Instr.slice, run_underlying hu, Instr.sliceBounds, Instr.sliceBound, asIntOf, sizeOf, typeInfo, hq, h, Addr.add]
end Go.Proofs.Ytbihnmingedgfaa
