/-
Inputs of a list, eight inputs in a block: for the walks of laws over a list of inputs.
-/
import Derived.Test.YtbihnmingedgfaaLd
import Derived.Test.YtbihnmingedgfaaPl
namespace Go.Proofs.Ytbihnmingedgfaa
open Go.RowKit Go.Shelf
set_option linter.unusedVariables false

theorem getD_ty {l : List Gm.In} (h : ∀ x ∈ l, Gm.tyIn x) (k : Nat) : Gm.tyIn (l.getD k ⟨0, 0, 0⟩) := by
  by_cases hk : k < l.length
  · rw [List.getD_eq_getElem?_getD, List.getElem?_eq_getElem hk]; exact h _ (List.getElem_mem hk)
  · rw [List.getD_eq_getElem?_getD, List.getElem?_eq_none (by omega)]; exact ⟨by decide, by decide, by decide⟩
/-- An input's cells, by its place. -/
theorem ins_at' {w : World} {B : Nat} {ad : Addr} {l : List Gm.In} (h : Lies w B 3 (some ad) l.length (Gm.inCells l)) (k : Nat) (hk : k < l.length) :
    w.cell? (ad.add (k * 3)) = some (.int .i8 (l.getD k ⟨0, 0, 0⟩).x) ∧ w.cell? ⟨(ad.add (k * 3)).block, (ad.add (k * 3)).off + 1, none⟩ = some (.int .i8 (l.getD k ⟨0, 0, 0⟩).y) ∧
      w.cell? ⟨(ad.add (k * 3)).block, (ad.add (k * 3)).off + 2, none⟩ = some (.int .u8 (l.getD k ⟨0, 0, 0⟩).b) := by
  have e : l.getD k ⟨0, 0, 0⟩ = l[k] := by rw [List.getD_eq_getElem?_getD, List.getElem?_eq_getElem hk]; rfl
  rw [e]; exact ins_at h rfl k hk

theorem kdrew {v w : World} (h : Kept v w) : Kept v w.drew := Below.drew h
theorem ins_info : (Try.prog.info? 38).map (·.size) = some 24 := by kernel_rfl
theorem ins_zero : (Try.prog.info? 38).map (·.zero) = some (some (.agg (Gm.insCells noIn).toArray)) := by kernel_rfl

/-- What a load of eight inputs wants. -/
def LoadIns (ops : Array Oper) (Q : Exit → Act → World → Prop) (rest : List Oper) (dst : Option Tmp) (p : Value) (a : Act) (w : World) : Prop :=
  ∃ (B : Nat) (ps : Nat → Gm.In), p = .pointer (some ⟨B, 0, none⟩) ∧ Box w B 38 (Gm.insCells ps).toArray ∧ wpList Try.prog ops Q rest (a.put dst (.agg (Gm.insCells ps).toArray)) w
theorem LoadIns.mk {ops : Array Oper} {Q : Exit → Act → World → Prop} {rest : List Oper} {a : Act} {w : World} {dst : Option Tmp} {p : Value} {B : Nat} {ps : Nat → Gm.In} (hp : p = .pointer (some ⟨B, 0, none⟩)) (hB : Box w B 38 (Gm.insCells ps).toArray) (h : wpList Try.prog ops Q rest (a.put dst (.agg (Gm.insCells ps).toArray)) w) : LoadIns ops Q rest dst p a w := ⟨B, ps, hp, hB, h⟩
theorem ins_gate {ops : Array Oper} {Q : Exit → Act → World → Prop} {rest : List Oper} {o : Oper} {a : Act} {w : World} {x : Operand} (hgd : o.guard = none) (ho : o.op = .load 38 x) (h : LoadIns ops Q rest o.dst (a.eval x) a w) : wpList Try.prog ops Q (o :: rest) a w := by
  obtain ⟨B, ps, hx, hB, h⟩ := h
  exact wpList_load_blk hgd ho hx hB Try.underlying38 rfl ins_info h

end Go.Proofs.Ytbihnmingedgfaa
