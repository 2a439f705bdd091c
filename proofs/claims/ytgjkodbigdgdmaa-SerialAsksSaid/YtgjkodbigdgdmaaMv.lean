/-
Laws for structs and arrays that are loaded and stored whole, whatever their size, where the block is known whole.
-/
import Derived.Test.YtgjkodbigdgdmaaMw
import Derived.Deep.WholeRow
namespace Go.Proofs.Ytgjkodbigdgdmaa
open Go.RowKit
set_option linter.unusedVariables false

section
variable {P : Program} {ops : Array Oper} {rest : List Oper} {o : Oper} {a : Act} {w : World} {Q : Exit → Act → World → Prop}

/-- A row or a struct that lies in a block that is known whole. -/
theorem Box.range {g : Nat} {t : TypeId} {cs : Array Value} (h : Box w g t cs) (o : Nat) (l : List Value) (hl : ∀ j v, l[j]? = some v → cs[o + j]? = some v) : w.rangeAt g o l :=
  fun j v hv => (h.cell _).trans (hl j v hv)
/-- The block is loaded whole. -/
theorem wpList_load_blk (hgd : o.guard = none) {ty : TypeId} {x : Operand} (ho : o.op = .load ty x) {g : Nat} (hx : a.eval x = .pointer (some ⟨g, 0, none⟩)) {t : TypeId} {cs : Array Value} (hg : Box w g t cs)
    {d : TypeDesc} (hu : P.underlying ty = some d) (hd : d.isRow = true) (hi : (P.info? ty).map (·.size) = some cs.size) (h : wpList P ops Q rest (a.put o.dst (.agg cs)) w) : wpList P ops Q (o :: rest) a w :=
  wpList_load_row hgd ty x ho g hx t cs (0, 0) d hg.is hu (by cases d <;> first | rfl | cases hd) hi h
/-- A part of the block is loaded. -/
theorem wpList_load_part (hgd : o.guard = none) {ty : TypeId} {x : Operand} (ho : o.op = .load ty x) {g f : Nat} (hx : a.eval x = .pointer (some ⟨g, f, none⟩)) {t : TypeId} {cs : Array Value} (hg : Box w g t cs)
    (l : List Value) (hl : ∀ j v, l[j]? = some v → cs[f + j]? = some v) {d : TypeDesc} (hu : P.underlying ty = some d) (hd : d.isRow = true) (hi : (P.info? ty).map (·.size) = some l.length)
    (h : wpList P ops Q rest (a.put o.dst (.agg l.toArray)) w) : wpList P ops Q (o :: rest) a w :=
  wpList_load_mid hgd ty x ho g f hx l d (hg.range f l hl) hu hd hi h
/-- The same under a guard that says yes. -/
theorem wpList_load_part_g (hw : Region.wanted o (yielded ops a.tmps) = true) {ty : TypeId} {x : Operand} (ho : o.op = .load ty x) {g f : Nat} (hx : a.eval x = .pointer (some ⟨g, f, none⟩)) {t : TypeId} {cs : Array Value} (hg : Box w g t cs)
    (l : List Value) (hl : ∀ j v, l[j]? = some v → cs[f + j]? = some v) {d : TypeDesc} (hu : P.underlying ty = some d) (hd : d.isRow = true) (hi : (P.info? ty).map (·.size) = some l.length)
    (h : wpList P ops Q rest (a.put o.dst (.agg l.toArray)) w) : wpList P ops Q (o :: rest) a w :=
  wpList_step fun K hK => by
    rw [if_pos hw]
    exact wp_load_mid ty x ho g f hx l d (hg.range f l hl) hu hd hi (hK _ _ h)
/-- The block that was made last is stored whole. -/
theorem wpList_store_new (hgd : o.guard = none) {ty : TypeId} {x y : Operand} (ho : o.op = .store ty x y) {v : World} {g : Nat} (hx : a.eval x = .pointer (some ⟨g, 0, none⟩)) {cs old : Array Value} (hy : a.eval y = .agg cs) {t : TypeId}
    (hv : w = v.alloc (.cells old t)) (hg : g = v.heap.size) (hi : (P.info? ty).map (·.size) = some cs.size) (hold : old.size = cs.size) (h1 : cs.all (·.oneCell') = true)
    (h : wpList P ops Q rest (a.put o.dst undef) (v.alloc (.cells cs t))) : wpList P ops Q (o :: rest) a w := by
  subst hv hg
  refine wpList_store_row hgd ty x y ho v.heap.size cs hx hy t old (heap_alloc_new _ _) hi hold h1 ?_
  rw [World.setRow_alloc_new]
  exact h
/-- A block that is known whole is stored whole. -/
theorem wpList_store_blk (hgd : o.guard = none) {ty : TypeId} {x y : Operand} (ho : o.op = .store ty x y) {g : Nat} (hx : a.eval x = .pointer (some ⟨g, 0, none⟩)) {cs old : Array Value} (hy : a.eval y = .agg cs) {t : TypeId}
    (hg : Box w g t old) (hi : (P.info? ty).map (·.size) = some cs.size) (hold : old.size = cs.size) (h1 : cs.all (·.oneCell') = true)
    (h : wpList P ops Q rest (a.put o.dst undef) (w.setRow g cs)) : wpList P ops Q (o :: rest) a w :=
  wpList_store_row hgd ty x y ho g cs hx hy t old hg.is hi hold h1 h
/-- A block known whole is stored whole, met by its type alone. -/
def StoreBlk (P : Program) (ops : Array Oper) (Q : Exit → Act → World → Prop) (rest : List Oper) (dst : Option Tmp) (p v : Value) (t : TypeId) (size : Nat) (a : Act) (w : World) : Prop :=
  ∃ (B : Nat) (cs old : Array Value), p = .pointer (some ⟨B, 0, none⟩) ∧ v = .agg cs ∧ Box w B t old ∧ cs.all (·.oneCell') = true ∧ cs.size = size ∧ old.size = size ∧ wpList P ops Q rest (a.put dst undef) (w.setRow B cs)
theorem StoreBlk.mk {dst : Option Tmp} {p v : Value} {t : TypeId} {size : Nat} {B : Nat} {cs old : Array Value} (hp : p = .pointer (some ⟨B, 0, none⟩)) (hv : v = .agg cs) (hB : Box w B t old) (h1 : cs.all (·.oneCell') = true) (hs : cs.size = size) (ho : old.size = size) (h : wpList P ops Q rest (a.put dst undef) (w.setRow B cs)) : StoreBlk P ops Q rest dst p v t size a w :=
  ⟨B, cs, old, hp, hv, hB, h1, hs, ho, h⟩
theorem blk_gate {t ty : TypeId} {size : Nat} {x y : Operand} (hgd : o.guard = none) (ho : o.op = .store ty x y) (hi : (P.info? ty).map (·.size) = some size) (h : StoreBlk P ops Q rest o.dst (a.eval x) (a.eval y) t size a w) : wpList P ops Q (o :: rest) a w := by
  obtain ⟨B, cs, old, hx, hy, hB, h1, hs, hold, h⟩ := h
  exact wpList_store_blk hgd ho hx hy hB (by rw [hi, hs]) (by rw [hold, hs]) h1 h
/-- A variable is made. -/
theorem wpList_alloc_z (hgd : o.guard = none) {t : TypeId} (ho : o.op = .alloc t) {z : Value} (hz : (P.info? t).map (·.zero) = some (some z)) {cs : Array Value} (hc : z.cells = cs)
    (h : wpList P ops Q rest (a.put o.dst (.pointer (some ⟨w.heap.size, 0, none⟩))) (w.alloc (.cells cs t))) : wpList P ops Q (o :: rest) a w :=
  wpList_plain hgd fun _ hK => by
    have hz' : (zeroValue t).run P w = .ok z w := by
      cases hq : P.info? t with
      | none => simp [hq] at hz
      | some i => simp [hq] at hz; simp [zeroValue, typeInfo, hq, hz]
    subst hc
    unfold Oper.wp execOp
    simp only [ho, Instr.alloc, Sem.run_bind, hz', Result.andThen_ok]
    exact hK _ _ h
/-- A struct is built. -/
theorem wpList_build_is (hgd : o.guard = none) {t : TypeId} {l : List (Nat × Operand)} (ho : o.op = .build t l.toArray) {vs : List (Nat × Value)} (hv : (l.map fun (i, x) => (i, a.eval x)) = vs) {cs : Array Value} (hb : P.built t vs = some cs)
    (h : wpList P ops Q rest (a.put o.dst (.agg cs)) w) : wpList P ops Q (o :: rest) a w := by
  have e : ((l.toArray.map fun (i, x) => (i, a.eval x)).toList) = vs := by rw [← hv]; simp
  exact wpList_build hgd t l.toArray ho (by rw [e, hb]; rfl) (by rw [e, hb]; exact h)
end

section
variable {w : World} {g g' : Nat} {t t' : TypeId} {cs cs' : Array Value}
theorem Box.row (h : Box w g t cs) (cs' : Array Value) : Box (w.setRow g cs') g t cs' := ⟨setRow_heap w g cs cs' t (0, 0) h.is⟩
theorem Box.row_far (h : Box w g t cs) (hne : g ≠ g') (cs' : Array Value) : Box (w.setRow g' cs') g t cs := ⟨(setRow_other w g' g cs' hne).trans h.is⟩
theorem Below.setRow' {B : Nat} {w0 : World} (hb : Below B w0 w) (hB : B ≤ g) (cs : Array Value) : Below B w0 (w.setRow g cs) :=
  ⟨hb.os, hb.tape, hb.output, by rw [setRow_size]; exact hb.size, fun i hi => (setRow_other w g i cs (by omega)).trans (hb.block i hi)⟩
end
end Go.Proofs.Ytgjkodbigdgdmaa
