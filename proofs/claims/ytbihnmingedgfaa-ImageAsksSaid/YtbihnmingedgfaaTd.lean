/-
Structs loaded and stored whole, of whatever type, by what is known of their blocks; a roster's block.
-/
import Derived.Test.YtbihnmingedgfaaTc
namespace Go.Proofs.Ytbihnmingedgfaa
open Go.RowKit Go.Shelf
set_option linter.unusedVariables false

section
variable {P : Program} {ops : Array Oper} {rest : List Oper} {o : Oper} {a : Act} {w : World} {Q : Exit → Act → World → Prop} {dst : Option Tmp} {p v : Value} {t : TypeId} {d : TypeDesc} {x y : Operand}
/-- What the load of a whole block wants. -/
def LoadRow (P : Program) (ops : Array Oper) (Q : Exit → Act → World → Prop) (rest : List Oper) (dst : Option Tmp) (p : Value) (t : TypeId) (a : Act) (w : World) : Prop :=
  ∃ (B : Nat) (cs : Array Value), p = .pointer (some ⟨B, 0, none⟩) ∧ Box w B t cs ∧ (P.info? t).map (·.size) = some cs.size ∧ wpList P ops Q rest (a.put dst (.agg cs)) w
theorem LoadRow.mk {B : Nat} {cs : Array Value} (hp : p = .pointer (some ⟨B, 0, none⟩)) (hB : Box w B t cs) (hi : (P.info? t).map (·.size) = some cs.size) (h : wpList P ops Q rest (a.put dst (.agg cs)) w) : LoadRow P ops Q rest dst p t a w := ⟨B, cs, hp, hB, hi, h⟩
theorem row_load (hgd : o.guard = none) (ho : o.op = .load t x) (hu : P.underlying t = some d) (hd : d.isRow = true) (h : LoadRow P ops Q rest o.dst (a.eval x) t a w) : wpList P ops Q (o :: rest) a w := by
  obtain ⟨B, cs, hx, hB, hi, h⟩ := h
  exact wpList_load_blk hgd ho hx hB hu hd hi h
theorem row_load_g (hw : Region.wanted o (yielded ops a.tmps) = true) (ho : o.op = .load t x) (hu : P.underlying t = some d) (hd : d.isRow = true) (h : LoadRow P ops Q rest o.dst (a.eval x) t a w) : wpList P ops Q (o :: rest) a w := by
  obtain ⟨B, ⟨l⟩, hx, hB, hi, h⟩ := h
  exact wpList_load_part_g hw ho (f := 0) hx hB l (fun j v hv => by rw [Nat.zero_add]; simpa using hv) hu hd (by simpa using hi) h
/-- What the store of a whole block wants. -/
def StoreRow (P : Program) (ops : Array Oper) (Q : Exit → Act → World → Prop) (rest : List Oper) (dst : Option Tmp) (p v : Value) (t : TypeId) (a : Act) (w : World) : Prop :=
  ∃ (B : Nat) (cs old : Array Value), p = .pointer (some ⟨B, 0, none⟩) ∧ v = .agg cs ∧ Box w B t old ∧ (P.info? t).map (·.size) = some cs.size ∧ old.size = cs.size ∧ cs.all (·.oneCell') = true ∧ wpList P ops Q rest (a.put dst undef) (w.setRow B cs)
theorem StoreRow.mk {B : Nat} {cs old : Array Value} (hp : p = .pointer (some ⟨B, 0, none⟩)) (hv : v = .agg cs) (hB : Box w B t old) (hi : (P.info? t).map (·.size) = some cs.size) (hs : old.size = cs.size) (h1 : cs.all (·.oneCell') = true) (h : wpList P ops Q rest (a.put dst undef) (w.setRow B cs)) : StoreRow P ops Q rest dst p v t a w := ⟨B, cs, old, hp, hv, hB, hi, hs, h1, h⟩
theorem row_store (hgd : o.guard = none) (ho : o.op = .store t x y) (h : StoreRow P ops Q rest o.dst (a.eval x) (a.eval y) t a w) : wpList P ops Q (o :: rest) a w := by
  obtain ⟨B, cs, old, hx, hy, hB, hi, hs, h1, h⟩ := h
  exact wpList_store_blk hgd ho hx hy hB hi hs h1 h
end

theorem ros_info : (Try.prog.info? 51).map (·.size) = some 17 := by kernel_rfl
theorem ros_one (r : Ros.R) : (Ros.cells r).all (·.oneCell') = true := by
  refine Array.all_eq_true_iff_forall_mem.2 fun v hv => ?_
  obtain ⟨n, rfl⟩ := Ros.cells_ints r v (by simpa using hv)
  rfl
def rosZero : Ros.R := ⟨0, fun _ => 0, fun _ => 0⟩
theorem ros_zero : (Try.prog.info? 51).map (·.zero) = some (some (.agg (Ros.cells rosZero))) := by kernel_rfl
section
variable {ops : Array Oper} {rest : List Oper} {o : Oper} {a : Act} {w : World} {Q : Exit → Act → World → Prop}
theorem ros_alloc (hgd : o.guard = none) (ho : o.op = .alloc 51)
    (h : wpList Try.prog ops Q rest (a.put o.dst (.pointer (some ⟨w.heap.size, 0, none⟩))) (w.alloc (.cells (Ros.cells rosZero) 51))) : wpList Try.prog ops Q (o :: rest) a w :=
  wpList_alloc_z hgd ho ros_zero rfl h
theorem ros_store_new {x y : Operand} {v : World} {old : Array Value} {r : Ros.R} (hgd : o.guard = none) (ho : o.op = .store 51 x y) (hx : a.eval x = .pointer (some ⟨v.heap.size, 0, none⟩)) (hy : a.eval y = .agg (Ros.cells r))
    (hold : old.size = 17) (h : wpList Try.prog ops Q rest (a.put o.dst undef) (v.alloc (.cells (Ros.cells r) 51))) : wpList Try.prog ops Q (o :: rest) a (v.alloc (.cells old 51)) :=
  wpList_store_new hgd ho hx hy rfl rfl ros_info hold (ros_one _) h
end

theorem ros_load {ops : Array Oper} {rest : List Oper} {o : Oper} {a : Act} {w : World} {Q : Exit → Act → World → Prop} {x : Operand} (hgd : o.guard = none) (ho : o.op = .load 51 x) (h : LoadRow Try.prog ops Q rest o.dst (a.eval x) 51 a w) : wpList Try.prog ops Q (o :: rest) a w :=
  row_load hgd ho Try.underlying51 rfl h
theorem ros_load_g {ops : Array Oper} {rest : List Oper} {o : Oper} {a : Act} {w : World} {Q : Exit → Act → World → Prop} {x : Operand} (hw : Region.wanted o (yielded ops a.tmps) = true) (ho : o.op = .load 51 x) (h : LoadRow Try.prog ops Q rest o.dst (a.eval x) 51 a w) : wpList Try.prog ops Q (o :: rest) a w :=
  row_load_g hw ho Try.underlying51 rfl h
theorem ros_store {ops : Array Oper} {rest : List Oper} {o : Oper} {a : Act} {w : World} {Q : Exit → Act → World → Prop} {x y : Operand} (hgd : o.guard = none) (ho : o.op = .store 51 x y) (h : StoreRow Try.prog ops Q rest o.dst (a.eval x) (a.eval y) 51 a w) : wpList Try.prog ops Q (o :: rest) a w :=
  row_store hgd ho h

/-- What a going over of the seats knows. -/
structure Sit (B Bg : Nat) (w0 : World) (r : Ros.R) (W : World) : Prop where
  ros : Box W B 51 (Ros.cells r)
  sit : Box W Bg 177 #[.pointer (some ⟨B, 0, none⟩)]
  below : Below w0.heap.size w0 W
section
variable {B Bg : Nat} {w0 W W' : World} {r : Ros.R}
theorem Sit.turned {row : Option Nat} (h : Sit B Bg w0 r W) (hg : W.grownBy W' row) (hr : ∀ r, row = some r → w0.heap.size ≤ r ∧ ∃ o : Obj, W.heap[r]? = some o ∧ o.isCells = false) : Sit B Bg w0 r W' :=
  ⟨h.ros.turned hg fun r e => (hr r e).2, h.sit.turned hg fun r e => (hr r e).2, Below.turned h.below (Nat.le_refl _) hg fun r e => (hr r e).1⟩
theorem Sit.call (h : Sit B Bg w0 r W) (hb : Below W.heap.size W W') : Sit B Bg w0 r W' :=
  ⟨h.ros.below hb h.ros.lt, h.sit.below hb h.sit.lt, h.below.trans (hb.mono h.below.size)⟩
theorem Sit.drew (h : Sit B Bg w0 r W) : Sit B Bg w0 r W.drew := ⟨h.ros.drew, h.sit.drew, Below.drew h.below⟩
theorem Sit.far {p : Addr} {v : Value} {t : TypeId} {cs : Array Value} (h : Sit B Bg w0 r W) (hp : Box W p.block t cs) (h1 : 51 ≠ t) (h2 : 177 ≠ t) (hl : w0.heap.size ≤ p.block) : Sit B Bg w0 r (W.setCell p v) :=
  ⟨h.ros.far (fun e => Box.apart h.ros hp h1 e) _, h.sit.far (fun e => Box.apart h.sit hp h2 e) _, h.below.setCell hl _⟩
end
end Go.Proofs.Ytbihnmingedgfaa
