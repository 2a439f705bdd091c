/-
Several texts in one: Rn Gm Yb Ek Ue Uf Ug.
-/
import Derived.Test.YtgmlbimgcifenaaVp13
import Derived.Laws.FloatArith
import Derived.Test.YtgmlbimgcifenaaRows
import Derived.WalkKit
import Derived.WalkSpells
import Derived.WalkLawsBesides
import Derived.Laws.Externs
import Derived.Laws.BitsAllLaws
import Derived.Lib.Hide
import Derived.LoopTactic
import Derived.Deep.QuietTactic
import Derived.BigQuiet
import Derived.Outline
import Derived.Laws.OwnMore
import Derived.Deep.Draws
import Derived.Laws.Rows
import Derived.Deep.MidRow
import Derived.Maps.AppendAt
import Derived.Deep.WholeRow
import Derived.Orders
import Derived.Tactics
import Derived.Tactics2
import Derived.KernelRfl
import Derived.StillTail
import Derived.Below
import Derived.RangeFuncNested
import Derived.RangeFuncBound
import Derived.RangeFuncCalls
import Derived.RangeFuncLeaves
import Derived.Shelf.Abstract
import Derived.Shelf.RegionOpen
import Derived.Laws.StructEq
import Derived.ChangeKeysEq
import Derived.Deep.CutRange
import Derived.Deep.CutBlock
import Derived.Deep.DeepCutAuto
import Derived.Deep.LoopGhost
import Derived.OwnWalkIn
import Derived.TacticsInMore
import Derived.LoopNIn
import Derived.LoopIn
import Derived.Laws.CopyOwn
import Derived.Laws.MakeOwn
import Derived.Defers
import Derived.Recover
import Derived.Laws.BytesArg
import Derived.Lib.Bytes
import Derived.Laws.ShiftsVarLaws
import Derived.RowKit
import GoSem.Claim
import Derived.ChangeShapes
import Derived.ProofKit
import Derived.OpenShut
import Derived.Carry
import Derived.Lib.SmallJoins
import Derived.ChangeOld
import Derived.ChangeArms
import Derived.Great.BuildSlice
namespace Sx
open Go Im
set_option linter.unusedVariables false
/-- What a reader has left: none behind a fault. -/
def num (n : Nat) (o : Option (List Int)) : Int := ((o.bind (rdn n)).map (·.1)).getD 0
end Sx
namespace Go.Proofs.Ytgmlbimgcifenaa
open Go.RowKit Go.Shelf
set_option linter.unusedVariables false
set_option linter.unusedSimpArgs false

section
variable {B b : Nat} {w w' w'' : World}
end
section
variable {B : Nat} {w w' : World} {o : Option (List Int)}
end

end Go.Proofs.Ytgmlbimgcifenaa
namespace Gm
open Go

def new (d : Int) : G := ⟨0, d, fun _ => Ship.none, []⟩
end Gm
namespace Ms
open Go
theorem has_bytes (k : Int) : Im.IsBytes (has k) := has_cases (Q := Im.IsBytes) k (by intro x hx; revert x; decide) (by intro x hx; revert x; decide) (by intro x hx; revert x; decide) (by intro x hx; revert x; decide) (by intro x hx; revert x; decide) (by intro x hx; revert x; decide) (by intro x hx; revert x; decide) (by intro x hx; revert x; decide) (by intro x hx; revert x; decide) (by intro x hx; revert x; decide)
end Ms
namespace Go.Proofs.Ytgmlbimgcifenaa
open Go.RowKit
set_option linter.unusedVariables false

end Go.Proofs.Ytgmlbimgcifenaa
namespace Go.Proofs.Ytgmlbimgcifenaa
open Go.RowKit Go.Shelf
set_option linter.unusedVariables false
set_option linter.unusedSimpArgs false

theorem en_fill (e : En.E) (s : Value) : Instr.fill (fun i => some (i * 26, 26)) ((Array.range (1 * 26)).map ((Value.agg En.zeroC).cells[· % (Value.agg En.zeroC).cells.size]!)) [(0, .agg (En.cells e s))] = some (En.cells e s) := by kernel_rfl
theorem en_slice (e : En.E) (s : Value) (W : World) : (Instr.buildSlice 26 1 #[(0, .agg (En.cells e s))]).run Try.prog W = .ok (.slice (some ⟨W.heap.size, 0, none⟩) 1 1) (W.alloc (.cells (En.cells e s) 53)) := by
  have h1 := en_info
  have h2 := en_zero
  cases hq : Try.prog.info? 53 with
  | none => rw [hq] at h1; cases h1
  | some ie =>
    rw [hq] at h1 h2
    have hs : ie.size = 26 := by simpa using h1
    have hz : ie.zero = some (.agg En.zeroC) := by simpa using h2
    exact run_buildSlice W _ _ 1 _ _ ie (.agg En.zeroC) Try.underlying26 hq hz (by rw [hs]; decide) (by rw [hs]; decide) (by rw [hs]; exact en_fill e s)
section
variable {ops : Array Oper} {rest : List Oper} {o : Oper} {a : Act} {w : World} {Q : Exit → Act → World → Prop} {x : Operand} {dst : Option Tmp} {v : Value}
theorem en_build (hgd : o.guard = none) (ho : o.op = .buildSlice 26 1 #[(0, x)]) (h : BuildEn ops Q rest o.dst (a.eval x) a w) : wpList Try.prog ops Q (o :: rest) a w := by
  obtain ⟨e, s, hv, h⟩ := h
  refine wpList_plain hgd fun _ hK => ?_
  have hr := en_slice e s w
  unfold Oper.wp execOp
  simp only [ho, List.map_toArray, List.map_cons, List.map_nil, hv, Sem.run_bind, hr, Result.andThen_ok, Sem.run_pure]
  exact hK _ _ h
end
namespace En
end En
theorem en_built7 (f : Int) : Try.prog.built 53 [(0, .int .i64 f)] = some (En.cells ⟨f, [], En.in0⟩ (.slice none 0 0)) := by kernel_rfl
end Go.Proofs.Ytgmlbimgcifenaa
namespace Go.Proofs.Ytgmlbimgcifenaa
open Go.RowKit Go.Shelf
set_option linter.unusedVariables false
set_option linter.unusedSimpArgs false

/-- Its entries, without events. -/
def KL (q : Ms.S) (X : World) : Prop := Ms.NL q ∨ ∃ S, q.al = some ⟨S, 0, none⟩ ∧ Box X S 53 (En.sCells q.m.log).toArray ∧ ∀ s ∈ q.m.log, s.e.evs = [] ∧ s.adr = none ∧ s.cap = 0
theorem KL.keep {q : Ms.S} {X X' : World} (h : KL q X) (hk : ∀ g t cs, Box X g t cs → t ≠ 29 → t ≠ 3 → Box X' g t cs) : KL q X' := by
  rcases h with h | ⟨S, h1, h3, h4⟩
  · exact .inl h
  · exact .inr ⟨S, h1, hk _ _ _ h3 (by decide) (by decide), h4⟩
/-- A message of the law's own: where it lies, and its lists. -/
structure Mk (w : World) (B : Nat) (q : Ms.S) (X : World) : Prop where
  box : Box X B 29 q.cells
  ri : RI q X
  rl : KL q X
  rd : RD q X
  kept : Below w.heap.size w X
  low : w.heap.size ≤ B
  lowl : ∀ S, q.al = some ⟨S, 0, none⟩ → w.heap.size ≤ S
theorem lies_kl {q : Ms.S} {X : World} (h : KL q X) : LiesS X X.heap.size q.al q.m.log.length q.m.log := by
  rcases h with ⟨a, b, c⟩ | ⟨S, a, c, d⟩
  · refine ⟨?_, ?_, ?_⟩
    · rw [c]; exact Lies.empty
    · intro s hs; rw [c] at hs; cases hs
    · intro s hs; rw [c] at hs; cases hs
  · refine ⟨by rw [a]; exact Lies.boxed c (by rw [En.sCells_len]), fun s hs => ?_, fun s hs => ?_⟩
    · rw [(d s hs).1]; exact Lies.empty
    · rw [(d s hs).1]; exact Nat.zero_le _
theorem Mk.lies {w X : World} {B : Nat} {q : Ms.S} (h : Mk w B q X) (l1 : q.m.ins.length ≤ 255) (l2 : q.m.log.length ≤ 255) (l3 : q.m.data.length ≤ 255) : LiesM X X.heap.size q := by
  refine ⟨?_, lies_kl h.rl, ?_, by unfold maxLen; omega, by unfold maxLen; omega, by unfold maxLen; omega⟩
  · rcases h.ri with ⟨a, b, c⟩ | ⟨S, a, b, c⟩
    · rw [c]; exact Lies.empty
    · rw [a]; exact Lies.boxed c (by rw [Gm.inCells_len])
  · rcases h.rd with ⟨a, b, c⟩ | ⟨S, a, b, c⟩
    · rw [c]; exact Lies.empty
    · rw [a]; exact Lies.boxed c (by rw [Im.u8s_len]; omega)
/-- A call later. -/
theorem Mk.call {w X X' : World} {B : Nat} {q : Ms.S} (h : Mk w B q X) (hb : Below X.heap.size X X') : Mk w B q X' :=
  ⟨h.box.below hb h.box.lt, h.ri.below hb, h.rl.keep fun g t cs k _ _ => k.below hb k.lt, h.rd.below hb, h.kept.trans (hb.mono h.kept.size), h.low, h.lowl⟩
theorem Mk.made {w X : World} {B : Nat} {q : Ms.S} (h : Mk w B q X) (o : Obj) : Mk w B q (X.alloc o) := h.call (one_below X o)
/-- A cell of it is set: the same lists, another number. -/
theorem Mk.cell {w X : World} {B j : Nat} {q q' : Ms.S} {v : Value} (h : Mk w B q X) (hc : q.cells.setIfInBounds j v = q'.cells) (h1 : RI q' X) (h2 : KL q' X) (h3 : RD q' X) (h4 : ∀ S, q'.al = some ⟨S, 0, none⟩ → w.heap.size ≤ S) : Mk w B q' (X.setCell ⟨B, j, none⟩ v) := by
  have hk : ∀ g t cs, Box X g t cs → t ≠ 29 → t ≠ 3 → Box (X.setCell ⟨B, j, none⟩ v) g t cs := fun g t cs hb ht _ => hb.far (p := ⟨B, j, none⟩) (Box.apart hb h.box ht) v
  have hb := h.box.put j v
  rw [hc] at hb
  exact ⟨hb, h1.keep hk, h2.keep hk, h3.keep hk, h.kept.setCell (p := ⟨B, j, none⟩) h.low v, h.low, h4⟩
theorem RI.copy {q q' : Ms.S} {X : World} (h : RI q X) (h1 : q'.ai = q.ai) (h2 : q'.ci = q.ci) (h3 : q'.m.ins = q.m.ins) : RI q' X := by
  rcases h with ⟨a, b, c⟩ | ⟨S, a, b, c⟩
  · exact .inl ⟨h1.trans a, h2.trans b, h3.trans c⟩
  · exact .inr ⟨S, h1.trans a, by rw [h2, h3]; exact b, by rw [h3]; exact c⟩
theorem KL.copy {q q' : Ms.S} {X : World} (h : KL q X) (h1 : q'.al = q.al) (h2 : q'.cl = q.cl) (h3 : q'.m.log = q.m.log) : KL q' X := by
  rcases h with ⟨a, b, c⟩ | ⟨S, a, c, d⟩
  · exact .inl ⟨h1.trans a, h2.trans b, h3.trans c⟩
  · exact .inr ⟨S, h1.trans a, by rw [h3]; exact c, by rw [h3]; exact d⟩
theorem RD.copy {q q' : Ms.S} {X : World} (h : RD q X) (h1 : q'.ad = q.ad) (h2 : q'.cd = q.cd) (h3 : q'.m.data = q.m.data) : RD q' X := by
  rcases h with ⟨a, b, c⟩ | ⟨S, a, b, c⟩
  · exact .inl ⟨h1.trans a, h2.trans b, h3.trans c⟩
  · exact .inr ⟨S, h1.trans a, by rw [h2, h3]; exact b, by rw [h3]; exact c⟩
/-- A number of it is set. -/
theorem Mk.num {w X : World} {B : Nat} {q : Ms.S} (h : Mk w B q X) (j : Nat) (v : Value) (m' : Ms.M) (hc : q.cells.setIfInBounds j v = ({ q with m := m' } : Ms.S).cells) (hi : m'.ins = q.m.ins) (hl : m'.log = q.m.log) (hd : m'.data = q.m.data) : Mk w B { q with m := m' } (X.setCell ⟨B, j, none⟩ v) :=
  h.cell hc (h.ri.copy rfl rfl hi) (h.rl.copy rfl rfl hl) (h.rd.copy rfl rfl hd) h.lowl
/-- A message just built and stored in a new block. -/
theorem Mk.born {w X : World} (hb : Below w.heap.size w X) (m : Ms.M) (hi : m.ins = []) (hl : m.log = []) (hd : m.data = []) : Mk w X.heap.size ⟨m, none, 0, none, 0, none, 0⟩ (X.alloc (.cells (Ms.S.cells ⟨m, none, 0, none, 0, none, 0⟩) 29)) :=
  ⟨Box.made _ _ _, .inl ⟨rfl, rfl, hi⟩, .inl ⟨rfl, rfl, hl⟩, .inl ⟨rfl, rfl, hd⟩, hb.alloc hb.size _, hb.size, fun S e => by cases e⟩
/-- Its lists are set: inputs, entries, bytes. -/
theorem Mk.setIns {w X : World} {B S n : Nat} {q : Ms.S} (h : Mk w B q X) (l : List Gm.In) (hn : n = l.length) (hS : Box X S 50 (Gm.inCells l).toArray) : Mk w B { q with m := { q.m with ins := l }, ai := some ⟨S, 0, none⟩, ci := n } (X.setCell ⟨B, 13, none⟩ (.slice (some ⟨S, 0, none⟩) n n)) := by
  subst hn
  exact h.cell rfl (.inr ⟨S, rfl, rfl, hS⟩) (h.rl.copy rfl rfl rfl) (h.rd.copy rfl rfl rfl) h.lowl
theorem Mk.setLog {w X : World} {B S n c : Nat} {q : Ms.S} (h : Mk w B q X) (l : List En.S) (hn : n = l.length) (hS : Box X S 53 (En.sCells l).toArray) (he : ∀ s ∈ l, s.e.evs = [] ∧ s.adr = none ∧ s.cap = 0) (hlo : w.heap.size ≤ S) : Mk w B { q with m := { q.m with log := l }, al := some ⟨S, 0, none⟩, cl := c } (X.setCell ⟨B, 14, none⟩ (.slice (some ⟨S, 0, none⟩) n c)) := by
  subst hn
  exact h.cell rfl (h.ri.copy rfl rfl rfl) (.inr ⟨S, rfl, hS, he⟩) (h.rd.copy rfl rfl rfl) (fun S' e => by injection e with e; injection e with e; subst e; exact hlo)
theorem Mk.setData {w X : World} {B S n : Nat} {q : Ms.S} (h : Mk w B q X) (l : List Int) (hn : n = l.length) (hS : Box X S 5 (Im.u8s l).toArray) : Mk w B { q with m := { q.m with data := l }, ad := some ⟨S, 0, none⟩, cd := n } (X.setCell ⟨B, 15, none⟩ (.slice (some ⟨S, 0, none⟩) n n)) := by
  subst hn
  exact h.cell rfl (h.ri.copy rfl rfl rfl) (h.rl.copy rfl rfl rfl) (.inr ⟨S, rfl, rfl, hS⟩) h.lowl
/-- The same, as the walk spells it: the list in a block that is made behind. -/
theorem Mk.newIns {w X : World} {B S n : Nat} {q : Ms.S} (h : Mk w B q X) (l : List Gm.In) (hn : n = l.length) (hS : S = X.heap.size) : Mk w B { q with m := { q.m with ins := l }, ai := some ⟨S, 0, none⟩, ci := n } ((X.setCell ⟨B, 13, none⟩ (.slice (some ⟨S, 0, none⟩) n n)).alloc (.cells (Gm.inCells l).toArray 50)) := by
  subst hS
  rw [← World.setCell_alloc_past _ _ _ _ h.box.lt]
  exact (h.made _).setIns l hn (Box.made _ _ _)
theorem Mk.newLog {w X : World} {B S n c : Nat} {q : Ms.S} (h : Mk w B q X) (l : List En.S) (hn : n = l.length) (he : ∀ s ∈ l, s.e.evs = [] ∧ s.adr = none ∧ s.cap = 0) (hS : S = X.heap.size) : Mk w B { q with m := { q.m with log := l }, al := some ⟨S, 0, none⟩, cl := c } ((X.setCell ⟨B, 14, none⟩ (.slice (some ⟨S, 0, none⟩) n c)).alloc (.cells (En.sCells l).toArray 53)) := by
  subst hS
  rw [← World.setCell_alloc_past _ _ _ _ h.box.lt]
  exact (h.made _).setLog l hn (Box.made _ _ _) he h.kept.size
theorem Mk.newData {w X : World} {B S n : Nat} {q : Ms.S} (h : Mk w B q X) (l : List Int) (hn : n = l.length) (hS : S = X.heap.size) : Mk w B { q with m := { q.m with data := l }, ad := some ⟨S, 0, none⟩, cd := n } ((X.setCell ⟨B, 15, none⟩ (.slice (some ⟨S, 0, none⟩) n n)).alloc (.cells (Im.u8s l).toArray 5)) := by
  subst hS
  rw [← World.setCell_alloc_past _ _ _ _ h.box.lt]
  exact (h.made _).setData l hn (Box.made _ _ _)
/-- A cell of its entries is set. -/
theorem Mk.logCell {w X : World} {B S j : Nat} {q q' : Ms.S} {v : Value} {l : List En.S} (h : Mk w B q X) (hal : q.al = some ⟨S, 0, none⟩) (hS : Box X S 53 (En.sCells q.m.log).toArray) (hq : q' = { q with m := { q.m with log := l } }) (hlen : l.length = q.m.log.length) (hc : (En.sCells q.m.log).toArray.setIfInBounds j v = (En.sCells l).toArray) (he : ∀ s ∈ l, s.e.evs = [] ∧ s.adr = none ∧ s.cap = 0) : Mk w B q' (X.setCell ⟨S, j, none⟩ v) := by
  subst hq
  have hk : ∀ g t cs, Box X g t cs → t ≠ 53 → Box (X.setCell ⟨S, j, none⟩ v) g t cs := fun g t cs hb ht => hb.far (p := ⟨S, j, none⟩) (Box.apart hb hS ht) v
  have hb := hk _ _ _ h.box (by decide)
  refine ⟨?_, ?_, .inr ⟨S, hal, by have k := hS.put j v; rw [hc] at k; exact k, he⟩, ?_, h.kept.setCell (p := ⟨S, j, none⟩) (h.lowl S hal) v, h.low, h.lowl⟩
  · have e : q.cells = ({ q with m := { q.m with log := l } } : Ms.S).cells := by
      unfold Ms.S.cells Ms.cells Ms.S.sl
      dsimp only
      rw [hlen]
      rfl
    rw [← e]; exact hb
  · rcases h.ri with ⟨a, b, c⟩ | ⟨S', a, b, c⟩
    · exact .inl ⟨a, b, c⟩
    · exact .inr ⟨S', a, b, hk _ _ _ c (by decide)⟩
  · rcases h.rd with ⟨a, b, c⟩ | ⟨S', a, b, c⟩
    · exact .inl ⟨a, b, c⟩
    · exact .inr ⟨S', a, b, hk _ _ _ c (by decide)⟩
theorem Mk.drew {w X : World} {B : Nat} {q : Ms.S} (h : Mk w B q X) : Mk w B q X.drew := h.call (one_below' X)
end Go.Proofs.Ytgmlbimgcifenaa
namespace Kd
open Go
def in0 : Gm.In := ⟨0, 0, 0⟩
def e0 (f : Int) : En.S := ⟨⟨f, [], En.in0⟩, none, 0⟩
def base (k : Int) : Ms.M := ⟨k, 0, 0, 0, 0, 0, if k = 2 ∨ k = 4 then 1 else 0, 0, 0, 0, if k = 7 then 1 else 0, 0, 0, if k = 4 then [in0] else [], if k = 5 then [e0 0] else [], if k = 7 then [1] else []⟩
def codes : List Int := [115, 103, 102, 99, 110, 111, 98, 109, 105, 108, 100]
def chg (p : Int) (m : Ms.M) : Ms.M :=
  if p = 115 then { m with slot := 3 } else if p = 103 then { m with gen := 2 } else if p = 102 then { m with frame := 4, log := m.log.map fun _ => e0 4 } else if p = 99 then { m with code := 5 }
  else if p = 110 then { m with n := 6, of := if 0 < m.of then 7 else m.of } else if p = 111 then { m with of := 9 } else if p = 98 then { m with bits := 10 } else if p = 109 then { m with sum := 11 }
  else if p = 105 then { m with ins := [⟨1, 0, 0⟩] } else if p = 108 then { m with log := [e0 m.frame] } else { m with data := [4, 5] }
theorem contains_next (l : List Int) (n : Nat) (p : Int) (h : n < l.length) : (l.take (n + 1)).contains p = ((l.take n).contains p || (l.getD n 0 == p)) := by
  rw [List.take_succ_eq_append_getElem h, List.getD_eq_getElem?_getD, List.getElem?_eq_getElem h]
  simp only [Option.getD_some, List.contains_eq_any_beq, List.any_append, List.any_cons, List.any_nil, Bool.or_false]
  congr 1
  rw [Bool.eq_iff_iff]
  simp only [beq_iff_eq]
  exact eq_comm
theorem e0_ty (f : Int) (h : 0 ≤ f ∧ f < 1048576) : En.Ty (e0 f).e := ⟨by unfold En.i64 e0; dsimp only; omega, fun v h => (by cases h), fun i hi => by unfold e0 En.in0 Gm.tyIn; dsimp only; omega⟩
theorem base_len (k : Int) : (base k).ins.length ≤ 255 ∧ (base k).log.length ≤ 255 ∧ (base k).data.length ≤ 255 := by
  unfold base
  refine ⟨?_, ?_, ?_⟩ <;> (dsimp only; split <;> simp)
theorem e0_ok (f : Int) (h : 0 ≤ f ∧ f < 1048576) : En.Ok (e0 f).e := ⟨h, show En.Row (-1) [] by decide, show ∀ i, i < 8 → En.inOk (En.in0 i) by decide +kernel⟩
theorem ok_of {m : Ms.M} (h1 : Ms.no1 m = false) (h2 : Ms.no2 m = false) (h3 : Ms.no3 m = false) (hi : m.ins = [] ∨ ∃ x, m.ins = [x] ∧ Ms.inB x = true) (hl : m.log = [] ∨ (m.log = [e0 m.frame] ∧ 0 ≤ m.frame ∧ m.frame < 1048576)) : Ms.Ok m := by
  refine ⟨h1, h2, h3, fun k hk => ?_, fun k hk => ?_⟩
  · rcases hi with hi | ⟨x, hi, hx⟩
    · rw [hi] at hk; exact absurd hk (Nat.not_lt_zero _)
    · have h0 : k = 0 := by rw [hi] at hk; simp at hk; exact hk
      subst h0
      have : m.ins[0] = x := by simp [hi]
      rw [this]; exact hx
  · rcases hl with hl | ⟨hl, hf⟩
    · rw [hl] at hk; exact absurd hk (Nat.not_lt_zero _)
    · have h0 : k = 0 := by rw [hl] at hk; simp at hk; exact hk
      subst h0
      have : m.log[0] = e0 m.frame := by simp [hl]
      rw [this]; exact ⟨e0_ok _ hf, by simp [e0]⟩
theorem base_ok : ∀ k ∈ ([1, 2, 3, 4, 5, 6, 7, 8, 9, 10, 11, 12, 13, 14] : List Int), Ms.Ok (base k) := by
  intro k hk
  simp only [List.mem_cons, List.not_mem_nil, or_false] at hk
  rcases hk with rfl | rfl | rfl | rfl | rfl | rfl | rfl | rfl | rfl | rfl | rfl | rfl | rfl | rfl <;>
    exact ok_of (by decide) (by decide) (by decide) (by first | exact .inl rfl | exact .inr ⟨_, rfl, by decide⟩) (by first | exact .inl rfl | exact .inr ⟨rfl, by decide, by decide⟩)
theorem base_ty : ∀ k ∈ ([1, 2, 3, 4, 5, 6, 7, 8, 9, 10, 11, 12, 13, 14] : List Int), Ms.Ty (base k) := by
  intro k hk
  have h : 1 ≤ k ∧ k ≤ 14 := by
    simp only [List.mem_cons, List.not_mem_nil, or_false] at hk
    omega
  unfold base
  refine ⟨?_, ?_, ?_, ?_, ?_, ?_, ?_, ?_, ?_, ?_, ?_, ?_, ?_, ?_, ?_, ?_⟩ <;> (dsimp only) <;> (try unfold En.i64) <;> first | omega | (split <;> omega) | skip
  · split
    · intro p hp; obtain rfl := List.mem_singleton.1 hp; unfold in0 Gm.tyIn; dsimp only; omega
    · intro p hp; cases hp
  · split
    · intro p hp; obtain rfl := List.mem_singleton.1 hp; exact e0_ty 0 (by decide)
    · intro p hp; cases hp
  · split
    · intro p hp; obtain rfl := List.mem_singleton.1 hp; decide
    · intro p hp; cases hp
set_option maxHeartbeats 2000000 in
theorem kinds : ∀ k ∈ ([1, 2, 3, 4, 5, 6, 7, 8, 9, 10, 11, 12, 13, 14] : List Int), ∀ p ∈ codes, Ms.okB (chg p (base k)) = (Ms.has k).contains p := by
  intro k hk p hp
  simp only [codes, List.mem_cons, List.not_mem_nil, or_false] at hk hp
  rcases hk with rfl | rfl | rfl | rfl | rfl | rfl | rfl | rfl | rfl | rfl | rfl | rfl | rfl | rfl <;> rcases hp with rfl | rfl | rfl | rfl | rfl | rfl | rfl | rfl | rfl | rfl | rfl <;>
    first
      | exact (Ms.okB_no (fun h => absurd h.n1 (by decide))).symm
      | exact Ms.okB_iff.2 (ok_of (by decide) (by decide) (by decide) (by first | exact .inl rfl | exact .inr ⟨_, rfl, by decide⟩) (by first | exact .inl rfl | exact .inr ⟨rfl, by decide, by decide⟩))
theorem chg_len (k p : Int) : (chg p (base k)).ins.length ≤ 255 ∧ (chg p (base k)).log.length ≤ 255 ∧ (chg p (base k)).data.length ≤ 255 := by
  have h := base_len k
  unfold chg
  repeat' split
  all_goals (refine ⟨?_, ?_, ?_⟩ <;> first
    | exact h.1
    | exact h.2.1
    | exact h.2.2
    | (show (1 : Nat) ≤ 255; decide)
    | (show (2 : Nat) ≤ 255; decide)
    | (dsimp only; rw [List.length_map]; exact h.2.1))
theorem chg_ty : ∀ k ∈ ([1, 2, 3, 4, 5, 6, 7, 8, 9, 10, 11, 12, 13, 14] : List Int), ∀ p ∈ codes, Ms.Ty (chg p (base k)) := by
  intro k hk p hp
  have h := base_ty k hk
  have hf : (base k).frame = 0 := rfl
  have hn : En.i64 7 := by unfold En.i64; omega
  simp only [codes, List.mem_cons, List.not_mem_nil, or_false] at hp
  rcases hp with rfl | rfl | rfl | rfl | rfl | rfl | rfl | rfl | rfl | rfl | rfl
  · exact { h with slot := by unfold En.i64 chg; simp }
  · exact { h with gen := by unfold En.i64 chg; simp }
  · have hl : ∀ s ∈ (chg 102 (base k)).log, En.Ty s.e := fun s hs => by
      unfold chg at hs
      simp only [reduceIte, Int.reduceEq] at hs
      obtain ⟨a, _, rfl⟩ := List.mem_map.1 hs
      exact e0_ty 4 (by decide)
    exact { h with frame := by unfold En.i64 chg; simp, log := hl }
  · exact { h with code := by unfold En.i64 chg; simp }
  · have ho : En.i64 (chg 110 (base k)).of := by
      unfold chg
      simp only [reduceIte, Int.reduceEq]
      split
      · exact hn
      · exact h.of
    exact { h with n := by unfold En.i64 chg; simp, of := ho }
  · exact { h with of := by unfold En.i64 chg; simp }
  · exact { h with bits := by unfold chg; simp }
  · exact { h with sum := by unfold chg; simp }
  · have hi : ∀ s ∈ (chg 105 (base k)).ins, Gm.tyIn s := fun s hs => by
      unfold chg at hs
      simp only [reduceIte, Int.reduceEq] at hs
      obtain rfl := List.mem_singleton.1 hs
      unfold Gm.tyIn; dsimp only; omega
    exact { h with ins := hi }
  · have hl : ∀ s ∈ (chg 108 (base k)).log, En.Ty s.e := fun s hs => by
      unfold chg at hs
      simp only [reduceIte, Int.reduceEq] at hs
      obtain rfl := List.mem_singleton.1 hs
      exact e0_ty _ (by rw [hf]; decide)
    exact { h with log := hl }
  · have hd : ∀ s ∈ (chg 100 (base k)).data, 0 ≤ s ∧ s ≤ 255 := fun s hs => by
      unfold chg at hs
      simp only [reduceIte, Int.reduceEq] at hs
      simp only [List.mem_cons, List.not_mem_nil, or_false] at hs
      omega
    exact { h with data := hd }
end Kd
namespace Go.Proofs.Ytgmlbimgcifenaa
open Go.RowKit Go.Shelf
set_option linter.unusedVariables false
set_option linter.unusedSimpArgs false

theorem mk_ins (n : Nat) (h : n ≤ 1000) (W : World) : (Instr.makeSlice 25 (.int .i64 (n : Int)) (.int .i64 (n : Int))).run Try.prog W = .ok (.slice (some ⟨W.heap.size, 0, none⟩) n n) (W.alloc (.cells (madeCells (Value.agg #[.int .i8 0, .int .i8 0, .int .u8 0]).cells (n * 3)) 50)) := by
  obtain ⟨i0, hi0, hz0, hz1, hz2⟩ := info_parts zin_infoZ
  have := run_make (P := Try.prog) W 25 50 i0 _ Try.underlying25 hi0 hz0 .i64 .i64 n n (by omega) (Int.le_refl _) (by rw [hz2]; omega) (by omega)
  rw [this, hz1, Int.toNat_natCast]
theorem mk_log (n : Nat) (h : n ≤ 1000) (W : World) : (Instr.makeSlice 26 (.int .i64 (n : Int)) (.int .i64 (n : Int))).run Try.prog W = .ok (.slice (some ⟨W.heap.size, 0, none⟩) n n) (W.alloc (.cells (madeCells (Value.agg En.zeroC).cells (n * 26)) 53)) := by
  obtain ⟨i0, hi0, hz0, hz1, hz2⟩ := info_parts zen_infoZ
  have := run_make (P := Try.prog) W 26 53 i0 _ Try.underlying26 hi0 hz0 .i64 .i64 n n (by omega) (Int.le_refl _) (by rw [hz2]; omega) (by omega)
  rw [this, hz1, Int.toNat_natCast]
theorem mk_ins1 (W : World) : (Instr.makeSlice 25 (.int .i64 1) (.int .i64 1)).run Try.prog W = .ok (.slice (some ⟨W.heap.size, 0, none⟩) 1 1) (W.alloc (.cells (Gm.inCells [Kd.in0]).toArray 50)) := by
  have h := mk_ins 1 (by decide) W
  rw [show madeCells (Value.agg #[.int .i8 0, .int .i8 0, .int .u8 0]).cells (1 * 3) = (Gm.inCells [Kd.in0]).toArray from by kernel_rfl] at h
  exact h
theorem mk_log1 (W : World) : (Instr.makeSlice 26 (.int .i64 1) (.int .i64 1)).run Try.prog W = .ok (.slice (some ⟨W.heap.size, 0, none⟩) 1 1) (W.alloc (.cells (En.sCells [Kd.e0 0]).toArray 53)) := by
  have h := mk_log 1 (by decide) W
  rw [show madeCells (Value.agg En.zeroC).cells (1 * 26) = (En.sCells [Kd.e0 0]).toArray from by kernel_rfl] at h
  exact h
/-- A message with no lists in it, built of some numbers. -/
theorem ms_built (k : Int) : Try.prog.built 29 [(0, .int .i64 k)] = some (Ms.S.cells ⟨Ms.start k 0 0 0 0, none, 0, none, 0, none, 0⟩) := by kernel_rfl
theorem mod14 (x : Int) (h : -9223372036854775808 ≤ x ∧ x ≤ 9223372036854775807) : ∃ k : Int, 1 + IntKind.u64.wrap x % 14 = k ∧ k ∈ ([1, 2, 3, 4, 5, 6, 7, 8, 9, 10, 11, 12, 13, 14] : List Int) := by
  have u0 : 0 ≤ IntKind.u64.wrap x := by rw [IntKind.wrap_u64]; omega
  refine ⟨_, rfl, ?_⟩
  simp only [List.mem_cons, List.not_mem_nil, or_false]
  omega
theorem mod11 (x : Int) (h : -9223372036854775808 ≤ x ∧ x ≤ 9223372036854775807) : ∃ k : Int, IntKind.u64.wrap x % 11 = k ∧ k ∈ ([0, 1, 2, 3, 4, 5, 6, 7, 8, 9, 10] : List Int) := by
  have u0 : 0 ≤ IntKind.u64.wrap x := by rw [IntKind.wrap_u64]; omega
  refine ⟨_, rfl, ?_⟩
  simp only [List.mem_cons, List.not_mem_nil, or_false]
  omega

end Go.Proofs.Ytgmlbimgcifenaa
namespace Go.Proofs.Ytgmlbimgcifenaa
open Go.RowKit Go.Shelf
set_option linter.unusedVariables false
set_option linter.unusedSimpArgs false

set_option maxRecDepth 100000 in
set_option maxHeartbeats 4000000 in
theorem kinds12_law (x y : Int) (w : World) (hx : -9223372036854775808 ≤ x ∧ x ≤ 9223372036854775807) (hy : -9223372036854775808 ≤ y ∧ y ≤ 9223372036854775807) :
    Calls Try.prog 7 #[.int .i64 x, .int .i64 y] w fun e w' => e = .returned (.bool true) ∧ Below w.heap.size w w' := by
  have ct := fun X => Lib.hid (told12_any X)
  obtain ⟨k, hk, hkin⟩ := mod14 x hx
  obtain ⟨j, hj, hjin⟩ := mod11 y hy
  have HK := Lib.hid hkin
  have HJ := Lib.hid hjin
  have u0 : 0 ≤ IntKind.u64.wrap x := by rw [IntKind.wrap_u64]; omega
  have u1 : IntKind.u64.wrap x ≤ 18446744073709551615 := by rw [IntKind.wrap_u64]; omega
  have v0 : 0 ≤ IntKind.u64.wrap y := by rw [IntKind.wrap_u64]; omega
  have v1 : IntKind.u64.wrap y ≤ 18446744073709551615 := by rw [IntKind.wrap_u64]; omega
  have hb0 := ms_built k
  have m1 := mk_ins1
  have m2 := mk_log1
  go_enter Try.func7, Try.ntmps7
  go_upto_region 2 with fail
  have M0 := Lib.hid (Mk.born (Below.refl w.heap.size w) (Ms.start k 0 0 0 0) rfl rfl rfl)
  clear hk hkin hjin
  go_upto_block 0 with (first | (refine wpList_build_is rfl (t := 29) (vs := [(0, .int .i64 k)]) rfl rfl hb0 ?_) | (with_reducible refine alloc_msg rfl rfl ?_) | ((with_reducible refine ms_store_new rfl rfl rfl rfl Ms.zeroM_size rfl (msg_one _) ?_)))
  generalize w.alloc (.cells (Ms.S.cells ⟨Ms.start k 0 0 0 0, none, 0, none, 0, none, 0⟩) 29) = W0 at *
  go_cut [] from 20 (fun wx => ∃ q : Ms.S, q.m = Kd.base k ∧ Mk w w.heap.size q wx)
  case first =>
    have hkin := HK.out
    simp only [List.mem_cons, List.not_mem_nil, or_false] at hkin
    have c6 := (M0.out.box.cell 6).trans (show _ = some (Value.int .i64 0) from rfl)
    have c10 := (M0.out.box.cell 10).trans (show _ = some (Value.int .i64 0) from rfl)
    have f6 := M0.out.box.free 6
    have f10 := M0.out.box.free 10
    have f13 := M0.out.box.free 13
    have c13 := (M0.out.box.cell 13).trans (show _ = some (Value.slice none 0 0) from rfl)
    have c14 := (M0.out.box.cell 14).trans (show _ = some (Value.slice none 0 0) from rfl)
    have c15 := (M0.out.box.cell 15).trans (show _ = some (Value.slice none 0 0) from rfl)
    have f14 := M0.out.box.free 14
    have f15 := M0.out.box.free 15
    have lB := M0.out.box.lt
    by_cases k2 : k = 2
    · subst k2
      go_wp2_with fail
      go_meet
      exact ⟨_, rfl, M0.out.num 6 (.int .i64 1) { Ms.start 2 0 0 0 0 with gen := 1 } rfl rfl rfl rfl⟩
    · by_cases k4 : k = 4
      · subst k4
        go_upto_region 7 with fail
        go_region
        go_wp2_with fail
        go_meet
        exact ⟨_, rfl, (Mk.newIns (M0.out.num 6 (.int .i64 1) { Ms.start 4 0 0 0 0 with gen := 1 } rfl rfl rfl rfl) [Kd.in0] rfl (by simp)).drew⟩
      · by_cases k5 : k = 5
        · subst k5
          go_wp2_with fail
          go_meet
          exact ⟨_, rfl, M0.out.newLog [Kd.e0 0] rfl (by intro s hs; obtain rfl := List.mem_singleton.1 hs; exact ⟨rfl, rfl, rfl⟩) (by simp)⟩
        · by_cases k7 : k = 7
          · subst k7
            go_wp2_with fail
            go_meet
            exact ⟨_, rfl, Mk.newData (M0.out.num 10 (.int .i64 1) { Ms.start 7 0 0 0 0 with of := 1 } rfl rfl rfl rfl) [1] rfl (by simp)⟩
          · go_wp2_with fail
            go_meet
            refine ⟨_, ?_, M0.out⟩
            simp [Kd.base, Ms.start, k2, k4, k5, k7]
  case rest =>
    obtain ⟨q, hq, hM⟩ := hcut
    have QB := Lib.hid hq
    have M1 := Lib.hid hM
    have hT := Kd.base_ty k HK.out
    have hOK := Kd.base_ok k HK.out
    have hL1 := Kd.base_len k
    rw [← hq] at hT hOK hL1
    have cm := Lib.hid (wmay_any q wc hT (hM.lies hL1.1 hL1.2.1 hL1.2.2))
    rw [Ms.okB_iff.2 hOK] at cm
    clear hq hM hT hOK hL1
    go_upto_region 14 with (first | ((with_reducible refine ms_load rfl rfl ?_); apply LoadMs.mk rfl (by with_reducible exact M1.out.box) (ms_size _)) | (go_at_call 15; ((with_reducible refine (cm.out).mono ?_); rintro r w2 ⟨rfl, hb⟩; have M2 := Lib.hid (M1.out.call hb); clear hb cm)))
    go_cut [7] from 40 (fun s wx => s = .string (strOfNums (Ms.has k)) ∧ Mk w w.heap.size q wx)
    case first =>
      have hkin := HK.out
      simp only [List.mem_cons, List.not_mem_nil, or_false] at hkin
      rcases hkin with rfl | rfl | rfl | rfl | rfl | rfl | rfl | rfl | rfl | rfl | rfl | rfl | rfl | rfl <;> (go_wp2_with fail; go_meet; exact ⟨rfl, M2.out.made _⟩)
    case rest =>
      obtain ⟨rfl, hM⟩ := hcut
      have M3 := Lib.hid hM
      clear hM M2
      go_upto_region 15 with fail
      go_cut [8] from 44 (fun s wx => ∃ p : Int, s = .int .u8 p ∧ p ∈ Kd.codes ∧ wx = wc)
      case first =>
        have hjin := HJ.out
        simp only [List.mem_cons, List.not_mem_nil, or_false] at hjin
        rcases hjin with rfl | rfl | rfl | rfl | rfl | rfl | rfl | rfl | rfl | rfl | rfl <;> (go_wp2_with fail; go_meet; exact ⟨_, rfl, by decide, rfl⟩)
      case rest =>
        obtain ⟨p, rfl, hp, rfl⟩ := hcut
        have HP := Lib.hid hp
        obtain ⟨l, hl⟩ : ∃ l, l = Ms.has k := ⟨_, rfl⟩
        rw [← hl]
        have hBl : Im.IsBytes l := by rw [hl]; exact Ms.has_bytes k
        have HLK := Lib.hid hl
        have hsz : l.length ≤ 5 := by rw [hl]; exact Ms.has_cases (Q := fun l => l.length ≤ 5) k (by decide) (by decide) (by decide) (by decide) (by decide) (by decide) (by decide) (by decide) (by decide) (by decide)
        have hsz2 := strOfNums_size l
        have HAT := Lib.hid (fun (k : Nat) (h : k < l.length) (h' : k < (strOfNums l).size) => Sx.str_at hBl k h h')
        generalize strOfNums l = st at *
        have hs63 : st.size ≤ 9223372036854775807 := by omega
        clear hp hl hj hBl
        go_wp2_with fail
        go_loop [9, 10] (fun h i => ∃ n : Nat, n ≤ l.length ∧ i = .int .i64 n ∧ h = .bool ((l.take n).contains p)) (fun _ i => l.length - (intOf i).toNat)
        case atStart => exact ⟨0, Nat.zero_le _, rfl, rfl⟩
        case round =>
          obtain ⟨n, hn, rfl, rfl⟩ := hrel
          by_cases hlt : n < l.length
          · have hjs : n < st.size := by omega
            have hc := HAT.out n hlt hjs
            have HN := Lib.hid (Kd.contains_next l n p hlt)
            generalize l.getD n 0 = v at hc HN
            generalize (l.take n).contains p = b at *
            by_cases hv : v = p
            · subst hv
              cases b
              · go_wp2_with fail
                go_round
                case rel => exact ⟨n + 1, by omega, by go_num, by rw [HN.out]; simp⟩
                case measure => simp [intOf]; omega
              · go_wp2_with fail
                go_round
                case rel => exact ⟨n + 1, by omega, by go_num, by rw [HN.out]; simp⟩
                case measure => simp [intOf]; omega
            · have hvb : (v == p) = false := by simpa using hv
              cases b
              · go_wp2_with fail
                go_round
                case rel => exact ⟨n + 1, by omega, by go_num, by rw [HN.out]; simp [hv]⟩
                case measure => simp [intOf]; omega
              · go_wp2_with fail
                go_round
                case rel => exact ⟨n + 1, by omega, by go_num, by rw [HN.out]; simp⟩
                case measure => simp [intOf]; omega
          · obtain rfl : n = l.length := by omega
            have hjs : st.size = l.length := by omega
            have HLN := Lib.hid (show (l.take l.length).contains p = l.contains p by rw [List.take_length])
            rw [HLN.out]
            clear HLN
            obtain ⟨cb, hcb⟩ : ∃ cb, cb = l.contains p := ⟨_, rfl⟩
            rw [← hcb]
            have HCB := Lib.hid hcb
            clear hcb
            go_upto_block 3 with fail
            go_cut [11] from 64 (fun _ wx => ∃ q' : Ms.S, q'.m = Kd.chg p (Kd.base k) ∧ Mk w w.heap.size q' wx)
            case first =>
              have hp := HP.out
              have lB := M3.out.box.lt
              simp only [Kd.codes, List.mem_cons, List.not_mem_nil, or_false] at hp
              rcases hp with rfl | rfl | rfl | rfl | rfl | rfl | rfl | rfl | rfl | rfl | rfl
              · have h1 := M3.out.box.free 5
                have c5 := (M3.out.box.cell 5).trans (show _ = some (Value.int .i64 q.m.slot) from rfl)
                go_wp2_with fail
                go_meet
                exact ⟨_, by rw [← QB.out]; rfl, M3.out.num 5 (.int .i64 3) { q.m with slot := 3 } rfl rfl rfl rfl⟩
              · have h1 := M3.out.box.free 6
                have c6 := (M3.out.box.cell 6).trans (show _ = some (Value.int .i64 q.m.gen) from rfl)
                go_wp2_with fail
                go_meet
                exact ⟨_, by rw [← QB.out]; rfl, M3.out.num 6 (.int .i64 2) { q.m with gen := 2 } rfl rfl rfl rfl⟩
              · have h1 := M3.out.box.free 7
                have c7 := (M3.out.box.cell 7).trans (show _ = some (Value.int .i64 q.m.frame) from rfl)
                have M7 := Lib.hid (M3.out.num 7 (.int .i64 4) { q.m with frame := 4 } rfl rfl rfl rfl)
                by_cases k5 : k = 5
                · subst k5
                  have hlog : q.m.log = [Kd.e0 0] := by rw [QB.out]; rfl
                  rcases M7.out.rl with ⟨_, _, hno⟩ | ⟨S, hal, hS, _⟩
                  · exact absurd (hlog.symm.trans hno) (fun h => by cases h)
                  · have hal' : q.al = some ⟨S, 0, none⟩ := hal
                    have hS' : Box (wc.setCell ⟨w.heap.size, 7, none⟩ (.int .i64 4)) S 53 (En.sCells q.m.log).toArray := hS
                    have M8 := Lib.hid (M7.out.logCell (j := 0) (v := .int .i64 4) (l := [Kd.e0 4]) hal hS rfl (by show 1 = q.m.log.length; rw [hlog]; rfl) (by show (En.sCells q.m.log).toArray.setIfInBounds 0 _ = _; rw [hlog]; rfl) (by intro s hs; obtain rfl := List.mem_singleton.1 hs; exact ⟨rfl, rfl, rfl⟩))
                    rw [hlog] at hS'
                    have s0 := (hS'.cell 0).trans (show _ = some (Value.int .i64 0) from rfl)
                    have fs := hS'.free 0
                    have ls := hS'.lt
                    have d14 := (M7.out.box.cell 14).trans (show _ = some (Value.slice q.al q.m.log.length q.cl) from rfl)
                    rw [hal', hlog] at d14
                    simp only [List.length_cons, List.length_nil, Nat.zero_add] at d14
                    have e14 := (M8.out.box.cell 14).trans (show _ = some (Value.slice q.al 1 q.cl) from rfl)
                    rw [hal'] at e14
                    have HQ := Lib.hid (show Kd.chg 102 (Kd.base 5) = { ({ q.m with frame := 4 } : Ms.M) with log := [Kd.e0 4] } by rw [← QB.out]; unfold Kd.chg; rw [if_neg (by decide), if_neg (by decide), if_pos rfl, hlog]; rfl)
                    clear hS hal hlog
                    go_wp2_with fail
                    go_loopw [11] (fun i wr => (i = .int .i64 0 ∧ wr = wc.setCell ⟨w.heap.size, 7, none⟩ (.int .i64 4)) ∨ (i = .int .i64 1 ∧ wr = (wc.setCell ⟨w.heap.size, 7, none⟩ (.int .i64 4)).setCell ⟨S, 0, none⟩ (.int .i64 4))) (fun i _ => 1 - (intOf i).toNat)
                    case atStart => exact .inl ⟨rfl, rfl⟩
                    case round =>
                      rcases hrel with ⟨rfl, rfl⟩ | ⟨rfl, rfl⟩
                      · go_wp2_with fail
                        go_roundw
                        case rel => first | exact .inr ⟨rfl, rfl⟩ | simp
                        case measure => simp [intOf]
                      · go_wp2_with fail
                        go_meet
                        exact ⟨_, HQ.out.symm, M8.out⟩
                · have hlog : q.m.log = [] := by rw [QB.out]; unfold Kd.base; exact if_neg k5
                  have HQ := Lib.hid (show Kd.chg 102 (Kd.base k) = { q.m with frame := 4 } by rw [← QB.out]; unfold Kd.chg; rw [if_neg (by decide), if_neg (by decide), if_pos rfl, hlog, List.map_nil, ← hlog])
                  have d14 := (M7.out.box.cell 14).trans (show _ = some (Value.slice q.al q.m.log.length q.cl) from rfl)
                  rw [hlog] at d14
                  simp only [List.length_nil] at d14
                  clear hlog
                  go_wp2_with fail
                  go_loopw [11] (fun i wr => (i = .int .i64 0 ∧ wr = wc.setCell ⟨w.heap.size, 7, none⟩ (.int .i64 4))) (fun i _ => 0)
                  case atStart => exact ⟨rfl, rfl⟩
                  case round =>
                    obtain ⟨rfl, rfl⟩ := hrel
                    go_wp2_with fail
                    go_meet
                    exact ⟨_, HQ.out.symm, M7.out⟩
              · have h1 := M3.out.box.free 8
                have c8 := (M3.out.box.cell 8).trans (show _ = some (Value.int .i64 q.m.code) from rfl)
                go_wp2_with fail
                go_meet
                exact ⟨_, by rw [← QB.out]; rfl, M3.out.num 8 (.int .i64 5) { q.m with code := 5 } rfl rfl rfl rfl⟩
              · have h1 := M3.out.box.free 9
                have c9 := (M3.out.box.cell 9).trans (show _ = some (Value.int .i64 q.m.n) from rfl)
                have h10 := M3.out.box.free 10
                have c10 := (M3.out.box.cell 10).trans (show _ = some (Value.int .i64 q.m.of) from rfl)
                have M7 := Lib.hid (M3.out.num 9 (.int .i64 6) { q.m with n := 6 } rfl rfl rfl rfl)
                have M8 := Lib.hid (M7.out.num 10 (.int .i64 7) { q.m with n := 6, of := 7 } rfl rfl rfl rfl)
                by_cases k7 : k = 7
                · subst k7
                  have hof : q.m.of = 1 := by rw [QB.out]; rfl
                  have HQ := Lib.hid (show Kd.chg 110 (Kd.base 7) = { q.m with n := 6, of := 7 } by rw [← QB.out]; unfold Kd.chg; rw [if_neg (by decide), if_neg (by decide), if_neg (by decide), if_neg (by decide), if_pos rfl, hof]; rfl)
                  rw [hof] at c10
                  clear hof
                  go_wp2_with fail
                  go_meet
                  exact ⟨_, HQ.out.symm, M8.out⟩
                · have hof : q.m.of = 0 := by rw [QB.out]; unfold Kd.base; exact if_neg k7
                  have HQ := Lib.hid (show Kd.chg 110 (Kd.base k) = { q.m with n := 6 } by rw [← QB.out]; unfold Kd.chg; rw [if_neg (by decide), if_neg (by decide), if_neg (by decide), if_neg (by decide), if_pos rfl, if_neg (by rw [hof]; decide)])
                  rw [hof] at c10
                  clear hof
                  go_wp2_with fail
                  go_meet
                  exact ⟨_, HQ.out.symm, M7.out⟩
              · have h1 := M3.out.box.free 10
                have c10 := (M3.out.box.cell 10).trans (show _ = some (Value.int .i64 q.m.of) from rfl)
                go_wp2_with fail
                go_meet
                exact ⟨_, by rw [← QB.out]; rfl, M3.out.num 10 (.int .i64 9) { q.m with of := 9 } rfl rfl rfl rfl⟩
              · have h1 := M3.out.box.free 11
                have c11 := (M3.out.box.cell 11).trans (show _ = some (Value.int .u32 q.m.bits) from rfl)
                go_wp2_with fail
                go_meet
                exact ⟨_, by rw [← QB.out]; rfl, M3.out.num 11 (.int .u32 10) { q.m with bits := 10 } rfl rfl rfl rfl⟩
              · have h1 := M3.out.box.free 12
                have c12 := (M3.out.box.cell 12).trans (show _ = some (Value.int .u64 q.m.sum) from rfl)
                go_wp2_with fail
                go_meet
                exact ⟨_, by rw [← QB.out]; rfl, M3.out.num 12 (.int .u64 11) { q.m with sum := 11 } rfl rfl rfl rfl⟩
              · have h1 := M3.out.box.free 13
                have c13 := (M3.out.box.cell 13).trans (show _ = some (q.si) from rfl)
                go_wp2_with fail
                go_meet
                exact ⟨_, by rw [← QB.out]; rfl, M3.out.newIns [⟨1, 0, 0⟩] rfl (by simp)⟩
              · have h1 := M3.out.box.free 14
                have c14 := (M3.out.box.cell 14).trans (show _ = some (q.sl) from rfl)
                have h7 := M3.out.box.free 7
                have f0 : q.m.frame = 0 := by rw [QB.out]; rfl
                have c7 := (M3.out.box.cell 7).trans (show _ = some (Value.int .i64 q.m.frame) from rfl)
                rw [f0] at c7
                have HQ := Lib.hid (show Kd.chg 108 (Kd.base k) = { q.m with log := [Kd.e0 0] } by rw [← QB.out]; unfold Kd.chg; rw [if_neg (by decide), if_neg (by decide), if_neg (by decide), if_neg (by decide), if_neg (by decide), if_neg (by decide), if_neg (by decide), if_neg (by decide), if_neg (by decide), if_pos rfl, show Kd.e0 q.m.frame = Kd.e0 0 by rw [f0]])
                clear f0
                have b7 := en_built7 0
                have M7 := Lib.hid (M3.out.newLog (c := 1) [Kd.e0 0] rfl (by intro s hs; obtain rfl := List.mem_singleton.1 hs; exact ⟨rfl, rfl, rfl⟩) rfl)
                rw [show (En.sCells [Kd.e0 0]).toArray = En.cells ⟨0, [], En.in0⟩ (.slice none 0 0) from rfl] at M7
                generalize (⟨0, [], En.in0⟩ : En.E) = E at *
                go_wp2_with (first | (refine wpList_build_is rfl (t := 53) (vs := [(0, .int .i64 0)]) rfl rfl b7 ?_) | ((with_reducible refine en_build rfl rfl ?_); apply BuildEn.mk rfl))
                go_meet
                exact ⟨_, HQ.out.symm, M7.out⟩
              · have h1 := M3.out.box.free 15
                have c15 := (M3.out.box.cell 15).trans (show _ = some (q.sd) from rfl)
                go_wp2_with fail
                go_meet
                exact ⟨_, by rw [← QB.out]; rfl, M3.out.newData [4, 5] rfl (by simp)⟩
            case rest =>
              obtain ⟨q', hq', hM'⟩ := hcut
              have M4 := Lib.hid hM'
              have hkin := Kd.kinds k HK.out p HP.out
              have hT' := Kd.chg_ty k HK.out p HP.out
              have hL' := Kd.chg_len k p
              rw [← hq'] at hkin hT' hL'
              rw [← HLK.out, ← HCB.out] at hkin
              have cm := fun X (hX : Below wc.heap.size wc X) => Lib.hid (wmay_any q' X hT' ((hM'.call hX).lies hL'.1 hL'.2.1 hL'.2.2))
              rw [hkin] at cm
              clear hq' hM' hkin hT' hL' M3
              go_wp2_with (first | ((with_reducible refine ms_load_g ?_ rfl ?_); (focus first | rfl | kernel_rfl | simp [Region.wanted, yielded]); apply LoadMs.mk rfl (by with_reducible exact M5.out.box) (ms_size _)) | (go_at_call 12; ((with_reducible refine ((ct _).out).mono ?_); rintro r w5 ⟨rfl, hb⟩; have M5 := Lib.hid (M4.out.call hb); have c5 := cm _ hb; clear hb cm)) | (go_at_call 15; ((with_reducible refine (c5.out).mono ?_); rintro r w6 ⟨rfl, hb⟩; have M6 := Lib.hid (M5.out.call hb); clear hb c5)))
              go_ret
              exact ⟨ret_bool (by simp), M6.out.kept⟩
end Go.Proofs.Ytgmlbimgcifenaa
