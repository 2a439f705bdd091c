/-
Several texts in one: Uk Ul.
-/
import Derived.Test.YtgmlbimgcifenaaVp13
import Derived.Test.YtgmlbimgcifenaaVk1
import Derived.Test.YtgmlbimgcifenaaVb1
import Derived.Laws.FloatArith
import Derived.Test.YtgmlbimgcifenaaRows
import Derived.WalkKit
import Derived.WalkSpells
import Derived.WalkLawsBesides
import Derived.Laws.Externs
import Derived.Laws.BitsAllLaws
import Derived.Lib.Hide
import Derived.LoopTactic
import Derived.Deep.QuietTactic
import Derived.BigQuiet
import Derived.Outline
import Derived.Laws.OwnMore
import Derived.Deep.Draws
import Derived.Laws.Rows
import Derived.Deep.MidRow
import Derived.Maps.AppendAt
import Derived.Deep.WholeRow
import Derived.Orders
import Derived.Tactics
import Derived.Tactics2
import Derived.KernelRfl
import Derived.StillTail
import Derived.Below
import Derived.RangeFuncNested
import Derived.RangeFuncBound
import Derived.RangeFuncCalls
import Derived.RangeFuncLeaves
import Derived.Shelf.Abstract
import Derived.Shelf.RegionOpen
import Derived.Laws.StructEq
import Derived.ChangeKeysEq
import Derived.Deep.CutRange
import Derived.Deep.CutBlock
import Derived.Deep.DeepCutAuto
import Derived.Deep.LoopGhost
import Derived.OwnWalkIn
import Derived.TacticsInMore
import Derived.LoopNIn
import Derived.LoopIn
import Derived.Laws.CopyOwn
import Derived.Laws.MakeOwn
import Derived.Defers
import Derived.Recover
import Derived.Laws.BytesArg
import Derived.Lib.Bytes
import Derived.Laws.ShiftsVarLaws
import Derived.RowKit
import GoSem.Claim
import Derived.ChangeShapes
import Derived.ProofKit
import Derived.OpenShut
import Derived.Carry
import Derived.Lib.SmallJoins
import Derived.ChangeOld
import Derived.ChangeArms
import Derived.Great.BuildSlice
namespace Fu
open Go Kd
def inpU (j : Nat) : Nat → Gm.In := fun i => if i < j then ⟨0, 0, 1⟩ else ⟨0, 0, 0⟩
def lv (j : Nat) : List En.Ev := (List.range j).map fun s : Nat => ⟨2, (s : Int), 1, (s : Int)⟩
def jn (j : Nat) : List En.Ev := (List.range j).map fun s : Nat => ⟨1, (s : Int), 2, (s : Int)⟩
theorem lv_next (j : Nat) : lv (j + 1) = lv j ++ [⟨2, (j : Int), 1, (j : Int)⟩] := by unfold lv; rw [List.range_succ, List.map_append]; rfl
theorem jn_next (j : Nat) : jn (j + 1) = jn j ++ [⟨1, (j : Int), 2, (j : Int)⟩] := by unfold jn; rw [List.range_succ, List.map_append]; rfl
theorem lv_len (j : Nat) : (lv j).length = j := by unfold lv; rw [List.length_map, List.length_range]
theorem jn_len (j : Nat) : (jn j).length = j := by unfold jn; rw [List.length_map, List.length_range]
def fe (i : Int) (k : Nat) : En.E := ⟨i, lv k ++ jn k, inpU 8⟩
theorem rows : ∀ k, k < 9 → En.Row (-1) (lv k ++ jn k) := by decide +kernel
theorem fe_ok {i : Int} {k : Nat} (hi : 0 ≤ i ∧ i < 1048576) (hk : k < 9) : En.Ok (fe i k) := ⟨hi, rows k hk, show ∀ j, j < 8 → En.inOk (inpU 8 j) by decide +kernel⟩
theorem evs_ty {k : Nat} (hk : k < 9) : ∀ v ∈ lv k ++ jn k, En.tyEv v := fun v hv => by
  unfold En.tyEv En.i64
  rcases List.mem_append.1 hv with hv | hv
  · obtain ⟨s, hs, rfl⟩ := List.mem_map.1 hv
    have := List.mem_range.1 hs
    dsimp only; omega
  · obtain ⟨s, hs, rfl⟩ := List.mem_map.1 hv
    have := List.mem_range.1 hs
    dsimp only; omega
theorem fe_ty {i : Int} {k : Nat} (hi : 0 ≤ i ∧ i < 1048576) (hk : k < 9) : En.Ty (fe i k) := ⟨by unfold En.i64 fe; dsimp only; omega, evs_ty hk, fun j hj => by unfold fe inpU Gm.tyIn; dsimp only; split <;> (dsimp only; omega)⟩
theorem fe_len (i : Int) (k : Nat) : (En.put (fe i k)).length = 30 + 10 * k := by
  unfold En.put fe
  simp only [List.length_append, Im.bytesOf_len, En.evsBytes_len, lv_len, jn_len]
  rw [show (En.insBytes (inpU 8) 8).length = 24 from by decide +kernel]
  omega
theorem flat_len {α β : Type} (f : α → List β) (c : Nat) : ∀ (l : List α), (∀ s ∈ l, (f s).length = c) → (l.flatMap f).length = l.length * c
  | [], _ => by simp
  | a :: l, h => by
    rw [List.flatMap_cons, List.length_append, h a (by simp), flat_len f c l (fun s hs => h s (by simp [hs])), List.length_cons, Nat.add_mul]
    omega
/-- The log's entries, wherever their events lie. -/
structure Is (l : List En.S) (n k : Nat) : Prop where
  len : l.length = n
  each : ∀ j (h : j < l.length), l[j].e = fe j k
theorem Is.next {l : List En.S} {n k : Nat} (h : Is l n k) {s : En.S} (hs : s.e = fe n k) : Is (l ++ [s]) (n + 1) k := by
  refine ⟨by rw [List.length_append, h.len]; rfl, fun j hj => ?_⟩
  by_cases hlt : j < l.length
  · rw [List.getElem_append_left hlt]; exact h.each j hlt
  · have e : j = n := by rw [List.length_append, h.len] at hj; simp at hj; rw [h.len] at hlt; omega
    subst e
    rw [List.getElem_append_right (by omega)]
    simp only [h.len, Nat.sub_self, List.getElem_cons_zero]
    exact hs
def mlog (l : List En.S) : Ms.M := { Ms.start 5 0 0 0 0 with log := l }
theorem full_ok {l : List En.S} {k : Nat} (h : Is l 16 k) (hk : k < 9) : Ms.Ok (mlog l) := by
  have e : ((mlog l).log.length : Int) = 16 := by show ((l.length : Nat) : Int) = 16; rw [h.len]; rfl
  refine ⟨?_, ?_, ?_, fun j hj => absurd hj (Nat.not_lt_zero _), fun j hj => ?_⟩
  · unfold Ms.no1 Ms.bare Ms.bareOf; rw [e]; rfl
  · rfl
  · unfold Ms.no3; rw [e]; rfl
  · have h1 := h.each j hj
    have hj2 : j < 16 := by have := h.len; have : j < l.length := hj; omega
    have e1 : (mlog l).log[j].e = fe j k := h1
    rw [e1]
    exact ⟨fe_ok ⟨by omega, by omega⟩ hk, by show ((j : Nat) : Int) = 0 + j; omega⟩
theorem full_ty {l : List En.S} {k : Nat} (h : Is l 16 k) (hk : k < 9) : Ms.Ty (mlog l) := by
  have hl : ∀ s ∈ (mlog l).log, En.Ty s.e := fun s hs => by
    obtain ⟨j, hj, rfl⟩ := List.getElem_of_mem hs
    have hj2 : j < 16 := by have := h.len; have : j < l.length := hj; omega
    have e1 : (mlog l).log[j].e = fe j k := h.each j hj
    rw [e1]
    exact fe_ty ⟨by omega, by omega⟩ hk
  exact { Ms.start_ty (k := 5) (f := 0) (s := 0) (by decide) (by decide) (by decide) with log := hl }
theorem full_len {l : List En.S} {k : Nat} (h : Is l 16 k) : (Ms.put (mlog l)).length = 19 + 16 * (32 + 10 * k) := by
  rw [Ms.put_len]
  unfold Ms.body Ms.head
  have e : (Ms.has (mlog l).kind) = [102, 108] := rfl
  rw [e]
  simp only [List.flatMap_cons, List.flatMap_nil, List.append_nil, List.length_append, Im.bytesOf_len]
  have e2 : (Ms.part (mlog l) 102).length = 4 := by unfold Ms.part; rw [if_neg (by decide), if_neg (by decide), if_pos rfl, Im.bytesOf_len]
  have e3 : (Ms.part (mlog l) 108).length = 1 + 16 * (32 + 10 * k) := by
    have e4 : Ms.part (mlog l) 108 = Im.bytesOf 1 (l.length : Int) ++ l.flatMap Ms.logBytes := rfl
    rw [e4, List.length_append, Im.bytesOf_len, flat_len Ms.logBytes (32 + 10 * k) l (fun s hs => ?_), h.len]
    obtain ⟨j, hj, rfl⟩ := List.getElem_of_mem hs
    unfold Ms.logBytes
    rw [List.length_append, Im.bytesOf_len, h.each j hj, fe_len]
    omega
  rw [e2, e3]
  omega
end Fu
namespace Go.Proofs.Ytgmlbimgcifenaa
open Go.RowKit Go.Shelf
set_option linter.unusedVariables false
set_option linter.unusedSimpArgs false

/-- What a row that is owned holds lies in its block. -/
theorem own_rowbox {w : World} {base size m c : Nat} {e : TypeId} {A : Option Addr} {xs : List Value} (h : w.ownsRow base e size (.slice A m c) m xs) : xs.length = m * size ∧ (m = 0 ∨ ∃ g cur, A = some ⟨g, 0, none⟩ ∧ Box w g e cur ∧ ∀ (j : Nat) (v : Value), xs[j]? = some v → cur[j]? = some v) := by
  obtain ⟨hl, ⟨_, h0⟩ | ⟨g, cap, cur, hv, hbg, hg, hnc, _, _, htake⟩⟩ := h
  · exact ⟨hl, .inl h0⟩
  · injection hv with hA _ hc
    refine ⟨hl, .inr ⟨g, cur, hA, ⟨hg⟩, fun j x hj => ?_⟩⟩
    rw [← htake, List.getElem?_take] at hj
    split at hj
    · simpa using hj
    · cases hj
/-- An entry's events lie in a block of their own. -/
def EvR (s : En.S) (X : World) : Prop := s.e.evs = [] ∨ ∃ g cur, s.adr = some ⟨g, 0, none⟩ ∧ Box X g 59 cur ∧ ∀ (j : Nat) (v : Value), (En.evCells s.e.evs)[j]? = some v → cur[j]? = some v
theorem EvR.keep {s : En.S} {X X' : World} (h : EvR s X) (hk : ∀ g cs, Box X g 59 cs → Box X' g 59 cs) : EvR s X' := by
  rcases h with h | ⟨g, cur, h1, h2, h3⟩
  · exact .inl h
  · exact .inr ⟨g, cur, h1, hk _ _ h2, h3⟩
theorem EvR.lies {s : En.S} {X : World} (h : EvR s X) : Lies X X.heap.size 4 s.adr s.e.evs.length (En.evCells s.e.evs) := by
  rcases h with h | ⟨g, cur, h1, h2, h3⟩
  · rw [h]; exact Lies.empty
  · refine ⟨En.evCells_len _, fun _ => ⟨_, h1, h2.lt⟩, fun ad e _ j u hj => ?_⟩
    rw [h1] at e
    injection e with e
    subst e
    rw [show Addr.add ⟨g, 0, none⟩ j = ⟨g, j, none⟩ by unfold Addr.add; split <;> simp_all]
    exact (h2.cell j).trans (h3 j u hj)
/-- A message whose log grows, by entries with events. -/
structure Gf (w : World) (B : Nat) (q : Ms.S) (X : World) : Prop where
  box : Box X B 29 q.cells
  own : X.ownsRow w.heap.size 53 26 (.slice q.al q.m.log.length q.cl) q.m.log.length (En.sCells q.m.log)
  kept : Below w.heap.size w X
  low : w.heap.size ≤ B
  bare : q.m.ins = [] ∧ q.m.data = []
  ents : ∀ s ∈ q.m.log, EvR s X ∧ s.e.evs.length ≤ 16
theorem Gf.lies {w X : World} {B : Nat} {q : Ms.S} (h : Gf w B q X) (hl : q.m.log.length ≤ 1000) : LiesM X X.heap.size q := by
  refine ⟨?_, ⟨Lies.owned h.own, fun s hs => (h.ents s hs).1.lies, fun s hs => ?_⟩, ?_, by rw [h.bare.1]; exact Nat.zero_le _, by unfold maxLen; omega, by rw [h.bare.2]; exact Nat.zero_le _⟩
  · rw [h.bare.1]; exact Lies.empty
  · have := (h.ents s hs).2; unfold maxLen; omega
  · rw [h.bare.2]; exact Lies.empty
theorem Gf.born {w X : World} (hb : Below w.heap.size w X) (m : Ms.M) (hi : m.ins = []) (hl : m.log = []) (hd : m.data = []) : Gf w X.heap.size ⟨m, none, 0, none, 0, none, 0⟩ (X.alloc (.cells (Ms.S.cells ⟨m, none, 0, none, 0, none, 0⟩) 29)) :=
  ⟨Box.made _ _ _, by dsimp only; rw [hl]; exact World.ownsRow_nil _ _ _ _, hb.alloc hb.size _, hb.size, ⟨hi, hd⟩, by dsimp only; rw [hl]; intro s hs; cases hs⟩
theorem Gf.call {w X X' : World} {B : Nat} {q : Ms.S} (h : Gf w B q X) (hb : Below X.heap.size X X') : Gf w B q X' :=
  ⟨h.box.below hb h.box.lt, own_below h.own hb (Nat.le_refl _), h.kept.trans (hb.mono h.kept.size), h.low, h.bare, fun s hs => ⟨(h.ents s hs).1.keep fun g cs k => k.below hb k.lt, (h.ents s hs).2⟩⟩
theorem Gf.step {w X w7 : World} {B c7 : Nat} {A7 : Option Addr} {q : Ms.S} {s : En.S} {o : Obj} (h : Gf w B q X) (hs : EvR s X ∧ s.e.evs.length ≤ 16)
    (own7 : w7.ownsRow w.heap.size 53 26 (.slice A7 (q.m.log.length + 1) c7) (q.m.log.length + 1) (En.sCells q.m.log ++ En.S.cells s)) (hg : (X.alloc o).grownBy w7 (Value.slice q.al q.m.log.length q.cl).ownBlock) :
    Gf w B { q with m := { q.m with log := q.m.log ++ [s] }, al := A7, cl := c7 } (w7.setCell ⟨B, 14, none⟩ (.slice A7 (q.m.log.length + 1) c7)) := by
  have hb := grown_box h.box h.own (by decide) hg
  have e1 : (q.m.log ++ [s]).length = q.m.log.length + 1 := by rw [List.length_append]; rfl
  have e2 : En.sCells (q.m.log ++ [s]) = En.sCells q.m.log ++ En.S.cells s := by unfold En.sCells; rw [List.flatMap_append, List.flatMap_cons, List.flatMap_nil, List.append_nil]
  have hk : ∀ g cs, Box X g 59 cs → Box (w7.setCell ⟨B, 14, none⟩ (.slice A7 (q.m.log.length + 1) c7)) g 59 cs := fun g cs k => by
    have k2 := grown_box k h.own (by decide) hg
    exact k2.far (p := ⟨B, 14, none⟩) (Box.apart k2 hb (by decide)) _
  refine ⟨?_, ?_, (below_gone (h.kept.alloc h.kept.size _) hg (own_at h.own) (Nat.le_refl _)).setCell (p := ⟨B, 14, none⟩) h.low _, h.low, h.bare, ?_⟩
  · have k := hb.put 14 (.slice A7 (q.m.log.length + 1) c7)
    have e : q.cells.setIfInBounds 14 (.slice A7 (q.m.log.length + 1) c7) = ({ q with m := { q.m with log := q.m.log ++ [s] }, al := A7, cl := c7 } : Ms.S).cells := by
      unfold Ms.S.cells Ms.cells Ms.S.sl
      dsimp only
      rw [e1]
      rfl
    rw [e] at k
    exact k
  · dsimp only
    rw [e1, e2]
    exact ownsRow_setCell_other (a := ⟨B, 14, none⟩) own7 (hb.unowned own7 (by decide)) _
  · intro x hx
    rcases List.mem_append.1 hx with hx | hx
    · exact ⟨(h.ents x hx).1.keep hk, (h.ents x hx).2⟩
    · obtain rfl := List.mem_singleton.1 hx; exact ⟨hs.1.keep hk, hs.2⟩
/-- The entry that a round makes. -/
structure Fi (X0 : World) (e : En.E) (A : Option Addr) (c : Nat) (X : World) : Prop where
  kept : Below X0.heap.size X0 X
  ent : Box X X0.heap.size 53 (En.cells e (.slice A e.evs.length c))
  own : X.ownsRow X0.heap.size 59 4 (.slice A e.evs.length c) e.evs.length (En.evCells e.evs)
theorem Fi.born (X0 : World) (f : Int) (inp : Nat → Gm.In) : Fi X0 ⟨f, [], inp⟩ none 0 (X0.alloc (.cells (En.cells ⟨f, [], inp⟩ (.slice none 0 0)) 53)) :=
  ⟨one_below _ _, Box.made _ _ _, World.ownsRow_nil _ _ _ _⟩
theorem Fi.grow {X0 X w7 : World} {e : En.E} {A A7 : Option Addr} {c c7 : Nat} {v : En.Ev} {o : Obj} (h : Fi X0 e A c X)
    (own7 : w7.ownsRow X0.heap.size 59 4 (.slice A7 (e.evs.length + 1) c7) (e.evs.length + 1) (En.evCells e.evs ++ v.cells)) (hg : (X.alloc o).grownBy w7 (Value.slice A e.evs.length c).ownBlock) :
    Fi X0 { e with evs := e.evs ++ [v] } A7 c7 (w7.setCell ⟨X0.heap.size, 1, none⟩ (.slice A7 (e.evs.length + 1) c7)) := by
  have hb := grown_box h.ent h.own (by decide) hg
  have e1 : (e.evs ++ [v]).length = e.evs.length + 1 := by rw [List.length_append]; rfl
  have e2 : En.evCells (e.evs ++ [v]) = En.evCells e.evs ++ v.cells := by unfold En.evCells; rw [List.flatMap_append, List.flatMap_cons, List.flatMap_nil, List.append_nil]
  refine ⟨(below_gone (h.kept.alloc h.kept.size _) hg (own_at h.own) (Nat.le_refl _)).setCell (p := ⟨X0.heap.size, 1, none⟩) (Nat.le_refl _) _, ?_, ?_⟩
  · have k := hb.put 1 (.slice A7 (e.evs.length + 1) c7)
    have k2 : (En.cells e (.slice A e.evs.length c)).setIfInBounds 1 (.slice A7 (e.evs.length + 1) c7) = En.cells { e with evs := e.evs ++ [v] } (.slice A7 (e.evs ++ [v]).length c7) := by rw [e1]; rfl
    rw [k2] at k
    exact k
  · dsimp only
    rw [e1, e2]
    exact ownsRow_setCell_other (a := ⟨X0.heap.size, 1, none⟩) own7 (hb.unowned own7 (by decide)) _
theorem Fi.growN {X0 X w7 : World} {e : En.E} {A A7 : Option Addr} {c c7 n : Nat} {v : En.Ev} {o : Obj} (h : Fi X0 e A c X) (hn : e.evs.length = n)
    (own7 : w7.ownsRow X0.heap.size 59 4 (.slice A7 (n + 1) c7) (n + 1) (En.evCells e.evs ++ v.cells)) (hg : (X.alloc o).grownBy w7 (Value.slice A n c).ownBlock) :
    Fi X0 { e with evs := e.evs ++ [v] } A7 c7 (w7.setCell ⟨X0.heap.size, 1, none⟩ (.slice A7 (n + 1) c7)) := by
  subst hn
  exact h.grow own7 hg
theorem Gf.stepN {w X w7 : World} {B c7 n : Nat} {A7 : Option Addr} {q : Ms.S} {s : En.S} {o : Obj} (h : Gf w B q X) (hn : q.m.log.length = n) (hs : EvR s X ∧ s.e.evs.length ≤ 16)
    (own7 : w7.ownsRow w.heap.size 53 26 (.slice A7 (n + 1) c7) (n + 1) (En.sCells q.m.log ++ En.S.cells s)) (hg : (X.alloc o).grownBy w7 (Value.slice q.al n q.cl).ownBlock) :
    Gf w B { q with m := { q.m with log := q.m.log ++ [s] }, al := A7, cl := c7 } (w7.setCell ⟨B, 14, none⟩ (.slice A7 (n + 1) c7)) := by
  subst hn
  exact h.step hs own7 hg
theorem inpU_cell (f : Int) (evs : List En.Ev) (v : Value) {j : Nat} (hj : j < 8) : (En.cells ⟨f, evs, Fu.inpU j⟩ v)[2 + j * 3 + 2]? = some (Value.int .u8 0) := by
  have h8 : j = 0 ∨ j = 1 ∨ j = 2 ∨ j = 3 ∨ j = 4 ∨ j = 5 ∨ j = 6 ∨ j = 7 := by omega
  rcases h8 with rfl | rfl | rfl | rfl | rfl | rfl | rfl | rfl <;> rfl
theorem mlog_with {m : Ms.M} (h : m = Fu.mlog m.log) (L : List En.S) : ({ m with log := L } : Ms.M) = Fu.mlog L := by rw [h]; rfl
theorem Fi.inp {X0 X : World} {f : Int} {evs : List En.Ev} {A : Option Addr} {c j : Nat} (h : Fi X0 ⟨f, evs, Fu.inpU j⟩ A c X) (hj : j < 8) : Fi X0 ⟨f, evs, Fu.inpU (j + 1)⟩ A c (X.setCell ⟨X0.heap.size, 2 + j * 3 + 2, none⟩ (.int .u8 1)) := by
  refine ⟨h.kept.setCell (p := ⟨X0.heap.size, 2 + j * 3 + 2, none⟩) (Nat.le_refl _) _, ?_, ownsRow_setCell_other (a := ⟨X0.heap.size, 2 + j * 3 + 2, none⟩) h.own (h.ent.unowned h.own (by decide)) _⟩
  have k := h.ent.put (2 + j * 3 + 2) (.int .u8 1)
  have e : (En.cells ⟨f, evs, Fu.inpU j⟩ (.slice A evs.length c)).setIfInBounds (2 + j * 3 + 2) (.int .u8 1) = En.cells ⟨f, evs, Fu.inpU (j + 1)⟩ (.slice A evs.length c) := by
    have h8 : j = 0 ∨ j = 1 ∨ j = 2 ∨ j = 3 ∨ j = 4 ∨ j = 5 ∨ j = 6 ∨ j = 7 := by omega
    rcases h8 with rfl | rfl | rfl | rfl | rfl | rfl | rfl | rfl <;> rfl
  rw [e] at k
  exact k
theorem Fi.evr {X0 X : World} {e : En.E} {A : Option Addr} {c : Nat} (h : Fi X0 e A c X) : EvR ⟨e, A, c⟩ X := by
  obtain ⟨_, h0 | ⟨g, cur, h1, h2, h3⟩⟩ := own_rowbox h.own
  · exact .inl (List.eq_nil_of_length_eq_zero h0)
  · exact .inr ⟨g, cur, h1, h2, h3⟩
end Go.Proofs.Ytgmlbimgcifenaa
namespace Go.Proofs.Ytgmlbimgcifenaa
open Go.RowKit Go.Shelf
set_option linter.unusedVariables false
set_option linter.unusedSimpArgs false

theorem evs1_fillU (k s g p : Int) : Instr.fill (fun i => some (i * 4, 4)) ((Array.range (1 * 4)).map ((Value.agg #[.int .i64 0, .int .i64 0, .int .i64 0, .int .i64 0]).cells[· % (Value.agg #[.int .i64 0, .int .i64 0, .int .i64 0, .int .i64 0]).cells.size]!)) [(0, .agg #[.int .i64 k, .int .i64 s, .int .i64 g, .int .i64 p])] = some #[.int .i64 k, .int .i64 s, .int .i64 g, .int .i64 p] := by kernel_rfl
theorem evs1U (k s g p : Int) (W : World) : (Instr.buildSlice 47 1 #[(0, .agg #[.int .i64 k, .int .i64 s, .int .i64 g, .int .i64 p])]).run Try.prog W = .ok (.slice (some ⟨W.heap.size, 0, none⟩) 1 1) (W.alloc (.cells #[.int .i64 k, .int .i64 s, .int .i64 g, .int .i64 p] 59)) := by
  obtain ⟨i, hi, hz, hs, _⟩ := info_parts zev_infoZ
  exact run_buildSlice W _ _ 1 _ _ i _ Try.underlying47 hi hz (by rw [hs]; decide) (by rw [hs]; decide) (by rw [hs]; exact evs1_fillU k s g p)
theorem ev_built4 (a b c d : Int) : Try.prog.built 59 [(0, .int .i64 a), (1, .int .i64 b), (2, .int .i64 c), (3, .int .i64 d)] = some #[.int .i64 a, .int .i64 b, .int .i64 c, .int .i64 d] := by kernel_rfl
theorem en_builtU (f : Int) : Try.prog.built 53 [(0, .int .i64 f)] = some (En.cells ⟨f, [], Fu.inpU 0⟩ (.slice none 0 0)) := by kernel_rfl
theorem mod9 (x : Int) (h : -9223372036854775808 ≤ x ∧ x ≤ 9223372036854775807) : ∃ k : Nat, IntKind.u64.wrap x % 9 = (k : Int) ∧ k < 9 := by
  have u0 : 0 ≤ IntKind.u64.wrap x := by rw [IntKind.wrap_u64]; omega
  exact ⟨(IntKind.u64.wrap x % 9).toNat, by omega, by omega⟩

set_option maxRecDepth 100000 in
set_option maxHeartbeats 4000000 in
theorem full12_law (x : Int) (w : World) (hx : -9223372036854775808 ≤ x ∧ x ≤ 9223372036854775807) :
    Calls Try.prog 10 #[.int .i64 x] w fun e w' => e = .returned (.bool true) ∧ Below w.heap.size w w' := by
  have ct := fun X => Lib.hid (told12_any X)
  obtain ⟨k, hk, hk9⟩ := mod9 x hx
  have u0 : 0 ≤ IntKind.u64.wrap x := by rw [IntKind.wrap_u64]; omega
  have u1 : IntKind.u64.wrap x ≤ 18446744073709551615 := by rw [IntKind.wrap_u64]; omega
  have M0 := Lib.hid (Gf.born (Below.refl w.heap.size w) (Ms.start 5 0 0 0 0) rfl rfl rfl)
  have hb0 := ms_built 5
  have be := fun i => Lib.hid (en_builtU i)
  have bv := fun a b c d => Lib.hid (ev_built4 a b c d)
  obtain ⟨i0, hi0, hz0, hz1, hz2⟩ := info_parts zev_infoZ
  have hI := Lib.hid hi0
  have hZ := Lib.hid hz0
  have hS := Lib.hid hz1
  have hY := Lib.hid hz2
  obtain ⟨j0, hj0, hx0, hx1, hx2⟩ := info_parts zen_infoZ
  have nI := Lib.hid hj0
  have nZ := Lib.hid hx0
  have nS := Lib.hid hx1
  have nY := Lib.hid hx2
  clear hi0 hz0 hz1 hz2 hj0 hx0 hx1 hx2
  go_enter Try.func10, Try.ntmps10
  go_upto_region 3 with (first | (refine wpList_build_is rfl (t := 29) (vs := [(0, .int .i64 5)]) rfl rfl hb0 ?_) | (with_reducible refine alloc_msg rfl rfl ?_) | ((with_reducible refine ms_store_new rfl rfl rfl rfl Ms.zeroM_size rfl (msg_one _) ?_)))
  clear hk
  generalize w.alloc (.cells (Ms.S.cells ⟨Ms.start 5 0 0 0 0, none, 0, none, 0, none, 0⟩) 29) = W0 at *
  go_wp2_with fail
  go_loopw [5, 7, 8, 9] (fun i _ _ _ wr => ∃ (n : Nat) (q : Ms.S), n ≤ 16 ∧ i = .int .i64 n ∧ q.m = Fu.mlog q.m.log ∧ Fu.Is q.m.log n k ∧ Gf w w.heap.size q wr) (fun i _ _ _ _ => 16 - (intOf i).toNat)
  case atStart => exact ⟨0, _, by decide, rfl, rfl, ⟨rfl, fun j h => absurd h (Nat.not_lt_zero _)⟩, M0.out⟩
  case round =>
    obtain ⟨n, q, hn, rfl, hq, hIs, hG⟩ := hrel
    obtain ⟨X0, rfl⟩ : ∃ X0, X0 = wr := ⟨_, rfl⟩
    have GG := Lib.hid hG
    have QM := Lib.hid hq
    have QI := Lib.hid hIs
    clear hG hq hIs
    by_cases hn16 : n < 16
    · have hn8 : (n : Int) < 16 := by omega
      have F0 := Lib.hid (Fi.born X0 (n : Int) (Fu.inpU 0))
      have bn := (be (n : Int)).out
      go_upto_region 7 with (first | (refine wpList_build_is rfl (t := 53) (vs := [(0, .int .i64 (n : Int))]) rfl rfl bn ?_) | (with_reducible refine alloc_en rfl rfl ?_) | (with_reducible refine en_store_new rfl rfl rfl rfl En.zeroC_size rfl ?_))
      generalize X0.alloc (.cells (En.cells ⟨(n : Int), [], Fu.inpU 0⟩ (.slice none 0 0)) 53) = W1 at *
      go_wp2_with fail
      go_loopw [7] (fun jv wx => ∃ (t : Nat) (A : Option Addr) (c : Nat), t ≤ k ∧ jv = .int .i64 t ∧ Fi X0 ⟨(n : Int), Fu.lv t, Fu.inpU 0⟩ A c wx) (fun jv _ => k - (intOf jv).toNat)
      case atStart => exact ⟨0, _, _, Nat.zero_le _, rfl, F0.out⟩
      case round =>
        obtain ⟨t, A, c, ht, rfl, hF⟩ := hrel
        have FF := Lib.hid hF
        have hln : (Fu.lv t).length = t := by simp only [List.length_append, Fu.lv_len, Fu.jn_len]
        have HLN := Lib.hid hln
        by_cases hlt : t < k
        · have ht8 : (t : Int) < (k : Int) := by omega
          have d1 := (hF.ent.cell 1).trans (En.cells_1 _ _)
          rw [show (En.E.evs ⟨(n : Int), Fu.lv t, Fu.inpU 0⟩).length = t from hln] at d1
          have f1 := hF.ent.free 1
          have l1 := hF.ent.lt
          have sl := evs1U 2 (t : Int) 1 (t : Int)
          have bt := (bv 2 (t : Int) 1 (t : Int)).out
          have OW := Lib.hid (show wr.ownsRow X0.heap.size 59 4 (.slice A (t) c) (t) (En.evCells (Fu.lv t)) by have o := hF.own; rw [show (En.E.evs ⟨(n : Int), Fu.lv t, Fu.inpU 0⟩).length = t from hln] at o; exact o)
          have kS := hF.kept.size
          clear hF hln
          go_upto_region 9 with (first | (refine wpList_build_is rfl (t := 59) (vs := [(0, .int .i64 2), (1, .int .i64 (t : Int)), (2, .int .i64 1), (3, .int .i64 (t : Int))]) rfl rfl bt ?_) | ((with_reducible refine append_gate (t := 47) (e := 59) (size := 4) (bytes := 32) rfl rfl Try.underlying47 hI.out hZ.out hS.out hY.out rfl (by decide) ?_); refine Appends.mk (base := X0.heap.size) (n := t) (xs := En.evCells (Fu.lv t)) rfl (OW.out.alloc _) (Lies.boxed (n := 1) (size := 4) (xs := [Value.int .i64 2, Value.int .i64 (t : Int), Value.int .i64 1, Value.int .i64 (t : Int)]) (Box.made wr 59 #[.int .i64 2, .int .i64 (t : Int), .int .i64 1, .int .i64 (t : Int)]) rfl) (by intro u hu; simp at hu; rcases hu with rfl | rfl | rfl | rfl <;> rfl) (by unfold maxLen; omega) (by omega) (by simp; omega) ?_; intro A7 c7 w7 own7 hg7; have OW7 := Lib.hid own7; have HG7 := Lib.hid (show World.grownBy (wr.alloc _) w7 (Value.slice A (t) c).ownBlock from hg7); have B7 := Lib.hid (grown_box FF.out.ent OW.out (by decide) hg7); have b7 := (B7.out.cell 1).trans (En.cells_1 _ _); have f7 := B7.out.free 1; have l7 := B7.out.lt; clear own7 hg7))
          have G8 := Lib.hid (show Fi X0 ⟨(n : Int), Fu.lv (t + 1), Fu.inpU 0⟩ A7 c7 (w7.setCell ⟨X0.heap.size, 1, none⟩ (.slice A7 (t + 1) c7)) by
            have r := Fi.growN (v := ⟨2, (t : Int), 1, (t : Int)⟩) FF.out HLN.out OW7.out HG7.out
            rw [Fu.lv_next]
            exact r)
          clear b7 f7 l7 B7 HG7 OW7 d1 f1 l1
          generalize w7.setCell ⟨X0.heap.size, 1, none⟩ (.slice A7 (t + 1) c7) = w8 at *
          go_wp2
          go_roundw
          case rel => exact ⟨t + 1, A7, c7, by omega, by go_num, G8.out⟩
          case measure => simp [intOf]; omega
        · obtain rfl : k = t := by omega
          go_wp2_with fail
          go_loopw [8] (fun jv wx => ∃ (s : Nat) (A : Option Addr) (c : Nat), s ≤ k ∧ jv = .int .i64 s ∧ Fi X0 ⟨(n : Int), Fu.lv k ++ Fu.jn s, Fu.inpU 0⟩ A c wx) (fun jv _ => k - (intOf jv).toNat)
          case atStart => exact ⟨0, _, _, Nat.zero_le _, rfl, by rw [show Fu.lv k ++ Fu.jn 0 = Fu.lv k from List.append_nil _]; exact FF.out⟩
          case round =>
            obtain ⟨s, A2, c2, ht, rfl, hF⟩ := hrel
            have FF := Lib.hid hF
            have hln : (Fu.lv k ++ Fu.jn s).length = k + s := by simp only [List.length_append, Fu.lv_len, Fu.jn_len]
            have HLN := Lib.hid hln
            by_cases hlt : s < k
            · have ht8 : (s : Int) < (k : Int) := by omega
              have d1 := (hF.ent.cell 1).trans (En.cells_1 _ _)
              rw [show (En.E.evs ⟨(n : Int), Fu.lv k ++ Fu.jn s, Fu.inpU 0⟩).length = k + s from hln] at d1
              have f1 := hF.ent.free 1
              have l1 := hF.ent.lt
              have sl := evs1U 1 (s : Int) 2 (s : Int)
              have bt := (bv 1 (s : Int) 2 (s : Int)).out
              have OW := Lib.hid (show wr.ownsRow X0.heap.size 59 4 (.slice A2 (k + s) c2) (k + s) (En.evCells (Fu.lv k ++ Fu.jn s)) by have o := hF.own; rw [show (En.E.evs ⟨(n : Int), Fu.lv k ++ Fu.jn s, Fu.inpU 0⟩).length = k + s from hln] at o; exact o)
              have kS := hF.kept.size
              clear hF hln
              go_upto_region 13 with (first | (refine wpList_build_is rfl (t := 59) (vs := [(0, .int .i64 1), (1, .int .i64 (s : Int)), (2, .int .i64 2), (3, .int .i64 (s : Int))]) rfl rfl bt ?_) | ((with_reducible refine append_gate (t := 47) (e := 59) (size := 4) (bytes := 32) rfl rfl Try.underlying47 hI.out hZ.out hS.out hY.out rfl (by decide) ?_); refine Appends.mk (base := X0.heap.size) (n := k + s) (xs := En.evCells (Fu.lv k ++ Fu.jn s)) rfl (OW.out.alloc _) (Lies.boxed (n := 1) (size := 4) (xs := [Value.int .i64 1, Value.int .i64 (s : Int), Value.int .i64 2, Value.int .i64 (s : Int)]) (Box.made wr 59 #[.int .i64 1, .int .i64 (s : Int), .int .i64 2, .int .i64 (s : Int)]) rfl) (by intro u hu; simp at hu; rcases hu with rfl | rfl | rfl | rfl <;> rfl) (by unfold maxLen; omega) (by omega) (by simp; omega) ?_; intro A7 c7 w7 own7 hg7; have OW7 := Lib.hid own7; have HG7 := Lib.hid (show World.grownBy (wr.alloc _) w7 (Value.slice A2 (k + s) c2).ownBlock from hg7); have B7 := Lib.hid (grown_box FF.out.ent OW.out (by decide) hg7); have b7 := (B7.out.cell 1).trans (En.cells_1 _ _); have f7 := B7.out.free 1; have l7 := B7.out.lt; clear own7 hg7))
              have G8 := Lib.hid (show Fi X0 ⟨(n : Int), Fu.lv k ++ Fu.jn (s + 1), Fu.inpU 0⟩ A7 c7 (w7.setCell ⟨X0.heap.size, 1, none⟩ (.slice A7 (k + s + 1) c7)) by
                have r := Fi.growN (v := ⟨1, (s : Int), 2, (s : Int)⟩) FF.out HLN.out OW7.out HG7.out
                rw [Fu.jn_next, ← List.append_assoc]
                exact r)
              clear b7 f7 l7 B7 HG7 OW7 d1 f1 l1
              generalize w7.setCell ⟨X0.heap.size, 1, none⟩ (.slice A7 (k + s + 1) c7) = w8 at *
              go_wp2
              go_roundw
              case rel => exact ⟨s + 1, A7, c7, by omega, by go_num, G8.out⟩
              case measure => simp [intOf]; omega
            · obtain rfl : k = s := by omega
              have L2 := Lib.hid hln
              clear hln HLN
              go_wp2_with fail
              go_loopw [9] (fun jv wx => ∃ t3 : Nat, t3 ≤ 8 ∧ jv = .int .i64 t3 ∧ Fi X0 ⟨(n : Int), Fu.lv k ++ Fu.jn k, Fu.inpU t3⟩ A2 c2 wx) (fun jv _ => 8 - (intOf jv).toNat)
              case atStart => exact ⟨0, by decide, rfl, FF.out⟩
              case round =>
                obtain ⟨t3, ht3, rfl, hF3⟩ := hrel
                by_cases h8 : t3 < 8
                · have ff3 := fun i => hF3.ent.free i
                  have ll3 := hF3.ent.lt
                  have cc3 := (hF3.ent.cell (2 + t3 * 3 + 2)).trans (inpU_cell (n : Int) (Fu.lv k ++ Fu.jn k) _ h8)
                  have h88 : t3 = 0 ∨ t3 = 1 ∨ t3 = 2 ∨ t3 = 3 ∨ t3 = 4 ∨ t3 = 5 ∨ t3 = 6 ∨ t3 = 7 := by omega
                  rcases h88 with rfl | rfl | rfl | rfl | rfl | rfl | rfl | rfl
                  all_goals (
                    have F4 := Lib.hid (hF3.inp (by decide))
                    have cc := cc3
                    simp only [Nat.reduceMul, Nat.reduceAdd] at F4 cc
                    go_wp2_with fail
                    go_roundw
                    case rel => exact ⟨_, by decide, rfl, F4.out⟩
                    case measure => simp [intOf])
                · obtain rfl : t3 = 8 := by omega
                  have FE := Lib.hid hF3
                  have G1 := Lib.hid (Gf.call GG.out hF3.kept)
                  have EB := Lib.hid (show Box wr X0.heap.size 53 (En.cells (Fu.fe (n : Int) k) (.slice A2 (Fu.lv k ++ Fu.jn k).length c2)) from hF3.ent)
                  have d14 := (G1.out.box.cell 14).trans (show _ = some (Value.slice q.al q.m.log.length q.cl) from rfl)
                  rw [QI.out.len] at d14
                  have f14 := G1.out.box.free 14
                  have l14 := G1.out.box.lt
                  have OW := Lib.hid (show wr.ownsRow w.heap.size 53 26 (.slice q.al n q.cl) n (En.sCells q.m.log) by have o := G1.out.own; rw [QI.out.len] at o; exact o)
                  have ES := Lib.hid (show (En.cells (Fu.fe (n : Int) k) (.slice A2 (Fu.lv k ++ Fu.jn k).length c2)).toList = En.S.cells ⟨Fu.fe (n : Int) k, A2, c2⟩ from rfl)
                  have kS := G1.out.kept.size
                  have ER := Lib.hid (show EvR ⟨Fu.fe (n : Int) k, A2, c2⟩ wr ∧ (⟨Fu.fe (n : Int) k, A2, c2⟩ : En.S).e.evs.length ≤ 16 from ⟨hF3.evr, by show (Fu.lv k ++ Fu.jn k).length ≤ 16; rw [L2.out]; omega⟩)
                  clear hF3
                  generalize (Fu.lv k ++ Fu.jn k).length = ne at *
                  go_upto_region 5 with (first | ((with_reducible refine en_load rfl rfl ?_); apply LoadEn.mk rfl; (focus (with_reducible exact EB.out)); dsimp only) | ((with_reducible refine en_build rfl rfl ?_); apply BuildEn.mk rfl) | ((with_reducible refine append_gate (t := 26) (e := 53) (size := 26) (bytes := 56) rfl rfl Try.underlying26 nI.out nZ.out nS.out nY.out rfl (by decide) ?_); refine Appends.mk (base := w.heap.size) (n := n) (xs := En.sCells q.m.log) rfl (OW.out.alloc _) (Lies.boxed (n := 1) (size := 26) (xs := (En.cells (Fu.fe (n : Int) k) (.slice A2 ne c2)).toList) (by rw [Array.toArray_toList]; exact Box.made wr 53 (En.cells (Fu.fe (n : Int) k) (.slice A2 ne c2))) rfl) (fun u hu => by have := En.cells_one (Fu.fe (n : Int) k) (.slice A2 ne c2) rfl; rw [Array.all_eq_true'] at this; exact this u (Array.mem_toList_iff.1 hu)) (by unfold maxLen; omega) (by omega) (by simp; omega) ?_; intro A7 c7 w7 own7 hg7; have OW7 := Lib.hid own7; have HG7 := Lib.hid (show World.grownBy (wr.alloc _) w7 (Value.slice q.al n q.cl).ownBlock from hg7); have B7 := Lib.hid (grown_box G1.out.box OW.out (by decide) hg7); have b7 := (B7.out.cell 14).trans (show _ = some (Value.slice q.al q.m.log.length q.cl) from rfl); have f7 := B7.out.free 14; have l7 := B7.out.lt; clear own7 hg7))
                  have G8 := Lib.hid (Gf.stepN (s := ⟨Fu.fe (n : Int) k, A2, c2⟩) G1.out QI.out.len ER.out (by have o := OW7.out; rw [ES.out] at o; exact o) HG7.out)
                  have E8 := Lib.hid (mlog_with QM.out (q.m.log ++ [⟨Fu.fe (n : Int) k, A2, c2⟩]))
                  clear b7 f7 l7 B7 HG7 OW7 ES d14 f14 l14
                  generalize w7.setCell ⟨w.heap.size, 14, none⟩ (.slice A7 (n + 1) c7) = w8 at *
                  go_wp2
                  go_roundw
                  case rel => exact ⟨n + 1, _, by omega, by go_num, E8.out, QI.out.next rfl, G8.out⟩
                  case measure => simp [intOf]; omega
    · obtain rfl : n = 16 := by omega
      have hm := QM.out
      have hO := Fu.full_ok QI.out hk9
      have hT := Fu.full_ty QI.out hk9
      have hS := Fu.full_len QI.out
      rw [← hm] at hO hT hS
      have cp := Lib.hid (wput_yes q X0 hT hO (GG.out.lies (by rw [QI.out.len]; decide)))
      have B1 := Lib.hid GG.out.box
      have K1 := Lib.hid GG.out.kept
      unfold SaysPut at cp
      rw [hS] at cp
      clear hm hO hT hS
      by_cases hle : 19 + 16 * (32 + 10 * k) ≤ 1200
      · have i1 : ¬ (1200 : Int) < 19 + 16 * (8 + 10 * (k : Int) + 24) := by omega
        have e1 : ((19 + 16 * (32 + 10 * k) : Nat) : Int) = 19 + 16 * (8 + 10 * (k : Int) + 24) := by omega
        have HE := Lib.hid e1
        generalize 19 + 16 * (32 + 10 * k) = sz at *
        go_wp2_with (first | ((with_reducible refine ms_load rfl rfl ?_); apply LoadMs.mk rfl (by with_reducible exact B1.out) (ms_size _)) | (go_at_call 14; ((with_reducible refine (cp.out).mono ?_); rintro r w2 (⟨_, A2, c2, rfl, _, _, hb⟩ | ⟨hno, _⟩); (all_goals first | exact absurd hle hno | (have K2 := Lib.hid (K1.out.trans (hb.mono K1.out.size)); clear hb cp)))) | (go_at_call 12; ((with_reducible refine ((ct _).out).mono ?_); rintro r w5 ⟨rfl, hb⟩; have K5 := Lib.hid (K2.out.trans (hb.mono K2.out.size)); clear hb)))
        go_ret
        exact ⟨ret_bool (by simp [HE.out]), K5.out⟩
      · have i1 : (1200 : Int) < 19 + 16 * (8 + 10 * (k : Int) + 24) := by omega
        go_wp2_with (first | ((with_reducible refine ms_load rfl rfl ?_); apply LoadMs.mk rfl (by with_reducible exact B1.out) (ms_size _)) | (go_at_call 14; ((with_reducible refine (cp.out).mono ?_); rintro r w2 (⟨hyes, _⟩ | ⟨_, rfl, hb⟩); (all_goals first | exact absurd hyes hle | (have K2 := Lib.hid (K1.out.trans (hb.mono K1.out.size)); clear hb cp)))) | (go_at_call 12; ((with_reducible refine ((ct _).out).mono ?_); rintro r w5 ⟨rfl, hb⟩; have K5 := Lib.hid (K2.out.trans (hb.mono K2.out.size)); clear hb)))
        go_ret
        exact ⟨rfl, K5.out⟩
end Go.Proofs.Ytgmlbimgcifenaa
