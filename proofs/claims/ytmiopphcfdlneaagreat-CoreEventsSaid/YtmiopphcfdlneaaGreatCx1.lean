/-
Several texts in one: Fl Kp Bz Mw Mv Rx Rz By Ow Ia.
-/
import Derived.Laws.FloatArith
import Derived.Test.YtmiopphcfdlneaaGreatRows
import Derived.WalkKit
import Derived.WalkSpells
import Derived.WalkLawsBesides
import Derived.Laws.Externs
import Derived.Laws.BitsAllLaws
import Derived.Lib.Hide
import Derived.LoopTactic
import Derived.Deep.QuietTactic
import Derived.BigQuiet
import Derived.Outline
import Derived.Laws.OwnMore
import Derived.Deep.Draws
import Derived.Laws.Rows
import Derived.Deep.MidRow
import Derived.Maps.AppendAt
import Derived.Deep.WholeRow
import Derived.Orders
import Derived.Tactics
import Derived.Tactics2
import Derived.KernelRfl
import Derived.StillTail
import Derived.Below
import Derived.RangeFuncNested
import Derived.RangeFuncBound
import Derived.RangeFuncCalls
import Derived.RangeFuncLeaves
import Derived.Shelf.Abstract
import Derived.Shelf.RegionOpen
import Derived.Laws.StructEq
import Derived.ChangeKeysEq
import Derived.Deep.CutRange
import Derived.Deep.CutBlock
import Derived.Deep.DeepCutAuto
import Derived.Deep.LoopGhost
import Derived.OwnWalkIn
import Derived.TacticsInMore
import Derived.LoopNIn
import Derived.LoopIn
import Derived.Laws.CopyOwn
import Derived.Laws.MakeOwn
import Derived.Defers
import Derived.Recover
import Derived.RowKit
import GoSem.Claim
import Derived.ChangeShapes
import Derived.ProofKit
import Derived.OpenShut
import Derived.Carry
import Derived.Lib.SmallJoins
import Derived.ChangeOld
import Derived.ChangeArms
import Derived.OrdersIn
import Derived.Laws.EntriesVeiled
import Derived.Laws.IdiomStrings
import Derived.OneCell
import Derived.Deep.RegionWith
import Derived.Deep.RegionLaw
import Derived.Laws.Bits64
import Derived.Great.BuildSlice
import Derived.Laws.BytesArg
import Derived.Deep.DrawnRows
import Derived.BigRegion
import Derived.Lib.Bytes
import Derived.ArgAppend
import Derived.Lib.SliceRun
import Derived.MapKept
import Derived.Maps.RangeRun
import Derived.Maps.Range
set_option maxRecDepth 100000
set_option maxHeartbeats 8000000
set_option linter.unusedVariables false
set_option linter.unusedSimpArgs false
theorem qh {p : Prop} (h : p) : Go.RowKit.Hid p := h
namespace Fl
open Ieee
end Fl
namespace Go.Proofs.YtmiopphcfdlneaaGreat
open Go.RowKit
theorem qal {a b : Bool} (h : a = b) : Ending.returned (.bool a) = .returned (.bool b) := by rw [h]
theorem qbL {k : IntKind} {a b : Int} (h : a = b) : Ending.returned (.int k a) = .returned (.int k b) := by rw [h]
def Kept (v w : World) : Prop := Below v.heap.size v w
theorem Kept.refl (w : World) : Kept w w := Below.refl _ _
theorem Kept.on {v w w' : World} (h : Kept v w) (h' : Below w.heap.size w w') : Kept v w' := Below.trans h (h'.mono (Below.size h))
theorem qiB {P : Program} {f : FuncId} {args : Array Value} {a w : World} {v : Value} (hb : Kept a w)
 (h : Calls P f args w fun e w' => e = .returned v /\ Below w.heap.size w w') : Calls P f args w fun e w' => e = .returned v /\ Kept a w' :=
 h.mono fun _ _ ⟨he, h'⟩ => ⟨he, hb.on h'⟩
theorem qb9 {P : Program} {f : FuncId} {args : Array Value} {w : World} {n : Nat} {v : Value}
 (h : Calls P f args (w.drewN n) fun e w' => e = .returned v /\ w.drewN n = w') : Calls P f args (w.drewN n) fun e w'' => e = .returned v /\ ∃ m, w'' = w.drewN m :=
 h.mono fun _ _ ⟨he, hm⟩ => ⟨he, n, hm.symm⟩
theorem qaA {B : Nat} {a w : World} (h : Below B a w) (n : Nat) : Below B a (w.drewN n) := ⟨h.os, h.tape, h.output, h.size, h.block⟩
theorem qqd {k : IntKind} {a b c d : Int} (h : a = b) (h' : c = d) : Ending.returned (.tuple #[.int k a, .int k c]) = .returned (.tuple #[.int k b, .int k d]) := by rw [h, h']
theorem qac (w : World) (o1 : Obj) : Below w.heap.size w (w.alloc o1) := (Below.refl _ _).alloc (Nat.le_refl _) _
theorem qap (w : World) (o1 o2 : Obj) : Below w.heap.size w ((w.alloc o1).alloc o2) := ((Below.refl _ _).alloc (Nat.le_refl _) _).alloc (by simp) _
theorem add_block (a : Addr) (n : Nat) : (a.add n).block = a.block := by
 by_cases h : n = 0
 · simp [Addr.add, h]
 · simp [Addr.add, h]
theorem qhm (a : Addr) (i j : Nat) : (a.add i).add j = a.add (i + j) := by
 cases i with
 | zero => simp [Addr.add]
 | succ i =>
  cases j with
  | zero => simp [Addr.add]
  | succ j => simp [Addr.add]; omega
structure Lies (w : World) (B size : Nat) (A : Option Addr) (n : Nat) (xs : List Value) : Prop where
 len : xs.length = n * size
 start : n ≠ 0 -> ∃ ad : Addr, A = some ad /\ ad.block < B
 cell : ∀ ad, A = some ad -> n ≠ 0 -> ∀ j u, xs[j]? = some u -> w.cell? (ad.add j) = some u
section
variable {w w' : World} {B B' size n : Nat} {A : Option Addr} {xs : List Value}
theorem Lies.wider (h : Lies w B size A n xs) (hB : B <= B') : Lies w B' size A n xs :=
 ⟨h.len, fun hn => let ⟨ad, e, hb⟩ := h.start hn; ⟨ad, e, Nat.lt_of_lt_of_le hb hB⟩, h.cell⟩
theorem Lies.stays (h : Lies w B size A n xs) (hk : ∀ b, b < B -> w'.heap[b]? = w.heap[b]?) : Lies w' B size A n xs :=
 ⟨h.len, h.start, fun ad e hn j u hu => by
  obtain ⟨ad', e', hb⟩ := h.start hn
  obtain rfl : ad' = ad := by rw [e] at e'; injection e' with e'; exact e'.symm
  rw [World.cell?_of_block (w := w) (by rw [add_block]; exact hk _ hb)]
  exact h.cell _ e hn j u hu⟩
theorem Lies.below (h : Lies w B size A n xs) (hb : Below B w w') : Lies w' B size A n xs := h.stays hb.block
theorem Lies.owned {base : Nat} {e : TypeId} {c : Nat} (h : w.ownsRow base e size (.slice A n c) n xs) : Lies w w.heap.size size A n xs := by
 have ho := h
 obtain ⟨hl, h' | ⟨g, cap, cur, hv, hb, hg, _⟩⟩ := h
 · obtain ⟨_, rfl⟩ := h'
   exact ⟨hl, fun h => absurd rfl h, fun _ _ h => absurd rfl h⟩
 · have hA : A = some ⟨g, 0, none⟩ := by injection hv
   refine ⟨hl, fun _ => ⟨_, hA, (Array.getElem?_eq_some_iff.1 hg).1⟩, fun ad e _ j u hu => ?_⟩
   rw [hA] at e
   injection e with e
   subst e
   exact ho.cells (by rw [hA]; rfl) j u hu
end
structure Box (w : World) (g : Nat) (t : TypeId) (cs : Array Value) : Prop where
 is : w.heap[g]? = some (.cells cs t (0, 0))
section
variable {w w' : World} {g : Nat} {t : TypeId} {cs : Array Value}
theorem Box.lt (h : Box w g t cs) : g < w.heap.size := (Array.getElem?_eq_some_iff.1 h.is).1
theorem Box.cell (h : Box w g t cs) (i : Nat) : w.cell? ⟨g, i, none⟩ = cs[i]? := cell_of_row w g i cs t (0, 0) h.is
theorem Box.free (h : Box w g t cs) (i : Nat) : w.frozen? ⟨g, i, none⟩ = false := frozen_of_row w g i cs t h.is
theorem Box.made (w : World) (t : TypeId) (cs : Array Value) : Box (w.alloc (.cells cs t)) w.heap.size t cs := ⟨heap_alloc_new w _⟩
theorem Box.qaq {n : Nat} (w : World) (t : TypeId) (cs : Array Value) (h : n = w.heap.size) : Box (w.alloc (.cells cs t)) n t cs := by subst h; exact Box.made w t cs
theorem Box.drew (h : Box w g t cs) : Box w.drew g t cs := ⟨h.is⟩
theorem Box.draws (h : Box w g t cs) (n : Nat) : Box (w.drewN n) g t cs := ⟨h.is⟩
theorem Box.alloc (h : Box w g t cs) (o : Obj) : Box (w.alloc o) g t cs := ⟨(Below.heap_alloc w o g h.lt).trans h.is⟩
theorem Box.put (h : Box w g t cs) (i : Nat) (u : Value) : Box (w.setCell ⟨g, i, none⟩ u) g t (cs.setIfInBounds i u) := ⟨heap_setCell_same w g i cs t u h.is⟩
theorem Box.far (h : Box w g t cs) {p : Addr} (hp : g ≠ p.block) (u : Value) : Box (w.setCell p u) g t cs := ⟨(heap_setCell_other w p g u hp).trans h.is⟩
theorem Box.below {B : Nat} (h : Box w g t cs) (hb : Below B w w') (hg : g < B) : Box w' g t cs := ⟨(hb.block g hg).trans h.is⟩
theorem Box.grown {row : Option Nat} (h : Box w g t cs) (hb : w.grownBy w' row) (hg : row ≠ some g) : Box w' g t cs := ⟨(hb.block g h.lt (fun e => hg e.symm)).trans h.is⟩
theorem Box.apart {g' : Nat} {t' : TypeId} {cs' : Array Value} (h : Box w g t cs) (h' : Box w g' t' cs') (hne : t ≠ t') : g ≠ g' := fun e => by
 have h1 := h.is
 rw [e, h'.is] at h1
 injection h1 with h1
 injection h1 with _ ht _
 exact hne ht.symm
theorem Box.qaM {base : Nat} {e : TypeId} {size n : Nat} {v : Value} {xs : List Value} (h : Box w g t cs) (ho : w.ownsRow base e size v n xs) (hne : e ≠ t) : v.ownBlock ≠ some g := by
 obtain ⟨_, ⟨rfl, _⟩ | ⟨g', cap, cur, rfl, _, hg, _⟩⟩ := ho
 · intro h; cases h
 · intro he
   have e' : g' = g := by injection he
   exact Box.apart ⟨hg⟩ h hne e'
end
theorem qhA {P : Program} (w : World) {t ty e : TypeId} {i : TypeInfo} {size base : Nat} (ht : P.underlying t = some (.slice e)) (hi : P.info? e = some i) {v : Value} {n : Nat} {xs : List Value} (ho : w.ownsRow base e size v n xs) (c : Nat) :
 (Builtin.append_ #[t, t] ty #[v, .slice none 0 c]).run P w = .ok v w := by
 obtain ⟨_, ⟨rfl, rfl⟩ | ⟨g, cap, cur, rfl, _, _, hnc, _⟩⟩ := ho
 · simp [Builtin.append_, run_underlying ht, sizeOf, typeInfo, hi, Builtin.lenOf, Builtin.firstCells]
 · simp [Builtin.append_, run_underlying ht, sizeOf, typeInfo, hi, Builtin.lenOf, Builtin.firstCells, hnc, storeCells]
def qdk (P : Program) (e : TypeId) (size bytes : Nat) (ops : Array Oper) (Q : Exit -> Act -> World -> Prop) (rest : List Oper) (dst : Option Tmp) (v q : Value) (a : Act) (w : World) : Prop :=
 ∃ (base n : Nat) (xs : List Value) (A : Option Addr) (m c : Nat) (news : List Value), q = .slice A m c /\ w.ownsRow base e size v n xs /\ Lies w w.heap.size size A m news /\ (∀ u ∈ news, u.oneCell' = true) /\
  n + m <= maxLen /\ (n + m) * bytes <= 140737488355328 /\ base <= w.heap.size /\
  ∀ A' c' w', w'.ownsRow base e size (.slice A' (n + m) c') (n + m) (xs ++ news) -> w.grownBy w' v.ownBlock -> wpList P ops Q rest (a.put dst (.slice A' (n + m) c')) w'
theorem qdk.mk {P : Program} {e : TypeId} {size bytes : Nat} {ops : Array Oper} {Q : Exit -> Act -> World -> Prop} {rest : List Oper} {dst : Option Tmp} {v q : Value} {a : Act} {w : World} {base n : Nat} {xs : List Value} {A : Option Addr} {m c : Nat} {news : List Value}
 (hq : q = .slice A m c) (ho : w.ownsRow base e size v n xs) (hl : Lies w w.heap.size size A m news) (h1 : ∀ u ∈ news, u.oneCell' = true) (h63 : n + m <= maxLen) (hb : (n + m) * bytes <= 140737488355328) (hbase : base <= w.heap.size)
 (h : ∀ A' c' w', w'.ownsRow base e size (.slice A' (n + m) c') (n + m) (xs ++ news) -> w.grownBy w' v.ownBlock -> wpList P ops Q rest (a.put dst (.slice A' (n + m) c')) w') : qdk P e size bytes ops Q rest dst v q a w :=
 ⟨base, n, xs, A, m, c, news, hq, ho, hl, h1, h63, hb, hbase, h⟩
theorem qeq {w : World} {base : Nat} {e : TypeId} {size n : Nat} {v : Value} {xs : List Value} (h : w.ownsRow base e size v n xs) : ∃ A c, v = .slice A n c := by
 obtain ⟨_, ⟨rfl, rfl⟩ | ⟨g, cap, cur, rfl, _⟩⟩ := h
 · exact ⟨_, _, rfl⟩
 · exact ⟨_, _, rfl⟩
theorem qb5 {P : Program} {ops : Array Oper} {rest : List Oper} {o : Oper} {a : Act} {w : World} {Q : Exit -> Act -> World -> Prop} {t e : TypeId} {i : TypeInfo} {z : Value} {size bytes : Nat} {x y : Operand}
 (hgd : o.guard = none) (ho : o.op = .call { callee := .builtin .append, args := #[x, y], argTypes := #[t, t] }) (ht : P.underlying t = some (.slice e)) (hi : P.info? e = some i) (hz : i.zero = some z) (hs : i.size = size) (hby : i.bytes = bytes) (hzs : z.cells.size = size) (hsz : 0 < size)
 (h : qdk P e size bytes ops Q rest o.dst (a.eval x) (a.eval y) a w) : wpList P ops Q (o :: rest) a w := by
 obtain ⟨base, n, xs, A, m, c, news, hq, hown, hl, h1, h63, hb47, hbase, h⟩ := h
 have hrun : ∃ v' w', (Builtin.append_ #[t, t] o.type #[a.eval x, .slice A m c]).run P w = .ok v' w' /\ w'.ownsRow base e size v' (n + m) (xs ++ news) /\ w.grownBy w' (a.eval x).ownBlock := by
  cases A with
  | none =>
   have hm : m = 0 := by
    by_cases hm : m = 0
    · exact hm
    · obtain ⟨ad, he, _⟩ := hl.start hm
      cases he
   subst hm
   have hn : news = [] := List.eq_nil_of_length_eq_zero (by simpa using hl.len)
   subst hn
   exact ⟨_, w, qhA w ht hi hown c, by simpa using hown, World.grownBy.refl w _⟩
  | some ad =>
   have hcells : ∀ j u, news[j]? = some u -> w.cell? (ad.add j) = some u := fun j u hu => by
    by_cases hm : m = 0
    · subst hm
      have hn : news = [] := List.eq_nil_of_length_eq_zero (by simpa using hl.len)
      subst hn
      simp at hu
    · exact hl.cell ad rfl hm j u hu
   obtain ⟨v', w', hr, h2, h3, _, _⟩ := run_append_own_at (P := P) w base t o.type e i z size bytes ht hi hz hs hby hzs hsz _ n xs hown ad m c news hl.len hcells h1 h63 hb47 hbase
   exact ⟨v', w', hr, h2, h3⟩
 obtain ⟨v', w', hr, h2, h3⟩ := hrun
 obtain ⟨A', c', rfl⟩ := qeq h2
 refine wpList_plain hgd fun _ hK => ?_
 unfold Oper.wp execOp
 simp only [ho, resolve, invoke, builtin, Sem.run_bind, Sem.run_pure, Result.andThen_ok, List.map_toArray, List.map_cons, List.map_nil, hq, hr]
 exact hK _ _ (h A' c' w' h2 h3)
section
variable {P : Program} {ops : Array Oper} {rest : List Oper} {o : Oper} {a : Act} {w : World} {Q : Exit -> Act -> World -> Prop}
theorem Box.range {g : Nat} {t : TypeId} {cs : Array Value} (h : Box w g t cs) (o : Nat) (l : List Value) (hl : ∀ j v, l[j]? = some v -> cs[o + j]? = some v) : w.rangeAt g o l :=
 fun j v hv => (h.cell _).trans (hl j v hv)
theorem qbO (hgd : o.guard = none) {ty : TypeId} {x : Operand} (ho : o.op = .load ty x) {g : Nat} (hx : a.eval x = .pointer (some ⟨g, 0, none⟩)) {t : TypeId} {cs : Array Value} (hg : Box w g t cs)
 {d : TypeDesc} (hu : P.underlying ty = some d) (hd : d.isRow = true) (hi : (P.info? ty).map (·.size) = some cs.size) (h : wpList P ops Q rest (a.put o.dst (.agg cs)) w) : wpList P ops Q (o :: rest) a w :=
 wpList_load_row hgd ty x ho g hx t cs (0, 0) d hg.is hu (by cases d <;> first | rfl | cases hd) hi h
theorem qbH (hgd : o.guard = none) {ty : TypeId} {x : Operand} (ho : o.op = .load ty x) {g f : Nat} (hx : a.eval x = .pointer (some ⟨g, f, none⟩)) {t : TypeId} {cs : Array Value} (hg : Box w g t cs)
 (l : List Value) (hl : ∀ j v, l[j]? = some v -> cs[f + j]? = some v) {d : TypeDesc} (hu : P.underlying ty = some d) (hd : d.isRow = true) (hi : (P.info? ty).map (·.size) = some l.length)
 (h : wpList P ops Q rest (a.put o.dst (.agg l.toArray)) w) : wpList P ops Q (o :: rest) a w :=
 wpList_load_mid hgd ty x ho g f hx l d (hg.range f l hl) hu hd hi h
theorem qcb (hw : Region.wanted o (yielded ops a.tmps) = true) {ty : TypeId} {x : Operand} (ho : o.op = .load ty x) {g f : Nat} (hx : a.eval x = .pointer (some ⟨g, f, none⟩)) {t : TypeId} {cs : Array Value} (hg : Box w g t cs)
 (l : List Value) (hl : ∀ j v, l[j]? = some v -> cs[f + j]? = some v) {d : TypeDesc} (hu : P.underlying ty = some d) (hd : d.isRow = true) (hi : (P.info? ty).map (·.size) = some l.length)
 (h : wpList P ops Q rest (a.put o.dst (.agg l.toArray)) w) : wpList P ops Q (o :: rest) a w :=
 wpList_step fun K hK => by
  rw [if_pos hw]
  exact wp_load_mid ty x ho g f hx l d (hg.range f l hl) hu hd hi (hK _ _ h)
theorem qbv (hgd : o.guard = none) {ty : TypeId} {x y : Operand} (ho : o.op = .store ty x y) {v : World} {g : Nat} (hx : a.eval x = .pointer (some ⟨g, 0, none⟩)) {cs old : Array Value} (hy : a.eval y = .agg cs) {t : TypeId}
 (hv : w = v.alloc (.cells old t)) (hg : g = v.heap.size) (hi : (P.info? ty).map (·.size) = some cs.size) (hold : old.size = cs.size) (h1 : cs.all (·.oneCell') = true)
 (h : wpList P ops Q rest (a.put o.dst undef) (v.alloc (.cells cs t))) : wpList P ops Q (o :: rest) a w := by
 subst hv hg
 refine wpList_store_row hgd ty x y ho v.heap.size cs hx hy t old (heap_alloc_new _ _) hi hold h1 ?_
 rw [World.setRow_alloc_new]
 exact h
theorem qbw (hgd : o.guard = none) {ty : TypeId} {x y : Operand} (ho : o.op = .store ty x y) {g : Nat} (hx : a.eval x = .pointer (some ⟨g, 0, none⟩)) {cs old : Array Value} (hy : a.eval y = .agg cs) {t : TypeId}
 (hg : Box w g t old) (hi : (P.info? ty).map (·.size) = some cs.size) (hold : old.size = cs.size) (h1 : cs.all (·.oneCell') = true)
 (h : wpList P ops Q rest (a.put o.dst undef) (w.setRow g cs)) : wpList P ops Q (o :: rest) a w :=
 wpList_store_row hgd ty x y ho g cs hx hy t old hg.is hi hold h1 h
def qcA (P : Program) (ops : Array Oper) (Q : Exit -> Act -> World -> Prop) (rest : List Oper) (dst : Option Tmp) (p v : Value) (t : TypeId) (size : Nat) (a : Act) (w : World) : Prop :=
 ∃ (B : Nat) (cs old : Array Value), p = .pointer (some ⟨B, 0, none⟩) /\ v = .agg cs /\ Box w B t old /\ cs.all (·.oneCell') = true /\ cs.size = size /\ old.size = size /\ wpList P ops Q rest (a.put dst undef) (w.setRow B cs)
theorem qcA.mk {dst : Option Tmp} {p v : Value} {t : TypeId} {size : Nat} {B : Nat} {cs old : Array Value} (hp : p = .pointer (some ⟨B, 0, none⟩)) (hv : v = .agg cs) (hB : Box w B t old) (h1 : cs.all (·.oneCell') = true) (hs : cs.size = size) (ho : old.size = size) (h : wpList P ops Q rest (a.put dst undef) (w.setRow B cs)) : qcA P ops Q rest dst p v t size a w :=
 ⟨B, cs, old, hp, hv, hB, h1, hs, ho, h⟩
theorem qdI {t ty : TypeId} {size : Nat} {x y : Operand} (hgd : o.guard = none) (ho : o.op = .store ty x y) (hi : (P.info? ty).map (·.size) = some size) (h : qcA P ops Q rest o.dst (a.eval x) (a.eval y) t size a w) : wpList P ops Q (o :: rest) a w := by
 obtain ⟨B, cs, old, hx, hy, hB, h1, hs, hold, h⟩ := h
 exact qbw hgd ho hx hy hB (by rw [hi, hs]) (by rw [hold, hs]) h1 h
theorem qbB (hgd : o.guard = none) {t : TypeId} (ho : o.op = .alloc t) {z : Value} (hz : (P.info? t).map (·.zero) = some (some z)) {cs : Array Value} (hc : z.cells = cs)
 (h : wpList P ops Q rest (a.put o.dst (.pointer (some ⟨w.heap.size, 0, none⟩))) (w.alloc (.cells cs t))) : wpList P ops Q (o :: rest) a w :=
 wpList_plain hgd fun _ hK => by
  have hz' : (zeroValue t).run P w = .ok z w := by
   cases hq : P.info? t with
   | none => simp [hq] at hz
   | some i => simp [hq] at hz; simp [zeroValue, typeInfo, hq, hz]
  subst hc
  unfold Oper.wp execOp
  simp only [ho, Instr.alloc, Sem.run_bind, hz', Result.andThen_ok]
  exact hK _ _ h
theorem qaT (hgd : o.guard = none) {t : TypeId} {l : List (Nat × Operand)} (ho : o.op = .build t l.toArray) {vs : List (Nat × Value)} (hv : (l.map fun (i, x) => (i, a.eval x)) = vs) {cs : Array Value} (hb : P.built t vs = some cs)
 (h : wpList P ops Q rest (a.put o.dst (.agg cs)) w) : wpList P ops Q (o :: rest) a w := by
 have e : ((l.toArray.map fun (i, x) => (i, a.eval x)).toList) = vs := by rw [<- hv]; simp
 exact wpList_build hgd t l.toArray ho (by rw [e, hb]; rfl) (by rw [e, hb]; exact h)
end
section
variable {w : World} {g g' : Nat} {t t' : TypeId} {cs cs' : Array Value}
theorem Box.row (h : Box w g t cs) (cs' : Array Value) : Box (w.setRow g cs') g t cs' := ⟨setRow_heap w g cs cs' t (0, 0) h.is⟩
theorem Box.qbn (h : Box w g t cs) (hne : g ≠ g') (cs' : Array Value) : Box (w.setRow g' cs') g t cs := ⟨(setRow_other w g' g cs' hne).trans h.is⟩
theorem Below.setRow' {B : Nat} {w0 : World} (hb : Below B w0 w) (hB : B <= g) (cs : Array Value) : Below B w0 (w.setRow g cs) :=
 ⟨hb.os, hb.tape, hb.output, by rw [setRow_size]; exact hb.size, fun i hi => (setRow_other w g i cs (by omega)).trans (hb.block i hi)⟩
end
end Go.Proofs.YtmiopphcfdlneaaGreat
namespace Rx
open Go
abbrev Thr := List PanicEntry -> World -> Prop
def qbl (o : Oper) : Bool := match o.op with | .store .. => true | _ => false
def qgY (o : Oper) : Bool := match o.op with | .buildSlice .. | .alloc .. => true | .call c => (match c.callee with | .builtin .append | .value _ => true | _ => false) | _ => false
def qag (o : Oper) : Bool := qbl o || qgY o
def qbj (o : Oper) : Bool := match o.op with | .load .. | .nilCheck .. => true | _ => false
def qaG (o : Oper) : Bool := match o.op with | .fieldAddr .. | .indexAddr .. | .move .. | .assign .. | .pick .. | .extract .. | .binOp .. | .unOp .. | .build .. | .convert .. => true | _ => false
theorem qdm {o : Oper} (h : qag o = true) : qaG o = false := by
 unfold qag qbl qgY at h
 unfold qaG
 generalize o.op = x at h ⊢
 cases x <;> first | rfl | (exact absurd h (by decide)) | (simp at h)
theorem qdl {o : Oper} (h : qag o = true) : qbj o = false := by
 unfold qag qbl qgY at h
 unfold qbj
 generalize o.op = x at h ⊢
 cases x <;> first | rfl | (exact absurd h (by decide)) | (simp at h)
def Gives (P : Program) (X : Thr) (o : Oper) (a : Act) (w : World) (v : Value) (C : World -> Prop) : Prop :=
 match (execOp a.eval o).run P w with
 | .ok (.value u) w1 => u = v /\ C w1
 | .ok .skip w1 => undef = v /\ C w1
 | .ok (.enter f args) w1 => Calls P f args w1 fun e w2 => (e = .returned v /\ C w2) \/ ∃ ch, e = .panicked ch /\ X ch w2
 | _ => False
theorem Gives.wp {P : Program} {X : Thr} {o : Oper} {a : Act} {w : World} {v : Value} {C : World -> Prop} {K : Act -> World -> Prop} {Q : Exit -> Act -> World -> Prop} (h : Gives P X o a w v C) (hX : ∀ ch w', X ch w' -> Q (.panic ch) a w') (hK : ∀ w', C w' -> K (a.put o.dst v) w') : o.wp P a w K Q := by
 unfold Gives at h
 unfold Oper.wp
 generalize (execOp a.eval o).run P w = r at *
 cases r with
 | ok n w1 =>
  cases n <;> simp only [Oper.upon] at h ⊢
  case value u => obtain ⟨rfl, h⟩ := h; exact hK _ h
  case skip => obtain ⟨rfl, h⟩ := h; exact hK _ h
  case enter f args =>
   refine h.mono fun e w2 hq => ?_
   rcases hq with ⟨he, hw⟩ | ⟨ch, he, hw⟩
   · subst he; exact hK _ hw
   · subst he; exact hX _ _ hw
 | halt x w1 => cases h
theorem Gives.congr {P : Program} {X : Thr} {o : Oper} {a a' : Act} {w : World} {v : Value} {C : World -> Prop} (h : Gives P X o a w v C) (he : execOp a'.eval o = execOp a.eval o) : Gives P X o a' w v C := by
 unfold Gives at *; rw [he]; exact h
def qaR (P : Program) (X : Thr) (st : List Nat) (E : World -> Prop) (Q : Act -> (World -> Prop) -> Prop) : List Oper -> Nat -> Act -> (World -> Prop) -> (World -> Prop) -> Prop
 | [], _, a, C, _ => Q a C
 | o :: rest, n, a, C, D =>
  if qag o then ∃ v C' D', (∀ w, C w -> Gives P X o a w v C') /\ (qbl o = false -> D' = D) /\ (∀ w, C' w -> D' w /\ E w) /\ qaR P X st E Q rest (n + 1) (a.put o.dst v) C' D'
  else if qaG o then ∃ v, (∀ w, Gives P X o a w v (fun w' => w' = w)) /\ qaR P X st E Q rest (n + 1) (a.put o.dst v) C D
  else if qbj o then ∃ v, (∀ w, (if st.contains n then E w else D w) -> Gives P X o a w v (fun w' => w' = w)) /\ qaR P X st E Q rest (n + 1) (a.put o.dst v) C D
  else ∃ v, (∀ w, C w -> Gives P X o a w v C) /\ qaR P X st E Q rest (n + 1) (a.put o.dst v) C D
structure Run (P : Program) (X : Thr) (st : Nat -> Bool) (E : World -> Prop) (l : List Oper) (A : Nat -> Act) (C D : Nat -> World -> Prop) (v : Nat -> Value) : Prop where
 act : ∀ i o, l[i]? = some o -> A (i + 1) = (A i).put o.dst (v i)
 store : ∀ i o, l[i]? = some o -> qag o = true -> ∀ w, C i w -> Gives P X o (A i) w (v i) (C (i + 1))
 free : ∀ i o, l[i]? = some o -> qag o = false -> qaG o = true -> C (i + 1) = C i /\ ∀ w, Gives P X o (A i) w (v i) (fun w' => w' = w)
 look : ∀ i o, l[i]? = some o -> qag o = false -> qaG o = false -> qbj o = true -> C (i + 1) = C i /\ ∀ w, (if st i then E w else D i w) -> Gives P X o (A i) w (v i) (fun w' => w' = w)
 read : ∀ i o, l[i]? = some o -> qag o = false -> qaG o = false -> qbj o = false -> C (i + 1) = C i /\ ∀ w, C i w -> Gives P X o (A i) w (v i) (C i)
 soft : ∀ i o, l[i]? = some o -> qbl o = false -> D (i + 1) = D i
 held : ∀ i, i <= l.length -> ∀ w, C i w -> D i w /\ E w
def qdf {α : Type} (x : α) (f : Nat -> α) : Nat -> α
 | 0 => x
 | i + 1 => f i
theorem Run.cons {P : Program} {X : Thr} {st : Nat -> Bool} {E : World -> Prop} {l : List Oper} {o : Oper} {a : Act} {C D C1 D1 : World -> Prop} {u : Value} {A : Nat -> Act} {Cs Ds : Nat -> World -> Prop} {v : Nat -> Value} (hr : Run P X (fun i => st (i + 1)) E l A Cs Ds v) (hA : A 0 = a.put o.dst u) (hC : Cs 0 = C1) (hD : Ds 0 = D1) (hCD : ∀ w, C w -> D w /\ E w)
 (h1 : qag o = true -> ∀ w, C w -> Gives P X o a w u C1) (h2 : qag o = false -> qaG o = true -> C1 = C /\ ∀ w, Gives P X o a w u (fun w' => w' = w)) (h3 : qag o = false -> qaG o = false -> qbj o = true -> C1 = C /\ ∀ w, (if st 0 then E w else D w) -> Gives P X o a w u (fun w' => w' = w))
 (h4 : qag o = false -> qaG o = false -> qbj o = false -> C1 = C /\ ∀ w, C w -> Gives P X o a w u C) (h5 : qbl o = false -> D1 = D) : Run P X st E (o :: l) (qdf a A) (qdf C Cs) (qdf D Ds) (qdf u v) := by
 refine ⟨?_, ?_, ?_, ?_, ?_, ?_, ?_⟩
 · intro i o' ho'
   cases i with
   | zero => simp at ho'; subst ho'; exact hA
   | succ i => exact hr.act i o' (by simpa using ho')
 · intro i o' ho'
   cases i with
   | zero => simp at ho'; subst ho'; intro hs w hw; show Gives P X o a w u (Cs 0); rw [hC]; exact h1 hs w hw
   | succ i => exact hr.store i o' (by simpa using ho')
 · intro i o' ho'
   cases i with
   | zero => simp at ho'; subst ho'; intro hs hf; exact ⟨hC.trans (h2 hs hf).1, (h2 hs hf).2⟩
   | succ i => exact hr.free i o' (by simpa using ho')
 · intro i o' ho'
   cases i with
   | zero => simp at ho'; subst ho'; intro hs hf hl; exact ⟨hC.trans (h3 hs hf hl).1, (h3 hs hf hl).2⟩
   | succ i => exact hr.look i o' (by simpa using ho')
 · intro i o' ho'
   cases i with
   | zero => simp at ho'; subst ho'; intro hs hf hl; exact ⟨hC.trans (h4 hs hf hl).1, (h4 hs hf hl).2⟩
   | succ i => exact hr.read i o' (by simpa using ho')
 · intro i o' ho'
   cases i with
   | zero => simp at ho'; subst ho'; intro hh; exact hD.trans (h5 hh)
   | succ i => exact hr.soft i o' (by simpa using ho')
 · intro i hi
   cases i with
   | zero => exact hCD
   | succ i => exact hr.held i (by simpa using hi)
theorem qba {P : Program} {X : Thr} {st : List Nat} {E : World -> Prop} {Q : Act -> (World -> Prop) -> Prop} : ∀ (l : List Oper) (n : Nat) (a : Act) (C D : World -> Prop), (∀ w, C w -> D w /\ E w) -> qaR P X st E Q l n a C D ->
 ∃ A Cs Ds v, Run P X (fun i => st.contains (n + i)) E l A Cs Ds v /\ A 0 = a /\ Cs 0 = C /\ Ds 0 = D /\ Q (A l.length) (Cs l.length)
 | [], n, a, C, D, hCD, h => ⟨fun _ => a, fun _ => C, fun _ => D, fun _ => undef, ⟨fun i o h => by simp at h, fun i o h => by simp at h, fun i o h => by simp at h, fun i o h => by simp at h, fun i o h => by simp at h, fun i o h => by simp at h, fun i _ w hw => hCD w hw⟩, rfl, rfl, rfl, h⟩
 | o :: l, n, a, C, D, hCD, h => by
  unfold qaR at h
  have shift : (fun i => st.contains (n + 1 + i)) = fun i => (fun j => st.contains (n + j)) (i + 1) := funext fun i => by
   show st.contains (n + 1 + i) = st.contains (n + (i + 1)); rw [show n + 1 + i = n + (i + 1) by omega]
  by_cases hs : qag o = true
  · rw [if_pos hs] at h
    obtain ⟨u, C', D', h1, hd, hcd, h2⟩ := h
    obtain ⟨A, Cs, Ds, v, hr, hA, hC, hD, hQ⟩ := qba l (n + 1) _ C' D' hcd h2
    rw [shift] at hr
    exact ⟨_, _, _, _, Run.cons (st := fun j => st.contains (n + j)) hr hA hC hD hCD (fun _ => h1) (fun e => by rw [hs] at e; cases e) (fun e => by rw [hs] at e; cases e) (fun e => by rw [hs] at e; cases e) hd, rfl, rfl, rfl, hQ⟩
  · have hs0 : qag o = false := by simpa using hs
    have hh0 : qbl o = false := by simp [qag] at hs0; exact hs0.1
    rw [if_neg hs] at h
    by_cases hf : qaG o = true
    · rw [if_pos hf] at h
      obtain ⟨u, h1, h2⟩ := h
      obtain ⟨A, Cs, Ds, v, hr, hA, hC, hD, hQ⟩ := qba l (n + 1) _ C D hCD h2
      rw [shift] at hr
      exact ⟨_, _, _, _, Run.cons (st := fun j => st.contains (n + j)) hr hA hC hD hCD (fun e => absurd e hs) (fun _ _ => ⟨rfl, h1⟩) (fun _ e => by rw [hf] at e; cases e) (fun _ e => by rw [hf] at e; cases e) (fun _ => rfl), rfl, rfl, rfl, hQ⟩
    · rw [if_neg hf] at h
      by_cases hl : qbj o = true
      · rw [if_pos hl] at h
        obtain ⟨u, h1, h2⟩ := h
        obtain ⟨A, Cs, Ds, v, hr, hA, hC, hD, hQ⟩ := qba l (n + 1) _ C D hCD h2
        rw [shift] at hr
        exact ⟨_, _, _, _, Run.cons (st := fun j => st.contains (n + j)) hr hA hC hD hCD (fun e => absurd e hs) (fun _ e => absurd e hf) (fun _ _ _ => ⟨rfl, h1⟩) (fun _ _ e => by rw [hl] at e; cases e) (fun _ => rfl), rfl, rfl, rfl, hQ⟩
      · rw [if_neg hl] at h
        obtain ⟨u, h1, h2⟩ := h
        obtain ⟨A, Cs, Ds, v, hr, hA, hC, hD, hQ⟩ := qba l (n + 1) _ C D hCD h2
        rw [shift] at hr
        exact ⟨_, _, _, _, Run.cons (st := fun j => st.contains (n + j)) hr hA hC hD hCD (fun e => absurd e hs) (fun _ e => absurd e hf) (fun _ _ e => absurd e hl) (fun _ _ _ => ⟨rfl, h1⟩) (fun _ => rfl), rfl, rfl, rfl, hQ⟩
section
variable {l : List Oper} {v : Nat -> Value} {a0 : Act}
structure Shape (l : List Oper) (v : Nat -> Value) (a0 : Act) (S : Nat -> Bool) (a : Act) : Prop where
 size : a.tmps.size = a0.tmps.size
 defers : a.defers = a0.defers
 done : ∀ j o t, l[j]? = some o -> o.dst = some t -> S j = true -> a.tmps[t]? = if t < a0.tmps.size then some (v j) else none
 rest : ∀ t, (∀ j o, l[j]? = some o -> o.dst = some t -> S j = false) -> a.tmps[t]? = a0.tmps[t]?
def qb2 (l : List Oper) : Prop := ∀ (i j : Nat) (oi oj : Oper) (t : Tmp), l[i]? = some oi -> l[j]? = some oj -> oi.dst = some t -> oj.dst = some t -> i = j
theorem Shape.start : Shape l v a0 (fun _ => false) a0 := ⟨rfl, rfl, fun _ _ _ _ _ h => (by cases h), fun _ _ => rfl⟩
theorem Shape.put {S : Nat -> Bool} {a : Act} (hd : qb2 l) (h : Shape l v a0 S a) {i : Nat} {o : Oper} (ho : l[i]? = some o) : Shape l v a0 (fun j => S j || j == i) (a.put o.dst (v i)) := by
 cases hdst : o.dst with
 | none =>
  refine ⟨h.size, h.defers, fun j oj t hj ht hS => ?_, fun t ht => ?_⟩
  · simp only [Bool.or_eq_true, beq_iff_eq] at hS
    rcases hS with hS | rfl
    · exact h.done j oj t hj ht hS
    · rw [ho] at hj; injection hj with hj; subst hj; rw [hdst] at ht; cases ht
  · exact h.rest t fun j oj hj ht' => by have := ht j oj hj ht'; simp at this; exact this.1
 | some d =>
  refine ⟨by simp [Act.put, h.size], h.defers, fun j oj t hj ht hS => ?_, fun t ht => ?_⟩
  · simp only [Act.put, Array.getElem?_setIfInBounds]
    by_cases htd : d = t
    · subst htd
      have : j = i := hd j i oj o d hj ho ht hdst
      subst this
      rw [if_pos rfl, h.size]
    · rw [if_neg htd]
      simp only [Bool.or_eq_true, beq_iff_eq] at hS
      rcases hS with hS | rfl
      · exact h.done j oj t hj ht hS
      · rw [ho] at hj; injection hj with hj; subst hj; rw [hdst] at ht; injection ht with ht; exact absurd ht htd
  · have hne : d ≠ t := fun e => by subst e; have := ht i o ho hdst; simp at this
    simp only [Act.put, Array.getElem?_setIfInBounds, if_neg hne]
    exact h.rest t fun j oj hj ht' => by have := ht j oj hj ht'; simp at this; exact this.1
theorem Shape.same {S S' : Nat -> Bool} {a a' : Act} (h : Shape l v a0 S a) (h' : Shape l v a0 S' a') {t : Nat} (hS : ∀ j o, l[j]? = some o -> o.dst = some t -> S j = S' j) : a.tmps[t]? = a'.tmps[t]? := by
 by_cases hx : ∃ j o, l[j]? = some o /\ o.dst = some t /\ S j = true
 · obtain ⟨j, o, hj, ht, hs⟩ := hx
   rw [h.done j o t hj ht hs, h'.done j o t hj ht (by rw [<- hS j o hj ht]; exact hs)]
 · have hn : ∀ j o, l[j]? = some o -> o.dst = some t -> S j = false := fun j o hj ht => by
    cases hs : S j
    · rfl
    · exact absurd ⟨j, o, hj, ht, hs⟩ hx
   rw [h.rest t hn, h'.rest t fun j o hj ht => by rw [<- hS j o hj ht]; exact hn j o hj ht]
theorem Shape.ext {S S' : Nat -> Bool} {a a' : Act} (h : Shape l v a0 S a) (h' : Shape l v a0 S' a') (hS : ∀ j o, l[j]? = some o -> S j = S' j) : a = a' := by
 have ht : a.tmps = a'.tmps := Array.ext_getElem? fun t => h.same h' fun j o hj _ => hS j o hj
 have hd : a.defers = a'.defers := h.defers.trans h'.defers.symm
 cases a; cases a'; simp_all
theorem Shape.congr {S S' : Nat -> Bool} {a : Act} (h : Shape l v a0 S a) (hS : ∀ j o, l[j]? = some o -> S j = S' j) : Shape l v a0 S' a :=
 ⟨h.size, h.defers, fun j o t hj ht hs => h.done j o t hj ht (by rw [hS j o hj]; exact hs), fun t ht => h.rest t fun j o hj hd => by rw [hS j o hj]; exact ht j o hj hd⟩
theorem Run.shape {P : Program} {X : Thr} {st : Nat -> Bool} {E : World -> Prop} {A : Nat -> Act} {C D : Nat -> World -> Prop} (hr : Run P X st E l A C D v) (hd : qb2 l) : ∀ k, k <= l.length -> Shape l v (A 0) (fun j => decide (j < k)) (A k)
 | 0, _ => Shape.start.congr fun j o _ => by simp
 | k + 1, hk => by
  have ho : l[k]? = some (l[k]'(by omega)) := List.getElem?_eq_getElem (by omega)
  rw [hr.act k _ ho]
  refine ((Run.shape hr hd k (by omega)).put hd ho).congr fun j o _ => ?_
  rw [Bool.eq_iff_iff]; simp; omega
end
def tb (b : Array Nat) (i j : Nat) : Bool := (b.getD i 0).testBit j
def qgO (st : List Nat) (l : List Oper) (b : Array Nat) (i j : Nat) : Bool :=
 match l[i]?, l[j]? with
 | some oi, some oj =>
  (!(tb b i j) || oi.after.any fun e => Region.binds .any e && (e.on == j || tb b e.on j)) &&
  (i == j || ((match oi.dst, oj.dst with | some d, some d' => d != d' | _, _ => true) &&
   (match oj.dst with | some d => !(oi.looksAt l.toArray).contains d || (if j < i then tb b i j else tb b j i) | none => true) &&
   (!qag oj || qaG oi || (qbj oi && (!qbl oj || st.contains i)) || (if j < i then tb b i j else tb b j i))))
 | _, _ => true
def oneB (l : List Oper) (i : Nat) : Bool :=
 match l[i]? with
 | some o => o.guard.isNone && !(qag o && qaG o) && o.after.all fun e => !Region.binds .any e || decide (e.on < i)
 | none => true
def okB (st : List Nat) (l : List Oper) : Bool :=
 Region.noSelect l.toArray && ((List.range l.length).all fun i => oneB l i && (List.range l.length).all fun j => qgO st l (Region.before l.toArray) i j)
structure Ok (st : List Nat) (l : List Oper) (cl : Nat -> Nat -> Bool) : Prop where
 sel : Region.noSelect l.toArray = true
 guard : ∀ (i : Nat) (o : Oper), l[i]? = some o -> o.guard = none
 down : ∀ (i : Nat) (o : Oper), l[i]? = some o -> ∀ e ∈ o.after, Region.binds .any e = true -> e.on < i
 cert : ∀ (i j : Nat) (o oj : Oper), l[i]? = some o -> l[j]? = some oj -> cl i j = true -> ∃ e ∈ o.after, Region.binds .any e = true /\ (e.on = j \/ cl e.on j = true)
 dist : qb2 l
 looks : ∀ (i j : Nat) (oi oj : Oper) (t : Tmp), l[i]? = some oi -> l[j]? = some oj -> i ≠ j -> oj.dst = some t -> t ∈ oi.looksAt l.toArray -> (if j < i then cl i j else cl j i) = true
 store : ∀ (i j : Nat) (oi oj : Oper), l[i]? = some oi -> l[j]? = some oj -> i ≠ j -> qag oj = true -> qaG oi = false -> (qbj oi && (!qbl oj || st.contains i)) = false -> (if j < i then cl i j else cl j i) = true
theorem Ok.of (st : List Nat) (l : List Oper) (h : okB st l = true) : Ok st l (tb (Region.before l.toArray)) := by
 simp only [okB, Bool.and_eq_true] at h
 obtain ⟨h0, h⟩ := h
 have h1 : ∀ i o, l[i]? = some o -> oneB l i = true /\ ∀ j oj, l[j]? = some oj -> qgO st l (Region.before l.toArray) i j = true := fun i o ho => by
  have hi : i < l.length := (List.getElem?_eq_some_iff.1 ho).1
  have := List.all_eq_true.1 h i (List.mem_range.2 hi)
  simp only [Bool.and_eq_true] at this
  exact ⟨this.1, fun j oj hj => List.all_eq_true.1 this.2 j (List.mem_range.2 (List.getElem?_eq_some_iff.1 hj).1)⟩
 have one : ∀ i o, l[i]? = some o -> (o.guard.isNone = true /\ (!(qag o && qaG o)) = true) /\ (o.after.all fun e => !Region.binds .any e || decide (e.on < i)) = true := fun i o ho => by
  have := (h1 i o ho).1
  simp only [oneB, ho, Bool.and_eq_true] at this
  exact this
 have two : ∀ i j oi oj, l[i]? = some oi -> l[j]? = some oj ->
  (!(tb (Region.before l.toArray) i j) || oi.after.any fun e => Region.binds .any e && (e.on == j || tb (Region.before l.toArray) e.on j)) = true /\
  (i == j || ((match oi.dst, oj.dst with | some d, some d' => d != d' | _, _ => true) &&
  (match oj.dst with | some d => !(oi.looksAt l.toArray).contains d || (if j < i then tb (Region.before l.toArray) i j else tb (Region.before l.toArray) j i) | none => true) &&
  (!qag oj || qaG oi || (qbj oi && (!qbl oj || st.contains i)) || (if j < i then tb (Region.before l.toArray) i j else tb (Region.before l.toArray) j i)))) = true := fun i j oi oj hi hj => by
  have := (h1 i oi hi).2 j oj hj
  simp only [qgO, hi, hj, Bool.and_eq_true] at this
  exact this
 refine ⟨h0, fun i o ho => by simpa using (one i o ho).1.1, fun i o ho e he hb => ?_, fun i j o oj hi hj hc => ?_, fun i j oi oj t hi hj hdi hdj => ?_, fun i j oi oj t hi hj hne hdj ht => ?_, fun i j oi oj hi hj hne hs hf hlk => ?_⟩
 · have := (Array.all_eq_true_iff_forall_mem.1 (one i o ho).2) e he
   simpa [hb] using this
 · have := (two i j o oj hi hj).1
   rw [hc] at this
   simp at this
   obtain ⟨k, hk, h1, h2⟩ := this
   exact ⟨o.after[k], Array.getElem_mem hk, h1, h2⟩
 · by_cases hij : i = j
   · exact hij
   · have := (two i j oi oj hi hj).2
     simp [hij, hdi, hdj] at this
 · have := (two i j oi oj hi hj).2
   simp only [Bool.or_eq_true, beq_iff_eq, Bool.and_eq_true, hne, false_or, hdj] at this
   have h2 := this.1.2
   rcases h2 with h2 | h2
   · simp at h2; exact absurd ht h2
   · exact h2
 · have := (two i j oi oj hi hj).2
   simp only [Bool.or_eq_true, beq_iff_eq, Bool.and_eq_true, hne, false_or] at this
   rcases this.2 with ((h2 | h2) | h2) | h2
   · simp [hs] at h2
   · rw [hf] at h2; cases h2
   · simp only [h2.1, Bool.true_and] at hlk; have h3' := h2.2; simp only [Bool.or_eq_false_iff] at hlk; rcases h3' with h3 | h3
     · rw [hlk.1] at h3; cases h3
     · rw [hlk.2] at h3; cases h3
   · exact h2
def unl (f : Nat -> Bool) : Nat -> Nat
 | 0 => 0
 | k + 1 => unl f k + (if f k then 0 else 1)
theorem qfA (f : Nat -> Bool) : ∀ n, unl f n <= n
 | 0 => Nat.le_refl _
 | n + 1 => by have := qfA f n; unfold unl; split <;> omega
theorem qcx {f : Nat -> Bool} : ∀ {n}, unl f n = 0 -> ∀ i, i < n -> f i = true
 | 0, _, i, h => absurd h (by omega)
 | n + 1, h, i, hi => by
  unfold unl at h
  by_cases hfn : f n = true
  · rw [if_pos hfn] at h
    by_cases hin : i = n
    · rw [hin]; exact hfn
    · exact qcx (n := n) (by omega) i (by omega)
  · rw [if_neg hfn] at h; omega
theorem qcB {f g : Nat -> Bool} : ∀ {n}, (∀ i, i < n -> f i = g i) -> unl f n = unl g n
 | 0, _ => rfl
 | n + 1, h => by unfold unl; rw [qcB (n := n) fun i hi => h i (by omega), h n (by omega)]
theorem qde {f g : Nat -> Bool} {i : Nat} (h0 : f i = false) (h1 : g i = true) (ho : ∀ j, j ≠ i -> g j = f j) : ∀ {n}, i < n -> unl g n + 1 = unl f n
 | 0, h => absurd h (by omega)
 | n + 1, h => by
  unfold unl
  by_cases hin : i = n
  · subst hin
    rw [qcB (n := i) fun j hj => ho j (by omega), h0, h1]; simp
  · have := qde h0 h1 ho (n := n) (by omega)
    rw [ho n (by omega)]; omega
structure Inv (l : List Oper) (v : Nat -> Value) (a0 : Act) (C : Nat -> World -> Prop) (listed : Array Bool) (a : Act) (w : World) : Prop where
 size : listed.size = l.length
 closed : ∀ (i : Nat) (o : Oper), l[i]? = some o -> listed.getD i false = true -> ∀ e ∈ o.after, Region.binds .any e = true -> listed.getD e.on false = true
 shape : Shape l v a0 (fun j => listed.getD j false) a
 world : ∀ i, i <= l.length -> (∀ (j : Nat) (o : Oper), l[j]? = some o -> qag o = true -> listed.getD j false = decide (j < i)) -> C i w
section
variable {P : Program} {X : Thr} {st : List Nat} {E : World -> Prop} {l : List Oper} {A : Nat -> Act} {C D : Nat -> World -> Prop} {v : Nat -> Value} {cl : Nat -> Nat -> Bool} {listed : Array Bool} {a : Act} {w : World}
theorem Inv.down (ok : Ok st l cl) (h : Inv l v (A 0) C listed a w) : ∀ (n i j : Nat), i < n -> (∃ o, l[i]? = some o) -> (∃ o, l[j]? = some o) -> cl i j = true -> listed.getD i false = true -> listed.getD j false = true
 | 0, _, _, hi, _, _, _, _ => absurd hi (by omega)
 | n + 1, i, j, hi, ⟨o, ho⟩, ⟨oj, hj⟩, hc, hl => by
  obtain ⟨e, he, hb, h'⟩ := ok.cert i j o oj ho hj hc
  have h1 := h.closed i o ho hl e he hb
  rcases h' with rfl | h'
  · exact h1
  · have hd := ok.down i o ho e he hb
    have hlt : i < l.length := (List.getElem?_eq_some_iff.1 ho).1
    exact Inv.down ok h n e.on j (by omega) ⟨_, List.getElem?_eq_getElem (show e.on < l.length by omega)⟩ ⟨oj, hj⟩ h' h1
theorem Run.between (hr : Run P X (fun i => st.contains i) E l A C D v) {i : Nat} : ∀ (d k : Nat), k = i + d -> k <= l.length -> (∀ (j : Nat) (o : Oper), l[j]? = some o -> qag o = true -> i <= j -> j < k -> False) -> C k = C i
 | 0, k, hk, _, _ => by rw [hk]; rfl
 | d + 1, k, hk, hl, hn => by
  have ih := Run.between hr d (k - 1) (by omega) (by omega) (fun j o hj hs h1 h2 => hn j o hj hs h1 (by omega))
  have ho : l[k - 1]? = some (l[k - 1]'(by omega)) := List.getElem?_eq_getElem (by omega)
  have hs : qag (l[k - 1]'(by omega)) = false := by
   cases h : qag (l[k - 1]'(by omega))
   · rfl
   · exact (hn _ _ ho h (by omega) (by omega)).elim
  have e : k - 1 + 1 = k := by omega
  cases hf : qaG (l[k - 1]'(by omega))
  · cases hl : qbj (l[k - 1]'(by omega))
    · have := (hr.read _ _ ho hs hf hl).1; rw [e] at this; rw [this, ih]
    · have := (hr.look _ _ ho hs hf hl).1; rw [e] at this; rw [this, ih]
  · have := (hr.free _ _ ho hs hf).1; rw [e] at this; rw [this, ih]
theorem Run.one (hr : Run P X (fun i => st.contains i) E l A C D v) {f : Nat -> Bool} {i k : Nat} (hi : i <= l.length) (hk : k <= l.length) (h1 : ∀ (j : Nat) (o : Oper), l[j]? = some o -> qag o = true -> f j = decide (j < i)) (h2 : ∀ (j : Nat) (o : Oper), l[j]? = some o -> qag o = true -> f j = decide (j < k)) : C k = C i := by
 rcases Nat.le_total i k with h | h
 · exact hr.between (k - i) k (by omega) hk fun j o hj hs ha hb => by
    have e1 := h1 j o hj hs; have e2 := h2 j o hj hs
    rw [e1] at e2; simp at e2; omega
 · exact (hr.between (i - k) i (by omega) hi fun j o hj hs ha hb => by
    have e1 := h1 j o hj hs; have e2 := h2 j o hj hs
    rw [e1] at e2; simp at e2; omega).symm
theorem Run.steady (hr : Run P X (fun i => st.contains i) E l A C D v) {i : Nat} : ∀ (d k : Nat), k = i + d -> k <= l.length -> (∀ (j : Nat) (o : Oper), l[j]? = some o -> qbl o = true -> i <= j -> j < k -> False) -> D k = D i
 | 0, k, hk, _, _ => by rw [hk]; rfl
 | d + 1, k, hk, hl, hn => by
  have ih := Run.steady hr d (k - 1) (by omega) (by omega) (fun j o hj hs h1 h2 => hn j o hj hs h1 (by omega))
  have ho : l[k - 1]? = some (l[k - 1]'(by omega)) := List.getElem?_eq_getElem (by omega)
  have hs : qbl (l[k - 1]'(by omega)) = false := by
   cases h : qbl (l[k - 1]'(by omega))
   · rfl
   · exact (hn _ _ ho h (by omega) (by omega)).elim
  have e : k - 1 + 1 = k := by omega
  have := hr.soft _ _ ho hs; rw [e] at this; rw [this, ih]
theorem Inv.qnk (ok : Ok st l cl) (h : Inv l v (A 0) C listed a w) : ∃ k, k <= l.length /\ ∀ (j : Nat) (o : Oper), l[j]? = some o -> qag o = true -> listed.getD j false = decide (j < k) := by
 have key : ∀ n, n <= l.length -> (∀ (j : Nat) (o : Oper), l[j]? = some o -> qag o = true -> j < n -> listed.getD j false = true) \/ ∃ k, k < n /\ ∃ o, l[k]? = some o /\ qag o = true /\ listed.getD k false = false /\ ∀ (j : Nat) (o : Oper), l[j]? = some o -> qag o = true -> j < k -> listed.getD j false = true := by
  intro n
  induction n with
  | zero => intro _; exact .inl fun j o _ _ hj => absurd hj (by omega)
  | succ n ih =>
   intro hn
   rcases ih (by omega) with h1 | ⟨k, hk, h1⟩
   · have ho : l[n]? = some (l[n]'(by omega)) := List.getElem?_eq_getElem (by omega)
     by_cases hs : qag (l[n]'(by omega)) = true
     · cases hl : listed.getD n false
       · exact .inr ⟨n, by omega, _, ho, hs, hl, h1⟩
       · refine .inl fun j o hj hso hjn => ?_
         by_cases e : j = n
         · subst e; exact hl
         · exact h1 j o hj hso (by omega)
     · refine .inl fun j o hj hso hjn => ?_
       by_cases e : j = n
       · subst e; rw [ho] at hj; injection hj with hj; subst hj; exact absurd hso hs
       · exact h1 j o hj hso (by omega)
   · exact .inr ⟨k, by omega, h1⟩
 rcases key l.length (Nat.le_refl _) with h1 | ⟨k, hk, o, ho, hs, hl, h1⟩
 · refine ⟨l.length, Nat.le_refl _, fun j o hj hso => ?_⟩
   have := (List.getElem?_eq_some_iff.1 hj).1
   rw [h1 j o hj hso this]; simp [this]
 · refine ⟨k, by omega, fun j oj hj hsj => ?_⟩
   by_cases hjk : j < k
   · rw [h1 j oj hj hsj hjk]; simp [hjk]
   · by_cases e : j = k
     · subst e; rw [hl]; simp
     · have hf : qaG o = false := qdm hs
       have hlk : qbj o = false := qdl hs
       have hc := ok.store k j o oj ho hj (fun e' => e e'.symm) hsj hf (by simp [hlk])
       rw [if_neg (by omega)] at hc
       cases hlj : listed.getD j false
       · simp [hjk]
       · have := h.down ok l.length j k (List.getElem?_eq_some_iff.1 hj).1 ⟨oj, hj⟩ ⟨o, ho⟩ hc hlj
         rw [hl] at this; cases this
theorem Inv.step (hr : Run P X (fun i => st.contains i) E l A C D v) (ok : Ok st l cl) (h : Inv l v (A 0) C listed a w) {Q : Exit -> Act -> World -> Prop} (hX : ∀ a', a'.defers = (A 0).defers -> (∀ t, (∀ o ∈ l, o.dst ≠ some t) -> a'.tmps[t]? = (A 0).tmps[t]?) -> ∀ ch w', X ch w' -> Q (.panic ch) a' w') {i : Nat} (hi : i ∈ Region.ready .any l.toArray listed) :
 wpOp P l.toArray Q i (fun a' w' => Inv l v (A 0) C (listed.setIfInBounds i true) a' w') a w := by
 obtain ⟨hun, o, ho', hdeps⟩ := mem_ready.1 hi
 have ho : l[i]? = some o := by simpa using ho'
 have hil : i < l.length := (List.getElem?_eq_some_iff.1 ho).1
 have his : i < listed.size := by rw [h.size]; exact hil
 have hun' : listed.getD i false = false := by simp [his] at hun ⊢; exact hun
 -- who is waited for has been; who waits has not
 have before : ∀ j oj, l[j]? = some oj -> cl i j = true -> listed.getD j false = true := fun j oj hj hc => by
  obtain ⟨e, he, hb, h'⟩ := ok.cert i j o oj ho hj hc
  have h1 := hdeps e he hb
  rcases h' with rfl | h'
  · exact h1
  · have hd := ok.down i o ho e he hb
    exact h.down ok l.length e.on j (by omega) ⟨_, List.getElem?_eq_getElem (show e.on < l.length by omega)⟩ ⟨oj, hj⟩ h' h1
 have behind : ∀ j oj, l[j]? = some oj -> cl j i = true -> listed.getD j false = false := fun j oj hj hc => by
  cases hl : listed.getD j false
  · rfl
  · have hjl : j < l.length := (List.getElem?_eq_some_iff.1 hj).1
    have := h.down ok l.length j i hjl ⟨oj, hj⟩ ⟨o, ho⟩ hc hl
    rw [hun'] at this; cases this
 have exec : execOp a.eval o = execOp (A i).eval o := execOp_congr o (fun cs b => Region.noSelect_spec ok.sel i o cs b ho') fun x hx => by
  cases x with
  | tmp t =>
   have ht : t ∈ o.looksAt l.toArray := List.mem_append_left _ (List.mem_filterMap.2 ⟨.tmp t, by simpa using hx, rfl⟩)
   have e := h.shape.same (hr.shape ok.dist i (by omega)) (t := t) fun j oj hj hd => by
    by_cases hji : j = i
    · subst hji; rw [hun']; simp
    · have hc := ok.looks i j o oj t ho hj (fun e => hji e.symm) hd ht
      by_cases hlt : j < i
      · rw [if_pos hlt] at hc; rw [before j oj hj hc]; simp [hlt]
      · rw [if_neg hlt] at hc; rw [behind j oj hj hc]; simp [hlt]
   simp only [Act.eval, Array.getD_eq_getD_getElem?, e]
  | const => rfl
  | global => rfl
  | func => rfl
 have hg := ok.guard i o ho
 have getset : ∀ j, (listed.setIfInBounds i true).getD j false = (listed.getD j false || j == i) := fun j => by
  by_cases hji : j = i
  · subst hji; simp [his]
  · rw [getD_set_ne false (fun e => hji e.symm)]; simp [hji]
 -- what is left of the invariant, whatever comes of the world
 have next : ∀ w', (∀ k, k <= l.length -> (∀ (j : Nat) (oj : Oper), l[j]? = some oj -> qag oj = true -> (listed.getD j false || j == i) = decide (j < k)) -> C k w') -> Inv l v (A 0) C (listed.setIfInBounds i true) (a.put o.dst (v i)) w' := fun w' hw => by
  refine ⟨by simp [h.size], fun j oj hj hl e he hb => ?_, (h.shape.put ok.dist ho).congr fun j oj hj => (getset j).symm, fun k hk hst => hw k hk fun j oj hj hs => by rw [<- getset j]; exact hst j oj hj hs⟩
  rw [getset] at hl ⊢
  simp only [Bool.or_eq_true, beq_iff_eq] at hl ⊢
  rcases hl with hl | rfl
  · exact .inl (h.closed j oj hj hl e he hb)
  · rw [ho] at hj; injection hj with hj; subst hj; exact .inl (hdeps e he hb)
 unfold wpOp
 simp only [ho', Region.wanted, hg, if_true]
 refine .inl ?_
 cases hs : qag o
 · cases hf : qaG o
   · cases hl : qbj o
     · -- a call
       have here : ∀ (j : Nat) (oj : Oper), l[j]? = some oj -> qag oj = true -> listed.getD j false = decide (j < i) := fun j oj hj hsj => by
        have hji : j ≠ i := fun e => by subst e; rw [ho] at hj; injection hj with hj; subst hj; rw [hs] at hsj; cases hsj
        have hc := ok.store i j o oj ho hj (fun e => hji e.symm) hsj hf (by simp [hl])
        by_cases hlt : j < i
        · rw [if_pos hlt] at hc; rw [before j oj hj hc]; simp [hlt]
        · rw [if_neg hlt] at hc; rw [behind j oj hj hc]; simp [hlt]
       have hw := h.world i (by omega) here
       refine (((hr.read i o ho hs hf hl).2 w hw).congr exec).wp (fun ch w' hq => hX _ h.shape.defers (fun t ht => h.shape.rest t fun j o hj hd => absurd hd (ht o (List.mem_of_getElem? hj))) ch w' hq) fun w' hw' => next w' fun k hk hst => ?_
       have hst' : ∀ (j : Nat) (oj : Oper), l[j]? = some oj -> qag oj = true -> listed.getD j false = decide (j < k) := fun j oj hj hsj => by
        have hji : j ≠ i := fun e => by subst e; rw [ho] at hj; injection hj with hj; subst hj; rw [hs] at hsj; cases hsj
        have := hst j oj hj hsj; rw [show (j == i) = false from by simpa using hji, Bool.or_false] at this; exact this
       rw [hr.one (f := fun j => listed.getD j false) (by omega) hk here hst']; exact hw'
     · -- a look
       obtain ⟨k0, hk0, hat⟩ := h.qnk ok
       have hD : if st.contains i then E w else D i w := by
        have h00 := hr.held k0 hk0 w (h.world k0 hk0 hat)
        by_cases hst0 : st.contains i = true
        · rw [if_pos hst0]; exact h00.2
        rw [if_neg hst0]
        have h0 := h00.1
        have hst0 : st.contains i = false := by simpa using hst0
        have hard : ∀ (j : Nat) (oj : Oper), l[j]? = some oj -> qbl oj = true -> listed.getD j false = decide (j < i) /\ j ≠ i := fun j oj hj hhj => by
         have hsj : qag oj = true := by simp [qag, hhj]
         have hji : j ≠ i := fun e => by subst e; rw [ho] at hj; injection hj with hj; subst hj; rw [hs] at hsj; cases hsj
         have hc := ok.store i j o oj ho hj (fun e => hji e.symm) hsj hf (by rw [hhj, hst0]; simp)
         by_cases hlt : j < i
         · rw [if_pos hlt] at hc; rw [before j oj hj hc]; simp [hlt, hji]
         · rw [if_neg hlt] at hc; rw [behind j oj hj hc]; simp [hlt, hji]
        have none : ∀ (j : Nat) (oj : Oper), l[j]? = some oj -> qbl oj = true -> decide (j < k0) = decide (j < i) := fun j oj hj hhj => by
         rw [<- hat j oj hj (by simp [qag, hhj])]; exact (hard j oj hj hhj).1
        rcases Nat.le_total i k0 with hle | hle
        · rw [hr.steady (i := i) (k0 - i) k0 (by omega) hk0 fun j oj hj hh h1 h2 => by
           have := none j oj hj hh; simp [h2] at this; omega] at h0
          exact h0
        · rw [<- hr.steady (i := k0) (i - k0) i (by omega) (by omega) fun j oj hj hh h1 h2 => by
           have := none j oj hj hh; simp [h2] at this; omega] at h0
          exact h0
       refine (((hr.look i o ho hs hf hl).2 w hD).congr exec).wp (fun ch w' hq => hX _ h.shape.defers (fun t ht => h.shape.rest t fun j o hj hd => absurd hd (ht o (List.mem_of_getElem? hj))) ch w' hq) fun w' hw' => next w' fun k hk hst => ?_
       subst hw'
       refine h.world k hk fun j oj hj hsj => ?_
       have hji : j ≠ i := fun e => by subst e; rw [ho] at hj; injection hj with hj; subst hj; rw [hs] at hsj; cases hsj
       have := hst j oj hj hsj; rw [show (j == i) = false from by simpa using hji, Bool.or_false] at this; exact this
   · -- nothing of the world
     refine (((hr.free i o ho hs hf).2 w).congr exec).wp (fun ch w' hq => hX _ h.shape.defers (fun t ht => h.shape.rest t fun j o hj hd => absurd hd (ht o (List.mem_of_getElem? hj))) ch w' hq) fun w' hw' => next w' fun k hk hst => ?_
     subst hw'
     refine h.world k hk fun j oj hj hsj => ?_
     have hji : j ≠ i := fun e => by subst e; rw [ho] at hj; injection hj with hj; subst hj; rw [hs] at hsj; cases hsj
     have := hst j oj hj hsj; rw [show (j == i) = false from by simpa using hji, Bool.or_false] at this; exact this
 · -- a store
   have hf : qaG o = false := qdm hs
   have hlk : qbj o = false := qdl hs
   have here : ∀ (j : Nat) (oj : Oper), l[j]? = some oj -> qag oj = true -> listed.getD j false = decide (j < i) := fun j oj hj hsj => by
    by_cases hji : j = i
    · subst hji; rw [hun']; simp
    · have hc := ok.store i j o oj ho hj (fun e => hji e.symm) hsj hf (by simp [hlk])
      by_cases hlt : j < i
      · rw [if_pos hlt] at hc; rw [before j oj hj hc]; simp [hlt]
      · rw [if_neg hlt] at hc; rw [behind j oj hj hc]; simp [hlt]
   have hw := h.world i (by omega) here
   have hgv := hr.store i o ho hs w hw
   refine (hgv.congr exec).wp (fun ch w' hq => hX _ h.shape.defers (fun t ht => h.shape.rest t fun j o hj hd => absurd hd (ht o (List.mem_of_getElem? hj))) ch w' hq) fun w' hw' => next w' fun k hk hst => ?_
   have h1 : ∀ (j : Nat) (oj : Oper), l[j]? = some oj -> qag oj = true -> (listed.getD j false || j == i) = decide (j < i + 1) := fun j oj hj hsj => by
    rw [here j oj hj hsj, Bool.eq_iff_iff]; simp; omega
   rw [hr.one (f := fun j => listed.getD j false || j == i) (by omega) hk h1 hst]; exact hw'
theorem Inv.all_ (hr : Run P X (fun i => st.contains i) E l A C D v) (ok : Ok st l cl) {Q : Exit -> Act -> World -> Prop} (hX : ∀ a', a'.defers = (A 0).defers -> (∀ t, (∀ o ∈ l, o.dst ≠ some t) -> a'.tmps[t]? = (A 0).tmps[t]?) -> ∀ ch w', X ch w' -> Q (.panic ch) a' w') (hQ : ∀ w, C l.length w -> Q .normal (A l.length) w) : ∀ (n : Nat) (listed : Array Bool) (a : Act) (w : World), Inv l v (A 0) C listed a w -> unl (fun i => listed.getD i false) l.length <= n ->
 wpAny P .any l.toArray Q n listed a w := by
 have last : ∀ (listed : Array Bool) (a : Act) (w : World), Inv l v (A 0) C listed a w -> (∀ i, i < l.length -> listed.getD i false = true) -> Q .normal a w := fun listed a w h hall => by
  have e : a = A l.length := h.shape.ext (hr.shape ok.dist l.length (Nat.le_refl _)) fun j o hj => by
   have hjl : j < l.length := (List.getElem?_eq_some_iff.1 hj).1
   rw [hall j hjl]; simp [hjl]
  rw [e]
  exact hQ w (h.world l.length (Nat.le_refl _) fun j o hj _ => by
   have hjl : j < l.length := (List.getElem?_eq_some_iff.1 hj).1
   rw [hall j hjl]; simp [hjl])
 intro n
 induction n with
 | zero =>
  intro listed a w h hn
  have hall := qcx (f := fun i => listed.getD i false) (n := l.length) (by omega)
  refine ⟨?_, last listed a w h hall⟩
  cases hr' : Region.ready .any l.toArray listed with
  | nil => rfl
  | cons i is =>
   have hi : i ∈ Region.ready .any l.toArray listed := by rw [hr']; simp
   obtain ⟨hun, o, ho', _⟩ := mem_ready.1 hi
   have hil : i < l.length := by have := (Array.getElem?_eq_some_iff.1 ho').1; simpa using this
   have := hall i hil
   have his : i < listed.size := by rw [h.size]; exact hil
   simp [his] at hun this
   rw [this] at hun; cases hun
 | succ n ih =>
  intro listed a w h hn
  refine ⟨fun hr' => last listed a w h fun i hi => ?_, fun i hi => ?_⟩
  · induction i using Nat.strongRecOn with
    | _ i ihi =>
     cases hu : listed.getD i false
     · have ho : l[i]? = some (l[i]'hi) := List.getElem?_eq_getElem hi
       have : i ∈ Region.ready .any l.toArray listed := mem_ready.2 ⟨by
        have his : i < listed.size := by rw [h.size]; exact hi
        simp [his] at hu ⊢; exact hu, _, (by rw [List.getElem?_toArray]; exact ho), fun e he hb => by
        have hd := ok.down i _ ho e he hb
        exact ihi e.on hd (by omega)⟩
       rw [hr'] at this; cases this
     · rfl
  · refine wpOp_mono (fun a' w' h' => ih _ a' w' h' ?_) (h.step hr ok hX hi)
    obtain ⟨hun, o, ho', _⟩ := mem_ready.1 hi
    have hil : i < l.length := by have := (Array.getElem?_eq_some_iff.1 ho').1; simpa using this
    have his : i < listed.size := by rw [h.size]; exact hil
    have := qde (f := fun i => listed.getD i false) (g := fun j => (listed.setIfInBounds i true).getD j false) (i := i) (by simp [his] at hun ⊢; exact hun) (by simp [his]) (fun j hj => getD_set_ne false (fun e => hj e.symm)) hil
    omega
theorem qef {Q : Exit -> Act -> World -> Prop} (hX : ∀ a', a'.defers = a.defers -> (∀ t, (∀ o ∈ l, o.dst ≠ some t) -> a'.tmps[t]? = a.tmps[t]?) -> ∀ ch w', X ch w' -> Q (.panic ch) a' w') (hB : okB st l = true) (C0 D0 : World -> Prop) (hC : C0 w.drew) (hCD : ∀ w, C0 w -> D0 w /\ E w)
 (h : qaR P X st E (fun a' C' => ∀ w', C' w' -> Q .normal a' w') l 0 a C0 D0) : wpAny P .any l.toArray Q l.toArray.size (Array.replicate l.toArray.size false) a w.drew := by
 obtain ⟨A, Cs, Ds, v, hr, hA, hC0, hD0, hQ⟩ := qba l 0 a C0 D0 hCD h
 simp only [Nat.zero_add] at hr
 have ok := Ok.of st l hB
 have hinv : Inv l v (A 0) Cs (Array.replicate l.toArray.size false) a w.drew := by
  have hg : ∀ i, (Array.replicate l.length false).getD i false = false := fun i => by
   by_cases hi : i < l.length <;> simp [hi]
  refine ⟨by simp, fun i o ho hl => ?_, ?_, fun i hi hst => ?_⟩
  · simp only [List.size_toArray] at hl; rw [hg i] at hl; cases hl
  · rw [hA]; exact Shape.start.congr fun j o _ => by simp only [List.size_toArray]; rw [hg j]
  · have e : Cs i = Cs 0 := hr.between i i (by omega) hi fun j o hj hs h0 hlt => by
     have := hst j o hj hs
     simp only [List.size_toArray] at this
     rw [hg j] at this; simp at this; omega
    rw [e, hC0]; exact hC
 have := Inv.all_ hr ok (Q := Q) (by rw [hA]; exact hX) hQ l.toArray.size _ _ _ hinv (by have := qfA (fun i => (Array.replicate l.toArray.size false).getD i false) l.length; simpa using this)
 exact this
end
theorem qbf {P : Program} {X : Thr} {l : List Oper} {a : Act} {w : World} {id : Nat} {Q : Exit -> Act -> World -> Prop} (hm : P.follows .mixedOrders = true) (st : List Nat) (hB : okB st l = true) (C0 D0 E : World -> Prop) (hC : C0 w.drew) (hCD : ∀ w, C0 w -> D0 w /\ E w) (hX : ∀ a', a'.defers = a.defers -> (∀ t, (∀ o ∈ l, o.dst ≠ some t) -> a'.tmps[t]? = a.tmps[t]?) -> ∀ ch w', X ch w' -> Q (.panic ch) a' w')
 (h : qaR P X st E (fun a' C' => ∀ w', C' w' -> Q .normal a' w') l 0 a C0 D0) : (Code.region id l.toArray true).wp P Q a w :=
 wp_region_any hm (qef hX hB C0 D0 hC hCD h)
theorem qhq {P : Program} {l : List Oper} {a : Act} {w : World} {id : Nat} {Q : Exit -> Act -> World -> Prop} (hm : P.follows .mixedOrders = true) (st : List Nat) (hB : okB st l = true) (C0 D0 E : World -> Prop) (hC : C0 w.drew) (hCD : ∀ w, C0 w -> D0 w /\ E w)
 (h : qaR P (fun _ _ => False) st E (fun a' C' => ∀ w', C' w' -> Q .normal a' w') l 0 a C0 D0) : (Code.region id l.toArray true).wp P Q a w :=
 qbf hm st hB C0 D0 E hC hCD (fun _ _ _ _ _ h => h.elim) h
section
variable {P : Program} {X : Thr} {st : List Nat} {E : World -> Prop} {Q : Act -> (World -> Prop) -> Prop} {o : Oper} {rest : List Oper} {n : Nat} {a : Act} {C D : World -> Prop} {W : World}
theorem qbg (hs : qag o = false) (hf : qaG o = true) {v : Value} (hrun : ∀ w, (execOp a.eval o).run P w = .ok (.value v) w) (h : qaR P X st E Q rest (n + 1) (a.put o.dst v) C D) : qaR P X st E Q (o :: rest) n a C D := by
 unfold qaR
 rw [if_neg (by simp [hs]), if_pos hf]
 exact ⟨v, fun w => by unfold Gives; rw [hrun w]; exact ⟨rfl, rfl⟩, h⟩
theorem qcy (hs : qag o = false) (hf : qaG o = false) (hl : qbj o = true) (hst : st.contains n = false) {v : Value} (hrun : ∀ w, D w -> (execOp a.eval o).run P w = .ok (.value v) w) (h : qaR P X st E Q rest (n + 1) (a.put o.dst v) C D) : qaR P X st E Q (o :: rest) n a C D := by
 unfold qaR
 rw [if_neg (by simp [hs]), if_neg (by simp [hf]), if_pos hl]
 exact ⟨v, fun w hw => by rw [if_neg (by rw [hst]; simp)] at hw; unfold Gives; rw [hrun w hw]; exact ⟨rfl, rfl⟩, h⟩
theorem qdA (hs : qag o = true) {v : Value} {W' : World} (hrun : (execOp a.eval o).run P W = .ok (.value v) W') (hD : D W' /\ E W') (h : qaR P X st E Q rest (n + 1) (a.put o.dst v) (· = W') D) : qaR P X st E Q (o :: rest) n a (· = W) D := by
 unfold qaR
 rw [if_pos hs]
 exact ⟨v, (· = W'), D, fun w hw => by subst hw; unfold Gives; rw [hrun]; exact ⟨rfl, rfl⟩, fun _ => rfl, fun w hw => hw ▸ hD, h⟩
theorem qbI (hs : qag o = true) (hh : qbl o = true) {C' D' : World -> Prop} (hrun : ∀ w, C w -> ∃ W', (execOp a.eval o).run P w = .ok .skip W' /\ C' W') (hD : ∀ w, C' w -> D' w /\ E w) (h : qaR P X st E Q rest (n + 1) (a.put o.dst undef) C' D') : qaR P X st E Q (o :: rest) n a C D := by
 unfold qaR
 rw [if_pos hs]
 exact ⟨undef, C', D', fun w hw => by obtain ⟨W', h1, h2⟩ := hrun w hw; unfold Gives; rw [h1]; exact ⟨rfl, h2⟩, fun e => by (rw [hh] at e; cases e), hD, h⟩
theorem qcd {Q : Exit -> Act -> World -> Prop} (h : ∀ w', C w' -> Q .normal a w') : qaR P X st E (fun a' C' => ∀ w', C' w' -> Q .normal a' w') [] n a C D := h
end
end Rx
namespace Rz
open Go Go.RowKit
def gives (P : Program) (o : Oper) (a : Act) (w : World) (R : Value -> World -> Prop) : Prop :=
 match (execOp a.eval o).run P w with
 | .ok (.value u) w1 => R u w1
 | .ok .skip w1 => R undef w1
 | .ok (.enter f args) w1 => Calls P f args w1 fun e w2 => ∃ v, e = .returned v /\ R v w2
 | _ => False
structure Gives (P : Program) (o : Oper) (a : Act) (w : World) (R : Value -> World -> Prop) : Prop where
 is : gives P o a w R
theorem Gives.wp {P : Program} {o : Oper} {a : Act} {w : World} {R : Value -> World -> Prop} {K : Act -> World -> Prop} {Q : Exit -> Act -> World -> Prop} (h : Gives P o a w R) (hK : ∀ v w', R v w' -> K (a.put o.dst v) w') : o.wp P a w K Q := by
 have h := h.is
 unfold gives at h
 unfold Oper.wp
 generalize (execOp a.eval o).run P w = r at *
 cases r with
 | ok n w1 =>
  cases n <;> simp only [Oper.upon] at h ⊢
  case value u => exact hK _ _ h
  case skip => exact hK _ _ h
  case enter f args =>
   exact h.mono fun e w2 ⟨v, he, hw⟩ => by subst he; exact hK _ _ hw
 | halt x w1 => cases h
theorem Gives.congr {P : Program} {o : Oper} {a a' : Act} {w : World} {R : Value -> World -> Prop} (h : Gives P o a w R) (he : execOp a'.eval o = execOp a.eval o) : Gives P o a' w R :=
 ⟨by have h := h.is; unfold gives at *; rw [he]; exact h⟩
def qfz (P : Program) (K : World -> Prop) (Q : Act -> Prop) : List Oper -> Act -> Prop
 | [], a => Q a
 | o :: rest, a => ∃ v, (∀ w, K w -> (execOp a.eval o).run P w = .ok (.value v) w) /\ qfz P K Q rest (a.put o.dst v)
theorem qar {P : Program} {K : World -> Prop} {Q : Act -> Prop} {o : Oper} {rest : List Oper} {a : Act} {v : Value} (hrun : ∀ w, K w -> (execOp a.eval o).run P w = .ok (.value v) w) (h : qfz P K Q rest (a.put o.dst v)) : qfz P K Q (o :: rest) a := ⟨v, hrun, h⟩
def upd (vm : Nat -> Value) (i : Nat) (v : Value) : Nat -> Value := fun j => if j = i then v else vm j
theorem qhZ {P : Program} {K : World -> Prop} {M0 M T : Act -> Prop} {a : Act} (R : Act -> Prop) (hR : R a) (h0 : M0 a) (hM : ∀ A, R A -> M A) (hT : T a) : qfz P K (fun A => (M0 A /\ M A) /\ T A) [] a := ⟨⟨h0, hM a hR⟩, hT⟩
theorem qaD (a : Act) (d : Option Tmp) (v : Value) : (a.put d v).tmps.size = a.tmps.size := by cases d <;> simp [Act.put]
theorem qaE {a : Act} {t : Tmp} {v : Value} (h : t < a.tmps.size) : (a.put (some t) v).eval (.tmp t) = v := by simp [Act.put, Act.eval, h]
theorem qab {a : Act} {t t' : Tmp} {v : Value} (h : t ≠ t') : (a.put (some t) v).eval (.tmp t') = a.eval (.tmp t') := by simp [Act.put, Act.eval, h]
theorem qay (a : Act) (v : Value) (x : Operand) : (a.put none v).eval x = a.eval x := by cases x <;> simp [Act.put, Act.eval]
theorem qaV {P : Program} {o : Oper} {a : Act} {w : World} {x : Operand} {v : Value} (ho : o.op = .move x) (hx : a.eval x = v) : (execOp a.eval o).run P w = .ok (.value v) w := by
 unfold execOp; simp only [ho, hx]; rfl
theorem qbo {P : Program} {o : Oper} {a : Act} {w : World} {x : Operand} {i : Nat} {vs : Array Value} {v : Value} (ho : o.op = .extract x i) (hx : a.eval x = .tuple vs) (hv : vs[i]? = some v) : (execOp a.eval o).run P w = .ok (.value v) w := by
 unfold execOp; simp [ho, hx, Instr.extract, hv]
def qan : List Oper -> Nat -> (Nat -> Value) -> Act -> Act
 | [], _, _, a => a
 | o :: os, k, vm, a => qan os (k + 1) vm (a.put o.dst (vm k))
structure Run (P : Program) (K : World -> Prop) (l : List Oper) (A : Nat -> Act) (u : Nat -> Value) : Prop where
 act : ∀ i o, l[i]? = some o -> A (i + 1) = (A i).put o.dst (u i)
 run : ∀ i o, l[i]? = some o -> ∀ w, K w -> (execOp (A i).eval o).run P w = .ok (.value (u i)) w
theorem qeo {P : Program} {K : World -> Prop} {Q : Act -> Prop} : ∀ (l : List Oper) (a : Act), qfz P K Q l a -> ∃ A u, Run P K l A u /\ A 0 = a /\ Q (A l.length)
 | [], a, h => ⟨fun _ => a, fun _ => undef, ⟨fun i o h => by simp at h, fun i o h => by simp at h⟩, rfl, h⟩
 | o :: l, a, h => by
  obtain ⟨v, h1, h2⟩ := h
  obtain ⟨A, u, hr, hA, hQ⟩ := qeo l _ h2
  refine ⟨Rx.qdf a A, Rx.qdf v u, ⟨fun i o' ho' => ?_, fun i o' ho' => ?_⟩, rfl, hQ⟩
  · cases i with
    | zero => simp at ho'; subst ho'; exact hA
    | succ i => exact hr.act i o' (by simpa using ho')
  · cases i with
    | zero => simp at ho'; subst ho'; exact h1
    | succ i => exact hr.run i o' (by simpa using ho')
def depO (o : Oper) (j : Nat) : Bool := o.after.any fun e => Region.binds .any e && e.on == j
def dep (l : List Oper) (i j : Nat) : Bool := match l[i]? with | some o => o.after.any fun e => Region.binds .any e && e.on == j | none => false
def oneB (l : List Oper) (n : Nat) (i : Nat) : Bool :=
 match l[i]? with
 | some o => o.guard.isNone && (match o.dst with | some d => !(o.looksAt l.toArray).contains d | none => true) && (o.after.all fun e => !Region.binds .any e || decide (e.on < i)) &&
  ((List.range l.length).all fun j => i == j || match l[j]? with
    | some oj => (match o.dst, oj.dst with | some d, some d' => d != d' | _, _ => true) &&
     (match oj.dst with | some d => !(decide (j < n)) || !(o.looksAt l.toArray).contains d || dep l i j | none => true)
    | none => true)
 | none => true
def okB (n0 n : Nat) (l : List Oper) : Bool :=
 Region.noSelect l.toArray && decide (n < l.length) && decide (n0 <= n) && Region.sinkB .any l.toArray n && Region.chainB .any l.toArray n &&
  Region.seqB .any l.toArray (l.length - n) n (Array.replicate n true ++ Array.replicate (l.length - n) false) &&
  ((List.range n).all fun i => oneB l n i) && ((List.range l.length).all fun i => (List.range l.length).all fun j => i == j || match l[i]?, l[j]? with | some o, some oj => (match o.dst, oj.dst with | some d, some d' => d != d' | _, _ => true) | _, _ => true)
structure Ok (n0 n : Nat) (l : List Oper) : Prop where
 sel : Region.noSelect l.toArray = true
 lt : n < l.length
 le : n0 <= n
 sink : Region.sinkB .any l.toArray n = true
 chain : Region.chainB .any l.toArray n = true
 seq : Region.seqB .any l.toArray (l.length - n) n (Array.replicate n true ++ Array.replicate (l.length - n) false) = true
 guard : ∀ (i : Nat) (o : Oper), i < n -> l[i]? = some o -> o.guard = none
 down : ∀ (i : Nat) (o : Oper), i < n -> l[i]? = some o -> ∀ e ∈ o.after, Region.binds .any e = true -> e.on < i
 self : ∀ (i : Nat) (o : Oper) (t : Tmp), i < n -> l[i]? = some o -> o.dst = some t -> t ∈ o.looksAt l.toArray -> False
 dist : Rx.qb2 l
 looks : ∀ (i j : Nat) (oi oj : Oper) (t : Tmp), i < n -> j < n -> l[i]? = some oi -> l[j]? = some oj -> i ≠ j -> oj.dst = some t -> t ∈ oi.looksAt l.toArray -> dep l i j = true
theorem Ok.of {n0 n : Nat} {l : List Oper} (h : okB n0 n l = true) : Ok n0 n l := by
 simp only [okB, Bool.and_eq_true, decide_eq_true_eq] at h
 obtain ⟨⟨⟨⟨⟨⟨⟨h1, h2⟩, h3⟩, h4⟩, h5⟩, h6⟩, h7⟩, h8⟩ := h
 have hi : ∀ i o, i < n -> l[i]? = some o -> ((o.guard.isNone = true /\ ∀ t, o.dst = some t -> t ∈ o.looksAt l.toArray -> False) /\ (∀ e ∈ o.after, Region.binds .any e = true -> e.on < i)) /\ ∀ j oj, l[j]? = some oj -> i ≠ j -> ∀ t, oj.dst = some t -> j < n -> t ∈ o.looksAt l.toArray -> dep l i j = true := fun i o hin ho => by
  have := List.all_eq_true.1 h7 i (List.mem_range.2 hin)
  unfold oneB at this
  rw [ho] at this
  simp only [Bool.and_eq_true] at this
  obtain ⟨⟨⟨a1, a0⟩, a2⟩, a3⟩ := this
  refine ⟨⟨⟨a1, fun t ht hm => by rw [ht] at a0; simp [hm] at a0⟩, fun e he hb => ?_⟩, fun j oj hj hne t ht hjn hmem => ?_⟩
  · have := Array.all_eq_true_iff_forall_mem.1 a2 e he
    simp [hb] at this
    exact this
  · have hjl := (List.getElem?_eq_some_iff.1 hj).1
    have := List.all_eq_true.1 a3 j (List.mem_range.2 hjl)
    simp only [Bool.or_eq_true, beq_iff_eq] at this
    rcases this with this | this
    · exact absurd this hne
    · rw [hj] at this
      simp only [Bool.and_eq_true] at this
      have := this.2
      rw [ht] at this
      simp [hjn, hmem] at this
      exact this
 refine ⟨h1, h2, h3, h4, h5, h6, fun i o hin ho => by simpa using (hi i o hin ho).1.1.1, fun i o hin ho => (hi i o hin ho).1.2, fun i o t hin ho => (hi i o hin ho).1.1.2 t, ?_, fun i j oi oj t hin hjn ho hj hne ht hm => (hi i oi hin ho).2 j oj hj hne t ht hjn hm⟩
 intro i j oi oj t ho hj hd hd'
 have hil := (List.getElem?_eq_some_iff.1 ho).1
 have hjl := (List.getElem?_eq_some_iff.1 hj).1
 have := List.all_eq_true.1 (List.all_eq_true.1 h8 i (List.mem_range.2 hil)) j (List.mem_range.2 hjl)
 simp only [Bool.or_eq_true, beq_iff_eq] at this
 rcases this with this | this
 · exact this
 · rw [ho, hj] at this
   simp only [hd, hd'] at this
   simp at this
theorem qea {l : List Oper} {i j : Nat} {o : Oper} (ho : l[i]? = some o) (h : dep l i j = true) : ∃ e ∈ o.after, Region.binds .any e = true /\ e.on = j := by
 unfold dep at h
 rw [ho] at h
 obtain ⟨e, he, hb⟩ := Array.any_eq_true'.1 h
 simp only [Bool.and_eq_true, beq_iff_eq] at hb
 exact ⟨e, he, hb.1, hb.2⟩
structure Inv (l : List Oper) (n0 n : Nat) (u : Nat -> Value) (V : Nat -> (Nat -> Value) -> World -> Prop) (K : World -> Prop) (a0 : Act) (listed : Array Bool) (a : Act) (w : World) : Prop where
 head : HeadInv .any l.toArray n listed
 shape : ∃ vm : Nat -> Value, Rx.Shape l (fun j => if j < n0 then u j else vm j) a0 (fun j => listed.getD j false) a /\ ∀ j, n0 <= j -> j < n -> listed.getD j false = true -> V j vm w
 world : K w
theorem qfB {l : List Oper} {v v' : Nat -> Value} {a0 a : Act} {S : Nat -> Bool} (h : Rx.Shape l v a0 S a) (he : ∀ j, S j = true -> v j = v' j) : Rx.Shape l v' a0 S a :=
 ⟨h.size, h.defers, fun j o t hj hd hs => by rw [h.done j o t hj hd hs, he j hs], h.rest⟩
section
variable {P : Program} {l : List Oper} {n0 n : Nat} {K : World -> Prop} {V : Nat -> (Nat -> Value) -> World -> Prop} {A : Nat -> Act} {u : Nat -> Value}
theorem Run.shape (hr : Run P K (l.take n0) A u) (ok : Ok n0 n l) {v : Nat -> Value} (hv : ∀ j, j < n0 -> v j = u j) : ∀ k, k <= n0 -> Rx.Shape l v (A 0) (fun j => decide (j < k)) (A k)
 | 0, _ => Rx.Shape.start.congr fun j o hj => by simp
 | k + 1, hk => by
  have ih := Run.shape hr ok hv k (by omega)
  have hkl : k < l.length := by have := ok.lt; have := ok.le; omega
  have ho : l[k]? = some (l[k]'hkl) := List.getElem?_eq_getElem hkl
  have ho' : (l.take n0)[k]? = some (l[k]'hkl) := by rw [List.getElem?_take, if_pos (by omega)]; exact ho
  have h1 := ih.put ok.dist ho
  rw [hv k (by omega), <- hr.act k _ ho'] at h1
  exact h1.congr fun j o hj => by rw [Bool.eq_iff_iff]; simp; omega
theorem qdR (ok : Ok n0 n l) {v : Nat -> Value} {a0 : Act} : ∀ (d k : Nat) (a : Act), k + d = n -> Rx.Shape l v a0 (fun j => decide (j < k)) a -> Rx.Shape l v a0 (fun j => decide (j < n)) (qan ((l.drop k).take d) k v a)
 | 0, k, a, hk, h => by
  have e : k = n := by omega
  subst e
  simp only [List.take_zero]
  exact h
 | d + 1, k, a, hk, h => by
  have hkl : k < l.length := by have := ok.lt; omega
  have ho : l[k]? = some (l[k]'hkl) := List.getElem?_eq_getElem hkl
  have e : (l.drop k).take (d + 1) = l[k]'hkl :: (l.drop (k + 1)).take d := by rw [List.drop_eq_getElem_cons hkl, List.take_succ_cons]
  rw [e]
  show Rx.Shape l v a0 _ (qan _ (k + 1) v (a.put _ (v k)))
  exact qdR ok d (k + 1) _ (by omega) ((h.put ok.dist ho).congr fun j o hj => by rw [Bool.eq_iff_iff]; simp; omega)
theorem qdS {v v' : Nat -> Value} : ∀ (l : List Oper) (k : Nat) (a : Act), (∀ j, k <= j -> v j = v' j) -> qan l k v a = qan l k v' a
 | [], _, _, _ => rfl
 | o :: l, k, a, h => by
  show qan l (k + 1) v _ = qan l (k + 1) v' _
  rw [h k (Nat.le_refl _)]
  exact qdS l (k + 1) _ fun j hj => h j (by omega)
theorem all_ {Q : Exit -> Act -> World -> Prop} (hr : Run P K (l.take n0) A u) (ok : Ok n0 n l) (hVd : ∀ j vm vm' w, n0 <= j -> j < n -> (∀ k, k = j \/ dep l j k = true -> vm k = vm' k) -> V j vm w -> V j vm' w)
 (hmid : ∀ i o, n0 <= i -> i < n -> l[i]? = some o -> ∀ (vm : Nat -> Value) w, K w -> (∀ j, n0 <= j -> j < n -> dep l i j = true -> V j vm w) -> Gives P o (qan ((l.drop n0).take (n - n0)) n0 vm (A n0)) w (fun v w' => V i (upd vm i v) w' /\ K w' /\ ∀ j, n0 <= j -> j < n -> j ≠ i -> V j vm w -> V j vm w'))
 (htail : ∀ (vm : Nat -> Value) w, K w -> (∀ j, n0 <= j -> j < n -> V j vm w) -> wpList P l.toArray Q (l.drop n) (qan ((l.drop n0).take (n - n0)) n0 vm (A n0)) w) :
 ∀ (m : Nat) (listed : Array Bool) (a : Act) (w : World), Inv l n0 n u V K (A 0) listed a w -> Rx.unl (fun i => listed.getD i false) n = m -> wpAny P .any l.toArray Q (m + (l.length - n)) listed a w := by
 have hll : l.toArray.size = l.length := by simp
 have shapeA : ∀ vm : Nat -> Value, Rx.Shape l (fun j => if j < n0 then u j else vm j) (A 0) (fun j => decide (j < n)) (qan ((l.drop n0).take (n - n0)) n0 vm (A n0)) := fun vm => by
  have h := qdR ok (v := fun j => if j < n0 then u j else vm j) (a0 := A 0) (n - n0) n0 (A n0) (by have := ok.le; omega) (hr.shape ok (fun j hj => by simp [hj]) n0 (Nat.le_refl _))
  rw [qdS (v := fun j => if j < n0 then u j else vm j) (v' := vm) _ _ _ (fun j hj => by simp; intro h; omega)] at h
  exact h
 intro m
 induction m with
 | zero =>
  intro listed a w inv hm
  have hall := Rx.qcx (f := fun i => listed.getD i false) (n := n) hm
  have e : listed = Array.replicate n true ++ Array.replicate (l.length - n) false := by
   apply Array.ext
   · rw [inv.head.size]; simp; have := ok.lt; omega
   · intro i h1 h2
     have hs := inv.head.size
     by_cases hin : i < n
     · have := hall i hin
       simp [h1] at this
       rw [Array.getElem_append_left (by simpa using hin)]
       simpa using this
     · have := inv.head.tail i (by omega) (by rw [<- hs]; exact h1)
       simp [h1] at this
       rw [Array.getElem_append_right (by simp; omega)]
       simpa using this
  obtain ⟨vm, hs, hV⟩ := inv.shape
  have ea : a = qan ((l.drop n0).take (n - n0)) n0 vm (A n0) := hs.ext (shapeA vm) fun j o hj => by
   have hjl : j < l.length := (List.getElem?_eq_some_iff.1 hj).1
   by_cases hjn : j < n
   · rw [hall j hjn]; simp [hjn]
   · have := inv.head.tail j (by omega) (by rw [hll]; exact hjl)
     rw [getD_both this]; simp [hjn]
  have hw := htail vm w inv.world (fun j h1 h2 => hV j h1 h2 (hall j h2))
  rw [<- ea] at hw
  have hdl : (l.drop n).length = l.length - n := by simp
  have := wpAny_of_seq (md := .any) (Q' := Q) (l.drop n) n listed a w (fun j => by simp [List.getElem?_drop]) (by rw [hdl, e]; exact ok.seq) hw
  rw [hdl] at this
  rw [Nat.zero_add]
  exact this
 | succ m ih =>
  intro listed a w inv hm
  rw [show m + 1 + (l.length - n) = (m + (l.length - n)) + 1 by omega]
  -- somebody of the head has not been
  have hex : ∃ i, i < n /\ listed.getD i false = false := by
   refine Classical.byContradiction fun hno => ?_
   have : ∀ k, k <= n -> Rx.unl (fun i => listed.getD i false) k = 0 := by
    intro k
    induction k with
    | zero => intro _; rfl
    | succ k ihk =>
     intro hk
     unfold Rx.unl
     rw [ihk (by omega)]
     cases h : listed.getD k false
     · exact absurd ⟨k, by omega, h⟩ hno
     · simp
   have := this n (Nat.le_refl _)
   omega
  obtain ⟨i0, hi0, hun0⟩ := hex
  have his0 : i0 < listed.size := by rw [inv.head.size, hll]; have := ok.lt; omega
  refine ⟨fun hr' => ?_, fun i hi => ?_⟩
  · exfalso
    have key : ∀ i, i < n -> listed.getD i false = true := by
     intro i
     induction i using Nat.strongRecOn with
     | _ i ihi =>
      intro hin
      cases hu : listed.getD i false
      · have hil : i < l.length := by have := ok.lt; omega
        have ho : l[i]? = some (l[i]'hil) := List.getElem?_eq_getElem hil
        have his : i < listed.size := by rw [inv.head.size, hll]; exact hil
        have : i ∈ Region.ready .any l.toArray listed := mem_ready.2 ⟨getD_in his hu, _, (by rw [List.getElem?_toArray]; exact ho), fun e he hb => by
         have hd := ok.down i _ hin ho e he hb
         exact ihi e.on hd (by omega)⟩
        rw [hr'] at this; cases this
      · rfl
    rw [key i0 hi0] at hun0; cases hun0
  · have hin : i < n := by
     refine Classical.byContradiction fun hge => ?_
     exact tail_waits ok.sink ok.chain (by rw [hll]; exact ok.lt) inv.head (n - i0) i0 rfl hi0 (getD_in his0 hun0) i (by omega) hi
    obtain ⟨hun, o, ho', hdeps⟩ := mem_ready.1 hi
    have ho : l[i]? = some o := by simpa using ho'
    have hil : i < l.length := (List.getElem?_eq_some_iff.1 ho).1
    have his : i < listed.size := by rw [inv.head.size, hll]; exact hil
    have hun' : listed.getD i false = false := getD_both hun
    have getset : ∀ j, (listed.setIfInBounds i true).getD j false = (listed.getD j false || j == i) := fun j => by
     by_cases hji : j = i
     · subst hji; simp [his]
     · rw [getD_set_ne false (fun e => hji e.symm)]; simp [hji]
    have hun2 : Rx.unl (fun j => (listed.setIfInBounds i true).getD j false) n = m := by
     have := Rx.qde (f := fun j => listed.getD j false) (g := fun j => (listed.setIfInBounds i true).getD j false) (i := i) hun' (by rw [getset]; simp) (fun j hj => by rw [getset]; simp [hj]) hin
     omega
    obtain ⟨vm, hs, hV⟩ := inv.shape
    have next : ∀ v w', (i < n0 -> v = u i) -> (n0 <= i -> V i (upd vm i v) w') -> K w' -> (∀ j, n0 <= j -> j < n -> j ≠ i -> V j vm w -> V j vm w') -> wpAny P .any l.toArray Q (m + (l.length - n)) (listed.setIfInBounds i true) (a.put o.dst v) w' := fun v w' h1 h2 hKw hst => by
     refine ih _ _ _ ⟨inv.head.set hi hin, ⟨upd vm i v, ?_, fun j hj1 hj2 hl => ?_⟩, hKw⟩ hun2
     · have hs' := qfB (v' := fun j => if j < n0 then u j else upd vm i v j) hs fun j hj => by
        by_cases hjn : j < n0
        · simp [hjn]
        · have : j ≠ i := fun e => by subst e; rw [hun'] at hj; cases hj
          simp [hjn, this, upd]
       have hp := hs'.put ok.dist ho
       have ev : (if i < n0 then u i else upd vm i v i) = v := by
        by_cases hin0 : i < n0
        · simp [hin0, h1 hin0]
        · simp [hin0, upd]
       rw [ev] at hp
       exact hp.congr fun j o hj => (getset j).symm
     · by_cases hji : j = i
       · subst hji; exact h2 hj1
       · rw [getset] at hl
         have hlj : listed.getD j false = true := by simpa [hji] using hl
         refine hVd j vm _ w' hj1 hj2 (fun k hk => ?_) (hst j hj1 hj2 hji (hV j hj1 hj2 hlj))
         have hki : k ≠ i := fun e => by
          subst e
          rcases hk with rfl | hk
          · exact hji rfl
          · have hjl : j < l.length := by have := ok.lt; omega
            have hoj : l[j]? = some (l[j]'hjl) := List.getElem?_eq_getElem hjl
            obtain ⟨e, he, hb, hon⟩ := qea hoj hk
            have := inv.head.closed j _ (by rw [List.getElem?_toArray]; exact hoj) hlj e he hb
            rw [hon, hun'] at this; cases this
         simp [upd, hki]
    have before : ∀ j, dep l i j = true -> listed.getD j false = true := fun j hd => by
     obtain ⟨e, he, hb, rfl⟩ := qea ho hd
     exact hdeps e he hb
    unfold wpOp
    simp only [ho', Region.wanted, ok.guard i o hin ho, if_true]
    refine .inl ?_
    by_cases hi0' : i < n0
    · have ho2 : (l.take n0)[i]? = some o := by rw [List.getElem?_take, if_pos hi0']; exact ho
      have exec : execOp a.eval o = execOp (A i).eval o := execOp_congr o (fun cs b => Region.noSelect_spec ok.sel i o cs b ho') fun x hx => by
       cases x with
       | tmp t =>
        have ht : t ∈ o.looksAt l.toArray := List.mem_append_left _ (List.mem_filterMap.2 ⟨.tmp t, by simpa using hx, rfl⟩)
        have e := hs.same (hr.shape ok (v := fun j => if j < n0 then u j else vm j) (fun j hj => by simp [hj]) i (by omega)) (t := t) fun j oj hj hd => by
         by_cases hji : j = i
         · subst hji; rw [hun']; simp
         · by_cases hjn : j < n
           · have hdp := ok.looks i j o oj t hin hjn ho hj (fun e => hji e.symm) hd ht
             obtain ⟨e, he, hb, hon⟩ := qea ho hdp
             have := ok.down i o hin ho e he hb
             rw [before j hdp]; simp; omega
           · have hjl : j < l.length := (List.getElem?_eq_some_iff.1 hj).1
             rw [getD_both (inv.head.tail j (by omega) (by rw [hll]; exact hjl))]; simp; omega
        simp only [Act.eval, Array.getD_eq_getD_getElem?, e]
       | const => rfl
       | global => rfl
       | func => rfl
      have hrun := hr.run i o ho2 w inv.world
      have hg : Gives P o (A i) w (fun v w' => v = u i /\ w' = w) := ⟨by unfold gives; rw [hrun]; exact ⟨rfl, rfl⟩⟩
      refine (hg.congr exec).wp fun v w' ⟨hv, hw⟩ => ?_
      subst hw
      exact next v w' (fun _ => hv) (fun h => absurd h (by omega)) inv.world (fun j _ _ _ h => h)
    · have exec : execOp a.eval o = execOp (qan ((l.drop n0).take (n - n0)) n0 vm (A n0)).eval o := execOp_congr o (fun cs b => Region.noSelect_spec ok.sel i o cs b ho') fun x hx => by
       cases x with
       | tmp t =>
        have ht : t ∈ o.looksAt l.toArray := List.mem_append_left _ (List.mem_filterMap.2 ⟨.tmp t, by simpa using hx, rfl⟩)
        by_cases hself : o.dst = some t
        · -- it reads what it writes: told by the check to be nobody else's
          exact (ok.self i o t hin ho hself ht).elim
        · have e := hs.same (shapeA vm) (t := t) fun j oj hj hd => by
           have hji : j ≠ i := fun e => by subst e; rw [ho] at hj; injection hj with hj; subst hj; exact hself hd
           by_cases hjn : j < n
           · rw [before j (ok.looks i j o oj t hin hjn ho hj (fun e => hji e.symm) hd ht)]; simp [hjn]
           · have hjl : j < l.length := (List.getElem?_eq_some_iff.1 hj).1
             rw [getD_both (inv.head.tail j (by omega) (by rw [hll]; exact hjl))]; simp [hjn]
          simp only [Act.eval, Array.getD_eq_getD_getElem?, e]
       | const => rfl
       | global => rfl
       | func => rfl
      refine ((hmid i o (by omega) hin ho vm w inv.world (fun j h1 h2 hd => hV j h1 h2 (before j hd))).congr exec).wp fun v w' ⟨h1, h2, h3⟩ => ?_
      exact next v w' (fun h => absurd h (by omega)) (fun _ => h1) h2 h3
end
def qlS (R : Nat -> Oper -> Prop) : List Oper -> Nat -> Prop
 | [], _ => True
 | o :: os, i => R i o /\ qlS R os (i + 1)
theorem qgV {R : Nat -> Oper -> Prop} : ∀ (os : List Oper) (k : Nat), qlS R os k -> ∀ (j : Nat) (o : Oper), os[j]? = some o -> R (k + j) o
 | [], _, _, j, o, h => by simp at h
 | o' :: os, k, h, 0, o, ho => by simp at ho; subst ho; exact h.1
 | o' :: os, k, h, j + 1, o, ho => by
  have := qgV os (k + 1) h.2 j o (by simpa using ho)
  rwa [show k + 1 + j = k + (j + 1) by omega] at this
theorem qlF (n : Nat) (f : Nat -> Bool) (h : ∀ i, i < n -> f i = false) : Rx.unl f n = n := by
 induction n with
 | zero => rfl
 | succ n ih => unfold Rx.unl; rw [ih fun i hi => h i (by omega), h n (by omega)]; simp
theorem qbF {P : Program} {l : List Oper} {a : Act} {w : World} {id : Nat} {Q : Exit -> Act -> World -> Prop} (hm : P.follows .mixedOrders = true) (n0 n : Nat) (hB : okB n0 n l = true) (K : World -> Prop) (V : Nat -> (Nat -> Value) -> World -> Prop) (hK : K w.drew)
 (hVd : ∀ j vm vm' w, n0 <= j -> j < n -> (∀ k, k = j \/ dep l j k = true -> vm k = vm' k) -> V j vm w -> V j vm' w)
 (h : qfz P K (fun A => (qlS (fun i o => ∀ (vm : Nat -> Value) w, K w -> (∀ j, n0 <= j -> j < n -> depO o j = true -> V j vm w) -> Gives P o (qan ((l.drop n0).take (n - n0)) n0 vm A) w (fun v w' => V i (upd vm i v) w' /\ K w' /\ ∀ j, n0 <= j -> j < n -> j ≠ i -> V j vm w -> V j vm w')) ((l.drop n0).take (n - n0)) n0) /\
  (∀ (vm : Nat -> Value) w, K w -> (∀ j, n0 <= j -> j < n -> V j vm w) -> wpList P l.toArray Q (l.drop n) (qan ((l.drop n0).take (n - n0)) n0 vm A) w)) (l.take n0) a) : (Code.region id l.toArray true).wp P Q a w := by
 have ok := Ok.of hB
 obtain ⟨A, u, hr, hA, hmid, htail⟩ := qeo _ _ h
 have hlen : (l.take n0).length = n0 := by simp; have := ok.lt; have := ok.le; omega
 rw [hlen] at hmid htail
 have hmid := fun i o (h1 : n0 <= i) (h2 : i < n) (ho : l[i]? = some o) => (by
  have := qgV _ _ hmid (i - n0) o (by rw [List.getElem?_take, if_pos (by omega), List.getElem?_drop, show n0 + (i - n0) = i by omega]; exact ho)
  rw [show n0 + (i - n0) = i by omega] at this
  exact fun vm w hK hV => this vm w hK (fun j h1 h2 hd => hV j h1 h2 (by unfold dep; rw [ho]; exact hd)) : ∀ (vm : Nat -> Value) w, K w -> (∀ j, n0 <= j -> j < n -> dep l i j = true -> V j vm w) -> Gives P o (qan ((l.drop n0).take (n - n0)) n0 vm (A n0)) w (fun v w' => V i (upd vm i v) w' /\ K w' /\ ∀ j, n0 <= j -> j < n -> j ≠ i -> V j vm w -> V j vm w'))
 refine wp_region_any hm ?_
 have hinv : Inv l n0 n u V K (A 0) (Array.replicate l.toArray.size false) a w.drew := by
  refine ⟨⟨by simp, fun j oj _ hl => (by rw [getD_replicate_false] at hl; cases hl), fun t _ ht => getD_in (by simpa using ht) (getD_replicate_false _ _)⟩, ⟨fun _ => undef, ?_, fun j _ _ hl => (by rw [getD_replicate_false] at hl; cases hl)⟩, hK⟩
  rw [hA]
  exact Rx.Shape.start.congr fun j o _ => by rw [getD_replicate_false]
 have := all_ (Q := Q) hr ok hVd hmid htail n _ _ _ hinv (qlF n _ fun i _ => getD_replicate_false _ _)
 rw [show n + (l.length - n) = l.toArray.size by have := ok.lt; simp; omega] at this
 exact this
end Rz
namespace Go.Proofs.YtmiopphcfdlneaaGreat
open Go.RowKit
theorem results_cell_tmp {P : Program} {fn : Func} {p q : Tmp} {ty : TypeId} (h : fn.results = #[.cell p ty, .tmp q]) (tmps : Array Value) (w : World) (g : Nat) (t : TypeId) (cs : Array Value) (d : TypeDesc)
 (hp : tmps.getD p undef = .pointer (some ⟨g, 0, none⟩)) (hg : Box w g t cs) (hu : P.underlying ty = some d) (hd : d.isRow = true) (hi : (P.info? ty).map (·.size) = some cs.size) :
 (results fn tmps).run P w = .ok (.tuple #[.agg cs, tmps.getD q undef]) w := by
 have hp' : tmps[p]?.getD undef = .pointer (some ⟨g, 0, none⟩) := by simpa using hp
 have hl := run_loadVar_row (P := P) w g t ty cs (0, 0) d hg.is hu (by cases d <;> first | rfl | cases hd) hi
 simp [results, h, hp', asAddr, hl]
theorem qqC {W : World} {B : Nat} {t : TypeId} {cs : Array Value} {row : Option Nat} (h : Box W B t cs) (hr : ∀ r, row = some r -> ∃ o : Obj, W.heap[r]? = some o /\ o.isCells = false) : row ≠ some B := fun e => by
 obtain ⟨o, ho, hc⟩ := hr B e
 rw [h.is] at ho
 injection ho with ho
 subst ho
 cases hc
theorem Box.turned {W W' : World} {B : Nat} {t : TypeId} {cs : Array Value} {row : Option Nat} (h : Box W B t cs) (hg : W.grownBy W' row) (hr : ∀ r, row = some r -> ∃ o : Obj, W.heap[r]? = some o /\ o.isCells = false) : Box W' B t cs :=
 h.grown hg (qqC h hr)
theorem qbp {W W' : World} (h : Below W.heap.size W W') : KeepsOthers W W' := ⟨h.size, fun k o hk _ => (h.block k (Array.getElem?_eq_some_iff.1 hk).1).trans hk⟩
theorem qer {W W' : World} {D : Nat} (h : KeepsOthers W W') (hD : W.heap[D]? = some (.deferred (some []))) : W'.heap[D]? = some (.deferred (some [])) := h.same D _ hD rfl
theorem qcP {P : Program} {o : Oper} {a : Act} {w : World} {ty : TypeId} {x : Operand} {g : Nat} {t : TypeId} {cs : Array Value} {d : TypeDesc} (ho : o.op = .load ty x) (hx : a.eval x = .pointer (some ⟨g, 0, none⟩)) (hg : Box w g t cs) (hu : P.underlying ty = some d) (hd : d.isRow = true) (hi : (P.info? ty).map (·.size) = some cs.size) :
 (execOp a.eval o).run P w = .ok (.value (.agg cs)) w := by
 have hl := run_loadVar_row (P := P) w g t ty cs (0, 0) d hg.is hu (by cases d <;> first | rfl | cases hd) hi
 unfold execOp
 simp only [ho, hx, Instr.loadAt, Instr.sureAddr, Sem.run_bind, Sem.run_pure, Result.andThen_ok, hl]
theorem qbk {P : Program} {o : Oper} {a : Act} {w : World} {R : Value -> World -> Prop} {f : FuncId} {args : Array Value} (hrun : (execOp a.eval o).run P w = .ok (.enter f args) w) (hc : Calls P f args w fun e w' => ∃ v, e = .returned v /\ R v w') : Rz.Gives P o a w R := by
 exact ⟨by unfold Rz.gives; rw [hrun]; exact hc⟩
theorem qaH {P : Program} {o : Oper} {a : Act} {w w' : World} {R : Value -> World -> Prop} {v : Value} (hrun : (execOp a.eval o).run P w = .ok (.value v) w') (h : R v w') : Rz.Gives P o a w R := by
 exact ⟨by unfold Rz.gives; rw [hrun]; exact h⟩
theorem qdt {P : Program} {o : Oper} {a : Act} {w w' : World} {R : Value -> World -> Prop} (hrun : (execOp a.eval o).run P w = .ok .skip w') (h : R undef w') : Rz.Gives P o a w R := by
 exact ⟨by unfold Rz.gives; rw [hrun]; exact h⟩
theorem own_below {w w' : World} {base B : Nat} {e : TypeId} {size n : Nat} {v : Value} {xs : List Value} (h : w.ownsRow base e size v n xs) (hb : Below B w w') (hB : w.heap.size <= B) : w'.ownsRow base e size v n xs := by
 obtain ⟨hl, h' | ⟨g, cap, cur, hv, hbg, hg, hr⟩⟩ := h
 · exact ⟨hl, .inl h'⟩
 · have hlt : g < w.heap.size := (Array.getElem?_eq_some_iff.1 hg).1
   exact ⟨hl, .inr ⟨g, cap, cur, hv, hbg, (hb.block g (by omega)).trans hg, hr⟩⟩
theorem qcf {w w2 : World} {g : Nat} {t : TypeId} {cs : Array Value} {base n : Nat} {e : TypeId} {size : Nat} {v : Value} {xs : List Value} {o : Obj} (h : Box w g t cs) (ho : w.ownsRow base e size v n xs) (hne : e ≠ t) (hg : (w.alloc o).grownBy w2 v.ownBlock) : Box w2 g t cs :=
 (h.alloc o).grown hg (h.qaM ho hne)
theorem qbi {w : World} {base g : Nat} {e : TypeId} {size n : Nat} {v : Value} {xs : List Value} (h : w.ownsRow base e size v n xs) (hne : v.ownBlock ≠ some g) (cs : Array Value) : (w.setRow g cs).ownsRow base e size v n xs := by
 obtain ⟨hl, h' | ⟨b, cap, cur, rfl, hbg, hg, hr⟩⟩ := h
 · exact ⟨hl, .inl h'⟩
 · exact ⟨hl, .inr ⟨b, cap, cur, rfl, hbg, (setRow_other w g b cs (fun e => hne (by rw [e]; rfl))).trans hg, hr⟩⟩
theorem qek {fn : Func} {p q : Tmp} {ty : TypeId} (h : fn.results = #[.cell p ty, .cell q 3]) (tmps : Array Value) (w : World) (g g2 : Nat) (t : TypeId) (cs : Array Value) (d : TypeDesc) (v : Int)
 (hp : tmps.getD p undef = .pointer (some ⟨g, 0, none⟩)) (hq : tmps.getD q undef = .pointer (some ⟨g2, 0, none⟩)) (hg : Box w g t cs) (hg2 : Box w g2 3 #[.int .i64 v]) (hu : Tryz.prog.underlying ty = some d) (hd : d.isRow = true) (hi : (Tryz.prog.info? ty).map (·.size) = some cs.size) :
 (results fn tmps).run Tryz.prog w = .ok (.tuple #[.agg cs, .int .i64 v]) w := by
 have hp' : tmps[p]?.getD undef = .pointer (some ⟨g, 0, none⟩) := by simpa using hp
 have hq' : tmps[q]?.getD undef = .pointer (some ⟨g2, 0, none⟩) := by simpa using hq
 have hl := run_loadVar_row (P := Tryz.prog) w g t ty cs (0, 0) d hg.is hu (by cases d <;> first | rfl | cases hd) hi
 have hc := hg2.cell 0
 simp at hc
 have hl2 : (loadVar 3 ⟨g2, 0, none⟩).run Tryz.prog w = .ok (.int .i64 v) w := by simp [go_sem, hc]
 simp [results, h, hp', hq', asAddr, hl, hl2]
theorem qhR (w : World) : Below w.heap.size w w.drew := Below.drew (Below.refl _ _)
theorem qim {P : Program} (w : World) (dT sT ty elem : TypeId) (c g dLen dCap : Nat) (a : Addr) (sLen sCap : Nat) (cur : Array Value) (t : TypeId) (cs : List Value)
 (hu : P.underlying dT = some (.slice elem)) (hs : (P.info? elem).map (·.size) = some c)
 (hg : w.heap[g]? = some (.cells cur t (0, 0))) (hn : cs.length = Nat.min sLen dLen * c)
 (hsrc : ∀ j v, cs[j]? = some v -> w.cell? (a.add j) = some v) (hfit : cs.length = cur.size) (h1 : ∀ v ∈ cs, v.oneCell' = true) :
 (Builtin.copy_ #[dT, sT] ty #[.slice (some ⟨g, 0, none⟩) dLen dCap, .slice (some a) sLen sCap]).run P w =
  .ok (goInt (Nat.min sLen dLen)) (w.setRow g cs.toArray) := by
 have hl := run_loadCells_list (P := P) w a cs hsrc
 have hst := run_storeCells_at P g 0 t cs 0 cur w hg (by simp; omega) h1
 have hz : (List.take (0 + 0) cur.toList ++ cs ++ List.drop (0 + 0 + cs.length) cur.toList).toArray = cs.toArray := by
  congr 1
  simp [List.drop_of_length_le (show cur.toList.length <= cs.length by simp; omega)]
 cases hq : P.info? elem with
 | none => simp [hq] at hs
 | some i =>
  have hi : i.size = c := by simpa [hq] using hs
  rw [hz] at hst
  simp [Builtin.copy_, run_underlying hu, Builtin.lenOf, Builtin.firstCells, sizeOf, typeInfo, hq, hi, <- hn, hl, hst]
theorem qgC {P : Program} (w : World) (dT sT ty elem : TypeId) (a : Addr) (dLen dCap c : Nat) (hu : P.underlying dT = some (.slice elem)) (hs : ((P.info? elem).map (·.size)).isSome = true) :
 (Builtin.copy_ #[dT, sT] ty #[.slice (some a) dLen dCap, .slice none 0 c]).run P w = .ok (goInt 0) w := by
 cases hq : P.info? elem with
 | none => simp [hq] at hs
 | some i => simp [Builtin.copy_, run_underlying hu, Builtin.lenOf, Builtin.firstCells, sizeOf, typeInfo, hq, storeCells]
end Go.Proofs.YtmiopphcfdlneaaGreat
namespace Im
open Go
def bytesOf : Nat -> Int -> List Int
 | 0, _ => []
 | n + 1, v => bytesOf n v ++ [v / 2 ^ (8 * n) % 256]
theorem qaw : ∀ (n : Nat) (v : Int), (bytesOf n v).length = n
 | 0, _ => rfl
 | n + 1, v => by unfold bytesOf; rw [List.length_append, qaw n v]; rfl
def u8s (l : List Int) : List Value := l.map fun x => .int .u8 x
theorem ql7 (l m : List Int) : u8s (l ++ m) = u8s l ++ u8s m := by unfold u8s; simp
theorem qp6 (l : List Int) : ∀ u ∈ u8s l, u.oneCell' = true := by
 intro u hu
 obtain ⟨x, _, rfl⟩ := List.mem_map.1 hu
 rfl
end Im
namespace Go.Proofs.YtmiopphcfdlneaaGreat
open Go.RowKit Go.Shelf
structure Wrote (b B : Nat) (w w' : World) : Prop where
 os : w'.os = w.os
 tape : w'.tape = w.tape
 output : w'.output = w.output
 size : w.heap.size <= w'.heap.size
 low : b <= B
 block : ∀ k, k < w.heap.size -> (k < b \/ k ≠ B /\ ∀ cs, w.heap[k]? ≠ some (.cells cs 5 (0, 0))) -> w'.heap[k]? = w.heap[k]?
section
variable {b B : Nat} {w w' w'' : World}
theorem Wrote.refl (h : b <= B) (w : World) : Wrote b B w w := ⟨rfl, rfl, rfl, Nat.le_refl _, h, fun _ _ _ => rfl⟩
theorem Wrote.trans (h : Wrote b B w w') (k : Wrote b B w' w'') : Wrote b B w w'' :=
 ⟨k.os.trans h.os, k.tape.trans h.tape, k.output.trans h.output, Nat.le_trans h.size k.size, h.low, fun i hi hc => by
  have e := h.block i hi hc
  rw [<- e]
  refine k.block i (Nat.lt_of_lt_of_le hi h.size) ?_
  rcases hc with hc | ⟨h1, h2⟩
  · exact .inl hc
  · exact .inr ⟨h1, fun cs => by rw [e]; exact h2 cs⟩⟩
theorem Wrote.on {c : Nat} (h : Wrote b B w w') (hb : Below c w' w'') (hc : w'.heap.size <= c) : Wrote b B w w'' :=
 h.trans ⟨hb.os, hb.tape, hb.output, hb.size, h.low, fun i hi _ => hb.block i (by omega)⟩
theorem Wrote.call (h : Wrote b B w w') (hb : Below w'.heap.size w' w'') : Wrote b B w w'' := h.on hb (Nat.le_refl _)
theorem Wrote.alloc (h : Wrote b B w w') (o : Obj) : Wrote b B w (w'.alloc o) := h.call (qac w' o)
theorem Wrote.drew (h : Wrote b B w w') : Wrote b B w w'.drew := ⟨h.os, h.tape, h.output, h.size, h.low, h.block⟩
theorem Wrote.put (h : Wrote b B w w') (i : Nat) (u : Value) : Wrote b B w (w'.setCell ⟨B, i, none⟩ u) := by
 have hg := (Below.refl 0 w').setCell (p := ⟨B, i, none⟩) (Nat.zero_le _) u
 refine h.trans ⟨hg.os, hg.tape, hg.output, hg.size, h.low, fun k hk hc => ?_⟩
 refine heap_setCell_other w' ⟨B, i, none⟩ k u ?_
 have := h.low
 show k ≠ B
 rcases hc with hc | hc
 · omega
 · exact hc.1
theorem Wrote.grown {n : Nat} {v : Value} {xs : List Value} (h : Wrote b B w w') (ho : w'.ownsRow b 5 1 v n xs) (hg : w'.grownBy w'' v.ownBlock) : Wrote b B w w'' := by
 refine h.trans ⟨hg.os, hg.tape, hg.output, hg.size, h.low, fun k hk hc => hg.block k hk fun e => ?_⟩
 obtain ⟨_, ⟨rfl, _⟩ | ⟨g, cap, cur, rfl, hbg, hgg, _⟩⟩ := ho
 · cases e
 · have e' : k = g := by injection e
   subst e'
   rcases hc with hc | hc
   · omega
   · exact hc.2 _ hgg
theorem Wrote.grown' {n : Nat} {v : Value} {xs : List Value} {o : Obj} (h : Wrote b B w w') (ho : w'.ownsRow b 5 1 v n xs) (hg : (w'.alloc o).grownBy w'' v.ownBlock) : Wrote b B w w'' :=
 (h.alloc o).grown (ho.alloc o) hg
theorem Wrote.to (h : Wrote b B w w') (hs : b <= w.heap.size) : Below b w w' := ⟨h.os, h.tape, h.output, h.size, fun i hi => h.block i (by omega) (.inl hi)⟩
theorem Box.wrote {g : Nat} {t : TypeId} {cs : Array Value} (h : Box w g t cs) (k : Wrote b B w w') (hg : g ≠ B) (ht : t ≠ 5) : Box w' g t cs :=
 ⟨(k.block g h.lt (.inr ⟨hg, fun cs' e => by rw [h.is] at e; injection e with e; injection e with _ e _; exact ht e⟩)).trans h.is⟩
end
structure Wr (b Bb Bp : Nat) (bs : List Int) (W : World) : Prop where
 ptr : Box W Bp 198 #[.pointer (some ⟨Bb, 0, none⟩)]
 var : ∃ A c, Box W Bb 165 #[.slice A bs.length c] /\ W.ownsRow b 5 1 (.slice A bs.length c) bs.length (Im.u8s bs)
section
variable {b Bb Bp : Nat} {bs : List Int} {W W' : World}
theorem Wr.call (h : Wr b Bb Bp bs W) (hb : Below W.heap.size W W') : Wr b Bb Bp bs W' := by
 obtain ⟨h1, A, c, h2, h3⟩ := h
 exact ⟨h1.below hb h1.lt, A, c, h2.below hb h2.lt, own_below h3 hb (Nat.le_refl _)⟩
theorem Wr.alloc (h : Wr b Bb Bp bs W) (o : Obj) : Wr b Bb Bp bs (W.alloc o) := h.call (qac W o)
theorem Wr.ne (h : Wr b Bb Bp bs W) : Bp ≠ Bb := by
 obtain ⟨h1, A, c, h2, _⟩ := h
 exact Box.apart h1 h2 (by decide)
theorem Wr.off (h : Wr b Bb Bp bs W) {p : Addr} {t : TypeId} {cs : Array Value} (hp : Box W p.block t cs) (h1 : t ≠ 198) (h2 : t ≠ 165) (h3 : t ≠ 5) (u : Value) : Wr b Bb Bp bs (W.setCell p u) := by
 obtain ⟨k1, A, c, k2, k3⟩ := h
 exact ⟨k1.far (fun e => Box.apart k1 hp (fun e' => h1 e'.symm) e) u, A, c, k2.far (fun e => Box.apart k2 hp (fun e' => h2 e'.symm) e) u, ownsRow_setCell_other k3 (hp.qaM k3 (fun e => h3 e.symm)) u⟩
end
end Go.Proofs.YtmiopphcfdlneaaGreat