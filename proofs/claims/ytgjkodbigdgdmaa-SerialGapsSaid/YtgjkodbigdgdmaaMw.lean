/-
Words for memory, our own: a block that is known whole ('Box'); a slice whose cells lie somewhere below ('Lies').
-/
import Derived.Test.YtgjkodbigdgdmaaKp
import Derived.Test.YtgjkodbigdgdmaaBz
import Derived.Laws.OwnMore
import Derived.Deep.Draws
import Derived.Laws.Rows
import Derived.Deep.MidRow
import Derived.Maps.AppendAt
namespace Go.Proofs.Ytgjkodbigdgdmaa
open Go.RowKit
set_option linter.unusedVariables false

theorem add_block (a : Addr) (n : Nat) : (a.add n).block = a.block := by
  by_cases h : n = 0
  · simp [Addr.add, h]
  · simp [Addr.add, h]
theorem add_twice (a : Addr) (i j : Nat) : (a.add i).add j = a.add (i + j) := by
  cases i with
  | zero => simp [Addr.add]
  | succ i =>
    cases j with
    | zero => simp [Addr.add]
    | succ j => simp [Addr.add]; omega

/-- n elements of 'size' cells each begin at A, in a block below B, and are the cells xs; of no elements nothing is asked. (A structure, so that nobody looks into it unasked.) -/
structure Lies (w : World) (B size : Nat) (A : Option Addr) (n : Nat) (xs : List Value) : Prop where
  len : xs.length = n * size
  start : n ≠ 0 → ∃ ad : Addr, A = some ad ∧ ad.block < B
  cell : ∀ ad, A = some ad → n ≠ 0 → ∀ j u, xs[j]? = some u → w.cell? (ad.add j) = some u

section
variable {w w' : World} {B B' size n : Nat} {A : Option Addr} {xs : List Value}
theorem Lies.empty : Lies w B size A 0 [] := ⟨by simp, fun h => absurd rfl h, fun _ _ h => absurd rfl h⟩
theorem Lies.wider (h : Lies w B size A n xs) (hB : B ≤ B') : Lies w B' size A n xs :=
  ⟨h.len, fun hn => let ⟨ad, e, hb⟩ := h.start hn; ⟨ad, e, Nat.lt_of_lt_of_le hb hB⟩, h.cell⟩
theorem Lies.stays (h : Lies w B size A n xs) (hk : ∀ b, b < B → w'.heap[b]? = w.heap[b]?) : Lies w' B size A n xs :=
  ⟨h.len, h.start, fun ad e hn j u hu => by
    obtain ⟨ad', e', hb⟩ := h.start hn
    obtain rfl : ad' = ad := by rw [e] at e'; injection e' with e'; exact e'.symm
    rw [World.cell?_of_block (w := w) (by rw [add_block]; exact hk _ hb)]
    exact h.cell _ e hn j u hu⟩
theorem Lies.below (h : Lies w B size A n xs) (hb : Below B w w') : Lies w' B size A n xs := h.stays hb.block
theorem Lies.owned {base : Nat} {e : TypeId} {c : Nat} (h : w.ownsRow base e size (.slice A n c) n xs) : Lies w w.heap.size size A n xs := by
  have ho := h
  obtain ⟨hl, h' | ⟨g, cap, cur, hv, hb, hg, _⟩⟩ := h
  · obtain ⟨_, rfl⟩ := h'
    exact ⟨hl, fun h => absurd rfl h, fun _ _ h => absurd rfl h⟩
  · have hA : A = some ⟨g, 0, none⟩ := by injection hv
    refine ⟨hl, fun _ => ⟨_, hA, (Array.getElem?_eq_some_iff.1 hg).1⟩, fun ad e _ j u hu => ?_⟩
    rw [hA] at e
    injection e with e
    subst e
    exact ho.cells (by rw [hA]; rfl) j u hu
end

/-- Block g is just the cells cs, of element type t, none of them frozen. (A structure, too.) -/
structure Box (w : World) (g : Nat) (t : TypeId) (cs : Array Value) : Prop where
  is : w.heap[g]? = some (.cells cs t (0, 0))

section
variable {w w' : World} {g : Nat} {t : TypeId} {cs : Array Value}
theorem Box.lt (h : Box w g t cs) : g < w.heap.size := (Array.getElem?_eq_some_iff.1 h.is).1
theorem Box.cell (h : Box w g t cs) (i : Nat) : w.cell? ⟨g, i, none⟩ = cs[i]? := cell_of_row w g i cs t (0, 0) h.is
theorem Box.free (h : Box w g t cs) (i : Nat) : w.frozen? ⟨g, i, none⟩ = false := frozen_of_row w g i cs t h.is
theorem Box.made (w : World) (t : TypeId) (cs : Array Value) : Box (w.alloc (.cells cs t)) w.heap.size t cs := ⟨heap_alloc_new w _⟩
theorem Box.made_at {n : Nat} (w : World) (t : TypeId) (cs : Array Value) (h : n = w.heap.size) : Box (w.alloc (.cells cs t)) n t cs := by subst h; exact Box.made w t cs
theorem Box.drew (h : Box w g t cs) : Box w.drew g t cs := ⟨h.is⟩
theorem Box.draws (h : Box w g t cs) (n : Nat) : Box (w.drewN n) g t cs := ⟨h.is⟩
theorem Box.alloc (h : Box w g t cs) (o : Obj) : Box (w.alloc o) g t cs := ⟨(Below.heap_alloc w o g h.lt).trans h.is⟩
theorem Box.put (h : Box w g t cs) (i : Nat) (u : Value) : Box (w.setCell ⟨g, i, none⟩ u) g t (cs.setIfInBounds i u) := ⟨heap_setCell_same w g i cs t u h.is⟩
theorem Box.far (h : Box w g t cs) {p : Addr} (hp : g ≠ p.block) (u : Value) : Box (w.setCell p u) g t cs := ⟨(heap_setCell_other w p g u hp).trans h.is⟩
theorem Box.below {B : Nat} (h : Box w g t cs) (hb : Below B w w') (hg : g < B) : Box w' g t cs := ⟨(hb.block g hg).trans h.is⟩
theorem Box.grown {row : Option Nat} (h : Box w g t cs) (hb : w.grownBy w' row) (hg : row ≠ some g) : Box w' g t cs := ⟨(hb.block g h.lt (fun e => hg e.symm)).trans h.is⟩
theorem Box.apart {g' : Nat} {t' : TypeId} {cs' : Array Value} (h : Box w g t cs) (h' : Box w g' t' cs') (hne : t ≠ t') : g ≠ g' := fun e => by
  have h1 := h.is
  rw [e, h'.is] at h1
  injection h1 with h1
  injection h1 with _ ht _
  exact hne ht.symm
/-- What is owned as a row of another type is another block. -/
theorem Box.unowned {base : Nat} {e : TypeId} {size n : Nat} {v : Value} {xs : List Value} (h : Box w g t cs) (ho : w.ownsRow base e size v n xs) (hne : e ≠ t) : v.ownBlock ≠ some g := by
  obtain ⟨_, ⟨rfl, _⟩ | ⟨g', cap, cur, rfl, _, hg, _⟩⟩ := ho
  · intro h; cases h
  · intro he
    have e' : g' = g := by injection he
    exact Box.apart ⟨hg⟩ h hne e'
end

/-! Nothing is appended; something is. -/
theorem append_nothing {P : Program} (w : World) {t ty e : TypeId} {i : TypeInfo} {size base : Nat} (ht : P.underlying t = some (.slice e)) (hi : P.info? e = some i) {v : Value} {n : Nat} {xs : List Value} (ho : w.ownsRow base e size v n xs) (c : Nat) :
    (Builtin.append_ #[t, t] ty #[v, .slice none 0 c]).run P w = .ok v w := by
  obtain ⟨_, ⟨rfl, rfl⟩ | ⟨g, cap, cur, rfl, _, _, hnc, _⟩⟩ := ho
  · simp [Builtin.append_, run_underlying ht, sizeOf, typeInfo, hi, Builtin.lenOf, Builtin.firstCells]
  · simp [Builtin.append_, run_underlying ht, sizeOf, typeInfo, hi, Builtin.lenOf, Builtin.firstCells, hnc, storeCells]
/-- What an append wants, and what it leaves: asked of the values alone. -/
def Appends (P : Program) (e : TypeId) (size bytes : Nat) (ops : Array Oper) (Q : Exit → Act → World → Prop) (rest : List Oper) (dst : Option Tmp) (v q : Value) (a : Act) (w : World) : Prop :=
  ∃ (base n : Nat) (xs : List Value) (A : Option Addr) (m c : Nat) (news : List Value), q = .slice A m c ∧ w.ownsRow base e size v n xs ∧ Lies w w.heap.size size A m news ∧ (∀ u ∈ news, u.oneCell' = true) ∧
    n + m ≤ maxLen ∧ (n + m) * bytes ≤ 140737488355328 ∧ base ≤ w.heap.size ∧
    ∀ A' c' w', w'.ownsRow base e size (.slice A' (n + m) c') (n + m) (xs ++ news) → w.grownBy w' v.ownBlock → wpList P ops Q rest (a.put dst (.slice A' (n + m) c')) w'
theorem Appends.mk {P : Program} {e : TypeId} {size bytes : Nat} {ops : Array Oper} {Q : Exit → Act → World → Prop} {rest : List Oper} {dst : Option Tmp} {v q : Value} {a : Act} {w : World} {base n : Nat} {xs : List Value} {A : Option Addr} {m c : Nat} {news : List Value}
    (hq : q = .slice A m c) (ho : w.ownsRow base e size v n xs) (hl : Lies w w.heap.size size A m news) (h1 : ∀ u ∈ news, u.oneCell' = true) (h63 : n + m ≤ maxLen) (hb : (n + m) * bytes ≤ 140737488355328) (hbase : base ≤ w.heap.size)
    (h : ∀ A' c' w', w'.ownsRow base e size (.slice A' (n + m) c') (n + m) (xs ++ news) → w.grownBy w' v.ownBlock → wpList P ops Q rest (a.put dst (.slice A' (n + m) c')) w') : Appends P e size bytes ops Q rest dst v q a w :=
  ⟨base, n, xs, A, m, c, news, hq, ho, hl, h1, h63, hb, hbase, h⟩
theorem owned_slice {w : World} {base : Nat} {e : TypeId} {size n : Nat} {v : Value} {xs : List Value} (h : w.ownsRow base e size v n xs) : ∃ A c, v = .slice A n c := by
  obtain ⟨_, ⟨rfl, rfl⟩ | ⟨g, cap, cur, rfl, _⟩⟩ := h
  · exact ⟨_, _, rfl⟩
  · exact ⟨_, _, rfl⟩
theorem append_gate {P : Program} {ops : Array Oper} {rest : List Oper} {o : Oper} {a : Act} {w : World} {Q : Exit → Act → World → Prop} {t e : TypeId} {i : TypeInfo} {z : Value} {size bytes : Nat} {x y : Operand}
    (hgd : o.guard = none) (ho : o.op = .call { callee := .builtin .append, args := #[x, y], argTypes := #[t, t] }) (ht : P.underlying t = some (.slice e)) (hi : P.info? e = some i) (hz : i.zero = some z) (hs : i.size = size) (hby : i.bytes = bytes) (hzs : z.cells.size = size) (hsz : 0 < size)
    (h : Appends P e size bytes ops Q rest o.dst (a.eval x) (a.eval y) a w) : wpList P ops Q (o :: rest) a w := by
  obtain ⟨base, n, xs, A, m, c, news, hq, hown, hl, h1, h63, hb47, hbase, h⟩ := h
  have hrun : ∃ v' w', (Builtin.append_ #[t, t] o.type #[a.eval x, .slice A m c]).run P w = .ok v' w' ∧ w'.ownsRow base e size v' (n + m) (xs ++ news) ∧ w.grownBy w' (a.eval x).ownBlock := by
    cases A with
    | none =>
      have hm : m = 0 := by
        by_cases hm : m = 0
        · exact hm
        · obtain ⟨ad, he, _⟩ := hl.start hm
          cases he
      subst hm
      have hn : news = [] := List.eq_nil_of_length_eq_zero (by simpa using hl.len)
      subst hn
      exact ⟨_, w, append_nothing w ht hi hown c, by simpa using hown, World.grownBy.refl w _⟩
    | some ad =>
      have hcells : ∀ j u, news[j]? = some u → w.cell? (ad.add j) = some u := fun j u hu => by
        by_cases hm : m = 0
        · subst hm
          have hn : news = [] := List.eq_nil_of_length_eq_zero (by simpa using hl.len)
          subst hn
          simp at hu
        · exact hl.cell ad rfl hm j u hu
      obtain ⟨v', w', hr, h2, h3, _, _⟩ := run_append_own_at (P := P) w base t o.type e i z size bytes ht hi hz hs hby hzs hsz _ n xs hown ad m c news hl.len hcells h1 h63 hb47 hbase
      exact ⟨v', w', hr, h2, h3⟩
  obtain ⟨v', w', hr, h2, h3⟩ := hrun
  obtain ⟨A', c', rfl⟩ := owned_slice h2
  refine wpList_plain hgd fun _ hK => ?_
  unfold Oper.wp execOp
  simp only [ho, resolve, invoke, builtin, Sem.run_bind, Sem.run_pure, Result.andThen_ok, List.map_toArray, List.map_cons, List.map_nil, hq, hr]
  exact hK _ _ (h A' c' w' h2 h3)
end Go.Proofs.Ytgjkodbigdgdmaa
