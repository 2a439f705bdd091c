/-
Several texts in one: Fl Kp Bz Mw Fx Gf Dn Gm Gr Fa Ga Gh Mv.
-/
import Derived.Laws.FloatArith
import Derived.Test.YtiahpncglpfjeaaGreatRows
import Derived.WalkKit
import Derived.WalkSpells
import Derived.WalkLawsBesides
import Derived.Laws.Externs
import Derived.Laws.BitsAllLaws
import Derived.Lib.Hide
import Derived.LoopTactic
import Derived.Deep.QuietTactic
import Derived.BigQuiet
import Derived.Outline
import Derived.Laws.OwnMore
import Derived.Deep.Draws
import Derived.Laws.Rows
import Derived.Deep.MidRow
import Derived.Maps.AppendAt
import Derived.RowKit
import Derived.Laws.StructEq
import Derived.Deep.WholeRow
import Derived.Orders
import Derived.Tactics
import Derived.Tactics2
import Derived.KernelRfl
import Derived.StillTail
import Derived.Below
import Derived.RangeFuncNested
import Derived.RangeFuncBound
import Derived.RangeFuncCalls
import Derived.RangeFuncLeaves
import Derived.Shelf.Abstract
import Derived.Shelf.RegionOpen
import Derived.ChangeKeysEq
import Derived.Deep.CutRange
import Derived.Deep.CutBlock
import Derived.Deep.DeepCutAuto
import Derived.Deep.LoopGhost
import Derived.OwnWalkIn
import Derived.TacticsInMore
import Derived.LoopNIn
import Derived.LoopIn
import Derived.Laws.CopyOwn
import Derived.Laws.MakeOwn
import Derived.Laws.EntriesVeiled
import Derived.Laws.IdiomStrings
import Derived.OneCell
import Derived.Deep.RegionWith
import Derived.Deep.DrawnRows
import Derived.BigRegion
import Derived.OrdersIn
import Derived.Defers
import Derived.Recover
import GoSem.Claim
import Derived.ChangeShapes
import Derived.ProofKit
import Derived.OpenShut
import Derived.Carry
import Derived.Lib.SmallJoins
import Derived.ChangeOld
import Derived.ChangeArms
import Derived.Laws.BytesArg
import Derived.Great.BuildSlice
import Derived.Lib.Bytes
namespace Fl
open Ieee

/-- What a rung comes to, in units of the least number; on beyond infinity as if there were none. -/
def G (r : Nat) : Nat := if r / 2 ^ 52 = 0 then r else (2 ^ 52 + r % 2 ^ 52) * 2 ^ (r / 2 ^ 52 - 1)

theorem G_kept (e q : Nat) (h1 : q ≤ 2 ^ 53) (h2 : e = 0 ∨ 2 ^ 52 ≤ q) : G (e * 2 ^ 52 + q) = q * 2 ^ e := by
  unfold G
  by_cases c : q < 2 ^ 52
  · have e0 : e = 0 := by omega
    subst e0
    rw [if_pos (by omega)]
    simp
  · by_cases c2 : q < 2 ^ 53
    · have d : (e * 2 ^ 52 + q) / 2 ^ 52 = e + 1 := by omega
      have m : (e * 2 ^ 52 + q) % 2 ^ 52 = q - 2 ^ 52 := by omega
      rw [d, m, if_neg (by omega), show 2 ^ 52 + (q - 2 ^ 52) = q from by omega, show e + 1 - 1 = e from rfl]
    · have hq : q = 2 ^ 53 := by omega
      have d : (e * 2 ^ 52 + q) / 2 ^ 52 = e + 2 := by omega
      have m : (e * 2 ^ 52 + q) % 2 ^ 52 = 0 := by omega
      rw [d, m, if_neg (by omega), hq, show e + 2 - 1 = e + 1 from by omega, Nat.pow_succ 2 e]
      omega

theorem rep (r : Nat) : ∃ e q, r = e * 2 ^ 52 + q ∧ q < 2 ^ 53 ∧ (e = 0 ∨ 2 ^ 52 ≤ q) := by
  by_cases c : r < 2 ^ 52
  · exact ⟨0, r, by omega, by omega, Or.inl rfl⟩
  · exact ⟨r / 2 ^ 52 - 1, 2 ^ 52 + r % 2 ^ 52, by omega, by omega, Or.inr (by omega)⟩

theorem G_succ (r : Nat) : G r < G (r + 1) := by
  obtain ⟨e, q, rfl, h1, h2⟩ := rep r
  rw [G_kept e q (by omega) h2, Nat.add_assoc, G_kept e (q + 1) (by omega) (by omega)]
  exact Nat.mul_lt_mul_of_pos_right (by omega) (Nat.two_pow_pos e)

theorem G_lt {a b : Nat} (h : a < b) : G a < G b := by
  induction b with
  | zero => omega
  | succ b ih =>
    by_cases c : a = b
    · subst c; exact G_succ a
    · exact Nat.lt_trans (ih (by omega)) (G_succ b)

theorem G_le {a b : Nat} (h : a ≤ b) : G a ≤ G b := by
  by_cases c : a = b
  · subst c; exact Nat.le_refl _
  · exact Nat.le_of_lt (G_lt (by omega))

/-- r is the rung nearest to v / 2 ^ s (in units of the least number); between two, the even one. -/
structure Near (v s r : Nat) : Prop where
  lo : ∀ p, r = p + 1 → (G p + G r) * 2 ^ s ≤ 2 * v ∧ ((G p + G r) * 2 ^ s = 2 * v → r % 2 = 0)
  hi : 2 * v ≤ (G r + G (r + 1)) * 2 ^ s ∧ (2 * v = (G r + G (r + 1)) * 2 ^ s → r % 2 = 0)

theorem Near.mono {v v' s r r' : Nat} (h : Near v s r) (h' : Near v' s r') (hv : v ≤ v') : r ≤ r' := by
  by_cases c : r ≤ r'
  · exact c
  · exfalso
    obtain ⟨p, rfl⟩ : ∃ p, r = p + 1 := ⟨r - 1, by omega⟩
    have a := h.lo p rfl
    have b := h'.hi
    have m : (G r' + G (r' + 1)) * 2 ^ s ≤ (G p + G (p + 1)) * 2 ^ s :=
      Nat.mul_le_mul_right _ (Nat.add_le_add (G_le (by omega)) (G_le (by omega)))
    have e1 := a.2 (by omega)
    have e2 := b.2 (by omega)
    have e3 : p ≠ r' := by omega
    have m' : (G r' + G (r' + 1)) * 2 ^ s < (G p + G (p + 1)) * 2 ^ s :=
      Nat.mul_lt_mul_of_pos_right (Nat.add_lt_add (G_lt (by omega)) (G_lt (by omega))) (Nat.two_pow_pos s)
    omega

theorem Near.exact (s r : Nat) : Near (G r * 2 ^ s) s r := by
  have hp := Nat.two_pow_pos s
  constructor
  · intro p hr
    subst hr
    have := Nat.mul_lt_mul_of_pos_right (G_succ p) hp
    rw [Nat.add_mul]
    omega
  · have := Nat.mul_lt_mul_of_pos_right (G_succ r) hp
    rw [Nat.add_mul]
    omega

/-- The sign and the rung of a word; where it stands. -/
def sgn (x : Nat) : Bool := x / 2 ^ 63 % 2 == 1
def rung (x : Nat) : Nat := x % 2 ^ 63
def Z (x : Nat) : Int := if sgn x then -(G (rung x) : Int) else G (rung x)

/-- One, in units of the least number. -/
def U : Nat := 2 ^ 1074

end Fl
namespace Go.Proofs.YtiahpncglpfjeaaGreat
open Go.RowKit
set_option linter.unusedVariables false

theorem ret_bool {a b : Bool} (h : a = b) : Ending.returned (.bool a) = .returned (.bool b) := by rw [h]
theorem ret_int {k : IntKind} {a b : Int} (h : a = b) : Ending.returned (.int k a) = .returned (.int k b) := by rw [h]

/-- Whatever was there in v is there in w. -/
def Kept (v w : World) : Prop := Below v.heap.size v w
theorem Kept.refl (w : World) : Kept w w := Below.refl _ _
theorem Kept.on {v w w' : World} (h : Kept v w) (h' : Below w.heap.size w w') : Kept v w' := Below.trans h (h'.mono (Below.size h))

end Go.Proofs.YtiahpncglpfjeaaGreat
namespace Go.Proofs.YtiahpncglpfjeaaGreat
open Go.RowKit
set_option linter.unusedVariables false

/-- A callee that leaves the world alone, met behind draws. -/
theorem draws_left {P : Program} {f : FuncId} {args : Array Value} {w : World} {n : Nat} {v : Value}
    (h : Calls P f args (w.drewN n) fun e w' => e = .returned v ∧ w.drewN n = w') : Calls P f args (w.drewN n) fun e w'' => e = .returned v ∧ ∃ m, w'' = w.drewN m :=
  h.mono fun _ _ ⟨he, hm⟩ => ⟨he, n, hm.symm⟩
theorem draws_below {B : Nat} {a w : World} (h : Below B a w) (n : Nat) : Below B a (w.drewN n) := ⟨h.os, h.tape, h.output, h.size, h.block⟩
theorem ret_two {k : IntKind} {a b c d : Int} (h : a = b) (h' : c = d) : Ending.returned (.tuple #[.int k a, .int k c]) = .returned (.tuple #[.int k b, .int k d]) := by rw [h, h']
theorem one_below (w : World) (o1 : Obj) : Below w.heap.size w (w.alloc o1) := (Below.refl _ _).alloc (Nat.le_refl _) _
theorem two_below' (w : World) (o1 o2 : Obj) : Below w.heap.size w ((w.alloc o1).alloc o2) := ((Below.refl _ _).alloc (Nat.le_refl _) _).alloc (by simp) _

end Go.Proofs.YtiahpncglpfjeaaGreat
namespace Go.Proofs.YtiahpncglpfjeaaGreat
open Go.RowKit
set_option linter.unusedVariables false

theorem add_block (a : Addr) (n : Nat) : (a.add n).block = a.block := by
  by_cases h : n = 0
  · simp [Addr.add, h]
  · simp [Addr.add, h]
theorem add_twice (a : Addr) (i j : Nat) : (a.add i).add j = a.add (i + j) := by
  cases i with
  | zero => simp [Addr.add]
  | succ i =>
    cases j with
    | zero => simp [Addr.add]
    | succ j => simp [Addr.add]; omega

/-- n elements of 'size' cells each begin at A, in a block below B, and are the cells xs; of no elements nothing is asked. (A structure, so that nobody looks into it unasked.) -/
structure Lies (w : World) (B size : Nat) (A : Option Addr) (n : Nat) (xs : List Value) : Prop where
  len : xs.length = n * size
  start : n ≠ 0 → ∃ ad : Addr, A = some ad ∧ ad.block < B
  cell : ∀ ad, A = some ad → n ≠ 0 → ∀ j u, xs[j]? = some u → w.cell? (ad.add j) = some u

section
variable {w w' : World} {B B' size n : Nat} {A : Option Addr} {xs : List Value}
theorem Lies.empty : Lies w B size A 0 [] := ⟨by simp, fun h => absurd rfl h, fun _ _ h => absurd rfl h⟩
theorem Lies.wider (h : Lies w B size A n xs) (hB : B ≤ B') : Lies w B' size A n xs :=
  ⟨h.len, fun hn => let ⟨ad, e, hb⟩ := h.start hn; ⟨ad, e, Nat.lt_of_lt_of_le hb hB⟩, h.cell⟩
theorem Lies.stays (h : Lies w B size A n xs) (hk : ∀ b, b < B → w'.heap[b]? = w.heap[b]?) : Lies w' B size A n xs :=
  ⟨h.len, h.start, fun ad e hn j u hu => by
    obtain ⟨ad', e', hb⟩ := h.start hn
    obtain rfl : ad' = ad := by rw [e] at e'; injection e' with e'; exact e'.symm
    rw [World.cell?_of_block (w := w) (by rw [add_block]; exact hk _ hb)]
    exact h.cell _ e hn j u hu⟩
theorem Lies.below (h : Lies w B size A n xs) (hb : Below B w w') : Lies w' B size A n xs := h.stays hb.block
theorem Lies.owned {base : Nat} {e : TypeId} {c : Nat} (h : w.ownsRow base e size (.slice A n c) n xs) : Lies w w.heap.size size A n xs := by
  have ho := h
  obtain ⟨hl, h' | ⟨g, cap, cur, hv, hb, hg, _⟩⟩ := h
  · obtain ⟨_, rfl⟩ := h'
    exact ⟨hl, fun h => absurd rfl h, fun _ _ h => absurd rfl h⟩
  · have hA : A = some ⟨g, 0, none⟩ := by injection hv
    refine ⟨hl, fun _ => ⟨_, hA, (Array.getElem?_eq_some_iff.1 hg).1⟩, fun ad e _ j u hu => ?_⟩
    rw [hA] at e
    injection e with e
    subst e
    exact ho.cells (by rw [hA]; rfl) j u hu
end

/-- Block g is just the cells cs, of element type t, none of them frozen. (A structure, too.) -/
structure Box (w : World) (g : Nat) (t : TypeId) (cs : Array Value) : Prop where
  is : w.heap[g]? = some (.cells cs t (0, 0))

section
variable {w w' : World} {g : Nat} {t : TypeId} {cs : Array Value}
theorem Box.lt (h : Box w g t cs) : g < w.heap.size := (Array.getElem?_eq_some_iff.1 h.is).1
theorem Box.cell (h : Box w g t cs) (i : Nat) : w.cell? ⟨g, i, none⟩ = cs[i]? := cell_of_row w g i cs t (0, 0) h.is
theorem Box.free (h : Box w g t cs) (i : Nat) : w.frozen? ⟨g, i, none⟩ = false := frozen_of_row w g i cs t h.is
theorem Box.made (w : World) (t : TypeId) (cs : Array Value) : Box (w.alloc (.cells cs t)) w.heap.size t cs := ⟨heap_alloc_new w _⟩
theorem Box.made_at {n : Nat} (w : World) (t : TypeId) (cs : Array Value) (h : n = w.heap.size) : Box (w.alloc (.cells cs t)) n t cs := by subst h; exact Box.made w t cs
theorem Box.drew (h : Box w g t cs) : Box w.drew g t cs := ⟨h.is⟩
theorem Box.draws (h : Box w g t cs) (n : Nat) : Box (w.drewN n) g t cs := ⟨h.is⟩
theorem Box.alloc (h : Box w g t cs) (o : Obj) : Box (w.alloc o) g t cs := ⟨(Below.heap_alloc w o g h.lt).trans h.is⟩
theorem Box.put (h : Box w g t cs) (i : Nat) (u : Value) : Box (w.setCell ⟨g, i, none⟩ u) g t (cs.setIfInBounds i u) := ⟨heap_setCell_same w g i cs t u h.is⟩
theorem Box.far (h : Box w g t cs) {p : Addr} (hp : g ≠ p.block) (u : Value) : Box (w.setCell p u) g t cs := ⟨(heap_setCell_other w p g u hp).trans h.is⟩
theorem Box.below {B : Nat} (h : Box w g t cs) (hb : Below B w w') (hg : g < B) : Box w' g t cs := ⟨(hb.block g hg).trans h.is⟩
theorem Box.grown {row : Option Nat} (h : Box w g t cs) (hb : w.grownBy w' row) (hg : row ≠ some g) : Box w' g t cs := ⟨(hb.block g h.lt (fun e => hg e.symm)).trans h.is⟩
theorem Box.apart {g' : Nat} {t' : TypeId} {cs' : Array Value} (h : Box w g t cs) (h' : Box w g' t' cs') (hne : t ≠ t') : g ≠ g' := fun e => by
  have h1 := h.is
  rw [e, h'.is] at h1
  injection h1 with h1
  injection h1 with _ ht _
  exact hne ht.symm
/-- What is owned as a row of another type is another block. -/
theorem Box.unowned {base : Nat} {e : TypeId} {size n : Nat} {v : Value} {xs : List Value} (h : Box w g t cs) (ho : w.ownsRow base e size v n xs) (hne : e ≠ t) : v.ownBlock ≠ some g := by
  obtain ⟨_, ⟨rfl, _⟩ | ⟨g', cap, cur, rfl, _, hg, _⟩⟩ := ho
  · intro h; cases h
  · intro he
    have e' : g' = g := by injection he
    exact Box.apart ⟨hg⟩ h hne e'
end

theorem append_nothing {P : Program} (w : World) {t ty e : TypeId} {i : TypeInfo} {size base : Nat} (ht : P.underlying t = some (.slice e)) (hi : P.info? e = some i) {v : Value} {n : Nat} {xs : List Value} (ho : w.ownsRow base e size v n xs) (c : Nat) :
    (Builtin.append_ #[t, t] ty #[v, .slice none 0 c]).run P w = .ok v w := by
  obtain ⟨_, ⟨rfl, rfl⟩ | ⟨g, cap, cur, rfl, _, _, hnc, _⟩⟩ := ho
  · simp [Builtin.append_, run_underlying ht, sizeOf, typeInfo, hi, Builtin.lenOf, Builtin.firstCells]
  · simp [Builtin.append_, run_underlying ht, sizeOf, typeInfo, hi, Builtin.lenOf, Builtin.firstCells, hnc, storeCells]
/-- What an append wants, and what it leaves: asked of the values alone. -/
def Appends (P : Program) (e : TypeId) (size bytes : Nat) (ops : Array Oper) (Q : Exit → Act → World → Prop) (rest : List Oper) (dst : Option Tmp) (v q : Value) (a : Act) (w : World) : Prop :=
  ∃ (base n : Nat) (xs : List Value) (A : Option Addr) (m c : Nat) (news : List Value), q = .slice A m c ∧ w.ownsRow base e size v n xs ∧ Lies w w.heap.size size A m news ∧ (∀ u ∈ news, u.oneCell' = true) ∧
    n + m ≤ maxLen ∧ (n + m) * bytes ≤ 140737488355328 ∧ base ≤ w.heap.size ∧
    ∀ A' c' w', w'.ownsRow base e size (.slice A' (n + m) c') (n + m) (xs ++ news) → w.grownBy w' v.ownBlock → wpList P ops Q rest (a.put dst (.slice A' (n + m) c')) w'
theorem Appends.mk {P : Program} {e : TypeId} {size bytes : Nat} {ops : Array Oper} {Q : Exit → Act → World → Prop} {rest : List Oper} {dst : Option Tmp} {v q : Value} {a : Act} {w : World} {base n : Nat} {xs : List Value} {A : Option Addr} {m c : Nat} {news : List Value}
    (hq : q = .slice A m c) (ho : w.ownsRow base e size v n xs) (hl : Lies w w.heap.size size A m news) (h1 : ∀ u ∈ news, u.oneCell' = true) (h63 : n + m ≤ maxLen) (hb : (n + m) * bytes ≤ 140737488355328) (hbase : base ≤ w.heap.size)
    (h : ∀ A' c' w', w'.ownsRow base e size (.slice A' (n + m) c') (n + m) (xs ++ news) → w.grownBy w' v.ownBlock → wpList P ops Q rest (a.put dst (.slice A' (n + m) c')) w') : Appends P e size bytes ops Q rest dst v q a w :=
  ⟨base, n, xs, A, m, c, news, hq, ho, hl, h1, h63, hb, hbase, h⟩
theorem owned_slice {w : World} {base : Nat} {e : TypeId} {size n : Nat} {v : Value} {xs : List Value} (h : w.ownsRow base e size v n xs) : ∃ A c, v = .slice A n c := by
  obtain ⟨_, ⟨rfl, rfl⟩ | ⟨g, cap, cur, rfl, _⟩⟩ := h
  · exact ⟨_, _, rfl⟩
  · exact ⟨_, _, rfl⟩
theorem append_gate {P : Program} {ops : Array Oper} {rest : List Oper} {o : Oper} {a : Act} {w : World} {Q : Exit → Act → World → Prop} {t e : TypeId} {i : TypeInfo} {z : Value} {size bytes : Nat} {x y : Operand}
    (hgd : o.guard = none) (ho : o.op = .call { callee := .builtin .append, args := #[x, y], argTypes := #[t, t] }) (ht : P.underlying t = some (.slice e)) (hi : P.info? e = some i) (hz : i.zero = some z) (hs : i.size = size) (hby : i.bytes = bytes) (hzs : z.cells.size = size) (hsz : 0 < size)
    (h : Appends P e size bytes ops Q rest o.dst (a.eval x) (a.eval y) a w) : wpList P ops Q (o :: rest) a w := by
  obtain ⟨base, n, xs, A, m, c, news, hq, hown, hl, h1, h63, hb47, hbase, h⟩ := h
  have hrun : ∃ v' w', (Builtin.append_ #[t, t] o.type #[a.eval x, .slice A m c]).run P w = .ok v' w' ∧ w'.ownsRow base e size v' (n + m) (xs ++ news) ∧ w.grownBy w' (a.eval x).ownBlock := by
    cases A with
    | none =>
      have hm : m = 0 := by
        by_cases hm : m = 0
        · exact hm
        · obtain ⟨ad, he, _⟩ := hl.start hm
          cases he
      subst hm
      have hn : news = [] := List.eq_nil_of_length_eq_zero (by simpa using hl.len)
      subst hn
      exact ⟨_, w, append_nothing w ht hi hown c, by simpa using hown, World.grownBy.refl w _⟩
    | some ad =>
      have hcells : ∀ j u, news[j]? = some u → w.cell? (ad.add j) = some u := fun j u hu => by
        by_cases hm : m = 0
        · subst hm
          have hn : news = [] := List.eq_nil_of_length_eq_zero (by simpa using hl.len)
          subst hn
          simp at hu
        · exact hl.cell ad rfl hm j u hu
      obtain ⟨v', w', hr, h2, h3, _, _⟩ := run_append_own_at (P := P) w base t o.type e i z size bytes ht hi hz hs hby hzs hsz _ n xs hown ad m c news hl.len hcells h1 h63 hb47 hbase
      exact ⟨v', w', hr, h2, h3⟩
  obtain ⟨v', w', hr, h2, h3⟩ := hrun
  obtain ⟨A', c', rfl⟩ := owned_slice h2
  refine wpList_plain hgd fun _ hK => ?_
  unfold Oper.wp execOp
  simp only [ho, resolve, invoke, builtin, Sem.run_bind, Sem.run_pure, Result.andThen_ok, List.map_toArray, List.map_cons, List.map_nil, hq, hr]
  exact hK _ _ (h A' c' w' h2 h3)
end Go.Proofs.YtiahpncglpfjeaaGreat
namespace Fx

def cut (v : Int) : Int := min (max v (-2147483648)) 2147483647
def clamp (a lo hi : Int) : Int := min (max a lo) hi
theorem cut_bd (v : Int) : -2147483648 ≤ cut v ∧ cut v ≤ 2147483647 := by unfold cut; omega
/-- The greatest whole number whose square is not above n. -/
noncomputable def sq (n : Nat) : Nat := Classical.epsilon fun r => r * r ≤ n ∧ n < (r + 1) * (r + 1)

theorem sq_one {n r s : Nat} (h : r * r ≤ n ∧ n < (r + 1) * (r + 1)) (h' : s * s ≤ n ∧ n < (s + 1) * (s + 1)) : r = s := by
  rcases Nat.lt_trichotomy r s with c | c | c
  · have := Nat.mul_le_mul (show r + 1 ≤ s from c) (show r + 1 ≤ s from c)
    omega
  · exact c
  · have := Nat.mul_le_mul (show s + 1 ≤ r from c) (show s + 1 ≤ r from c)
    omega
theorem sq_is {n r : Nat} (h : r * r ≤ n ∧ n < (r + 1) * (r + 1)) : sq n = r := sq_one (Classical.epsilon_spec (p := fun r => r * r ≤ n ∧ n < (r + 1) * (r + 1)) ⟨r, h⟩) h
noncomputable def root (a : Int) : Int := if a ≤ 0 then 0 else sq (a.toNat * 65536)
/-- A root that is right in every digit from place j on, and has none below. -/
structure Half (n R j : Nat) : Prop where
  whole : R % 2 ^ j = 0
  lo : R * R ≤ n
  hi : n < (R + 2 ^ j) * (R + 2 ^ j)

theorem Half.start {n j : Nat} (h : n < 2 ^ j * 2 ^ j) : Half n 0 j := ⟨Nat.zero_mod _, by omega, by rwa [Nat.zero_add]⟩
theorem Half.take {n R j : Nat} (h : Half n R (j + 1)) (c : (R + 2 ^ j) * (R + 2 ^ j) ≤ n) : Half n (R + 2 ^ j) j := by
  have e : 2 ^ (j + 1) = 2 ^ j + 2 ^ j := by rw [Nat.pow_succ]; omega
  refine ⟨?_, c, ?_⟩
  · have := Nat.mod_mod_of_dvd R (show 2 ^ j ∣ 2 ^ (j + 1) from ⟨2, by rw [Nat.pow_succ]⟩)
    rw [h.whole, Nat.zero_mod] at this
    rw [Nat.add_mod_right]; omega
  · have := h.hi; rw [e, ← Nat.add_assoc] at this; exact this
theorem Half.done {n R : Nat} (h : Half n R 0) : sq n = R := sq_is ⟨h.lo, h.hi⟩
theorem Half.below {n R j : Nat} (h : Half n R j) (m : Nat) (hm : n < m * m) : R < m := by
  by_cases c : R < m
  · exact c
  · have := Nat.mul_le_mul (show m ≤ R by omega) (show m ≤ R by omega)
    have := h.lo
    omega
theorem Half.or {n R j : Nat} (h : Half n R (j + 1)) : R ||| 2 ^ j = R + 2 ^ j := by
  have hd := Nat.div_add_mod R (2 ^ (j + 1))
  rw [h.whole, Nat.add_zero] at hd
  have hlt : 2 ^ j < 2 ^ (j + 1) := Nat.pow_lt_pow_right (by omega) (by omega)
  have := Nat.two_pow_add_eq_or_of_lt hlt (R / 2 ^ (j + 1))
  rw [hd] at this
  exact this.symm
end Fx
namespace Gf

def wrap (a : Int) : Int := a % 16777216
def move (a v : Int) : Int := (a + v) % 16777216
def gap (a b : Int) : Int := (b - a + 8388608) % 16777216 - 8388608
def near (g : Int) : Bool := decide (-786432 < g) && decide (g < 786432)
def hits (ax ay bx by' : Int) : Bool := near (gap ax bx) && near (gap ay by')
def push (v s : Int) : Int := Fx.clamp (Fx.cut (v - v.tdiv 16 + 256 * s)) (-524288) 524288
def tame (a : Int) : Int := if a = -128 then -127 else a
def way (a : Int) : Int := if 0 < a then 393216 else if a < 0 then -393216 else 0
def aimx (x y : Int) : Int := if x = 0 ∧ y = 0 then 393216 else way x
def aimy (y : Int) : Int := way y

theorem move_bd (a v : Int) : 0 ≤ move a v ∧ move a v < 16777216 := by unfold move; omega
theorem gap_bd (a b : Int) : -8388608 ≤ gap a b ∧ gap a b < 8388608 := by unfold gap; omega
theorem push_bd (v s : Int) : -524288 ≤ push v s ∧ push v s ≤ 524288 := by unfold push Fx.clamp; omega
theorem tame_bd {a : Int} (h : -128 ≤ a ∧ a ≤ 127) : -127 ≤ tame a ∧ tame a ≤ 127 := by unfold tame; split <;> omega
theorem tame_same {a : Int} (h : a ≠ -128) : tame a = a := by unfold tame; rw [if_neg h]
theorem way_bd (a : Int) : -393216 ≤ way a ∧ way a ≤ 393216 := by unfold way; split <;> (try split) <;> omega
theorem aimx_bd (x y : Int) : -393216 ≤ aimx x y ∧ aimx x y ≤ 393216 := by
  unfold aimx; split
  · omega
  · exact way_bd _
theorem slow_in {v : Int} (w : -2147483648 ≤ v ∧ v ≤ 2147483647) : -2147483648 ≤ v - v.tdiv 16 ∧ v - v.tdiv 16 ≤ 2147483647 ∧ -134217728 ≤ v.tdiv 16 ∧ v.tdiv 16 ≤ 134217727 := by
  by_cases h : 0 ≤ v
  · have := Int.tdiv_eq_ediv_of_nonneg h (b := 16); omega
  · have e : v.tdiv 16 = -((-v) / 16) := by
      have : v = -(-v) := by omega
      rw [this, Int.neg_tdiv, Int.tdiv_eq_ediv_of_nonneg (by omega)]; simp
    omega
/-- The remainder that Go tells, brought up. -/
theorem around_eq (v : Int) : (if v.tmod 16777216 < 0 then v.tmod 16777216 + 16777216 else v.tmod 16777216) = v % 16777216 := by
  have h1 := Int.tmod_eq_emod (a := v) (b := 16777216)
  split <;> (split at h1 <;> omega)
theorem round_eq (v : Int) : (v.tmod 16777216 + 16777216).tmod 16777216 = v % 16777216 := by
  have h1 := Int.tmod_eq_emod (a := v) (b := 16777216)
  have h3 : 0 ≤ v.tmod 16777216 + 16777216 := by
    have := Int.lt_tmod_of_pos v (b := 16777216) (by omega); omega
  rw [Int.tmod_eq_emod_of_nonneg h3]
  split at h1 <;> omega
theorem round_eq' (v : Int) : (v.tmod 16777216 + 16777216) % 16777216 = v % 16777216 := by
  have h := round_eq v
  rwa [Int.tmod_eq_emod_of_nonneg (by have := Int.lt_tmod_of_pos v (b := 16777216) (by omega); omega)] at h
theorem tmod_bd (v : Int) : -16777216 < v.tmod 16777216 ∧ v.tmod 16777216 < 16777216 := ⟨Int.lt_tmod_of_pos v (by omega), Int.tmod_lt_of_pos v (by omega)⟩
end Gf
namespace Dn
/-- The next throw. -/
def next (d : Int) : Int := (d * 6364136223846793005 + 1442695040888963407) % 18446744073709551616
/-- One byte mixed in. -/
def mix (h c : Int) : Int := ((h.toNat ^^^ c.toNat : Nat) : Int) * 1099511628211 % 18446744073709551616
/-- The upper 32 bits, times n, the bits above 32. -/
def share (e n : Int) : Int := e / 4294967296 * n / 4294967296
/-- What a text begins with. -/
def seed (l : List UInt8) : Int := l.foldl (fun h c => mix h (c.toNat : Int)) 14695981039346656037

theorem next_bd (d : Int) : 0 ≤ next d ∧ next d ≤ 18446744073709551615 := by unfold next; omega
theorem mix_bd (h c : Int) : 0 ≤ mix h c ∧ mix h c ≤ 18446744073709551615 := by unfold mix; omega
theorem seed_nil : seed [] = 14695981039346656037 := rfl
theorem seed_snoc (l : List UInt8) (c : UInt8) : seed (l ++ [c]) = mix (seed l) (c.toNat : Int) := by unfold seed; rw [List.foldl_append]; rfl
theorem seed_bd (l : List UInt8) : 0 ≤ seed l ∧ seed l ≤ 18446744073709551615 := by
  rcases List.eq_nil_or_concat l with rfl | ⟨m, c, rfl⟩
  · rw [seed_nil]; omega
  · rw [List.concat_eq_append, seed_snoc]; exact mix_bd _ _
theorem share_bd {e n : Int} (he : 0 ≤ e ∧ e ≤ 18446744073709551615) (hn : 1 ≤ n ∧ n ≤ 2147483647) :
    0 ≤ e / 4294967296 * n ∧ e / 4294967296 * n ≤ 9223372030412324865 ∧ 0 ≤ share e n ∧ share e n < n := by
  unfold share
  have hq : 0 ≤ e / 4294967296 ∧ e / 4294967296 ≤ 4294967295 := by omega
  generalize e / 4294967296 = q at *
  have h1 : 0 ≤ q * n := Int.mul_nonneg hq.1 (by omega)
  have h2 : q * n ≤ 4294967295 * n := Int.mul_le_mul_of_nonneg_right hq.2 (by omega)
  generalize q * n = p at *
  omega
end Dn
namespace Gm
open Go

structure Ship where
  on : Bool
  x : Int
  y : Int
  vx : Int
  vy : Int
  cool : Int
  score : Int
structure Shot where
  owner : Int
  x : Int
  y : Int
  vx : Int
  vy : Int
  left : Int
structure In where
  x : Int
  y : Int
  b : Int
/-- A game: of the ships those of slots 0 to 7 count. -/
structure G where
  frame : Int
  dice : Int
  ship : Nat → Ship
  shots : List Shot

def Ship.none : Ship := ⟨false, 0, 0, 0, 0, 0, 0⟩
def upd (f : Nat → Ship) (i : Nat) (s : Ship) : Nat → Ship := fun j => if j = i then s else f j

def Ship.cells (s : Ship) : List Value := [.bool s.on, .int .i32 s.x, .int .i32 s.y, .int .i32 s.vx, .int .i32 s.vy, .int .i64 s.cool, .int .i64 s.score]
def Shot.cells (s : Shot) : List Value := [.int .i64 s.owner, .int .i32 s.x, .int .i32 s.y, .int .i32 s.vx, .int .i32 s.vy, .int .i64 s.left]
def In.cells (p : In) : List Value := [.int .i8 p.x, .int .i8 p.y, .int .u8 p.b]
def shipCells (f : Nat → Ship) : List Value := (f 0).cells ++ ((f 1).cells ++ ((f 2).cells ++ ((f 3).cells ++ ((f 4).cells ++ ((f 5).cells ++ ((f 6).cells ++ (f 7).cells))))))
/-- The 59 cells of a game whose shots are the slice s. -/
def cells (g : G) (s : Value) : Array Value := ([Value.int .i64 g.frame, Value.int .u64 g.dice] ++ shipCells g.ship ++ [s]).toArray

theorem shipCells_len (f : Nat → Ship) : (shipCells f).length = 56 := rfl
theorem cells_size (g : G) (s : Value) : (cells g s).size = 59 := rfl
theorem cells_0 (g : G) (s : Value) : (cells g s)[0]? = some (.int .i64 g.frame) := rfl
theorem cells_1 (g : G) (s : Value) : (cells g s)[1]? = some (.int .u64 g.dice) := rfl
theorem cells_58 (g : G) (s : Value) : (cells g s)[58]? = some s := rfl
theorem cells_ship (g : G) (s : Value) (i k : Nat) (hi : i < 8) (hk : k < 7) : (cells g s)[2 + i * 7 + k]? = (g.ship i).cells[k]? := by
  match i, hi with
  | 0, _ => match k, hk with | 0, _ | 1, _ | 2, _ | 3, _ | 4, _ | 5, _ | 6, _ => rfl
  | 1, _ => match k, hk with | 0, _ | 1, _ | 2, _ | 3, _ | 4, _ | 5, _ | 6, _ => rfl
  | 2, _ => match k, hk with | 0, _ | 1, _ | 2, _ | 3, _ | 4, _ | 5, _ | 6, _ => rfl
  | 3, _ => match k, hk with | 0, _ | 1, _ | 2, _ | 3, _ | 4, _ | 5, _ | 6, _ => rfl
  | 4, _ => match k, hk with | 0, _ | 1, _ | 2, _ | 3, _ | 4, _ | 5, _ | 6, _ => rfl
  | 5, _ => match k, hk with | 0, _ | 1, _ | 2, _ | 3, _ | 4, _ | 5, _ | 6, _ => rfl
  | 6, _ => match k, hk with | 0, _ | 1, _ | 2, _ | 3, _ | 4, _ | 5, _ | 6, _ => rfl
  | 7, _ => match k, hk with | 0, _ | 1, _ | 2, _ | 3, _ | 4, _ | 5, _ | 6, _ => rfl

def inF (a : Int) : Prop := 0 ≤ a ∧ a < 16777216
def slow (a m : Int) : Prop := -m ≤ a ∧ a ≤ m
def okShip (s : Ship) : Prop := (s.on = true ∨ s = Ship.none) ∧ inF s.x ∧ inF s.y ∧ slow s.vx 524288 ∧ slow s.vy 524288 ∧ 0 ≤ s.cool ∧ s.cool ≤ 10 ∧ 0 ≤ s.score ∧ s.score ≤ 1073741824
def okShot (s : Shot) : Prop := 0 ≤ s.owner ∧ s.owner < 8 ∧ inF s.x ∧ inF s.y ∧ slow s.vx 393216 ∧ slow s.vy 393216 ∧ 1 ≤ s.left ∧ s.left ≤ 24
/-- Which games may be. -/
def ok (g : G) : Prop := 0 ≤ g.frame ∧ g.frame ≤ 1048576 ∧ g.shots.length ≤ 32 ∧ (∀ i, i < 8 → okShip (g.ship i)) ∧ (∀ i (h : i < g.shots.length), okShot g.shots[i])

/-- Numbers of their types. -/
def i32 (a : Int) : Prop := -2147483648 ≤ a ∧ a ≤ 2147483647
def i64 (a : Int) : Prop := -9223372036854775808 ≤ a ∧ a ≤ 9223372036854775807
def tyShip (s : Ship) : Prop := i32 s.x ∧ i32 s.y ∧ i32 s.vx ∧ i32 s.vy ∧ i64 s.cool ∧ i64 s.score
def tyShot (s : Shot) : Prop := i64 s.owner ∧ i32 s.x ∧ i32 s.y ∧ i32 s.vx ∧ i32 s.vy ∧ i64 s.left
def ty (g : G) : Prop := i64 g.frame ∧ (0 ≤ g.dice ∧ g.dice ≤ 18446744073709551615) ∧ (∀ i, i < 8 → tyShip (g.ship i)) ∧ (∀ i (h : i < g.shots.length), tyShot g.shots[i])
theorem okShip.ty {s : Ship} (h : okShip s) : tyShip s := by
  obtain ⟨_, h1, h2, h3, h4, h5⟩ := h; unfold inF slow at *; unfold tyShip i32 i64; omega
theorem okShot.ty {s : Shot} (h : okShot s) : tyShot s := by
  obtain ⟨h0, h0', h1, h2, h3, h4, h5⟩ := h; unfold inF slow at *; unfold tyShot i32 i64; omega

def shotCells (l : List Shot) : List Value := l.flatMap Shot.cells
theorem shotCells_len (l : List Shot) : (shotCells l).length = l.length * 6 := by
  induction l with
  | nil => rfl
  | cons s l ih => unfold shotCells at *; rw [List.flatMap_cons, List.length_append, ih, List.length_cons]; simp [Shot.cells]; omega
theorem shotCells_at (l : List Shot) (k j : Nat) (hk : k < l.length) (hj : j < 6) : (shotCells l)[k * 6 + j]? = l[k].cells[j]? := by
  induction l generalizing k with
  | nil => simp at hk
  | cons s l ih =>
    unfold shotCells at *
    rw [List.flatMap_cons]
    match k with
    | 0 => rw [List.getElem?_append_left (by simp [Shot.cells]; omega)]; simp
    | k + 1 =>
      rw [List.getElem?_append_right (by simp [Shot.cells]; omega)]
      have := ih k (by simpa using hk)
      rw [show (k + 1) * 6 + j - s.cells.length = k * 6 + j from by simp [Shot.cells]; omega, this]
      simp
theorem shotCells_append (l m : List Shot) : shotCells (l ++ m) = shotCells l ++ shotCells m := by unfold shotCells; rw [List.flatMap_append]

def new (d : Int) : G := ⟨0, d, fun _ => Ship.none, []⟩
def placeX (d : Int) : Int := Dn.share (Dn.next d) 16777216
def placeY (d : Int) : Int := Dn.share (Dn.next (Dn.next d)) 16777216
def placeD (d : Int) : Int := Dn.next (Dn.next d)
def spawn (g : G) (i : Nat) : G := { g with dice := placeD g.dice, ship := upd g.ship i ⟨true, placeX g.dice, placeY g.dice, 0, 0, 0, 0⟩ }
def remove (g : G) (i : Nat) : G := { g with ship := upd g.ship i Ship.none, shots := g.shots.filter fun s => decide (s.owner ≠ i) }

def hits1 (f : Nat → Ship) (s : Shot) (i : Nat) : Bool := (f i).on && (decide ((i : Int) ≠ s.owner) && Gf.hits s.x s.y (f i).x (f i).y)
def hitFrom (f : Nat → Ship) (s : Shot) : Nat → Nat → Int
  | 0, _ => -1
  | n + 1, i => if hits1 f s i then (i : Int) else hitFrom f s n (i + 1)
def hit (f : Nat → Ship) (s : Shot) : Int := hitFrom f s 8 0
theorem hitFrom_no {f : Nat → Ship} {s : Shot} {n i : Nat} (h : hits1 f s i = false) : hitFrom f s (n + 1) i = hitFrom f s n (i + 1) := by
  show (if hits1 f s i then _ else _) = _; rw [h]; rfl
theorem hitFrom_yes {f : Nat → Ship} {s : Shot} {n i : Nat} (h : hits1 f s i = true) : hitFrom f s (n + 1) i = i := by
  show (if hits1 f s i then _ else _) = _; rw [h]; rfl
theorem hitFrom_bd (f : Nat → Ship) (s : Shot) : ∀ n i, hitFrom f s n i = -1 ∨ ∃ k, hitFrom f s n i = (k : Nat) ∧ i ≤ k ∧ k < i + n ∧ hits1 f s k = true
  | 0, i => .inl rfl
  | n + 1, i => by
    cases h : hits1 f s i
    · rw [hitFrom_no h]
      rcases hitFrom_bd f s n (i + 1) with h' | ⟨k, h1, h2, h3, h4⟩
      · exact .inl h'
      · exact .inr ⟨k, h1, by omega, by omega, h4⟩
    · exact .inr ⟨i, hitFrom_yes h, by omega, by omega, h⟩
theorem hit_bd (f : Nat → Ship) (s : Shot) : hit f s = -1 ∨ ∃ k, hit f s = (k : Nat) ∧ k < 8 ∧ hits1 f s k = true := by
  rcases hitFrom_bd f s 8 0 with h | ⟨k, h1, _, h3, h4⟩
  · exact .inl h
  · exact .inr ⟨k, h1, by omega, h4⟩

def nvx (p : In) (s : Ship) : Int := Gf.push s.vx (Gf.tame p.x)
def nvy (p : In) (s : Ship) : Int := Gf.push s.vy (Gf.tame p.y)
def nx (p : In) (s : Ship) : Int := Gf.move s.x (nvx p s)
def ny (p : In) (s : Ship) : Int := Gf.move s.y (nvy p s)
/-- Does it shoot, with so many shots there? -/
def shoots (p : In) (n : Nat) (s : Ship) : Bool := decide (s.cool ≤ 0) && (decide (p.b % 2 = 1) && decide (n < 32))
def moved (p : In) (n : Nat) (s : Ship) : Ship :=
  if s.on = true then ⟨true, nx p s, ny p s, nvx p s, nvy p s, if 0 < s.cool then s.cool - 1 else if shoots p n s = true then 10 else s.cool, s.score⟩ else s
def made (p : In) (n : Nat) (i : Nat) (s : Ship) : List Shot :=
  if s.on = true ∧ shoots p n s = true then [⟨i, nx p s, ny p s, Gf.aimx (Gf.tame p.x) (Gf.tame p.y), Gf.aimy (Gf.tame p.y), 24⟩] else []
/-- The ships and the shots, once k ships have gone. -/
def ph1 (ps : Nat → In) (g : G) : Nat → (Nat → Ship) × List Shot
  | 0 => (g.ship, g.shots)
  | k + 1 => (upd (ph1 ps g k).1 k (moved (ps k) (ph1 ps g k).2.length ((ph1 ps g k).1 k)), (ph1 ps g k).2 ++ made (ps k) (ph1 ps g k).2.length k ((ph1 ps g k).1 k))

structure St where
  dice : Int
  ship : Nat → Ship
  left : List Shot
def fly (s : Shot) : Shot := ⟨s.owner, Gf.move s.x s.vx, Gf.move s.y s.vy, s.vx, s.vy, s.left - 1⟩
def anew (d : Int) (f : Nat → Ship) (k : Nat) : Nat → Ship := upd f k ⟨true, placeX d, placeY d, 0, 0, 0, (f k).score⟩
def more (f : Nat → Ship) (o : Nat) : Nat → Ship := if (f o).on = true then upd f o { f o with score := min ((f o).score + 1) 1073741824 } else f
def shot1 (st : St) (s0 : Shot) : St :=
  if (fly s0).left = 0 then st
  else if hit st.ship (fly s0) < 0 then { st with left := st.left ++ [fly s0] }
  else ⟨placeD st.dice, more (anew st.dice st.ship (hit st.ship (fly s0)).toNat) s0.owner.toNat, st.left⟩
def ph2 (st : St) (l : List Shot) : St := l.foldl shot1 st
def step (ps : Nat → In) (g : G) : G :=
  let st := ph2 ⟨g.dice, (ph1 ps g 8).1, []⟩ (ph1 ps g 8).2
  ⟨g.frame + 1, st.dice, st.ship, st.left⟩

def Ship.eqB (s t : Ship) : Bool := s.on == t.on && (s.x == t.x && (s.y == t.y && (s.vx == t.vx && (s.vy == t.vy && (s.cool == t.cool && s.score == t.score)))))
def Shot.eqB (s t : Shot) : Bool := s.owner == t.owner && (s.x == t.x && (s.y == t.y && (s.vx == t.vx && (s.vy == t.vy && s.left == t.left))))
theorem Ship.eqB_iff {s t : Ship} : s.eqB t = true ↔ s = t := by
  obtain ⟨a1, a2, a3, a4, a5, a6, a7⟩ := s
  obtain ⟨b1, b2, b3, b4, b5, b6, b7⟩ := t
  simp [Ship.eqB]
theorem Shot.eqB_iff {s t : Shot} : s.eqB t = true ↔ s = t := by
  obtain ⟨a1, a2, a3, a4, a5, a6⟩ := s
  obtain ⟨b1, b2, b3, b4, b5, b6⟩ := t
  simp [Shot.eqB]
def shipsEq (f g : Nat → Ship) : Bool := (List.range 8).all fun i => (f i).eqB (g i)
theorem shipsEq_iff {f g : Nat → Ship} : shipsEq f g = true ↔ ∀ i, i < 8 → f i = g i := by
  unfold shipsEq; rw [List.all_eq_true]
  exact ⟨fun h i hi => Ship.eqB_iff.1 (h i (by simpa using hi)), fun h i hi => Ship.eqB_iff.2 (h i (by simpa using hi))⟩
/-- Two games in all parts: of the ships, the eight. -/
def Eq (g h : G) : Prop := g.frame = h.frame ∧ g.dice = h.dice ∧ (∀ i, i < 8 → g.ship i = h.ship i) ∧ g.shots = h.shots
theorem Eq.refl (g : G) : Eq g g := ⟨rfl, rfl, fun _ _ => rfl, rfl⟩
theorem shipCells_list (f : Nat → Ship) (i : Nat) (hi : i < 8) : ((shipCells f).drop (i * 7)).take 7 = (f i).cells := by
  match i, hi with
  | 0, _ => rfl
  | 1, _ => rfl
  | 2, _ => rfl
  | 3, _ => rfl
  | 4, _ => rfl
  | 5, _ => rfl
  | 6, _ => rfl
  | 7, _ => rfl
theorem cells_shipj (g : G) (s : Value) (j : Nat) (hj : j < 56) : (cells g s)[2 + j]? = (shipCells g.ship)[j]? := by
  unfold cells
  rw [List.getElem?_toArray, List.append_assoc, List.getElem?_append_right (by simp), List.getElem?_append_left (by rw [shipCells_len]; simp; omega)]
  simp

def tyIn (p : In) : Prop := (-128 ≤ p.x ∧ p.x ≤ 127) ∧ (-128 ≤ p.y ∧ p.y ≤ 127) ∧ (0 ≤ p.b ∧ p.b ≤ 255)
def insCells (f : Nat → In) : List Value := (f 0).cells ++ ((f 1).cells ++ ((f 2).cells ++ ((f 3).cells ++ ((f 4).cells ++ ((f 5).cells ++ ((f 6).cells ++ (f 7).cells))))))
theorem insCells_at (f : Nat → In) (i k : Nat) (hi : i < 8) (hk : k < 3) : (insCells f).toArray[i * 3 + k]? = (f i).cells[k]? := by
  match i, hi with
  | 0, _ => match k, hk with | 0, _ | 1, _ | 2, _ => rfl
  | 1, _ => match k, hk with | 0, _ | 1, _ | 2, _ => rfl
  | 2, _ => match k, hk with | 0, _ | 1, _ | 2, _ => rfl
  | 3, _ => match k, hk with | 0, _ | 1, _ | 2, _ => rfl
  | 4, _ => match k, hk with | 0, _ | 1, _ | 2, _ => rfl
  | 5, _ => match k, hk with | 0, _ | 1, _ | 2, _ => rfl
  | 6, _ => match k, hk with | 0, _ | 1, _ | 2, _ => rfl
  | 7, _ => match k, hk with | 0, _ | 1, _ | 2, _ => rfl
theorem upd_same (f : Nat → Ship) (i : Nat) (s : Ship) : upd f i s i = s := by unfold upd; rw [if_pos rfl]
theorem upd_other (f : Nat → Ship) {i j : Nat} (s : Ship) (h : j ≠ i) : upd f i s j = f j := by unfold upd; rw [if_neg h]
theorem ph1_later (ps : Nat → In) (g : G) (k j : Nat) (h : k ≤ j) : (ph1 ps g k).1 j = g.ship j := by
  induction k with
  | zero => rfl
  | succ k ih => show upd _ k _ j = _; rw [upd_other _ _ (by omega)]; exact ih (by omega)
theorem moved_ok {p : In} {n : Nat} {s : Ship} (h : okShip s) : okShip (moved p n s) := by
  unfold moved
  split
  · obtain ⟨h0, h1, h2, h3, h4, h5, h6, h7, h8⟩ := h
    refine ⟨.inl rfl, Gf.move_bd _ _, Gf.move_bd _ _, Gf.push_bd _ _, Gf.push_bd _ _, ?_, ?_, h7, h8⟩
    · show 0 ≤ (if 0 < s.cool then s.cool - 1 else if shoots p n s = true then 10 else s.cool)
      split
      · omega
      · split <;> omega
    · show (if 0 < s.cool then s.cool - 1 else if shoots p n s = true then 10 else s.cool) ≤ 10
      split
      · omega
      · split <;> omega
  · exact h
theorem made_ok {p : In} {n i : Nat} {s : Ship} (hi : i < 8) : ∀ t ∈ made p n i s, okShot t := by
  unfold made
  split
  · intro t ht
    rcases List.mem_singleton.1 ht with rfl
    refine ⟨by show (0 : Int) ≤ (i : Int); omega, by show (i : Int) < 8; omega, Gf.move_bd _ _, Gf.move_bd _ _, Gf.aimx_bd _ _, Gf.way_bd _, by show (1 : Int) ≤ 24; omega, by show (24 : Int) ≤ 24; omega⟩
  · intro t ht; cases ht
theorem made_len (p : In) (n i : Nat) (s : Ship) : n + (made p n i s).length ≤ 32 ∨ (made p n i s).length = 0 := by
  unfold made
  split
  · rename_i h
    left
    have := h.2
    unfold shoots at this
    simp at this
    simp; omega
  · right; rfl
/-- What holds of ships and shots on the way. -/
structure Way (f : Nat → Ship) (l : List Shot) : Prop where
  ships : ∀ i, i < 8 → okShip (f i)
  shots : ∀ t ∈ l, okShot t
  len : l.length ≤ 32
theorem ok.way {g : G} (h : ok g) : Way g.ship g.shots := ⟨h.2.2.2.1, fun t ht => by
  obtain ⟨i, hi, rfl⟩ := List.getElem_of_mem ht; exact h.2.2.2.2 i hi, h.2.2.1⟩
theorem ph1_way {ps : Nat → In} {g : G} (h : ok g) : ∀ k, k ≤ 8 → Way (ph1 ps g k).1 (ph1 ps g k).2
  | 0, _ => h.way
  | k + 1, hk => by
    have ih := ph1_way (ps := ps) h k (by omega)
    refine ⟨fun i hi => ?_, fun t ht => ?_, ?_⟩
    · by_cases e : i = k
      · subst e; show okShip (upd _ _ _ _); rw [upd_same]; exact moved_ok (ih.ships _ hi)
      · show okShip (upd _ _ _ _); rw [upd_other _ _ e]; exact ih.ships _ hi
    · rcases List.mem_append.1 (show t ∈ (ph1 ps g k).2 ++ made (ps k) (ph1 ps g k).2.length k ((ph1 ps g k).1 k) from ht) with ht | ht
      · exact ih.shots _ ht
      · exact made_ok (by omega) _ ht
    · show ((ph1 ps g k).2 ++ made (ps k) (ph1 ps g k).2.length k ((ph1 ps g k).1 k)).length ≤ 32
      have := made_len (ps k) (ph1 ps g k).2.length k ((ph1 ps g k).1 k)
      have := ih.len
      rw [List.length_append]; omega

theorem upd_self (f : Nat → Ship) (k : Nat) : upd f k (f k) = f := funext fun j => by
  unfold upd; split
  · rename_i h; rw [h]
  · rfl
theorem next_off {p : In} {n i : Nat} {s : Ship} (h : s.on = false) : moved p n s = s ∧ made p n i s = [] := by
  unfold moved made; simp [h]
theorem next_cool {p : In} {n i : Nat} {s : Ship} (h : s.on = true) (hc : 0 < s.cool) : moved p n s = ⟨true, nx p s, ny p s, nvx p s, nvy p s, s.cool - 1, s.score⟩ ∧ made p n i s = [] := by
  have hs : shoots p n s = false := by unfold shoots; simp; intro h; omega
  unfold moved made
  rw [if_pos h, if_pos hc, if_neg (by rw [hs]; simp)]
  exact ⟨rfl, rfl⟩
theorem next_rest {p : In} {n i : Nat} {s : Ship} (h : s.on = true) (hc : s.cool = 0) (hs : shoots p n s = false) : moved p n s = ⟨true, nx p s, ny p s, nvx p s, nvy p s, 0, s.score⟩ ∧ made p n i s = [] := by
  unfold moved made
  rw [if_pos h, if_neg (by omega), if_neg (by rw [hs]; simp), if_neg (by rw [hs]; simp), hc]
  exact ⟨rfl, rfl⟩
theorem next_shot {p : In} {n i : Nat} {s : Ship} (h : s.on = true) (hc : s.cool = 0) (hs : shoots p n s = true) : moved p n s = ⟨true, nx p s, ny p s, nvx p s, nvy p s, 10, s.score⟩ ∧
    made p n i s = [⟨i, nx p s, ny p s, Gf.aimx (Gf.tame p.x) (Gf.tame p.y), Gf.aimy (Gf.tame p.y), 24⟩] := by
  unfold moved made
  rw [if_pos h, if_neg (by omega), if_pos hs, if_pos ⟨h, hs⟩]
  exact ⟨rfl, rfl⟩

structure Way2 (st : St) : Prop where
  ships : ∀ i, i < 8 → okShip (st.ship i)
  left : ∀ t ∈ st.left, okShot t
  dice : 0 ≤ st.dice ∧ st.dice ≤ 18446744073709551615
theorem place_bd (d : Int) : (0 ≤ placeX d ∧ placeX d < 16777216) ∧ (0 ≤ placeY d ∧ placeY d < 16777216) ∧ (0 ≤ placeD d ∧ placeD d ≤ 18446744073709551615) :=
  ⟨(Dn.share_bd (Dn.next_bd d) (n := 16777216) (by omega)).2.2, (Dn.share_bd (Dn.next_bd (Dn.next d)) (n := 16777216) (by omega)).2.2, Dn.next_bd _⟩
theorem anew_ok {d : Int} {f : Nat → Ship} {k : Nat} (h : ∀ i, i < 8 → okShip (f i)) (hk : k < 8) : ∀ i, i < 8 → okShip (anew d f k i) := fun i hi => by
  unfold anew upd
  split
  · have hs := (h k hk).2.2.2.2.2.2
    have hp := place_bd d
    exact ⟨.inl rfl, hp.1, hp.2.1, by unfold slow; dsimp only; omega, by unfold slow; dsimp only; omega, by dsimp only; omega, by dsimp only; omega, hs.2.1, hs.2.2⟩
  · exact h i hi
theorem more_ok {f : Nat → Ship} {o : Nat} (h : ∀ i, i < 8 → okShip (f i)) : ∀ i, i < 8 → okShip (more f o i) := fun i hi => by
  unfold more
  split
  · rename_i hon
    unfold upd
    split
    · rename_i e
      subst e
      obtain ⟨_, h1, h2, h3, h4, h5, h6, h7, h8⟩ := h i hi
      exact ⟨.inl hon, h1, h2, h3, h4, h5, h6, by dsimp only; omega, by dsimp only; omega⟩
    · exact h i hi
  · exact h i hi
theorem fly_ok {s : Shot} (h : okShot s) (hl : (fly s).left ≠ 0) : okShot (fly s) := by
  obtain ⟨h0, h0', h1, h2, h3, h4, h5, h6⟩ := h
  have : (fly s).left = s.left - 1 := rfl
  exact ⟨h0, h0', Gf.move_bd _ _, Gf.move_bd _ _, h3, h4, by omega, by omega⟩
theorem fly_ty {s : Shot} (h : okShot s) : tyShot (fly s) := by
  obtain ⟨h0, h0', h1, h2, h3, h4, h5, h6⟩ := h
  have a := Gf.move_bd s.x s.vx
  have b := Gf.move_bd s.y s.vy
  unfold slow at h3 h4
  unfold tyShot i32 i64 fly
  dsimp only
  omega
theorem shot1_way {st : St} {s : Shot} (h : Way2 st) (hs : okShot s) : Way2 (shot1 st s) ∧ (shot1 st s).left.length ≤ st.left.length + 1 := by
  unfold shot1
  split
  · exact ⟨h, by omega⟩
  · rename_i hl
    split
    · refine ⟨⟨h.ships, fun t ht => ?_, h.dice⟩, by simp⟩
      rcases List.mem_append.1 ht with ht | ht
      · exact h.left t ht
      · rcases List.mem_singleton.1 ht with rfl; exact fly_ok hs hl
    · rename_i hh
      rcases hit_bd st.ship (fly s) with e | ⟨k, e, hk, _⟩
      · rw [e] at hh; exact absurd (by decide) hh
      · rw [e]
        exact ⟨⟨more_ok (anew_ok h.ships (by simpa using hk)), h.left, (place_bd _).2.2⟩, by simp⟩
theorem ph2_snoc (st : St) (l : List Shot) (j : Nat) (hj : j < l.length) : ph2 st (l.take (j + 1)) = shot1 (ph2 st (l.take j)) l[j] := by
  unfold ph2
  rw [List.take_succ_eq_append_getElem hj, List.foldl_append]; rfl
theorem ph2_way {st : St} {l : List Shot} (h : Way2 st) (hl : ∀ t ∈ l, okShot t) : ∀ j, j ≤ l.length → Way2 (ph2 st (l.take j)) ∧ (ph2 st (l.take j)).left.length ≤ st.left.length + j
  | 0, _ => ⟨by simpa [ph2] using h, by simp [ph2]⟩
  | j + 1, hj => by
    have ih := ph2_way h hl j (by omega)
    have := shot1_way ih.1 (hl _ (List.getElem_mem (show j < l.length by omega)))
    rw [ph2_snoc st l j (by omega)]
    exact ⟨this.1, by omega⟩
end Gm
namespace Go.Proofs.YtiahpncglpfjeaaGreat
open Go.RowKit
set_option linter.unusedVariables false

set_option maxHeartbeats 400000 in
theorem refin_any (a : Int) (wa : -2147483648 ≤ a ∧ a ≤ 2147483647) (w : World) :
    Calls Tryz.prog 76 #[.int .i32 a] w fun e w' => e = .returned (.bool (decide (0 ≤ a) && decide (a < 16777216))) ∧ w = w' := by
  go_enter Tryz.func76, Tryz.ntmps76
  go_wp2
  all_goals
    go_ret
    exact ⟨ret_bool (by rw [Bool.eq_iff_iff]; simp; omega), rfl⟩
set_option maxHeartbeats 400000 in
theorem refslow_any (a m : Int) (wa : -2147483648 ≤ a ∧ a ≤ 2147483647) (wm : 0 ≤ m ∧ m ≤ 2147483647) (w : World) :
    Calls Tryz.prog 77 #[.int .i32 a, .int .i32 m] w fun e w' => e = .returned (.bool (decide (-m ≤ a) && decide (a ≤ m))) ∧ w = w' := by
  go_enter Tryz.func77, Tryz.ntmps77
  go_wp2
  all_goals
    go_ret
    exact ⟨ret_bool (by rw [Bool.eq_iff_iff]; simp; omega), rfl⟩

theorem cells_at {w : World} {B k : Nat} {g : Gm.G} {s : Value} (hc : ∀ j, w.cell? ⟨B, j, none⟩ = (Gm.cells g s)[j]?) (hk : k < 8) (j : Nat) (hj : j < 7) :
    w.cell? ⟨B, 2 + k * 7 + j, none⟩ = (g.ship k).cells[j]? := (hc _).trans (Gm.cells_ship g s k j hk hj)


theorem add_lit' (a : Addr) (j : Nat) (h : 0 < j) : a.add j = ⟨a.block, a.off + j, none⟩ := by unfold Addr.add; rw [if_neg (by omega)]
/-- The six cells of a shot, as a walk spells them. -/
theorem shots_at {w : World} {B n : Nat} {A : Option Addr} {l : List Gm.Shot} (h : Lies w B 6 A n (Gm.shotCells l)) (hn : n = l.length) (k : Nat) (hk : k < l.length) :
    ∃ ad, A = some ad ∧ ad.block < B ∧ w.cell? (ad.add (k * 6)) = some (.int .i64 l[k].owner) ∧ w.cell? ⟨(ad.add (k * 6)).block, (ad.add (k * 6)).off + 1, none⟩ = some (.int .i32 l[k].x) ∧
      w.cell? ⟨(ad.add (k * 6)).block, (ad.add (k * 6)).off + 2, none⟩ = some (.int .i32 l[k].y) ∧ w.cell? ⟨(ad.add (k * 6)).block, (ad.add (k * 6)).off + 3, none⟩ = some (.int .i32 l[k].vx) ∧
      w.cell? ⟨(ad.add (k * 6)).block, (ad.add (k * 6)).off + 4, none⟩ = some (.int .i32 l[k].vy) ∧ w.cell? ⟨(ad.add (k * 6)).block, (ad.add (k * 6)).off + 5, none⟩ = some (.int .i64 l[k].left) := by
  obtain ⟨ad, e, hb⟩ := h.start (by omega)
  have hc := h.cell ad e (by omega)
  have hj : ∀ j v, j < 6 → l[k].cells[j]? = some v → w.cell? ((ad.add (k * 6)).add j) = some v := fun j v hj hv => by
    rw [add_twice]
    exact hc _ _ ((Gm.shotCells_at l k j hk hj).trans hv)
  refine ⟨ad, e, hb, ?_, ?_, ?_, ?_, ?_, ?_⟩
  · have := hj 0 _ (by omega) rfl; rwa [show (ad.add (k * 6)).add 0 = ad.add (k * 6) from by unfold Addr.add; rfl] at this
  · have := hj 1 _ (by omega) rfl; rwa [add_lit' _ 1 (by omega)] at this
  · have := hj 2 _ (by omega) rfl; rwa [add_lit' _ 2 (by omega)] at this
  · have := hj 3 _ (by omega) rfl; rwa [add_lit' _ 3 (by omega)] at this
  · have := hj 4 _ (by omega) rfl; rwa [add_lit' _ 4 (by omega)] at this
  · have := hj 5 _ (by omega) rfl; rwa [add_lit' _ 5 (by omega)] at this

set_option maxRecDepth 100000 in
set_option maxHeartbeats 4000000 in
theorem refmay_yes (g : Gm.G) (A : Option Addr) (n c : Nat) (w : World) (hg : Gm.ok g) (hn : n = g.shots.length) (hr : Lies w w.heap.size 6 A n (Gm.shotCells g.shots)) :
    Calls Tryz.prog 36 #[.agg (Gm.cells g (.slice A n c))] w fun e w' => e = .returned (.bool true) ∧ Below w.heap.size w w' := by
  obtain ⟨hf1, hf2, hl, hships, hshots⟩ := hg
  have d1 : decide (g.frame < 0) = false := decide_eq_false (by omega)
  have d2 : decide (1048576 < g.frame) = false := decide_eq_false (by omega)
  have d3 : decide (32 < (n : Int)) = false := decide_eq_false (by omega)
  have hN : Hid (n = g.shots.length) := Lib.hid hn
  have hn32 : n ≤ 32 := by omega
  clear hn
  have hc : ∀ W : World, ∀ j, (W.alloc (.cells (Gm.cells g (.slice A n c)) 28)).cell? ⟨W.heap.size, j, none⟩ = (Gm.cells g (.slice A n c))[j]? := fun W j => (Box.made W _ _).cell j
  have h0 := Gm.cells_0 g (.slice A n c)
  have h58 := Gm.cells_58 g (.slice A n c)
  go_enter Tryz.func36, Tryz.ntmps36
  go_wp2
  go_loopw [3] (fun i wr => ∃ k : Nat, k ≤ 8 ∧ i = .int .i64 k ∧ Box wr w.heap.size 28 (Gm.cells g (.slice A n c)) ∧ Below w.heap.size w wr) (fun i _ => 8 - (intOf i).toNat)
  case atStart => exact ⟨0, by omega, rfl, Box.made _ _ _, one_below _ _⟩
  case round =>
    obtain ⟨k, hk, rfl, hB, hb⟩ := hrel
    by_cases hlt : k < 8
    · have hcr := hB.cell
      have hlB := hB.lt
      have e0 := cells_at hcr hlt 0 (by omega)
      have e1 := cells_at hcr hlt 1 (by omega)
      have e2 := cells_at hcr hlt 2 (by omega)
      have e3 := cells_at hcr hlt 3 (by omega)
      have e4 := cells_at hcr hlt 4 (by omega)
      have e5 := cells_at hcr hlt 5 (by omega)
      have e6 := cells_at hcr hlt 6 (by omega)
      have ho := hships k hlt
      generalize g.ship k = s at e0 e1 e2 e3 e4 e5 e6 ho
      obtain ⟨on, x, y, vx, vy, cool, score⟩ := s
      simp only [Gm.Ship.cells, List.getElem?_cons_zero, List.getElem?_cons_succ, Nat.add_zero] at e0 e1 e2 e3 e4 e5 e6
      obtain ⟨o1, o2, o3, o4, o5, o6, o7, o8, o9⟩ := ho
      unfold Gm.inF Gm.slow at *
      dsimp only at o1 o2 o3 o4 o5 o6 o7 o8 o9
      have hk8 : (k : Int) < 8 := by omega
      clear hc hcr hships hshots h0 h58 d1 d2 d3
      rcases o1 with o1 | o1
      · subst o1
        go_wp2
        go_roundw
        case rel => exact ⟨k + 1, by omega, by go_num, hB.alloc _, hb.alloc (Nat.le_of_lt hlB) _⟩
        case measure => simp [intOf]; omega
      · injection o1 with z1 z2 z3 z4 z5 z6 z7
        subst z1 z2 z3 z4 z5 z6 z7
        go_wp2
        go_roundw
        case rel => exact ⟨k + 1, by omega, by go_num, hB.alloc _, hb.alloc (Nat.le_of_lt hlB) _⟩
        case measure => simp [intOf]; omega
    · have hk8 : ¬ (k : Int) < 8 := by omega
      have hcr := hB.cell
      have hlB := hB.lt
      clear hc hships h0 d1 d2 d3
      go_wp2
      go_loopw [5] (fun i wr => ∃ k : Nat, k ≤ n ∧ i = .int .i64 k ∧ Box wr w.heap.size 28 (Gm.cells g (.slice A n c)) ∧ Below w.heap.size w wr) (fun i _ => n - (intOf i).toNat)
      case atStart => exact ⟨0, by omega, rfl, hB, hb⟩
      case round =>
        obtain ⟨m, hm, rfl, hB, hb⟩ := hrel
        clear hcr hlB
        have hcr := hB.cell
        have hlB := hB.lt
        by_cases hlt : m < n
        · obtain ⟨ad, rfl, hbl, e0, e1, e2, e3, e4, e5⟩ := shots_at (hr.below hb) hN.out m (by have := hN.out; omega)
          have ho := hshots m (by have := hN.out; omega)
          generalize g.shots[m]'(by have := hN.out; omega) = s at e0 e1 e2 e3 e4 e5 ho
          obtain ⟨owner, x, y, vx, vy, left⟩ := s
          dsimp only at e0 e1 e2 e3 e4 e5
          obtain ⟨o1, o2, o3, o4, o5, o6, o7, o8⟩ := ho
          unfold Gm.inF Gm.slow at *
          dsimp only at o1 o2 o3 o4 o5 o6 o7 o8
          have hmn : (m : Int) < n := by omega
          clear hr hshots
          go_wp2
          go_roundw
          case rel => exact ⟨m + 1, by omega, by go_num, hB.alloc _, hb.alloc (Nat.le_of_lt hlB) _⟩
          case measure => simp [intOf]; omega
        · have hmn : ¬ (m : Int) < n := by omega
          clear hr
          go_wp2
          go_ret
          exact ⟨rfl, hb⟩
end Go.Proofs.YtiahpncglpfjeaaGreat
namespace Go.Proofs.YtiahpncglpfjeaaGreat
open Go.RowKit
set_option linter.unusedVariables false

theorem ret_i32 {a b : Int} (h : a = b) : Ending.returned (.int .i32 a) = .returned (.int .i32 b) := by rw [h]
theorem two_below (w : World) (o1 o2 : Obj) : Below w.heap.size w ((w.alloc o1).alloc o2) := ((Below.refl _ _).alloc (Nat.le_refl _) _).alloc (by simp) _

set_option maxHeartbeats 400000 in
theorem fixcut_any (v : Int) (h : -9223372036854775808 ≤ v) (h' : v ≤ 9223372036854775807) (w : World) :
    Calls Tryz.prog 151 #[.int .i64 v] w fun e w' => e = .returned (.int .i32 (Fx.cut v)) ∧ Below w.heap.size w w' := by
  have hmf : ∀ (fn : Fn) (first cap : Array Value) (w : World), (Instr.makeFunc fn first cap).run Tryz.prog w = .ok (.func fn first cap) w := fun _ _ _ _ => rfl
  go_enter Tryz.func151, Tryz.ntmps151
  go_wp2
  all_goals
    go_ret
    exact ⟨ret_i32 (by unfold Fx.cut; omega), two_below _ _ _⟩

set_option maxHeartbeats 400000 in
theorem refcut_any (v : Int) (h : -9223372036854775808 ≤ v) (h' : v ≤ 9223372036854775807) (w : World) :
    Calls Tryz.prog 135 #[.int .i64 v] w fun e w' => e = .returned (.int .i32 (Fx.cut v)) ∧ w = w' := by
  go_enter Tryz.func135, Tryz.ntmps135
  go_wp2
  all_goals
    go_ret
    exact ⟨ret_i32 (by unfold Fx.cut; omega), rfl⟩

set_option maxHeartbeats 400000 in
theorem clamp_any (a lo hi : Int) (wa : -2147483648 ≤ a ∧ a ≤ 2147483647) (wl : -2147483648 ≤ lo ∧ lo ≤ 2147483647) (wh : -2147483648 ≤ hi ∧ hi ≤ 2147483647) (w : World) :
    Calls Tryz.prog 122 #[.int .i32 a, .int .i32 lo, .int .i32 hi] w fun e w' => e = .returned (.int .i32 (Fx.clamp a lo hi)) ∧ Below w.heap.size w w' := by
  have hmf : ∀ (fn : Fn) (first cap : Array Value) (w : World), (Instr.makeFunc fn first cap).run Tryz.prog w = .ok (.func fn first cap) w := fun _ _ _ _ => rfl
  go_enter Tryz.func122, Tryz.ntmps122
  go_wp2
  all_goals
    go_ret
    exact ⟨ret_i32 (by unfold Fx.clamp; omega), two_below _ _ _⟩

set_option maxHeartbeats 400000 in
theorem refclamp_any (a lo hi : Int) (wa : -2147483648 ≤ a ∧ a ≤ 2147483647) (wl : -2147483648 ≤ lo ∧ lo ≤ 2147483647) (wh : -2147483648 ≤ hi ∧ hi ≤ 2147483647) (w : World) :
    Calls Tryz.prog 107 #[.int .i32 a, .int .i32 lo, .int .i32 hi] w fun e w' => e = .returned (.int .i32 (Fx.clamp a lo hi)) ∧ w = w' := by
  go_enter Tryz.func107, Tryz.ntmps107
  go_wp2
  all_goals
    go_ret
    exact ⟨ret_i32 (by unfold Fx.clamp; omega), rfl⟩

set_option maxHeartbeats 400000 in
theorem fixadd_any (a b : Int) (wa : -2147483648 ≤ a ∧ a ≤ 2147483647) (wb : -2147483648 ≤ b ∧ b ≤ 2147483647) (w : World) :
    Calls Tryz.prog 142 #[.int .i32 a, .int .i32 b] w fun e w' => e = .returned (.int .i32 (Fx.cut (a + b))) ∧ Below w.heap.size w w' := by
  go_enter Tryz.func142, Tryz.ntmps142
  go_wp2_with fail
  refine (fixcut_any _ (by omega) (by omega) _).mono ?_
  rintro e w1 ⟨rfl, hb⟩
  go_wp2_with fail
  go_ret
  exact ⟨rfl, by assumption⟩

set_option maxHeartbeats 400000 in
theorem refadd_any (a b : Int) (wa : -2147483648 ≤ a ∧ a ≤ 2147483647) (wb : -2147483648 ≤ b ∧ b ≤ 2147483647) (w : World) :
    Calls Tryz.prog 108 #[.int .i32 a, .int .i32 b] w fun e w' => e = .returned (.int .i32 (Fx.cut (a + b))) ∧ w = w' := by
  go_enter Tryz.func108, Tryz.ntmps108
  go_wp2_with fail
  refine (refcut_any _ (by omega) (by omega) _).mono ?_
  rintro e w1 ⟨rfl, rfl⟩
  go_wp2_with fail
  go_ret
  exact ⟨rfl, rfl⟩

end Go.Proofs.YtiahpncglpfjeaaGreat
namespace Go.Proofs.YtiahpncglpfjeaaGreat
open Go.RowKit
set_option linter.unusedVariables false

set_option maxHeartbeats 400000 in
theorem fldwrap_any (a : Int) (wa : -2147483648 ≤ a ∧ a ≤ 2147483647) (w : World) :
    Calls Tryz.prog 121 #[.int .i32 a] w fun e w' => e = .returned (.int .i32 (Gf.wrap a)) ∧ Below w.heap.size w w' := by
  have hmf : ∀ (fn : Fn) (first cap : Array Value) (w : World), (Instr.makeFunc fn first cap).run Tryz.prog w = .ok (.func fn first cap) w := fun _ _ _ _ => rfl
  have hb := Gf.tmod_bd a
  have he := Lib.hid (Gf.around_eq a)
  go_enter Tryz.func121, Tryz.ntmps121
  go_wp2
  · go_ret
    have he := he.out
    rw [if_pos (by assumption)] at he
    exact ⟨ret_int he, one_below _ _⟩
  · go_ret
    have he := he.out
    rw [if_neg (by omega)] at he
    exact ⟨ret_int he, one_below _ _⟩

set_option maxHeartbeats 400000 in
theorem fldmove_any (a v : Int) (wa : -2147483648 ≤ a ∧ a ≤ 2147483647) (wv : -2147483648 ≤ v ∧ v ≤ 2147483647) (w : World) :
    Calls Tryz.prog 130 #[.int .i32 a, .int .i32 v] w fun e w' => e = .returned (.int .i32 (Gf.move a v)) ∧ Below w.heap.size w w' := by
  have hmf : ∀ (fn : Fn) (first cap : Array Value) (w : World), (Instr.makeFunc fn first cap).run Tryz.prog w = .ok (.func fn first cap) w := fun _ _ _ _ => rfl
  have hb := Gf.tmod_bd (a + v)
  have he := Lib.hid (Gf.around_eq (a + v))
  go_enter Tryz.func130, Tryz.ntmps130
  go_wp2
  · go_ret
    have he := he.out
    rw [if_pos (by assumption)] at he
    exact ⟨ret_int he, one_below _ _⟩
  · go_ret
    have he := he.out
    rw [if_neg (by omega)] at he
    exact ⟨ret_int he, one_below _ _⟩

set_option maxHeartbeats 400000 in
theorem fldgap_any (a b : Int) (wa : -2147483648 ≤ a ∧ a ≤ 2147483647) (wb : -2147483648 ≤ b ∧ b ≤ 2147483647) (w : World) :
    Calls Tryz.prog 145 #[.int .i32 a, .int .i32 b] w fun e w' => e = .returned (.int .i32 (Gf.gap a b)) ∧ Below w.heap.size w w' := by
  have hmf : ∀ (fn : Fn) (first cap : Array Value) (w : World), (Instr.makeFunc fn first cap).run Tryz.prog w = .ok (.func fn first cap) w := fun _ _ _ _ => rfl
  have hb := Gf.tmod_bd (b - a + 8388608)
  have he := Lib.hid (Gf.around_eq (b - a + 8388608))
  go_enter Tryz.func145, Tryz.ntmps145
  go_wp2
  · go_ret
    have he := he.out
    rw [if_pos (by assumption)] at he
    exact ⟨ret_int (by unfold Gf.gap; omega), one_below _ _⟩
  · go_ret
    have he := he.out
    rw [if_neg (by omega)] at he
    exact ⟨ret_int (by unfold Gf.gap; omega), one_below _ _⟩

set_option maxHeartbeats 400000 in
theorem fldnear_any (g : Int) (wg : -2147483648 ≤ g ∧ g ≤ 2147483647) (w : World) :
    Calls Tryz.prog 144 #[.int .i32 g] w fun e w' => e = .returned (.bool (Gf.near g)) ∧ w = w' := by
  go_enter Tryz.func144, Tryz.ntmps144
  go_wp2
  all_goals
    go_ret
    exact ⟨ret_bool (by unfold Gf.near; first | (simp; omega) | simp | omega), rfl⟩

set_option maxHeartbeats 400000 in
theorem fldhits_tt (ax ay bx by' : Int) (wax : -2147483648 ≤ ax ∧ ax ≤ 2147483647) (way : -2147483648 ≤ ay ∧ ay ≤ 2147483647) (wbx : -2147483648 ≤ bx ∧ bx ≤ 2147483647) (wby' : -2147483648 ≤ by' ∧ by' ≤ 2147483647) (h1 : Gf.near (Gf.gap ax bx) = true) (h2 : Gf.near (Gf.gap ay by') = true) (w : World) :
    Calls Tryz.prog 132 #[.int .i32 ax, .int .i32 ay, .int .i32 bx, .int .i32 by'] w fun e w' => e = .returned (.bool true) ∧ Below w.heap.size w w' := by
  have c1 := fun X => Lib.hid (fldgap_any ax bx wax wbx X)
  have c2 := fun X => Lib.hid (fldgap_any ay by' way wby' X)
  have g1 := Gf.gap_bd ax bx
  have g2 := Gf.gap_bd ay by'
  have c3 := fun X => Lib.hid (fldnear_any (Gf.gap ax bx) (by omega) X)
  have c4 := fun X => Lib.hid (fldnear_any (Gf.gap ay by') (by omega) X)
  rw [h1] at c3
  rw [h2] at c4
  clear h1 h2
  go_enter Tryz.func132, Tryz.ntmps132
  go_wp2_with (first | (go_at_call 145; first | ((with_reducible refine ((c1 _).out).mono ?_); rintro e w1 ⟨rfl, hb1⟩) | ((with_reducible refine ((c2 _).out).mono ?_); rintro e w2 ⟨rfl, hb2⟩)) | (go_at_call 144; first | ((with_reducible refine ((c3 _).out).mono ?_); rintro e w' ⟨rfl, rfl⟩) | ((with_reducible refine ((c4 _).out).mono ?_); rintro e w' ⟨rfl, rfl⟩)))
  go_ret
  first | exact ⟨rfl, hb1⟩ | exact ⟨rfl, hb1.trans (hb2.mono hb1.size)⟩

set_option maxHeartbeats 400000 in
theorem fldhits_tf (ax ay bx by' : Int) (wax : -2147483648 ≤ ax ∧ ax ≤ 2147483647) (way : -2147483648 ≤ ay ∧ ay ≤ 2147483647) (wbx : -2147483648 ≤ bx ∧ bx ≤ 2147483647) (wby' : -2147483648 ≤ by' ∧ by' ≤ 2147483647) (h1 : Gf.near (Gf.gap ax bx) = true) (h2 : Gf.near (Gf.gap ay by') = false) (w : World) :
    Calls Tryz.prog 132 #[.int .i32 ax, .int .i32 ay, .int .i32 bx, .int .i32 by'] w fun e w' => e = .returned (.bool false) ∧ Below w.heap.size w w' := by
  have c1 := fun X => Lib.hid (fldgap_any ax bx wax wbx X)
  have c2 := fun X => Lib.hid (fldgap_any ay by' way wby' X)
  have g1 := Gf.gap_bd ax bx
  have g2 := Gf.gap_bd ay by'
  have c3 := fun X => Lib.hid (fldnear_any (Gf.gap ax bx) (by omega) X)
  have c4 := fun X => Lib.hid (fldnear_any (Gf.gap ay by') (by omega) X)
  rw [h1] at c3
  rw [h2] at c4
  clear h1 h2
  go_enter Tryz.func132, Tryz.ntmps132
  go_wp2_with (first | (go_at_call 145; first | ((with_reducible refine ((c1 _).out).mono ?_); rintro e w1 ⟨rfl, hb1⟩) | ((with_reducible refine ((c2 _).out).mono ?_); rintro e w2 ⟨rfl, hb2⟩)) | (go_at_call 144; first | ((with_reducible refine ((c3 _).out).mono ?_); rintro e w' ⟨rfl, rfl⟩) | ((with_reducible refine ((c4 _).out).mono ?_); rintro e w' ⟨rfl, rfl⟩)))
  go_ret
  first | exact ⟨rfl, hb1⟩ | exact ⟨rfl, hb1.trans (hb2.mono hb1.size)⟩

set_option maxHeartbeats 400000 in
theorem fldhits_f (ax ay bx by' : Int) (wax : -2147483648 ≤ ax ∧ ax ≤ 2147483647) (way : -2147483648 ≤ ay ∧ ay ≤ 2147483647) (wbx : -2147483648 ≤ bx ∧ bx ≤ 2147483647) (wby' : -2147483648 ≤ by' ∧ by' ≤ 2147483647) (h1 : Gf.near (Gf.gap ax bx) = false) (w : World) :
    Calls Tryz.prog 132 #[.int .i32 ax, .int .i32 ay, .int .i32 bx, .int .i32 by'] w fun e w' => e = .returned (.bool false) ∧ Below w.heap.size w w' := by
  have c1 := fun X => Lib.hid (fldgap_any ax bx wax wbx X)
  have c2 := fun X => Lib.hid (fldgap_any ay by' way wby' X)
  have g1 := Gf.gap_bd ax bx
  have g2 := Gf.gap_bd ay by'
  have c3 := fun X => Lib.hid (fldnear_any (Gf.gap ax bx) (by omega) X)
  have c4 := fun X => Lib.hid (fldnear_any (Gf.gap ay by') (by omega) X)
  rw [h1] at c3
  skip
  clear h1 
  go_enter Tryz.func132, Tryz.ntmps132
  go_wp2_with (first | (go_at_call 145; first | ((with_reducible refine ((c1 _).out).mono ?_); rintro e w1 ⟨rfl, hb1⟩) | ((with_reducible refine ((c2 _).out).mono ?_); rintro e w2 ⟨rfl, hb2⟩)) | (go_at_call 144; first | ((with_reducible refine ((c3 _).out).mono ?_); rintro e w' ⟨rfl, rfl⟩) | ((with_reducible refine ((c4 _).out).mono ?_); rintro e w' ⟨rfl, rfl⟩)))
  go_ret
  first | exact ⟨rfl, hb1⟩ | exact ⟨rfl, hb1.trans (hb2.mono hb1.size)⟩

theorem fldhits_any (ax ay bx by' : Int) (wax : -2147483648 ≤ ax ∧ ax ≤ 2147483647) (way : -2147483648 ≤ ay ∧ ay ≤ 2147483647) (wbx : -2147483648 ≤ bx ∧ bx ≤ 2147483647) (wby' : -2147483648 ≤ by' ∧ by' ≤ 2147483647) (w : World) :
    Calls Tryz.prog 132 #[.int .i32 ax, .int .i32 ay, .int .i32 bx, .int .i32 by'] w fun e w' => e = .returned (.bool (Gf.hits ax ay bx by')) ∧ Below w.heap.size w w' := by
  unfold Gf.hits
  cases h1 : Gf.near (Gf.gap ax bx)
  · exact fldhits_f ax ay bx by' wax way wbx wby' h1 w
  · cases h2 : Gf.near (Gf.gap ay by')
    · exact fldhits_tf ax ay bx by' wax way wbx wby' h1 h2 w
    · exact fldhits_tt ax ay bx by' wax way wbx wby' h1 h2 w

set_option maxHeartbeats 400000 in
theorem fldtoward_any (a : Int) (wa : -128 ≤ a ∧ a ≤ 127) (w : World) :
    Calls Tryz.prog 143 #[.int .i8 a] w fun e w' => e = .returned (.int .i32 (Gf.way a)) ∧ w = w' := by
  go_enter Tryz.func143, Tryz.ntmps143
  go_wp2
  all_goals
    go_ret
    exact ⟨ret_int (by unfold Gf.way; (repeat' split) <;> omega), rfl⟩

set_option maxHeartbeats 400000 in
theorem fldaim_any (x y b : Int) (wx : -128 ≤ x ∧ x ≤ 127) (wy : -128 ≤ y ∧ y ≤ 127) (wb : 0 ≤ b ∧ b ≤ 255) (w : World) :
    Calls Tryz.prog 131 #[.agg #[.int .i8 x, .int .i8 y, .int .u8 b]] w fun e w' => e = .returned (.tuple #[.int .i32 (Gf.aimx x y), .int .i32 (Gf.aimy y)]) ∧ Below w.heap.size w w' := by
  go_enter Tryz.func131, Tryz.ntmps131
  go_wp2_with fail
  · go_ret2
    have hy : y = 0 := eq_of_beq (by assumption)
    exact ⟨by simp [Gf.aimx, Gf.aimy, Gf.way, *], one_below _ _⟩
  all_goals
    go_quiet ((go_at_call 143; with_reducible exact draws_left (fldtoward_any _ (by omega) _)))
    go_wp2
    go_ret2
    exact ⟨by simp_all [Gf.aimx, Gf.aimy, Gf.way], draws_below (one_below _ _) _⟩

set_option maxHeartbeats 400000 in
theorem fldpush_any (v s : Int) (wv : -2147483648 ≤ v ∧ v ≤ 2147483647) (wss : -128 ≤ s ∧ s ≤ 127) (w : World) :
    Calls Tryz.prog 129 #[.int .i32 v, .int .i8 s] w fun e w' => e = .returned (.int .i32 (Gf.push v s)) ∧ Below w.heap.size w w' := by
  have hs := Gf.slow_in wv
  have c1 := fun X => Lib.hid (fixadd_any (v - v.tdiv 16) (256 * s) (by omega) (by omega) X)
  have hc := Fx.cut_bd (v - v.tdiv 16 + 256 * s)
  have c2 := fun X => Lib.hid (clamp_any (Fx.cut (v - v.tdiv 16 + 256 * s)) (-524288) 524288 hc (by omega) (by omega) X)
  go_enter Tryz.func129, Tryz.ntmps129
  go_wp2_with (first | (go_at_call 142; ((with_reducible refine ((c1 _).out).mono ?_); rintro e w1 ⟨rfl, hb1⟩)) | (go_at_call 122; ((with_reducible refine ((c2 _).out).mono ?_); rintro e w2 ⟨rfl, hb2⟩)))
  go_ret
  exact ⟨rfl, hb1.trans (hb2.mono hb1.size)⟩

set_option maxHeartbeats 400000 in
theorem refround_any (v : Int) (wv : -9223372036854775808 ≤ v ∧ v ≤ 9223372036854775807) (w : World) :
    Calls Tryz.prog 109 #[.int .i64 v] w fun e w' => e = .returned (.int .i64 (v % 16777216)) ∧ w = w' := by
  have hb := Gf.tmod_bd v
  have h2 := Gf.tmod_bd (v.tmod 16777216 + 16777216)
  have he' := Lib.hid (Gf.round_eq' v)
  go_enter Tryz.func109, Tryz.ntmps109
  go_wp2
  go_ret
  exact ⟨ret_int he'.out, rfl⟩

set_option maxHeartbeats 400000 in
theorem refmove_any (a v : Int) (wa : -2147483648 ≤ a ∧ a ≤ 2147483647) (wv : -2147483648 ≤ v ∧ v ≤ 2147483647) (w : World) :
    Calls Tryz.prog 68 #[.int .i32 a, .int .i32 v] w fun e w' => e = .returned (.int .i32 (Gf.move a v)) ∧ w = w' := by
  have c1 := fun X => Lib.hid (refround_any (a + v) (by omega) X)
  have hm := Gf.move_bd a v
  have hq : (a + v) % 16777216 = Gf.move a v := rfl
  rw [hq] at c1
  clear hq
  go_enter Tryz.func68, Tryz.ntmps68
  go_wp2_with (go_at_call 109; ((with_reducible refine ((c1 _).out).mono ?_); rintro e w' ⟨rfl, rfl⟩))
  go_ret
  exact ⟨rfl, rfl⟩

set_option maxHeartbeats 400000 in
theorem refgap_any (a b : Int) (wa : -2147483648 ≤ a ∧ a ≤ 2147483647) (wb : -2147483648 ≤ b ∧ b ≤ 2147483647) (w : World) :
    Calls Tryz.prog 136 #[.int .i32 a, .int .i32 b] w fun e w' => e = .returned (.int .i32 (Gf.gap a b)) ∧ w = w' := by
  obtain ⟨r, hr⟩ : ∃ r, r = (b - a) % 16777216 := ⟨_, rfl⟩
  have c1 := fun X => Lib.hid (refround_any (b - a) (by omega) X)
  rw [← hr] at c1
  have hb : 0 ≤ r ∧ r < 16777216 := by omega
  have hg := Lib.hid (show Gf.gap a b = (if 8388608 ≤ r then r - 16777216 else r) by unfold Gf.gap; split <;> omega)
  clear hr
  go_enter Tryz.func136, Tryz.ntmps136
  go_wp2_with (go_at_call 109; ((with_reducible refine ((c1 _).out).mono ?_); rintro e w' ⟨rfl, rfl⟩))
  · go_ret
    exact ⟨ret_int (by rw [hg.out, if_pos (by assumption)]), rfl⟩
  · go_ret
    exact ⟨ret_int (by rw [hg.out, if_neg (by omega)]), rfl⟩

set_option maxHeartbeats 400000 in
theorem refhits_any (ax ay bx by' : Int) (wax : -2147483648 ≤ ax ∧ ax ≤ 2147483647) (way : -2147483648 ≤ ay ∧ ay ≤ 2147483647) (wbx : -2147483648 ≤ bx ∧ bx ≤ 2147483647) (wby' : -2147483648 ≤ by' ∧ by' ≤ 2147483647) (w : World) :
    Calls Tryz.prog 111 #[.int .i32 ax, .int .i32 ay, .int .i32 bx, .int .i32 by'] w fun e w' => e = .returned (.bool (Gf.hits ax ay bx by')) ∧ w = w' := by
  obtain ⟨g, hg⟩ : ∃ g, g = Gf.gap ax bx := ⟨_, rfl⟩
  obtain ⟨k, hk⟩ : ∃ k, k = Gf.gap ay by' := ⟨_, rfl⟩
  have c1 := fun X => Lib.hid (refgap_any ax bx wax wbx X)
  have c2 := fun X => Lib.hid (refgap_any ay by' way wby' X)
  rw [← hg] at c1
  rw [← hk] at c2
  have g1 : -8388608 ≤ g ∧ g < 8388608 := hg ▸ Gf.gap_bd ax bx
  have g2 : -8388608 ≤ k ∧ k < 8388608 := hk ▸ Gf.gap_bd ay by'
  have hh := Lib.hid (show Gf.hits ax ay bx by' = (Gf.near g && Gf.near k) by unfold Gf.hits; rw [hg, hk])
  clear hg hk
  go_enter Tryz.func111, Tryz.ntmps111
  go_wp2_with (go_at_call 136; first | ((with_reducible refine ((c1 _).out).mono ?_); rintro e w' ⟨rfl, rfl⟩) | ((with_reducible refine ((c2 _).out).mono ?_); rintro e w' ⟨rfl, rfl⟩))
  all_goals
    go_ret
    exact ⟨ret_bool (by rw [hh.out, Bool.eq_iff_iff]; unfold Gf.near; simp; omega), rfl⟩

set_option maxHeartbeats 400000 in
theorem refsign_any (a : Int) (wa : -128 ≤ a ∧ a ≤ 127) (w : World) :
    Calls Tryz.prog 110 #[.int .i8 a] w fun e w' => e = .returned (.int .i32 (if 0 < a then 1 else if a < 0 then -1 else 0)) ∧ w = w' := by
  go_enter Tryz.func110, Tryz.ntmps110
  go_wp2
  all_goals
    go_ret
    exact ⟨ret_int (by (repeat' split) <;> omega), rfl⟩

set_option maxHeartbeats 400000 in
theorem refaim_any (x y b : Int) (wx : -128 ≤ x ∧ x ≤ 127) (wy : -128 ≤ y ∧ y ≤ 127) (wb : 0 ≤ b ∧ b ≤ 255) (w : World) :
    Calls Tryz.prog 69 #[.agg #[.int .i8 x, .int .i8 y, .int .u8 b]] w fun e w' => e = .returned (.tuple #[.int .i32 (Gf.aimx x y), .int .i32 (Gf.aimy y)]) ∧ Below w.heap.size w w' := by
  obtain ⟨r, hr⟩ : ∃ r : Int, r = (if 0 < x then 1 else if x < 0 then -1 else 0) := ⟨_, rfl⟩
  obtain ⟨s, hs⟩ : ∃ s : Int, s = (if 0 < y then 1 else if y < 0 then -1 else 0) := ⟨_, rfl⟩
  have c1 := fun X => Lib.hid (refsign_any x wx X)
  have c2 := fun X => Lib.hid (refsign_any y wy X)
  rw [← hr] at c1
  rw [← hs] at c2
  have b1 : -1 ≤ r ∧ r ≤ 1 := by rw [hr]; (repeat' split) <;> omega
  have b2 : -1 ≤ s ∧ s ≤ 1 := by rw [hs]; (repeat' split) <;> omega
  have hrH := Lib.hid hr
  have hsH := Lib.hid hs
  clear hr hs
  go_enter Tryz.func69, Tryz.ntmps69
  go_wp2_with fail
  go_quiet ((first | (go_at_call 110; with_reducible exact draws_left (c1 _).out) | (go_at_call 110; with_reducible exact draws_left (c2 _).out)))
  go_wp2
  all_goals
    go_ret2
    have e1 := hrH.out
    have e2 := hsH.out
    refine ⟨?_, draws_below (one_below _ _) _⟩
    have ex : Gf.aimx x y = (if r = 0 ∧ s = 0 then 1 else r) * 393216 := by
      unfold Gf.aimx Gf.way; rw [e1, e2]; (repeat' split) <;> omega
    have ey : Gf.aimy y = s * 393216 := by
      unfold Gf.aimy Gf.way; rw [e2]; (repeat' split) <;> omega
    rw [ex, ey]
    clear e1 e2 ex ey
    clear hrH hsH c1 c2
    refine ret_two ?_ (by omega)
    first
      | (have hr0 : ¬ r = 0 := by assumption
         rw [if_neg (fun h => hr0 h.1)]; omega)
      | (have hs1 : (s == 0) = false := by assumption
         have hs0 : s ≠ 0 := by simpa using hs1
         rw [if_neg (fun h => hs0 h.2)]; omega)
      | (have hs0 : s = 0 := eq_of_beq (by assumption)
         rw [if_pos ⟨by assumption, hs0⟩]; rfl)

set_option maxHeartbeats 400000 in
theorem refpush_any (v s : Int) (wv : -2147483648 ≤ v ∧ v ≤ 2147483647) (wss : -128 ≤ s ∧ s ≤ 127) (w : World) :
    Calls Tryz.prog 67 #[.int .i32 v, .int .i8 s] w fun e w' => e = .returned (.int .i32 (Gf.push v s)) ∧ w = w' := by
  have hs := Gf.slow_in wv
  have c1 := fun X => Lib.hid (refadd_any (v - v.tdiv 16) (256 * s) (by omega) (by omega) X)
  have hc := Fx.cut_bd (v - v.tdiv 16 + 256 * s)
  have c2 := fun X => Lib.hid (refclamp_any (Fx.cut (v - v.tdiv 16 + 256 * s)) (-524288) 524288 hc (by omega) (by omega) X)
  go_enter Tryz.func67, Tryz.ntmps67
  go_wp2_with (first | (go_at_call 108; ((with_reducible refine ((c1 _).out).mono ?_); rintro e w' ⟨rfl, rfl⟩)) | (go_at_call 107; ((with_reducible refine ((c2 _).out).mono ?_); rintro e w' ⟨rfl, rfl⟩)))
  go_ret
  exact ⟨rfl, rfl⟩
end Go.Proofs.YtiahpncglpfjeaaGreat
namespace Go.Proofs.YtiahpncglpfjeaaGreat
open Go.RowKit
set_option linter.unusedVariables false

set_option maxHeartbeats 400000 in
theorem reftame_any (a : Int) (wa : -128 ≤ a ∧ a ≤ 127) (w : World) :
    Calls Tryz.prog 66 #[.int .i8 a] w fun e w' => e = .returned (.int .i8 (Gf.tame a)) ∧ w = w' := by
  go_enter Tryz.func66, Tryz.ntmps66
  go_wp2
  · go_ret
    exact ⟨ret_int (by unfold Gf.tame; simp_all), rfl⟩
  · go_ret
    exact ⟨ret_int (by unfold Gf.tame; simp_all), rfl⟩

set_option maxRecDepth 100000 in
set_option maxHeartbeats 4000000 in
theorem refhit_any (g : Gm.G) (v : Value) (s : Gm.Shot) (w : World) (hg : ∀ i, i < 8 → Gm.tyShip (g.ship i)) (hs : Gm.tyShot s) :
    Calls Tryz.prog 70 #[.agg (Gm.cells g v), .agg s.cells.toArray] w fun e w' => e = .returned (.int .i64 (Gm.hit g.ship s)) ∧ Below w.heap.size w w' := by
  obtain ⟨owner, sx, sy, svx, svy, left⟩ := s
  obtain ⟨t1, t2, t3, t4, t5, t6⟩ := hs
  simp only [Gm.i32, Gm.i64] at t1 t2 t3 t4 t5 t6
  simp only [Gm.Shot.cells]
  go_enter Tryz.func70, Tryz.ntmps70
  go_wp2
  go_loopw [5] (fun i wr => ∃ k : Nat, k ≤ 8 ∧ i = .int .i64 k ∧ Box wr w.heap.size 28 (Gm.cells g v) ∧ Box wr (w.heap.size + 1) 90 #[.int .i64 owner, .int .i32 sx, .int .i32 sy, .int .i32 svx, .int .i32 svy, .int .i64 left] ∧ Below w.heap.size w wr ∧
      Hid (Gm.hit g.ship ⟨owner, sx, sy, svx, svy, left⟩ = Gm.hitFrom g.ship ⟨owner, sx, sy, svx, svy, left⟩ (8 - k) k)) (fun i _ => 8 - (intOf i).toNat)
  case atStart => exact ⟨0, by omega, rfl, (Box.made _ _ _).alloc _, Box.made_at _ _ _ (by simp), two_below' _ _ _, Lib.hid rfl⟩
  case round =>
    obtain ⟨k, hk, rfl, hB, hC, hb, hh⟩ := hrel
    by_cases hlt : k < 8
    · have hcr := hB.cell
      have hds := hC.cell
      have hlB := hB.lt
      have e0 := cells_at hcr hlt 0 (by omega)
      have e1 := cells_at hcr hlt 1 (by omega)
      have e2 := cells_at hcr hlt 2 (by omega)
      have ho := hg k hlt
      have hq : Gm.hits1 g.ship ⟨owner, sx, sy, svx, svy, left⟩ k = ((g.ship k).on && (decide ((k : Int) ≠ owner) && Gf.hits sx sy (g.ship k).x (g.ship k).y)) := rfl
      have HQ := Lib.hid hq
      clear hq
      generalize g.ship k = s at e0 e1 e2 ho HQ
      obtain ⟨on, x, y, vx, vy, cool, score⟩ := s
      simp only [Gm.Ship.cells, List.getElem?_cons_zero, List.getElem?_cons_succ, Nat.add_zero] at e0 e1 e2
      obtain ⟨o1, o2, o3, o4, o5, o6⟩ := ho
      simp only [Gm.i32] at o1 o2
      dsimp only at HQ
      have f0 := hds 0
      have f1 := hds 1
      have f2 := hds 2
      simp only [List.getElem?_toArray, List.getElem?_cons_zero, List.getElem?_cons_succ] at f0 f1 f2
      have hk8 : (k : Int) < 8 := by omega
      clear hcr hds
      have HN : Gm.hits1 g.ship ⟨owner, sx, sy, svx, svy, left⟩ k = false → Hid (Gm.hit g.ship ⟨owner, sx, sy, svx, svy, left⟩ = Gm.hitFrom g.ship ⟨owner, sx, sy, svx, svy, left⟩ (8 - (k + 1)) (k + 1)) := fun h => Lib.hid (by
        rw [hh.out, show 8 - k = (8 - (k + 1)) + 1 from by omega, Gm.hitFrom_no h])
      have HY : Gm.hits1 g.ship ⟨owner, sx, sy, svx, svy, left⟩ k = true → Gm.hit g.ship ⟨owner, sx, sy, svx, svy, left⟩ = (k : Int) := fun h => by
        rw [hh.out, show 8 - k = (8 - (k + 1)) + 1 from by omega, Gm.hitFrom_yes h]
      rw [HQ.out] at HN HY
      have HN := Lib.hid HN
      have HY := Lib.hid HY
      clear hh HQ
      cases on
      · have HN := HN.out (by simp)
        clear HY
        go_wp2_with fail
        go_quiet (fail)
        go_wp2
        go_roundw
        case rel => exact ⟨k + 1, by omega, by go_num, hB.draws _, hC.draws _, draws_below hb _, HN⟩
        case measure => simp [intOf]; omega
      · by_cases hko : (k : Int) = owner
        · have hko' : ((k : Int) != owner) = false := by simpa using hko
          have HN := HN.out (by simp [hko])
          clear HY hko
          go_wp2_with fail
          go_quiet (fail)
          go_wp2
          go_roundw
          case rel => exact ⟨k + 1, by omega, by go_num, hB.draws _, hC.draws _, draws_below hb _, HN⟩
          case measure => simp [intOf]; omega
        · have hko' : ((k : Int) != owner) = true := by simpa using hko
          cases hH : Gf.hits sx sy x y
          · have HN := HN.out (by simp [hH])
            have c1 := fun X => Lib.hid (refhits_any sx sy x y t2 t3 o1 o2 X)
            rw [hH] at c1
            clear HY hko hH
            go_wp2_with fail
            go_quiet ((go_at_call 111; with_reducible exact draws_left (c1 _).out))
            go_wp2
            go_roundw
            case rel => exact ⟨k + 1, by omega, by go_num, hB.draws _, hC.draws _, draws_below hb _, HN⟩
            case measure => simp [intOf]; omega
          · have HY := HY.out (by simp [hH, hko])
            have HY := Lib.hid HY
            have c1 := fun X => Lib.hid (refhits_any sx sy x y t2 t3 o1 o2 X)
            rw [hH] at c1
            clear HN hko hH
            go_wp2_with fail
            go_quiet ((go_at_call 111; with_reducible exact draws_left (c1 _).out))
            go_wp2
            go_ret
            exact ⟨ret_int HY.out.symm, draws_below hb _⟩
    · have hk8 : ¬ (k : Int) < 8 := by omega
      have HH := Lib.hid (show Gm.hit g.ship ⟨owner, sx, sy, svx, svy, left⟩ = -1 by rw [hh.out, show 8 - k = 0 from by omega]; rfl)
      clear hh
      go_wp2
      go_ret
      exact ⟨ret_int HH.out.symm, hb⟩
end Go.Proofs.YtiahpncglpfjeaaGreat
namespace Go.Proofs.YtiahpncglpfjeaaGreat
open Go.RowKit
set_option linter.unusedVariables false

section
variable {P : Program} {ops : Array Oper} {rest : List Oper} {o : Oper} {a : Act} {w : World} {Q : Exit → Act → World → Prop}

/-- A row or a struct that lies in a block that is known whole. -/
theorem Box.range {g : Nat} {t : TypeId} {cs : Array Value} (h : Box w g t cs) (o : Nat) (l : List Value) (hl : ∀ j v, l[j]? = some v → cs[o + j]? = some v) : w.rangeAt g o l :=
  fun j v hv => (h.cell _).trans (hl j v hv)
/-- The block is loaded whole. -/
theorem wpList_load_blk (hgd : o.guard = none) {ty : TypeId} {x : Operand} (ho : o.op = .load ty x) {g : Nat} (hx : a.eval x = .pointer (some ⟨g, 0, none⟩)) {t : TypeId} {cs : Array Value} (hg : Box w g t cs)
    {d : TypeDesc} (hu : P.underlying ty = some d) (hd : d.isRow = true) (hi : (P.info? ty).map (·.size) = some cs.size) (h : wpList P ops Q rest (a.put o.dst (.agg cs)) w) : wpList P ops Q (o :: rest) a w :=
  wpList_load_row hgd ty x ho g hx t cs (0, 0) d hg.is hu (by cases d <;> first | rfl | cases hd) hi h
/-- A part of the block is loaded. -/
theorem wpList_load_part (hgd : o.guard = none) {ty : TypeId} {x : Operand} (ho : o.op = .load ty x) {g f : Nat} (hx : a.eval x = .pointer (some ⟨g, f, none⟩)) {t : TypeId} {cs : Array Value} (hg : Box w g t cs)
    (l : List Value) (hl : ∀ j v, l[j]? = some v → cs[f + j]? = some v) {d : TypeDesc} (hu : P.underlying ty = some d) (hd : d.isRow = true) (hi : (P.info? ty).map (·.size) = some l.length)
    (h : wpList P ops Q rest (a.put o.dst (.agg l.toArray)) w) : wpList P ops Q (o :: rest) a w :=
  wpList_load_mid hgd ty x ho g f hx l d (hg.range f l hl) hu hd hi h
/-- The same under a guard that says yes. -/
theorem wpList_load_part_g (hw : Region.wanted o (yielded ops a.tmps) = true) {ty : TypeId} {x : Operand} (ho : o.op = .load ty x) {g f : Nat} (hx : a.eval x = .pointer (some ⟨g, f, none⟩)) {t : TypeId} {cs : Array Value} (hg : Box w g t cs)
    (l : List Value) (hl : ∀ j v, l[j]? = some v → cs[f + j]? = some v) {d : TypeDesc} (hu : P.underlying ty = some d) (hd : d.isRow = true) (hi : (P.info? ty).map (·.size) = some l.length)
    (h : wpList P ops Q rest (a.put o.dst (.agg l.toArray)) w) : wpList P ops Q (o :: rest) a w :=
  wpList_step fun K hK => by
    rw [if_pos hw]
    exact wp_load_mid ty x ho g f hx l d (hg.range f l hl) hu hd hi (hK _ _ h)
/-- The block that was made last is stored whole. -/
theorem wpList_store_new (hgd : o.guard = none) {ty : TypeId} {x y : Operand} (ho : o.op = .store ty x y) {v : World} {g : Nat} (hx : a.eval x = .pointer (some ⟨g, 0, none⟩)) {cs old : Array Value} (hy : a.eval y = .agg cs) {t : TypeId}
    (hv : w = v.alloc (.cells old t)) (hg : g = v.heap.size) (hi : (P.info? ty).map (·.size) = some cs.size) (hold : old.size = cs.size) (h1 : cs.all (·.oneCell') = true)
    (h : wpList P ops Q rest (a.put o.dst undef) (v.alloc (.cells cs t))) : wpList P ops Q (o :: rest) a w := by
  subst hv hg
  refine wpList_store_row hgd ty x y ho v.heap.size cs hx hy t old (heap_alloc_new _ _) hi hold h1 ?_
  rw [World.setRow_alloc_new]
  exact h
/-- A block that is known whole is stored whole. -/
theorem wpList_store_blk (hgd : o.guard = none) {ty : TypeId} {x y : Operand} (ho : o.op = .store ty x y) {g : Nat} (hx : a.eval x = .pointer (some ⟨g, 0, none⟩)) {cs old : Array Value} (hy : a.eval y = .agg cs) {t : TypeId}
    (hg : Box w g t old) (hi : (P.info? ty).map (·.size) = some cs.size) (hold : old.size = cs.size) (h1 : cs.all (·.oneCell') = true)
    (h : wpList P ops Q rest (a.put o.dst undef) (w.setRow g cs)) : wpList P ops Q (o :: rest) a w :=
  wpList_store_row hgd ty x y ho g cs hx hy t old hg.is hi hold h1 h
/-- A block known whole is stored whole, met by its type alone. -/
def StoreBlk (P : Program) (ops : Array Oper) (Q : Exit → Act → World → Prop) (rest : List Oper) (dst : Option Tmp) (p v : Value) (t : TypeId) (size : Nat) (a : Act) (w : World) : Prop :=
  ∃ (B : Nat) (cs old : Array Value), p = .pointer (some ⟨B, 0, none⟩) ∧ v = .agg cs ∧ Box w B t old ∧ cs.all (·.oneCell') = true ∧ cs.size = size ∧ old.size = size ∧ wpList P ops Q rest (a.put dst undef) (w.setRow B cs)
theorem StoreBlk.mk {dst : Option Tmp} {p v : Value} {t : TypeId} {size : Nat} {B : Nat} {cs old : Array Value} (hp : p = .pointer (some ⟨B, 0, none⟩)) (hv : v = .agg cs) (hB : Box w B t old) (h1 : cs.all (·.oneCell') = true) (hs : cs.size = size) (ho : old.size = size) (h : wpList P ops Q rest (a.put dst undef) (w.setRow B cs)) : StoreBlk P ops Q rest dst p v t size a w :=
  ⟨B, cs, old, hp, hv, hB, h1, hs, ho, h⟩
theorem blk_gate {t ty : TypeId} {size : Nat} {x y : Operand} (hgd : o.guard = none) (ho : o.op = .store ty x y) (hi : (P.info? ty).map (·.size) = some size) (h : StoreBlk P ops Q rest o.dst (a.eval x) (a.eval y) t size a w) : wpList P ops Q (o :: rest) a w := by
  obtain ⟨B, cs, old, hx, hy, hB, h1, hs, hold, h⟩ := h
  exact wpList_store_blk hgd ho hx hy hB (by rw [hi, hs]) (by rw [hold, hs]) h1 h
/-- A variable is made. -/
theorem wpList_alloc_z (hgd : o.guard = none) {t : TypeId} (ho : o.op = .alloc t) {z : Value} (hz : (P.info? t).map (·.zero) = some (some z)) {cs : Array Value} (hc : z.cells = cs)
    (h : wpList P ops Q rest (a.put o.dst (.pointer (some ⟨w.heap.size, 0, none⟩))) (w.alloc (.cells cs t))) : wpList P ops Q (o :: rest) a w :=
  wpList_plain hgd fun _ hK => by
    have hz' : (zeroValue t).run P w = .ok z w := by
      cases hq : P.info? t with
      | none => simp [hq] at hz
      | some i => simp [hq] at hz; simp [zeroValue, typeInfo, hq, hz]
    subst hc
    unfold Oper.wp execOp
    simp only [ho, Instr.alloc, Sem.run_bind, hz', Result.andThen_ok]
    exact hK _ _ h
/-- A struct is built. -/
theorem wpList_build_is (hgd : o.guard = none) {t : TypeId} {l : List (Nat × Operand)} (ho : o.op = .build t l.toArray) {vs : List (Nat × Value)} (hv : (l.map fun (i, x) => (i, a.eval x)) = vs) {cs : Array Value} (hb : P.built t vs = some cs)
    (h : wpList P ops Q rest (a.put o.dst (.agg cs)) w) : wpList P ops Q (o :: rest) a w := by
  have e : ((l.toArray.map fun (i, x) => (i, a.eval x)).toList) = vs := by rw [← hv]; simp
  exact wpList_build hgd t l.toArray ho (by rw [e, hb]; rfl) (by rw [e, hb]; exact h)
end

section
variable {w : World} {g g' : Nat} {t t' : TypeId} {cs cs' : Array Value}
theorem Box.row (h : Box w g t cs) (cs' : Array Value) : Box (w.setRow g cs') g t cs' := ⟨setRow_heap w g cs cs' t (0, 0) h.is⟩
theorem Box.row_far (h : Box w g t cs) (hne : g ≠ g') (cs' : Array Value) : Box (w.setRow g' cs') g t cs := ⟨(setRow_other w g' g cs' hne).trans h.is⟩
theorem Below.setRow' {B : Nat} {w0 : World} (hb : Below B w0 w) (hB : B ≤ g) (cs : Array Value) : Below B w0 (w.setRow g cs) :=
  ⟨hb.os, hb.tape, hb.output, by rw [setRow_size]; exact hb.size, fun i hi => (setRow_other w g i cs (by omega)).trans (hb.block i hi)⟩
end
end Go.Proofs.YtiahpncglpfjeaaGreat
