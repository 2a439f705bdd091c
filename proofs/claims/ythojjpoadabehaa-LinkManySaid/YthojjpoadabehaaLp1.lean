/-
Several texts in one: Fl Kp Sp Bz Mw Mv Sv Ry Sw Va Vc Vd Ca Cb Cc.
-/
import Derived.Laws.FloatArith
import Derived.Test.YthojjpoadabehaaRows
import Derived.WalkKit
import Derived.WalkSpells
import Derived.WalkLawsBesides
import Derived.Laws.Externs
import Derived.Laws.BitsAllLaws
import Derived.Lib.Hide
import Derived.LoopTactic
import Derived.Deep.QuietTactic
import Derived.BigQuiet
import Derived.Outline
import Derived.Laws.OwnMore
import Derived.Deep.Draws
import Derived.Laws.Rows
import Derived.Deep.MidRow
import Derived.Maps.AppendAt
import Derived.Deep.WholeRow
import Derived.Laws.ShiftsVarLaws
import Derived.Orders
import Derived.Tactics
import Derived.Tactics2
import Derived.KernelRfl
import Derived.Deep.CutRange
import Derived.Deep.CutBlock
import Derived.Deep.DeepCutAuto
import Derived.Deep.RegionWith
import Derived.ArgAppend
import Derived.Deep.RegionLaw
import GoSem.Claim
import Derived.RowKit
import Derived.ChangeShapes
import Derived.ProofKit
import Derived.OpenShut
import Derived.Carry
import Derived.Lib.SmallJoins
import Derived.ChangeOld
import Derived.ChangeArms
import Derived.Great.BuildSlice
import Derived.StillTail
import Derived.Below
import Derived.RangeFuncNested
import Derived.RangeFuncBound
import Derived.RangeFuncCalls
import Derived.RangeFuncLeaves
import Derived.Shelf.Abstract
import Derived.Shelf.RegionOpen
import Derived.Laws.StructEq
import Derived.ChangeKeysEq
import Derived.Deep.LoopGhost
import Derived.OwnWalkIn
import Derived.TacticsInMore
import Derived.LoopNIn
import Derived.LoopIn
import Derived.Laws.CopyOwn
import Derived.Laws.MakeOwn
import Derived.Defers
import Derived.Recover
import Derived.Deep.RegionHeld3
import Derived.Lib.SliceRun
import Derived.Laws.Bits64
namespace Fl
open Ieee

/-- What a rung comes to, in units of the least number; on beyond infinity as if there were none. -/
def G (r : Nat) : Nat := if r / 2 ^ 52 = 0 then r else (2 ^ 52 + r % 2 ^ 52) * 2 ^ (r / 2 ^ 52 - 1)

theorem G_kept (e q : Nat) (h1 : q ≤ 2 ^ 53) (h2 : e = 0 ∨ 2 ^ 52 ≤ q) : G (e * 2 ^ 52 + q) = q * 2 ^ e := by
  unfold G
  by_cases c : q < 2 ^ 52
  · have e0 : e = 0 := by omega
    subst e0
    rw [if_pos (by omega)]
    simp
  · by_cases c2 : q < 2 ^ 53
    · have d : (e * 2 ^ 52 + q) / 2 ^ 52 = e + 1 := by omega
      have m : (e * 2 ^ 52 + q) % 2 ^ 52 = q - 2 ^ 52 := by omega
      rw [d, m, if_neg (by omega), show 2 ^ 52 + (q - 2 ^ 52) = q from by omega, show e + 1 - 1 = e from rfl]
    · have hq : q = 2 ^ 53 := by omega
      have d : (e * 2 ^ 52 + q) / 2 ^ 52 = e + 2 := by omega
      have m : (e * 2 ^ 52 + q) % 2 ^ 52 = 0 := by omega
      rw [d, m, if_neg (by omega), hq, show e + 2 - 1 = e + 1 from by omega, Nat.pow_succ 2 e]
      omega

theorem rep (r : Nat) : ∃ e q, r = e * 2 ^ 52 + q ∧ q < 2 ^ 53 ∧ (e = 0 ∨ 2 ^ 52 ≤ q) := by
  by_cases c : r < 2 ^ 52
  · exact ⟨0, r, by omega, by omega, Or.inl rfl⟩
  · exact ⟨r / 2 ^ 52 - 1, 2 ^ 52 + r % 2 ^ 52, by omega, by omega, Or.inr (by omega)⟩

theorem G_succ (r : Nat) : G r < G (r + 1) := by
  obtain ⟨e, q, rfl, h1, h2⟩ := rep r
  rw [G_kept e q (by omega) h2, Nat.add_assoc, G_kept e (q + 1) (by omega) (by omega)]
  exact Nat.mul_lt_mul_of_pos_right (by omega) (Nat.two_pow_pos e)

theorem G_lt {a b : Nat} (h : a < b) : G a < G b := by
  induction b with
  | zero => omega
  | succ b ih =>
    by_cases c : a = b
    · subst c; exact G_succ a
    · exact Nat.lt_trans (ih (by omega)) (G_succ b)

theorem G_le {a b : Nat} (h : a ≤ b) : G a ≤ G b := by
  by_cases c : a = b
  · subst c; exact Nat.le_refl _
  · exact Nat.le_of_lt (G_lt (by omega))

/-- r is the rung nearest to v / 2 ^ s (in units of the least number); between two, the even one. -/
structure Near (v s r : Nat) : Prop where
  lo : ∀ p, r = p + 1 → (G p + G r) * 2 ^ s ≤ 2 * v ∧ ((G p + G r) * 2 ^ s = 2 * v → r % 2 = 0)
  hi : 2 * v ≤ (G r + G (r + 1)) * 2 ^ s ∧ (2 * v = (G r + G (r + 1)) * 2 ^ s → r % 2 = 0)

theorem Near.mono {v v' s r r' : Nat} (h : Near v s r) (h' : Near v' s r') (hv : v ≤ v') : r ≤ r' := by
  by_cases c : r ≤ r'
  · exact c
  · exfalso
    obtain ⟨p, rfl⟩ : ∃ p, r = p + 1 := ⟨r - 1, by omega⟩
    have a := h.lo p rfl
    have b := h'.hi
    have m : (G r' + G (r' + 1)) * 2 ^ s ≤ (G p + G (p + 1)) * 2 ^ s :=
      Nat.mul_le_mul_right _ (Nat.add_le_add (G_le (by omega)) (G_le (by omega)))
    have e1 := a.2 (by omega)
    have e2 := b.2 (by omega)
    have e3 : p ≠ r' := by omega
    have m' : (G r' + G (r' + 1)) * 2 ^ s < (G p + G (p + 1)) * 2 ^ s :=
      Nat.mul_lt_mul_of_pos_right (Nat.add_lt_add (G_lt (by omega)) (G_lt (by omega))) (Nat.two_pow_pos s)
    omega

theorem Near.exact (s r : Nat) : Near (G r * 2 ^ s) s r := by
  have hp := Nat.two_pow_pos s
  constructor
  · intro p hr
    subst hr
    have := Nat.mul_lt_mul_of_pos_right (G_succ p) hp
    rw [Nat.add_mul]
    omega
  · have := Nat.mul_lt_mul_of_pos_right (G_succ r) hp
    rw [Nat.add_mul]
    omega

/-- The sign and the rung of a word; where it stands. -/
def sgn (x : Nat) : Bool := x / 2 ^ 63 % 2 == 1
def rung (x : Nat) : Nat := x % 2 ^ 63
def Z (x : Nat) : Int := if sgn x then -(G (rung x) : Int) else G (rung x)

/-- One, in units of the least number. -/
def U : Nat := 2 ^ 1074

end Fl
namespace Go.Proofs.Ythojjpoadabehaa
open Go.RowKit
set_option linter.unusedVariables false

theorem ret_bool {a b : Bool} (h : a = b) : Ending.returned (.bool a) = .returned (.bool b) := by rw [h]
theorem ret_int {k : IntKind} {a b : Int} (h : a = b) : Ending.returned (.int k a) = .returned (.int k b) := by rw [h]

/-- Whatever was there in v is there in w. -/
def Kept (v w : World) : Prop := Below v.heap.size v w
theorem Kept.refl (w : World) : Kept w w := Below.refl _ _
theorem Kept.on {v w w' : World} (h : Kept v w) (h' : Below w.heap.size w w') : Kept v w' := Below.trans h (h'.mono (Below.size h))

end Go.Proofs.Ythojjpoadabehaa
namespace Sr

def way (a b : Int) : Int := if (b - a) % 65536 < 32768 then (b - a) % 65536 else (b - a) % 65536 - 65536
theorem way_bd (a b : Int) : -32768 ≤ way a b ∧ way a b ≤ 32767 := by unfold way; split <;> omega
theorem way_unique {a b k : Int} (h : (b - a) % 65536 = k % 65536) (hk : -32768 ≤ k ∧ k ≤ 32767) : way a b = k := by unfold way; split <;> omega
theorem way_back (a b : Int) : way a b = - way b a ∨ (way a b = -32768 ∧ way b a = -32768) := by unfold way; split <;> split <;> omega

/-- The bit of the one that is k behind. -/
def bitN (k : Int) : Nat := if k ≤ 0 then 0 else if k ≤ 32 then 2 ^ (k - 1).toNat else 0
theorem bitN_lt (k : Int) : bitN k < 4294967296 := by
  unfold bitN
  split
  · decide
  · split
    · have : 2 ^ (k - 1).toNat ≤ 2 ^ 31 := Nat.pow_le_pow_right (by decide) (by omega)
      omega
    · decide
theorem bitN_test (k : Int) (i : Nat) : (bitN k).testBit i = decide (1 ≤ k ∧ k ≤ 32 ∧ k = (i : Int) + 1) := by
  unfold bitN
  split
  · rw [Nat.zero_testBit]; symm; apply decide_eq_false; omega
  · split
    · rw [Nat.testBit_two_pow, Bool.eq_iff_iff, decide_eq_true_iff, decide_eq_true_iff]; omega
    · rw [Nat.zero_testBit]; symm; apply decide_eq_false; omega
/-- Does 'seen' say that the one k behind came? -/
def has (seen : Nat) (k : Int) : Bool := decide (1 ≤ k ∧ k ≤ 32) && seen.testBit (k - 1).toNat
theorem has_and (seen : Nat) (k : Int) : decide (seen &&& bitN k ≠ 0) = has seen k := by
  rw [Bool.eq_iff_iff, decide_eq_true_iff]
  unfold has
  rw [Bool.and_eq_true, decide_eq_true_iff]
  constructor
  · intro h
    obtain ⟨i, hi⟩ : ∃ i, (seen &&& bitN k).testBit i = true := by
      apply Classical.byContradiction
      intro hn
      apply h
      apply Nat.eq_of_testBit_eq
      intro i
      rw [Nat.zero_testBit]
      cases he : (seen &&& bitN k).testBit i
      · rfl
      · exact absurd ⟨i, he⟩ hn
    rw [Nat.testBit_and, Bool.and_eq_true, bitN_test, decide_eq_true_iff] at hi
    refine ⟨⟨hi.2.1, hi.2.2.1⟩, ?_⟩
    rw [show (k - 1).toNat = i by omega]
    exact hi.1
  · rintro ⟨h1, h2⟩ h
    have h3 : (seen &&& bitN k).testBit (k - 1).toNat = true := by
      rw [Nat.testBit_and, h2, bitN_test, Bool.true_and, decide_eq_true_iff]; omega
    rw [h, Nat.zero_testBit] at h3
    cases h3

structure H where
  some : Bool
  last : Int
  seen : Nat
def none : H := ⟨false, 0, 0⟩
structure H.Ok (h : H) : Prop where
  last : 0 ≤ h.last ∧ h.last ≤ 65535
  seen : h.seen < 4294967296
theorem none_ok : none.Ok := ⟨by decide, by decide⟩

/-- What was seen, d further on. -/
def up (seen : Nat) (d : Int) : Nat := (seen * 2 ^ d.toNat) % 4294967296 ||| bitN d
theorem up_lt (seen : Nat) (d : Int) : up seen d < 4294967296 := by
  have h1 : (seen * 2 ^ d.toNat) % 4294967296 < 2 ^ 32 := Nat.mod_lt _ (by decide)
  exact Nat.or_lt_two_pow h1 (bitN_lt d)
theorem up_test (seen : Nat) (d : Int) (hd : 0 < d) (i : Nat) : (up seen d).testBit i = (decide (i < 32) && (decide (d = (i : Int) + 1) || (decide (d ≤ (i : Int)) && seen.testBit (i - d.toNat)))) := by
  unfold up
  rw [Nat.testBit_or, bitN_test, show (4294967296 : Nat) = 2 ^ 32 from rfl, Nat.testBit_mod_two_pow, Nat.testBit_mul_two_pow]
  by_cases h1 : i < 32
  · rw [decide_eq_true h1, Bool.true_and, Bool.true_and, Bool.or_comm]
    congr 1
    · rw [Bool.eq_iff_iff, decide_eq_true_iff, decide_eq_true_iff]; omega
    · congr 1
      rw [Bool.eq_iff_iff, decide_eq_true_iff, decide_eq_true_iff]; omega
  · rw [decide_eq_false h1, Bool.false_and, Bool.false_and, Bool.false_or]
    apply decide_eq_false; omega

/-- Is s new? -/
def fresh (h : H) (s : Int) : Bool := !h.some || decide (0 < way h.last s) || (decide (1 ≤ way s h.last ∧ way s h.last ≤ 32) && !has h.seen (way s h.last))
/-- What is known behind it. -/
def note (h : H) (s : Int) : H :=
  if h.some = false then ⟨true, s, h.seen⟩
  else if 0 < way h.last s then ⟨true, s, up h.seen (way h.last s)⟩
  else ⟨h.some, h.last, h.seen ||| bitN (way s h.last)⟩
theorem note_ok {h : H} (ho : h.Ok) {s : Int} (hs : 0 ≤ s ∧ s ≤ 65535) : (note h s).Ok := by
  unfold note
  split
  · exact ⟨hs, ho.seen⟩
  · split
    · exact ⟨hs, up_lt _ _⟩
    · exact ⟨ho.last, Nat.or_lt_two_pow (n := 32) ho.seen (bitN_lt _)⟩
theorem note_first {h : H} (hf : h.some = false) (s : Int) : fresh h s = true ∧ note h s = ⟨true, s, h.seen⟩ := by
  unfold fresh note; rw [hf]; exact ⟨rfl, rfl⟩
theorem note_ahead {h : H} (hf : h.some = true) {s : Int} (ha : 0 < way h.last s) : fresh h s = true ∧ note h s = ⟨true, s, up h.seen (way h.last s)⟩ := by
  unfold fresh note; rw [hf, decide_eq_true ha]; refine ⟨rfl, ?_⟩
  rw [if_neg (by decide), if_pos ha]
theorem or_same (x : Nat) (k : Int) (h : bitN k = 0 ∨ has x k = true) : x ||| bitN k = x := by
  rcases h with h | h
  · rw [h, Nat.or_zero]
  · unfold has at h
    rw [Bool.and_eq_true, decide_eq_true_iff] at h
    apply Nat.eq_of_testBit_eq
    intro i
    rw [Nat.testBit_or, bitN_test]
    by_cases e : k = (i : Int) + 1
    · rw [show i = (k - 1).toNat by omega, h.2]; rfl
    · rw [decide_eq_false (by omega), Bool.or_false]
/-- Not ahead, and new: it stands behind, and did not come. -/
theorem note_behind {h : H} (hf : h.some = true) {s : Int} (ha : ¬ 0 < way h.last s) (hb : bitN (way s h.last) ≠ 0) (hn : has h.seen (way s h.last) = false) :
    fresh h s = true ∧ note h s = ⟨h.some, h.last, h.seen ||| bitN (way s h.last)⟩ := by
  unfold fresh note
  rw [hf, hn, if_neg (by decide), if_neg ha, decide_eq_false ha]
  refine ⟨?_, rfl⟩
  have : 1 ≤ way s h.last ∧ way s h.last ≤ 32 := by
    unfold bitN at hb
    split at hb
    · exact absurd rfl hb
    · split at hb
      · omega
      · exact absurd rfl hb
  rw [decide_eq_true this]; rfl
theorem note_old {h : H} (hf : h.some = true) {s : Int} (ha : ¬ 0 < way h.last s) (hb : bitN (way s h.last) = 0 ∨ has h.seen (way s h.last) = true) :
    fresh h s = false ∧ note h s = h := by
  unfold fresh note
  rw [if_neg (by rw [hf]; decide), if_neg ha, or_same _ _ hb, decide_eq_false ha, hf]
  refine ⟨?_, ?_⟩
  · rcases hb with hb | hb
    · have : ¬ (1 ≤ way s h.last ∧ way s h.last ≤ 32) := by
        rintro ⟨h1, h2⟩
        unfold bitN at hb
        rw [if_neg (by omega), if_pos h2] at hb
        exact absurd hb (Nat.pos_iff_ne_zero.1 (Nat.pow_pos (by decide)))
      rw [decide_eq_false this]; rfl
    · rw [hb]; simp
  · cases h; simp at hf; subst hf; rfl
/-- Does the other side say that s came? -/
def told (s ack : Int) (seen : Nat) : Bool := decide (s = ack) || has seen (way s ack)
/-- The document's way to it: by the way from the other number. -/
theorem told_ref (a s : Int) (n : Nat) (ha : 0 ≤ a ∧ a ≤ 65535) (hs : 0 ≤ s ∧ s ≤ 65535) : told s a n = (decide (-way a s = 0) || (decide (1 ≤ -way a s ∧ -way a s ≤ 32) && n.testBit (-way a s - 1).toNat)) := by
  unfold told
  have h0 : (s = a) ↔ (-way a s = 0) := by unfold way; split <;> omega
  congr 1
  · rw [Bool.eq_iff_iff, decide_eq_true_iff, decide_eq_true_iff]; exact h0
  · unfold has
    rcases way_back a s with h | h
    · rw [show way s a = -way a s by omega]
    · rw [h.1, h.2]; rfl
end Sr
namespace Go.Proofs.Ythojjpoadabehaa
open Go.RowKit
set_option linter.unusedVariables false

theorem draws_below {B : Nat} {a w : World} (h : Below B a w) (n : Nat) : Below B a (w.drewN n) := ⟨h.os, h.tape, h.output, h.size, h.block⟩
theorem one_below (w : World) (o1 : Obj) : Below w.heap.size w (w.alloc o1) := (Below.refl _ _).alloc (Nat.le_refl _) _
end Go.Proofs.Ythojjpoadabehaa
namespace Go.Proofs.Ythojjpoadabehaa
open Go.RowKit
set_option linter.unusedVariables false

theorem add_block (a : Addr) (n : Nat) : (a.add n).block = a.block := by
  by_cases h : n = 0
  · simp [Addr.add, h]
  · simp [Addr.add, h]
theorem add_twice (a : Addr) (i j : Nat) : (a.add i).add j = a.add (i + j) := by
  cases i with
  | zero => simp [Addr.add]
  | succ i =>
    cases j with
    | zero => simp [Addr.add]
    | succ j => simp [Addr.add]; omega

/-- n elements of 'size' cells each begin at A, in a block below B, and are the cells xs; of no elements nothing is asked. (A structure, so that nobody looks into it unasked.) -/
structure Lies (w : World) (B size : Nat) (A : Option Addr) (n : Nat) (xs : List Value) : Prop where
  len : xs.length = n * size
  start : n ≠ 0 → ∃ ad : Addr, A = some ad ∧ ad.block < B
  cell : ∀ ad, A = some ad → n ≠ 0 → ∀ j u, xs[j]? = some u → w.cell? (ad.add j) = some u

section
variable {w w' : World} {B B' size n : Nat} {A : Option Addr} {xs : List Value}
theorem Lies.empty : Lies w B size A 0 [] := ⟨by simp, fun h => absurd rfl h, fun _ _ h => absurd rfl h⟩
theorem Lies.wider (h : Lies w B size A n xs) (hB : B ≤ B') : Lies w B' size A n xs :=
  ⟨h.len, fun hn => let ⟨ad, e, hb⟩ := h.start hn; ⟨ad, e, Nat.lt_of_lt_of_le hb hB⟩, h.cell⟩
theorem Lies.stays (h : Lies w B size A n xs) (hk : ∀ b, b < B → w'.heap[b]? = w.heap[b]?) : Lies w' B size A n xs :=
  ⟨h.len, h.start, fun ad e hn j u hu => by
    obtain ⟨ad', e', hb⟩ := h.start hn
    obtain rfl : ad' = ad := by rw [e] at e'; injection e' with e'; exact e'.symm
    rw [World.cell?_of_block (w := w) (by rw [add_block]; exact hk _ hb)]
    exact h.cell _ e hn j u hu⟩
theorem Lies.below (h : Lies w B size A n xs) (hb : Below B w w') : Lies w' B size A n xs := h.stays hb.block
theorem Lies.owned {base : Nat} {e : TypeId} {c : Nat} (h : w.ownsRow base e size (.slice A n c) n xs) : Lies w w.heap.size size A n xs := by
  have ho := h
  obtain ⟨hl, h' | ⟨g, cap, cur, hv, hb, hg, _⟩⟩ := h
  · obtain ⟨_, rfl⟩ := h'
    exact ⟨hl, fun h => absurd rfl h, fun _ _ h => absurd rfl h⟩
  · have hA : A = some ⟨g, 0, none⟩ := by injection hv
    refine ⟨hl, fun _ => ⟨_, hA, (Array.getElem?_eq_some_iff.1 hg).1⟩, fun ad e _ j u hu => ?_⟩
    rw [hA] at e
    injection e with e
    subst e
    exact ho.cells (by rw [hA]; rfl) j u hu
end

/-- Block g is just the cells cs, of element type t, none of them frozen. (A structure, too.) -/
structure Box (w : World) (g : Nat) (t : TypeId) (cs : Array Value) : Prop where
  is : w.heap[g]? = some (.cells cs t (0, 0))

section
variable {w w' : World} {g : Nat} {t : TypeId} {cs : Array Value}
theorem Box.lt (h : Box w g t cs) : g < w.heap.size := (Array.getElem?_eq_some_iff.1 h.is).1
theorem Box.cell (h : Box w g t cs) (i : Nat) : w.cell? ⟨g, i, none⟩ = cs[i]? := cell_of_row w g i cs t (0, 0) h.is
theorem Box.free (h : Box w g t cs) (i : Nat) : w.frozen? ⟨g, i, none⟩ = false := frozen_of_row w g i cs t h.is
theorem Box.made (w : World) (t : TypeId) (cs : Array Value) : Box (w.alloc (.cells cs t)) w.heap.size t cs := ⟨heap_alloc_new w _⟩
theorem Box.drew (h : Box w g t cs) : Box w.drew g t cs := ⟨h.is⟩
theorem Box.draws (h : Box w g t cs) (n : Nat) : Box (w.drewN n) g t cs := ⟨h.is⟩
theorem Box.alloc (h : Box w g t cs) (o : Obj) : Box (w.alloc o) g t cs := ⟨(Below.heap_alloc w o g h.lt).trans h.is⟩
theorem Box.put (h : Box w g t cs) (i : Nat) (u : Value) : Box (w.setCell ⟨g, i, none⟩ u) g t (cs.setIfInBounds i u) := ⟨heap_setCell_same w g i cs t u h.is⟩
theorem Box.far (h : Box w g t cs) {p : Addr} (hp : g ≠ p.block) (u : Value) : Box (w.setCell p u) g t cs := ⟨(heap_setCell_other w p g u hp).trans h.is⟩
theorem Box.below {B : Nat} (h : Box w g t cs) (hb : Below B w w') (hg : g < B) : Box w' g t cs := ⟨(hb.block g hg).trans h.is⟩
theorem Box.grown {row : Option Nat} (h : Box w g t cs) (hb : w.grownBy w' row) (hg : row ≠ some g) : Box w' g t cs := ⟨(hb.block g h.lt (fun e => hg e.symm)).trans h.is⟩
theorem Box.apart {g' : Nat} {t' : TypeId} {cs' : Array Value} (h : Box w g t cs) (h' : Box w g' t' cs') (hne : t ≠ t') : g ≠ g' := fun e => by
  have h1 := h.is
  rw [e, h'.is] at h1
  injection h1 with h1
  injection h1 with _ ht _
  exact hne ht.symm
/-- What is owned as a row of another type is another block. -/
theorem Box.unowned {base : Nat} {e : TypeId} {size n : Nat} {v : Value} {xs : List Value} (h : Box w g t cs) (ho : w.ownsRow base e size v n xs) (hne : e ≠ t) : v.ownBlock ≠ some g := by
  obtain ⟨_, ⟨rfl, _⟩ | ⟨g', cap, cur, rfl, _, hg, _⟩⟩ := ho
  · intro h; cases h
  · intro he
    have e' : g' = g := by injection he
    exact Box.apart ⟨hg⟩ h hne e'
end

/-- What an append wants, and what it leaves: asked of the values alone. -/
def Appends (P : Program) (e : TypeId) (size bytes : Nat) (ops : Array Oper) (Q : Exit → Act → World → Prop) (rest : List Oper) (dst : Option Tmp) (v q : Value) (a : Act) (w : World) : Prop :=
  ∃ (base n : Nat) (xs : List Value) (A : Option Addr) (m c : Nat) (news : List Value), q = .slice A m c ∧ w.ownsRow base e size v n xs ∧ Lies w w.heap.size size A m news ∧ (∀ u ∈ news, u.oneCell' = true) ∧
    n + m ≤ maxLen ∧ (n + m) * bytes ≤ 140737488355328 ∧ base ≤ w.heap.size ∧
    ∀ A' c' w', w'.ownsRow base e size (.slice A' (n + m) c') (n + m) (xs ++ news) → w.grownBy w' v.ownBlock → wpList P ops Q rest (a.put dst (.slice A' (n + m) c')) w'
theorem Appends.mk {P : Program} {e : TypeId} {size bytes : Nat} {ops : Array Oper} {Q : Exit → Act → World → Prop} {rest : List Oper} {dst : Option Tmp} {v q : Value} {a : Act} {w : World} {base n : Nat} {xs : List Value} {A : Option Addr} {m c : Nat} {news : List Value}
    (hq : q = .slice A m c) (ho : w.ownsRow base e size v n xs) (hl : Lies w w.heap.size size A m news) (h1 : ∀ u ∈ news, u.oneCell' = true) (h63 : n + m ≤ maxLen) (hb : (n + m) * bytes ≤ 140737488355328) (hbase : base ≤ w.heap.size)
    (h : ∀ A' c' w', w'.ownsRow base e size (.slice A' (n + m) c') (n + m) (xs ++ news) → w.grownBy w' v.ownBlock → wpList P ops Q rest (a.put dst (.slice A' (n + m) c')) w') : Appends P e size bytes ops Q rest dst v q a w :=
  ⟨base, n, xs, A, m, c, news, hq, ho, hl, h1, h63, hb, hbase, h⟩
theorem owned_slice {w : World} {base : Nat} {e : TypeId} {size n : Nat} {v : Value} {xs : List Value} (h : w.ownsRow base e size v n xs) : ∃ A c, v = .slice A n c := by
  obtain ⟨_, ⟨rfl, rfl⟩ | ⟨g, cap, cur, rfl, _⟩⟩ := h
  · exact ⟨_, _, rfl⟩
  · exact ⟨_, _, rfl⟩
end Go.Proofs.Ythojjpoadabehaa
namespace Go.Proofs.Ythojjpoadabehaa
open Go.RowKit
set_option linter.unusedVariables false

section
variable {P : Program} {ops : Array Oper} {rest : List Oper} {o : Oper} {a : Act} {w : World} {Q : Exit → Act → World → Prop}

/-- A row or a struct that lies in a block that is known whole. -/
theorem Box.range {g : Nat} {t : TypeId} {cs : Array Value} (h : Box w g t cs) (o : Nat) (l : List Value) (hl : ∀ j v, l[j]? = some v → cs[o + j]? = some v) : w.rangeAt g o l :=
  fun j v hv => (h.cell _).trans (hl j v hv)
/-- A block known whole is stored whole, met by its type alone. -/
def StoreBlk (P : Program) (ops : Array Oper) (Q : Exit → Act → World → Prop) (rest : List Oper) (dst : Option Tmp) (p v : Value) (t : TypeId) (size : Nat) (a : Act) (w : World) : Prop :=
  ∃ (B : Nat) (cs old : Array Value), p = .pointer (some ⟨B, 0, none⟩) ∧ v = .agg cs ∧ Box w B t old ∧ cs.all (·.oneCell') = true ∧ cs.size = size ∧ old.size = size ∧ wpList P ops Q rest (a.put dst undef) (w.setRow B cs)
theorem StoreBlk.mk {dst : Option Tmp} {p v : Value} {t : TypeId} {size : Nat} {B : Nat} {cs old : Array Value} (hp : p = .pointer (some ⟨B, 0, none⟩)) (hv : v = .agg cs) (hB : Box w B t old) (h1 : cs.all (·.oneCell') = true) (hs : cs.size = size) (ho : old.size = size) (h : wpList P ops Q rest (a.put dst undef) (w.setRow B cs)) : StoreBlk P ops Q rest dst p v t size a w :=
  ⟨B, cs, old, hp, hv, hB, h1, hs, ho, h⟩
/-- A struct is built. -/
theorem wpList_build_is (hgd : o.guard = none) {t : TypeId} {l : List (Nat × Operand)} (ho : o.op = .build t l.toArray) {vs : List (Nat × Value)} (hv : (l.map fun (i, x) => (i, a.eval x)) = vs) {cs : Array Value} (hb : P.built t vs = some cs)
    (h : wpList P ops Q rest (a.put o.dst (.agg cs)) w) : wpList P ops Q (o :: rest) a w := by
  have e : ((l.toArray.map fun (i, x) => (i, a.eval x)).toList) = vs := by rw [← hv]; simp
  exact wpList_build hgd t l.toArray ho (by rw [e, hb]; rfl) (by rw [e, hb]; exact h)
end

section
variable {w : World} {g g' : Nat} {t t' : TypeId} {cs cs' : Array Value}
theorem Box.row (h : Box w g t cs) (cs' : Array Value) : Box (w.setRow g cs') g t cs' := ⟨setRow_heap w g cs cs' t (0, 0) h.is⟩
theorem Box.row_far (h : Box w g t cs) (hne : g ≠ g') (cs' : Array Value) : Box (w.setRow g' cs') g t cs := ⟨(setRow_other w g' g cs' hne).trans h.is⟩
theorem Below.setRow' {B : Nat} {w0 : World} (hb : Below B w0 w) (hB : B ≤ g) (cs : Array Value) : Below B w0 (w.setRow g cs) :=
  ⟨hb.os, hb.tape, hb.output, by rw [setRow_size]; exact hb.size, fun i hi => (setRow_other w g i cs (by omega)).trans (hb.block i hi)⟩
end
end Go.Proofs.Ythojjpoadabehaa
namespace Go.Proofs.Ythojjpoadabehaa
open Go.RowKit
set_option linter.unusedVariables false

theorem way_is (a b : Int) : wrap64 (IntKind.i16.wrap (IntKind.u16.wrap (b - a))) = Sr.way a b := by
  have h1 : IntKind.u16.wrap (b - a) = (b - a) % 65536 := IntKind.wrap_u16 _
  have h2 : IntKind.i16.wrap ((b - a) % 65536) = Sr.way a b := by
    simp only [IntKind.wrap, IntKind.bits, IntKind.signed, Sr.way, Bool.true_and]
    simp only [show (2 : Int) ^ 16 = 65536 from rfl, show (2 : Int) ^ (16 - 1) = 32768 from rfl]
    by_cases h : (b - a) % 65536 % 65536 ≥ 32768
    · rw [if_pos (decide_eq_true h)]; omega
    · rw [if_neg (by rw [decide_eq_false h]; decide)]; omega
  rw [h1, h2]
  have := Sr.way_bd a b
  exact IntWalk.wrap64_in _ (by omega)
/-- One shifted by all but one. -/
theorem shift_bit (k : Int) (hk : 0 < k) : Op.shift .shl .u32 1 .i64 (k - 1) = pure (.int .u32 (Sr.bitN k : Nat)) := by
  unfold Op.shift
  rw [if_neg (by omega)]
  simp only [IntKind.bits]
  refine congrArg (fun z => pure (Value.int .u32 z)) ?_
  rw [IntKind.wrap_u32', Int.one_mul, u32_shl_one_var (k - 1) (by omega)]
  unfold Sr.bitN
  by_cases h : k ≤ 32
  · rw [if_neg (by omega), if_neg (by omega), if_pos h]; push_cast; rfl
  · rw [if_pos (by omega), if_neg (by omega), if_neg h]; rfl
theorem bit_test (n : Nat) (d : Int) (hd : 1 ≤ d) (hn : n < 4294967296) : (false || bits .and .u32 ((n : Int) / 2 ^ (d.toNat - 1)) 1 == 1) = (false || (true && n.testBit (d - 1).toNat)) := by
  rw [show (d - 1).toNat = d.toNat - 1 by omega]
  generalize d.toNat - 1 = j
  have e : (n : Int) / 2 ^ j = ((n / 2 ^ j : Nat) : Int) := by push_cast; rfl
  have hl : n / 2 ^ j < 4294967296 := Nat.lt_of_le_of_lt (Nat.div_le_self _ _) hn
  rw [e, show ((1 : Int)) = ((1 : Nat) : Int) from rfl, u32_and_nat _ _ hl (by decide), Bool.false_or, Bool.true_and, Bool.false_or, Nat.testBit, Nat.shiftRight_eq_div_pow, Bool.eq_iff_iff, Nat.and_comm]
  simp only [beq_iff_eq, bne_iff_ne, Nat.one_and_eq_mod_two]
  omega
set_option maxHeartbeats 400000 in
theorem serway_any (a b : Int) (w : World) :
    Calls Try.prog 35 #[.int .u16 a, .int .u16 b] w fun e w' => e = .returned (.int .i64 (Sr.way a b)) ∧ w = w' := by
  go_enter Try.func35, Try.ntmps35
  go_wp2
  go_ret
  exact ⟨ret_int (way_is a b), rfl⟩
set_option maxHeartbeats 400000 in
theorem refway_any (a b : Int) (ha : 0 ≤ a ∧ a ≤ 65535) (hb : 0 ≤ b ∧ b ≤ 65535) (w : World) :
    Calls Try.prog 33 #[.int .u16 a, .int .u16 b] w fun e w' => e = .returned (.int .i64 (Sr.way a b)) ∧ w = w' := by
  go_enter Try.func33, Try.ntmps33
  go_wp2
  all_goals
    go_ret
    exact ⟨ret_int (by unfold Sr.way; split <;> omega), rfl⟩
set_option maxHeartbeats 400000 in
theorem serahead_any (a b : Int) (w : World) :
    Calls Try.prog 31 #[.int .u16 a, .int .u16 b] w fun e w' => e = .returned (.bool (decide (0 < Sr.way b a))) ∧ w = w' := by
  have c1 := Lib.hid (serway_any b a w)
  generalize Sr.way b a = k at *
  go_enter Try.func31, Try.ntmps31
  go_wp2_with (go_at_call 35; ((with_reducible refine ((c1).out).mono ?_); rintro e w1 ⟨rfl, rfl⟩))
  go_ret
  exact ⟨rfl, rfl⟩
set_option maxHeartbeats 400000 in
theorem serbits_any (a : Int) (w : World) :
    Calls Try.prog 30 #[.int .u16 a] w fun e w' => e = .returned (.func (.func 34) #[] #[.pointer (some ⟨w.heap.size, 0, none⟩)]) ∧ w' = w.alloc (.cells #[.int .u16 a] 28) := by
  have hmf : ∀ (fn : Fn) (first cap : Array Value) (w : World), (Instr.makeFunc fn first cap).run Try.prog w = .ok (.func fn first cap) w := fun _ _ _ _ => rfl
  go_enter Try.func30, Try.ntmps30
  go_wp2
  go_ret
  exact ⟨rfl, rfl⟩
set_option maxHeartbeats 400000 in
theorem serbit_any (a s : Int) (B : Nat) (w : World) (hB : w.heap[B]? = some (.cells #[.int .u16 a] 28 (0, 0))) :
    Calls Try.prog 34 #[.int .u16 s, .pointer (some ⟨B, 0, none⟩)] w fun e w' => e = .returned (.int .u32 (Sr.bitN (Sr.way s a) : Nat)) ∧ w = w' := by
  have c0 := cell_of_one hB
  have c1 := Lib.hid (serway_any s a w)
  have hk := Sr.way_bd s a
  generalize Sr.way s a = k at *
  clear hB
  by_cases hk0 : k ≤ 0
  · have hr : Sr.bitN k = 0 := by unfold Sr.bitN; rw [if_pos hk0]
    rw [hr]
    go_enter Try.func34, Try.ntmps34
    go_wp2_with (go_at_call 35; ((with_reducible refine ((c1).out).mono ?_); rintro e w1 ⟨rfl, rfl⟩))
    go_ret
    exact ⟨rfl, rfl⟩
  · have hs := shift_bit k (by omega)
    generalize ((Sr.bitN k : Nat) : Int) = z at *
    go_enter Try.func34, Try.ntmps34
    go_wp2_with (go_at_call 35; ((with_reducible refine ((c1).out).mono ?_); rintro e w1 ⟨rfl, rfl⟩))
    go_ret
    exact ⟨rfl, rfl⟩
set_option maxHeartbeats 400000 in
theorem reftold_any (s a : Int) (n : Nat) (ha : 0 ≤ a ∧ a ≤ 65535) (hs : 0 ≤ s ∧ s ≤ 65535) (hn : n < 4294967296) (w : World) :
    Calls Try.prog 26 #[.int .u16 s, .int .u16 a, .int .u32 n] w fun e w' => e = .returned (.bool (Sr.told s a n)) ∧ w = w' := by
  have c1 := Lib.hid (refway_any a s ha hs w)
  have hk := Sr.way_bd a s
  have hb := Lib.hid (Sr.told_ref a s n ha hs)
  generalize Sr.way a s = k at *
  generalize Sr.told s a n = T at *
  go_enter Try.func26, Try.ntmps26
  go_wp2_with (go_at_call 33; ((with_reducible refine ((c1).out).mono ?_); rintro e w1 ⟨rfl, rfl⟩))
  all_goals
    go_ret
    refine ⟨ret_bool ?_, rfl⟩
    rw [hb.out]
    first
      | (rw [decide_eq_true (show -k = 0 by omega)]; rfl)
      | (rw [decide_eq_false (show ¬ -k = 0 by omega), show ((-k == 0) = false) from (by simpa using (by omega : ¬ (-k = 0))), decide_eq_true (show 1 ≤ -k ∧ -k ≤ 32 by omega)]; exact bit_test n (-k) (by omega) hn)
      | (rw [decide_eq_false (show ¬ -k = 0 by omega), show ((-k == 0) = false) from (by simpa using (by omega : ¬ (-k = 0))), decide_eq_false (show ¬ (1 ≤ -k ∧ -k ≤ 32) by omega)]; rfl)
end Go.Proofs.Ythojjpoadabehaa
namespace Ry
open Go

def isHard (o : Oper) : Bool := match o.op with | .store .. => true | _ => false
def isMake (o : Oper) : Bool := match o.op with | .buildSlice .. | .alloc .. => true | .call c => (match c.callee with | .builtin .append | .value _ => true | _ => false) | _ => false
def isStore (o : Oper) : Bool := isHard o || isMake o
/-- The world is looked at, and left as it is. -/
def isLook (o : Oper) : Bool := match o.op with | .load .. | .nilCheck .. => true | _ => false
/-- Nothing of the world is asked. -/
def isFree (o : Oper) : Bool := match o.op with | .fieldAddr .. | .indexAddr .. | .move .. | .assign .. | .pick .. | .extract .. | .binOp .. | .unOp .. | .build .. | .convert .. | .slice .. => true | _ => false

theorem store_free {o : Oper} (h : isStore o = true) : isFree o = false := by
  unfold isStore isHard isMake at h
  unfold isFree
  generalize o.op = x at h ⊢
  cases x <;> first | rfl | (exact absurd h (by decide)) | (simp at h)
theorem store_look {o : Oper} (h : isStore o = true) : isLook o = false := by
  unfold isStore isHard isMake at h
  unfold isLook
  generalize o.op = x at h ⊢
  cases x <;> first | rfl | (exact absurd h (by decide)) | (simp at h)

/-- What an operation leaves: the value v, a world of C. -/
def Gives (P : Program) (o : Oper) (a : Act) (w : World) (v : Value) (C : World → Prop) : Prop :=
  match (execOp a.eval o).run P w with
  | .ok (.value u) w1 => u = v ∧ C w1
  | .ok .skip w1 => undef = v ∧ C w1
  | .ok (.enter f args) w1 => Calls P f args w1 fun e w2 => e = .returned v ∧ C w2
  | _ => False

theorem Gives.wp {P : Program} {o : Oper} {a : Act} {w : World} {v : Value} {C : World → Prop} {K : Act → World → Prop} {Q : Exit → Act → World → Prop} (h : Gives P o a w v C) (hK : ∀ w', C w' → K (a.put o.dst v) w') : o.wp P a w K Q := by
  unfold Gives at h
  unfold Oper.wp
  generalize (execOp a.eval o).run P w = r at *
  cases r with
  | ok n w1 =>
    cases n <;> simp only [Oper.upon] at h ⊢
    case value u => obtain ⟨rfl, h⟩ := h; exact hK _ h
    case skip => obtain ⟨rfl, h⟩ := h; exact hK _ h
    case enter f args =>
      exact h.mono fun e w2 ⟨he, hw⟩ => by subst he; exact hK _ hw
  | halt x w1 => cases h
theorem Gives.congr {P : Program} {o : Oper} {a a' : Act} {w : World} {v : Value} {C : World → Prop} (h : Gives P o a w v C) (he : execOp a'.eval o = execOp a.eval o) : Gives P o a' w v C := by
  unfold Gives at *; rw [he]; exact h

/-- The walk in the order of the text: C is what is known of the world, D what is known of it till the next store, E what is known all the time; n is how many have been; the looks of st ask E alone. -/
def wpLex (P : Program) (st : List Nat) (E : World → Prop) (Q : Act → (World → Prop) → Prop) : List Oper → Nat → Act → (World → Prop) → (World → Prop) → Prop
  | [], _, a, C, _ => Q a C
  | o :: rest, n, a, C, D =>
    if isStore o then ∃ v C' D', (∀ w, C w → Gives P o a w v C') ∧ (isHard o = false → D' = D) ∧ (∀ w, C' w → D' w ∧ E w) ∧ wpLex P st E Q rest (n + 1) (a.put o.dst v) C' D'
    else if isFree o then ∃ v, (∀ w, Gives P o a w v (fun w' => w' = w)) ∧ wpLex P st E Q rest (n + 1) (a.put o.dst v) C D
    else if isLook o then ∃ v, (∀ w, (if st.contains n then E w else D w) → Gives P o a w v (fun w' => w' = w)) ∧ wpLex P st E Q rest (n + 1) (a.put o.dst v) C D
    else ∃ v, (∀ w, C w → Gives P o a w v C) ∧ wpLex P st E Q rest (n + 1) (a.put o.dst v) C D

/-- A run in the order of the text, written out. -/
structure Run (P : Program) (st : Nat → Bool) (E : World → Prop) (l : List Oper) (A : Nat → Act) (C D : Nat → World → Prop) (v : Nat → Value) : Prop where
  act : ∀ i o, l[i]? = some o → A (i + 1) = (A i).put o.dst (v i)
  store : ∀ i o, l[i]? = some o → isStore o = true → ∀ w, C i w → Gives P o (A i) w (v i) (C (i + 1))
  free : ∀ i o, l[i]? = some o → isStore o = false → isFree o = true → C (i + 1) = C i ∧ ∀ w, Gives P o (A i) w (v i) (fun w' => w' = w)
  look : ∀ i o, l[i]? = some o → isStore o = false → isFree o = false → isLook o = true → C (i + 1) = C i ∧ ∀ w, (if st i then E w else D i w) → Gives P o (A i) w (v i) (fun w' => w' = w)
  read : ∀ i o, l[i]? = some o → isStore o = false → isFree o = false → isLook o = false → C (i + 1) = C i ∧ ∀ w, C i w → Gives P o (A i) w (v i) (C i)
  soft : ∀ i o, l[i]? = some o → isHard o = false → D (i + 1) = D i
  held : ∀ i, i ≤ l.length → ∀ w, C i w → D i w ∧ E w

def consF {α : Type} (x : α) (f : Nat → α) : Nat → α
  | 0 => x
  | i + 1 => f i
theorem Run.cons {P : Program} {st : Nat → Bool} {E : World → Prop} {l : List Oper} {o : Oper} {a : Act} {C D C1 D1 : World → Prop} {u : Value} {A : Nat → Act} {Cs Ds : Nat → World → Prop} {v : Nat → Value} (hr : Run P (fun i => st (i + 1)) E l A Cs Ds v) (hA : A 0 = a.put o.dst u) (hC : Cs 0 = C1) (hD : Ds 0 = D1) (hCD : ∀ w, C w → D w ∧ E w)
    (h1 : isStore o = true → ∀ w, C w → Gives P o a w u C1) (h2 : isStore o = false → isFree o = true → C1 = C ∧ ∀ w, Gives P o a w u (fun w' => w' = w)) (h3 : isStore o = false → isFree o = false → isLook o = true → C1 = C ∧ ∀ w, (if st 0 then E w else D w) → Gives P o a w u (fun w' => w' = w))
    (h4 : isStore o = false → isFree o = false → isLook o = false → C1 = C ∧ ∀ w, C w → Gives P o a w u C) (h5 : isHard o = false → D1 = D) : Run P st E (o :: l) (consF a A) (consF C Cs) (consF D Ds) (consF u v) := by
  refine ⟨?_, ?_, ?_, ?_, ?_, ?_, ?_⟩
  · intro i o' ho'
    cases i with
    | zero => simp at ho'; subst ho'; exact hA
    | succ i => exact hr.act i o' (by simpa using ho')
  · intro i o' ho'
    cases i with
    | zero => simp at ho'; subst ho'; intro hs w hw; show Gives P o a w u (Cs 0); rw [hC]; exact h1 hs w hw
    | succ i => exact hr.store i o' (by simpa using ho')
  · intro i o' ho'
    cases i with
    | zero => simp at ho'; subst ho'; intro hs hf; exact ⟨hC.trans (h2 hs hf).1, (h2 hs hf).2⟩
    | succ i => exact hr.free i o' (by simpa using ho')
  · intro i o' ho'
    cases i with
    | zero => simp at ho'; subst ho'; intro hs hf hl; exact ⟨hC.trans (h3 hs hf hl).1, (h3 hs hf hl).2⟩
    | succ i => exact hr.look i o' (by simpa using ho')
  · intro i o' ho'
    cases i with
    | zero => simp at ho'; subst ho'; intro hs hf hl; exact ⟨hC.trans (h4 hs hf hl).1, (h4 hs hf hl).2⟩
    | succ i => exact hr.read i o' (by simpa using ho')
  · intro i o' ho'
    cases i with
    | zero => simp at ho'; subst ho'; intro hh; exact hD.trans (h5 hh)
    | succ i => exact hr.soft i o' (by simpa using ho')
  · intro i hi
    cases i with
    | zero => exact hCD
    | succ i => exact hr.held i (by simpa using hi)
theorem run_of_lex {P : Program} {st : List Nat} {E : World → Prop} {Q : Act → (World → Prop) → Prop} : ∀ (l : List Oper) (n : Nat) (a : Act) (C D : World → Prop), (∀ w, C w → D w ∧ E w) → wpLex P st E Q l n a C D →
    ∃ A Cs Ds v, Run P (fun i => st.contains (n + i)) E l A Cs Ds v ∧ A 0 = a ∧ Cs 0 = C ∧ Ds 0 = D ∧ Q (A l.length) (Cs l.length)
  | [], n, a, C, D, hCD, h => ⟨fun _ => a, fun _ => C, fun _ => D, fun _ => undef, ⟨fun i o h => by simp at h, fun i o h => by simp at h, fun i o h => by simp at h, fun i o h => by simp at h, fun i o h => by simp at h, fun i o h => by simp at h, fun i _ w hw => hCD w hw⟩, rfl, rfl, rfl, h⟩
  | o :: l, n, a, C, D, hCD, h => by
    unfold wpLex at h
    have shift : (fun i => st.contains (n + 1 + i)) = fun i => (fun j => st.contains (n + j)) (i + 1) := funext fun i => by
      show st.contains (n + 1 + i) = st.contains (n + (i + 1)); rw [show n + 1 + i = n + (i + 1) by omega]
    by_cases hs : isStore o = true
    · rw [if_pos hs] at h
      obtain ⟨u, C', D', h1, hd, hcd, h2⟩ := h
      obtain ⟨A, Cs, Ds, v, hr, hA, hC, hD, hQ⟩ := run_of_lex l (n + 1) _ C' D' hcd h2
      rw [shift] at hr
      exact ⟨_, _, _, _, Run.cons (st := fun j => st.contains (n + j)) hr hA hC hD hCD (fun _ => h1) (fun e => by rw [hs] at e; cases e) (fun e => by rw [hs] at e; cases e) (fun e => by rw [hs] at e; cases e) hd, rfl, rfl, rfl, hQ⟩
    · have hs0 : isStore o = false := by simpa using hs
      have hh0 : isHard o = false := by simp [isStore] at hs0; exact hs0.1
      rw [if_neg hs] at h
      by_cases hf : isFree o = true
      · rw [if_pos hf] at h
        obtain ⟨u, h1, h2⟩ := h
        obtain ⟨A, Cs, Ds, v, hr, hA, hC, hD, hQ⟩ := run_of_lex l (n + 1) _ C D hCD h2
        rw [shift] at hr
        exact ⟨_, _, _, _, Run.cons (st := fun j => st.contains (n + j)) hr hA hC hD hCD (fun e => absurd e hs) (fun _ _ => ⟨rfl, h1⟩) (fun _ e => by rw [hf] at e; cases e) (fun _ e => by rw [hf] at e; cases e) (fun _ => rfl), rfl, rfl, rfl, hQ⟩
      · rw [if_neg hf] at h
        by_cases hl : isLook o = true
        · rw [if_pos hl] at h
          obtain ⟨u, h1, h2⟩ := h
          obtain ⟨A, Cs, Ds, v, hr, hA, hC, hD, hQ⟩ := run_of_lex l (n + 1) _ C D hCD h2
          rw [shift] at hr
          exact ⟨_, _, _, _, Run.cons (st := fun j => st.contains (n + j)) hr hA hC hD hCD (fun e => absurd e hs) (fun _ e => absurd e hf) (fun _ _ _ => ⟨rfl, h1⟩) (fun _ _ e => by rw [hl] at e; cases e) (fun _ => rfl), rfl, rfl, rfl, hQ⟩
        · rw [if_neg hl] at h
          obtain ⟨u, h1, h2⟩ := h
          obtain ⟨A, Cs, Ds, v, hr, hA, hC, hD, hQ⟩ := run_of_lex l (n + 1) _ C D hCD h2
          rw [shift] at hr
          exact ⟨_, _, _, _, Run.cons (st := fun j => st.contains (n + j)) hr hA hC hD hCD (fun e => absurd e hs) (fun _ e => absurd e hf) (fun _ _ e => absurd e hl) (fun _ _ _ => ⟨rfl, h1⟩) (fun _ => rfl), rfl, rfl, rfl, hQ⟩

section
variable {l : List Oper} {v : Nat → Value} {a0 : Act}
structure Shape (l : List Oper) (v : Nat → Value) (a0 : Act) (S : Nat → Bool) (a : Act) : Prop where
  size : a.tmps.size = a0.tmps.size
  defers : a.defers = a0.defers
  done : ∀ j o t, l[j]? = some o → o.dst = some t → S j = true → a.tmps[t]? = if t < a0.tmps.size then some (v j) else none
  rest : ∀ t, (∀ j o, l[j]? = some o → o.dst = some t → S j = false) → a.tmps[t]? = a0.tmps[t]?

def Distinct (l : List Oper) : Prop := ∀ (i j : Nat) (oi oj : Oper) (t : Tmp), l[i]? = some oi → l[j]? = some oj → oi.dst = some t → oj.dst = some t → i = j

theorem Shape.start : Shape l v a0 (fun _ => false) a0 := ⟨rfl, rfl, fun _ _ _ _ _ h => (by cases h), fun _ _ => rfl⟩
theorem Shape.put {S : Nat → Bool} {a : Act} (hd : Distinct l) (h : Shape l v a0 S a) {i : Nat} {o : Oper} (ho : l[i]? = some o) : Shape l v a0 (fun j => S j || j == i) (a.put o.dst (v i)) := by
  cases hdst : o.dst with
  | none =>
    refine ⟨h.size, h.defers, fun j oj t hj ht hS => ?_, fun t ht => ?_⟩
    · simp only [Bool.or_eq_true, beq_iff_eq] at hS
      rcases hS with hS | rfl
      · exact h.done j oj t hj ht hS
      · rw [ho] at hj; injection hj with hj; subst hj; rw [hdst] at ht; cases ht
    · exact h.rest t fun j oj hj ht' => by have := ht j oj hj ht'; simp at this; exact this.1
  | some d =>
    refine ⟨by simp [Act.put, h.size], h.defers, fun j oj t hj ht hS => ?_, fun t ht => ?_⟩
    · simp only [Act.put, Array.getElem?_setIfInBounds]
      by_cases htd : d = t
      · subst htd
        have : j = i := hd j i oj o d hj ho ht hdst
        subst this
        rw [if_pos rfl, h.size]
      · rw [if_neg htd]
        simp only [Bool.or_eq_true, beq_iff_eq] at hS
        rcases hS with hS | rfl
        · exact h.done j oj t hj ht hS
        · rw [ho] at hj; injection hj with hj; subst hj; rw [hdst] at ht; injection ht with ht; exact absurd ht htd
    · have hne : d ≠ t := fun e => by subst e; have := ht i o ho hdst; simp at this
      simp only [Act.put, Array.getElem?_setIfInBounds, if_neg hne]
      exact h.rest t fun j oj hj ht' => by have := ht j oj hj ht'; simp at this; exact this.1
theorem Shape.same {S S' : Nat → Bool} {a a' : Act} (h : Shape l v a0 S a) (h' : Shape l v a0 S' a') {t : Nat} (hS : ∀ j o, l[j]? = some o → o.dst = some t → S j = S' j) : a.tmps[t]? = a'.tmps[t]? := by
  by_cases hx : ∃ j o, l[j]? = some o ∧ o.dst = some t ∧ S j = true
  · obtain ⟨j, o, hj, ht, hs⟩ := hx
    rw [h.done j o t hj ht hs, h'.done j o t hj ht (by rw [← hS j o hj ht]; exact hs)]
  · have hn : ∀ j o, l[j]? = some o → o.dst = some t → S j = false := fun j o hj ht => by
      cases hs : S j
      · rfl
      · exact absurd ⟨j, o, hj, ht, hs⟩ hx
    rw [h.rest t hn, h'.rest t fun j o hj ht => by rw [← hS j o hj ht]; exact hn j o hj ht]
theorem Shape.ext {S S' : Nat → Bool} {a a' : Act} (h : Shape l v a0 S a) (h' : Shape l v a0 S' a') (hS : ∀ j o, l[j]? = some o → S j = S' j) : a = a' := by
  have ht : a.tmps = a'.tmps := Array.ext_getElem? fun t => h.same h' fun j o hj _ => hS j o hj
  have hd : a.defers = a'.defers := h.defers.trans h'.defers.symm
  cases a; cases a'; simp_all
theorem Shape.congr {S S' : Nat → Bool} {a : Act} (h : Shape l v a0 S a) (hS : ∀ j o, l[j]? = some o → S j = S' j) : Shape l v a0 S' a :=
  ⟨h.size, h.defers, fun j o t hj ht hs => h.done j o t hj ht (by rw [hS j o hj]; exact hs), fun t ht => h.rest t fun j o hj hd => by rw [hS j o hj]; exact ht j o hj hd⟩
theorem Run.shape {P : Program} {st : Nat → Bool} {E : World → Prop} {A : Nat → Act} {C D : Nat → World → Prop} (hr : Run P st E l A C D v) (hd : Distinct l) : ∀ k, k ≤ l.length → Shape l v (A 0) (fun j => decide (j < k)) (A k)
  | 0, _ => Shape.start.congr fun j o _ => by simp
  | k + 1, hk => by
    have ho : l[k]? = some (l[k]'(by omega)) := List.getElem?_eq_getElem (by omega)
    rw [hr.act k _ ho]
    refine ((Run.shape hr hd k (by omega)).put hd ho).congr fun j o _ => ?_
    rw [Bool.eq_iff_iff]; simp; omega
end

/-- Does i wait for j? As the table says. -/
def tb (b : Array Nat) (i j : Nat) : Bool := (b.getD i 0).testBit j
def pairB (st : List Nat) (l : List Oper) (b : Array Nat) (i j : Nat) : Bool :=
  match l[i]?, l[j]? with
  | some oi, some oj =>
    (!(tb b i j) || oi.after.any fun e => Region.binds .any e && (e.on == j || tb b e.on j)) &&
    (i == j || ((match oi.dst, oj.dst with | some d, some d' => d != d' | _, _ => true) &&
      (match oj.dst with | some d => !(oi.looksAt l.toArray).contains d || (if j < i then tb b i j else tb b j i) | none => true) &&
      (!isStore oj || isFree oi || (isLook oi && (!isHard oj || st.contains i)) || (if j < i then tb b i j else tb b j i))))
  | _, _ => true
def oneB (l : List Oper) (i : Nat) : Bool :=
  match l[i]? with
  | some o => o.guard.isNone && !(isStore o && isFree o) && o.after.all fun e => !Region.binds .any e || decide (e.on < i)
  | none => true
def okB (st : List Nat) (l : List Oper) : Bool :=
  Region.noSelect l.toArray && ((List.range l.length).all fun i => oneB l i && (List.range l.length).all fun j => pairB st l (Region.before l.toArray) i j)

structure Ok (st : List Nat) (l : List Oper) (cl : Nat → Nat → Bool) : Prop where
  sel : Region.noSelect l.toArray = true
  guard : ∀ (i : Nat) (o : Oper), l[i]? = some o → o.guard = none
  down : ∀ (i : Nat) (o : Oper), l[i]? = some o → ∀ e ∈ o.after, Region.binds .any e = true → e.on < i
  cert : ∀ (i j : Nat) (o oj : Oper), l[i]? = some o → l[j]? = some oj → cl i j = true → ∃ e ∈ o.after, Region.binds .any e = true ∧ (e.on = j ∨ cl e.on j = true)
  dist : Distinct l
  looks : ∀ (i j : Nat) (oi oj : Oper) (t : Tmp), l[i]? = some oi → l[j]? = some oj → i ≠ j → oj.dst = some t → t ∈ oi.looksAt l.toArray → (if j < i then cl i j else cl j i) = true
  store : ∀ (i j : Nat) (oi oj : Oper), l[i]? = some oi → l[j]? = some oj → i ≠ j → isStore oj = true → isFree oi = false → (isLook oi && (!isHard oj || st.contains i)) = false → (if j < i then cl i j else cl j i) = true
theorem Ok.of (st : List Nat) (l : List Oper) (h : okB st l = true) : Ok st l (tb (Region.before l.toArray)) := by
  simp only [okB, Bool.and_eq_true] at h
  obtain ⟨h0, h⟩ := h
  have h1 : ∀ i o, l[i]? = some o → oneB l i = true ∧ ∀ j oj, l[j]? = some oj → pairB st l (Region.before l.toArray) i j = true := fun i o ho => by
    have hi : i < l.length := (List.getElem?_eq_some_iff.1 ho).1
    have := List.all_eq_true.1 h i (List.mem_range.2 hi)
    simp only [Bool.and_eq_true] at this
    exact ⟨this.1, fun j oj hj => List.all_eq_true.1 this.2 j (List.mem_range.2 (List.getElem?_eq_some_iff.1 hj).1)⟩
  have one : ∀ i o, l[i]? = some o → (o.guard.isNone = true ∧ (!(isStore o && isFree o)) = true) ∧ (o.after.all fun e => !Region.binds .any e || decide (e.on < i)) = true := fun i o ho => by
    have := (h1 i o ho).1
    simp only [oneB, ho, Bool.and_eq_true] at this
    exact this
  have two : ∀ i j oi oj, l[i]? = some oi → l[j]? = some oj →
      (!(tb (Region.before l.toArray) i j) || oi.after.any fun e => Region.binds .any e && (e.on == j || tb (Region.before l.toArray) e.on j)) = true ∧
      (i == j || ((match oi.dst, oj.dst with | some d, some d' => d != d' | _, _ => true) &&
      (match oj.dst with | some d => !(oi.looksAt l.toArray).contains d || (if j < i then tb (Region.before l.toArray) i j else tb (Region.before l.toArray) j i) | none => true) &&
      (!isStore oj || isFree oi || (isLook oi && (!isHard oj || st.contains i)) || (if j < i then tb (Region.before l.toArray) i j else tb (Region.before l.toArray) j i)))) = true := fun i j oi oj hi hj => by
    have := (h1 i oi hi).2 j oj hj
    simp only [pairB, hi, hj, Bool.and_eq_true] at this
    exact this
  refine ⟨h0, fun i o ho => by simpa using (one i o ho).1.1, fun i o ho e he hb => ?_, fun i j o oj hi hj hc => ?_, fun i j oi oj t hi hj hdi hdj => ?_, fun i j oi oj t hi hj hne hdj ht => ?_, fun i j oi oj hi hj hne hs hf hlk => ?_⟩
  · have := (Array.all_eq_true_iff_forall_mem.1 (one i o ho).2) e he
    simpa [hb] using this
  · have := (two i j o oj hi hj).1
    rw [hc] at this
    simp at this
    obtain ⟨k, hk, h1, h2⟩ := this
    exact ⟨o.after[k], Array.getElem_mem hk, h1, h2⟩
  · by_cases hij : i = j
    · exact hij
    · have := (two i j oi oj hi hj).2
      simp [hij, hdi, hdj] at this
  · have := (two i j oi oj hi hj).2
    simp only [Bool.or_eq_true, beq_iff_eq, Bool.and_eq_true, hne, false_or, hdj] at this
    have h2 := this.1.2
    rcases h2 with h2 | h2
    · simp at h2; exact absurd ht h2
    · exact h2
  · have := (two i j oi oj hi hj).2
    simp only [Bool.or_eq_true, beq_iff_eq, Bool.and_eq_true, hne, false_or] at this
    rcases this.2 with ((h2 | h2) | h2) | h2
    · simp [hs] at h2
    · rw [hf] at h2; cases h2
    · simp only [h2.1, Bool.true_and] at hlk; have h3' := h2.2; simp only [Bool.or_eq_false_iff] at hlk; rcases h3' with h3 | h3
      · rw [hlk.1] at h3; cases h3
      · rw [hlk.2] at h3; cases h3
    · exact h2

/-- How many have not been. -/
def unl (f : Nat → Bool) : Nat → Nat
  | 0 => 0
  | k + 1 => unl f k + (if f k then 0 else 1)
theorem unl_le (f : Nat → Bool) : ∀ n, unl f n ≤ n
  | 0 => Nat.le_refl _
  | n + 1 => by have := unl_le f n; unfold unl; split <;> omega
theorem unl_zero {f : Nat → Bool} : ∀ {n}, unl f n = 0 → ∀ i, i < n → f i = true
  | 0, _, i, h => absurd h (by omega)
  | n + 1, h, i, hi => by
    unfold unl at h
    by_cases hfn : f n = true
    · rw [if_pos hfn] at h
      by_cases hin : i = n
      · rw [hin]; exact hfn
      · exact unl_zero (n := n) (by omega) i (by omega)
    · rw [if_neg hfn] at h; omega
theorem unl_congr {f g : Nat → Bool} : ∀ {n}, (∀ i, i < n → f i = g i) → unl f n = unl g n
  | 0, _ => rfl
  | n + 1, h => by unfold unl; rw [unl_congr (n := n) fun i hi => h i (by omega), h n (by omega)]
theorem unl_set {f g : Nat → Bool} {i : Nat} (h0 : f i = false) (h1 : g i = true) (ho : ∀ j, j ≠ i → g j = f j) : ∀ {n}, i < n → unl g n + 1 = unl f n
  | 0, h => absurd h (by omega)
  | n + 1, h => by
    unfold unl
    by_cases hin : i = n
    · subst hin
      rw [unl_congr (n := i) fun j hj => ho j (by omega), h0, h1]; simp
    · have := unl_set h0 h1 ho (n := n) (by omega)
      rw [ho n (by omega)]; omega

structure Inv (l : List Oper) (v : Nat → Value) (a0 : Act) (C : Nat → World → Prop) (listed : Array Bool) (a : Act) (w : World) : Prop where
  size : listed.size = l.length
  closed : ∀ (i : Nat) (o : Oper), l[i]? = some o → listed.getD i false = true → ∀ e ∈ o.after, Region.binds .any e = true → listed.getD e.on false = true
  shape : Shape l v a0 (fun j => listed.getD j false) a
  world : ∀ i, i ≤ l.length → (∀ (j : Nat) (o : Oper), l[j]? = some o → isStore o = true → listed.getD j false = decide (j < i)) → C i w

section
variable {P : Program} {st : List Nat} {E : World → Prop} {l : List Oper} {A : Nat → Act} {C D : Nat → World → Prop} {v : Nat → Value} {cl : Nat → Nat → Bool} {listed : Array Bool} {a : Act} {w : World}
theorem Inv.down (ok : Ok st l cl) (h : Inv l v (A 0) C listed a w) : ∀ (n i j : Nat), i < n → (∃ o, l[i]? = some o) → (∃ o, l[j]? = some o) → cl i j = true → listed.getD i false = true → listed.getD j false = true
  | 0, _, _, hi, _, _, _, _ => absurd hi (by omega)
  | n + 1, i, j, hi, ⟨o, ho⟩, ⟨oj, hj⟩, hc, hl => by
    obtain ⟨e, he, hb, h'⟩ := ok.cert i j o oj ho hj hc
    have h1 := h.closed i o ho hl e he hb
    rcases h' with rfl | h'
    · exact h1
    · have hd := ok.down i o ho e he hb
      have hlt : i < l.length := (List.getElem?_eq_some_iff.1 ho).1
      exact Inv.down ok h n e.on j (by omega) ⟨_, List.getElem?_eq_getElem (show e.on < l.length by omega)⟩ ⟨oj, hj⟩ h' h1
/-- What stands between stores is one class. -/
theorem Run.between (hr : Run P (fun i => st.contains i) E l A C D v) {i : Nat} : ∀ (d k : Nat), k = i + d → k ≤ l.length → (∀ (j : Nat) (o : Oper), l[j]? = some o → isStore o = true → i ≤ j → j < k → False) → C k = C i
  | 0, k, hk, _, _ => by rw [hk]; rfl
  | d + 1, k, hk, hl, hn => by
    have ih := Run.between hr d (k - 1) (by omega) (by omega) (fun j o hj hs h1 h2 => hn j o hj hs h1 (by omega))
    have ho : l[k - 1]? = some (l[k - 1]'(by omega)) := List.getElem?_eq_getElem (by omega)
    have hs : isStore (l[k - 1]'(by omega)) = false := by
      cases h : isStore (l[k - 1]'(by omega))
      · rfl
      · exact (hn _ _ ho h (by omega) (by omega)).elim
    have e : k - 1 + 1 = k := by omega
    cases hf : isFree (l[k - 1]'(by omega))
    · cases hl : isLook (l[k - 1]'(by omega))
      · have := (hr.read _ _ ho hs hf hl).1; rw [e] at this; rw [this, ih]
      · have := (hr.look _ _ ho hs hf hl).1; rw [e] at this; rw [this, ih]
    · have := (hr.free _ _ ho hs hf).1; rw [e] at this; rw [this, ih]
theorem Run.one (hr : Run P (fun i => st.contains i) E l A C D v) {f : Nat → Bool} {i k : Nat} (hi : i ≤ l.length) (hk : k ≤ l.length) (h1 : ∀ (j : Nat) (o : Oper), l[j]? = some o → isStore o = true → f j = decide (j < i)) (h2 : ∀ (j : Nat) (o : Oper), l[j]? = some o → isStore o = true → f j = decide (j < k)) : C k = C i := by
  rcases Nat.le_total i k with h | h
  · exact hr.between (k - i) k (by omega) hk fun j o hj hs ha hb => by
      have e1 := h1 j o hj hs; have e2 := h2 j o hj hs
      rw [e1] at e2; simp at e2; omega
  · exact (hr.between (i - k) i (by omega) hi fun j o hj hs ha hb => by
      have e1 := h1 j o hj hs; have e2 := h2 j o hj hs
      rw [e1] at e2; simp at e2; omega).symm

theorem Run.steady (hr : Run P (fun i => st.contains i) E l A C D v) {i : Nat} : ∀ (d k : Nat), k = i + d → k ≤ l.length → (∀ (j : Nat) (o : Oper), l[j]? = some o → isHard o = true → i ≤ j → j < k → False) → D k = D i
  | 0, k, hk, _, _ => by rw [hk]; rfl
  | d + 1, k, hk, hl, hn => by
    have ih := Run.steady hr d (k - 1) (by omega) (by omega) (fun j o hj hs h1 h2 => hn j o hj hs h1 (by omega))
    have ho : l[k - 1]? = some (l[k - 1]'(by omega)) := List.getElem?_eq_getElem (by omega)
    have hs : isHard (l[k - 1]'(by omega)) = false := by
      cases h : isHard (l[k - 1]'(by omega))
      · rfl
      · exact (hn _ _ ho h (by omega) (by omega)).elim
    have e : k - 1 + 1 = k := by omega
    have := hr.soft _ _ ho hs; rw [e] at this; rw [this, ih]
/-- Of the acts the first so many have been. -/
theorem Inv.where_ (ok : Ok st l cl) (h : Inv l v (A 0) C listed a w) : ∃ k, k ≤ l.length ∧ ∀ (j : Nat) (o : Oper), l[j]? = some o → isStore o = true → listed.getD j false = decide (j < k) := by
  have key : ∀ n, n ≤ l.length → (∀ (j : Nat) (o : Oper), l[j]? = some o → isStore o = true → j < n → listed.getD j false = true) ∨ ∃ k, k < n ∧ ∃ o, l[k]? = some o ∧ isStore o = true ∧ listed.getD k false = false ∧ ∀ (j : Nat) (o : Oper), l[j]? = some o → isStore o = true → j < k → listed.getD j false = true := by
    intro n
    induction n with
    | zero => intro _; exact .inl fun j o _ _ hj => absurd hj (by omega)
    | succ n ih =>
      intro hn
      rcases ih (by omega) with h1 | ⟨k, hk, h1⟩
      · have ho : l[n]? = some (l[n]'(by omega)) := List.getElem?_eq_getElem (by omega)
        by_cases hs : isStore (l[n]'(by omega)) = true
        · cases hl : listed.getD n false
          · exact .inr ⟨n, by omega, _, ho, hs, hl, h1⟩
          · refine .inl fun j o hj hso hjn => ?_
            by_cases e : j = n
            · subst e; exact hl
            · exact h1 j o hj hso (by omega)
        · refine .inl fun j o hj hso hjn => ?_
          by_cases e : j = n
          · subst e; rw [ho] at hj; injection hj with hj; subst hj; exact absurd hso hs
          · exact h1 j o hj hso (by omega)
      · exact .inr ⟨k, by omega, h1⟩
  rcases key l.length (Nat.le_refl _) with h1 | ⟨k, hk, o, ho, hs, hl, h1⟩
  · refine ⟨l.length, Nat.le_refl _, fun j o hj hso => ?_⟩
    have := (List.getElem?_eq_some_iff.1 hj).1
    rw [h1 j o hj hso this]; simp [this]
  · refine ⟨k, by omega, fun j oj hj hsj => ?_⟩
    by_cases hjk : j < k
    · rw [h1 j oj hj hsj hjk]; simp [hjk]
    · by_cases e : j = k
      · subst e; rw [hl]; simp
      · have hf : isFree o = false := store_free hs
        have hlk : isLook o = false := store_look hs
        have hc := ok.store k j o oj ho hj (fun e' => e e'.symm) hsj hf (by simp [hlk])
        rw [if_neg (by omega)] at hc
        cases hlj : listed.getD j false
        · simp [hjk]
        · have := h.down ok l.length j k (List.getElem?_eq_some_iff.1 hj).1 ⟨oj, hj⟩ ⟨o, ho⟩ hc hlj
          rw [hl] at this; cases this
theorem Inv.step (hr : Run P (fun i => st.contains i) E l A C D v) (ok : Ok st l cl) (h : Inv l v (A 0) C listed a w) {Q : Exit → Act → World → Prop} {i : Nat} (hi : i ∈ Region.ready .any l.toArray listed) :
    wpOp P l.toArray Q i (fun a' w' => Inv l v (A 0) C (listed.setIfInBounds i true) a' w') a w := by
  obtain ⟨hun, o, ho', hdeps⟩ := mem_ready.1 hi
  have ho : l[i]? = some o := by simpa using ho'
  have hil : i < l.length := (List.getElem?_eq_some_iff.1 ho).1
  have his : i < listed.size := by rw [h.size]; exact hil
  have hun' : listed.getD i false = false := by simp [his] at hun ⊢; exact hun
  -- who is waited for has been; who waits has not
  have before : ∀ j oj, l[j]? = some oj → cl i j = true → listed.getD j false = true := fun j oj hj hc => by
    obtain ⟨e, he, hb, h'⟩ := ok.cert i j o oj ho hj hc
    have h1 := hdeps e he hb
    rcases h' with rfl | h'
    · exact h1
    · have hd := ok.down i o ho e he hb
      exact h.down ok l.length e.on j (by omega) ⟨_, List.getElem?_eq_getElem (show e.on < l.length by omega)⟩ ⟨oj, hj⟩ h' h1
  have behind : ∀ j oj, l[j]? = some oj → cl j i = true → listed.getD j false = false := fun j oj hj hc => by
    cases hl : listed.getD j false
    · rfl
    · have hjl : j < l.length := (List.getElem?_eq_some_iff.1 hj).1
      have := h.down ok l.length j i hjl ⟨oj, hj⟩ ⟨o, ho⟩ hc hl
      rw [hun'] at this; cases this
  have exec : execOp a.eval o = execOp (A i).eval o := execOp_congr o (fun cs b => Region.noSelect_spec ok.sel i o cs b ho') fun x hx => by
    cases x with
    | tmp t =>
      have ht : t ∈ o.looksAt l.toArray := List.mem_append_left _ (List.mem_filterMap.2 ⟨.tmp t, by simpa using hx, rfl⟩)
      have e := h.shape.same (hr.shape ok.dist i (by omega)) (t := t) fun j oj hj hd => by
        by_cases hji : j = i
        · subst hji; rw [hun']; simp
        · have hc := ok.looks i j o oj t ho hj (fun e => hji e.symm) hd ht
          by_cases hlt : j < i
          · rw [if_pos hlt] at hc; rw [before j oj hj hc]; simp [hlt]
          · rw [if_neg hlt] at hc; rw [behind j oj hj hc]; simp [hlt]
      simp only [Act.eval, Array.getD_eq_getD_getElem?, e]
    | const => rfl
    | global => rfl
    | func => rfl
  have hg := ok.guard i o ho
  have getset : ∀ j, (listed.setIfInBounds i true).getD j false = (listed.getD j false || j == i) := fun j => by
    by_cases hji : j = i
    · subst hji; simp [his]
    · rw [getD_set_ne false (fun e => hji e.symm)]; simp [hji]
  -- what is left of the invariant, whatever comes of the world
  have next : ∀ w', (∀ k, k ≤ l.length → (∀ (j : Nat) (oj : Oper), l[j]? = some oj → isStore oj = true → (listed.getD j false || j == i) = decide (j < k)) → C k w') → Inv l v (A 0) C (listed.setIfInBounds i true) (a.put o.dst (v i)) w' := fun w' hw => by
    refine ⟨by simp [h.size], fun j oj hj hl e he hb => ?_, (h.shape.put ok.dist ho).congr fun j oj hj => (getset j).symm, fun k hk hst => hw k hk fun j oj hj hs => by rw [← getset j]; exact hst j oj hj hs⟩
    rw [getset] at hl ⊢
    simp only [Bool.or_eq_true, beq_iff_eq] at hl ⊢
    rcases hl with hl | rfl
    · exact .inl (h.closed j oj hj hl e he hb)
    · rw [ho] at hj; injection hj with hj; subst hj; exact .inl (hdeps e he hb)
  unfold wpOp
  simp only [ho', Region.wanted, hg, if_true]
  refine .inl ?_
  cases hs : isStore o
  · cases hf : isFree o
    · cases hl : isLook o
      · -- a call
        have here : ∀ (j : Nat) (oj : Oper), l[j]? = some oj → isStore oj = true → listed.getD j false = decide (j < i) := fun j oj hj hsj => by
          have hji : j ≠ i := fun e => by subst e; rw [ho] at hj; injection hj with hj; subst hj; rw [hs] at hsj; cases hsj
          have hc := ok.store i j o oj ho hj (fun e => hji e.symm) hsj hf (by simp [hl])
          by_cases hlt : j < i
          · rw [if_pos hlt] at hc; rw [before j oj hj hc]; simp [hlt]
          · rw [if_neg hlt] at hc; rw [behind j oj hj hc]; simp [hlt]
        have hw := h.world i (by omega) here
        refine (((hr.read i o ho hs hf hl).2 w hw).congr exec).wp fun w' hw' => next w' fun k hk hst => ?_
        have hst' : ∀ (j : Nat) (oj : Oper), l[j]? = some oj → isStore oj = true → listed.getD j false = decide (j < k) := fun j oj hj hsj => by
          have hji : j ≠ i := fun e => by subst e; rw [ho] at hj; injection hj with hj; subst hj; rw [hs] at hsj; cases hsj
          have := hst j oj hj hsj; rw [show (j == i) = false from by simpa using hji, Bool.or_false] at this; exact this
        rw [hr.one (f := fun j => listed.getD j false) (by omega) hk here hst']; exact hw'
      · -- a look
        obtain ⟨k0, hk0, hat⟩ := h.where_ ok
        have hD : if st.contains i then E w else D i w := by
          have h00 := hr.held k0 hk0 w (h.world k0 hk0 hat)
          by_cases hst0 : st.contains i = true
          · rw [if_pos hst0]; exact h00.2
          rw [if_neg hst0]
          have h0 := h00.1
          have hst0 : st.contains i = false := by simpa using hst0
          have hard : ∀ (j : Nat) (oj : Oper), l[j]? = some oj → isHard oj = true → listed.getD j false = decide (j < i) ∧ j ≠ i := fun j oj hj hhj => by
            have hsj : isStore oj = true := by simp [isStore, hhj]
            have hji : j ≠ i := fun e => by subst e; rw [ho] at hj; injection hj with hj; subst hj; rw [hs] at hsj; cases hsj
            have hc := ok.store i j o oj ho hj (fun e => hji e.symm) hsj hf (by rw [hhj, hst0]; simp)
            by_cases hlt : j < i
            · rw [if_pos hlt] at hc; rw [before j oj hj hc]; simp [hlt, hji]
            · rw [if_neg hlt] at hc; rw [behind j oj hj hc]; simp [hlt, hji]
          have none : ∀ (j : Nat) (oj : Oper), l[j]? = some oj → isHard oj = true → decide (j < k0) = decide (j < i) := fun j oj hj hhj => by
            rw [← hat j oj hj (by simp [isStore, hhj])]; exact (hard j oj hj hhj).1
          rcases Nat.le_total i k0 with hle | hle
          · rw [hr.steady (i := i) (k0 - i) k0 (by omega) hk0 fun j oj hj hh h1 h2 => by
              have := none j oj hj hh; simp [h2] at this; omega] at h0
            exact h0
          · rw [← hr.steady (i := k0) (i - k0) i (by omega) (by omega) fun j oj hj hh h1 h2 => by
              have := none j oj hj hh; simp [h2] at this; omega] at h0
            exact h0
        refine (((hr.look i o ho hs hf hl).2 w hD).congr exec).wp fun w' hw' => next w' fun k hk hst => ?_
        subst hw'
        refine h.world k hk fun j oj hj hsj => ?_
        have hji : j ≠ i := fun e => by subst e; rw [ho] at hj; injection hj with hj; subst hj; rw [hs] at hsj; cases hsj
        have := hst j oj hj hsj; rw [show (j == i) = false from by simpa using hji, Bool.or_false] at this; exact this
    · -- nothing of the world
      refine (((hr.free i o ho hs hf).2 w).congr exec).wp fun w' hw' => next w' fun k hk hst => ?_
      subst hw'
      refine h.world k hk fun j oj hj hsj => ?_
      have hji : j ≠ i := fun e => by subst e; rw [ho] at hj; injection hj with hj; subst hj; rw [hs] at hsj; cases hsj
      have := hst j oj hj hsj; rw [show (j == i) = false from by simpa using hji, Bool.or_false] at this; exact this
  · -- a store
    have hf : isFree o = false := store_free hs
    have hlk : isLook o = false := store_look hs
    have here : ∀ (j : Nat) (oj : Oper), l[j]? = some oj → isStore oj = true → listed.getD j false = decide (j < i) := fun j oj hj hsj => by
      by_cases hji : j = i
      · subst hji; rw [hun']; simp
      · have hc := ok.store i j o oj ho hj (fun e => hji e.symm) hsj hf (by simp [hlk])
        by_cases hlt : j < i
        · rw [if_pos hlt] at hc; rw [before j oj hj hc]; simp [hlt]
        · rw [if_neg hlt] at hc; rw [behind j oj hj hc]; simp [hlt]
    have hw := h.world i (by omega) here
    have hgv := hr.store i o ho hs w hw
    refine (hgv.congr exec).wp fun w' hw' => next w' fun k hk hst => ?_
    have h1 : ∀ (j : Nat) (oj : Oper), l[j]? = some oj → isStore oj = true → (listed.getD j false || j == i) = decide (j < i + 1) := fun j oj hj hsj => by
      rw [here j oj hj hsj, Bool.eq_iff_iff]; simp; omega
    rw [hr.one (f := fun j => listed.getD j false || j == i) (by omega) hk h1 hst]; exact hw'

theorem Inv.all_ (hr : Run P (fun i => st.contains i) E l A C D v) (ok : Ok st l cl) {Q : Exit → Act → World → Prop} (hQ : ∀ w, C l.length w → Q .normal (A l.length) w) : ∀ (n : Nat) (listed : Array Bool) (a : Act) (w : World), Inv l v (A 0) C listed a w → unl (fun i => listed.getD i false) l.length ≤ n →
    wpAny P .any l.toArray Q n listed a w := by
  have last : ∀ (listed : Array Bool) (a : Act) (w : World), Inv l v (A 0) C listed a w → (∀ i, i < l.length → listed.getD i false = true) → Q .normal a w := fun listed a w h hall => by
    have e : a = A l.length := h.shape.ext (hr.shape ok.dist l.length (Nat.le_refl _)) fun j o hj => by
      have hjl : j < l.length := (List.getElem?_eq_some_iff.1 hj).1
      rw [hall j hjl]; simp [hjl]
    rw [e]
    exact hQ w (h.world l.length (Nat.le_refl _) fun j o hj _ => by
      have hjl : j < l.length := (List.getElem?_eq_some_iff.1 hj).1
      rw [hall j hjl]; simp [hjl])
  intro n
  induction n with
  | zero =>
    intro listed a w h hn
    have hall := unl_zero (f := fun i => listed.getD i false) (n := l.length) (by omega)
    refine ⟨?_, last listed a w h hall⟩
    cases hr' : Region.ready .any l.toArray listed with
    | nil => rfl
    | cons i is =>
      have hi : i ∈ Region.ready .any l.toArray listed := by rw [hr']; simp
      obtain ⟨hun, o, ho', _⟩ := mem_ready.1 hi
      have hil : i < l.length := by have := (Array.getElem?_eq_some_iff.1 ho').1; simpa using this
      have := hall i hil
      have his : i < listed.size := by rw [h.size]; exact hil
      simp [his] at hun this
      rw [this] at hun; cases hun
  | succ n ih =>
    intro listed a w h hn
    refine ⟨fun hr' => last listed a w h fun i hi => ?_, fun i hi => ?_⟩
    · induction i using Nat.strongRecOn with
      | _ i ihi =>
        cases hu : listed.getD i false
        · have ho : l[i]? = some (l[i]'hi) := List.getElem?_eq_getElem hi
          have : i ∈ Region.ready .any l.toArray listed := mem_ready.2 ⟨by
            have his : i < listed.size := by rw [h.size]; exact hi
            simp [his] at hu ⊢; exact hu, _, (by rw [List.getElem?_toArray]; exact ho), fun e he hb => by
            have hd := ok.down i _ ho e he hb
            exact ihi e.on hd (by omega)⟩
          rw [hr'] at this; cases this
        · rfl
    · refine wpOp_mono (fun a' w' h' => ih _ a' w' h' ?_) (h.step hr ok hi)
      obtain ⟨hun, o, ho', _⟩ := mem_ready.1 hi
      have hil : i < l.length := by have := (Array.getElem?_eq_some_iff.1 ho').1; simpa using this
      have his : i < listed.size := by rw [h.size]; exact hil
      have := unl_set (f := fun i => listed.getD i false) (g := fun j => (listed.setIfInBounds i true).getD j false) (i := i) (by simp [his] at hun ⊢; exact hun) (by simp [his]) (fun j hj => getD_set_ne false (fun e => hj e.symm)) hil
      omega

/-- **One walk serves every order.** -/
theorem any_of_lex {Q : Exit → Act → World → Prop} (hB : okB st l = true) (C0 D0 : World → Prop) (hC : C0 w.drew) (hCD : ∀ w, C0 w → D0 w ∧ E w)
    (h : wpLex P st E (fun a' C' => ∀ w', C' w' → Q .normal a' w') l 0 a C0 D0) : wpAny P .any l.toArray Q l.toArray.size (Array.replicate l.toArray.size false) a w.drew := by
  obtain ⟨A, Cs, Ds, v, hr, hA, hC0, hD0, hQ⟩ := run_of_lex l 0 a C0 D0 hCD h
  simp only [Nat.zero_add] at hr
  have ok := Ok.of st l hB
  have hinv : Inv l v (A 0) Cs (Array.replicate l.toArray.size false) a w.drew := by
    have hg : ∀ i, (Array.replicate l.length false).getD i false = false := fun i => by
      by_cases hi : i < l.length <;> simp [hi]
    refine ⟨by simp, fun i o ho hl => ?_, ?_, fun i hi hst => ?_⟩
    · simp only [List.size_toArray] at hl; rw [hg i] at hl; cases hl
    · rw [hA]; exact Shape.start.congr fun j o _ => by simp only [List.size_toArray]; rw [hg j]
    · have e : Cs i = Cs 0 := hr.between i i (by omega) hi fun j o hj hs h0 hlt => by
        have := hst j o hj hs
        simp only [List.size_toArray] at this
        rw [hg j] at this; simp at this; omega
      rw [e, hC0]; exact hC
  have := Inv.all_ hr ok (Q := Q) hQ l.toArray.size _ _ _ hinv (by have := unl_le (fun i => (Array.replicate l.toArray.size false).getD i false) l.length; simpa using this)
  exact this
end
theorem wp_region_lex {P : Program} {l : List Oper} {a : Act} {w : World} {id : Nat} {Q : Exit → Act → World → Prop} (hm : P.follows .mixedOrders = true) (st : List Nat) (hB : okB st l = true) (C0 D0 E : World → Prop) (hC : C0 w.drew) (hCD : ∀ w, C0 w → D0 w ∧ E w)
    (h : wpLex P st E (fun a' C' => ∀ w', C' w' → Q .normal a' w') l 0 a C0 D0) : (Code.region id l.toArray true).wp P Q a w :=
  wp_region_any hm (any_of_lex hB C0 D0 hC hCD h)

section
variable {P : Program} {st : List Nat} {E : World → Prop} {Q : Act → (World → Prop) → Prop} {o : Oper} {rest : List Oper} {n : Nat} {a : Act} {C D : World → Prop} {W : World}
theorem lex_free (hs : isStore o = false) (hf : isFree o = true) {v : Value} (hrun : ∀ w, (execOp a.eval o).run P w = .ok (.value v) w) (h : wpLex P st E Q rest (n + 1) (a.put o.dst v) C D) : wpLex P st E Q (o :: rest) n a C D := by
  unfold wpLex
  rw [if_neg (by simp [hs]), if_pos hf]
  exact ⟨v, fun w => by unfold Gives; rw [hrun w]; exact ⟨rfl, rfl⟩, h⟩
theorem lex_look (hs : isStore o = false) (hf : isFree o = false) (hl : isLook o = true) (hst : st.contains n = false) {v : Value} (hrun : ∀ w, D w → (execOp a.eval o).run P w = .ok (.value v) w) (h : wpLex P st E Q rest (n + 1) (a.put o.dst v) C D) : wpLex P st E Q (o :: rest) n a C D := by
  unfold wpLex
  rw [if_neg (by simp [hs]), if_neg (by simp [hf]), if_pos hl]
  exact ⟨v, fun w hw => by rw [if_neg (by rw [hst]; simp)] at hw; unfold Gives; rw [hrun w hw]; exact ⟨rfl, rfl⟩, h⟩
theorem lex_steady (hs : isStore o = false) (hf : isFree o = false) (hl : isLook o = true) (hst : st.contains n = true) {v : Value} (hrun : ∀ w, E w → (execOp a.eval o).run P w = .ok (.value v) w) (h : wpLex P st E Q rest (n + 1) (a.put o.dst v) C D) : wpLex P st E Q (o :: rest) n a C D := by
  unfold wpLex
  rw [if_neg (by simp [hs]), if_neg (by simp [hf]), if_pos hl]
  exact ⟨v, fun w hw => by rw [if_pos hst] at hw; unfold Gives; rw [hrun w hw]; exact ⟨rfl, rfl⟩, h⟩
/-- A function is called: it may leave another class. -/
theorem lex_call (hs : isStore o = true) {C' : World → Prop} {v : Value} {f : FuncId} {args : Array Value} (hrun : ∀ w, C w → (execOp a.eval o).run P w = .ok (.enter f args) w) (hc : ∀ w, C w → Calls P f args w fun e w' => e = .returned v ∧ C' w') (hD : ∀ w, C' w → D w ∧ E w) (h : wpLex P st E Q rest (n + 1) (a.put o.dst v) C' D) : wpLex P st E Q (o :: rest) n a C D := by
  unfold wpLex
  rw [if_pos hs]
  exact ⟨v, C', D, fun w hw => by unfold Gives; rw [hrun w hw]; exact hc w hw, fun _ => rfl, hD, h⟩
theorem lex_store (hs : isStore o = true) (hh : isHard o = true) {C' D' : World → Prop} (hrun : ∀ w, C w → ∃ W', (execOp a.eval o).run P w = .ok .skip W' ∧ C' W') (hD : ∀ w, C' w → D' w ∧ E w) (h : wpLex P st E Q rest (n + 1) (a.put o.dst undef) C' D') : wpLex P st E Q (o :: rest) n a C D := by
  unfold wpLex
  rw [if_pos hs]
  exact ⟨undef, C', D', fun w hw => by obtain ⟨W', h1, h2⟩ := hrun w hw; unfold Gives; rw [h1]; exact ⟨rfl, h2⟩, fun e => by (rw [hh] at e; cases e), hD, h⟩
theorem lex_end {Q : Exit → Act → World → Prop} (h : ∀ w', C w' → Q .normal a w') : wpLex P st E (fun a' C' => ∀ w', C' w' → Q .normal a' w') [] n a C D := h
end
end Ry
namespace Sr
open Go
def H.cells (h : H) : Array Value := #[.bool h.some, .int .u16 h.last, .int .u32 (h.seen : Nat)]
end Sr
namespace Go.Proofs.Ythojjpoadabehaa
open Go.RowKit
set_option linter.unusedVariables false

/-- All that was there stays, but block B. -/
structure Only (B : Nat) (w w' : World) : Prop where
  os : w'.os = w.os
  tape : w'.tape = w.tape
  output : w'.output = w.output
  size : w.heap.size ≤ w'.heap.size
  block : ∀ k, k < w.heap.size → k ≠ B → w'.heap[k]? = w.heap[k]?
section
variable {B : Nat} {w w' w'' : World}
theorem Only.refl (B : Nat) (w : World) : Only B w w := ⟨rfl, rfl, rfl, Nat.le_refl _, fun _ _ _ => rfl⟩
theorem Only.trans (h : Only B w w') (h' : Only B w' w'') : Only B w w'' :=
  ⟨h'.os.trans h.os, h'.tape.trans h.tape, h'.output.trans h.output, Nat.le_trans h.size h'.size, fun k hk hB => (h'.block k (Nat.lt_of_lt_of_le hk h.size) hB).trans (h.block k hk hB)⟩
theorem Only.of_below (h : Below w.heap.size w w') : Only B w w' := ⟨h.os, h.tape, h.output, h.size, fun k hk _ => h.block k hk⟩
theorem Only.set (w : World) (i : Nat) (u : Value) : Only B w (w.setCell ⟨B, i, none⟩ u) := by
  have h := (Below.refl B w).setCell (p := ⟨B, i, none⟩) (Nat.le_refl _) u
  exact ⟨h.os, h.tape, h.output, h.size, fun k hk hB => Below.heap_setCell w _ u k hB⟩
theorem Only.below {n : Nat} (h : Only B w w') (hn : n ≤ B) (hs : n ≤ w.heap.size) : Below n w w' := ⟨h.os, h.tape, h.output, h.size, fun k hk => h.block k (by omega) (by omega)⟩
theorem Only.box {g : Nat} {t : TypeId} {cs : Array Value} (h : Only B w w') (hb : Box w g t cs) (hg : g ≠ B) : Box w' g t cs := ⟨(h.block g hb.lt hg).trans hb.is⟩
end

theorem shift_up (n : Nat) (d : Int) (hd : 0 < d) : Op.shift .shl .u32 (n : Int) .i64 d = pure (.int .u32 ((n * 2 ^ d.toNat % 4294967296 : Nat) : Int)) := by
  unfold Op.shift
  rw [if_neg (by omega)]
  simp only [IntKind.bits]
  refine congrArg (fun z => pure (Value.int .u32 z)) ?_
  rw [IntKind.wrap_u32']
  by_cases h : d.toNat ≤ 32
  · rw [show min d.toNat 32 = d.toNat by omega, Int.natCast_emod, Int.natCast_mul, Int.natCast_pow]; rfl
  · have h1 : n * 2 ^ d.toNat % 4294967296 = 0 := by
      rw [show d.toNat = (d.toNat - 32) + 32 by omega, Nat.pow_add, ← Nat.mul_assoc]
      exact Nat.mul_mod_left _ _
    have h2 : (n : Int) * 2 ^ 32 % 4294967296 = 0 := Int.mul_emod_left _ _
    rw [show min d.toNat 32 = 32 by omega, h1, h2]; rfl

set_option maxHeartbeats 400000 in
theorem sertold_any (s a : Int) (n : Nat) (hn : n < 4294967296) (w : World) :
    Calls Try.prog 24 #[.int .u16 s, .int .u16 a, .int .u32 n] w fun e w' => e = .returned (.bool (Sr.told s a n)) ∧ Below w.heap.size w w' := by
  have c1 := fun X => Lib.hid (serbits_any a X)
  have c2 := Lib.hid (serbit_any a s w.heap.size (w.alloc (.cells #[.int .u16 a] 28)) (heap_alloc_new w _))
  have hand := u32_and_nat n (Sr.bitN (Sr.way s a)) hn (Sr.bitN_lt _)
  have hs := Lib.hid (Sr.has_and n (Sr.way s a))
  have hb := Lib.hid (one_below w (.cells #[.int .u16 a] 28))
  unfold Sr.told
  generalize Sr.has n (Sr.way s a) = T at *
  generalize hX : n &&& Sr.bitN (Sr.way s a) = X at *
  clear hX
  generalize Sr.bitN (Sr.way s a) = Z at *
  by_cases h : s = a
  · rw [decide_eq_true h]
    have hbq : (s == a) = true := by simpa using h
    clear h
    go_enter Try.func24, Try.ntmps24
    go_wp2_with (first | (go_at_call 30; ((with_reducible refine ((c1 _).out).mono ?_); rintro e w1 ⟨rfl, rfl⟩)) | (go_at_call 34; ((with_reducible refine ((c2).out).mono ?_); rintro e w1 ⟨rfl, rfl⟩)))
    all_goals
      go_ret
      exact ⟨ret_bool (by simp), Below.refl _ _⟩
  · rw [decide_eq_false h, Bool.false_or]
    have hbq : (s == a) = false := by simpa using h
    clear h
    go_enter Try.func24, Try.ntmps24
    go_wp2_with (first | (go_at_call 30; ((with_reducible refine ((c1 _).out).mono ?_); rintro e w1 ⟨rfl, rfl⟩)) | (go_at_call 34; ((with_reducible refine ((c2).out).mono ?_); rintro e w1 ⟨rfl, rfl⟩)))
    all_goals
      go_ret
      exact ⟨ret_bool (by rw [← hs.out, Bool.eq_iff_iff]; simp), hb.out⟩

set_option maxHeartbeats 400000 in
theorem sernew_any (w : World) :
    Calls Try.prog 18 #[] w fun e w' => e = .returned (.pointer (some ⟨w.heap.size, 0, none⟩)) ∧ w' = w.alloc (.cells Sr.none.cells 62) := by
  go_enter Try.func18, Try.ntmps18
  go_wp2
  go_ret
  exact ⟨rfl, rfl⟩

set_option maxHeartbeats 400000 in
theorem serlast_any (h : Sr.H) (B : Nat) (w : World) (hB : Box w B 62 h.cells) :
    Calls Try.prog 20 #[.pointer (some ⟨B, 0, none⟩)] w fun e w' => e = .returned (.tuple #[.int .u16 h.last, .int .u32 (h.seen : Nat)]) ∧ Below w.heap.size w w' := by
  have q1 : w.cell? ⟨B, 1, none⟩ = some (.int .u16 h.last) := hB.cell 1
  have q2 : w.cell? ⟨B, 2, none⟩ = some (.int .u32 (h.seen : Nat)) := hB.cell 2
  obtain ⟨so, la, se⟩ := h
  dsimp only at q1 q2 ⊢
  go_enter Try.func20, Try.ntmps20
  go_upto_region 3 with fail
  go_quiet (fail)
  all_goals
    go_wp2
    go_ret2
    exact ⟨rfl, draws_below (Below.refl _ _) _⟩
end Go.Proofs.Ythojjpoadabehaa
namespace Sr
open Go
set_option linter.unusedVariables false
/-- Did the one i behind come? -/
def came (h : H) (i : Nat) : Bool := if i = 0 then h.some else h.seen.testBit (i - 1)
def row33 (f : Nat → Bool) : List Value := [.bool (f 0), .bool (f 1), .bool (f 2), .bool (f 3), .bool (f 4), .bool (f 5), .bool (f 6), .bool (f 7), .bool (f 8), .bool (f 9), .bool (f 10), .bool (f 11), .bool (f 12), .bool (f 13), .bool (f 14), .bool (f 15), .bool (f 16), .bool (f 17), .bool (f 18), .bool (f 19), .bool (f 20), .bool (f 21), .bool (f 22), .bool (f 23), .bool (f 24), .bool (f 25), .bool (f 26), .bool (f 27), .bool (f 28), .bool (f 29), .bool (f 30), .bool (f 31), .bool (f 32)]
def rc (so : Bool) (la : Int) (f : Nat → Bool) : Array Value := (.bool so :: .int .u16 la :: row33 f).toArray
theorem row33_len (f : Nat → Bool) : (row33 f).length = 33 := rfl
theorem row33_at (f : Nat → Bool) (i : Nat) (hi : i < 33) : (row33 f)[i]? = some (.bool (f i)) := by
  match i, hi with
  | 0, _ | 1, _ | 2, _ | 3, _ | 4, _ | 5, _ | 6, _ | 7, _ | 8, _ | 9, _ | 10, _ | 11, _ | 12, _ | 13, _ | 14, _ | 15, _ | 16, _ | 17, _ | 18, _ | 19, _ | 20, _ | 21, _ | 22, _ | 23, _ | 24, _ | 25, _ | 26, _ | 27, _ | 28, _ | 29, _ | 30, _ | 31, _ | 32, _ => rfl
  | n + 33, h => omega
theorem row33_set (f : Nat → Bool) (b : Bool) (i : Nat) (hi : i < 33) : (row33 f).toArray.setIfInBounds i (.bool b) = (row33 (fun j => if j = i then b else f j)).toArray := by
  match i, hi with
  | 0, _ | 1, _ | 2, _ | 3, _ | 4, _ | 5, _ | 6, _ | 7, _ | 8, _ | 9, _ | 10, _ | 11, _ | 12, _ | 13, _ | 14, _ | 15, _ | 16, _ | 17, _ | 18, _ | 19, _ | 20, _ | 21, _ | 22, _ | 23, _ | 24, _ | 25, _ | 26, _ | 27, _ | 28, _ | 29, _ | 30, _ | 31, _ | 32, _ => rfl
  | n + 33, h => omega
theorem row33_congr {f g : Nat → Bool} (h : ∀ i, i < 33 → f i = g i) : row33 f = row33 g := by
  apply List.ext_getElem?
  intro i
  by_cases hi : i < 33
  · rw [row33_at f i hi, row33_at g i hi, h i hi]
  · rw [List.getElem?_eq_none (by rw [row33_len]; omega), List.getElem?_eq_none (by rw [row33_len]; omega)]
theorem row33_one (f : Nat → Bool) : (row33 f).toArray.all (·.oneCell') = true := by
  rw [Array.all_eq_true_iff_forall_mem]
  intro v hv
  unfold row33 at hv
  simp only [List.mem_toArray, List.mem_cons, List.not_mem_nil, or_false] at hv
  rcases hv with rfl | rfl | rfl | rfl | rfl | rfl | rfl | rfl | rfl | rfl | rfl | rfl | rfl | rfl | rfl | rfl | rfl | rfl | rfl | rfl | rfl | rfl | rfl | rfl | rfl | rfl | rfl | rfl | rfl | rfl | rfl | rfl | rfl <;> rfl
/-- Further on by d. -/
theorem came_up {h : H} (hs : h.some = true) (s d : Int) (hd : 0 < d) (i : Nat) (hi : i < 33) : came ⟨true, s, up h.seen d⟩ i = (if i = 0 then true else if d.toNat ≤ i then came h (i - d.toNat) else false) := by
  unfold came
  by_cases h0 : i = 0
  · rw [if_pos h0, if_pos h0]
  · rw [if_neg h0, if_neg h0, up_test _ _ hd, decide_eq_true (show i - 1 < 32 by omega), Bool.true_and]
    by_cases h1 : d.toNat ≤ i
    · rw [if_pos h1]
      by_cases h2 : i - d.toNat = 0
      · rw [if_pos h2, decide_eq_true (by omega), hs]; rfl
      · rw [if_neg h2, decide_eq_false (by omega), Bool.false_or, decide_eq_true (by omega), Bool.true_and, show i - 1 - d.toNat = i - d.toNat - 1 by omega]
    · rw [if_neg h1, decide_eq_false (by omega), decide_eq_false (by omega)]; rfl
/-- One that comes late. -/
theorem came_late {h : H} (hs : h.some = true) (k : Int) (hk : 1 ≤ k ∧ k ≤ 32) (i : Nat) : came ⟨h.some, h.last, h.seen ||| bitN k⟩ i = (if i = k.toNat then true else came h i) := by
  unfold came
  by_cases h0 : i = 0
  · rw [if_pos h0, if_pos h0, if_neg (by omega)]
  · rw [if_neg h0, if_neg h0, Nat.testBit_or, bitN_test]
    by_cases h1 : i = k.toNat
    · rw [if_pos h1, decide_eq_true (by omega), Bool.or_true]
    · rw [if_neg h1, decide_eq_false (by omega), Bool.or_false]
theorem came_has (h : H) (k : Int) (hk : 1 ≤ k ∧ k ≤ 32) : came h k.toNat = has h.seen k := by
  unfold came has
  rw [if_neg (by omega), decide_eq_true hk, Bool.true_and, show (k - 1).toNat = k.toNat - 1 by omega]
theorem came_first (s : Int) (n : Nat) (f : H) (hf : f.seen = n) (i : Nat) (hi : i < 33) : came ⟨true, s, n⟩ i = (if i = 0 then true else came f i) := by
  unfold came
  subst hf
  by_cases h0 : i = 0
  · rw [if_pos h0, if_pos h0]
  · rw [if_neg h0, if_neg h0, if_neg h0]
end Sr
namespace Go.Proofs.Ythojjpoadabehaa
open Go.RowKit
set_option linter.unusedVariables false

theorem row33_info : (Try.prog.info? 35).map (·.size) = some 33 := by kernel_rfl
/-- A row of which the cells from o on are l. -/
def splice (cs : Array Value) (o : Nat) (l : List Value) : Array Value := (cs.toList.take o ++ l ++ cs.toList.drop (o + l.length)).toArray
theorem splice_cons (cs : Array Value) (o : Nat) (v : Value) (l : List Value) (h : o + (l.length + 1) ≤ cs.size) : splice (cs.setIfInBounds o v) (o + 1) l = splice cs o (v :: l) := by
  unfold splice
  congr 1
  rw [Array.toList_setIfInBounds, List.length_cons]
  have ho : o < cs.toList.length := by rw [Array.length_toList]; omega
  rw [List.take_set, List.drop_set, if_pos (by omega), List.append_assoc, List.append_assoc]
  rw [show o + 1 + l.length = o + (l.length + 1) by omega]
  rw [List.take_add_one, List.getElem?_eq_getElem ho, Option.toList_some, List.set_append_right _ _ (by rw [List.length_take]; omega)]
  rw [List.length_take, Nat.min_eq_left (by omega), Nat.sub_self]
  simp
theorem setCells_row (g : Nat) (t : TypeId) : ∀ (l : List Value) (o : Nat) (cs : Array Value) (w : World), w.heap[g]? = some (.cells cs t (0, 0)) → o + l.length ≤ cs.size → w.setCells g o l = w.setRow g (splice cs o l)
  | [], o, cs, w, hg, hl => by
    have e : splice cs o [] = cs := by unfold splice; simp
    rw [e]
    show w = _
    have hv : w.heap[g]'(Array.getElem?_eq_some_iff.1 hg).1 = .cells cs t (0, 0) := (Array.getElem?_eq_some_iff.1 hg).2
    unfold World.setRow
    cases w with
    | mk heap tape drawn os output =>
      congr 1
      apply Array.ext
      · simp
      · intro k h1 h2
        simp only [Array.getElem_modify]
        split
        · rename_i hk; subst hk; simp at hv; simp [hv]
        · rfl
  | v :: l, o, cs, w, hg, hl => by
    rw [List.length_cons] at hl
    rw [World.setCells, setCell_eq_setRow w g o cs t (0, 0) v hg, setCells_row g t l (o + 1) _ _ (setRow_heap w g cs _ t _ hg) (by rw [Array.size_setIfInBounds]; omega), setRow_setRow, splice_cons cs o v l hl]

theorem Box.there' {w : World} {g : Nat} {t : TypeId} {cs : Array Value} (h : Box w g t cs) (f n : Nat) (hf : f + n ≤ cs.size) : w.there g f n := fun j hj => ⟨by rw [h.cell, Array.getElem?_eq_getElem (by omega)]; rfl, h.free _⟩
theorem exec_load_33 {o : Oper} {a : Act} {w : World} {x : Operand} {B : Nat} {g : Nat → Bool} (ho : o.op = .load 35 x) (hx : a.eval x = .pointer (some ⟨B, 0, none⟩)) (hB : Box w B 35 (Sr.row33 g).toArray) :
    (execOp a.eval o).run Try.prog w = .ok (.value (.agg (Sr.row33 g).toArray)) w := by
  have hl := run_loadVar_mid (P := Try.prog) w B 0 35 (Sr.row33 g) _ (fun j v hv => (hB.cell _).trans (by simpa using hv)) Try.underlying35 rfl (by rw [row33_info]; rfl)
  unfold execOp
  simp only [ho, hx, Instr.loadAt, Instr.sureAddr, Sem.run_bind, Sem.run_pure, Result.andThen_ok, hl]
end Go.Proofs.Ythojjpoadabehaa
namespace Sr
/-- What was moved on by d, up to k. -/
def mov (f : Nat → Bool) (d k : Nat) (i : Nat) : Bool := if i < k ∧ d ≤ i then f (i - d) else false
theorem mov_next (f : Nat → Bool) (d k : Nat) (h : d ≤ k) (i : Nat) : (if i = k then f (k - d) else mov f d k i) = mov f d (k + 1) i := by
  unfold mov
  by_cases e : i = k
  · subst e; rw [if_pos rfl, if_pos ⟨by omega, h⟩]
  · rw [if_neg e]
    by_cases h1 : i < k ∧ d ≤ i
    · rw [if_pos h1, if_pos ⟨by omega, h1.2⟩]
    · rw [if_neg h1, if_neg (by omega)]
theorem mov_skip (f : Nat → Bool) (d k : Nat) (h : ¬ d ≤ k) (i : Nat) : mov f d k i = mov f d (k + 1) i := by
  unfold mov
  by_cases h1 : i < k ∧ d ≤ i
  · omega
  · rw [if_neg h1, if_neg (by omega)]
theorem mov_zero (f : Nat → Bool) (d i : Nat) : mov f d 0 i = false := by unfold mov; rw [if_neg (by omega)]
end Sr
namespace Go.Proofs.Ythojjpoadabehaa
open Go.RowKit
set_option linter.unusedVariables false

/-- What a round finds. -/
structure Mov (B C : Nat) (so : Bool) (la : Int) (f g : Nat → Bool) (w w' : World) : Prop where
  ref : Box w' B 37 (Sr.rc so la f)
  row : Box w' C 35 (Sr.row33 g).toArray
  only : Only C w w'
theorem Mov.put {B C : Nat} {so : Bool} {la : Int} {f g : Nat → Bool} {w w' : World} (h : Mov B C so la f g w w') (hne : B ≠ C) (b : Bool) (i : Nat) (hi : i < 33) : Mov B C so la f (fun j => if j = i then b else g j) w (w'.setCell ⟨C, i, none⟩ (.bool b)) :=
  ⟨h.ref.far hne _, Sr.row33_set g b i hi ▸ h.row.put i _, h.only.trans (Only.set _ i _)⟩

theorem Only.fresh {B : Nat} {w w1 : World} {v : Value} {i : Nat} (h : Only w.heap.size w w1) : ∀ (_ : Unit), Only B w (w1.drew.setCell ⟨B, i, none⟩ v) := fun _ => by
  have h1 : Only B w w1.drew := ⟨h.os, h.tape, h.output, h.size, fun k hk _ => h.block k hk (by omega)⟩
  exact h1.trans (Only.set _ i v)
theorem Only.row {B : Nat} {w w1 : World} (h : Only B w w1) (cs : Array Value) : Only B w (w1.setRow B cs) :=
  have b : Below B w1 (w1.setRow B cs) := Below.setRow' (Below.refl B w1) (Nat.le_refl B) cs
  ⟨b.os.trans h.os, b.tape.trans h.tape, b.output.trans h.output, Nat.le_trans h.size b.size, fun k hk hB => (setRow_other w1 B k cs hB).trans (h.block k hk hB)⟩

end Go.Proofs.Ythojjpoadabehaa
namespace Sr
theorem bitN_none {k : Int} (h : ¬ (1 ≤ k ∧ k ≤ 32)) : bitN k = 0 := by
  unfold bitN
  split
  · rfl
  · split
    · omega
    · rfl
theorem bitN_some {k : Int} (h : 1 ≤ k ∧ k ≤ 32) : bitN k ≠ 0 := by
  unfold bitN
  rw [if_neg (by omega), if_pos h.2]
  exact Nat.pos_iff_ne_zero.1 (Nat.pow_pos (by decide))
theorem low_next (n j : Nat) : n % 2 ^ (j + 1) = if n.testBit j = true then n % 2 ^ j ||| 2 ^ j else n % 2 ^ j := by
  apply Nat.eq_of_testBit_eq
  intro i
  by_cases h : n.testBit j = true
  · rw [if_pos h, Nat.testBit_or, Nat.testBit_mod_two_pow, Nat.testBit_mod_two_pow, Nat.testBit_two_pow]
    by_cases e : i = j
    · subst e; simp [h]
    · have e' : ¬ j = i := fun x => e x.symm
      rw [decide_eq_false e', Bool.or_false]
      congr 1
      rw [Bool.eq_iff_iff, decide_eq_true_iff, decide_eq_true_iff]; omega
  · rw [if_neg h, Nat.testBit_mod_two_pow, Nat.testBit_mod_two_pow]
    by_cases e : i = j
    · subst e; simp [h]
    · congr 1
      rw [Bool.eq_iff_iff, decide_eq_true_iff, decide_eq_true_iff]; omega
end Sr
namespace Go.Proofs.Ythojjpoadabehaa
open Go.RowKit
set_option linter.unusedVariables false

theorem shift_one (j : Nat) (hj : j < 32) : Op.shift .shl .u32 1 .u64 (j : Int) = pure (.int .u32 ((2 ^ j : Nat) : Int)) := by
  unfold Op.shift
  rw [if_neg (by omega)]
  simp only [IntKind.bits]
  refine congrArg (fun z => pure (Value.int .u32 z)) ?_
  rw [IntKind.wrap_u32', Int.one_mul, show min (j : Int).toNat 32 = j by omega]
  have h1 : (2 : Nat) ^ j < 2 ^ 32 := Nat.pow_lt_pow_of_lt (by decide) hj
  have h2 : ((2 : Int) ^ j) = ((2 ^ j : Nat) : Int) := by push_cast; rfl
  rw [h2]
  generalize 2 ^ j = x at *
  omega

theorem pow_lt32 (j : Nat) (hj : j < 32) : (2 : Int) ^ j % 4294967296 = ((2 ^ j : Nat) : Int) := by
  have h1 : (2 : Nat) ^ j < 2 ^ 32 := Nat.pow_lt_pow_of_lt (by decide) hj
  have h2 : ((2 : Int) ^ j) = ((2 ^ j : Nat) : Int) := by push_cast; rfl
  rw [h2]
  generalize 2 ^ j = x at *
  omega
end Go.Proofs.Ythojjpoadabehaa
namespace Sr
open Go
set_option linter.unusedVariables false
/-- What a link holds beside what was heard. -/
structure Lx where
  ser : Int
  at_ : Int
  op : Value
def lc (x : Lx) (so : Bool) (la : Int) (f : Nat → Bool) : Array Value := (.int .u16 x.ser :: .bool so :: .int .u16 la :: (row33 f ++ [.int .i64 x.at_, x.op])).toArray
def H.lcells (x : Lx) (h : H) : Array Value := lc x h.some h.last (came h)
theorem lc_size (x : Lx) (so : Bool) (la : Int) (f : Nat → Bool) : (lc x so la f).size = 38 := rfl
theorem lc_at (x : Lx) (so : Bool) (la : Int) (f : Nat → Bool) (i : Nat) (hi : i < 33) : (lc x so la f)[3 + i]? = some (.bool (f i)) := by
  match i, hi with
  | 0, _ | 1, _ | 2, _ | 3, _ | 4, _ | 5, _ | 6, _ | 7, _ | 8, _ | 9, _ | 10, _ | 11, _ | 12, _ | 13, _ | 14, _ | 15, _ | 16, _ | 17, _ | 18, _ | 19, _ | 20, _ | 21, _ | 22, _ | 23, _ | 24, _ | 25, _ | 26, _ | 27, _ | 28, _ | 29, _ | 30, _ | 31, _ | 32, _ => rfl
  | n + 33, h => omega
theorem lc_set (x : Lx) (so : Bool) (la : Int) (f : Nat → Bool) (b : Bool) (i : Nat) (hi : i < 33) : (lc x so la f).setIfInBounds (3 + i) (.bool b) = lc x so la (fun j => if j = i then b else f j) := by
  match i, hi with
  | 0, _ | 1, _ | 2, _ | 3, _ | 4, _ | 5, _ | 6, _ | 7, _ | 8, _ | 9, _ | 10, _ | 11, _ | 12, _ | 13, _ | 14, _ | 15, _ | 16, _ | 17, _ | 18, _ | 19, _ | 20, _ | 21, _ | 22, _ | 23, _ | 24, _ | 25, _ | 26, _ | 27, _ | 28, _ | 29, _ | 30, _ | 31, _ | 32, _ => rfl
  | n + 33, h => omega
theorem lc_congr {x : Lx} {so : Bool} {la : Int} {f g : Nat → Bool} (h : ∀ i, i < 33 → f i = g i) : lc x so la f = lc x so la g := by unfold lc; rw [row33_congr h]
end Sr
namespace Go.Proofs.Ythojjpoadabehaa
open Go.RowKit
set_option linter.unusedVariables false
/-- The thirty-three, stored. -/
theorem exec_store_33L {o : Oper} {a : Act} {w : World} {y z : Operand} {B : Nat} {x : Sr.Lx} {so : Bool} {la : Int} {f g : Nat → Bool} (ho : o.op = .store 35 y z) (hx : a.eval y = .pointer (some ⟨B, 3, none⟩)) (hy : a.eval z = .agg (Sr.row33 g).toArray) (hB : Box w B 40 (Sr.lc x so la f)) :
    (execOp a.eval o).run Try.prog w = .ok .skip (w.setRow B (Sr.lc x so la g)) := by
  have hs := run_storeVar_mid (P := Try.prog) w B 3 35 (Sr.row33 g).toArray (hB.there' 3 _ (by rw [Sr.lc_size]; show 3 + 33 ≤ 38; omega)) (by rw [row33_info]; rfl) (Sr.row33_one g)
  have e : w.setCells B 3 (Sr.row33 g).toArray.toList = w.setRow B (Sr.lc x so la g) := by
    rw [setCells_row B 40 _ 3 (Sr.lc x so la f) w hB.is (by rw [Sr.lc_size]; show 3 + 33 ≤ 38; omega)]
    rfl
  rw [e] at hs
  unfold execOp
  simp only [ho, hx, hy, Instr.storeAt, Instr.sureAddr, Sem.run_bind, Sem.run_pure, Result.andThen_ok, hs]
end Go.Proofs.Ythojjpoadabehaa
namespace Go.Proofs.Ythojjpoadabehaa
open Go.RowKit
set_option linter.unusedVariables false

set_option maxHeartbeats 2000000 in
theorem rnote_oneL (x : Sr.Lx) (la s : Int) (f : Nat → Bool) (B : Nat) (w : World) (hB : Box w B 40 (Sr.lc x false la f)) :
    Calls Try.prog 27 #[.pointer (some ⟨B, 1, none⟩), .int .u16 s] w fun e w' => e = .returned (.bool true) ∧ Box w' B 40 (Sr.lc x true s (fun i => if i = 0 then true else f i)) ∧ Only B w w' := by
  have q0 : w.cell? ⟨B, 1, none⟩ = some (.bool false) := hB.cell 1
  have B1 := Lib.hid (show Box (w.drew.setCell ⟨B, 1, none⟩ (.bool true)) B 40 (Sr.lc x true la f) from hB.drew.put 1 _)
  have O1 := Lib.hid ((Only.of_below (Below.refl w.heap.size w).drew).trans (Only.set (B := B) w.drew 1 (.bool true)))
  have f0 := Lib.hid (hB.drew.free 1)
  have k0 := Lib.hid (show w.drew.cell? ⟨B, 1, none⟩ = some (.bool false) from hB.drew.cell 1)
  clear hB
  go_enter Try.func27, Try.ntmps27
  go_upto_region 2 with fail
  clear q0
  refine Ry.wp_region_lex (by kernel_rfl) [10] (by kernel_rfl) (· = w.drew) (fun _ => True) (fun _ => True) rfl (fun W hW => ⟨trivial, trivial⟩) ?_
  repeat (first
    | (apply Ry.lex_free rfl rfl; focus (intro _; go_simp; first | done | rfl))
    | (apply Ry.lex_look rfl rfl rfl rfl; focus (intro W hW; clear hW; go_simp; first | done | rfl))
    | (apply Ry.lex_steady rfl rfl rfl rfl; focus (intro W hW; clear hW; go_simp; first | done | rfl)))
  refine Ry.lex_store rfl rfl (C' := (· = w.drew.setCell ⟨B, 1, none⟩ (.bool true))) (D' := fun _ => True) (fun W hW => ⟨_, ?_, rfl⟩) (fun _ _ => ⟨trivial, trivial⟩) ?_
  focus (subst hW; have f2 := f0.out; have k2 := k0.out; go_simp; first | done | rfl)
  generalize w.drew.setCell ⟨B, 1, none⟩ (.bool true) = w1 at B1 O1 ⊢
  repeat (first
    | (apply Ry.lex_free rfl rfl; focus (intro _; go_simp; first | done | rfl))
    | (apply Ry.lex_look rfl rfl rfl rfl; focus (intro W hW; clear hW; go_simp; first | done | rfl))
    | (apply Ry.lex_steady rfl rfl rfl rfl; focus (intro W hW; clear hW; go_simp; first | done | rfl)))
  refine Ry.lex_store rfl rfl (C' := (· = w1.setCell ⟨B, 2, none⟩ (.int .u16 s))) (D' := fun _ => True) (fun W hW => ⟨_, ?_, rfl⟩) (fun _ _ => ⟨trivial, trivial⟩) ?_
  focus (subst hW; have f2 := B1.out.free 2; have k2 : W.cell? ⟨B, 2, none⟩ = some (.int .u16 la) := B1.out.cell 2; go_simp; first | done | rfl)
  have B2 := Lib.hid (show Box (w1.setCell ⟨B, 2, none⟩ (.int .u16 s)) B 40 (Sr.lc x true s f) from B1.out.put 2 _)
  have O2 := Lib.hid (O1.out.trans (Only.set (B := B) w1 2 (.int .u16 s)))
  generalize w1.setCell ⟨B, 2, none⟩ (.int .u16 s) = w2 at B2 O2 ⊢
  repeat (first
    | (apply Ry.lex_free rfl rfl; focus (intro _; go_simp; first | done | rfl))
    | (apply Ry.lex_look rfl rfl rfl rfl; focus (intro W hW; clear hW; go_simp; first | done | rfl))
    | (apply Ry.lex_steady rfl rfl rfl rfl; focus (intro W hW; clear hW; go_simp; first | done | rfl)))
  refine Ry.lex_store rfl rfl (C' := (· = w2.setCell ⟨B, 3, none⟩ (.bool true))) (D' := fun _ => True) (fun W hW => ⟨_, ?_, rfl⟩) (fun _ _ => ⟨trivial, trivial⟩) ?_
  focus (subst hW; have f2 := B2.out.free 3; have k2 : W.cell? ⟨B, 3, none⟩ = some (.bool (f 0)) := B2.out.cell 3; go_simp; first | done | rfl)
  have B3 := Lib.hid (show Box (w2.setCell ⟨B, 3, none⟩ (.bool true)) B 40 (Sr.lc x true s (fun i => if i = 0 then true else f i)) from Sr.lc_set x true s f true 0 (by decide) ▸ B2.out.put 3 _)
  have O3 := Lib.hid (O2.out.trans (Only.set (B := B) w2 3 (.bool true)))
  generalize w2.setCell ⟨B, 3, none⟩ (.bool true) = w3 at B3 O3 ⊢
  refine Ry.lex_end fun W2 hW2 => ?_
  simp only [Act.put, List.setIfInBounds_toArray, List.set_cons_succ, List.set_cons_zero]
  subst hW2
  go_wp2
  go_ret
  exact ⟨rfl, B3.out, O3.out⟩

set_option maxHeartbeats 2000000 in
theorem rnote_farL (x : Sr.Lx) (la s : Int) (f : Nat → Bool) (ha : 0 ≤ la ∧ la ≤ 65535) (hs : 0 ≤ s ∧ s ≤ 65535) (hd : Sr.way la s < -32) (B : Nat) (w : World) (hB : Box w B 40 (Sr.lc x true la f)) :
    Calls Try.prog 27 #[.pointer (some ⟨B, 1, none⟩), .int .u16 s] w fun e w' => e = .returned (.bool false) ∧ Box w' B 40 (Sr.lc x true la f) ∧ Only B w w' := by
  have q0 : w.cell? ⟨B, 1, none⟩ = some (.bool true) := hB.cell 1
  have q1 : w.cell? ⟨B, 2, none⟩ = some (.int .u16 la) := hB.cell 2
  have c1 := fun X => Lib.hid (refway_any la s ha hs X)
  have hk := Sr.way_bd la s
  have HB := Lib.hid hB
  clear hB
  generalize Sr.way la s = d at *
  go_enter Try.func27, Try.ntmps27
  go_wp2_with (go_at_call 33; ((with_reducible refine ((c1 _).out).mono ?_); rintro e w1 ⟨rfl, rfl⟩))
  all_goals
    go_ret
    exact ⟨rfl, HB.out, Only.refl _ _⟩
set_option maxHeartbeats 2000000 in
theorem rnote_cameL (x : Sr.Lx) (la s : Int) (f : Nat → Bool) (ha : 0 ≤ la ∧ la ≤ 65535) (hs : 0 ≤ s ∧ s ≤ 65535) (k : Nat) (hd : Sr.way la s = -(k : Int)) (hk : k ≤ 32) (hf : f k = true) (B : Nat) (w : World) (hB : Box w B 40 (Sr.lc x true la f)) :
    Calls Try.prog 27 #[.pointer (some ⟨B, 1, none⟩), .int .u16 s] w fun e w' => e = .returned (.bool false) ∧ Box w' B 40 (Sr.lc x true la f) ∧ Only B w w' := by
  have q0 : w.cell? ⟨B, 1, none⟩ = some (.bool true) := hB.cell 1
  have q1 : w.cell? ⟨B, 2, none⟩ = some (.int .u16 la) := hB.cell 2
  have q2 : w.cell? ⟨B, 3 + k, none⟩ = some (.bool true) := (hB.cell _).trans ((Sr.lc_at _ _ _ _ k (by omega)).trans (by rw [hf]))
  have c1 := fun X => Lib.hid (refway_any la s ha hs X)
  rw [hd] at c1
  have HB := Lib.hid hB
  clear hB hd hf
  go_enter Try.func27, Try.ntmps27
  go_wp2_with (go_at_call 33; ((with_reducible refine ((c1 _).out).mono ?_); rintro e w1 ⟨rfl, rfl⟩))
  all_goals
    go_ret
    exact ⟨rfl, HB.out, Only.refl _ _⟩
set_option maxHeartbeats 2000000 in
theorem rnote_lateL (x : Sr.Lx) (la s : Int) (f : Nat → Bool) (ha : 0 ≤ la ∧ la ≤ 65535) (hs : 0 ≤ s ∧ s ≤ 65535) (k : Nat) (hd : Sr.way la s = -(k : Int)) (hk : k ≤ 32) (hf : f k = false) (B : Nat) (w : World) (hB : Box w B 40 (Sr.lc x true la f)) :
    Calls Try.prog 27 #[.pointer (some ⟨B, 1, none⟩), .int .u16 s] w fun e w' => e = .returned (.bool true) ∧ Box w' B 40 (Sr.lc x true la (fun i => if i = k then true else f i)) ∧ Only B w w' := by
  have q0 : w.cell? ⟨B, 1, none⟩ = some (.bool true) := hB.cell 1
  have q1 : w.cell? ⟨B, 2, none⟩ = some (.int .u16 la) := hB.cell 2
  have q2 : w.cell? ⟨B, 3 + k, none⟩ = some (.bool false) := (hB.cell _).trans ((Sr.lc_at _ _ _ _ k (by omega)).trans (by rw [hf]))
  have f2 := hB.free (3 + k)
  have c1 := fun X => Lib.hid (refway_any la s ha hs X)
  rw [hd] at c1
  have HB := Lib.hid (show Box (w.setCell ⟨B, 3 + k, none⟩ (.bool true)) B 40 (Sr.lc x true la (fun i => if i = k then true else f i)) from Sr.lc_set x true la f true k (by omega) ▸ hB.put (3 + k) _)
  have HO := Lib.hid (Only.set (B := B) w (3 + k) (.bool true))
  clear hB hd hf
  go_enter Try.func27, Try.ntmps27
  go_wp2_with (go_at_call 33; ((with_reducible refine ((c1 _).out).mono ?_); rintro e w1 ⟨rfl, rfl⟩))
  all_goals
    go_ret
    exact ⟨rfl, HB.out, HO.out⟩
end Go.Proofs.Ythojjpoadabehaa
namespace Go.Proofs.Ythojjpoadabehaa
open Go.RowKit
set_option linter.unusedVariables false

/-- What a round finds. -/
structure MovL (x : Sr.Lx) (B C : Nat) (so : Bool) (la : Int) (f g : Nat → Bool) (w w' : World) : Prop where
  ref : Box w' B 40 (Sr.lc x so la f)
  row : Box w' C 35 (Sr.row33 g).toArray
  only : Only C w w'
theorem MovL.put {x : Sr.Lx} {B C : Nat} {so : Bool} {la : Int} {f g : Nat → Bool} {w w' : World} (h : MovL x B C so la f g w w') (hne : B ≠ C) (b : Bool) (i : Nat) (hi : i < 33) : MovL x B C so la f (fun j => if j = i then b else g j) w (w'.setCell ⟨C, i, none⟩ (.bool b)) :=
  ⟨h.ref.far hne _, Sr.row33_set g b i hi ▸ h.row.put i _, h.only.trans (Only.set _ i _)⟩

set_option maxHeartbeats 2000000 in
theorem rnote_onL (x : Sr.Lx) (la s : Int) (f : Nat → Bool) (ha : 0 ≤ la ∧ la ≤ 65535) (hs : 0 ≤ s ∧ s ≤ 65535) (k : Nat) (hd : Sr.way la s = (k : Int)) (hk : 0 < k) (hf : f 0 = true) (B : Nat) (w : World) (hB : Box w B 40 (Sr.lc x true la f)) :
    Calls Try.prog 27 #[.pointer (some ⟨B, 1, none⟩), .int .u16 s] w fun e w' => e = .returned (.bool true) ∧ Box w' B 40 (Sr.lc x true s (fun i => if i = 0 then true else if k ≤ i then f (i - k) else false)) ∧ Only B w w' := by
  have q0 : w.cell? ⟨B, 1, none⟩ = some (.bool true) := hB.cell 1
  have q1 : w.cell? ⟨B, 2, none⟩ = some (.int .u16 la) := hB.cell 2
  have c1 := fun X => Lib.hid (refway_any la s ha hs X)
  rw [hd] at c1
  have hk0 : (0 : Int) < k := by omega
  have hkm : (k : Int) ≤ 32767 := by have := Sr.way_bd la s; omega
  have HB := Lib.hid hB
  have hne := hB.lt
  clear hB hd
  go_enter Try.func27, Try.ntmps27
  have HN := Lib.hid hne
  have hneq := Lib.hid (Nat.ne_of_lt hne)
  clear hne
  go_wp2_with (go_at_call 33; ((with_reducible refine ((c1 _).out).mono ?_); rintro e w1 ⟨rfl, rfl⟩))
  go_loopw [7] (fun i wr => ∃ j : Nat, j ≤ 33 ∧ i = .int .i64 j ∧ MovL x B w.heap.size true la f (Sr.mov f k j) w wr) (fun i _ => 33 - (intOf i).toNat)
  case atStart =>
    refine ⟨0, Nat.zero_le _, rfl, HB.out.alloc _, ?_, Only.of_below (one_below w _)⟩
    rw [Sr.row33_congr (f := Sr.mov f k 0) (g := fun _ => false) (fun i _ => Sr.mov_zero f k i)]
    exact Box.made w 35 _
  case round =>
    obtain ⟨j, hj, rfl, hM⟩ := hrel
    have HM := Lib.hid hM
    clear hM
    by_cases hlt : j < 33
    · by_cases hkj : k ≤ j
      · obtain ⟨m, hm⟩ : ∃ m, j = k + m := ⟨j - k, by omega⟩
        have hm33 : (m : Int) < 33 := by omega
        have hjm : (j : Int) - (k : Int) = (m : Int) := by omega
        have hkj' : (k : Int) ≤ j := by omega
        have hjlt : (j : Int) < 33 := by omega
        have q2 : wr.cell? ⟨B, 3 + m, none⟩ = some (.bool (f m)) := (HM.out.ref.cell _).trans (Sr.lc_at _ _ _ _ m (by omega))
        have q3 : wr.cell? ⟨w.heap.size, j, none⟩ = some (.bool (Sr.mov f k j j)) := (HM.out.row.cell j).trans (by simpa using Sr.row33_at (Sr.mov f k j) j hlt)
        have f3 := HM.out.row.free j
        have HE := Lib.hid (show MovL x B w.heap.size true la f (Sr.mov f k (j + 1)) w (wr.setCell ⟨w.heap.size, j, none⟩ (.bool (f m))) from by
          have h1 := HM.out.put hneq.out (f m) j hlt
          have e : (fun i => if i = j then f m else Sr.mov f k j i) = Sr.mov f k (j + 1) := by
            funext i
            rw [← Sr.mov_next f k j hkj i, show j - k = m by omega]
          rw [e] at h1
          exact h1)
        generalize Sr.mov f k j j = old at *
        generalize f m = new at *
        clear hm hkj
        go_wp2
        go_roundw
        case rel => exact ⟨j + 1, by omega, by go_num, HE.out⟩
        case measure => simp [intOf]; omega
      · have hkj' : ¬ (k : Int) ≤ j := by omega
        have hjlt : (j : Int) < 33 := by omega
        have HE := Lib.hid (show MovL x B w.heap.size true la f (Sr.mov f k (j + 1)) w wr from by
          have e : Sr.mov f k j = Sr.mov f k (j + 1) := by funext i; exact Sr.mov_skip f k j hkj i
          exact e ▸ HM.out)
        clear hkj
        go_wp2
        go_roundw
        case rel => exact ⟨j + 1, by omega, by go_num, HE.out⟩
        case measure => simp [intOf]; omega
    · obtain rfl : j = 33 := by omega
      have q3 : wr.cell? ⟨w.heap.size, 0, none⟩ = some (.bool (Sr.mov f k 33 0)) := (HM.out.row.cell 0).trans (by simpa using Sr.row33_at (Sr.mov f k 33) 0 (by decide))
      have f3 := HM.out.row.free 0
      have HE := Lib.hid (HM.out.put hneq.out true 0 (by decide))
      generalize Sr.mov f k 33 0 = old at *
      go_upto_region 13 with fail
      clear q3 f3 HM old
      generalize wr.setCell ⟨w.heap.size, 0, none⟩ (.bool true) = w1 at HE ⊢
      have hCB : w.heap.size ≠ B := Ne.symm hneq.out
      refine Ry.wp_region_lex (by kernel_rfl) [3] (by kernel_rfl) (· = w1.drew) (fun _ => True) (fun X => Box X w.heap.size 35 (Sr.row33 (fun j => if j = 0 then true else Sr.mov f k 33 j)).toArray) rfl (fun W hW => ⟨trivial, hW ▸ HE.out.row.drew⟩) ?_
      repeat (first
        | (apply Ry.lex_free rfl rfl; focus (intro _; go_simp; first | done | rfl))
        | (apply Ry.lex_steady rfl rfl rfl rfl; focus (intro W hW; exact exec_load_33 rfl (by go_simp) hW))
        | (apply Ry.lex_look rfl rfl rfl rfl; focus (intro W hW; clear hW; go_simp; first | done | rfl)))
      refine Ry.lex_store rfl rfl (C' := (· = w1.drew.setCell ⟨B, 2, none⟩ (.int .u16 s))) (D' := fun _ => True) (fun W hW => ⟨_, ?_, rfl⟩) (fun W hW => ⟨trivial, hW ▸ HE.out.row.drew.far hCB _⟩) ?_
      focus (subst hW; have f2 := HE.out.ref.drew.free 2; have k2 : w1.drew.cell? ⟨B, 2, none⟩ = some (.int .u16 la) := HE.out.ref.drew.cell 2; go_simp; first | done | rfl)
      have B2 := Lib.hid (show Box (w1.drew.setCell ⟨B, 2, none⟩ (.int .u16 s)) B 40 (Sr.lc x true s f) from HE.out.ref.drew.put 2 _)
      have R2 := Lib.hid (show Box (w1.drew.setCell ⟨B, 2, none⟩ (.int .u16 s)) w.heap.size 35 (Sr.row33 (fun j => if j = 0 then true else Sr.mov f k 33 j)).toArray from HE.out.row.drew.far hCB _)
      have O2 := Lib.hid (show Only B w (w1.drew.setCell ⟨B, 2, none⟩ (.int .u16 s)) from Only.fresh HE.out.only ())
      generalize w1.drew.setCell ⟨B, 2, none⟩ (.int .u16 s) = w2 at B2 R2 O2 ⊢
      repeat (first
        | (apply Ry.lex_free rfl rfl; focus (intro _; go_simp; first | done | rfl))
        | (apply Ry.lex_steady rfl rfl rfl rfl; focus (intro W hW; exact exec_load_33 rfl (by go_simp) hW))
        | (apply Ry.lex_look rfl rfl rfl rfl; focus (intro W hW; clear hW; go_simp; first | done | rfl)))
      refine Ry.lex_store rfl rfl (C' := (· = w2.setRow B (Sr.lc x true s (fun j => if j = 0 then true else Sr.mov f k 33 j)))) (D' := fun _ => True) (fun W hW => ⟨_, ?_, rfl⟩) (fun W hW => ⟨trivial, hW ▸ R2.out.row_far hCB _⟩) ?_
      focus (subst hW; exact exec_store_33L (B := B) (x := x) (so := true) (la := s) (f := f) (g := fun j => if j = 0 then true else Sr.mov f k 33 j) rfl (by go_simp) (by go_simp) B2.out)
      refine Ry.lex_end fun W2 hW2 => ?_
      simp only [Act.put, List.setIfInBounds_toArray, List.set_cons_succ, List.set_cons_zero]
      have B3 := Lib.hid (show Box W2 B 40 (Sr.lc x true s (fun i => if i = 0 then true else if k ≤ i then f (i - k) else false)) from by
        have h1 := hW2 ▸ B2.out.row (Sr.lc x true s (fun j => if j = 0 then true else Sr.mov f k 33 j))
        rw [Sr.lc_congr (g := fun i => if i = 0 then true else if k ≤ i then f (i - k) else false) (fun i hi => by
          by_cases h0 : i = 0
          · rw [if_pos h0, if_pos h0]
          · rw [if_neg h0, if_neg h0]
            unfold Sr.mov
            by_cases h1 : k ≤ i
            · rw [if_pos h1, if_pos ⟨hi, h1⟩]
            · rw [if_neg h1, if_neg (by omega)])] at h1
        exact h1)
      have O3 := Lib.hid (show Only B w W2 from hW2 ▸ O2.out.row _)
      clear hW2 B2 R2 O2 HE
      go_wp2
      go_ret
      exact ⟨rfl, B3.out, O3.out⟩
end Go.Proofs.Ythojjpoadabehaa
