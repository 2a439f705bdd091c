/-
Words for a game that is changed through a pointer: what stays; what lies there.
-/
import Derived.Test.YtbihnmingedgfaaHc
namespace Go.Proofs.Ytbihnmingedgfaa
open Go.RowKit
set_option linter.unusedVariables false

/-- From w to w' everything stays that lies below b, and everything else but block B and rows of shots. -/
structure Keep (b B : Nat) (w w' : World) : Prop where
  os : w'.os = w.os
  tape : w'.tape = w.tape
  output : w'.output = w.output
  size : w.heap.size ≤ w'.heap.size
  low : b ≤ B
  block : ∀ k, k < w.heap.size → (k < b ∨ k ≠ B ∧ ∀ cs, w.heap[k]? ≠ some (.cells cs 108 (0, 0))) → w'.heap[k]? = w.heap[k]?

section
variable {b B : Nat} {w w' w'' : World}
theorem Keep.refl (h : b ≤ B) (w : World) : Keep b B w w := ⟨rfl, rfl, rfl, Nat.le_refl _, h, fun _ _ _ => rfl⟩
theorem Keep.trans (h : Keep b B w w') (k : Keep b B w' w'') : Keep b B w w'' :=
  ⟨k.os.trans h.os, k.tape.trans h.tape, k.output.trans h.output, Nat.le_trans h.size k.size, h.low, fun i hi hc => by
    have e := h.block i hi hc
    rw [← e]
    refine k.block i (Nat.lt_of_lt_of_le hi h.size) ?_
    rcases hc with hc | ⟨h1, h2⟩
    · exact .inl hc
    · exact .inr ⟨h1, fun cs => by rw [e]; exact h2 cs⟩⟩
theorem Keep.on {c : Nat} (h : Keep b B w w') (hb : Below c w' w'') (hc : w'.heap.size ≤ c) : Keep b B w w'' :=
  h.trans ⟨hb.os, hb.tape, hb.output, hb.size, h.low, fun i hi _ => hb.block i (by omega)⟩
theorem Keep.call (h : Keep b B w w') (hb : Below w'.heap.size w' w'') : Keep b B w w'' := h.on hb (Nat.le_refl _)
theorem Keep.alloc (h : Keep b B w w') (o : Obj) : Keep b B w (w'.alloc o) := h.call (one_below w' o)
theorem Keep.drew (h : Keep b B w w') : Keep b B w w'.drew := ⟨h.os, h.tape, h.output, h.size, h.low, h.block⟩
theorem Keep.put (h : Keep b B w w') (i : Nat) (u : Value) : Keep b B w (w'.setCell ⟨B, i, none⟩ u) := by
  have hg := (Below.refl 0 w').setCell (p := ⟨B, i, none⟩) (Nat.zero_le _) u
  refine h.trans ⟨hg.os, hg.tape, hg.output, hg.size, h.low, fun k hk hc => ?_⟩
  refine heap_setCell_other w' ⟨B, i, none⟩ k u ?_
  have := h.low
  show k ≠ B
  rcases hc with hc | hc
  · omega
  · exact hc.1
theorem Keep.row {g : Nat} {cs0 : Array Value} (h : Keep b B w w') (hg : Box w' g 108 cs0) (hbg : b ≤ g) (cs : Array Value) : Keep b B w (w'.setRow g cs) := by
  have hz := Below.setRow' (g := g) (Below.refl 0 w') (Nat.zero_le _) cs
  refine h.trans ⟨hz.os, hz.tape, hz.output, hz.size, h.low, fun k hk hc => setRow_other w' g k cs ?_⟩
  rcases hc with hc | hc
  · omega
  · intro e; subst e; exact hc.2 _ hg.is
theorem Keep.shot {g i : Nat} {u : Value} {cs0 : Array Value} (h : Keep b B w w') (hg : Box w' g 108 cs0) (hbg : b ≤ g) : Keep b B w (w'.setCell ⟨g, i, none⟩ u) := by
  have hz := (Below.refl 0 w').setCell (p := ⟨g, i, none⟩) (Nat.zero_le _) u
  refine h.trans ⟨hz.os, hz.tape, hz.output, hz.size, h.low, fun k hk hc => heap_setCell_other w' ⟨g, i, none⟩ k u ?_⟩
  show k ≠ g
  rcases hc with hc | hc
  · omega
  · intro e; subst e; exact hc.2 _ hg.is
theorem Keep.grown {n : Nat} {v : Value} {xs : List Value} (h : Keep b B w w') (ho : w'.ownsRow b 108 6 v n xs) (hg : w'.grownBy w'' v.ownBlock) : Keep b B w w'' := by
  refine h.trans ⟨hg.os, hg.tape, hg.output, hg.size, h.low, fun k hk hc => hg.block k hk fun e => ?_⟩
  obtain ⟨_, ⟨rfl, _⟩ | ⟨g, cap, cur, rfl, hbg, hgg, _⟩⟩ := ho
  · cases e
  · have e' : k = g := by injection e
    subst e'
    rcases hc with hc | hc
    · omega
    · exact hc.2 _ hgg
theorem Keep.grown' {n : Nat} {v : Value} {xs : List Value} {o : Obj} (h : Keep b B w w') (ho : w'.ownsRow b 108 6 v n xs) (hg : (w'.alloc o).grownBy w'' v.ownBlock) : Keep b B w w'' :=
  (h.alloc o).grown (ho.alloc o) hg
theorem Keep.fresh (h : Keep b B w w') {p : Addr} (hp : w.heap.size ≤ p.block) (u : Value) : Keep b B w (w'.setCell p u) := by
  have hz := (Below.refl 0 w').setCell (p := p) (Nat.zero_le _) u
  exact ⟨hz.os.trans h.os, hz.tape.trans h.tape, hz.output.trans h.output, Nat.le_trans h.size hz.size, h.low, fun k hk hc => (heap_setCell_other w' p k u (by omega)).trans (h.block k hk hc)⟩
theorem Keep.freshRow (h : Keep b B w w') {g : Nat} (hp : w.heap.size ≤ g) (cs : Array Value) : Keep b B w (w'.setRow g cs) := by
  have hz := Below.setRow' (g := g) (Below.refl 0 w') (Nat.zero_le _) cs
  exact ⟨hz.os.trans h.os, hz.tape.trans h.tape, hz.output.trans h.output, Nat.le_trans h.size hz.size, h.low, fun k hk hc => (setRow_other w' g k cs (by omega)).trans (h.block k hk hc)⟩
theorem Keep.below (h : Keep b B w w') : Below b w w' ∨ w.heap.size < b := by
  by_cases hs : w.heap.size < b
  · exact .inr hs
  · exact .inl ⟨h.os, h.tape, h.output, h.size, fun i hi => h.block i (by omega) (.inl hi)⟩
theorem Keep.to (h : Keep b B w w') (hs : b ≤ w.heap.size) : Below b w w' := ⟨h.os, h.tape, h.output, h.size, fun i hi => h.block i (by omega) (.inl hi)⟩
theorem Box.keep {g : Nat} {t : TypeId} {cs : Array Value} (h : Box w g t cs) (k : Keep b B w w') (hg : g ≠ B) (ht : t ≠ 108) : Box w' g t cs :=
  ⟨(k.block g h.lt (.inr ⟨hg, fun cs' e => by rw [h.is] at e; injection e with e; injection e with _ e _; exact ht e⟩)).trans h.is⟩
end

/-- A game lies in block B, with a list of shots of its own. -/
def Has (b B : Nat) (g : Gm.G) (w : World) : Prop :=
  ∃ A c, Box w B 30 (Gm.cells g (.slice A g.shots.length c)) ∧ w.ownsRow b 108 6 (.slice A g.shots.length c) g.shots.length (Gm.shotCells g.shots)
theorem Has.lt {b B : Nat} {g : Gm.G} {w : World} (h : Has b B g w) : B < w.heap.size := by obtain ⟨A, c, h, _⟩ := h; exact h.lt
theorem Has.alloc {b B : Nat} {g : Gm.G} {w : World} (h : Has b B g w) (o : Obj) : Has b B g (w.alloc o) := by obtain ⟨A, c, h, h'⟩ := h; exact ⟨A, c, h.alloc o, h'.alloc o⟩
theorem Has.drew {b B : Nat} {g : Gm.G} {w : World} (h : Has b B g w) : Has b B g w.drew := by obtain ⟨A, c, h, h'⟩ := h; exact ⟨A, c, h.drew, h'.drew⟩
theorem Has.call {b B : Nat} {g : Gm.G} {w w' : World} (h : Has b B g w) (hb : Below w.heap.size w w') : Has b B g w' := by
  obtain ⟨A, c, h, h'⟩ := h; exact ⟨A, c, h.below hb h.lt, own_below h' hb (Nat.le_refl _)⟩
theorem Has.far {b B : Nat} {g : Gm.G} {w : World} {p : Addr} {t : TypeId} {cs : Array Value} (h : Has b B g w) (hp : Box w p.block t cs) (ht : t ≠ 108) (ht' : t ≠ 30) (u : Value) : Has b B g (w.setCell p u) := by
  obtain ⟨A, c, h, h'⟩ := h
  exact ⟨A, c, h.far (fun e => Box.apart h hp (fun e' => ht' e'.symm) e) u, ownsRow_setCell_other h' (hp.unowned h' (fun e => ht e.symm)) u⟩
theorem Has.off {b B : Nat} {g : Gm.G} {w : World} {p : Addr} {t : TypeId} {cs : Array Value} (h : Has b B g w) (hne : p.block ≠ B) (hp : Box w p.block t cs) (ht : t ≠ 108) (u : Value) : Has b B g (w.setCell p u) := by
  obtain ⟨A, c, h, h'⟩ := h
  exact ⟨A, c, h.far (fun e => hne e.symm) u, ownsRow_setCell_other h' (hp.unowned h' (fun e => ht e.symm)) u⟩
theorem Has.offRow {b B : Nat} {g : Gm.G} {w : World} {p : Nat} {t : TypeId} {cs : Array Value} (h : Has b B g w) (hne : p ≠ B) (hp : Box w p t cs) (ht : t ≠ 108) (cs' : Array Value) : Has b B g (w.setRow p cs') := by
  obtain ⟨A, c, h, h'⟩ := h
  exact ⟨A, c, h.row_far (fun e => hne e.symm) cs', own_setRow h' (hp.unowned h' (fun e => ht e.symm)) cs'⟩
/-- The game's block is stored to: a field, a ship. -/
theorem Has.put {b B : Nat} {g g' : Gm.G} {w w' : World} (h : Has b B g w) (hs : g'.shots = g.shots) (hB : ∀ s, Box w B 30 (Gm.cells g s) → Box w' B 30 (Gm.cells g' s)) (hk : ∀ k, k ≠ B → w'.heap[k]? = w.heap[k]?) : Has b B g' w' := by
  obtain ⟨A, c, h, h'⟩ := h
  refine ⟨A, c, by rw [hs]; exact hB _ h, ?_⟩
  rw [hs]
  have hne := h.unowned h' (by decide)
  obtain ⟨hl, e | ⟨gg, cap, cur, hv, hbg, hgg, hr⟩⟩ := h'
  · exact ⟨hl, .inl e⟩
  · refine ⟨hl, .inr ⟨gg, cap, cur, hv, hbg, (hk gg (fun e => hne (by rw [hv, e]; rfl))).trans hgg, hr⟩⟩
theorem stored_else {w : World} {B k : Nat} (s : Gm.Ship) (j : Nat) (hj : j ≠ B) : (stored w B k s).heap[j]? = w.heap[j]? := by
  unfold stored
  rw [heap_setCell_other _ _ j _ hj, heap_setCell_other _ _ j _ hj, heap_setCell_other _ _ j _ hj, heap_setCell_other _ _ j _ hj, heap_setCell_other _ _ j _ hj, heap_setCell_other _ _ j _ hj, heap_setCell_other _ _ j _ hj]
theorem Keep.stored {b B k : Nat} {w w' : World} (h : Keep b B w w') (s : Gm.Ship) : Keep b B w (stored w' B k s) :=
  ((((((h.put _ _).put _ _).put _ _).put _ _).put _ _).put _ _).put _ _
theorem Has.stored {b B k : Nat} {g : Gm.G} {w : World} (h : Has b B g w) (hk : k < 8) (s : Gm.Ship) : Has b B { g with ship := Gm.upd g.ship k s } (stored w B k s) :=
  h.put rfl (fun _ hB => blk_ship hB hk s) (fun j hj => stored_else s j hj)
/-- A game handed back, and a code. -/
def Out (g' : Gm.G) (code : Int) (w : World) (e : Ending) (w' : World) : Prop :=
  ∃ A c, e = .returned (.tuple #[.agg (Gm.cells g' (.slice A g'.shots.length c)), .int .i64 code]) ∧ Lies w' w'.heap.size 6 A g'.shots.length (Gm.shotCells g'.shots) ∧ Below w.heap.size w w'
end Go.Proofs.Ytbihnmingedgfaa
