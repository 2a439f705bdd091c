/-
Bytes that are written one behind the other: what stays; what lies there; numbers as bytes.
-/
import Derived.Test.YtbihnmingedgfaaBy
import Derived.Test.YtbihnmingedgfaaOw
namespace Im
open Go
/-- A number's bytes, the least first. -/
def bytesOf : Nat → Int → List Int
  | 0, _ => []
  | n + 1, v => bytesOf n v ++ [v / 2 ^ (8 * n) % 256]
theorem bytesOf_len : ∀ (n : Nat) (v : Int), (bytesOf n v).length = n
  | 0, _ => rfl
  | n + 1, v => by unfold bytesOf; rw [List.length_append, bytesOf_len n v]; rfl
def u8s (l : List Int) : List Value := l.map fun x => .int .u8 x
theorem u8s_len (l : List Int) : (u8s l).length = l.length := by unfold u8s; simp
theorem u8s_append (l m : List Int) : u8s (l ++ m) = u8s l ++ u8s m := by unfold u8s; simp
theorem u8s_one (l : List Int) : ∀ u ∈ u8s l, u.oneCell' = true := by
  intro u hu
  obtain ⟨x, _, rfl⟩ := List.mem_map.1 hu
  rfl
end Im
namespace Go.Proofs.Ytbihnmingedgfaa
open Go.RowKit Go.Shelf
set_option linter.unusedVariables false

/-- From w to w' everything stays that lies below b, and everything else but block B and rows of bytes. -/
structure Wrote (b B : Nat) (w w' : World) : Prop where
  os : w'.os = w.os
  tape : w'.tape = w.tape
  output : w'.output = w.output
  size : w.heap.size ≤ w'.heap.size
  low : b ≤ B
  block : ∀ k, k < w.heap.size → (k < b ∨ k ≠ B ∧ ∀ cs, w.heap[k]? ≠ some (.cells cs 5 (0, 0))) → w'.heap[k]? = w.heap[k]?

section
variable {b B : Nat} {w w' w'' : World}
theorem Wrote.refl (h : b ≤ B) (w : World) : Wrote b B w w := ⟨rfl, rfl, rfl, Nat.le_refl _, h, fun _ _ _ => rfl⟩
theorem Wrote.trans (h : Wrote b B w w') (k : Wrote b B w' w'') : Wrote b B w w'' :=
  ⟨k.os.trans h.os, k.tape.trans h.tape, k.output.trans h.output, Nat.le_trans h.size k.size, h.low, fun i hi hc => by
    have e := h.block i hi hc
    rw [← e]
    refine k.block i (Nat.lt_of_lt_of_le hi h.size) ?_
    rcases hc with hc | ⟨h1, h2⟩
    · exact .inl hc
    · exact .inr ⟨h1, fun cs => by rw [e]; exact h2 cs⟩⟩
theorem Wrote.on {c : Nat} (h : Wrote b B w w') (hb : Below c w' w'') (hc : w'.heap.size ≤ c) : Wrote b B w w'' :=
  h.trans ⟨hb.os, hb.tape, hb.output, hb.size, h.low, fun i hi _ => hb.block i (by omega)⟩
theorem Wrote.call (h : Wrote b B w w') (hb : Below w'.heap.size w' w'') : Wrote b B w w'' := h.on hb (Nat.le_refl _)
theorem Wrote.alloc (h : Wrote b B w w') (o : Obj) : Wrote b B w (w'.alloc o) := h.call (one_below w' o)
theorem Wrote.drew (h : Wrote b B w w') : Wrote b B w w'.drew := ⟨h.os, h.tape, h.output, h.size, h.low, h.block⟩
theorem Wrote.put (h : Wrote b B w w') (i : Nat) (u : Value) : Wrote b B w (w'.setCell ⟨B, i, none⟩ u) := by
  have hg := (Below.refl 0 w').setCell (p := ⟨B, i, none⟩) (Nat.zero_le _) u
  refine h.trans ⟨hg.os, hg.tape, hg.output, hg.size, h.low, fun k hk hc => ?_⟩
  refine heap_setCell_other w' ⟨B, i, none⟩ k u ?_
  have := h.low
  show k ≠ B
  rcases hc with hc | hc
  · omega
  · exact hc.1
theorem Wrote.row {g : Nat} {cs0 : Array Value} (h : Wrote b B w w') (hg : Box w' g 5 cs0) (hbg : b ≤ g) (cs : Array Value) : Wrote b B w (w'.setRow g cs) := by
  have hz := Below.setRow' (g := g) (Below.refl 0 w') (Nat.zero_le _) cs
  refine h.trans ⟨hz.os, hz.tape, hz.output, hz.size, h.low, fun k hk hc => setRow_other w' g k cs ?_⟩
  rcases hc with hc | hc
  · omega
  · intro e; subst e; exact hc.2 _ hg.is
theorem Wrote.byte {g i : Nat} {u : Value} {cs0 : Array Value} (h : Wrote b B w w') (hg : Box w' g 5 cs0) (hbg : b ≤ g) : Wrote b B w (w'.setCell ⟨g, i, none⟩ u) := by
  have hz := (Below.refl 0 w').setCell (p := ⟨g, i, none⟩) (Nat.zero_le _) u
  refine h.trans ⟨hz.os, hz.tape, hz.output, hz.size, h.low, fun k hk hc => heap_setCell_other w' ⟨g, i, none⟩ k u ?_⟩
  show k ≠ g
  rcases hc with hc | hc
  · omega
  · intro e; subst e; exact hc.2 _ hg.is
theorem Wrote.grown {n : Nat} {v : Value} {xs : List Value} (h : Wrote b B w w') (ho : w'.ownsRow b 5 1 v n xs) (hg : w'.grownBy w'' v.ownBlock) : Wrote b B w w'' := by
  refine h.trans ⟨hg.os, hg.tape, hg.output, hg.size, h.low, fun k hk hc => hg.block k hk fun e => ?_⟩
  obtain ⟨_, ⟨rfl, _⟩ | ⟨g, cap, cur, rfl, hbg, hgg, _⟩⟩ := ho
  · cases e
  · have e' : k = g := by injection e
    subst e'
    rcases hc with hc | hc
    · omega
    · exact hc.2 _ hgg
theorem Wrote.grown' {n : Nat} {v : Value} {xs : List Value} {o : Obj} (h : Wrote b B w w') (ho : w'.ownsRow b 5 1 v n xs) (hg : (w'.alloc o).grownBy w'' v.ownBlock) : Wrote b B w w'' :=
  (h.alloc o).grown (ho.alloc o) hg
theorem Wrote.fresh (h : Wrote b B w w') {p : Addr} (hp : w.heap.size ≤ p.block) (u : Value) : Wrote b B w (w'.setCell p u) := by
  have hz := (Below.refl 0 w').setCell (p := p) (Nat.zero_le _) u
  exact ⟨hz.os.trans h.os, hz.tape.trans h.tape, hz.output.trans h.output, Nat.le_trans h.size hz.size, h.low, fun k hk hc => (heap_setCell_other w' p k u (by omega)).trans (h.block k hk hc)⟩
theorem Wrote.freshRow (h : Wrote b B w w') {g : Nat} (hp : w.heap.size ≤ g) (cs : Array Value) : Wrote b B w (w'.setRow g cs) := by
  have hz := Below.setRow' (g := g) (Below.refl 0 w') (Nat.zero_le _) cs
  exact ⟨hz.os.trans h.os, hz.tape.trans h.tape, hz.output.trans h.output, Nat.le_trans h.size hz.size, h.low, fun k hk hc => (setRow_other w' g k cs (by omega)).trans (h.block k hk hc)⟩
theorem Wrote.below (h : Wrote b B w w') : Below b w w' ∨ w.heap.size < b := by
  by_cases hs : w.heap.size < b
  · exact .inr hs
  · exact .inl ⟨h.os, h.tape, h.output, h.size, fun i hi => h.block i (by omega) (.inl hi)⟩
theorem Wrote.to (h : Wrote b B w w') (hs : b ≤ w.heap.size) : Below b w w' := ⟨h.os, h.tape, h.output, h.size, fun i hi => h.block i (by omega) (.inl hi)⟩
theorem Box.wrote {g : Nat} {t : TypeId} {cs : Array Value} (h : Box w g t cs) (k : Wrote b B w w') (hg : g ≠ B) (ht : t ≠ 5) : Box w' g t cs :=
  ⟨(k.block g h.lt (.inr ⟨hg, fun cs' e => by rw [h.is] at e; injection e with e; injection e with _ e _; exact ht e⟩)).trans h.is⟩
end


/-- What a writer writes to: the variable b in block Bb, b's bytes in a row of its own; the writer holds b's place in block Bp. -/
structure Wr (b Bb Bp : Nat) (bs : List Int) (W : World) : Prop where
  ptr : Box W Bp 120 #[.pointer (some ⟨Bb, 0, none⟩)]
  var : ∃ A c, Box W Bb 54 #[.slice A bs.length c] ∧ W.ownsRow b 5 1 (.slice A bs.length c) bs.length (Im.u8s bs)
section
variable {b Bb Bp : Nat} {bs : List Int} {W W' : World}
theorem Wr.call (h : Wr b Bb Bp bs W) (hb : Below W.heap.size W W') : Wr b Bb Bp bs W' := by
  obtain ⟨h1, A, c, h2, h3⟩ := h
  exact ⟨h1.below hb h1.lt, A, c, h2.below hb h2.lt, own_below h3 hb (Nat.le_refl _)⟩
theorem Wr.alloc (h : Wr b Bb Bp bs W) (o : Obj) : Wr b Bb Bp bs (W.alloc o) := h.call (one_below W o)
theorem Wr.ne (h : Wr b Bb Bp bs W) : Bp ≠ Bb := by
  obtain ⟨h1, A, c, h2, _⟩ := h
  exact Box.apart h1 h2 (by decide)
theorem Wr.off (h : Wr b Bb Bp bs W) {p : Addr} {t : TypeId} {cs : Array Value} (hp : Box W p.block t cs) (h1 : t ≠ 120) (h2 : t ≠ 54) (h3 : t ≠ 5) (u : Value) : Wr b Bb Bp bs (W.setCell p u) := by
  obtain ⟨k1, A, c, k2, k3⟩ := h
  exact ⟨k1.far (fun e => Box.apart k1 hp (fun e' => h1 e'.symm) e) u, A, c, k2.far (fun e => Box.apart k2 hp (fun e' => h2 e'.symm) e) u, ownsRow_setCell_other k3 (hp.unowned k3 (fun e => h3 e.symm)) u⟩
theorem Wr.offRow (h : Wr b Bb Bp bs W) {p : Nat} {t : TypeId} {cs : Array Value} (hp : Box W p t cs) (h1 : t ≠ 120) (h2 : t ≠ 54) (h3 : t ≠ 5) (cs' : Array Value) : Wr b Bb Bp bs (W.setRow p cs') := by
  obtain ⟨k1, A, c, k2, k3⟩ := h
  exact ⟨k1.row_far (fun e => Box.apart k1 hp (fun e' => h1 e'.symm) e) cs', A, c, k2.row_far (fun e => Box.apart k2 hp (fun e' => h2 e'.symm) e) cs', own_setRow k3 (hp.unowned k3 (fun e => h3 e.symm)) cs'⟩
end
end Go.Proofs.Ytbihnmingedgfaa
