/-
The program's Step: the ships' part.
-/
import Derived.Test.YtbihnmingedgfaaHn
import Derived.Test.YtbihnmingedgfaaHe
namespace Go.Proofs.Ytbihnmingedgfaa
open Go.RowKit Go.Shelf
set_option linter.unusedVariables false
attribute [local go_sem] Oper.semAt_some

/-- A frame for slot k. -/
def stepOne (ps : Nat → Gm.In) (g : Gm.G) (k : Nat) : Gm.G := { g with ship := Gm.upd g.ship k (Gm.moved (ps k) g.shots.length (g.ship k)), shots := g.shots ++ Gm.made (ps k) g.shots.length k (g.ship k) }
def over (ps : Nat → Gm.In) {on : Nat → Bool} (g : Gm.G) (pre : List (Slot on)) : Gm.G := pre.foldl (fun g x => stepOne ps g x.1) g
theorem over_snoc (ps : Nat → Gm.In) {on : Nat → Bool} (g : Gm.G) (pre : List (Slot on)) (x : Slot on) : over ps g (pre ++ [x]) = stepOne ps (over ps g pre) x.1 := by
  unfold over; rw [List.foldl_append]; rfl
/-- What holds of a game on the way; the ships of on fly, and no other. -/
structure Fit (on : Nat → Bool) (g : Gm.G) : Prop where
  ships : ∀ i, i < 8 → Gm.okShip (g.ship i)
  shots : ∀ t ∈ g.shots, Gm.okShot t
  len : g.shots.length ≤ 32
  flags : ∀ i, i < 8 → (g.ship i).on = on i
theorem moved_on (p : Gm.In) (n : Nat) (s : Gm.Ship) : (Gm.moved p n s).on = s.on := by
  unfold Gm.moved; split
  · rename_i h; rw [h]
  · rfl
theorem stepOne_fit {on : Nat → Bool} {ps : Nat → Gm.In} {g : Gm.G} {k : Nat} (h : Fit on g) (hk : k < 8) : Fit on (stepOne ps g k) := by
  refine ⟨fun i hi => ?_, fun t ht => ?_, ?_, fun i hi => ?_⟩
  · by_cases e : i = k
    · subst e; show Gm.okShip (Gm.upd _ _ _ _); rw [Gm.upd_same]; exact Gm.moved_ok (h.ships _ hi)
    · show Gm.okShip (Gm.upd _ _ _ _); rw [Gm.upd_other _ _ e]; exact h.ships _ hi
  · rcases List.mem_append.1 (show t ∈ g.shots ++ Gm.made (ps k) g.shots.length k (g.ship k) from ht) with ht | ht
    · exact h.shots _ ht
    · exact Gm.made_ok (by omega) _ ht
  · show (g.shots ++ Gm.made (ps k) g.shots.length k (g.ship k)).length ≤ 32
    have := Gm.made_len (ps k) g.shots.length k (g.ship k)
    have := h.len
    rw [List.length_append]; omega
  · by_cases e : i = k
    · subst e; show (Gm.upd _ _ _ _).on = _; rw [Gm.upd_same, moved_on]; exact h.flags _ hi
    · show (Gm.upd _ _ _ _).on = _; rw [Gm.upd_other _ _ e]; exact h.flags _ hi
theorem over_fit {on : Nat → Bool} {ps : Nat → Gm.In} {g : Gm.G} (h : Fit on g) : ∀ pre : List (Slot on), Fit on (over ps g pre) := by
  intro pre
  unfold over
  induction pre generalizing g with
  | nil => exact h
  | cons x pre ih => exact ih (stepOne_fit h x.2.1)
theorem over_from {on : Nat → Bool} (ps : Nat → Gm.In) (g : Gm.G) (hon : ∀ i, i < 8 → (g.ship i).on = on i) : ∀ n i, i + n = 8 →
    over ps { g with ship := (Gm.ph1 ps g i).1, shots := (Gm.ph1 ps g i).2 } (flies on n i) = { g with ship := (Gm.ph1 ps g 8).1, shots := (Gm.ph1 ps g 8).2 }
  | 0, i, h => by obtain rfl : i = 8 := by omega
                  rfl
  | n + 1, i, h => by
    have ih := over_from ps g hon n (i + 1) (by omega)
    cases ho : on i
    · rw [flies_no ho, ← ih]
      have e := Gm.next_off (p := ps i) (n := (Gm.ph1 ps g i).2.length) (i := i) (s := (Gm.ph1 ps g i).1 i) (by rw [Gm.ph1_later ps g i i (Nat.le_refl _), hon i (by omega), ho])
      have e0 : Gm.ph1 ps g (i + 1) = Gm.ph1 ps g i := by
        show (Gm.upd _ i _, _ ++ _) = _
        rw [e.1, e.2, Gm.upd_self, List.append_nil]
      rw [e0]
    · rw [flies_yes (by omega) ho, ← ih]
      rfl
theorem over_all {on : Nat → Bool} (ps : Nat → Gm.In) (g : Gm.G) (hon : ∀ i, i < 8 → (g.ship i).on = on i) : over ps g (flies on 8 0) = { g with ship := (Gm.ph1 ps g 8).1, shots := (Gm.ph1 ps g 8).2 } :=
  over_from ps g hon 8 0 rfl
theorem upd_twice (f : Nat → Gm.Ship) (k : Nat) (s t : Gm.Ship) : Gm.upd (Gm.upd f k s) k t = Gm.upd f k t := funext fun j => by
  unfold Gm.upd; split <;> rfl
/-- Steered and shot: that is a frame for a slot. -/
theorem shot_step (ps : Nat → Gm.In) (g : Gm.G) (k : Nat) (hon : (g.ship k).on = true) (hc : 0 ≤ (g.ship k).cool) :
    shotG (shipG g k (steered (g.ship k) (Gf.tame (ps k).x) (Gf.tame (ps k).y))) k (Gf.tame (ps k).x) (Gf.tame (ps k).y) (ps k).b = stepOne ps g k := by
  unfold shotG stepOne
  have e1 : (shipG g k (steered (g.ship k) (Gf.tame (ps k).x) (Gf.tame (ps k).y))).ship k = steered (g.ship k) (Gf.tame (ps k).x) (Gf.tame (ps k).y) := Gm.upd_same _ _ _
  rw [e1]
  have e2 : (steered (g.ship k) (Gf.tame (ps k).x) (Gf.tame (ps k).y)).cool = (g.ship k).cool := rfl
  rw [e2]
  have e3 : (steered (g.ship k) (Gf.tame (ps k).x) (Gf.tame (ps k).y)).on = true := hon
  by_cases h0 : 0 < (g.ship k).cool
  · rw [if_pos h0]
    have e := Gm.next_cool (p := ps k) (n := g.shots.length) (i := k) hon h0
    rw [e.1, e.2, List.append_nil]
    show { g with ship := Gm.upd (Gm.upd g.ship k _) k _ } = _
    rw [upd_twice]
    dsimp only [steered]
    rw [hon]; rfl
  · rw [if_neg h0]
    have hc0 : (g.ship k).cool = 0 := by omega
    by_cases hp : (ps k).b % 2 = 1 ∧ (shipG g k (steered (g.ship k) (Gf.tame (ps k).x) (Gf.tame (ps k).y))).shots.length < 32
    · rw [if_pos hp]
      have e := Gm.next_shot (p := ps k) (n := g.shots.length) (i := k) hon hc0 (by unfold Gm.shoots; simp; exact ⟨by omega, hp.1, hp.2⟩)
      rw [e.1, e.2]
      show ({ g with ship := Gm.upd (Gm.upd g.ship k _) k _, shots := _ } : Gm.G) = _
      rw [upd_twice]
      dsimp only [steered]
      rw [hon]; rfl
    · rw [if_neg hp]
      have e := Gm.next_rest (p := ps k) (n := g.shots.length) (i := k) hon hc0 (by
        unfold Gm.shoots
        cases h : (decide ((g.ship k).cool ≤ 0) && (decide ((ps k).b % 2 = 1) && decide (g.shots.length < 32)))
        · rfl
        · simp at h; exact absurd ⟨h.2.1, h.2.2⟩ hp)
      rw [e.1, e.2, List.append_nil]
      show ({ g with ship := Gm.upd g.ship k _ } : Gm.G) = _
      congr 2
      show steered (g.ship k) _ _ = _
      unfold steered
      rw [hon, hc0]; rfl

/-! What abides the turn of a block that is no cells. -/
theorem Has.turned {b B : Nat} {g : Gm.G} {W W' : World} {row : Option Nat} (h : Has b B g W) (hg : W.grownBy W' row) (hr : ∀ r, row = some r → ∃ o : Obj, W.heap[r]? = some o ∧ o.isCells = false) : Has b B g W' := by
  obtain ⟨A, c, h, hl, h' | ⟨gg, cap, cur, hv, hbg, hgg, hx⟩⟩ := h
  · exact ⟨A, c, h.turned hg hr, hl, .inl h'⟩
  · exact ⟨A, c, h.turned hg hr, hl, .inr ⟨gg, cap, cur, hv, hbg, (Box.turned ⟨hgg⟩ hg hr).is, hx⟩⟩
theorem Keep.others {b B : Nat} {w w' : World} {t : TypeId} {cs : Array Value} (h : Keep b B w w') (hB : Box w B t cs) : KeepsOthers w w' :=
  ⟨h.size, fun k o hk ho => (h.block k (Array.getElem?_eq_some_iff.1 hk).1 (.inr ⟨fun e => (by subst e; rw [hB.is] at hk; injection hk with hk; subst hk; cases ho), fun cs e => (by rw [hk] at e; injection e with e; subst e; cases ho)⟩)).trans hk⟩
theorem Has.flags {b B : Nat} {g : Gm.G} {W : World} (h : Has b B g W) (k : Nat) (hk : k < 8) : W.cell? ⟨B, 2 + k * 7, none⟩ = some (.bool (g.ship k).on) := by
  obtain ⟨A, c, h, _⟩ := h
  exact (h.cell _).trans (Gm.cells_ship _ _ k 0 hk (by omega))

/-- What the ships' part finds. -/
structure Mid (b Bn Bi Br Bg : Nat) (ps : Nat → Gm.In) (w0 : World) (g : Gm.G) (W : World) : Prop where
  has : Has b Bn g W
  ins : Box W Bi 38 (Gm.insCells ps).toArray
  res : Box W Br 30 (Gm.cells zeroG (.slice none 0 0))
  fly : Box W Bg 91 #[.pointer (some ⟨Bn, 0, none⟩)]
  below : Below b w0 W
theorem Mid.turned {b Bn Bi Br Bg : Nat} {ps : Nat → Gm.In} {w0 : World} {g : Gm.G} {W W' : World} {row : Option Nat} (h : Mid b Bn Bi Br Bg ps w0 g W) (hb : b ≤ w0.heap.size) (hg : W.grownBy W' row) (hr : ∀ r, row = some r → b ≤ r ∧ ∃ o : Obj, W.heap[r]? = some o ∧ o.isCells = false) : Mid b Bn Bi Br Bg ps w0 g W' :=
  ⟨h.has.turned hg fun r e => (hr r e).2, h.ins.turned hg fun r e => (hr r e).2, h.res.turned hg fun r e => (hr r e).2, h.fly.turned hg fun r e => (hr r e).2, h.below.grown hg (Nat.le_trans hb h.below.size) fun k e => (hr k e).1⟩
theorem Mid.kept {b Bn Bi Br Bg : Nat} {ps : Nat → Gm.In} {w0 : World} {g g' : Gm.G} {W W' : World} (h : Mid b Bn Bi Br Bg ps w0 g W) (hb : b ≤ w0.heap.size) (hn : Br ≠ Bn) (hh : Has b Bn g' W') (hk : Keep b Bn W W') : Mid b Bn Bi Br Bg ps w0 g' W' := by
  obtain ⟨A, c, hB, _⟩ := h.has
  exact ⟨hh, h.ins.keep hk (Box.apart h.ins hB (by decide)) (by decide), h.res.keep hk hn (by decide), h.fly.keep hk (Box.apart h.fly hB (by decide)) (by decide), h.below.trans (hk.to (Nat.le_trans hb h.below.size))⟩
end Go.Proofs.Ytbihnmingedgfaa
