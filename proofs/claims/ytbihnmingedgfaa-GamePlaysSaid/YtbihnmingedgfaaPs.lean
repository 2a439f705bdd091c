/-
Who is there, by a mask's bits; what a frame keeps.
-/
import Derived.Test.YtbihnmingedgfaaHz
import Derived.Test.YtbihnmingedgfaaHoff
namespace Gm
open Go
set_option linter.unusedVariables false

/-- Bit k of a mask, as the program asks for it. -/
def bit (m : Int) (k : Nat) : Bool := bits .and .i64 (m / 2 ^ k) 1 == 1
def spawnTo (m : Int) (g : G) : Nat → G
  | 0 => g
  | k + 1 => if bit m k = true then spawn (spawnTo m g k) k else spawnTo m g k

structure Fresh (m : Int) (k : Nat) (g : G) : Prop where
  ok : Gm.ok g
  dice : 0 ≤ g.dice ∧ g.dice ≤ 18446744073709551615
  frame : g.frame = 0
  shots : g.shots = []
  on : ∀ j, (g.ship j).on = (decide (j < k) && bit m j)
theorem fresh_new (m d : Int) (hd : 0 ≤ d ∧ d ≤ 18446744073709551615) : Fresh m 0 (new d) := by
  refine ⟨⟨by show (0 : Int) ≤ 0; decide, by show (0 : Int) ≤ 1048576; decide, by show 0 ≤ 32; omega, fun i hi => ?_, fun i h => absurd h (by show ¬ i < 0; omega)⟩, hd, rfl, rfl, fun j => by simp [new, Ship.none]⟩
  exact (show okShip Ship.none from ⟨.inr rfl, by unfold inF Ship.none; decide, by unfold inF Ship.none; decide, by unfold slow Ship.none; decide, by unfold slow Ship.none; decide, by decide, by decide, by decide, by decide⟩)
theorem Fresh.next {m : Int} {k : Nat} {g : G} (h : Fresh m k g) (hk : k < 8) : Fresh m (k + 1) (if bit m k = true then spawn g k else g) := by
  by_cases hb : bit m k = true
  · rw [if_pos hb]
    have hp := place_bd g.dice
    refine ⟨⟨h.ok.1, h.ok.2.1, h.ok.2.2.1, fun i hi => ?_, h.ok.2.2.2.2⟩, hp.2.2, h.frame, h.shots, fun j => ?_⟩
    · show okShip (upd _ _ _ _)
      unfold upd
      split
      · exact ⟨.inl rfl, hp.1, hp.2.1, by unfold slow; dsimp only; omega, by unfold slow; dsimp only; omega, by dsimp only; omega, by dsimp only; omega, by dsimp only; omega, by dsimp only; omega⟩
      · exact h.ok.2.2.2.1 i hi
    · show (upd g.ship k _ j).on = _
      unfold upd
      by_cases e : j = k
      · subst e; simp [hb]
      · rw [if_neg e, h.on j]
        by_cases hlt : j < k
        · simp [hlt, show j < k + 1 by omega]
        · simp [hlt, show ¬ j < k + 1 by omega]
  · rw [if_neg hb]
    refine ⟨h.ok, h.dice, h.frame, h.shots, fun j => ?_⟩
    rw [h.on j]
    by_cases e : j = k
    · subst e; simp at hb; simp [hb]
    · by_cases hlt : j < k
      · simp [hlt, show j < k + 1 by omega]
      · simp [hlt, show ¬ j < k + 1 by omega]
theorem fresh_to (m d : Int) (hd : 0 ≤ d ∧ d ≤ 18446744073709551615) : ∀ k, k ≤ 8 → Fresh m k (spawnTo m (new d) k)
  | 0, _ => fresh_new m d hd
  | k + 1, hk => (fresh_to m d hd k (by omega)).next (by omega)

/-! What a frame keeps. -/
theorem moved_keeps (p : In) (n : Nat) (s : Ship) : (moved p n s).on = s.on ∧ (moved p n s).score = s.score := by
  unfold moved; split
  · rename_i h; exact ⟨h.symm, rfl⟩
  · exact ⟨rfl, rfl⟩
theorem ph1_keeps (ps : Nat → In) (g : G) : ∀ k j, ((ph1 ps g k).1 j).on = (g.ship j).on ∧ ((ph1 ps g k).1 j).score = (g.ship j).score
  | 0, _ => ⟨rfl, rfl⟩
  | k + 1, j => by
    have ih := ph1_keeps ps g k
    show ((upd (ph1 ps g k).1 k _ j)).on = _ ∧ (upd (ph1 ps g k).1 k _ j).score = _
    unfold upd
    split
    · rename_i e; subst e
      exact ⟨(moved_keeps _ _ _).1.trans (ih j).1, (moved_keeps _ _ _).2.trans (ih j).2⟩
    · exact ih j
def Rises (f f' : Nat → Ship) : Prop := ∀ j, j < 8 → (f' j).on = (f j).on ∧ (f j).score ≤ (f' j).score
theorem Rises.refl (f : Nat → Ship) : Rises f f := fun _ _ => ⟨rfl, Int.le_refl _⟩
theorem Rises.trans {f g h : Nat → Ship} (h1 : Rises f g) (h2 : Rises g h) : Rises f h := fun j hj => ⟨(h2 j hj).1.trans (h1 j hj).1, Int.le_trans (h1 j hj).2 (h2 j hj).2⟩
theorem anew_rises {d : Int} {f : Nat → Ship} {k : Nat} (hon : (f k).on = true) : Rises f (anew d f k) := fun j hj => by
  unfold anew upd
  split
  · rename_i e; subst e; exact ⟨hon.symm, Int.le_refl _⟩
  · exact ⟨rfl, Int.le_refl _⟩
theorem more_rises {f : Nat → Ship} {o : Nat} (h : ∀ i, i < 8 → okShip (f i)) : Rises f (more f o) := fun j hj => by
  unfold more
  split
  · unfold upd
    split
    · rename_i e; subst e
      have := (h j hj).2.2.2.2.2.2.2.2
      exact ⟨rfl, by dsimp only; omega⟩
    · exact ⟨rfl, Int.le_refl _⟩
  · exact ⟨rfl, Int.le_refl _⟩
theorem shot1_rises {st : St} {s : Shot} (h : Way2 st) : Rises st.ship (shot1 st s).ship := by
  unfold shot1
  split
  · exact Rises.refl _
  · split
    · exact Rises.refl _
    · rename_i hh
      rcases hit_bd st.ship (fly s) with e | ⟨k, e, hk, h1⟩
      · rw [e] at hh; exact absurd (by decide) hh
      · rw [e]
        have hon : (st.ship k).on = true := by unfold hits1 at h1; simp at h1; exact h1.1
        exact (anew_rises (d := st.dice) (by simpa using hon)).trans (more_rises (anew_ok h.ships (by simpa using hk)))
theorem ph2_rises {st : St} {l : List Shot} (h : Way2 st) (hl : ∀ t ∈ l, okShot t) : ∀ j, j ≤ l.length → Rises st.ship (ph2 st (l.take j)).ship
  | 0, _ => by simpa [ph2] using Rises.refl st.ship
  | j + 1, hj => by
    have ih := ph2_rises h hl j (by omega)
    rw [ph2_snoc st l j (by omega)]
    exact ih.trans (shot1_rises (ph2_way h hl j (by omega)).1)
structure Good (g : G) : Prop where
  ok : Gm.ok g
  dice : 0 ≤ g.dice ∧ g.dice ≤ 18446744073709551615
theorem step_good {ps : Nat → In} {g : G} (h : Good g) (hf : g.frame < 1048576) : Good (step ps g) ∧ (step ps g).frame = g.frame + 1 ∧ Rises g.ship (step ps g).ship := by
  have w8 := ph1_way (ps := ps) h.ok 8 (by omega)
  have st0 : Way2 ⟨g.dice, (ph1 ps g 8).1, []⟩ := ⟨w8.ships, fun t ht => (by cases ht), h.dice⟩
  have hw := ph2_way st0 w8.shots (ph1 ps g 8).2.length (Nat.le_refl _)
  have hr := ph2_rises st0 w8.shots (ph1 ps g 8).2.length (Nat.le_refl _)
  rw [List.take_length] at hw hr
  have hok := h.ok
  refine ⟨⟨⟨?_, ?_, ?_, hw.1.ships, fun i hi => hw.1.left _ (List.getElem_mem hi)⟩, hw.1.dice⟩, rfl, fun j hj => ?_⟩
  · show 0 ≤ g.frame + 1; have := hok.1; omega
  · show g.frame + 1 ≤ 1048576; omega
  · have h1 := hw.2
    have h2 := w8.len
    simp only [List.length_nil, Nat.zero_add] at h1
    exact Nat.le_trans h1 h2
  · have h1 := ph1_keeps ps g 8 j
    have h2 := hr j hj
    exact ⟨h2.1.trans h1.1, by rw [← h1.2]; exact h2.2⟩
end Gm
