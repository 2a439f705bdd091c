/-
A hit, plainly: what a frame makes of the game of GameHit.
-/
import Derived.Test.YtbihnmingedgfaaHp
namespace Go.Proofs.Ytbihnmingedgfaa
open Go.RowKit
set_option linter.unusedVariables false

theorem rest_made (n i : Nat) (s : Gm.Ship) : Gm.made ⟨0, 0, 0⟩ n i s = [] := by
  unfold Gm.made Gm.shoots; simp
/-- Nobody shoots: the ships go each by itself. -/
theorem ph1_calm (g : Gm.G) : ∀ m, m ≤ 8 → (Gm.ph1 (fun _ => ⟨0, 0, 0⟩) g m).2 = g.shots ∧ ∀ j, (Gm.ph1 (fun _ => ⟨0, 0, 0⟩) g m).1 j = if j < m then Gm.moved ⟨0, 0, 0⟩ g.shots.length (g.ship j) else g.ship j
  | 0, _ => ⟨rfl, fun j => by rw [if_neg (by omega)]; rfl⟩
  | m + 1, hm => by
    obtain ⟨h1, h2⟩ := ph1_calm g m (by omega)
    refine ⟨?_, fun j => ?_⟩
    · show (Gm.ph1 _ g m).2 ++ Gm.made _ _ _ _ = _
      rw [rest_made, List.append_nil, h1]
    · show Gm.upd (Gm.ph1 _ g m).1 m (Gm.moved _ (Gm.ph1 _ g m).2.length ((Gm.ph1 _ g m).1 m)) j = _
      unfold Gm.upd
      by_cases e : j = m
      · subst e; rw [if_pos rfl, if_pos (by omega), h1, h2 j, if_neg (by omega)]
      · rw [if_neg e, h2 j]
        by_cases hlt : j < m
        · rw [if_pos hlt, if_pos (by omega)]
        · rw [if_neg hlt, if_neg (by omega)]
theorem push_0 : Gf.push 0 0 = 0 := by decide +kernel
theorem push_5 : Gf.push 5 0 = 5 := by decide +kernel
theorem move_0 {y : Int} (h : 0 ≤ y ∧ y < 16777216) : Gf.move y 0 = y := by unfold Gf.move; omega
theorem hit_is {f : Nat → Gm.Ship} {s : Gm.Shot} {k : Nat} (hk : k < 8) (h : ∀ j, j < 8 → (Gm.hits1 f s j = true ↔ j = k)) : Gm.hit f s = k := by
  rcases Gm.hit_bd f s with h1 | ⟨k', h1, h2, h3⟩
  · exfalso
    have key : ∀ n i, i + n = 8 → i ≤ k → Gm.hitFrom f s n i ≠ -1 := by
      intro n
      induction n with
      | zero => intro i h1 h2; omega
      | succ n ih =>
        intro i h1 h2
        cases hh : Gm.hits1 f s i
        · rw [Gm.hitFrom_no hh]
          refine ih (i + 1) (by omega) ?_
          have : i ≠ k := fun e => by subst e; rw [(h i hk).2 rfl] at hh; cases hh
          omega
        · rw [Gm.hitFrom_yes hh]; omega
    exact key 8 0 rfl (by omega) h1
  · rw [h1, (h k' h2).1 h3]

/-- The game of GameHit. -/
def hitGame (d px py n : Int) (i k : Nat) : Gm.G := ⟨0, d, Gm.upd (Gm.upd (fun _ => Gm.Ship.none) i ⟨true, Gf.move px 8388608, py, 0, 0, 0, n⟩) k ⟨true, px, py, 5, 0, 4, 7⟩, [⟨i, px, py, 65536, 0, 9⟩]⟩
theorem hitGame_ok {d px py n : Int} {i k : Nat} (hx : 0 ≤ px ∧ px < 16777216) (hy : 0 ≤ py ∧ py < 16777216) (hn : 0 ≤ n ∧ n ≤ 1073741824) (hi : i < 8) (hk : k < 8) : Gm.ok (hitGame d px py n i k) := by
  have hm := Gf.move_bd px 8388608
  refine ⟨by show (0 : Int) ≤ 0; decide, by show (0 : Int) ≤ 1048576; decide, by show 1 ≤ 32; omega, fun j hj => ?_, fun j h => ?_⟩
  · show Gm.okShip (Gm.upd (Gm.upd _ _ _) _ _ j)
    unfold Gm.upd
    split
    · exact ⟨.inl rfl, hx, hy, by unfold Gm.slow; dsimp only; omega, by unfold Gm.slow; dsimp only; omega, by dsimp only; omega, by dsimp only; omega, by dsimp only; omega, by dsimp only; omega⟩
    · split
      · exact ⟨.inl rfl, hm, hy, by unfold Gm.slow; dsimp only; omega, by unfold Gm.slow; dsimp only; omega, by dsimp only; omega, by dsimp only; omega, hn.1, hn.2⟩
      · exact (show Gm.okShip Gm.Ship.none from ⟨.inr rfl, by unfold Gm.inF Gm.Ship.none; decide, by unfold Gm.inF Gm.Ship.none; decide, by unfold Gm.slow Gm.Ship.none; decide, by unfold Gm.slow Gm.Ship.none; decide, by decide, by decide, by decide, by decide⟩)
  · have hj : j = 0 := by simp [hitGame] at h; omega
    subst hj
    show Gm.okShot ⟨i, px, py, 65536, 0, 9⟩
    exact ⟨by dsimp only; omega, by dsimp only; omega, hx, hy, by unfold Gm.slow; dsimp only; omega, by unfold Gm.slow; dsimp only; omega, by dsimp only; omega, by dsimp only; omega⟩
theorem hitGame_step {d px py n : Int} {i k : Nat} (hx : 0 ≤ px ∧ px < 16777216) (hy : 0 ≤ py ∧ py < 16777216) (hi : i < 8) (hk : k < 8) (hne : i ≠ k) :
    (Gm.step (fun _ => ⟨0, 0, 0⟩) (hitGame d px py n i k)).shots = [] ∧ (Gm.step (fun _ => ⟨0, 0, 0⟩) (hitGame d px py n i k)).dice = Gm.placeD d ∧
    (Gm.step (fun _ => ⟨0, 0, 0⟩) (hitGame d px py n i k)).ship k = ⟨true, Gm.placeX d, Gm.placeY d, 0, 0, 0, 7⟩ ∧ ((Gm.step (fun _ => ⟨0, 0, 0⟩) (hitGame d px py n i k)).ship i).score = min (n + 1) 1073741824 := by
  obtain ⟨h1, h2⟩ := ph1_calm (hitGame d px py n i k) 8 (by omega)
  obtain ⟨f, hf⟩ : ∃ f, f = (Gm.ph1 (fun _ => ⟨0, 0, 0⟩) (hitGame d px py n i k) 8).1 := ⟨_, rfl⟩
  rw [← hf] at h2
  have fk : f k = ⟨true, Gf.move px 5, py, 5, 0, 3, 7⟩ := by
    rw [h2 k, if_pos hk, show (hitGame d px py n i k).ship k = ⟨true, px, py, 5, 0, 4, 7⟩ from Gm.upd_same _ _ _]
    unfold Gm.moved Gm.nx Gm.ny Gm.nvx Gm.nvy
    rw [show Gf.tame 0 = 0 from rfl]
    dsimp only
    rw [push_5, push_0, move_0 hy, if_pos rfl, if_pos (by omega)]
    rfl
  have fi : (f i).on = true ∧ (f i).score = n := by
    rw [h2 i, if_pos hi, show (hitGame d px py n i k).ship i = ⟨true, Gf.move px 8388608, py, 0, 0, 0, n⟩ from (Gm.upd_other _ _ hne).trans (Gm.upd_same _ _ _)]
    unfold Gm.moved
    exact ⟨rfl, rfl⟩
  have fo : ∀ j, j < 8 → j ≠ i → j ≠ k → (f j).on = false := fun j hj h3 h4 => by
    rw [h2 j, if_pos hj, show (hitGame d px py n i k).ship j = Gm.Ship.none from (Gm.upd_other _ _ h4).trans (Gm.upd_other _ _ h3)]
    rfl
  have hfly : Gm.fly ⟨i, px, py, 65536, 0, 9⟩ = ⟨i, Gf.move px 65536, py, 65536, 0, 8⟩ := by
    unfold Gm.fly; dsimp only; rw [move_0 hy]; rfl
  have hit : Gm.hit f ⟨i, Gf.move px 65536, py, 65536, 0, 8⟩ = k := by
    refine hit_is hk fun j hj => ⟨fun h => ?_, fun e => ?_⟩
    · by_cases e1 : j = k
      · exact e1
      · exfalso
        by_cases e2 : j = i
        · subst e2; unfold Gm.hits1 at h; simp at h
        · unfold Gm.hits1 at h; rw [fo j hj e2 e1] at h; simp at h
    · subst e
      unfold Gm.hits1
      rw [fk]
      dsimp only
      have e3 : decide ((j : Int) ≠ (i : Int)) = true := by simp; omega
      rw [e3, Bool.true_and, Bool.true_and]
      unfold Gf.hits Gf.near Gf.gap Gf.move
      rw [Bool.and_eq_true, Bool.and_eq_true, Bool.and_eq_true]
      refine ⟨⟨decide_eq_true ?_, decide_eq_true ?_⟩, decide_eq_true ?_, decide_eq_true ?_⟩ <;> omega
  have hst : Gm.ph2 ⟨d, f, []⟩ [⟨i, px, py, 65536, 0, 9⟩] = ⟨Gm.placeD d, Gm.more (Gm.anew d f k) i, []⟩ := by
    show Gm.shot1 ⟨d, f, []⟩ ⟨i, px, py, 65536, 0, 9⟩ = _
    unfold Gm.shot1
    rw [hfly]
    dsimp only
    rw [if_neg (by omega), hit, if_neg (by omega)]
    rfl
  have hstep : Gm.step (fun _ => ⟨0, 0, 0⟩) (hitGame d px py n i k) = ⟨0 + 1, Gm.placeD d, Gm.more (Gm.anew d f k) i, []⟩ := by
    unfold Gm.step
    rw [← hf, h1]
    show (⟨_, (Gm.ph2 ⟨d, f, []⟩ [⟨i, px, py, 65536, 0, 9⟩]).dice, (Gm.ph2 ⟨d, f, []⟩ [⟨i, px, py, 65536, 0, 9⟩]).ship, (Gm.ph2 ⟨d, f, []⟩ [⟨i, px, py, 65536, 0, 9⟩]).left⟩ : Gm.G) = _
    rw [hst]
    rfl
  rw [hstep]
  have ha : (Gm.anew d f k i) = f i := by unfold Gm.anew; exact Gm.upd_other _ _ hne
  have hmore : Gm.more (Gm.anew d f k) i = Gm.upd (Gm.anew d f k) i { f i with score := min (n + 1) 1073741824 } := by
    unfold Gm.more; rw [ha, if_pos fi.1, fi.2]
  refine ⟨rfl, rfl, ?_, ?_⟩
  · dsimp only
    rw [hmore, Gm.upd_other _ _ (fun e => hne e.symm)]
    unfold Gm.anew
    rw [Gm.upd_same, fk]
  · dsimp only
    rw [hmore, Gm.upd_same]
end Go.Proofs.Ytbihnmingedgfaa
