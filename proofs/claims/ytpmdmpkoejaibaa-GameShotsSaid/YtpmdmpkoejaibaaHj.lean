/-
A shot that flies alone, plainly.
-/
import Derived.Test.YtpmdmpkoejaibaaHz
namespace Go.Proofs.Ytpmdmpkoejaibaa
open Go.RowKit
set_option linter.unusedVariables false

theorem okShip_off : Gm.okShip Gm.Ship.none := ⟨.inr rfl, by unfold Gm.inF Gm.Ship.none; decide, by unfold Gm.inF Gm.Ship.none; decide, by unfold Gm.slow Gm.Ship.none; decide, by unfold Gm.slow Gm.Ship.none; decide, by decide, by decide, by decide, by decide⟩
theorem ph1_none (g : Gm.G) (h : ∀ j, (g.ship j).on = false) : ∀ m, Gm.ph1 (fun _ => ⟨0, 0, 0⟩) g m = (g.ship, g.shots)
  | 0 => rfl
  | m + 1 => by
    have ih := ph1_none g h m
    show (Gm.upd (Gm.ph1 _ g m).1 m (Gm.moved _ (Gm.ph1 _ g m).2.length ((Gm.ph1 _ g m).1 m)), (Gm.ph1 _ g m).2 ++ Gm.made _ (Gm.ph1 _ g m).2.length m ((Gm.ph1 _ g m).1 m)) = _
    rw [ih]
    dsimp only
    rw [rest_made, List.append_nil]
    have e : Gm.moved ⟨0, 0, 0⟩ g.shots.length (g.ship m) = g.ship m := by unfold Gm.moved; rw [if_neg (by rw [h m]; decide)]
    rw [e]
    have e2 : Gm.upd g.ship m (g.ship m) = g.ship := by
      funext j; unfold Gm.upd; split
      · rename_i hj; rw [hj]
      · rfl
    rw [e2]
theorem hit_none_on (f : Nat → Gm.Ship) (s : Gm.Shot) (h : ∀ j, (f j).on = false) : Gm.hit f s = -1 := by
  rcases Gm.hit_bd f s with h1 | ⟨k, h1, h2, h3⟩
  · exact h1
  · unfold Gm.hits1 at h3; rw [h k] at h3; simp at h3

/-- The game of GameShots, once f frames have gone. -/
def shotGame (d px py vx vy : Int) (f : Nat) : Gm.G := ⟨f, d, fun _ => Gm.Ship.none, if f < 24 then [⟨2, px, py, vx, vy, 24 - f⟩] else []⟩
theorem shotGame_len (d px py vx vy : Int) (f : Nat) : (shotGame d px py vx vy f).shots.length = if f < 24 then 1 else 0 := by
  unfold shotGame; dsimp only; split <;> rfl
theorem shotGame_ok {d px py vx vy : Int} {f : Nat} (hx : 0 ≤ px ∧ px < 16777216) (hy : 0 ≤ py ∧ py < 16777216) (hvx : -393216 ≤ vx ∧ vx ≤ 393216) (hvy : -393216 ≤ vy ∧ vy ≤ 393216) (hf : f ≤ 31) : Gm.ok (shotGame d px py vx vy f) := by
  refine ⟨by show (0 : Int) ≤ (f : Int); omega, by show (f : Int) ≤ 1048576; omega, by rw [shotGame_len]; split <;> omega, fun j hj => okShip_off, fun j h => ?_⟩
  by_cases hlt : f < 24
  · have e : (shotGame d px py vx vy f).shots = [⟨2, px, py, vx, vy, 24 - f⟩] := by unfold shotGame; dsimp only; rw [if_pos hlt]
    have hj : j = 0 := by rw [e] at h; simp at h; exact h
    subst hj
    have e2 : (shotGame d px py vx vy f).shots[0] = ⟨2, px, py, vx, vy, 24 - f⟩ := by simp only [e]; rfl
    rw [e2]
    exact ⟨by dsimp only; omega, by dsimp only; omega, hx, hy, by unfold Gm.slow; dsimp only; omega, by unfold Gm.slow; dsimp only; omega, by dsimp only; omega, by dsimp only; omega⟩
  · rw [shotGame_len, if_neg hlt] at h; omega
theorem shotGame_step (d px py vx vy : Int) (f : Nat) : Gm.step (fun _ => ⟨0, 0, 0⟩) (shotGame d px py vx vy f) = shotGame d (Gf.move px vx) (Gf.move py vy) vx vy (f + 1) := by
  have hoff : ∀ j, ((shotGame d px py vx vy f).ship j).on = false := fun _ => rfl
  unfold Gm.step
  rw [ph1_none _ hoff]
  dsimp only
  by_cases h1 : f < 24
  · have e : (shotGame d px py vx vy f).shots = [⟨2, px, py, vx, vy, 24 - f⟩] := by unfold shotGame; dsimp only; rw [if_pos h1]
    rw [e]
    show (⟨_, (Gm.shot1 ⟨d, fun _ => Gm.Ship.none, []⟩ ⟨2, px, py, vx, vy, 24 - f⟩).dice, (Gm.shot1 ⟨d, fun _ => Gm.Ship.none, []⟩ ⟨2, px, py, vx, vy, 24 - f⟩).ship, (Gm.shot1 ⟨d, fun _ => Gm.Ship.none, []⟩ ⟨2, px, py, vx, vy, 24 - f⟩).left⟩ : Gm.G) = _
    have hfl : Gm.fly ⟨2, px, py, vx, vy, 24 - f⟩ = ⟨2, Gf.move px vx, Gf.move py vy, vx, vy, 24 - (f : Int) - 1⟩ := rfl
    unfold Gm.shot1
    rw [hfl]
    dsimp only
    by_cases h2 : f = 23
    · subst h2
      rfl
    · rw [if_neg (show ¬ (24 - (f : Int) - 1 = 0) by omega), hit_none_on _ _ (fun _ => rfl), if_pos (by decide)]
      unfold shotGame
      rw [if_pos (show f + 1 < 24 by omega)]
      dsimp only
      rw [List.nil_append, show (24 - (f : Int) - 1) = 24 - ((f + 1 : Nat) : Int) from by omega]
      rfl
  · have e : (shotGame d px py vx vy f).shots = [] := by unfold shotGame; dsimp only; rw [if_neg h1]
    rw [e]
    unfold shotGame
    rw [if_neg (show ¬ f + 1 < 24 by omega)]
    rfl
end Go.Proofs.Ytpmdmpkoejaibaa
