/-
Inputs of slots that nobody has are nothing; without buttons each ship goes by itself: plainly.
-/
import Derived.Test.YtbihnmingedgfaaPs
namespace Gm
open Go
set_option linter.unusedVariables false

theorem moved_off {p : In} {n : Nat} {s : Ship} (h : s.on = false) : moved p n s = s := by unfold moved; rw [h]; rfl
theorem made_off {p : In} {n i : Nat} {s : Ship} (h : s.on = false) : made p n i s = [] := by unfold made; rw [h]; simp
/-- Inputs that agree where there are ships make the same frame. -/
theorem ph1_congr {a b : Nat → In} {g : G} (h : ∀ i, i < 8 → (g.ship i).on = true → a i = b i) : ∀ m, m ≤ 8 → ph1 a g m = ph1 b g m
  | 0, _ => rfl
  | m + 1, hm => by
    have ih := ph1_congr h m (by omega)
    have hs : (ph1 b g m).1 m = g.ship m := ph1_later b g m m (Nat.le_refl _)
    show (upd (ph1 a g m).1 m (moved (a m) (ph1 a g m).2.length ((ph1 a g m).1 m)), (ph1 a g m).2 ++ made (a m) (ph1 a g m).2.length m ((ph1 a g m).1 m)) = (upd (ph1 b g m).1 m (moved (b m) (ph1 b g m).2.length ((ph1 b g m).1 m)), (ph1 b g m).2 ++ made (b m) (ph1 b g m).2.length m ((ph1 b g m).1 m))
    rw [ih, hs]
    cases hon : (g.ship m).on
    · rw [moved_off hon, moved_off hon, made_off hon, made_off hon]
    · rw [h m (by omega) hon]
theorem step_congr {a b : Nat → In} {g : G} (h : ∀ i, i < 8 → (g.ship i).on = true → a i = b i) : step a g = step b g := by
  unfold step; rw [ph1_congr h 8 (Nat.le_refl _)]
theorem calm_made {p : In} (hp : p.b = 0) (n i : Nat) (s : Ship) : made p n i s = [] := by
  unfold made shoots; rw [hp]; simp
/-- Without buttons and shots: each ship by itself. -/
theorem ph1_calm' {a : Nat → In} {g : G} (hb : ∀ i, (a i).b = 0) (hs : g.shots = []) : ∀ m, (ph1 a g m).2 = [] ∧ ∀ j, (ph1 a g m).1 j = if j < m then moved (a j) 0 (g.ship j) else g.ship j
  | 0 => ⟨hs, fun j => by rw [if_neg (by omega)]; rfl⟩
  | m + 1 => by
    obtain ⟨h1, h2⟩ := ph1_calm' hb hs m
    refine ⟨?_, fun j => ?_⟩
    · show (ph1 a g m).2 ++ made _ _ _ _ = _
      rw [calm_made (hb m), List.append_nil, h1]
    · show upd (ph1 a g m).1 m (moved (a m) (ph1 a g m).2.length ((ph1 a g m).1 m)) j = _
      unfold upd
      by_cases e : j = m
      · subst e; rw [if_pos rfl, if_pos (by omega), h1, h2 j, if_neg (by omega)]; rfl
      · rw [if_neg e, h2 j]
        by_cases hlt : j < m
        · rw [if_pos hlt, if_pos (by omega)]
        · rw [if_neg hlt, if_neg (by omega)]
theorem step_calm {a : Nat → In} {g : G} (hb : ∀ i, (a i).b = 0) (hs : g.shots = []) :
    (step a g).shots = [] ∧ (step a g).dice = g.dice ∧ ∀ j, j < 8 → (step a g).ship j = moved (a j) 0 (g.ship j) := by
  obtain ⟨h1, h2⟩ := ph1_calm' hb hs 8
  have e : step a g = ⟨g.frame + 1, g.dice, (ph1 a g 8).1, []⟩ := by
    unfold step
    rw [h1]
    rfl
  rw [e]
  exact ⟨rfl, rfl, fun j hj => by show (ph1 a g 8).1 j = _; rw [h2 j, if_pos hj]⟩
theorem moved_on {p : In} {n : Nat} {s : Ship} (h : s.on = true) : (moved p n s).on = true ∧ (moved p n s).vx = Gf.push s.vx (Gf.tame p.x) ∧ (moved p n s).vy = Gf.push s.vy (Gf.tame p.y) ∧ (moved p n s).x = Gf.move s.x (moved p n s).vx ∧ (moved p n s).y = Gf.move s.y (moved p n s).vy := by
  unfold moved; rw [if_pos h]; exact ⟨rfl, rfl, rfl, rfl, rfl⟩
end Gm
