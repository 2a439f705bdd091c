/-
A ship alone, plainly.
-/
import Derived.Test.YtpmdmpkoejaibaaPs
namespace Gm
open Go
set_option linter.unusedVariables false

/-- The times that shots have left, with a ship that cools so long. -/
structure Spaced (cool : Int) (L : List Int) : Prop where
  bd : ∀ x ∈ L, 1 ≤ x ∧ x ≤ 23 ∧ x ≤ 13 + cool
  gap : L.Pairwise (fun a b => a + 11 ≤ b)
theorem Spaced.len {cool : Int} {L : List Int} (h : Spaced cool L) : L.length ≤ 3 := by
  match L, h with
  | [], _ => simp
  | [_], _ => simp
  | [_, _], _ => simp
  | [_, _, _], _ => simp
  | a :: b :: c :: d :: L, h =>
    exfalso
    have h1 := h.gap
    simp only [List.pairwise_cons] at h1
    have ha := (h.bd a (by simp)).1
    have hd := (h.bd d (by simp)).2.1
    have e1 := h1.1 b (by simp)
    have e2 := h1.2.1 c (by simp)
    have e3 := h1.2.2.1 d (by simp)
    omega
def later (L : List Int) : List Int := (L.map (· - 1)).filter (fun x => decide (x ≠ 0))
theorem pw_later {L : List Int} (h : L.Pairwise (fun a b => a + 11 ≤ b)) : (later L).Pairwise (fun a b => a + 11 ≤ b) := by
  unfold later
  refine List.Pairwise.filter _ ?_
  rw [List.pairwise_map]
  exact h.imp (by intro a b h; omega)
theorem mem_later {L : List Int} {y : Int} (h : y ∈ later L) : ∃ x ∈ L, y = x - 1 ∧ y ≠ 0 := by
  unfold later at h
  rw [List.mem_filter, List.mem_map] at h
  obtain ⟨⟨x, hx, rfl⟩, h2⟩ := h
  exact ⟨x, hx, rfl, by simpa using h2⟩
theorem Spaced.rest {cool cool' : Int} {L : List Int} (h : Spaced cool L) (hc : cool' = cool - 1 ∨ cool' = cool) (h0 : 0 ≤ cool) (h0' : 0 ≤ cool') : Spaced cool' (later L) := by
  refine ⟨fun y hy => ?_, pw_later h.gap⟩
  obtain ⟨x, hx, rfl, hy0⟩ := mem_later hy
  have := h.bd x hx
  omega
theorem Spaced.shot {L : List Int} (h : Spaced 0 L) : Spaced 10 (later (L ++ [24])) := by
  refine ⟨fun y hy => ?_, ?_⟩
  · obtain ⟨x, hx, rfl, hy0⟩ := mem_later hy
    rcases List.mem_append.1 hx with hx | hx
    · have := h.bd x hx; omega
    · rcases List.mem_singleton.1 hx with rfl; omega
  · refine pw_later ?_
    rw [List.pairwise_append]
    refine ⟨h.gap, by simp, fun a ha b hb => ?_⟩
    rcases List.mem_singleton.1 hb with rfl
    have := h.bd a ha
    omega
theorem later_len (L : List Int) : (later L).length ≤ L.length := by
  unfold later
  exact Nat.le_trans (List.length_filter_le _ _) (by simp)

structure Alone (k : Nat) (x y vx vy cool d : Int) (made : Nat) (g : G) : Prop where
  good : Good g
  ship : g.ship k = ⟨true, x, y, vx, vy, cool, 0⟩
  off : ∀ j, j ≠ k → (g.ship j).on = false
  dice : g.dice = d
  own : ∀ s ∈ g.shots, s.owner = (k : Int)
  left : Spaced cool (g.shots.map Shot.left)
  few : g.shots.length ≤ made

def oneIn (k : Nat) (p : In) : Nat → In := fun j => if j = k then p else ⟨0, 0, 0⟩
theorem ph1_alone {g : G} {k : Nat} {p : In} (hoff : ∀ j, j ≠ k → (g.ship j).on = false) : ∀ m,
    (ph1 (oneIn k p) g m).2 = (if k < m then g.shots ++ made p g.shots.length k (g.ship k) else g.shots) ∧ ∀ j, (ph1 (oneIn k p) g m).1 j = if j = k ∧ k < m then moved p g.shots.length (g.ship k) else g.ship j
  | 0 => ⟨by rw [if_neg (by omega)]; rfl, fun j => by rw [if_neg (by omega)]; rfl⟩
  | m + 1 => by
    obtain ⟨h1, h2⟩ := ph1_alone (p := p) hoff m
    have hs : (ph1 (oneIn k p) g m).1 m = g.ship m := by rw [h2 m, if_neg (by omega)]
    by_cases e : m = k
    · subst e
      have e1 : (ph1 (oneIn m p) g m).2 = g.shots := by rw [h1, if_neg (by omega)]
      have e2 : oneIn m p m = p := if_pos rfl
      refine ⟨?_, fun j => ?_⟩
      · show (ph1 _ g m).2 ++ made (oneIn m p m) _ _ _ = _
        rw [e1, hs, e2, if_pos (by omega)]
      · show upd (ph1 _ g m).1 m (moved (oneIn m p m) _ _) j = _
        rw [e1, hs, e2]
        unfold upd
        by_cases ej : j = m
        · rw [if_pos ej, if_pos ⟨ej, by omega⟩]
        · rw [if_neg ej, if_neg (by omega), h2 j, if_neg (by omega)]
    · have hf : (g.ship m).on = false := hoff m e
      have hmv : ∀ n q, moved q n (g.ship m) = g.ship m := fun n q => by unfold moved; rw [hf]; rfl
      have hmd : ∀ n q, made q n m (g.ship m) = [] := fun n q => by unfold made; rw [hf]; simp
      refine ⟨?_, fun j => ?_⟩
      · show (ph1 _ g m).2 ++ made _ _ _ _ = _
        rw [hs, hmd, List.append_nil, h1]
        by_cases hlt : k < m
        · rw [if_pos hlt, if_pos (by omega)]
        · rw [if_neg hlt, if_neg (by omega)]
      · show upd (ph1 _ g m).1 m (moved _ _ _) j = _
        rw [hs, hmv]
        unfold upd
        by_cases ej : j = m
        · subst ej; rw [if_pos rfl, if_neg (by omega)]
        · rw [if_neg ej, h2 j]
          by_cases hlt : k < m
          · by_cases ek : j = k
            · rw [if_pos ⟨ek, hlt⟩, if_pos ⟨ek, by omega⟩]
            · rw [if_neg (by omega), if_neg (by omega)]
          · rw [if_neg (by omega)]
            by_cases ek : j = k
            · by_cases hm : k < m + 1
              · omega
              · rw [if_neg (by omega)]
            · rw [if_neg (by omega)]
/-- Of shots that are all the lone ship's nobody is hit. -/
theorem ph2_alone {f : Nat → Ship} {k : Nat} (hoff : ∀ j, j ≠ k → (f j).on = false) : ∀ (l acc : List Shot) (d : Int), (∀ s ∈ l, s.owner = (k : Int)) →
    ph2 ⟨d, f, acc⟩ l = ⟨d, f, acc ++ (l.map fly).filter (fun s => decide (s.left ≠ 0))⟩
  | [], acc, d, _ => by simp [ph2]
  | s :: l, acc, d, h => by
    have hs : s.owner = (k : Int) := h s (by simp)
    have hh : hit f (fly s) = -1 := by
      rcases hit_bd f (fly s) with e | ⟨j, e, hj, h1⟩
      · exact e
      · exfalso
        unfold hits1 at h1
        by_cases ej : j = k
        · subst ej
          have : (fly s).owner = (j : Int) := hs
          rw [this] at h1; simp at h1
        · rw [hoff j ej] at h1; simp at h1
    show ph2 (shot1 ⟨d, f, acc⟩ s) l = _
    unfold shot1
    dsimp only
    rw [hh]
    by_cases h0 : (fly s).left = 0
    · rw [if_pos h0, ph2_alone hoff l acc d (fun s hs => h s (by simp [hs]))]
      simp [h0]
    · rw [if_neg h0, if_pos (by decide), ph2_alone hoff l (acc ++ [fly s]) d (fun s hs => h s (by simp [hs]))]
      simp [h0]
theorem fly_left (l : List Shot) : ((l.map fly).filter (fun s => decide (s.left ≠ 0))).map Shot.left = later (l.map Shot.left) := by
  induction l with
  | nil => rfl
  | cons s l ih =>
    have e : (fly s).left = s.left - 1 := rfl
    unfold later at *
    simp only [List.map_cons, List.filter_cons, e]
    split
    · rw [List.map_cons, e, ih]
    · exact ih
theorem tame_id {a : Int} (h : a ≠ -128) : Gf.tame a = a := by unfold Gf.tame; rw [if_neg h]
/-- What a frame makes of a ship alone. -/
theorem Alone.step {k : Nat} {x y vx vy cool d : Int} {made : Nat} {g : G} {p : In} (h : Alone k x y vx vy cool d made g) (hk : k < 8) (hf : g.frame < 1048576) (hx : p.x ≠ -128) (hy : p.y ≠ -128) (hb : 0 ≤ p.b) :
    Alone k (Gf.move x (Gf.push vx p.x)) (Gf.move y (Gf.push vy p.y)) (Gf.push vx p.x) (Gf.push vy p.y) (if 0 < cool then cool - 1 else if p.b % 2 = 1 then 10 else cool) d (if 0 < cool then made else if p.b % 2 = 1 then made + 1 else made) (Gm.step (oneIn k p) g) ∧ (Gm.step (oneIn k p) g).frame = g.frame + 1 := by
  obtain ⟨good', hfr, _⟩ := step_good (ps := oneIn k p) h.good hf
  obtain ⟨h1, h2⟩ := ph1_alone (p := p) h.off 8
  rw [if_pos hk] at h1
  obtain ⟨f, hfE⟩ : ∃ f, f = (ph1 (oneIn k p) g 8).1 := ⟨_, rfl⟩
  rw [← hfE] at h2
  have hlen : g.shots.length ≤ 3 := by have := h.left.len; simpa using this
  have hcool : 0 ≤ cool ∧ cool ≤ 10 := by
    have := (h.good.ok.2.2.2.1 k hk); rw [h.ship] at this
    exact ⟨this.2.2.2.2.2.1, this.2.2.2.2.2.2.1⟩
  have hsh : ∀ s : Ship, s.cool = cool → shoots p g.shots.length s = (decide (cool ≤ 0) && decide (p.b % 2 = 1)) := fun s hs => by
    unfold shoots; rw [hs, decide_eq_true (show g.shots.length < 32 by omega), Bool.and_true]
  have fk : f k = ⟨true, Gf.move x (Gf.push vx p.x), Gf.move y (Gf.push vy p.y), Gf.push vx p.x, Gf.push vy p.y, if 0 < cool then cool - 1 else if p.b % 2 = 1 then 10 else cool, 0⟩ := by
    rw [h2 k, if_pos ⟨rfl, hk⟩, h.ship]
    unfold moved nx ny nvx nvy
    rw [if_pos rfl, hsh _ rfl, tame_id hx, tame_id hy]
    dsimp only
    by_cases hc : 0 < cool
    · rw [if_pos hc, if_pos hc]
    · rw [if_neg hc, if_neg hc, decide_eq_true (show cool ≤ 0 by omega), Bool.true_and]
      by_cases hp : p.b % 2 = 1
      · rw [if_pos hp, if_pos (decide_eq_true hp)]
      · rw [if_neg hp, if_neg (by simp [hp])]
  have foff : ∀ j, j ≠ k → (f j).on = false := fun j hj => by rw [h2 j, if_neg (fun e => hj e.1)]; exact h.off j hj
  have hown : ∀ s ∈ g.shots ++ Gm.made p g.shots.length k (g.ship k), s.owner = (k : Int) := fun s hs => by
    rcases List.mem_append.1 hs with hs | hs
    · exact h.own s hs
    · unfold Gm.made at hs
      split at hs
      · rcases List.mem_singleton.1 hs with rfl; rfl
      · cases hs
  have hst : Gm.step (oneIn k p) g = ⟨g.frame + 1, g.dice, f, ((g.shots ++ Gm.made p g.shots.length k (g.ship k)).map fly).filter (fun s => decide (s.left ≠ 0))⟩ := by
    unfold Gm.step
    rw [← hfE, h1]
    dsimp only
    rw [ph2_alone foff _ _ _ hown]
    simp
  refine ⟨?_, hfr⟩
  refine ⟨good', by rw [hst]; exact fk, fun j hj => by rw [hst]; exact foff j hj, by rw [hst]; exact h.dice, fun s hs => ?_, ?_, ?_⟩
  · rw [hst] at hs
    have hs := (List.mem_filter.1 hs).1
    obtain ⟨t, ht, rfl⟩ := List.mem_map.1 hs
    exact hown t ht
  · rw [hst]
    dsimp only
    rw [fly_left, List.map_append]
    by_cases hc : 0 < cool
    · have e : Gm.made p g.shots.length k (g.ship k) = [] := by
        unfold Gm.made; rw [if_neg]; rw [hsh _ (by rw [h.ship])]; simp; omega
      rw [e, if_pos hc]
      simp only [List.map_nil, List.append_nil]
      exact h.left.rest (.inl rfl) hcool.1 (by omega)
    · have hc0 : cool = 0 := by omega
      rw [if_neg hc]
      by_cases hp : p.b % 2 = 1
      · have e : (Gm.made p g.shots.length k (g.ship k)).map Shot.left = [24] := by
          unfold Gm.made; rw [if_pos]
          · rfl
          · rw [hsh _ (by rw [h.ship]), h.ship]; simp [hp]; omega
        rw [e, if_pos hp]
        have := h.left
        rw [hc0] at this
        exact this.shot
      · have e : Gm.made p g.shots.length k (g.ship k) = [] := by
          unfold Gm.made; rw [if_neg]; rw [hsh _ (by rw [h.ship])]; simp [hp]
        rw [e, if_neg hp]
        simp only [List.map_nil, List.append_nil]
        exact h.left.rest (.inr rfl) hcool.1 hcool.1
  · rw [hst]
    dsimp only
    refine Nat.le_trans (List.length_filter_le _ _) ?_
    rw [List.length_map, List.length_append]
    have h3 := h.few
    unfold Gm.made
    by_cases hc : 0 < cool
    · rw [if_pos hc, if_neg (by rw [hsh _ (by rw [h.ship])]; simp; omega)]
      simpa using h3
    · rw [if_neg hc]
      by_cases hp : p.b % 2 = 1
      · rw [if_pos hp]
        split
        · simp; omega
        · simp; omega
      · rw [if_neg hp, if_neg (by rw [hsh _ (by rw [h.ship])]; simp [hp])]
        simpa using h3
end Gm
