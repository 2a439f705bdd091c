/-
The program's game: a shot in its list; who is hit first.
-/
import Derived.Test.YtbihnmingedgfaaHq
import Derived.Test.YtbihnmingedgfaaRt
namespace Go.Proofs.Ytbihnmingedgfaa
open Go.RowKit Go.Shelf
set_option linter.unusedVariables false

theorem shotCells_set (L : List Gm.Shot) (i j : Nat) (hi : i < L.length) (hj : j < 6) (u : Value) (s' : Gm.Shot) (h : L[i].cells.set j u = s'.cells) : (Gm.shotCells L).set (i * 6 + j) u = Gm.shotCells (L.set i s') := by
  induction L generalizing i with
  | nil => simp at hi
  | cons a L ih =>
    unfold Gm.shotCells at *
    match i with
    | 0 =>
      rw [List.set_cons_zero, List.flatMap_cons, List.flatMap_cons, List.set_append_left _ _ (by simp [Gm.Shot.cells]; omega)]
      congr 1
      simpa using h
    | i + 1 =>
      have hlen : a.cells.length = 6 := rfl
      rw [List.set_cons_succ, List.flatMap_cons, List.flatMap_cons, List.set_append_right _ _ (by rw [hlen]; omega), ← ih i (by simpa using hi) (by simpa using h), hlen]
      congr 2
      omega
/-- A game whose shot i is s. -/
abbrev flyG (G : Gm.G) (i : Nat) (s : Gm.Shot) : Gm.G := { G with shots := G.shots.set i s }
theorem flyG_self (G : Gm.G) (i : Nat) (hi : i < G.shots.length) : flyG G i G.shots[i] = G := by
  unfold flyG; rw [List.set_getElem_self]
theorem HasAt.len {b B c : Nat} {A : Option Addr} {g : Gm.G} {w : World} (h : HasAt b B A c g w) (hn : g.shots.length ≠ 0) : ∃ gs, A = some ⟨gs, 0, none⟩ ∧ b ≤ gs ∧ gs < w.heap.size := by
  obtain ⟨_, ⟨_, h0⟩ | ⟨g', cap, cur, hv, hb, hg, _⟩⟩ := h.own
  · exact absurd h0 hn
  · injection hv with hv
    exact ⟨g', hv, hb, (Array.getElem?_eq_some_iff.1 hg).1⟩
section
variable {b B c gs i : Nat} {G : Gm.G} {s : Gm.Shot} {W : World}
theorem HasAt.shot (h : HasAt b B (some ⟨gs, 0, none⟩) c (flyG G i s) W) (hi : i < G.shots.length) (j : Nat) (hj : j < 6) : W.cell? ⟨gs, i * 6 + j, none⟩ = s.cells[j]? := by
  have h1 := h.own
  dsimp only at h1
  have hl : (G.shots.set i s).length = G.shots.length := by simp
  rw [h1.cellAt (i * 6 + j) (by rw [hl]; omega), Gm.shotCells_at _ i j (by rw [hl]; exact hi) hj]
  simp
theorem HasAt.shotFree (h : HasAt b B (some ⟨gs, 0, none⟩) c G W) (j : Nat) : W.frozen? ⟨gs, j, none⟩ = false := h.own.frozenAt j
theorem HasAt.apart (h : HasAt b B (some ⟨gs, 0, none⟩) c G W) : gs ≠ B := fun e => h.game.unowned h.own (by decide) (by rw [e]; rfl)
theorem HasAt.row (h : HasAt b B (some ⟨gs, 0, none⟩) c G W) : ∃ cs, Box W gs 108 cs ∧ b ≤ gs := by
  obtain ⟨_, ⟨h0, _⟩ | ⟨g', cap, cur, hv, hb, hg, _⟩⟩ := h.own
  · cases h0
  · injection hv with hv
    injection hv with hv
    injection hv with hv
    subst hv
    exact ⟨cur, ⟨hg⟩, hb⟩
theorem HasAt.shotPut (h : HasAt b B (some ⟨gs, 0, none⟩) c (flyG G i s) W) (hi : i < G.shots.length) {j : Nat} (hj : j < 6) {u : Value} {s' : Gm.Shot} (he : s.cells.set j u = s'.cells) : HasAt b B (some ⟨gs, 0, none⟩) c (flyG G i s') (W.setCell ⟨gs, i * 6 + j, none⟩ u) := by
  have hl : (G.shots.set i s).length = G.shots.length := by simp
  have hl' : (G.shots.set i s').length = G.shots.length := by simp
  refine ⟨?_, ?_⟩
  · have hg := h.game
    dsimp only at hg ⊢
    rw [hl] at hg
    rw [hl']
    exact hg.far (p := ⟨gs, i * 6 + j, none⟩) (fun e => h.apart e.symm) u
  · have h1 := (h.own.stored (i * 6 + j) u).1
    dsimp only at h1 ⊢
    rw [hl'] 
    rw [hl] at h1
    rw [shotCells_set _ i j (by rw [hl]; exact hi) hj u s' (by simpa using he), List.set_set] at h1
    exact h1
end

/-! Who is hit first. -/
theorem hit_none {f : Nat → Gm.Ship} {s : Gm.Shot} : ∀ n i, i + n = 8 → (∀ y ∈ flies (fun j => (f j).on) n i, Gm.hits1 f s y.1 = false) → Gm.hitFrom f s n i = -1
  | 0, _, _, _ => rfl
  | n + 1, i, hi, h => by
    cases ho : (f i).on
    · rw [flies_no (on := fun j => (f j).on) ho] at h
      rw [Gm.hitFrom_no (by unfold Gm.hits1; rw [ho]; rfl)]
      exact hit_none n (i + 1) (by omega) h
    · rw [flies_yes (on := fun j => (f j).on) (by omega) ho] at h
      rw [Gm.hitFrom_no (h ⟨i, by omega, ho⟩ (by simp))]
      exact hit_none n (i + 1) (by omega) fun y hy => h y (by simp [hy])
theorem hit_first {f : Nat → Gm.Ship} {s : Gm.Shot} : ∀ n i (pre : List (Slot fun j => (f j).on)) (x : Slot fun j => (f j).on) rest, i + n = 8 → flies (fun j => (f j).on) n i = pre ++ x :: rest → (∀ y ∈ pre, Gm.hits1 f s y.1 = false) → Gm.hits1 f s x.1 = true → Gm.hitFrom f s n i = (x.1 : Nat)
  | 0, _, pre, x, rest, _, h, _, _ => by
    have h' : ([] : List (Slot fun j => (f j).on)) = pre ++ x :: rest := h
    have := congrArg List.length h'
    simp at this
  | n + 1, i, pre, x, rest, hi, h, hn, hx => by
    cases ho : (f i).on
    · rw [flies_no (on := fun j => (f j).on) ho] at h
      rw [Gm.hitFrom_no (by unfold Gm.hits1; rw [ho]; rfl)]
      exact hit_first n (i + 1) pre x rest (by omega) h hn hx
    · rw [flies_yes (on := fun j => (f j).on) (by omega) ho] at h
      cases pre with
      | nil =>
        simp only [List.nil_append, List.cons.injEq] at h
        rw [← h.1] at hx ⊢
        rw [Gm.hitFrom_yes hx]
      | cons y pre =>
        simp only [List.cons_append, List.cons.injEq] at h
        have hy := hn y (by simp)
        rw [← h.1] at hy
        rw [Gm.hitFrom_no hy]
        exact hit_first n (i + 1) pre x rest (by omega) h.2 (fun z hz => hn z (by simp [hz])) hx

/-- What becomes of a shot: does it stay, and what is the game then? -/
def gone (G : Gm.G) (i : Nat) (s : Gm.Shot) : Bool × Gm.G :=
  if (Gm.fly s).left = 0 then (false, flyG G i (Gm.fly s))
  else if Gm.hit G.ship (Gm.fly s) < 0 then (true, flyG G i (Gm.fly s))
  else (false, { flyG G i (Gm.fly s) with dice := Gm.placeD G.dice, ship := Gm.more (Gm.anew G.dice G.ship (Gm.hit G.ship (Gm.fly s)).toNat) s.owner.toNat })
end Go.Proofs.Ytbihnmingedgfaa
