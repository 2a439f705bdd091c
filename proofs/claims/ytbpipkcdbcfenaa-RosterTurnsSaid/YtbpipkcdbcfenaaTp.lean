/-
Rosters on their way: what stays when peers come and go.
-/
import Derived.Test.YtbpipkcdbcfenaaTn
import Derived.Test.YtbpipkcdbcfenaaOp
namespace Go.Proofs.Ytbpipkcdbcfenaa
open Go.RowKit
set_option linter.unusedVariables false

theorem Ros.give_ok {r : Ros.R} {k : Nat} (h : Ros.MayGive r k) : Ros.Ok (Ros.give r k) := by
  obtain ⟨⟨⟨hok, hv⟩, h0, h8⟩, hp⟩ := h
  have hk : k < 8 := by omega
  obtain ⟨h1, h2, h3⟩ := Ros.ok_iff.1 hok
  refine Ros.ok_iff.2 ⟨?_, fun j hj => ?_, fun i j hij hj => ?_⟩
  · show 0 ≤ r.version + 1 ∧ r.version + 1 ≤ 1073741824
    omega
  · show (0 ≤ r.gen j ∧ r.gen j ≤ 60000) ∧ (Ros.upd r.peer k (-1) j = -1 ∨ ((0 ≤ Ros.upd r.peer k (-1) j ∧ Ros.upd r.peer k (-1) j < 12) ∧ 0 < r.gen j))
    by_cases e : j = k
    · subst e
      rw [Ros.upd_same]
      exact ⟨(h2 j hj).1, .inl rfl⟩
    · rw [Ros.upd_other _ _ e]
      exact h2 j hj
  · show Ros.upd r.peer k (-1) i = -1 ∨ Ros.upd r.peer k (-1) i ≠ Ros.upd r.peer k (-1) j
    by_cases e : i = k
    · subst e
      rw [Ros.upd_same]
      exact .inl rfl
    · rw [Ros.upd_other _ _ e]
      by_cases e' : j = k
      · subst e'
        rw [Ros.upd_same]
        by_cases e2 : r.peer i = -1
        · exact .inl e2
        · exact .inr e2
      · rw [Ros.upd_other _ _ e']
        exact h3 i j hij hj
/-- A roster behind at most f comings and goings. -/
structure Ros.Few (r : Ros.R) (f : Nat) : Prop where
  ok : Ros.Ok r
  ver : r.version ≤ f
  gen : ∀ k, k < 8 → r.gen k ≤ f
theorem Ros.Few.start : Ros.Few Ros.new 0 := ⟨by decide +kernel, Int.le_refl _, fun _ _ => Int.le_refl _⟩
theorem Ros.Few.wider {r : Ros.R} {f : Nat} (h : Ros.Few r f) : Ros.Few r (f + 1) := ⟨h.ok, by have := h.ver; omega, fun k hk => by have := h.gen k hk; omega⟩
/-- What a turn makes of a roster: s is the slot that the peer has, fr the free one. -/
structure Ros.Turn (r n : Ros.R) (p s fr : Int) (f : Nat) : Prop where
  few : Ros.Few n (f + 1)
  rose : ∀ k : Nat, k < 8 → s < 0 → (k : Int) = fr → n.gen k = r.gen k + 1
  kept : ∀ k : Nat, k < 8 → ¬ (s < 0 ∧ (k : Int) = fr) → n.gen k = r.gen k
  same : ∀ k : Nat, k < 8 → (k : Int) ≠ s → ¬ (s < 0 ∧ (k : Int) = fr) → n.peer k = r.peer k
  out : 0 ≤ s ∨ 0 ≤ fr → (0 ≤ s ↔ Ros.of n p < 0) ∧ n.version = r.version + 1
theorem Ros.turn_give {r : Ros.R} {p : Int} {j f : Nat} (h : Ros.Few r f) (hf : f < 60) (hj : j < 8) (hp : r.peer j = p) (h0 : 0 ≤ p) (h1 : p < 12) (fr : Int) : Ros.MayGive r j ∧ Ros.Turn r (Ros.give r j) p j fr f := by
  have hg : Ros.MayGive r j := ⟨⟨⟨h.ok, by have := h.ver; omega⟩, by omega, by omega⟩, by show r.peer j ≠ -1; rw [hp]; omega⟩
  refine ⟨hg, ⟨⟨Ros.give_ok hg, ?_, fun k hk => ?_⟩, fun k hk hs => by omega, fun k hk _ => rfl, fun k hk hk' _ => Ros.upd_other _ _ (by omega), fun _ => ⟨⟨fun _ => ?_, fun _ => by omega⟩, rfl⟩⟩⟩
  · show r.version + 1 ≤ ((f + 1 : Nat) : Int)
    have := h.ver; omega
  · have := h.gen k hk
    show r.gen k ≤ ((f + 1 : Nat) : Int)
    omega
  · rcases Ros.of_cases (Ros.give_ok hg) h0 h1 with ⟨e, _⟩ | ⟨k, hk, _, e⟩
    · omega
    · exfalso
      by_cases hkj : k = j
      · subst hkj
        have : (Ros.give r k).peer k = -1 := Ros.upd_same _ _ _
        omega
      · have : (Ros.give r j).peer k = r.peer k := Ros.upd_other _ _ hkj
        exact hkj (h.ok.one hk hj (by rw [← this, e, hp]) (by rw [← this, e]; omega))
theorem Ros.turn_take {r : Ros.R} {p : Int} {k f : Nat} (h : Ros.Few r f) (hf : f < 60) (hk : k < 8) (hp : r.peer k = -1) (ho : Ros.of r p = -1) (h0 : 0 ≤ p) (h1 : p < 12) : Ros.MayTake r k p ∧ Ros.Turn r (Ros.take r k p) p (-1) k f := by
  have hg : Ros.MayTake r k p := ⟨⟨⟨⟨h.ok, by have := h.ver; omega⟩, by omega, by omega⟩, ⟨h0, h1⟩, ho⟩, hp, by have := h.gen k hk; show r.gen k ≠ 60000; omega⟩
  refine ⟨hg, ⟨⟨Ros.take_ok hg, ?_, fun j hj => ?_⟩, fun j hj _ hjk => ?_, fun j hj hn => ?_, fun j hj _ hn => ?_, fun _ => ⟨⟨fun h => by omega, fun h => ?_⟩, rfl⟩⟩⟩
  · show r.version + 1 ≤ ((f + 1 : Nat) : Int)
    have := h.ver; omega
  · show Ros.upd r.gen k (r.gen k + 1) j ≤ ((f + 1 : Nat) : Int)
    have h1 := h.gen j hj
    have h2 := h.gen k hk
    unfold Ros.upd
    split <;> omega
  · obtain rfl : j = k := by omega
    exact Ros.take_gen r j p
  · exact Ros.upd_other _ _ (by omega)
  · exact Ros.upd_other _ _ (by omega)
  · rw [Ros.of_take hg] at h; omega
theorem Ros.turn_none {r : Ros.R} {p : Int} {f : Nat} (h : Ros.Few r f) : Ros.Turn r r p (-1) (-1) f :=
  ⟨h.wider, fun k hk _ e => by omega, fun _ _ _ => rfl, fun _ _ _ _ => rfl, fun e => by omega⟩
/-- A whole number of a list. -/
theorem ints_at {w : World} {B n : Nat} {ad : Addr} {l : List Int} {k : IntKind} (h : Lies w B 1 (some ad) n (l.flatMap fun x => [.int k x])) (hn : n = l.length) (f : Nat) (hf : f < l.length) : w.cell? (ad.add f) = some (.int k (l.getD f 0)) := by
  refine h.cell ad rfl (by omega) f _ ?_
  have := flat_at (cells := fun x : Int => [Value.int k x]) (c := 1) (fun _ => rfl) l f 0 hf (by omega)
  rw [Nat.mul_one, Nat.add_zero] at this
  rw [this]
  simp [hf]
end Go.Proofs.Ytbpipkcdbcfenaa
