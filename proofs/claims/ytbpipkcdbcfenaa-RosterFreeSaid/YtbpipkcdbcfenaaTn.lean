/-
A struct loaded whole in a region that draws its order and only reads; what Free and Mask come to.
-/
import Derived.Test.YtbpipkcdbcfenaaTm
import Derived.Test.YtbpipkcdbcfenaaQx
namespace Go.Proofs.Ytbpipkcdbcfenaa
open Go.RowKit Go.Shelf
set_option linter.unusedVariables false

theorem quiet_ros {B0 : Nat} {W : World} {o : Oper} {a : Act} {K : Act → Prop} {B : Nat} {r : Ros.R} {x : Operand} (ho : o.op = .load 51 x) (hx : a.eval x = .pointer (some ⟨B, 0, none⟩)) (hB : ∀ q : Ext B0 W, Box q.w B 51 (Ros.cells r)) (h : K (a.put o.dst (.agg (Ros.cells r)))) :
    o.quiet Try.prog a (fun w' => ∃ q : Ext B0 W, w' = q.w) K :=
  ⟨_, fun w hw => by obtain ⟨q, e⟩ := hw; subst e; unfold Oper.quietAt; rw [exec_load_ros ho hx (hB q)]; exact ⟨rfl, rfl⟩, h⟩

end Go.Proofs.Ytbpipkcdbcfenaa
namespace Ros
open Go Go.Proofs.Ytbpipkcdbcfenaa Go.Proofs.Ytbpipkcdbcfenaa.Ros
def FreeAt (r : R) (l : List Sl) (st : Int × Int) : Prop :=
  (st = (-1, 60000) ∧ ∀ y ∈ l, r.peer y.1 = -1 → 60000 ≤ r.gen y.1) ∨
  ∃ x ∈ l, st = ((x.1 : Int), r.gen x.1) ∧ r.peer x.1 = -1 ∧ r.gen x.1 < 60000 ∧ ∀ y ∈ l, r.peer y.1 = -1 → r.gen x.1 ≤ r.gen y.1 ∧ (r.gen y.1 = r.gen x.1 → x.1 ≤ y.1)
theorem freeAt_snoc {r : R} {l : List Sl} {x : Sl} (hl : ∀ y ∈ l, y.1 < x.1) (h : FreeAt r l (freeSt r l)) : FreeAt r (l ++ [x]) (freeSt r (l ++ [x])) := by
  rw [freeSt_snoc]
  generalize freeSt r l = st at h
  unfold freeStep
  rcases h with ⟨rfl, h⟩ | ⟨z, hz, rfl, h1, h2, h3⟩
  · dsimp only
    split
    · rename_i hc
      refine .inr ⟨x, by simp, rfl, hc.1, hc.2, fun y hy hp => ?_⟩
      rcases List.mem_append.1 hy with hy | hy
      · have := h y hy hp
        exact ⟨by omega, fun e => by omega⟩
      · rw [List.mem_singleton.1 hy]
        exact ⟨by omega, fun _ => Nat.le_refl _⟩
    · rename_i hc
      refine .inl ⟨rfl, fun y hy hp => ?_⟩
      rcases List.mem_append.1 hy with hy | hy
      · exact h y hy hp
      · rw [List.mem_singleton.1 hy] at hp ⊢
        have : ¬ r.gen x.1 < 60000 := fun e => hc ⟨hp, e⟩
        omega
  · dsimp only
    split
    · rename_i hc
      refine .inr ⟨x, by simp, rfl, hc.1, by omega, fun y hy hp => ?_⟩
      rcases List.mem_append.1 hy with hy | hy
      · have := h3 y hy hp
        exact ⟨by omega, fun e => by omega⟩
      · rw [List.mem_singleton.1 hy]
        exact ⟨by omega, fun _ => Nat.le_refl _⟩
    · rename_i hc
      refine .inr ⟨z, by simp [hz], rfl, h1, h2, fun y hy hp => ?_⟩
      rcases List.mem_append.1 hy with hy | hy
      · exact h3 y hy hp
      · have e := List.mem_singleton.1 hy
        subst e
        have : ¬ r.gen y.1 < r.gen z.1 := fun e => hc ⟨hp, e⟩
        have := hl z hz
        exact ⟨by omega, fun _ => by omega⟩
theorem freeAt_all (r : R) : FreeAt r all8 (freeSt r all8) := by
  have h0 : FreeAt r [] (freeSt r []) := .inl ⟨rfl, by simp⟩
  have h1 := freeAt_snoc (x := ⟨0, by omega⟩) (by simp) h0
  have h2 := freeAt_snoc (x := ⟨1, by omega⟩) (by simp) h1
  have h3 := freeAt_snoc (x := ⟨2, by omega⟩) (by simp) h2
  have h4 := freeAt_snoc (x := ⟨3, by omega⟩) (by simp) h3
  have h5 := freeAt_snoc (x := ⟨4, by omega⟩) (by simp) h4
  have h6 := freeAt_snoc (x := ⟨5, by omega⟩) (by simp) h5
  have h7 := freeAt_snoc (x := ⟨6, by omega⟩) (by simp) h6
  exact freeAt_snoc (x := ⟨7, by omega⟩) (by simp) h7
/-- The free slot: nobody has it, it was given least often, it is the first of these; or there is none. -/
theorem free_cases {r : R} (hr : Ok r) : (free r = -1 ∧ ∀ k, k < 8 → r.peer k = -1 → r.gen k = 60000) ∨
    ∃ f : Nat, f < 8 ∧ free r = f ∧ r.peer f = -1 ∧ r.gen f < 60000 ∧ ∀ k, k < 8 → r.peer k = -1 → r.gen f ≤ r.gen k ∧ (r.gen k = r.gen f → f ≤ k) := by
  have e : free r = (freeSt r all8).1 := if_pos hr
  rcases freeAt_all r with ⟨h, h'⟩ | ⟨x, _, h, h1, h2, h3⟩
  · refine .inl ⟨by rw [e, h], fun k hk hp => ?_⟩
    have := h' ⟨k, hk⟩ (mem_all8 k hk) hp
    have := (hr.seat k hk).1
    dsimp only at *
    omega
  · exact .inr ⟨x.1, x.2, by rw [e, h], h1, h2, fun k hk hp => h3 ⟨k, hk⟩ (mem_all8 k hk) hp⟩
theorem mask_bit (r : R) (j : Nat) : ∀ l : List Sl, (maskSt r l).testBit j = l.any fun y => decide (y.1 = j) && decide (r.peer y.1 ≠ -1) := by
  intro l
  suffices h : ∀ (l : List Sl) (m : Nat), (l.foldl (maskStep r) m).testBit j = (m.testBit j || l.any fun y => decide (y.1 = j) && decide (r.peer y.1 ≠ -1)) by
    have := h l 0
    simpa [maskSt] using this
  intro l
  induction l with
  | nil => intro m; simp
  | cons x l ih =>
    intro m
    rw [List.foldl_cons, ih, List.any_cons]
    unfold maskStep
    by_cases hp : r.peer x.1 = -1
    · rw [if_pos hp]; simp [hp]
    · rw [if_neg hp, Nat.testBit_or, Nat.testBit_two_pow]
      simp [hp, Bool.or_assoc]
theorem mask_take {r : R} {k : Nat} {p : Int} (h : MayTake r k p) : mask (take r k p) = mask r ||| 2 ^ k := by
  have hok := h.1.1.1.1
  have hk : k < 8 := by have := h.1.1.2; omega
  have e1 : mask (take r k p) = maskSt (take r k p) all8 := if_pos (take_ok h)
  have e2 : mask r = maskSt r all8 := if_pos hok
  rw [e1, e2]
  refine Nat.eq_of_testBit_eq fun j => ?_
  rw [Nat.testBit_or, mask_bit, mask_bit, Nat.testBit_two_pow]
  have hne : p ≠ -1 := by have := h.1.2.1; omega
  rw [Bool.eq_iff_iff]
  simp only [List.any_eq_true, Bool.and_eq_true, decide_eq_true_eq, Bool.or_eq_true]
  constructor
  · rintro ⟨y, hy, rfl, hp⟩
    by_cases e : y.1 = k
    · exact .inr e.symm
    · refine .inl ⟨y, hy, rfl, ?_⟩
      have : (take r k p).peer y.1 = r.peer y.1 := upd_other _ _ e
      rw [← this]; exact hp
  · rintro (⟨y, hy, rfl, hp⟩ | rfl)
    · refine ⟨y, hy, rfl, ?_⟩
      by_cases e : y.1 = k
      · rw [e, take_peer]; exact hne
      · have : (take r k p).peer y.1 = r.peer y.1 := upd_other _ _ e
        rw [this]; exact hp
    · exact ⟨⟨k, hk⟩, mem_all8 k hk, rfl, by rw [take_peer]; exact hne⟩
theorem of_take {r : R} {k : Nat} {p : Int} (h : MayTake r k p) : of (take r k p) p = k := by
  have hk : k < 8 := by have := h.1.1.2; omega
  rcases of_cases (take_ok h) h.1.2.1.1 h.1.2.1.2 with ⟨_, h'⟩ | ⟨j, hj, e, hp⟩
  · exact absurd (take_peer r k p) (h' k hk)
  · rw [e]
    have := (take_ok h).one hj hk (hp.trans (take_peer r k p).symm) (by rw [hp]; have := h.1.2.1; omega)
    rw [this]
end Ros
namespace Go.Proofs.Ytbpipkcdbcfenaa
end Go.Proofs.Ytbpipkcdbcfenaa
