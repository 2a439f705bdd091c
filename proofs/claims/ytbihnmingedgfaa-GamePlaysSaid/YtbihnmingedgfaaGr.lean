/-
The document's answer of layer 6: which games may be.
-/
import Derived.Test.YtbihnmingedgfaaMw
import Derived.Test.YtbihnmingedgfaaGm
import Derived.LoopTactic
import Derived.Laws.StructEq
namespace Go.Proofs.Ytbihnmingedgfaa
open Go.RowKit
set_option linter.unusedVariables false

set_option maxHeartbeats 400000 in
theorem refin_any (a : Int) (wa : -2147483648 ≤ a ∧ a ≤ 2147483647) (w : World) :
    Calls Try.prog 107 #[.int .i32 a] w fun e w' => e = .returned (.bool (decide (0 ≤ a) && decide (a < 16777216))) ∧ w = w' := by
  go_enter Try.func107, Try.ntmps107
  go_wp2
  all_goals
    go_ret
    exact ⟨ret_bool (by rw [Bool.eq_iff_iff]; simp; omega), rfl⟩
set_option maxHeartbeats 400000 in
theorem refslow_any (a m : Int) (wa : -2147483648 ≤ a ∧ a ≤ 2147483647) (wm : 0 ≤ m ∧ m ≤ 2147483647) (w : World) :
    Calls Try.prog 108 #[.int .i32 a, .int .i32 m] w fun e w' => e = .returned (.bool (decide (-m ≤ a) && decide (a ≤ m))) ∧ w = w' := by
  go_enter Try.func108, Try.ntmps108
  go_wp2
  all_goals
    go_ret
    exact ⟨ret_bool (by rw [Bool.eq_iff_iff]; simp; omega), rfl⟩

theorem cells_at {w : World} {B k : Nat} {g : Gm.G} {s : Value} (hc : ∀ j, w.cell? ⟨B, j, none⟩ = (Gm.cells g s)[j]?) (hk : k < 8) (j : Nat) (hj : j < 7) :
    w.cell? ⟨B, 2 + k * 7 + j, none⟩ = (g.ship k).cells[j]? := (hc _).trans (Gm.cells_ship g s k j hk hj)


theorem add_lit' (a : Addr) (j : Nat) (h : 0 < j) : a.add j = ⟨a.block, a.off + j, none⟩ := by unfold Addr.add; rw [if_neg (by omega)]
/-- The six cells of a shot, as a walk spells them. -/
theorem shots_at {w : World} {B n : Nat} {A : Option Addr} {l : List Gm.Shot} (h : Lies w B 6 A n (Gm.shotCells l)) (hn : n = l.length) (k : Nat) (hk : k < l.length) :
    ∃ ad, A = some ad ∧ ad.block < B ∧ w.cell? (ad.add (k * 6)) = some (.int .i64 l[k].owner) ∧ w.cell? ⟨(ad.add (k * 6)).block, (ad.add (k * 6)).off + 1, none⟩ = some (.int .i32 l[k].x) ∧
      w.cell? ⟨(ad.add (k * 6)).block, (ad.add (k * 6)).off + 2, none⟩ = some (.int .i32 l[k].y) ∧ w.cell? ⟨(ad.add (k * 6)).block, (ad.add (k * 6)).off + 3, none⟩ = some (.int .i32 l[k].vx) ∧
      w.cell? ⟨(ad.add (k * 6)).block, (ad.add (k * 6)).off + 4, none⟩ = some (.int .i32 l[k].vy) ∧ w.cell? ⟨(ad.add (k * 6)).block, (ad.add (k * 6)).off + 5, none⟩ = some (.int .i64 l[k].left) := by
  obtain ⟨ad, e, hb⟩ := h.start (by omega)
  have hc := h.cell ad e (by omega)
  have hj : ∀ j v, j < 6 → l[k].cells[j]? = some v → w.cell? ((ad.add (k * 6)).add j) = some v := fun j v hj hv => by
    rw [add_twice]
    exact hc _ _ ((Gm.shotCells_at l k j hk hj).trans hv)
  refine ⟨ad, e, hb, ?_, ?_, ?_, ?_, ?_, ?_⟩
  · have := hj 0 _ (by omega) rfl; rwa [show (ad.add (k * 6)).add 0 = ad.add (k * 6) from by unfold Addr.add; rfl] at this
  · have := hj 1 _ (by omega) rfl; rwa [add_lit' _ 1 (by omega)] at this
  · have := hj 2 _ (by omega) rfl; rwa [add_lit' _ 2 (by omega)] at this
  · have := hj 3 _ (by omega) rfl; rwa [add_lit' _ 3 (by omega)] at this
  · have := hj 4 _ (by omega) rfl; rwa [add_lit' _ 4 (by omega)] at this
  · have := hj 5 _ (by omega) rfl; rwa [add_lit' _ 5 (by omega)] at this

set_option maxRecDepth 100000 in
set_option maxHeartbeats 4000000 in
theorem refmay_yes (g : Gm.G) (A : Option Addr) (n c : Nat) (w : World) (hg : Gm.ok g) (hn : n = g.shots.length) (hr : Lies w w.heap.size 6 A n (Gm.shotCells g.shots)) :
    Calls Try.prog 56 #[.agg (Gm.cells g (.slice A n c))] w fun e w' => e = .returned (.bool true) ∧ Below w.heap.size w w' := by
  obtain ⟨hf1, hf2, hl, hships, hshots⟩ := hg
  have d1 : decide (g.frame < 0) = false := decide_eq_false (by omega)
  have d2 : decide (1048576 < g.frame) = false := decide_eq_false (by omega)
  have d3 : decide (32 < (n : Int)) = false := decide_eq_false (by omega)
  have hN : Hid (n = g.shots.length) := Lib.hid hn
  have hn32 : n ≤ 32 := by omega
  clear hn
  have hc : ∀ W : World, ∀ j, (W.alloc (.cells (Gm.cells g (.slice A n c)) 30)).cell? ⟨W.heap.size, j, none⟩ = (Gm.cells g (.slice A n c))[j]? := fun W j => (Box.made W _ _).cell j
  have h0 := Gm.cells_0 g (.slice A n c)
  have h58 := Gm.cells_58 g (.slice A n c)
  go_enter Try.func56, Try.ntmps56
  go_wp2
  go_loopw [3] (fun i wr => ∃ k : Nat, k ≤ 8 ∧ i = .int .i64 k ∧ Box wr w.heap.size 30 (Gm.cells g (.slice A n c)) ∧ Below w.heap.size w wr) (fun i _ => 8 - (intOf i).toNat)
  case atStart => exact ⟨0, by omega, rfl, Box.made _ _ _, one_below _ _⟩
  case round =>
    obtain ⟨k, hk, rfl, hB, hb⟩ := hrel
    by_cases hlt : k < 8
    · have hcr := hB.cell
      have hlB := hB.lt
      have e0 := cells_at hcr hlt 0 (by omega)
      have e1 := cells_at hcr hlt 1 (by omega)
      have e2 := cells_at hcr hlt 2 (by omega)
      have e3 := cells_at hcr hlt 3 (by omega)
      have e4 := cells_at hcr hlt 4 (by omega)
      have e5 := cells_at hcr hlt 5 (by omega)
      have e6 := cells_at hcr hlt 6 (by omega)
      have ho := hships k hlt
      generalize g.ship k = s at e0 e1 e2 e3 e4 e5 e6 ho
      obtain ⟨on, x, y, vx, vy, cool, score⟩ := s
      simp only [Gm.Ship.cells, List.getElem?_cons_zero, List.getElem?_cons_succ, Nat.add_zero] at e0 e1 e2 e3 e4 e5 e6
      obtain ⟨o1, o2, o3, o4, o5, o6, o7, o8, o9⟩ := ho
      unfold Gm.inF Gm.slow at *
      dsimp only at o1 o2 o3 o4 o5 o6 o7 o8 o9
      have hk8 : (k : Int) < 8 := by omega
      clear hc hcr hships hshots h0 h58 d1 d2 d3
      rcases o1 with o1 | o1
      · subst o1
        go_wp2
        go_roundw
        case rel => exact ⟨k + 1, by omega, by go_num, hB.alloc _, hb.alloc (Nat.le_of_lt hlB) _⟩
        case measure => simp [intOf]; omega
      · injection o1 with z1 z2 z3 z4 z5 z6 z7
        subst z1 z2 z3 z4 z5 z6 z7
        go_wp2
        go_roundw
        case rel => exact ⟨k + 1, by omega, by go_num, hB.alloc _, hb.alloc (Nat.le_of_lt hlB) _⟩
        case measure => simp [intOf]; omega
    · have hk8 : ¬ (k : Int) < 8 := by omega
      have hcr := hB.cell
      have hlB := hB.lt
      clear hc hships h0 d1 d2 d3
      go_wp2
      go_loopw [5] (fun i wr => ∃ k : Nat, k ≤ n ∧ i = .int .i64 k ∧ Box wr w.heap.size 30 (Gm.cells g (.slice A n c)) ∧ Below w.heap.size w wr) (fun i _ => n - (intOf i).toNat)
      case atStart => exact ⟨0, by omega, rfl, hB, hb⟩
      case round =>
        obtain ⟨m, hm, rfl, hB, hb⟩ := hrel
        clear hcr hlB
        have hcr := hB.cell
        have hlB := hB.lt
        by_cases hlt : m < n
        · obtain ⟨ad, rfl, hbl, e0, e1, e2, e3, e4, e5⟩ := shots_at (hr.below hb) hN.out m (by have := hN.out; omega)
          have ho := hshots m (by have := hN.out; omega)
          generalize g.shots[m]'(by have := hN.out; omega) = s at e0 e1 e2 e3 e4 e5 ho
          obtain ⟨owner, x, y, vx, vy, left⟩ := s
          dsimp only at e0 e1 e2 e3 e4 e5
          obtain ⟨o1, o2, o3, o4, o5, o6, o7, o8⟩ := ho
          unfold Gm.inF Gm.slow at *
          dsimp only at o1 o2 o3 o4 o5 o6 o7 o8
          have hmn : (m : Int) < n := by omega
          clear hr hshots
          go_wp2
          go_roundw
          case rel => exact ⟨m + 1, by omega, by go_num, hB.alloc _, hb.alloc (Nat.le_of_lt hlB) _⟩
          case measure => simp [intOf]; omega
        · have hmn : ¬ (m : Int) < n := by omega
          clear hr
          go_wp2
          go_ret
          exact ⟨rfl, hb⟩
end Go.Proofs.Ytbihnmingedgfaa
