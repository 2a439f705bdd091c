/-
The document's answer of layer 6: which games may be, of whatever games.
-/
import Derived.Test.YtbihnmingedgfaaGr
import Derived.Test.YtbihnmingedgfaaIh
namespace Go.Proofs.Ytbihnmingedgfaa
open Go.RowKit
set_option linter.unusedVariables false
set_option linter.unusedSimpArgs false

theorem ship_neq (s t : Gm.Ship) (w : World) : (binOp .neq 26 (.agg s.cells.toArray) (.agg t.cells.toArray)).run Try.prog w = .ok (.bool (!s.eqB t)) w := by
  simp only [binOp]
  simp [Op.equal, Op.maxDepth, ship_eq']

set_option maxRecDepth 100000 in
set_option maxHeartbeats 16000000 in
theorem refmay_any (g : Gm.G) (A : Option Addr) (n c : Nat) (w : World) (hty : Gm.ty g) (hn : n = g.shots.length) (hn63 : n ≤ maxLen) (hr : Lies w w.heap.size 6 A n (Gm.shotCells g.shots)) :
    Calls Try.prog 56 #[.agg (Gm.cells g (.slice A n c))] w fun e w' => (∃ v, e = .returned (.bool v) ∧ (v = true ↔ Gm.ok g)) ∧ Below w.heap.size w w' := by
  have hN : Hid (n = g.shots.length) := Lib.hid hn
  have n63 : (n : Int) ≤ 9223372036854775807 := by unfold maxLen at hn63; omega
  have hc : ∀ W : World, ∀ j, (W.alloc (.cells (Gm.cells g (.slice A n c)) 30)).cell? ⟨W.heap.size, j, none⟩ = (Gm.cells g (.slice A n c))[j]? := fun W j => (Box.made W _ _).cell j
  have h0 := Gm.cells_0 g (.slice A n c)
  have h58 := Gm.cells_58 g (.slice A n c)
  clear hn hn63
  by_cases hf : g.frame < 0
  · have d1 : decide (g.frame < 0) = true := decide_eq_true hf
    have hno := Lib.hid (show ¬ Gm.ok g from fun h => by have := h.1; omega)
    clear hr hf hty
    go_enter Try.func56, Try.ntmps56
    go_wp2
    go_ret
    exact ⟨by first | exact ⟨false, rfl, by simp; exact hno.out⟩ | exact .inl ⟨rfl, hno.out⟩, one_below _ _⟩
  have d1 : decide (g.frame < 0) = false := decide_eq_false hf
  by_cases hf2 : 1048576 < g.frame
  · have d2 : decide (1048576 < g.frame) = true := decide_eq_true hf2
    have hno := Lib.hid (show ¬ Gm.ok g from fun h => by have := h.2.1; omega)
    clear hr hf hf2 hty
    go_enter Try.func56, Try.ntmps56
    go_wp2
    go_ret
    exact ⟨by first | exact ⟨false, rfl, by simp; exact hno.out⟩ | exact .inl ⟨rfl, hno.out⟩, one_below _ _⟩
  have d2 : decide (1048576 < g.frame) = false := decide_eq_false hf2
  by_cases hf3 : 32 < (n : Int)
  · have d3 : decide (32 < (n : Int)) = true := decide_eq_true hf3
    have hno := Lib.hid (show ¬ Gm.ok g from fun h => by have := h.2.2.1; have := hN.out; omega)
    clear hr hf hf2 hf3 hty
    go_enter Try.func56, Try.ntmps56
    go_wp2
    go_ret
    exact ⟨by first | exact ⟨false, rfl, by simp; exact hno.out⟩ | exact .inl ⟨rfl, hno.out⟩, one_below _ _⟩
  have d3 : decide (32 < (n : Int)) = false := decide_eq_false hf3
  have HF := Lib.hid (show 0 ≤ g.frame ∧ g.frame ≤ 1048576 ∧ g.shots.length ≤ 32 from ⟨by omega, by omega, by have := hN.out; omega⟩)
  obtain ⟨_, _, hships, hshots⟩ := hty
  clear hf hf2 hf3
  go_enter Try.func56, Try.ntmps56
  go_wp2
  go_loopw [3] (fun i wr => ∃ k : Nat, k ≤ 8 ∧ i = .int .i64 k ∧ Box wr w.heap.size 30 (Gm.cells g (.slice A n c)) ∧ Below w.heap.size w wr ∧ ∀ j, j < k → Gm.okShip (g.ship j)) (fun i _ => 8 - (intOf i).toNat)
  case atStart => exact ⟨0, by omega, rfl, Box.made _ _ _, one_below _ _, fun j hj => absurd hj (Nat.not_lt_zero j)⟩
  case round =>
    obtain ⟨k, hk, rfl, hB, hb, hall⟩ := hrel
    have HALL := Lib.hid hall
    clear hall
    by_cases hlt : k < 8
    · have hcr := hB.cell
      have hlB := hB.lt
      have e0 := cells_at hcr hlt 0 (by omega)
      have e1 := cells_at hcr hlt 1 (by omega)
      have e2 := cells_at hcr hlt 2 (by omega)
      have e3 := cells_at hcr hlt 3 (by omega)
      have e4 := cells_at hcr hlt 4 (by omega)
      have e5 := cells_at hcr hlt 5 (by omega)
      have e6 := cells_at hcr hlt 6 (by omega)
      have ty := hships k hlt
      have HS := Lib.hid (show Gm.ok g → Gm.okShip (g.ship k) from fun h => h.2.2.2.1 k hlt)
      have HZ := Lib.hid (show Gm.okShip (g.ship k) → ∀ j, j < k + 1 → Gm.okShip (g.ship j) from fun h j hj => by
        by_cases e : j = k
        · rw [e]; exact h
        · exact HALL.out j (by omega))
      generalize g.ship k = s at e0 e1 e2 e3 e4 e5 e6 ty HS HZ
      obtain ⟨on, x, y, vx, vy, cool, score⟩ := s
      simp only [Gm.Ship.cells, List.getElem?_cons_zero, List.getElem?_cons_succ, Nat.add_zero] at e0 e1 e2 e3 e4 e5 e6
      obtain ⟨tx, ty, tvx, tvy, tc, ts⟩ := ty
      unfold Gm.i32 Gm.i64 at *
      dsimp only at tx ty tvx tvy tc ts
      have hk8 : (k : Int) < 8 := by omega
      have HB := Lib.hid hB
      have HBB := Lib.hid hb
      clear hc hcr hships hshots h0 h58 d1 d2 d3 hB hb
      cases on
      · by_cases hz : (⟨false, x, y, vx, vy, cool, score⟩ : Gm.Ship) = Gm.Ship.none
        · have ho := Lib.hid (HZ.out (by rw [hz]; refine ⟨.inr rfl, ?_, ?_, ?_, ?_, ?_, ?_, ?_, ?_⟩ <;> simp [Gm.Ship.none, Gm.inF, Gm.slow]))
          injection hz with z1 z2 z3 z4 z5 z6 z7
          subst z2 z3 z4 z5 z6 z7
          clear HS HZ tx ty tvx tvy tc ts
          go_wp2
          go_roundw
          case rel => exact ⟨k + 1, by omega, by go_num, HB.out.alloc _, HBB.out.alloc (Nat.le_of_lt hlB) _, ho.out⟩
          case measure => simp [intOf]; omega
        · have he := fun W => ship_neq ⟨false, x, y, vx, vy, cool, score⟩ Gm.Ship.none W
          rw [show (⟨false, x, y, vx, vy, cool, score⟩ : Gm.Ship).eqB Gm.Ship.none = false by
            cases hq : (⟨false, x, y, vx, vy, cool, score⟩ : Gm.Ship).eqB Gm.Ship.none
            · rfl
            · exact absurd (Gm.Ship.eqB_iff.1 hq) hz] at he
          simp only [Gm.Ship.cells, Gm.Ship.none, Bool.not_false] at he
          have hno := Lib.hid (show ¬ Gm.ok g from fun h => (HS.out h).1.elim (fun hh => absurd hh (by simp)) hz)
          clear HS HZ hz tx ty tvx tvy tc ts
          go_wp2
          go_ret
          exact ⟨by first | exact ⟨false, rfl, by simp; exact hno.out⟩ | exact .inl ⟨rfl, hno.out⟩, HBB.out.alloc (Nat.le_of_lt hlB) _⟩
      · skip
        have cx := fun X => Lib.hid (refin_any x tx X)
        have cy := fun X => Lib.hid (refin_any y ty X)
        have cvx := fun X => Lib.hid (refslow_any vx 524288 tvx (by omega) X)
        have cvy := fun X => Lib.hid (refslow_any vy 524288 tvy (by omega) X)
        obtain ⟨bx, hx⟩ : ∃ b, b = (decide (0 ≤ x) && decide (x < 16777216)) := ⟨_, rfl⟩
        obtain ⟨b_y, hy⟩ : ∃ b, b = (decide (0 ≤ y) && decide (y < 16777216)) := ⟨_, rfl⟩
        obtain ⟨bvx, hvx⟩ : ∃ b, b = (decide (-524288 ≤ vx) && decide (vx ≤ 524288)) := ⟨_, rfl⟩
        obtain ⟨bvy, hvy⟩ : ∃ b, b = (decide (-524288 ≤ vy) && decide (vy ≤ 524288)) := ⟨_, rfl⟩
        rw [← hx] at cx; rw [← hy] at cy; rw [← hvx] at cvx; rw [← hvy] at cvy
        have HX := Lib.hid (show bx = true ↔ Gm.inF x by rw [hx]; unfold Gm.inF; simp)
        have HY := Lib.hid (show b_y = true ↔ Gm.inF y by rw [hy]; unfold Gm.inF; simp)
        have HVX := Lib.hid (show bvx = true ↔ Gm.slow vx 524288 by rw [hvx]; unfold Gm.slow; simp)
        have HVY := Lib.hid (show bvy = true ↔ Gm.slow vy 524288 by rw [hvy]; unfold Gm.slow; simp)
        have HO := Lib.hid (show Gm.ok g → bx = true ∧ b_y = true ∧ bvx = true ∧ bvy = true ∧ 0 ≤ cool ∧ cool ≤ 10 ∧ 0 ≤ score ∧ score ≤ 1073741824 from fun h => by obtain ⟨_, h1, h2, h3, h4, h5, h6, h7, h8⟩ := HS.out h; exact ⟨HX.out.2 h1, HY.out.2 h2, HVX.out.2 h3, HVY.out.2 h4, h5, h6, h7, h8⟩)
        have HQ := Lib.hid (show (bx = true ∧ b_y = true ∧ bvx = true ∧ bvy = true ∧ 0 ≤ cool ∧ cool ≤ 10 ∧ 0 ≤ score ∧ score ≤ 1073741824) → ∀ j, j < k + 1 → Gm.okShip (g.ship j) from fun ⟨h1, h2, h3, h4, h5, h6, h7, h8⟩ => HZ.out ⟨.inl rfl, HX.out.1 h1, HY.out.1 h2, HVX.out.1 h3, HVY.out.1 h4, h5, h6, h7, h8⟩)
        clear hx hy hvx hvy HX HY HVX HVY HS HZ tx ty tvx tvy tc ts
        cases bx
        · have hno := Lib.hid (show ¬ Gm.ok g from fun h => by have := (HO.out h).1; simp at this)
          clear HO HQ
          go_wp2_with (first | (go_at_call 107; first | ((with_reducible refine ((cx _).out).mono ?_); rintro e v1 ⟨rfl, rfl⟩) | ((with_reducible refine ((cy _).out).mono ?_); rintro e v1 ⟨rfl, rfl⟩)) | (go_at_call 108; first | ((with_reducible refine ((cvx _).out).mono ?_); rintro e v1 ⟨rfl, rfl⟩) | ((with_reducible refine ((cvy _).out).mono ?_); rintro e v1 ⟨rfl, rfl⟩)))
          go_ret
          exact ⟨by first | exact ⟨false, rfl, by simp; exact hno.out⟩ | exact .inl ⟨rfl, hno.out⟩, HBB.out.alloc (Nat.le_of_lt hlB) _⟩
        cases b_y
        · have hno := Lib.hid (show ¬ Gm.ok g from fun h => by have := (HO.out h).2.1; simp at this)
          clear HO HQ
          go_wp2_with (first | (go_at_call 107; first | ((with_reducible refine ((cx _).out).mono ?_); rintro e v1 ⟨rfl, rfl⟩) | ((with_reducible refine ((cy _).out).mono ?_); rintro e v1 ⟨rfl, rfl⟩)) | (go_at_call 108; first | ((with_reducible refine ((cvx _).out).mono ?_); rintro e v1 ⟨rfl, rfl⟩) | ((with_reducible refine ((cvy _).out).mono ?_); rintro e v1 ⟨rfl, rfl⟩)))
          go_ret
          exact ⟨by first | exact ⟨false, rfl, by simp; exact hno.out⟩ | exact .inl ⟨rfl, hno.out⟩, HBB.out.alloc (Nat.le_of_lt hlB) _⟩
        cases bvx
        · have hno := Lib.hid (show ¬ Gm.ok g from fun h => by have := (HO.out h).2.2.1; simp at this)
          clear HO HQ
          go_wp2_with (first | (go_at_call 107; first | ((with_reducible refine ((cx _).out).mono ?_); rintro e v1 ⟨rfl, rfl⟩) | ((with_reducible refine ((cy _).out).mono ?_); rintro e v1 ⟨rfl, rfl⟩)) | (go_at_call 108; first | ((with_reducible refine ((cvx _).out).mono ?_); rintro e v1 ⟨rfl, rfl⟩) | ((with_reducible refine ((cvy _).out).mono ?_); rintro e v1 ⟨rfl, rfl⟩)))
          go_ret
          exact ⟨by first | exact ⟨false, rfl, by simp; exact hno.out⟩ | exact .inl ⟨rfl, hno.out⟩, HBB.out.alloc (Nat.le_of_lt hlB) _⟩
        cases bvy
        · have hno := Lib.hid (show ¬ Gm.ok g from fun h => by have := (HO.out h).2.2.2.1; simp at this)
          clear HO HQ
          go_wp2_with (first | (go_at_call 107; first | ((with_reducible refine ((cx _).out).mono ?_); rintro e v1 ⟨rfl, rfl⟩) | ((with_reducible refine ((cy _).out).mono ?_); rintro e v1 ⟨rfl, rfl⟩)) | (go_at_call 108; first | ((with_reducible refine ((cvx _).out).mono ?_); rintro e v1 ⟨rfl, rfl⟩) | ((with_reducible refine ((cvy _).out).mono ?_); rintro e v1 ⟨rfl, rfl⟩)))
          go_ret
          exact ⟨by first | exact ⟨false, rfl, by simp; exact hno.out⟩ | exact .inl ⟨rfl, hno.out⟩, HBB.out.alloc (Nat.le_of_lt hlB) _⟩
        by_cases q0 : cool < 0
        · have f0 : decide (cool < 0) = true := decide_eq_true q0
          have hno := Lib.hid (show ¬ Gm.ok g from fun h => by have := (HO.out h).2.2.2.2.1; omega)
          clear HO HQ q0
          go_wp2_with (first | (go_at_call 107; first | ((with_reducible refine ((cx _).out).mono ?_); rintro e v1 ⟨rfl, rfl⟩) | ((with_reducible refine ((cy _).out).mono ?_); rintro e v1 ⟨rfl, rfl⟩)) | (go_at_call 108; first | ((with_reducible refine ((cvx _).out).mono ?_); rintro e v1 ⟨rfl, rfl⟩) | ((with_reducible refine ((cvy _).out).mono ?_); rintro e v1 ⟨rfl, rfl⟩)))
          go_ret
          exact ⟨by first | exact ⟨false, rfl, by simp; exact hno.out⟩ | exact .inl ⟨rfl, hno.out⟩, HBB.out.alloc (Nat.le_of_lt hlB) _⟩
        have f0 : decide (cool < 0) = false := decide_eq_false q0
        by_cases q1 : 10 < cool
        · have f1 : decide (10 < cool) = true := decide_eq_true q1
          have hno := Lib.hid (show ¬ Gm.ok g from fun h => by have := (HO.out h).2.2.2.2.2.1; omega)
          clear HO HQ q0 q1
          go_wp2_with (first | (go_at_call 107; first | ((with_reducible refine ((cx _).out).mono ?_); rintro e v1 ⟨rfl, rfl⟩) | ((with_reducible refine ((cy _).out).mono ?_); rintro e v1 ⟨rfl, rfl⟩)) | (go_at_call 108; first | ((with_reducible refine ((cvx _).out).mono ?_); rintro e v1 ⟨rfl, rfl⟩) | ((with_reducible refine ((cvy _).out).mono ?_); rintro e v1 ⟨rfl, rfl⟩)))
          go_ret
          exact ⟨by first | exact ⟨false, rfl, by simp; exact hno.out⟩ | exact .inl ⟨rfl, hno.out⟩, HBB.out.alloc (Nat.le_of_lt hlB) _⟩
        have f1 : decide (10 < cool) = false := decide_eq_false q1
        by_cases q2 : score < 0
        · have f2 : decide (score < 0) = true := decide_eq_true q2
          have hno := Lib.hid (show ¬ Gm.ok g from fun h => by have := (HO.out h).2.2.2.2.2.2.1; omega)
          clear HO HQ q0 q1 q2
          go_wp2_with (first | (go_at_call 107; first | ((with_reducible refine ((cx _).out).mono ?_); rintro e v1 ⟨rfl, rfl⟩) | ((with_reducible refine ((cy _).out).mono ?_); rintro e v1 ⟨rfl, rfl⟩)) | (go_at_call 108; first | ((with_reducible refine ((cvx _).out).mono ?_); rintro e v1 ⟨rfl, rfl⟩) | ((with_reducible refine ((cvy _).out).mono ?_); rintro e v1 ⟨rfl, rfl⟩)))
          go_ret
          exact ⟨by first | exact ⟨false, rfl, by simp; exact hno.out⟩ | exact .inl ⟨rfl, hno.out⟩, HBB.out.alloc (Nat.le_of_lt hlB) _⟩
        have f2 : decide (score < 0) = false := decide_eq_false q2
        by_cases q3 : 1073741824 < score
        · have f3 : decide (1073741824 < score) = true := decide_eq_true q3
          have hno := Lib.hid (show ¬ Gm.ok g from fun h => by have := (HO.out h).2.2.2.2.2.2.2; omega)
          clear HO HQ q0 q1 q2 q3
          go_wp2_with (first | (go_at_call 107; first | ((with_reducible refine ((cx _).out).mono ?_); rintro e v1 ⟨rfl, rfl⟩) | ((with_reducible refine ((cy _).out).mono ?_); rintro e v1 ⟨rfl, rfl⟩)) | (go_at_call 108; first | ((with_reducible refine ((cvx _).out).mono ?_); rintro e v1 ⟨rfl, rfl⟩) | ((with_reducible refine ((cvy _).out).mono ?_); rintro e v1 ⟨rfl, rfl⟩)))
          go_ret
          exact ⟨by first | exact ⟨false, rfl, by simp; exact hno.out⟩ | exact .inl ⟨rfl, hno.out⟩, HBB.out.alloc (Nat.le_of_lt hlB) _⟩
        have f3 : decide (1073741824 < score) = false := decide_eq_false q3
        have ho := Lib.hid (HQ.out ⟨rfl, rfl, rfl, rfl, by omega, by omega, by omega, by omega⟩)
        clear HO HQ q0 q1 q2 q3
        go_wp2_with (first | (go_at_call 107; first | ((with_reducible refine ((cx _).out).mono ?_); rintro e v1 ⟨rfl, rfl⟩) | ((with_reducible refine ((cy _).out).mono ?_); rintro e v1 ⟨rfl, rfl⟩)) | (go_at_call 108; first | ((with_reducible refine ((cvx _).out).mono ?_); rintro e v1 ⟨rfl, rfl⟩) | ((with_reducible refine ((cvy _).out).mono ?_); rintro e v1 ⟨rfl, rfl⟩)))
        go_roundw
        case rel => exact ⟨k + 1, by omega, by go_num, HB.out.alloc _, HBB.out.alloc (Nat.le_of_lt hlB) _, ho.out⟩
        case measure => simp [intOf]; omega
    · have hk8 : ¬ (k : Int) < 8 := by omega
      have HA8 := Lib.hid (show ∀ j, j < 8 → Gm.okShip (g.ship j) from fun j hj => HALL.out j (by omega))
      have hcr := hB.cell
      have hlB := hB.lt
      clear hc hships h0 d1 d2 d3 HALL
      go_wp2
      go_loopw [5] (fun i wr => ∃ k : Nat, k ≤ n ∧ i = .int .i64 k ∧ Box wr w.heap.size 30 (Gm.cells g (.slice A n c)) ∧ Below w.heap.size w wr ∧ ∀ j (hj : j < g.shots.length), j < k → Gm.okShot (g.shots[j]'hj)) (fun i _ => n - (intOf i).toNat)
      case atStart => exact ⟨0, by omega, rfl, hB, hb, fun j _ hj => absurd hj (Nat.not_lt_zero j)⟩
      case round =>
        obtain ⟨m, hm, rfl, hB, hb, hall⟩ := hrel
        have HALL := Lib.hid hall
        clear hcr hlB hall
        have hcr := hB.cell
        have hlB := hB.lt
        by_cases hlt : m < n
        · have hml : m < g.shots.length := by have := hN.out; omega
          obtain ⟨ad, rfl, hbl, e0, e1, e2, e3, e4, e5⟩ := shots_at (hr.below hb) hN.out m hml
          have ty := hshots m hml
          have HS := Lib.hid (show Gm.ok g → Gm.okShot (g.shots[m]'hml) from fun h => h.2.2.2.2 m hml)
          have HZ := Lib.hid (show Gm.okShot (g.shots[m]'hml) → ∀ j (hj : j < g.shots.length), j < m + 1 → Gm.okShot (g.shots[j]'hj) from fun h j hjl hj => by
            by_cases e : j = m
            · subst e; exact h
            · exact HALL.out j hjl (by omega))
          generalize g.shots[m]'hml = s at e0 e1 e2 e3 e4 e5 ty HS HZ
          obtain ⟨owner, x, y, vx, vy, left⟩ := s
          dsimp only at e0 e1 e2 e3 e4 e5
          obtain ⟨to_, tx, ty, tvx, tvy, tl⟩ := ty
          unfold Gm.i32 Gm.i64 at *
          dsimp only at to_ tx ty tvx tvy tl
          have hmn : (m : Int) < n := by omega
          have HB := Lib.hid hB
          have HBB := Lib.hid hb
          clear hr hshots hb hB
          have cx := fun X => Lib.hid (refin_any x tx X)
          have cy := fun X => Lib.hid (refin_any y ty X)
          have cvx := fun X => Lib.hid (refslow_any vx 393216 tvx (by omega) X)
          have cvy := fun X => Lib.hid (refslow_any vy 393216 tvy (by omega) X)
          obtain ⟨bx, hx⟩ : ∃ b, b = (decide (0 ≤ x) && decide (x < 16777216)) := ⟨_, rfl⟩
          obtain ⟨b_y, hy⟩ : ∃ b, b = (decide (0 ≤ y) && decide (y < 16777216)) := ⟨_, rfl⟩
          obtain ⟨bvx, hvx⟩ : ∃ b, b = (decide (-393216 ≤ vx) && decide (vx ≤ 393216)) := ⟨_, rfl⟩
          obtain ⟨bvy, hvy⟩ : ∃ b, b = (decide (-393216 ≤ vy) && decide (vy ≤ 393216)) := ⟨_, rfl⟩
          rw [← hx] at cx; rw [← hy] at cy; rw [← hvx] at cvx; rw [← hvy] at cvy
          have HX := Lib.hid (show bx = true ↔ Gm.inF x by rw [hx]; unfold Gm.inF; simp)
          have HY := Lib.hid (show b_y = true ↔ Gm.inF y by rw [hy]; unfold Gm.inF; simp)
          have HVX := Lib.hid (show bvx = true ↔ Gm.slow vx 393216 by rw [hvx]; unfold Gm.slow; simp)
          have HVY := Lib.hid (show bvy = true ↔ Gm.slow vy 393216 by rw [hvy]; unfold Gm.slow; simp)
          have HO := Lib.hid (show Gm.ok g → bx = true ∧ b_y = true ∧ bvx = true ∧ bvy = true ∧ 0 ≤ owner ∧ owner < 8 ∧ 1 ≤ left ∧ left ≤ 24 from fun h => by obtain ⟨h5, h6, h1, h2, h3, h4, h7, h8⟩ := HS.out h; exact ⟨HX.out.2 h1, HY.out.2 h2, HVX.out.2 h3, HVY.out.2 h4, h5, h6, h7, h8⟩)
          have HQ := Lib.hid (show (bx = true ∧ b_y = true ∧ bvx = true ∧ bvy = true ∧ 0 ≤ owner ∧ owner < 8 ∧ 1 ≤ left ∧ left ≤ 24) → ∀ j (hj : j < g.shots.length), j < m + 1 → Gm.okShot (g.shots[j]'hj) from fun ⟨h1, h2, h3, h4, h5, h6, h7, h8⟩ => HZ.out ⟨h5, h6, HX.out.1 h1, HY.out.1 h2, HVX.out.1 h3, HVY.out.1 h4, h7, h8⟩)
          clear hx hy hvx hvy HX HY HVX HVY HS HZ tx ty tvx tvy to_ tl
          by_cases q0 : owner < 0
          · have f0 : decide (owner < 0) = true := decide_eq_true q0
            have hno := Lib.hid (show ¬ Gm.ok g from fun h => by have := (HO.out h).2.2.2.2.1; omega)
            clear HO HQ q0
            go_wp2_with (first | (go_at_call 107; first | ((with_reducible refine ((cx _).out).mono ?_); rintro e v1 ⟨rfl, rfl⟩) | ((with_reducible refine ((cy _).out).mono ?_); rintro e v1 ⟨rfl, rfl⟩)) | (go_at_call 108; first | ((with_reducible refine ((cvx _).out).mono ?_); rintro e v1 ⟨rfl, rfl⟩) | ((with_reducible refine ((cvy _).out).mono ?_); rintro e v1 ⟨rfl, rfl⟩)))
            go_ret
            exact ⟨by first | exact ⟨false, rfl, by simp; exact hno.out⟩ | exact .inl ⟨rfl, hno.out⟩, HBB.out.alloc (Nat.le_of_lt hlB) _⟩
          have f0 : decide (owner < 0) = false := decide_eq_false q0
          by_cases q1 : 8 ≤ owner
          · have f1 : decide (8 ≤ owner) = true := decide_eq_true q1
            have hno := Lib.hid (show ¬ Gm.ok g from fun h => by have := (HO.out h).2.2.2.2.2.1; omega)
            clear HO HQ q0 q1
            go_wp2_with (first | (go_at_call 107; first | ((with_reducible refine ((cx _).out).mono ?_); rintro e v1 ⟨rfl, rfl⟩) | ((with_reducible refine ((cy _).out).mono ?_); rintro e v1 ⟨rfl, rfl⟩)) | (go_at_call 108; first | ((with_reducible refine ((cvx _).out).mono ?_); rintro e v1 ⟨rfl, rfl⟩) | ((with_reducible refine ((cvy _).out).mono ?_); rintro e v1 ⟨rfl, rfl⟩)))
            go_ret
            exact ⟨by first | exact ⟨false, rfl, by simp; exact hno.out⟩ | exact .inl ⟨rfl, hno.out⟩, HBB.out.alloc (Nat.le_of_lt hlB) _⟩
          have f1 : decide (8 ≤ owner) = false := decide_eq_false q1
          cases bx
          · have hno := Lib.hid (show ¬ Gm.ok g from fun h => by have := (HO.out h).1; simp at this)
            clear HO HQ q0 q1
            go_wp2_with (first | (go_at_call 107; first | ((with_reducible refine ((cx _).out).mono ?_); rintro e v1 ⟨rfl, rfl⟩) | ((with_reducible refine ((cy _).out).mono ?_); rintro e v1 ⟨rfl, rfl⟩)) | (go_at_call 108; first | ((with_reducible refine ((cvx _).out).mono ?_); rintro e v1 ⟨rfl, rfl⟩) | ((with_reducible refine ((cvy _).out).mono ?_); rintro e v1 ⟨rfl, rfl⟩)))
            go_ret
            exact ⟨by first | exact ⟨false, rfl, by simp; exact hno.out⟩ | exact .inl ⟨rfl, hno.out⟩, HBB.out.alloc (Nat.le_of_lt hlB) _⟩
          cases b_y
          · have hno := Lib.hid (show ¬ Gm.ok g from fun h => by have := (HO.out h).2.1; simp at this)
            clear HO HQ q0 q1
            go_wp2_with (first | (go_at_call 107; first | ((with_reducible refine ((cx _).out).mono ?_); rintro e v1 ⟨rfl, rfl⟩) | ((with_reducible refine ((cy _).out).mono ?_); rintro e v1 ⟨rfl, rfl⟩)) | (go_at_call 108; first | ((with_reducible refine ((cvx _).out).mono ?_); rintro e v1 ⟨rfl, rfl⟩) | ((with_reducible refine ((cvy _).out).mono ?_); rintro e v1 ⟨rfl, rfl⟩)))
            go_ret
            exact ⟨by first | exact ⟨false, rfl, by simp; exact hno.out⟩ | exact .inl ⟨rfl, hno.out⟩, HBB.out.alloc (Nat.le_of_lt hlB) _⟩
          cases bvx
          · have hno := Lib.hid (show ¬ Gm.ok g from fun h => by have := (HO.out h).2.2.1; simp at this)
            clear HO HQ q0 q1
            go_wp2_with (first | (go_at_call 107; first | ((with_reducible refine ((cx _).out).mono ?_); rintro e v1 ⟨rfl, rfl⟩) | ((with_reducible refine ((cy _).out).mono ?_); rintro e v1 ⟨rfl, rfl⟩)) | (go_at_call 108; first | ((with_reducible refine ((cvx _).out).mono ?_); rintro e v1 ⟨rfl, rfl⟩) | ((with_reducible refine ((cvy _).out).mono ?_); rintro e v1 ⟨rfl, rfl⟩)))
            go_ret
            exact ⟨by first | exact ⟨false, rfl, by simp; exact hno.out⟩ | exact .inl ⟨rfl, hno.out⟩, HBB.out.alloc (Nat.le_of_lt hlB) _⟩
          cases bvy
          · have hno := Lib.hid (show ¬ Gm.ok g from fun h => by have := (HO.out h).2.2.2.1; simp at this)
            clear HO HQ q0 q1
            go_wp2_with (first | (go_at_call 107; first | ((with_reducible refine ((cx _).out).mono ?_); rintro e v1 ⟨rfl, rfl⟩) | ((with_reducible refine ((cy _).out).mono ?_); rintro e v1 ⟨rfl, rfl⟩)) | (go_at_call 108; first | ((with_reducible refine ((cvx _).out).mono ?_); rintro e v1 ⟨rfl, rfl⟩) | ((with_reducible refine ((cvy _).out).mono ?_); rintro e v1 ⟨rfl, rfl⟩)))
            go_ret
            exact ⟨by first | exact ⟨false, rfl, by simp; exact hno.out⟩ | exact .inl ⟨rfl, hno.out⟩, HBB.out.alloc (Nat.le_of_lt hlB) _⟩
          by_cases q2 : left < 1
          · have f2 : decide (left < 1) = true := decide_eq_true q2
            have hno := Lib.hid (show ¬ Gm.ok g from fun h => by have := (HO.out h).2.2.2.2.2.2.1; omega)
            clear HO HQ q0 q1 q2
            go_wp2_with (first | (go_at_call 107; first | ((with_reducible refine ((cx _).out).mono ?_); rintro e v1 ⟨rfl, rfl⟩) | ((with_reducible refine ((cy _).out).mono ?_); rintro e v1 ⟨rfl, rfl⟩)) | (go_at_call 108; first | ((with_reducible refine ((cvx _).out).mono ?_); rintro e v1 ⟨rfl, rfl⟩) | ((with_reducible refine ((cvy _).out).mono ?_); rintro e v1 ⟨rfl, rfl⟩)))
            go_ret
            exact ⟨by first | exact ⟨false, rfl, by simp; exact hno.out⟩ | exact .inl ⟨rfl, hno.out⟩, HBB.out.alloc (Nat.le_of_lt hlB) _⟩
          have f2 : decide (left < 1) = false := decide_eq_false q2
          by_cases q3 : 24 < left
          · have f3 : decide (24 < left) = true := decide_eq_true q3
            have hno := Lib.hid (show ¬ Gm.ok g from fun h => by have := (HO.out h).2.2.2.2.2.2.2; omega)
            clear HO HQ q0 q1 q2 q3
            go_wp2_with (first | (go_at_call 107; first | ((with_reducible refine ((cx _).out).mono ?_); rintro e v1 ⟨rfl, rfl⟩) | ((with_reducible refine ((cy _).out).mono ?_); rintro e v1 ⟨rfl, rfl⟩)) | (go_at_call 108; first | ((with_reducible refine ((cvx _).out).mono ?_); rintro e v1 ⟨rfl, rfl⟩) | ((with_reducible refine ((cvy _).out).mono ?_); rintro e v1 ⟨rfl, rfl⟩)))
            go_ret
            exact ⟨by first | exact ⟨false, rfl, by simp; exact hno.out⟩ | exact .inl ⟨rfl, hno.out⟩, HBB.out.alloc (Nat.le_of_lt hlB) _⟩
          have f3 : decide (24 < left) = false := decide_eq_false q3
          have ho := Lib.hid (HQ.out ⟨rfl, rfl, rfl, rfl, by omega, by omega, by omega, by omega⟩)
          clear HO HQ q0 q1 q2 q3
          go_wp2_with (first | (go_at_call 107; first | ((with_reducible refine ((cx _).out).mono ?_); rintro e v1 ⟨rfl, rfl⟩) | ((with_reducible refine ((cy _).out).mono ?_); rintro e v1 ⟨rfl, rfl⟩)) | (go_at_call 108; first | ((with_reducible refine ((cvx _).out).mono ?_); rintro e v1 ⟨rfl, rfl⟩) | ((with_reducible refine ((cvy _).out).mono ?_); rintro e v1 ⟨rfl, rfl⟩)))
          go_roundw
          case rel => exact ⟨m + 1, by omega, by go_num, HB.out.alloc _, HBB.out.alloc (Nat.le_of_lt hlB) _, ho.out⟩
          case measure => simp [intOf]; omega
        · have hmn : ¬ (m : Int) < n := by omega
          have hyes := Lib.hid (show Gm.ok g from ⟨HF.out.1, HF.out.2.1, HF.out.2.2, HA8.out, fun j hj => HALL.out j hj (by have := hN.out; omega)⟩)
          have HBB := Lib.hid hb
          clear hr hshots hb hB HALL
          go_wp2
          go_ret
          exact ⟨by first | exact ⟨true, rfl, by simp; exact hyes.out⟩ | exact .inr ⟨rfl, hyes.out⟩, HBB.out⟩
end Go.Proofs.Ytbihnmingedgfaa
