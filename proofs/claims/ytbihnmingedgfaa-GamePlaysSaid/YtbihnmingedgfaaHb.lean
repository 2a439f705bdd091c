/-
The program's game: all ships, all shots may be; so may the game.
-/
import Derived.Test.YtbihnmingedgfaaHa
namespace Go.Proofs.Ytbihnmingedgfaa
open Go.RowKit
set_option linter.unusedVariables false

theorem shipCells_at (f : Nat → Gm.Ship) (k j : Nat) (hk : k < 8) (hj : j < 7) : (Gm.shipCells f)[k * 7 + j]? = (f k).cells[j]? := by
  match k, hk with
  | 0, _ => match j, hj with | 0, _ | 1, _ | 2, _ | 3, _ | 4, _ | 5, _ | 6, _ => rfl
  | 1, _ => match j, hj with | 0, _ | 1, _ | 2, _ | 3, _ | 4, _ | 5, _ | 6, _ => rfl
  | 2, _ => match j, hj with | 0, _ | 1, _ | 2, _ | 3, _ | 4, _ | 5, _ | 6, _ => rfl
  | 3, _ => match j, hj with | 0, _ | 1, _ | 2, _ | 3, _ | 4, _ | 5, _ | 6, _ => rfl
  | 4, _ => match j, hj with | 0, _ | 1, _ | 2, _ | 3, _ | 4, _ | 5, _ | 6, _ => rfl
  | 5, _ => match j, hj with | 0, _ | 1, _ | 2, _ | 3, _ | 4, _ | 5, _ | 6, _ => rfl
  | 6, _ => match j, hj with | 0, _ | 1, _ | 2, _ | 3, _ | 4, _ | 5, _ | 6, _ => rfl
  | 7, _ => match j, hj with | 0, _ | 1, _ | 2, _ | 3, _ | 4, _ | 5, _ | 6, _ => rfl
/-- The seven cells of a ship, as a walk spells them. -/
theorem ships_at {w : World} {B : Nat} {A : Option Addr} {f : Nat → Gm.Ship} (h : Lies w B 7 A 8 (Gm.shipCells f)) (k : Nat) (hk : k < 8) :
    ∃ ad, A = some ad ∧ ad.block < B ∧ w.cell? (ad.add (k * 7)) = some (.bool (f k).on) ∧ w.cell? ⟨(ad.add (k * 7)).block, (ad.add (k * 7)).off + 1, none⟩ = some (.int .i32 (f k).x) ∧
      w.cell? ⟨(ad.add (k * 7)).block, (ad.add (k * 7)).off + 2, none⟩ = some (.int .i32 (f k).y) ∧ w.cell? ⟨(ad.add (k * 7)).block, (ad.add (k * 7)).off + 3, none⟩ = some (.int .i32 (f k).vx) ∧
      w.cell? ⟨(ad.add (k * 7)).block, (ad.add (k * 7)).off + 4, none⟩ = some (.int .i32 (f k).vy) ∧ w.cell? ⟨(ad.add (k * 7)).block, (ad.add (k * 7)).off + 5, none⟩ = some (.int .i64 (f k).cool) ∧
      w.cell? ⟨(ad.add (k * 7)).block, (ad.add (k * 7)).off + 6, none⟩ = some (.int .i64 (f k).score) := by
  obtain ⟨ad, e, hb⟩ := h.start (by omega)
  have hc := h.cell ad e (by omega)
  have hj : ∀ j v, j < 7 → (f k).cells[j]? = some v → w.cell? ((ad.add (k * 7)).add j) = some v := fun j v hj hv => by
    rw [add_twice]
    exact hc _ _ ((shipCells_at f k j hk hj).trans hv)
  refine ⟨ad, e, hb, ?_, ?_, ?_, ?_, ?_, ?_, ?_⟩
  · have := hj 0 _ (by omega) rfl; rwa [show (ad.add (k * 7)).add 0 = ad.add (k * 7) from by unfold Addr.add; rfl] at this
  · have := hj 1 _ (by omega) rfl; rwa [add_lit' _ 1 (by omega)] at this
  · have := hj 2 _ (by omega) rfl; rwa [add_lit' _ 2 (by omega)] at this
  · have := hj 3 _ (by omega) rfl; rwa [add_lit' _ 3 (by omega)] at this
  · have := hj 4 _ (by omega) rfl; rwa [add_lit' _ 4 (by omega)] at this
  · have := hj 5 _ (by omega) rfl; rwa [add_lit' _ 5 (by omega)] at this
  · have := hj 6 _ (by omega) rfl; rwa [add_lit' _ 6 (by omega)] at this
/-- The ships of a game's block lie there as eight elements. -/
theorem ships_lie {w : World} {B : Nat} {g : Gm.G} {s : Value} (h : Box w B 30 (Gm.cells g s)) : Lies w w.heap.size 7 (some ⟨B, 2, none⟩) 8 (Gm.shipCells g.ship) := by
  refine ⟨rfl, fun _ => ⟨_, rfl, h.lt⟩, fun ad e _ j u hu => ?_⟩
  injection e with e
  subst e
  have hj : j < 56 := by have := (List.getElem?_eq_some_iff.1 hu).1; rwa [Gm.shipCells_len] at this
  have hadd : (⟨B, 2, none⟩ : Addr).add j = ⟨B, 2 + j, none⟩ := by unfold Addr.add; split <;> simp_all
  rw [hadd, h.cell, Gm.cells_shipj _ _ _ hj, hu]

set_option maxHeartbeats 1000000 in
theorem allship1_yes (s : Gm.Ship) (h : Gm.okShip s) (Bf : Nat) (w : World) (hf : Box w Bf 141 #[.func (.func 101) #[] #[]]) :
    Calls Try.prog 136 #[.agg s.cells.toArray, .pointer (some ⟨Bf, 0, none⟩)] w fun e w' => e = .returned (.bool false) ∧ Below w.heap.size w w' := by
  have c1 := fun X => Lib.hid (mayship_yes s h X)
  have hK : ∀ o, (w.alloc o).cell? ⟨Bf, 0, none⟩ = some (.func (.func 101) #[] #[]) := fun o => (hf.alloc o).cell 0
  obtain ⟨on, x, y, vx, vy, cool, score⟩ := s
  simp only [Gm.Ship.cells] at c1 ⊢
  clear h hf
  go_enter Try.func136, Try.ntmps136
  go_wp2_with (go_at_call 101; ((with_reducible refine ((c1 _).out).mono ?_); rintro e w1 ⟨rfl, hb1⟩))
  go_ret
  exact ⟨rfl, (one_below w _).trans (hb1.mono (by simp))⟩

set_option maxRecDepth 100000 in
set_option maxHeartbeats 2000000 in
theorem indexship_yes (f : Nat → Gm.Ship) (A : Option Addr) (c : Nat) (Bf : Nat) (w : World) (hok : ∀ i, i < 8 → Gm.okShip (f i)) (hr : Lies w w.heap.size 7 A 8 (Gm.shipCells f)) (hf : Box w Bf 141 #[.func (.func 101) #[] #[]]) :
    Calls Try.prog 155 #[.slice A 8 c, .func (.func 136) #[] #[.pointer (some ⟨Bf, 0, none⟩)]] w fun e w' => e = .returned (.int .i64 (-1)) ∧ Below w.heap.size w w' := by
  go_enter Try.func155, Try.ntmps155
  go_wp2
  go_loopw [8] (fun i wr => ∃ k : Nat, k ≤ 8 ∧ i = .int .i64 k ∧ Below w.heap.size w wr) (fun i _ => 8 - (intOf i).toNat)
  case atStart => exact ⟨0, by omega, rfl, Below.refl _ _⟩
  case round =>
    obtain ⟨k, hk, rfl, hb⟩ := hrel
    by_cases hlt : k < 8
    · have hbs := hb.size
      obtain ⟨ad, rfl, hbl, e0, e1, e2, e3, e4, e5, e6⟩ := ships_at (hr.below hb) k hlt
      have ho := hok k hlt
      have cc := fun X hX => Lib.hid (allship1_yes (f k) ho Bf X hX)
      have hfb := hf.below hb hf.lt
      generalize f k = s at e0 e1 e2 e3 e4 e5 e6 ho cc
      obtain ⟨on, x, y, vx, vy, cool, score⟩ := s
      dsimp only at e0 e1 e2 e3 e4 e5 e6
      simp only [Gm.Ship.cells] at cc
      have hkn : (k : Int) < 8 := by omega
      have HB := Lib.hid hb
      have HF := Lib.hid hfb
      clear hr hok ho hb hf hfb
      go_wp2_with (go_at_call 136; ((with_reducible refine ((cc _ (by first | exact HF.out)).out).mono ?_); rintro e w1 ⟨rfl, hb1⟩))
      go_roundw
      case rel => exact ⟨k + 1, by omega, by go_num, HB.out.trans (hb1.mono HB.out.size)⟩
      case measure => simp [intOf]; omega
    · have hkn : ¬ (k : Int) < 8 := by omega
      clear hr
      go_wp2
      go_ret
      exact ⟨rfl, hb⟩

set_option maxHeartbeats 1000000 in
theorem containsship_no (f : Nat → Gm.Ship) (A : Option Addr) (c : Nat) (Bf : Nat) (w : World) (hok : ∀ i, i < 8 → Gm.okShip (f i)) (hr : Lies w w.heap.size 7 A 8 (Gm.shipCells f)) (hf : Box w Bf 141 #[.func (.func 101) #[] #[]]) :
    Calls Try.prog 135 #[.slice A 8 c, .func (.func 136) #[] #[.pointer (some ⟨Bf, 0, none⟩)]] w fun e w' => e = .returned (.bool false) ∧ Below w.heap.size w w' := by
  have c1 := Lib.hid (indexship_yes f A c Bf w hok hr hf)
  clear hr hok hf
  go_enter Try.func135, Try.ntmps135
  go_wp2_with (go_at_call 155; ((with_reducible refine ((c1).out).mono ?_); rintro e w1 ⟨rfl, hb1⟩))
  go_ret
  exact ⟨rfl, hb1⟩

set_option maxHeartbeats 1000000 in
theorem allship_yes (f : Nat → Gm.Ship) (A : Option Addr) (c : Nat) (w : World) (hok : ∀ i, i < 8 → Gm.okShip (f i)) (hr : Lies w w.heap.size 7 A 8 (Gm.shipCells f)) :
    Calls Try.prog 100 #[.slice A 8 c, .func (.func 101) #[] #[]] w fun e w' => e = .returned (.bool true) ∧ Below w.heap.size w w' := by
  have hmf : ∀ (fn : Fn) (first cap : Array Value) (w : World), (Instr.makeFunc fn first cap).run Try.prog w = .ok (.func fn first cap) w := fun _ _ _ _ => rfl
  have hb0 := one_below w (.cells #[.func (.func 101) #[] #[]] 141)
  have c1 := Lib.hid (containsship_no f A c w.heap.size _ hok ((hr.below hb0).wider hb0.size) (Box.made w _ _))
  have hbz := Lib.hid hb0
  clear hr hok hb0
  go_enter Try.func100, Try.ntmps100
  go_wp2_with (go_at_call 135; ((with_reducible refine ((c1).out).mono ?_); rintro e w1 ⟨rfl, hb1⟩))
  go_ret
  exact ⟨rfl, hbz.out.trans (hb1.mono hbz.out.size)⟩

set_option maxHeartbeats 1000000 in
theorem allshot1_yes (s : Gm.Shot) (h : Gm.okShot s) (Bf : Nat) (w : World) (hf : Box w Bf 143 #[.func (.func 103) #[] #[]]) :
    Calls Try.prog 140 #[.agg s.cells.toArray, .pointer (some ⟨Bf, 0, none⟩)] w fun e w' => e = .returned (.bool false) ∧ Below w.heap.size w w' := by
  have c1 := fun X => Lib.hid (mayshot_yes s h X)
  have hK : ∀ o, (w.alloc o).cell? ⟨Bf, 0, none⟩ = some (.func (.func 103) #[] #[]) := fun o => (hf.alloc o).cell 0
  obtain ⟨owner, x, y, vx, vy, left⟩ := s
  simp only [Gm.Shot.cells] at c1 ⊢
  clear h hf
  go_enter Try.func140, Try.ntmps140
  go_wp2_with (go_at_call 103; ((with_reducible refine ((c1 _).out).mono ?_); rintro e w1 ⟨rfl, hb1⟩))
  go_ret
  exact ⟨rfl, (one_below w _).trans (hb1.mono (by simp))⟩

set_option maxRecDepth 100000 in
set_option maxHeartbeats 2000000 in
theorem indexshot_yes (l : List Gm.Shot) (A : Option Addr) (n c : Nat) (Bf : Nat) (w : World) (hok : ∀ i (h : i < l.length), Gm.okShot l[i]) (hn : n = l.length) (hn32 : n ≤ 32) (hr : Lies w w.heap.size 6 A n (Gm.shotCells l)) (hf : Box w Bf 143 #[.func (.func 103) #[] #[]]) :
    Calls Try.prog 157 #[.slice A n c, .func (.func 140) #[] #[.pointer (some ⟨Bf, 0, none⟩)]] w fun e w' => e = .returned (.int .i64 (-1)) ∧ Below w.heap.size w w' := by
  have hN := Lib.hid hn
  clear hn
  go_enter Try.func157, Try.ntmps157
  go_wp2
  go_loopw [8] (fun i wr => ∃ k : Nat, k ≤ n ∧ i = .int .i64 k ∧ Below w.heap.size w wr) (fun i _ => n - (intOf i).toNat)
  case atStart => exact ⟨0, by omega, rfl, Below.refl _ _⟩
  case round =>
    obtain ⟨k, hk, rfl, hb⟩ := hrel
    by_cases hlt : k < n
    · have hbs := hb.size
      obtain ⟨ad, rfl, hbl, e0, e1, e2, e3, e4, e5⟩ := shots_at (hr.below hb) hN.out k (by have := hN.out; omega)
      have ho := hok k (by have := hN.out; omega)
      have cc := fun X hX => Lib.hid (allshot1_yes (l[k]'(by have := hN.out; omega)) ho Bf X hX)
      have hfb := hf.below hb hf.lt
      generalize l[k]'(by have := hN.out; omega) = s at e0 e1 e2 e3 e4 e5 ho cc
      obtain ⟨owner, x, y, vx, vy, left⟩ := s
      dsimp only at e0 e1 e2 e3 e4 e5
      simp only [Gm.Shot.cells] at cc
      have hkn : (k : Int) < n := by omega
      have HB := Lib.hid hb
      have HF := Lib.hid hfb
      clear hr hok ho hb hf hfb
      go_wp2_with (go_at_call 140; ((with_reducible refine ((cc _ (by first | exact HF.out)).out).mono ?_); rintro e w1 ⟨rfl, hb1⟩))
      go_roundw
      case rel => exact ⟨k + 1, by omega, by go_num, HB.out.trans (hb1.mono HB.out.size)⟩
      case measure => simp [intOf]; omega
    · have hkn : ¬ (k : Int) < n := by omega
      clear hr
      go_wp2
      go_ret
      exact ⟨rfl, hb⟩

set_option maxHeartbeats 1000000 in
theorem containsshot_no (l : List Gm.Shot) (A : Option Addr) (n c : Nat) (Bf : Nat) (w : World) (hok : ∀ i (h : i < l.length), Gm.okShot l[i]) (hn : n = l.length) (hn32 : n ≤ 32) (hr : Lies w w.heap.size 6 A n (Gm.shotCells l)) (hf : Box w Bf 143 #[.func (.func 103) #[] #[]]) :
    Calls Try.prog 139 #[.slice A n c, .func (.func 140) #[] #[.pointer (some ⟨Bf, 0, none⟩)]] w fun e w' => e = .returned (.bool false) ∧ Below w.heap.size w w' := by
  have c1 := Lib.hid (indexshot_yes l A n c Bf w hok hn hn32 hr hf)
  clear hr hok hf hn
  go_enter Try.func139, Try.ntmps139
  go_wp2_with (go_at_call 157; ((with_reducible refine ((c1).out).mono ?_); rintro e w1 ⟨rfl, hb1⟩))
  go_ret
  exact ⟨rfl, hb1⟩

set_option maxHeartbeats 1000000 in
theorem allshot_yes (l : List Gm.Shot) (A : Option Addr) (n c : Nat) (w : World) (hok : ∀ i (h : i < l.length), Gm.okShot l[i]) (hn : n = l.length) (hn32 : n ≤ 32) (hr : Lies w w.heap.size 6 A n (Gm.shotCells l)) :
    Calls Try.prog 102 #[.slice A n c, .func (.func 103) #[] #[]] w fun e w' => e = .returned (.bool true) ∧ Below w.heap.size w w' := by
  have hmf : ∀ (fn : Fn) (first cap : Array Value) (w : World), (Instr.makeFunc fn first cap).run Try.prog w = .ok (.func fn first cap) w := fun _ _ _ _ => rfl
  have hb0 := one_below w (.cells #[.func (.func 103) #[] #[]] 143)
  have c1 := Lib.hid (containsshot_no l A n c w.heap.size _ hok hn hn32 ((hr.below hb0).wider hb0.size) (Box.made w _ _))
  have hbz := Lib.hid hb0
  clear hr hok hb0 hn
  go_enter Try.func102, Try.ntmps102
  go_wp2_with (go_at_call 139; ((with_reducible refine ((c1).out).mono ?_); rintro e w1 ⟨rfl, hb1⟩))
  go_ret
  exact ⟨rfl, hbz.out.trans (hb1.mono hbz.out.size)⟩

set_option maxRecDepth 100000 in
set_option maxHeartbeats 2000000 in
theorem may_yes (g : Gm.G) (A : Option Addr) (n c : Nat) (w : World) (hg : Gm.ok g) (hn : n = g.shots.length) (hr : Lies w w.heap.size 6 A n (Gm.shotCells g.shots)) :
    Calls Try.prog 51 #[.agg (Gm.cells g (.slice A n c))] w fun e w' => e = .returned (.bool true) ∧ Below w.heap.size w w' := by
  obtain ⟨hf1, hf2, hl, hships, hshots⟩ := hg
  have d1 : decide (g.frame < 0) = false := decide_eq_false (by omega)
  have d2 : decide (1048576 < g.frame) = false := decide_eq_false (by omega)
  have d3 : decide (32 < (n : Int)) = false := decide_eq_false (by omega)
  have B0 := Box.made w 30 (Gm.cells g (.slice A n c))
  have hb0 := one_below w (.cells (Gm.cells g (.slice A n c)) 30)
  have c1 := Lib.hid (allship_yes g.ship (some ⟨w.heap.size, 2, none⟩) 8 _ hships (ships_lie B0))
  have c2 := fun X (hX : Below w.heap.size w X) => Lib.hid (allshot_yes g.shots A n c X hshots hn (by omega) ((hr.below hX).wider hX.size))
  have hc : ∀ j, (w.alloc (.cells (Gm.cells g (.slice A n c)) 30)).cell? ⟨w.heap.size, j, none⟩ = (Gm.cells g (.slice A n c))[j]? := fun j => B0.cell j
  have h0 := Gm.cells_0 g (.slice A n c)
  have h58 := Gm.cells_58 g (.slice A n c)
  have BB := Lib.hid B0
  have HB := Lib.hid hb0
  clear hr hships hshots B0 hb0 hn
  go_enter Try.func51, Try.ntmps51
  go_wp2_with (first | (go_at_call 100; ((with_reducible refine ((c1).out).mono ?_); rintro e w1 ⟨rfl, hb1⟩; have hc1 := (BB.out.below hb1 BB.out.lt).cell; have HB1 := Lib.hid (HB.out.trans (hb1.mono HB.out.size)))) | (go_at_call 102; ((with_reducible refine ((c2 _ (HB1.out)).out).mono ?_); rintro e w2 ⟨rfl, hb2⟩)))
  go_ret
  exact ⟨rfl, HB1.out.trans (hb2.mono HB1.out.size)⟩
/-- A frame below nought. -/
theorem may_no (g : Gm.G) (s : Value) (w : World) (hg : g.frame < 0) :
    Calls Try.prog 51 #[.agg (Gm.cells g s)] w fun e w' => e = .returned (.bool false) ∧ Below w.heap.size w w' := by
  have d1 : decide (g.frame < 0) = true := decide_eq_true hg
  have B0 := Box.made w 30 (Gm.cells g s)
  have hb0 := one_below w (.cells (Gm.cells g s) 30)
  have hc : ∀ j, (w.alloc (.cells (Gm.cells g s) 30)).cell? ⟨w.heap.size, j, none⟩ = (Gm.cells g s)[j]? := fun j => B0.cell j
  have h0 := Gm.cells_0 g s
  clear B0
  go_enter Try.func51, Try.ntmps51
  go_wp2
  go_ret
  exact ⟨rfl, hb0⟩
end Go.Proofs.Ytbihnmingedgfaa
