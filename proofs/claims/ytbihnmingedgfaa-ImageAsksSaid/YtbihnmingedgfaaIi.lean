/-
The program's game: a game that may not be is told.
-/
import Derived.Test.YtbihnmingedgfaaIh
namespace Go.Proofs.Ytbihnmingedgfaa
open Go.RowKit
set_option linter.unusedVariables false

set_option maxHeartbeats 1000000 in
theorem allship1_bad (s : Gm.Ship) (h : ¬ Gm.okShip s) (ty : Gm.tyShip s) (Bf : Nat) (w : World) (hf : Box w Bf 141 #[.func (.func 101) #[] #[]]) :
    Calls Try.prog 136 #[.agg s.cells.toArray, .pointer (some ⟨Bf, 0, none⟩)] w fun e w' => e = .returned (.bool true) ∧ Below w.heap.size w w' := by
  have c1 := fun X => Lib.hid (mayship_bad s h ty X)
  have hK : ∀ o, (w.alloc o).cell? ⟨Bf, 0, none⟩ = some (.func (.func 101) #[] #[]) := fun o => (hf.alloc o).cell 0
  obtain ⟨on, x, y, vx, vy, cool, score⟩ := s
  simp only [Gm.Ship.cells] at c1 ⊢
  clear h hf ty
  go_enter Try.func136, Try.ntmps136
  go_wp2_with (go_at_call 101; ((with_reducible refine ((c1 _).out).mono ?_); rintro e w1 ⟨rfl, hb1⟩))
  go_ret
  exact ⟨rfl, (one_below w _).trans (hb1.mono (by simp))⟩

set_option maxRecDepth 100000 in
set_option maxHeartbeats 2000000 in
theorem indexship_bad (f : Nat → Gm.Ship) (A : Option Addr) (c : Nat) (Bf : Nat) (w : World) (hno : ¬ ∀ i (h : i < 8), Gm.okShip (f i)) (hty : ∀ i (h : i < 8), Gm.tyShip (f i)) (hr : Lies w w.heap.size 7 A 8 (Gm.shipCells f)) (hf : Box w Bf 141 #[.func (.func 101) #[] #[]]) :
    Calls Try.prog 155 #[.slice A 8 c, .func (.func 136) #[] #[.pointer (some ⟨Bf, 0, none⟩)]] w fun e w' => (∃ k : Nat, e = .returned (.int .i64 k)) ∧ Below w.heap.size w w' := by
  have HNO := Lib.hid hno
  clear hno
  go_enter Try.func155, Try.ntmps155
  go_wp2
  go_loopw [8] (fun i wr => ∃ k : Nat, k ≤ 8 ∧ i = .int .i64 k ∧ (∀ j (hj : j < k), Gm.okShip (f j)) ∧ Below w.heap.size w wr) (fun i _ => 8 - (intOf i).toNat)
  case atStart => exact ⟨0, by omega, rfl, fun j hj => absurd hj (Nat.not_lt_zero j), Below.refl _ _⟩
  case round =>
    obtain ⟨k, hk, rfl, hall, hb⟩ := hrel
    by_cases hlt : k < 8
    · have hbs := hb.size
      obtain ⟨ad, rfl, hbl, e0, e1, e2, e3, e4, e5, e6⟩ := ships_at (hr.below hb) k hlt
      have cty := hty k hlt
      have hfb := hf.below hb hf.lt
      have hkn : (k : Int) < 8 := by omega
      by_cases ho : Gm.okShip (f k)
      · have hall2 : ∀ j (hj : j < k + 1), Gm.okShip (f j) := fun j hj => by
          by_cases e : j = k
          · subst e; exact ho
          · exact hall j (by omega)
        have cc := fun X hX => Lib.hid (allship1_yes (f k) ho Bf X hX)
        generalize f k = s at e0 e1 e2 e3 e4 e5 e6 ho cc cty
        obtain ⟨on, x, y, vx, vy, cool, score⟩ := s
        dsimp only at e0 e1 e2 e3 e4 e5 e6
        simp only [Gm.Ship.cells] at cc
        have HB := Lib.hid hb
        have HF := Lib.hid hfb
        have HALL := Lib.hid hall2
        clear hr ho hb hf hfb hty cty hall hall2
        go_wp2_with (go_at_call 136; ((with_reducible refine ((cc _ (by first | exact HF.out)).out).mono ?_); rintro e w1 ⟨rfl, hb1⟩))
        go_roundw
        case rel => exact ⟨k + 1, by omega, by go_num, HALL.out, HB.out.trans (hb1.mono HB.out.size)⟩
        case measure => simp [intOf]; omega
      · have cc := fun X hX => Lib.hid (allship1_bad (f k) ho cty Bf X hX)
        generalize f k = s at e0 e1 e2 e3 e4 e5 e6 ho cc cty
        obtain ⟨on, x, y, vx, vy, cool, score⟩ := s
        dsimp only at e0 e1 e2 e3 e4 e5 e6
        simp only [Gm.Ship.cells] at cc
        have HB := Lib.hid hb
        have HF := Lib.hid hfb
        clear hr ho hb hf hfb hty cty hall
        go_wp2_with (go_at_call 136; ((with_reducible refine ((cc _ (by first | exact HF.out)).out).mono ?_); rintro e w1 ⟨rfl, hb1⟩))
        go_ret
        exact ⟨⟨k, rfl⟩, HB.out.trans (hb1.mono HB.out.size)⟩
    · exact absurd (fun i hi => hall i (by omega)) HNO.out

set_option maxHeartbeats 1000000 in
theorem containsship_yes (f : Nat → Gm.Ship) (A : Option Addr) (c : Nat) (Bf : Nat) (w : World) (hno : ¬ ∀ i (h : i < 8), Gm.okShip (f i)) (hty : ∀ i (h : i < 8), Gm.tyShip (f i)) (hr : Lies w w.heap.size 7 A 8 (Gm.shipCells f)) (hf : Box w Bf 141 #[.func (.func 101) #[] #[]]) :
    Calls Try.prog 135 #[.slice A 8 c, .func (.func 136) #[] #[.pointer (some ⟨Bf, 0, none⟩)]] w fun e w' => e = .returned (.bool true) ∧ Below w.heap.size w w' := by
  have c1 := Lib.hid (indexship_bad f A c Bf w hno hty hr hf)
  clear hr hf hno hty
  go_enter Try.func135, Try.ntmps135
  go_wp2_with (go_at_call 155; ((with_reducible refine ((c1).out).mono ?_); rintro e w1 ⟨⟨k, rfl⟩, hb1⟩; have hd : decide (0 ≤ (k : Int)) = true := decide_eq_true (by omega)))
  go_ret
  exact ⟨rfl, hb1⟩

set_option maxHeartbeats 1000000 in
theorem allship_bad (f : Nat → Gm.Ship) (A : Option Addr) (c : Nat) (w : World) (hno : ¬ ∀ i (h : i < 8), Gm.okShip (f i)) (hty : ∀ i (h : i < 8), Gm.tyShip (f i)) (hr : Lies w w.heap.size 7 A 8 (Gm.shipCells f)) :
    Calls Try.prog 100 #[.slice A 8 c, .func (.func 101) #[] #[]] w fun e w' => e = .returned (.bool false) ∧ Below w.heap.size w w' := by
  have hmf : ∀ (fn : Fn) (first cap : Array Value) (w : World), (Instr.makeFunc fn first cap).run Try.prog w = .ok (.func fn first cap) w := fun _ _ _ _ => rfl
  have hb0 := one_below w (.cells #[.func (.func 101) #[] #[]] 141)
  have c1 := Lib.hid (containsship_yes f A c w.heap.size _ hno hty ((hr.below hb0).wider hb0.size) (Box.made w _ _))
  have hbz := Lib.hid hb0
  clear hr hb0 hno hty
  go_enter Try.func100, Try.ntmps100
  go_wp2_with (go_at_call 135; ((with_reducible refine ((c1).out).mono ?_); rintro e w1 ⟨rfl, hb1⟩))
  go_ret
  exact ⟨rfl, hbz.out.trans (hb1.mono hbz.out.size)⟩

set_option maxHeartbeats 1000000 in
theorem allshot1_bad (s : Gm.Shot) (h : ¬ Gm.okShot s) (ty : Gm.tyShot s) (Bf : Nat) (w : World) (hf : Box w Bf 143 #[.func (.func 103) #[] #[]]) :
    Calls Try.prog 140 #[.agg s.cells.toArray, .pointer (some ⟨Bf, 0, none⟩)] w fun e w' => e = .returned (.bool true) ∧ Below w.heap.size w w' := by
  have c1 := fun X => Lib.hid (show Calls Try.prog 103 #[.agg s.cells.toArray] X (fun e w' => e = .returned (.bool false) ∧ Below X.heap.size X w') by obtain ⟨a, b, c, d, e, f⟩ := s; exact mayshot_not a b c d e f h ty X)
  have hK : ∀ o, (w.alloc o).cell? ⟨Bf, 0, none⟩ = some (.func (.func 103) #[] #[]) := fun o => (hf.alloc o).cell 0
  obtain ⟨owner, x, y, vx, vy, left⟩ := s
  simp only [Gm.Shot.cells] at c1 ⊢
  clear h hf ty
  go_enter Try.func140, Try.ntmps140
  go_wp2_with (go_at_call 103; ((with_reducible refine ((c1 _).out).mono ?_); rintro e w1 ⟨rfl, hb1⟩))
  go_ret
  exact ⟨rfl, (one_below w _).trans (hb1.mono (by simp))⟩

set_option maxRecDepth 100000 in
set_option maxHeartbeats 2000000 in
theorem indexshot_bad (l : List Gm.Shot) (n : Nat) (A : Option Addr) (c : Nat) (Bf : Nat) (w : World) (hno : ¬ ∀ i (h : i < l.length), Gm.okShot (l[i])) (hty : ∀ i (h : i < l.length), Gm.tyShot (l[i])) (hn : n = l.length) (hn32 : n ≤ 32) (hr : Lies w w.heap.size 6 A n (Gm.shotCells l)) (hf : Box w Bf 143 #[.func (.func 103) #[] #[]]) :
    Calls Try.prog 157 #[.slice A n c, .func (.func 140) #[] #[.pointer (some ⟨Bf, 0, none⟩)]] w fun e w' => (∃ k : Nat, e = .returned (.int .i64 k)) ∧ Below w.heap.size w w' := by
  have hN := Lib.hid hn
  clear hn
  have HNO := Lib.hid hno
  clear hno
  go_enter Try.func157, Try.ntmps157
  go_wp2
  go_loopw [8] (fun i wr => ∃ k : Nat, k ≤ n ∧ i = .int .i64 k ∧ (∀ j (hj : j < k), ∀ hjl : j < l.length, Gm.okShot (l[j]'hjl)) ∧ Below w.heap.size w wr) (fun i _ => n - (intOf i).toNat)
  case atStart => exact ⟨0, by omega, rfl, fun j hj => absurd hj (Nat.not_lt_zero j), Below.refl _ _⟩
  case round =>
    obtain ⟨k, hk, rfl, hall, hb⟩ := hrel
    by_cases hlt : k < n
    · have hbs := hb.size
      have hkl : k < l.length := by have := hN.out; omega
      obtain ⟨ad, rfl, hbl, e0, e1, e2, e3, e4, e5⟩ := shots_at (hr.below hb) hN.out k (by have := hN.out; omega)
      have cty := hty k hkl
      have hfb := hf.below hb hf.lt
      have hkn : (k : Int) < n := by omega
      by_cases ho : Gm.okShot (l[k]'hkl)
      · have hall2 : ∀ j (hj : j < k + 1), ∀ hjl : j < l.length, Gm.okShot (l[j]'hjl) := fun j hj => by
          by_cases e : j = k
          · subst e; exact fun _ => ho
          · exact hall j (by omega)
        have cc := fun X hX => Lib.hid (allshot1_yes (l[k]'hkl) ho Bf X hX)
        generalize l[k]'hkl = s at e0 e1 e2 e3 e4 e5 ho cc cty
        obtain ⟨owner, x, y, vx, vy, left⟩ := s
        dsimp only at e0 e1 e2 e3 e4 e5
        simp only [Gm.Shot.cells] at cc
        have HB := Lib.hid hb
        have HF := Lib.hid hfb
        have HALL := Lib.hid hall2
        clear hr ho hb hf hfb hty cty hall hall2
        go_wp2_with (go_at_call 140; ((with_reducible refine ((cc _ (by first | exact HF.out)).out).mono ?_); rintro e w1 ⟨rfl, hb1⟩))
        go_roundw
        case rel => exact ⟨k + 1, by omega, by go_num, HALL.out, HB.out.trans (hb1.mono HB.out.size)⟩
        case measure => simp [intOf]; omega
      · have cc := fun X hX => Lib.hid (allshot1_bad (l[k]'hkl) ho cty Bf X hX)
        generalize l[k]'hkl = s at e0 e1 e2 e3 e4 e5 ho cc cty
        obtain ⟨owner, x, y, vx, vy, left⟩ := s
        dsimp only at e0 e1 e2 e3 e4 e5
        simp only [Gm.Shot.cells] at cc
        have HB := Lib.hid hb
        have HF := Lib.hid hfb
        clear hr ho hb hf hfb hty cty hall
        go_wp2_with (go_at_call 140; ((with_reducible refine ((cc _ (by first | exact HF.out)).out).mono ?_); rintro e w1 ⟨rfl, hb1⟩))
        go_ret
        exact ⟨⟨k, rfl⟩, HB.out.trans (hb1.mono HB.out.size)⟩
    · exact absurd (fun i hi => hall i (by have := hN.out; omega) hi) HNO.out

set_option maxHeartbeats 1000000 in
theorem containsshot_yes (l : List Gm.Shot) (n : Nat) (A : Option Addr) (c : Nat) (Bf : Nat) (w : World) (hno : ¬ ∀ i (h : i < l.length), Gm.okShot (l[i])) (hty : ∀ i (h : i < l.length), Gm.tyShot (l[i])) (hn : n = l.length) (hn32 : n ≤ 32) (hr : Lies w w.heap.size 6 A n (Gm.shotCells l)) (hf : Box w Bf 143 #[.func (.func 103) #[] #[]]) :
    Calls Try.prog 139 #[.slice A n c, .func (.func 140) #[] #[.pointer (some ⟨Bf, 0, none⟩)]] w fun e w' => e = .returned (.bool true) ∧ Below w.heap.size w w' := by
  have c1 := Lib.hid (indexshot_bad l n A c Bf w hno hty hn hn32 hr hf)
  clear hr hf hno hty hn
  go_enter Try.func139, Try.ntmps139
  go_wp2_with (go_at_call 157; ((with_reducible refine ((c1).out).mono ?_); rintro e w1 ⟨⟨k, rfl⟩, hb1⟩; have hd : decide (0 ≤ (k : Int)) = true := decide_eq_true (by omega)))
  go_ret
  exact ⟨rfl, hb1⟩

set_option maxHeartbeats 1000000 in
theorem allshot_bad (l : List Gm.Shot) (n : Nat) (A : Option Addr) (c : Nat) (w : World) (hno : ¬ ∀ i (h : i < l.length), Gm.okShot (l[i])) (hty : ∀ i (h : i < l.length), Gm.tyShot (l[i])) (hn : n = l.length) (hn32 : n ≤ 32) (hr : Lies w w.heap.size 6 A n (Gm.shotCells l)) :
    Calls Try.prog 102 #[.slice A n c, .func (.func 103) #[] #[]] w fun e w' => e = .returned (.bool false) ∧ Below w.heap.size w w' := by
  have hmf : ∀ (fn : Fn) (first cap : Array Value) (w : World), (Instr.makeFunc fn first cap).run Try.prog w = .ok (.func fn first cap) w := fun _ _ _ _ => rfl
  have hb0 := one_below w (.cells #[.func (.func 103) #[] #[]] 143)
  have c1 := Lib.hid (containsshot_yes l n A c w.heap.size _ hno hty hn hn32 ((hr.below hb0).wider hb0.size) (Box.made w _ _))
  have hbz := Lib.hid hb0
  clear hr hb0 hno hty hn
  go_enter Try.func102, Try.ntmps102
  go_wp2_with (go_at_call 139; ((with_reducible refine ((c1).out).mono ?_); rintro e w1 ⟨rfl, hb1⟩))
  go_ret
  exact ⟨rfl, hbz.out.trans (hb1.mono hbz.out.size)⟩

set_option maxRecDepth 100000 in
set_option maxHeartbeats 2000000 in
theorem may_not (g : Gm.G) (A : Option Addr) (n c : Nat) (w : World) (hg : ¬ Gm.ok g) (hty : Gm.ty g) (hn : n = g.shots.length) (hn63 : n ≤ maxLen) (hr : Lies w w.heap.size 6 A n (Gm.shotCells g.shots)) :
    Calls Try.prog 51 #[.agg (Gm.cells g (.slice A n c))] w fun e w' => e = .returned (.bool false) ∧ Below w.heap.size w w' := by
  have B0 := Box.made w 30 (Gm.cells g (.slice A n c))
  have hb0 := one_below w (.cells (Gm.cells g (.slice A n c)) 30)
  have hc : ∀ j, (w.alloc (.cells (Gm.cells g (.slice A n c)) 30)).cell? ⟨w.heap.size, j, none⟩ = (Gm.cells g (.slice A n c))[j]? := fun j => B0.cell j
  have h0 := Gm.cells_0 g (.slice A n c)
  have h58 := Gm.cells_58 g (.slice A n c)
  have BB := Lib.hid B0
  have HB := Lib.hid hb0
  by_cases hf : g.frame < 0
  · have d1 : decide (g.frame < 0) = true := decide_eq_true hf
    clear hr B0 hb0 hn hg hty
    go_enter Try.func51, Try.ntmps51
    go_wp2
    go_ret
    exact ⟨rfl, HB.out⟩
  have d1 : decide (g.frame < 0) = false := decide_eq_false hf
  by_cases hf2 : 1048576 < g.frame
  · have d2 : decide (1048576 < g.frame) = true := decide_eq_true hf2
    clear hr B0 hb0 hn hg hty
    go_enter Try.func51, Try.ntmps51
    go_wp2
    go_ret
    exact ⟨rfl, HB.out⟩
  have d2 : decide (1048576 < g.frame) = false := decide_eq_false hf2
  by_cases hf3 : 32 < n
  · have d3 : decide (32 < (n : Int)) = true := decide_eq_true (by omega)
    clear hr B0 hb0 hn hg hty
    go_enter Try.func51, Try.ntmps51
    go_wp2
    go_ret
    exact ⟨rfl, HB.out⟩
  have d3 : decide (32 < (n : Int)) = false := decide_eq_false (by omega)
  by_cases hs : ∀ i, i < 8 → Gm.okShip (g.ship i)
  · have hs2 : ¬ ∀ i (h : i < g.shots.length), Gm.okShot g.shots[i] := fun hh => hg ⟨by omega, by omega, by omega, hs, hh⟩
    have c1 := Lib.hid (allship_yes g.ship (some ⟨w.heap.size, 2, none⟩) 8 _ hs (ships_lie B0))
    have c2 := fun X (hX : Below w.heap.size w X) => Lib.hid (allshot_bad g.shots n A c X hs2 hty.2.2.2 hn (by omega) ((hr.below hX).wider hX.size))
    clear hr B0 hb0 hn hg hty hs hs2
    go_enter Try.func51, Try.ntmps51
    go_wp2_with (first | (go_at_call 100; ((with_reducible refine ((c1).out).mono ?_); rintro e w1 ⟨rfl, hb1⟩; have hc1 := (BB.out.below hb1 BB.out.lt).cell; have HB1 := Lib.hid (HB.out.trans (hb1.mono HB.out.size)))) | (go_at_call 102; ((with_reducible refine ((c2 _ (HB1.out)).out).mono ?_); rintro e w2 ⟨rfl, hb2⟩)))
    go_ret
    exact ⟨rfl, HB1.out.trans (hb2.mono HB1.out.size)⟩
  · have c1 := Lib.hid (allship_bad g.ship (some ⟨w.heap.size, 2, none⟩) 8 _ hs hty.2.2.1 (ships_lie B0))
    clear hr B0 hb0 hn hg hty hs
    go_enter Try.func51, Try.ntmps51
    go_wp2_with (go_at_call 100; ((with_reducible refine ((c1).out).mono ?_); rintro e w1 ⟨rfl, hb1⟩; have HB1 := Lib.hid (HB.out.trans (hb1.mono HB.out.size))))
    go_ret
    exact ⟨rfl, HB1.out⟩
end Go.Proofs.Ytbihnmingedgfaa
