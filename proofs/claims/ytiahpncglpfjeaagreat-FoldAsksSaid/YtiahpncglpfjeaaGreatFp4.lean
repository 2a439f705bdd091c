/-
Several texts in one: Ha Hb Eq Ih Ii Tb Qx Rt Tc Td Tk.
-/
import Derived.Test.YtiahpncglpfjeaaGreatFp3
namespace Go.Proofs.YtiahpncglpfjeaaGreat
open Go.RowKit
set_option linter.unusedVariables false

set_option maxHeartbeats 400000 in
theorem isslot_any (i : Int) (wi : -9223372036854775808 ≤ i ∧ i ≤ 9223372036854775807) (w : World) :
    Calls Tryz.prog 91 #[.int .i64 i] w fun e w' => e = .returned (.bool (decide (0 ≤ i) && decide (i < 8))) ∧ w = w' := by
  go_enter Tryz.func91, Tryz.ntmps91
  go_wp2
  all_goals
    go_ret
    exact ⟨ret_bool (by rw [Bool.eq_iff_iff]; simp; omega), rfl⟩

theorem wrap_in {x : Int} (h : Gm.inF x) : Gf.wrap x = x := by unfold Gm.inF at h; unfold Gf.wrap; omega
set_option maxHeartbeats 400000 in
theorem there_yes (x y : Int) (hx : Gm.inF x) (hy : Gm.inF y) (w : World) :
    Calls Tryz.prog 87 #[.int .i32 x, .int .i32 y] w fun e w' => e = .returned (.bool true) ∧ Below w.heap.size w w' := by
  have c1 := fun X => Lib.hid (fldwrap_any x (by unfold Gm.inF at hx; omega) X)
  have c2 := fun X => Lib.hid (fldwrap_any y (by unfold Gm.inF at hy; omega) X)
  rw [wrap_in hx] at c1
  rw [wrap_in hy] at c2
  go_enter Tryz.func87, Tryz.ntmps87
  go_wp2_with (go_at_call 121; first | ((with_reducible refine ((c1 _).out).mono ?_); rintro e w1 ⟨rfl, hb1⟩; clear c1) | ((with_reducible refine ((c2 _).out).mono ?_); rintro e w2 ⟨rfl, hb2⟩))
  go_ret
  exact ⟨rfl, hb1.trans (hb2.mono hb1.size)⟩

theorem clamp_in {a m : Int} (h : Gm.slow a m) : Fx.clamp a (-m) m = a := by unfold Gm.slow at h; unfold Fx.clamp; omega
set_option maxHeartbeats 400000 in
theorem within_yes (x y m : Int) (hm : 0 ≤ m ∧ m ≤ 1000000) (hx : Gm.slow x m) (hy : Gm.slow y m) (w : World) :
    Calls Tryz.prog 88 #[.int .i32 x, .int .i32 y, .int .i32 m] w fun e w' => e = .returned (.bool true) ∧ Below w.heap.size w w' := by
  have c1 := fun X => Lib.hid (clamp_any x (-m) m (by unfold Gm.slow at hx; omega) (by omega) (by omega) X)
  have c2 := fun X => Lib.hid (clamp_any y (-m) m (by unfold Gm.slow at hy; omega) (by omega) (by omega) X)
  rw [clamp_in hx] at c1
  rw [clamp_in hy] at c2
  go_enter Tryz.func88, Tryz.ntmps88
  go_wp2_with (go_at_call 122; first | ((with_reducible refine ((c1 _).out).mono ?_); rintro e w1 ⟨rfl, hb1⟩; clear c1) | ((with_reducible refine ((c2 _).out).mono ?_); rintro e w2 ⟨rfl, hb2⟩))
  go_ret
  exact ⟨rfl, hb1.trans (hb2.mono hb1.size)⟩

set_option maxRecDepth 100000 in
set_option maxHeartbeats 1000000 in
theorem mayship_yes (s : Gm.Ship) (h : Gm.okShip s) (w : World) :
    Calls Tryz.prog 51 #[.agg s.cells.toArray] w fun e w' => e = .returned (.bool true) ∧ Below w.heap.size w w' := by
  obtain ⟨on, x, y, vx, vy, cool, score⟩ := s
  obtain ⟨o1, o2, o3, o4, o5, o6, o7, o8, o9⟩ := h
  dsimp only at o1 o2 o3 o4 o5 o6 o7 o8 o9
  simp only [Gm.Ship.cells]
  rcases o1 with rfl | o1
  · have c1 := fun X => Lib.hid (there_yes x y o2 o3 X)
    have c2 := fun X => Lib.hid (within_yes vx vy 524288 (by omega) o4 o5 X)
    clear o2 o3 o4 o5
    go_enter Tryz.func51, Tryz.ntmps51
    go_wp2_with (first | (go_at_call 87; ((with_reducible refine ((c1 _).out).mono ?_); rintro e w1 ⟨rfl, hb1⟩; have B1 := (Box.made w 24 #[.bool true, .int .i32 x, .int .i32 y, .int .i32 vx, .int .i32 vy, .int .i64 cool, .int .i64 score]).below hb1 (by simp); have K1 := B1.cell)) | (go_at_call 88; ((with_reducible refine ((c2 _).out).mono ?_); rintro e w2 ⟨rfl, hb2⟩; have B2 := B1.below hb2 B1.lt; have K2 := B2.cell; clear K1)))
    go_ret
    exact ⟨rfl, ((one_below w _).trans (hb1.mono (by simp))).trans (hb2.mono (by have := hb1.size; simp at this; omega))⟩
  · injection o1 with z1 z2 z3 z4 z5 z6 z7
    subst z1 z2 z3 z4 z5 z6 z7
    clear o2 o3 o4 o5
    go_enter Tryz.func51, Tryz.ntmps51
    go_wp2
    go_ret
    exact ⟨rfl, one_below _ _⟩

set_option maxRecDepth 100000 in
set_option maxHeartbeats 1000000 in
theorem mayshot_yes (s : Gm.Shot) (h : Gm.okShot s) (w : World) :
    Calls Tryz.prog 53 #[.agg s.cells.toArray] w fun e w' => e = .returned (.bool true) ∧ Below w.heap.size w w' := by
  obtain ⟨owner, x, y, vx, vy, left⟩ := s
  obtain ⟨o1, o2, o3, o4, o5, o6, o7, o8⟩ := h
  dsimp only at o1 o2 o3 o4 o5 o6 o7 o8
  simp only [Gm.Shot.cells]
  have c0 := fun X => Lib.hid (isslot_any owner (by omega) X)
  rw [decide_eq_true o1, decide_eq_true o2, Bool.and_self] at c0
  have c1 := fun X => Lib.hid (there_yes x y o3 o4 X)
  have c2 := fun X => Lib.hid (within_yes vx vy 393216 (by omega) o5 o6 X)
  clear o3 o4 o5 o6
  go_enter Tryz.func53, Tryz.ntmps53
  go_wp2_with (first | (go_at_call 91; ((with_reducible refine ((c0 _).out).mono ?_); rintro e w0 ⟨rfl, rfl⟩)) | (go_at_call 87; ((with_reducible refine ((c1 _).out).mono ?_); rintro e w1 ⟨rfl, hb1⟩; have B1 := (Box.made w 90 #[.int .i64 owner, .int .i32 x, .int .i32 y, .int .i32 vx, .int .i32 vy, .int .i64 left]).below hb1 (by simp); have K1 := B1.cell)) | (go_at_call 88; ((with_reducible refine ((c2 _).out).mono ?_); rintro e w2 ⟨rfl, hb2⟩; have B2 := B1.below hb2 B1.lt; have K2 := B2.cell; clear K1)))
  go_ret
  exact ⟨rfl, ((one_below w _).trans (hb1.mono (by simp))).trans (hb2.mono (by have := hb1.size; simp at this; omega))⟩
end Go.Proofs.YtiahpncglpfjeaaGreat
namespace Go.Proofs.YtiahpncglpfjeaaGreat
open Go.RowKit
set_option linter.unusedVariables false

theorem shipCells_at (f : Nat → Gm.Ship) (k j : Nat) (hk : k < 8) (hj : j < 7) : (Gm.shipCells f)[k * 7 + j]? = (f k).cells[j]? := by
  match k, hk with
  | 0, _ => match j, hj with | 0, _ | 1, _ | 2, _ | 3, _ | 4, _ | 5, _ | 6, _ => rfl
  | 1, _ => match j, hj with | 0, _ | 1, _ | 2, _ | 3, _ | 4, _ | 5, _ | 6, _ => rfl
  | 2, _ => match j, hj with | 0, _ | 1, _ | 2, _ | 3, _ | 4, _ | 5, _ | 6, _ => rfl
  | 3, _ => match j, hj with | 0, _ | 1, _ | 2, _ | 3, _ | 4, _ | 5, _ | 6, _ => rfl
  | 4, _ => match j, hj with | 0, _ | 1, _ | 2, _ | 3, _ | 4, _ | 5, _ | 6, _ => rfl
  | 5, _ => match j, hj with | 0, _ | 1, _ | 2, _ | 3, _ | 4, _ | 5, _ | 6, _ => rfl
  | 6, _ => match j, hj with | 0, _ | 1, _ | 2, _ | 3, _ | 4, _ | 5, _ | 6, _ => rfl
  | 7, _ => match j, hj with | 0, _ | 1, _ | 2, _ | 3, _ | 4, _ | 5, _ | 6, _ => rfl
/-- The seven cells of a ship, as a walk spells them. -/
theorem ships_at {w : World} {B : Nat} {A : Option Addr} {f : Nat → Gm.Ship} (h : Lies w B 7 A 8 (Gm.shipCells f)) (k : Nat) (hk : k < 8) :
    ∃ ad, A = some ad ∧ ad.block < B ∧ w.cell? (ad.add (k * 7)) = some (.bool (f k).on) ∧ w.cell? ⟨(ad.add (k * 7)).block, (ad.add (k * 7)).off + 1, none⟩ = some (.int .i32 (f k).x) ∧
      w.cell? ⟨(ad.add (k * 7)).block, (ad.add (k * 7)).off + 2, none⟩ = some (.int .i32 (f k).y) ∧ w.cell? ⟨(ad.add (k * 7)).block, (ad.add (k * 7)).off + 3, none⟩ = some (.int .i32 (f k).vx) ∧
      w.cell? ⟨(ad.add (k * 7)).block, (ad.add (k * 7)).off + 4, none⟩ = some (.int .i32 (f k).vy) ∧ w.cell? ⟨(ad.add (k * 7)).block, (ad.add (k * 7)).off + 5, none⟩ = some (.int .i64 (f k).cool) ∧
      w.cell? ⟨(ad.add (k * 7)).block, (ad.add (k * 7)).off + 6, none⟩ = some (.int .i64 (f k).score) := by
  obtain ⟨ad, e, hb⟩ := h.start (by omega)
  have hc := h.cell ad e (by omega)
  have hj : ∀ j v, j < 7 → (f k).cells[j]? = some v → w.cell? ((ad.add (k * 7)).add j) = some v := fun j v hj hv => by
    rw [add_twice]
    exact hc _ _ ((shipCells_at f k j hk hj).trans hv)
  refine ⟨ad, e, hb, ?_, ?_, ?_, ?_, ?_, ?_, ?_⟩
  · have := hj 0 _ (by omega) rfl; rwa [show (ad.add (k * 7)).add 0 = ad.add (k * 7) from by unfold Addr.add; rfl] at this
  · have := hj 1 _ (by omega) rfl; rwa [add_lit' _ 1 (by omega)] at this
  · have := hj 2 _ (by omega) rfl; rwa [add_lit' _ 2 (by omega)] at this
  · have := hj 3 _ (by omega) rfl; rwa [add_lit' _ 3 (by omega)] at this
  · have := hj 4 _ (by omega) rfl; rwa [add_lit' _ 4 (by omega)] at this
  · have := hj 5 _ (by omega) rfl; rwa [add_lit' _ 5 (by omega)] at this
  · have := hj 6 _ (by omega) rfl; rwa [add_lit' _ 6 (by omega)] at this
/-- The ships of a game's block lie there as eight elements. -/
theorem ships_lie {w : World} {B : Nat} {g : Gm.G} {s : Value} (h : Box w B 28 (Gm.cells g s)) : Lies w w.heap.size 7 (some ⟨B, 2, none⟩) 8 (Gm.shipCells g.ship) := by
  refine ⟨rfl, fun _ => ⟨_, rfl, h.lt⟩, fun ad e _ j u hu => ?_⟩
  injection e with e
  subst e
  have hj : j < 56 := by have := (List.getElem?_eq_some_iff.1 hu).1; rwa [Gm.shipCells_len] at this
  have hadd : (⟨B, 2, none⟩ : Addr).add j = ⟨B, 2 + j, none⟩ := by unfold Addr.add; split <;> simp_all
  rw [hadd, h.cell, Gm.cells_shipj _ _ _ hj, hu]

set_option maxHeartbeats 1000000 in
theorem allship1_yes (s : Gm.Ship) (h : Gm.okShip s) (Bf : Nat) (w : World) (hf : Box w Bf 87 #[.func (.func 51) #[] #[]]) :
    Calls Tryz.prog 86 #[.agg s.cells.toArray, .pointer (some ⟨Bf, 0, none⟩)] w fun e w' => e = .returned (.bool false) ∧ Below w.heap.size w w' := by
  have c1 := fun X => Lib.hid (mayship_yes s h X)
  have hK : ∀ o, (w.alloc o).cell? ⟨Bf, 0, none⟩ = some (.func (.func 51) #[] #[]) := fun o => (hf.alloc o).cell 0
  obtain ⟨on, x, y, vx, vy, cool, score⟩ := s
  simp only [Gm.Ship.cells] at c1 ⊢
  clear h hf
  go_enter Tryz.func86, Tryz.ntmps86
  go_wp2_with (go_at_call 51; ((with_reducible refine ((c1 _).out).mono ?_); rintro e w1 ⟨rfl, hb1⟩))
  go_ret
  exact ⟨rfl, (one_below w _).trans (hb1.mono (by simp))⟩

set_option maxRecDepth 100000 in
set_option maxHeartbeats 2000000 in
theorem indexship_yes (f : Nat → Gm.Ship) (A : Option Addr) (c : Nat) (Bf : Nat) (w : World) (hok : ∀ i, i < 8 → Gm.okShip (f i)) (hr : Lies w w.heap.size 7 A 8 (Gm.shipCells f)) (hf : Box w Bf 87 #[.func (.func 51) #[] #[]]) :
    Calls Tryz.prog 120 #[.slice A 8 c, .func (.func 86) #[] #[.pointer (some ⟨Bf, 0, none⟩)]] w fun e w' => e = .returned (.int .i64 (-1)) ∧ Below w.heap.size w w' := by
  go_enter Tryz.func120, Tryz.ntmps120
  go_wp2
  go_loopw [8] (fun i wr => ∃ k : Nat, k ≤ 8 ∧ i = .int .i64 k ∧ Below w.heap.size w wr) (fun i _ => 8 - (intOf i).toNat)
  case atStart => exact ⟨0, by omega, rfl, Below.refl _ _⟩
  case round =>
    obtain ⟨k, hk, rfl, hb⟩ := hrel
    by_cases hlt : k < 8
    · have hbs := hb.size
      obtain ⟨ad, rfl, hbl, e0, e1, e2, e3, e4, e5, e6⟩ := ships_at (hr.below hb) k hlt
      have ho := hok k hlt
      have cc := fun X hX => Lib.hid (allship1_yes (f k) ho Bf X hX)
      have hfb := hf.below hb hf.lt
      generalize f k = s at e0 e1 e2 e3 e4 e5 e6 ho cc
      obtain ⟨on, x, y, vx, vy, cool, score⟩ := s
      dsimp only at e0 e1 e2 e3 e4 e5 e6
      simp only [Gm.Ship.cells] at cc
      have hkn : (k : Int) < 8 := by omega
      have HB := Lib.hid hb
      have HF := Lib.hid hfb
      clear hr hok ho hb hf hfb
      go_wp2_with (go_at_call 86; ((with_reducible refine ((cc _ (by first | exact HF.out)).out).mono ?_); rintro e w1 ⟨rfl, hb1⟩))
      go_roundw
      case rel => exact ⟨k + 1, by omega, by go_num, HB.out.trans (hb1.mono HB.out.size)⟩
      case measure => simp [intOf]; omega
    · have hkn : ¬ (k : Int) < 8 := by omega
      clear hr
      go_wp2
      go_ret
      exact ⟨rfl, hb⟩

set_option maxHeartbeats 1000000 in
theorem containsship_no (f : Nat → Gm.Ship) (A : Option Addr) (c : Nat) (Bf : Nat) (w : World) (hok : ∀ i, i < 8 → Gm.okShip (f i)) (hr : Lies w w.heap.size 7 A 8 (Gm.shipCells f)) (hf : Box w Bf 87 #[.func (.func 51) #[] #[]]) :
    Calls Tryz.prog 85 #[.slice A 8 c, .func (.func 86) #[] #[.pointer (some ⟨Bf, 0, none⟩)]] w fun e w' => e = .returned (.bool false) ∧ Below w.heap.size w w' := by
  have c1 := Lib.hid (indexship_yes f A c Bf w hok hr hf)
  clear hr hok hf
  go_enter Tryz.func85, Tryz.ntmps85
  go_wp2_with (go_at_call 120; ((with_reducible refine ((c1).out).mono ?_); rintro e w1 ⟨rfl, hb1⟩))
  go_ret
  exact ⟨rfl, hb1⟩

set_option maxHeartbeats 1000000 in
theorem allship_yes (f : Nat → Gm.Ship) (A : Option Addr) (c : Nat) (w : World) (hok : ∀ i, i < 8 → Gm.okShip (f i)) (hr : Lies w w.heap.size 7 A 8 (Gm.shipCells f)) :
    Calls Tryz.prog 50 #[.slice A 8 c, .func (.func 51) #[] #[]] w fun e w' => e = .returned (.bool true) ∧ Below w.heap.size w w' := by
  have hmf : ∀ (fn : Fn) (first cap : Array Value) (w : World), (Instr.makeFunc fn first cap).run Tryz.prog w = .ok (.func fn first cap) w := fun _ _ _ _ => rfl
  have hb0 := one_below w (.cells #[.func (.func 51) #[] #[]] 87)
  have c1 := Lib.hid (containsship_no f A c w.heap.size _ hok ((hr.below hb0).wider hb0.size) (Box.made w _ _))
  have hbz := Lib.hid hb0
  clear hr hok hb0
  go_enter Tryz.func50, Tryz.ntmps50
  go_wp2_with (go_at_call 85; ((with_reducible refine ((c1).out).mono ?_); rintro e w1 ⟨rfl, hb1⟩))
  go_ret
  exact ⟨rfl, hbz.out.trans (hb1.mono hbz.out.size)⟩

set_option maxHeartbeats 1000000 in
theorem allshot1_yes (s : Gm.Shot) (h : Gm.okShot s) (Bf : Nat) (w : World) (hf : Box w Bf 91 #[.func (.func 53) #[] #[]]) :
    Calls Tryz.prog 90 #[.agg s.cells.toArray, .pointer (some ⟨Bf, 0, none⟩)] w fun e w' => e = .returned (.bool false) ∧ Below w.heap.size w w' := by
  have c1 := fun X => Lib.hid (mayshot_yes s h X)
  have hK : ∀ o, (w.alloc o).cell? ⟨Bf, 0, none⟩ = some (.func (.func 53) #[] #[]) := fun o => (hf.alloc o).cell 0
  obtain ⟨owner, x, y, vx, vy, left⟩ := s
  simp only [Gm.Shot.cells] at c1 ⊢
  clear h hf
  go_enter Tryz.func90, Tryz.ntmps90
  go_wp2_with (go_at_call 53; ((with_reducible refine ((c1 _).out).mono ?_); rintro e w1 ⟨rfl, hb1⟩))
  go_ret
  exact ⟨rfl, (one_below w _).trans (hb1.mono (by simp))⟩

set_option maxRecDepth 100000 in
set_option maxHeartbeats 2000000 in
theorem indexshot_yes (l : List Gm.Shot) (A : Option Addr) (n c : Nat) (Bf : Nat) (w : World) (hok : ∀ i (h : i < l.length), Gm.okShot l[i]) (hn : n = l.length) (hn32 : n ≤ 32) (hr : Lies w w.heap.size 6 A n (Gm.shotCells l)) (hf : Box w Bf 91 #[.func (.func 53) #[] #[]]) :
    Calls Tryz.prog 123 #[.slice A n c, .func (.func 90) #[] #[.pointer (some ⟨Bf, 0, none⟩)]] w fun e w' => e = .returned (.int .i64 (-1)) ∧ Below w.heap.size w w' := by
  have hN := Lib.hid hn
  clear hn
  go_enter Tryz.func123, Tryz.ntmps123
  go_wp2
  go_loopw [8] (fun i wr => ∃ k : Nat, k ≤ n ∧ i = .int .i64 k ∧ Below w.heap.size w wr) (fun i _ => n - (intOf i).toNat)
  case atStart => exact ⟨0, by omega, rfl, Below.refl _ _⟩
  case round =>
    obtain ⟨k, hk, rfl, hb⟩ := hrel
    by_cases hlt : k < n
    · have hbs := hb.size
      obtain ⟨ad, rfl, hbl, e0, e1, e2, e3, e4, e5⟩ := shots_at (hr.below hb) hN.out k (by have := hN.out; omega)
      have ho := hok k (by have := hN.out; omega)
      have cc := fun X hX => Lib.hid (allshot1_yes (l[k]'(by have := hN.out; omega)) ho Bf X hX)
      have hfb := hf.below hb hf.lt
      generalize l[k]'(by have := hN.out; omega) = s at e0 e1 e2 e3 e4 e5 ho cc
      obtain ⟨owner, x, y, vx, vy, left⟩ := s
      dsimp only at e0 e1 e2 e3 e4 e5
      simp only [Gm.Shot.cells] at cc
      have hkn : (k : Int) < n := by omega
      have HB := Lib.hid hb
      have HF := Lib.hid hfb
      clear hr hok ho hb hf hfb
      go_wp2_with (go_at_call 90; ((with_reducible refine ((cc _ (by first | exact HF.out)).out).mono ?_); rintro e w1 ⟨rfl, hb1⟩))
      go_roundw
      case rel => exact ⟨k + 1, by omega, by go_num, HB.out.trans (hb1.mono HB.out.size)⟩
      case measure => simp [intOf]; omega
    · have hkn : ¬ (k : Int) < n := by omega
      clear hr
      go_wp2
      go_ret
      exact ⟨rfl, hb⟩

set_option maxHeartbeats 1000000 in
theorem containsshot_no (l : List Gm.Shot) (A : Option Addr) (n c : Nat) (Bf : Nat) (w : World) (hok : ∀ i (h : i < l.length), Gm.okShot l[i]) (hn : n = l.length) (hn32 : n ≤ 32) (hr : Lies w w.heap.size 6 A n (Gm.shotCells l)) (hf : Box w Bf 91 #[.func (.func 53) #[] #[]]) :
    Calls Tryz.prog 89 #[.slice A n c, .func (.func 90) #[] #[.pointer (some ⟨Bf, 0, none⟩)]] w fun e w' => e = .returned (.bool false) ∧ Below w.heap.size w w' := by
  have c1 := Lib.hid (indexshot_yes l A n c Bf w hok hn hn32 hr hf)
  clear hr hok hf hn
  go_enter Tryz.func89, Tryz.ntmps89
  go_wp2_with (go_at_call 123; ((with_reducible refine ((c1).out).mono ?_); rintro e w1 ⟨rfl, hb1⟩))
  go_ret
  exact ⟨rfl, hb1⟩

set_option maxHeartbeats 1000000 in
theorem allshot_yes (l : List Gm.Shot) (A : Option Addr) (n c : Nat) (w : World) (hok : ∀ i (h : i < l.length), Gm.okShot l[i]) (hn : n = l.length) (hn32 : n ≤ 32) (hr : Lies w w.heap.size 6 A n (Gm.shotCells l)) :
    Calls Tryz.prog 52 #[.slice A n c, .func (.func 53) #[] #[]] w fun e w' => e = .returned (.bool true) ∧ Below w.heap.size w w' := by
  have hmf : ∀ (fn : Fn) (first cap : Array Value) (w : World), (Instr.makeFunc fn first cap).run Tryz.prog w = .ok (.func fn first cap) w := fun _ _ _ _ => rfl
  have hb0 := one_below w (.cells #[.func (.func 53) #[] #[]] 91)
  have c1 := Lib.hid (containsshot_no l A n c w.heap.size _ hok hn hn32 ((hr.below hb0).wider hb0.size) (Box.made w _ _))
  have hbz := Lib.hid hb0
  clear hr hok hb0 hn
  go_enter Tryz.func52, Tryz.ntmps52
  go_wp2_with (go_at_call 89; ((with_reducible refine ((c1).out).mono ?_); rintro e w1 ⟨rfl, hb1⟩))
  go_ret
  exact ⟨rfl, hbz.out.trans (hb1.mono hbz.out.size)⟩

set_option maxRecDepth 100000 in
set_option maxHeartbeats 2000000 in
theorem may_yes (g : Gm.G) (A : Option Addr) (n c : Nat) (w : World) (hg : Gm.ok g) (hn : n = g.shots.length) (hr : Lies w w.heap.size 6 A n (Gm.shotCells g.shots)) :
    Calls Tryz.prog 24 #[.agg (Gm.cells g (.slice A n c))] w fun e w' => e = .returned (.bool true) ∧ Below w.heap.size w w' := by
  obtain ⟨hf1, hf2, hl, hships, hshots⟩ := hg
  have d1 : decide (g.frame < 0) = false := decide_eq_false (by omega)
  have d2 : decide (1048576 < g.frame) = false := decide_eq_false (by omega)
  have d3 : decide (32 < (n : Int)) = false := decide_eq_false (by omega)
  have B0 := Box.made w 28 (Gm.cells g (.slice A n c))
  have hb0 := one_below w (.cells (Gm.cells g (.slice A n c)) 28)
  have c1 := Lib.hid (allship_yes g.ship (some ⟨w.heap.size, 2, none⟩) 8 _ hships (ships_lie B0))
  have c2 := fun X (hX : Below w.heap.size w X) => Lib.hid (allshot_yes g.shots A n c X hshots hn (by omega) ((hr.below hX).wider hX.size))
  have hc : ∀ j, (w.alloc (.cells (Gm.cells g (.slice A n c)) 28)).cell? ⟨w.heap.size, j, none⟩ = (Gm.cells g (.slice A n c))[j]? := fun j => B0.cell j
  have h0 := Gm.cells_0 g (.slice A n c)
  have h58 := Gm.cells_58 g (.slice A n c)
  have BB := Lib.hid B0
  have HB := Lib.hid hb0
  clear hr hships hshots B0 hb0 hn
  go_enter Tryz.func24, Tryz.ntmps24
  go_wp2_with (first | (go_at_call 50; ((with_reducible refine ((c1).out).mono ?_); rintro e w1 ⟨rfl, hb1⟩; have hc1 := (BB.out.below hb1 BB.out.lt).cell; have HB1 := Lib.hid (HB.out.trans (hb1.mono HB.out.size)))) | (go_at_call 52; ((with_reducible refine ((c2 _ (HB1.out)).out).mono ?_); rintro e w2 ⟨rfl, hb2⟩)))
  go_ret
  exact ⟨rfl, HB1.out.trans (hb2.mono HB1.out.size)⟩
end Go.Proofs.YtiahpncglpfjeaaGreat
namespace Go.Proofs.YtiahpncglpfjeaaGreat
open Go.RowKit
set_option linter.unusedVariables false

theorem ifs7 (w : World) (a b c d e f g : Bool) : (if a = true then if b = true then if c = true then if d = true then if e = true then if f = true then if g = true then Result.ok true w else Result.ok false w else Result.ok false w else Result.ok false w else Result.ok false w else Result.ok false w else Result.ok false w else Result.ok false w) = Result.ok (a && (b && (c && (d && (e && (f && g)))))) w := by
  cases a <;> cases b <;> cases c <;> cases d <;> cases e <;> cases f <;> cases g <;> rfl
set_option maxHeartbeats 1000000 in
theorem ship_eq (s t : Gm.Ship) (w : World) : (Op.equalIn 9999 24 (.agg s.cells.toArray) (.agg t.cells.toArray)).run Tryz.prog w = .ok (s.eqB t) w := by
  obtain ⟨a1, a2, a3, a4, a5, a6, a7⟩ := s
  obtain ⟨b1, b2, b3, b4, b5, b6, b7⟩ := t
  have h := ifs7 w (a1 == b1) (a2 == b2) (a3 == b3) (a4 == b4) (a5 == b5) (a6 == b6) (a7 == b7)
  simp only [beq_iff_eq] at h
  simp only [Gm.Ship.cells]
  go_simp
  rfl
theorem ship_info : (Tryz.prog.info? 24).map (·.size) = some 7 := by kernel_rfl
set_option maxHeartbeats 1000000 in
theorem ship_part (f : Nat → Gm.Ship) (i : Nat) (hi : i < 8) (w : World) : (part 24 (Gm.shipCells f).toArray (i * 7)).run Tryz.prog w = .ok (.agg (f i).cells.toArray) w := by
  have h := Gm.shipCells_list f i hi
  cases hq : Tryz.prog.info? 24 with
  | none => have := ship_info; simp [hq] at this
  | some j =>
    have hs : j.size = 7 := by have := ship_info; simpa [hq] using this
    simp [part, isAgg, sizeOf, typeInfo, hq, hs, run_underlying (Tryz.underlying24) w, h]
theorem ships_eq (f g : Nat → Gm.Ship) (w : World) : (Op.equalIn 10000 25 (.agg (Gm.shipCells f).toArray) (.agg (Gm.shipCells g).toArray)).run Tryz.prog w = .ok (Gm.shipsEq f g) w := by
  cases hq : Tryz.prog.info? 24 with
  | none => have := ship_info; simp [hq] at this
  | some j =>
    have hs : Tryz.prog.cellsOf 24 = 7 := by kernel_rfl
    rw [run_equalIn_array w 9999 _ _ Tryz.underlying25 hq, hs]
    exact run_eqItems_all w 9999 _ 7 _ _ (fun i => .agg (f i).cells.toArray) (fun i => .agg (g i).cells.toArray) (fun i => (f i).eqB (g i)) (List.range 8)
      (fun i hi => ⟨ship_part f i (by simpa using hi) w, ship_part g i (by simpa using hi) w, ship_eq _ _ w⟩)
theorem ships_eql (f g : Nat → Gm.Ship) (w : World) : (binOp .eql 25 (.agg (Gm.shipCells f).toArray) (.agg (Gm.shipCells g).toArray)).run Tryz.prog w = .ok (.bool (Gm.shipsEq f g)) w := by
  simp only [binOp]
  simp [Op.equal, Op.maxDepth, ships_eq]
end Go.Proofs.YtiahpncglpfjeaaGreat
namespace Go.Proofs.YtiahpncglpfjeaaGreat
open Go.RowKit
set_option linter.unusedVariables false
set_option linter.unusedSimpArgs false

def Gm.inB (a : Int) : Bool := decide (Gf.wrap a = a)
theorem Gm.inB_iff {a : Int} : Gm.inB a = true ↔ Gm.inF a := by unfold Gm.inB Gm.inF Gf.wrap; simp; omega
def Gm.slowB (a m : Int) : Bool := decide (Fx.clamp a (-m) m = a)
theorem Gm.slowB_iff {a m : Int} (hm : 0 ≤ m) : Gm.slowB a m = true ↔ Gm.slow a m := by unfold Gm.slowB Gm.slow Fx.clamp; simp; omega

set_option maxHeartbeats 1000000 in
theorem there_any (x y : Int) (wx : -2147483648 ≤ x ∧ x ≤ 2147483647) (wy : -2147483648 ≤ y ∧ y ≤ 2147483647) (w : World) :
    Calls Tryz.prog 87 #[.int .i32 x, .int .i32 y] w fun e w' => e = .returned (.bool (Gm.inB x && Gm.inB y)) ∧ Below w.heap.size w w' := by
  have c1 := fun X => Lib.hid (fldwrap_any x wx X)
  have c2 := fun X => Lib.hid (fldwrap_any y wy X)
  have hx : Hid (Gm.inB x = decide (Gf.wrap x = x)) := Lib.hid rfl
  have hy : Hid (Gm.inB y = decide (Gf.wrap y = y)) := Lib.hid rfl
  generalize Gf.wrap x = X at *
  generalize Gf.wrap y = Y at *
  by_cases h1 : X = x
  · have b1 : (X == x) = true := by simpa using h1
    by_cases h2 : Y = y
    · have b2 : (Y == y) = true := by simpa using h2
      have HE := Lib.hid (show (Gm.inB x && Gm.inB y) = true by rw [hx.out, hy.out]; simp [h1, h2])
      clear h1 h2
      go_enter Tryz.func87, Tryz.ntmps87
      go_wp2_with (go_at_call 121; first | ((with_reducible refine ((c1 _).out).mono ?_); rintro e w1 ⟨rfl, hb1⟩; clear c1) | ((with_reducible refine ((c2 _).out).mono ?_); rintro e w2 ⟨rfl, hb2⟩))
      go_ret
      exact ⟨ret_bool HE.out.symm, hb1.trans (hb2.mono hb1.size)⟩
    · have b2 : (Y == y) = false := by simpa using h2
      have HE := Lib.hid (show (Gm.inB x && Gm.inB y) = false by rw [hx.out, hy.out]; simp [h1, h2])
      clear h1 h2
      go_enter Tryz.func87, Tryz.ntmps87
      go_wp2_with (go_at_call 121; first | ((with_reducible refine ((c1 _).out).mono ?_); rintro e w1 ⟨rfl, hb1⟩; clear c1) | ((with_reducible refine ((c2 _).out).mono ?_); rintro e w2 ⟨rfl, hb2⟩))
      go_ret
      exact ⟨ret_bool HE.out.symm, hb1.trans (hb2.mono hb1.size)⟩
  · have b1 : (X == x) = false := by simpa using h1
    have HE := Lib.hid (show (Gm.inB x && Gm.inB y) = false by rw [hx.out]; simp [h1])
    clear h1
    go_enter Tryz.func87, Tryz.ntmps87
    go_wp2_with (go_at_call 121; first | ((with_reducible refine ((c1 _).out).mono ?_); rintro e w1 ⟨rfl, hb1⟩; clear c1) | ((with_reducible refine ((c2 _).out).mono ?_); rintro e w2 ⟨rfl, hb2⟩))
    go_ret
    exact ⟨ret_bool HE.out.symm, hb1⟩

set_option maxHeartbeats 1000000 in
theorem within_any (x y m : Int) (hm : 0 ≤ m ∧ m ≤ 1000000) (wx : -2147483648 ≤ x ∧ x ≤ 2147483647) (wy : -2147483648 ≤ y ∧ y ≤ 2147483647) (w : World) :
    Calls Tryz.prog 88 #[.int .i32 x, .int .i32 y, .int .i32 m] w fun e w' => e = .returned (.bool (Gm.slowB x m && Gm.slowB y m)) ∧ Below w.heap.size w w' := by
  have c1 := fun X => Lib.hid (clamp_any x (-m) m wx (by omega) (by omega) X)
  have c2 := fun X => Lib.hid (clamp_any y (-m) m wy (by omega) (by omega) X)
  have hx : Hid (Gm.slowB x m = decide (Fx.clamp x (-m) m = x)) := Lib.hid rfl
  have hy : Hid (Gm.slowB y m = decide (Fx.clamp y (-m) m = y)) := Lib.hid rfl
  have hng : IntKind.i32.wrap (-m) = -m := by rw [IntKind.wrap_i32]; omega
  generalize Fx.clamp x (-m) m = X at *
  generalize Fx.clamp y (-m) m = Y at *
  by_cases h1 : X = x
  · have b1 : (X == x) = true := by simpa using h1
    by_cases h2 : Y = y
    · have b2 : (Y == y) = true := by simpa using h2
      have HE := Lib.hid (show (Gm.slowB x m && Gm.slowB y m) = true by rw [hx.out, hy.out]; simp [h1, h2])
      clear h1 h2
      go_enter Tryz.func88, Tryz.ntmps88
      go_wp2_with (go_at_call 122; first | ((with_reducible refine ((c1 _).out).mono ?_); rintro e w1 ⟨rfl, hb1⟩; clear c1) | ((with_reducible refine ((c2 _).out).mono ?_); rintro e w2 ⟨rfl, hb2⟩))
      go_ret
      exact ⟨ret_bool HE.out.symm, hb1.trans (hb2.mono hb1.size)⟩
    · have b2 : (Y == y) = false := by simpa using h2
      have HE := Lib.hid (show (Gm.slowB x m && Gm.slowB y m) = false by rw [hx.out, hy.out]; simp [h1, h2])
      clear h1 h2
      go_enter Tryz.func88, Tryz.ntmps88
      go_wp2_with (go_at_call 122; first | ((with_reducible refine ((c1 _).out).mono ?_); rintro e w1 ⟨rfl, hb1⟩; clear c1) | ((with_reducible refine ((c2 _).out).mono ?_); rintro e w2 ⟨rfl, hb2⟩))
      go_ret
      exact ⟨ret_bool HE.out.symm, hb1.trans (hb2.mono hb1.size)⟩
  · have b1 : (X == x) = false := by simpa using h1
    have HE := Lib.hid (show (Gm.slowB x m && Gm.slowB y m) = false by rw [hx.out]; simp [h1])
    clear h1
    go_enter Tryz.func88, Tryz.ntmps88
    go_wp2_with (go_at_call 122; first | ((with_reducible refine ((c1 _).out).mono ?_); rintro e w1 ⟨rfl, hb1⟩; clear c1) | ((with_reducible refine ((c2 _).out).mono ?_); rintro e w2 ⟨rfl, hb2⟩))
    go_ret
    exact ⟨ret_bool HE.out.symm, hb1⟩

set_option maxRecDepth 100000 in
set_option maxHeartbeats 2000000 in
theorem mayship_not (x y vx vy cool score : Int) (h : ¬ Gm.okShip ⟨true, x, y, vx, vy, cool, score⟩) (ty : Gm.tyShip ⟨true, x, y, vx, vy, cool, score⟩) (w : World) :
    Calls Tryz.prog 51 #[.agg #[.bool true, .int .i32 x, .int .i32 y, .int .i32 vx, .int .i32 vy, .int .i64 cool, .int .i64 score]] w fun e w' => e = .returned (.bool false) ∧ Below w.heap.size w w' := by
  obtain ⟨wx, wy, wvx, wvy, wc, ws⟩ := ty
  dsimp only at wx wy wvx wvy wc ws
  have c1 := fun X => Lib.hid (there_any x y wx wy X)
  have c2 := fun X => Lib.hid (within_any vx vy 524288 (by omega) wvx wvy X)
  have hno : Hid (¬ ((Gm.inB x && Gm.inB y) = true ∧ (Gm.slowB vx 524288 && Gm.slowB vy 524288) = true ∧ 0 ≤ cool ∧ cool ≤ 10 ∧ 0 ≤ score ∧ score ≤ 1073741824)) := Lib.hid fun hh => h (by
    obtain ⟨h1, h2, h3, h4, h5, h6⟩ := hh
    rw [Bool.and_eq_true, Gm.inB_iff, Gm.inB_iff] at h1
    rw [Bool.and_eq_true, Gm.slowB_iff (by decide), Gm.slowB_iff (by decide)] at h2
    exact ⟨.inl rfl, h1.1, h1.2, h2.1, h2.2, h3, h4, h5, h6⟩)
  clear h
  generalize (Gm.inB x && Gm.inB y) = T at *
  generalize (Gm.slowB vx 524288 && Gm.slowB vy 524288) = V at *
  cases T
  · clear hno
    go_enter Tryz.func51, Tryz.ntmps51
    go_wp2_with (first | (go_at_call 87; ((with_reducible refine ((c1 _).out).mono ?_); rintro e w1 ⟨rfl, hb⟩; have B1 := (Box.made w 24 #[.bool true, .int .i32 x, .int .i32 y, .int .i32 vx, .int .i32 vy, .int .i64 cool, .int .i64 score]).below hb (by simp); have K1 := B1.cell; have Y1 := Lib.hid ((one_below w (.cells #[.bool true, .int .i32 x, .int .i32 y, .int .i32 vx, .int .i32 vy, .int .i64 cool, .int .i64 score] 24)).trans (hb.mono (by simp))); clear hb)) | (go_at_call 88; ((with_reducible refine ((c2 _).out).mono ?_); rintro e w2 ⟨rfl, hb⟩; have B2 := B1.below hb B1.lt; have K2 := B2.cell; have Y2 := Lib.hid (Y1.out.trans (hb.mono Y1.out.size)); clear K1 hb)))
    go_ret
    exact ⟨rfl, Y1.out⟩
  cases V
  · clear hno
    go_enter Tryz.func51, Tryz.ntmps51
    go_wp2_with (first | (go_at_call 87; ((with_reducible refine ((c1 _).out).mono ?_); rintro e w1 ⟨rfl, hb⟩; have B1 := (Box.made w 24 #[.bool true, .int .i32 x, .int .i32 y, .int .i32 vx, .int .i32 vy, .int .i64 cool, .int .i64 score]).below hb (by simp); have K1 := B1.cell; have Y1 := Lib.hid ((one_below w (.cells #[.bool true, .int .i32 x, .int .i32 y, .int .i32 vx, .int .i32 vy, .int .i64 cool, .int .i64 score] 24)).trans (hb.mono (by simp))); clear hb)) | (go_at_call 88; ((with_reducible refine ((c2 _).out).mono ?_); rintro e w2 ⟨rfl, hb⟩; have B2 := B1.below hb B1.lt; have K2 := B2.cell; have Y2 := Lib.hid (Y1.out.trans (hb.mono Y1.out.size)); clear K1 hb)))
    go_ret
    exact ⟨rfl, Y2.out⟩
  by_cases d0 : 0 ≤ cool
  rotate_left
  · have e0 : decide (0 ≤ cool) = false := decide_eq_false d0
    clear hno
    go_enter Tryz.func51, Tryz.ntmps51
    go_wp2_with (first | (go_at_call 87; ((with_reducible refine ((c1 _).out).mono ?_); rintro e w1 ⟨rfl, hb⟩; have B1 := (Box.made w 24 #[.bool true, .int .i32 x, .int .i32 y, .int .i32 vx, .int .i32 vy, .int .i64 cool, .int .i64 score]).below hb (by simp); have K1 := B1.cell; have Y1 := Lib.hid ((one_below w (.cells #[.bool true, .int .i32 x, .int .i32 y, .int .i32 vx, .int .i32 vy, .int .i64 cool, .int .i64 score] 24)).trans (hb.mono (by simp))); clear hb)) | (go_at_call 88; ((with_reducible refine ((c2 _).out).mono ?_); rintro e w2 ⟨rfl, hb⟩; have B2 := B1.below hb B1.lt; have K2 := B2.cell; have Y2 := Lib.hid (Y1.out.trans (hb.mono Y1.out.size)); clear K1 hb)))
    go_ret
    exact ⟨rfl, Y2.out⟩
  have e0 : decide (0 ≤ cool) = true := decide_eq_true d0
  by_cases d1 : cool ≤ 10
  rotate_left
  · have e1 : decide (cool ≤ 10) = false := decide_eq_false d1
    clear hno
    go_enter Tryz.func51, Tryz.ntmps51
    go_wp2_with (first | (go_at_call 87; ((with_reducible refine ((c1 _).out).mono ?_); rintro e w1 ⟨rfl, hb⟩; have B1 := (Box.made w 24 #[.bool true, .int .i32 x, .int .i32 y, .int .i32 vx, .int .i32 vy, .int .i64 cool, .int .i64 score]).below hb (by simp); have K1 := B1.cell; have Y1 := Lib.hid ((one_below w (.cells #[.bool true, .int .i32 x, .int .i32 y, .int .i32 vx, .int .i32 vy, .int .i64 cool, .int .i64 score] 24)).trans (hb.mono (by simp))); clear hb)) | (go_at_call 88; ((with_reducible refine ((c2 _).out).mono ?_); rintro e w2 ⟨rfl, hb⟩; have B2 := B1.below hb B1.lt; have K2 := B2.cell; have Y2 := Lib.hid (Y1.out.trans (hb.mono Y1.out.size)); clear K1 hb)))
    go_ret
    exact ⟨rfl, Y2.out⟩
  have e1 : decide (cool ≤ 10) = true := decide_eq_true d1
  by_cases d2 : 0 ≤ score
  rotate_left
  · have e2 : decide (0 ≤ score) = false := decide_eq_false d2
    clear hno
    go_enter Tryz.func51, Tryz.ntmps51
    go_wp2_with (first | (go_at_call 87; ((with_reducible refine ((c1 _).out).mono ?_); rintro e w1 ⟨rfl, hb⟩; have B1 := (Box.made w 24 #[.bool true, .int .i32 x, .int .i32 y, .int .i32 vx, .int .i32 vy, .int .i64 cool, .int .i64 score]).below hb (by simp); have K1 := B1.cell; have Y1 := Lib.hid ((one_below w (.cells #[.bool true, .int .i32 x, .int .i32 y, .int .i32 vx, .int .i32 vy, .int .i64 cool, .int .i64 score] 24)).trans (hb.mono (by simp))); clear hb)) | (go_at_call 88; ((with_reducible refine ((c2 _).out).mono ?_); rintro e w2 ⟨rfl, hb⟩; have B2 := B1.below hb B1.lt; have K2 := B2.cell; have Y2 := Lib.hid (Y1.out.trans (hb.mono Y1.out.size)); clear K1 hb)))
    go_ret
    exact ⟨rfl, Y2.out⟩
  have e2 : decide (0 ≤ score) = true := decide_eq_true d2
  have e3 : decide (score ≤ 1073741824) = false := decide_eq_false fun h => hno.out ⟨rfl, rfl, d0, d1, d2, h⟩
  clear hno d0 d1 d2
  go_enter Tryz.func51, Tryz.ntmps51
  go_wp2_with (first | (go_at_call 87; ((with_reducible refine ((c1 _).out).mono ?_); rintro e w1 ⟨rfl, hb⟩; have B1 := (Box.made w 24 #[.bool true, .int .i32 x, .int .i32 y, .int .i32 vx, .int .i32 vy, .int .i64 cool, .int .i64 score]).below hb (by simp); have K1 := B1.cell; have Y1 := Lib.hid ((one_below w (.cells #[.bool true, .int .i32 x, .int .i32 y, .int .i32 vx, .int .i32 vy, .int .i64 cool, .int .i64 score] 24)).trans (hb.mono (by simp))); clear hb)) | (go_at_call 88; ((with_reducible refine ((c2 _).out).mono ?_); rintro e w2 ⟨rfl, hb⟩; have B2 := B1.below hb B1.lt; have K2 := B2.cell; have Y2 := Lib.hid (Y1.out.trans (hb.mono Y1.out.size)); clear K1 hb)))
  go_ret
  exact ⟨rfl, Y2.out⟩

set_option maxHeartbeats 1000000 in
theorem ship_eq' (s t : Gm.Ship) (w : World) : (Op.equalIn 10000 24 (.agg s.cells.toArray) (.agg t.cells.toArray)).run Tryz.prog w = .ok (s.eqB t) w := by
  obtain ⟨a1, a2, a3, a4, a5, a6, a7⟩ := s
  obtain ⟨b1, b2, b3, b4, b5, b6, b7⟩ := t
  have h := ifs7 w (a1 == b1) (a2 == b2) (a3 == b3) (a4 == b4) (a5 == b5) (a6 == b6) (a7 == b7)
  simp only [beq_iff_eq] at h
  simp only [Gm.Ship.cells]
  go_simp
  rfl
theorem ship_eql (s t : Gm.Ship) (w : World) : (binOp .eql 24 (.agg s.cells.toArray) (.agg t.cells.toArray)).run Tryz.prog w = .ok (.bool (s.eqB t)) w := by
  simp only [binOp]
  simp [Op.equal, Op.maxDepth, ship_eq']
set_option maxRecDepth 100000 in
set_option maxHeartbeats 2000000 in
theorem mayship_off (x y vx vy cool score : Int) (h : ¬ Gm.okShip ⟨false, x, y, vx, vy, cool, score⟩) (w : World) :
    Calls Tryz.prog 51 #[.agg #[.bool false, .int .i32 x, .int .i32 y, .int .i32 vx, .int .i32 vy, .int .i64 cool, .int .i64 score]] w fun e w' => e = .returned (.bool false) ∧ Below w.heap.size w w' := by
  have hne : (⟨false, x, y, vx, vy, cool, score⟩ : Gm.Ship) ≠ Gm.Ship.none := fun e => h (by
    rw [e]
    refine ⟨.inr rfl, ?_, ?_, ?_, ?_, ?_, ?_, ?_, ?_⟩ <;> simp [Gm.Ship.none, Gm.inF, Gm.slow])
  have he := fun W => ship_eql ⟨false, x, y, vx, vy, cool, score⟩ Gm.Ship.none W
  rw [show (⟨false, x, y, vx, vy, cool, score⟩ : Gm.Ship).eqB Gm.Ship.none = false by
    cases hq : (⟨false, x, y, vx, vy, cool, score⟩ : Gm.Ship).eqB Gm.Ship.none
    · rfl
    · exact absurd (Gm.Ship.eqB_iff.1 hq) hne] at he
  simp only [Gm.Ship.cells, Gm.Ship.none] at he
  clear h hne
  go_enter Tryz.func51, Tryz.ntmps51
  go_wp2
  go_ret
  exact ⟨rfl, one_below _ _⟩
theorem mayship_bad (s : Gm.Ship) (h : ¬ Gm.okShip s) (ty : Gm.tyShip s) (w : World) :
    Calls Tryz.prog 51 #[.agg s.cells.toArray] w fun e w' => e = .returned (.bool false) ∧ Below w.heap.size w w' := by
  obtain ⟨on, x, y, vx, vy, cool, score⟩ := s
  cases on
  · exact mayship_off x y vx vy cool score h w
  · exact mayship_not x y vx vy cool score h ty w

set_option maxRecDepth 100000 in
set_option maxHeartbeats 2000000 in
theorem mayshot_not (owner x y vx vy left : Int) (h : ¬ Gm.okShot ⟨owner, x, y, vx, vy, left⟩) (ty : Gm.tyShot ⟨owner, x, y, vx, vy, left⟩) (w : World) :
    Calls Tryz.prog 53 #[.agg #[.int .i64 owner, .int .i32 x, .int .i32 y, .int .i32 vx, .int .i32 vy, .int .i64 left]] w fun e w' => e = .returned (.bool false) ∧ Below w.heap.size w w' := by
  obtain ⟨wo, wx, wy, wvx, wvy, wl⟩ := ty
  dsimp only at wo wx wy wvx wvy wl
  have c0 := fun X => Lib.hid (isslot_any owner wo X)
  have c1 := fun X => Lib.hid (there_any x y wx wy X)
  have c2 := fun X => Lib.hid (within_any vx vy 393216 (by omega) wvx wvy X)
  have hno : Hid (¬ ((decide (0 ≤ owner) && decide (owner < 8)) = true ∧ (Gm.inB x && Gm.inB y) = true ∧ (Gm.slowB vx 393216 && Gm.slowB vy 393216) = true ∧ 1 ≤ left ∧ left ≤ 24)) := Lib.hid fun hh => h (by
    obtain ⟨h0, h1, h2, h3, h4⟩ := hh
    rw [Bool.and_eq_true, Gm.inB_iff, Gm.inB_iff] at h1
    rw [Bool.and_eq_true, Gm.slowB_iff (by decide), Gm.slowB_iff (by decide)] at h2
    simp only [Bool.and_eq_true, decide_eq_true_eq] at h0
    exact ⟨h0.1, h0.2, h1.1, h1.2, h2.1, h2.2, h3, h4⟩)
  clear h
  generalize (decide (0 ≤ owner) && decide (owner < 8)) = O at *
  generalize (Gm.inB x && Gm.inB y) = T at *
  generalize (Gm.slowB vx 393216 && Gm.slowB vy 393216) = V at *
  cases O
  · clear hno
    go_enter Tryz.func53, Tryz.ntmps53
    go_wp2_with (first | (go_at_call 91; ((with_reducible refine ((c0 _).out).mono ?_); rintro e w0 ⟨rfl, rfl⟩)) | (go_at_call 87; ((with_reducible refine ((c1 _).out).mono ?_); rintro e w1 ⟨rfl, hb⟩; have B1 := (Box.made w 90 #[.int .i64 owner, .int .i32 x, .int .i32 y, .int .i32 vx, .int .i32 vy, .int .i64 left]).below hb (by simp); have K1 := B1.cell; have Y1 := Lib.hid ((one_below w (.cells #[.int .i64 owner, .int .i32 x, .int .i32 y, .int .i32 vx, .int .i32 vy, .int .i64 left] 90)).trans (hb.mono (by simp))); clear hb)) | (go_at_call 88; ((with_reducible refine ((c2 _).out).mono ?_); rintro e w2 ⟨rfl, hb⟩; have B2 := B1.below hb B1.lt; have K2 := B2.cell; have Y2 := Lib.hid (Y1.out.trans (hb.mono Y1.out.size)); clear K1 hb)))
    go_ret
    exact ⟨rfl, one_below _ _⟩
  cases T
  · clear hno
    go_enter Tryz.func53, Tryz.ntmps53
    go_wp2_with (first | (go_at_call 91; ((with_reducible refine ((c0 _).out).mono ?_); rintro e w0 ⟨rfl, rfl⟩)) | (go_at_call 87; ((with_reducible refine ((c1 _).out).mono ?_); rintro e w1 ⟨rfl, hb⟩; have B1 := (Box.made w 90 #[.int .i64 owner, .int .i32 x, .int .i32 y, .int .i32 vx, .int .i32 vy, .int .i64 left]).below hb (by simp); have K1 := B1.cell; have Y1 := Lib.hid ((one_below w (.cells #[.int .i64 owner, .int .i32 x, .int .i32 y, .int .i32 vx, .int .i32 vy, .int .i64 left] 90)).trans (hb.mono (by simp))); clear hb)) | (go_at_call 88; ((with_reducible refine ((c2 _).out).mono ?_); rintro e w2 ⟨rfl, hb⟩; have B2 := B1.below hb B1.lt; have K2 := B2.cell; have Y2 := Lib.hid (Y1.out.trans (hb.mono Y1.out.size)); clear K1 hb)))
    go_ret
    exact ⟨rfl, Y1.out⟩
  cases V
  · clear hno
    go_enter Tryz.func53, Tryz.ntmps53
    go_wp2_with (first | (go_at_call 91; ((with_reducible refine ((c0 _).out).mono ?_); rintro e w0 ⟨rfl, rfl⟩)) | (go_at_call 87; ((with_reducible refine ((c1 _).out).mono ?_); rintro e w1 ⟨rfl, hb⟩; have B1 := (Box.made w 90 #[.int .i64 owner, .int .i32 x, .int .i32 y, .int .i32 vx, .int .i32 vy, .int .i64 left]).below hb (by simp); have K1 := B1.cell; have Y1 := Lib.hid ((one_below w (.cells #[.int .i64 owner, .int .i32 x, .int .i32 y, .int .i32 vx, .int .i32 vy, .int .i64 left] 90)).trans (hb.mono (by simp))); clear hb)) | (go_at_call 88; ((with_reducible refine ((c2 _).out).mono ?_); rintro e w2 ⟨rfl, hb⟩; have B2 := B1.below hb B1.lt; have K2 := B2.cell; have Y2 := Lib.hid (Y1.out.trans (hb.mono Y1.out.size)); clear K1 hb)))
    go_ret
    exact ⟨rfl, Y2.out⟩
  by_cases d0 : 1 ≤ left
  rotate_left
  · have e0 : decide (1 ≤ left) = false := decide_eq_false d0
    clear hno
    go_enter Tryz.func53, Tryz.ntmps53
    go_wp2_with (first | (go_at_call 91; ((with_reducible refine ((c0 _).out).mono ?_); rintro e w0 ⟨rfl, rfl⟩)) | (go_at_call 87; ((with_reducible refine ((c1 _).out).mono ?_); rintro e w1 ⟨rfl, hb⟩; have B1 := (Box.made w 90 #[.int .i64 owner, .int .i32 x, .int .i32 y, .int .i32 vx, .int .i32 vy, .int .i64 left]).below hb (by simp); have K1 := B1.cell; have Y1 := Lib.hid ((one_below w (.cells #[.int .i64 owner, .int .i32 x, .int .i32 y, .int .i32 vx, .int .i32 vy, .int .i64 left] 90)).trans (hb.mono (by simp))); clear hb)) | (go_at_call 88; ((with_reducible refine ((c2 _).out).mono ?_); rintro e w2 ⟨rfl, hb⟩; have B2 := B1.below hb B1.lt; have K2 := B2.cell; have Y2 := Lib.hid (Y1.out.trans (hb.mono Y1.out.size)); clear K1 hb)))
    go_ret
    exact ⟨rfl, Y2.out⟩
  have e0 : decide (1 ≤ left) = true := decide_eq_true d0
  have e3 : decide (left ≤ 24) = false := decide_eq_false fun h => hno.out ⟨rfl, rfl, rfl, d0, h⟩
  clear hno d0
  go_enter Tryz.func53, Tryz.ntmps53
  go_wp2_with (first | (go_at_call 91; ((with_reducible refine ((c0 _).out).mono ?_); rintro e w0 ⟨rfl, rfl⟩)) | (go_at_call 87; ((with_reducible refine ((c1 _).out).mono ?_); rintro e w1 ⟨rfl, hb⟩; have B1 := (Box.made w 90 #[.int .i64 owner, .int .i32 x, .int .i32 y, .int .i32 vx, .int .i32 vy, .int .i64 left]).below hb (by simp); have K1 := B1.cell; have Y1 := Lib.hid ((one_below w (.cells #[.int .i64 owner, .int .i32 x, .int .i32 y, .int .i32 vx, .int .i32 vy, .int .i64 left] 90)).trans (hb.mono (by simp))); clear hb)) | (go_at_call 88; ((with_reducible refine ((c2 _).out).mono ?_); rintro e w2 ⟨rfl, hb⟩; have B2 := B1.below hb B1.lt; have K2 := B2.cell; have Y2 := Lib.hid (Y1.out.trans (hb.mono Y1.out.size)); clear K1 hb)))
  go_ret
  exact ⟨rfl, Y2.out⟩
end Go.Proofs.YtiahpncglpfjeaaGreat
namespace Go.Proofs.YtiahpncglpfjeaaGreat
open Go.RowKit
set_option linter.unusedVariables false

set_option maxHeartbeats 1000000 in
theorem allship1_bad (s : Gm.Ship) (h : ¬ Gm.okShip s) (ty : Gm.tyShip s) (Bf : Nat) (w : World) (hf : Box w Bf 87 #[.func (.func 51) #[] #[]]) :
    Calls Tryz.prog 86 #[.agg s.cells.toArray, .pointer (some ⟨Bf, 0, none⟩)] w fun e w' => e = .returned (.bool true) ∧ Below w.heap.size w w' := by
  have c1 := fun X => Lib.hid (mayship_bad s h ty X)
  have hK : ∀ o, (w.alloc o).cell? ⟨Bf, 0, none⟩ = some (.func (.func 51) #[] #[]) := fun o => (hf.alloc o).cell 0
  obtain ⟨on, x, y, vx, vy, cool, score⟩ := s
  simp only [Gm.Ship.cells] at c1 ⊢
  clear h hf ty
  go_enter Tryz.func86, Tryz.ntmps86
  go_wp2_with (go_at_call 51; ((with_reducible refine ((c1 _).out).mono ?_); rintro e w1 ⟨rfl, hb1⟩))
  go_ret
  exact ⟨rfl, (one_below w _).trans (hb1.mono (by simp))⟩

set_option maxRecDepth 100000 in
set_option maxHeartbeats 2000000 in
theorem indexship_bad (f : Nat → Gm.Ship) (A : Option Addr) (c : Nat) (Bf : Nat) (w : World) (hno : ¬ ∀ i (h : i < 8), Gm.okShip (f i)) (hty : ∀ i (h : i < 8), Gm.tyShip (f i)) (hr : Lies w w.heap.size 7 A 8 (Gm.shipCells f)) (hf : Box w Bf 87 #[.func (.func 51) #[] #[]]) :
    Calls Tryz.prog 120 #[.slice A 8 c, .func (.func 86) #[] #[.pointer (some ⟨Bf, 0, none⟩)]] w fun e w' => (∃ k : Nat, e = .returned (.int .i64 k)) ∧ Below w.heap.size w w' := by
  have HNO := Lib.hid hno
  clear hno
  go_enter Tryz.func120, Tryz.ntmps120
  go_wp2
  go_loopw [8] (fun i wr => ∃ k : Nat, k ≤ 8 ∧ i = .int .i64 k ∧ (∀ j (hj : j < k), Gm.okShip (f j)) ∧ Below w.heap.size w wr) (fun i _ => 8 - (intOf i).toNat)
  case atStart => exact ⟨0, by omega, rfl, fun j hj => absurd hj (Nat.not_lt_zero j), Below.refl _ _⟩
  case round =>
    obtain ⟨k, hk, rfl, hall, hb⟩ := hrel
    by_cases hlt : k < 8
    · have hbs := hb.size
      obtain ⟨ad, rfl, hbl, e0, e1, e2, e3, e4, e5, e6⟩ := ships_at (hr.below hb) k hlt
      have cty := hty k hlt
      have hfb := hf.below hb hf.lt
      have hkn : (k : Int) < 8 := by omega
      by_cases ho : Gm.okShip (f k)
      · have hall2 : ∀ j (hj : j < k + 1), Gm.okShip (f j) := fun j hj => by
          by_cases e : j = k
          · subst e; exact ho
          · exact hall j (by omega)
        have cc := fun X hX => Lib.hid (allship1_yes (f k) ho Bf X hX)
        generalize f k = s at e0 e1 e2 e3 e4 e5 e6 ho cc cty
        obtain ⟨on, x, y, vx, vy, cool, score⟩ := s
        dsimp only at e0 e1 e2 e3 e4 e5 e6
        simp only [Gm.Ship.cells] at cc
        have HB := Lib.hid hb
        have HF := Lib.hid hfb
        have HALL := Lib.hid hall2
        clear hr ho hb hf hfb hty cty hall hall2
        go_wp2_with (go_at_call 86; ((with_reducible refine ((cc _ (by first | exact HF.out)).out).mono ?_); rintro e w1 ⟨rfl, hb1⟩))
        go_roundw
        case rel => exact ⟨k + 1, by omega, by go_num, HALL.out, HB.out.trans (hb1.mono HB.out.size)⟩
        case measure => simp [intOf]; omega
      · have cc := fun X hX => Lib.hid (allship1_bad (f k) ho cty Bf X hX)
        generalize f k = s at e0 e1 e2 e3 e4 e5 e6 ho cc cty
        obtain ⟨on, x, y, vx, vy, cool, score⟩ := s
        dsimp only at e0 e1 e2 e3 e4 e5 e6
        simp only [Gm.Ship.cells] at cc
        have HB := Lib.hid hb
        have HF := Lib.hid hfb
        clear hr ho hb hf hfb hty cty hall
        go_wp2_with (go_at_call 86; ((with_reducible refine ((cc _ (by first | exact HF.out)).out).mono ?_); rintro e w1 ⟨rfl, hb1⟩))
        go_ret
        exact ⟨⟨k, rfl⟩, HB.out.trans (hb1.mono HB.out.size)⟩
    · exact absurd (fun i hi => hall i (by omega)) HNO.out

set_option maxHeartbeats 1000000 in
theorem containsship_yes (f : Nat → Gm.Ship) (A : Option Addr) (c : Nat) (Bf : Nat) (w : World) (hno : ¬ ∀ i (h : i < 8), Gm.okShip (f i)) (hty : ∀ i (h : i < 8), Gm.tyShip (f i)) (hr : Lies w w.heap.size 7 A 8 (Gm.shipCells f)) (hf : Box w Bf 87 #[.func (.func 51) #[] #[]]) :
    Calls Tryz.prog 85 #[.slice A 8 c, .func (.func 86) #[] #[.pointer (some ⟨Bf, 0, none⟩)]] w fun e w' => e = .returned (.bool true) ∧ Below w.heap.size w w' := by
  have c1 := Lib.hid (indexship_bad f A c Bf w hno hty hr hf)
  clear hr hf hno hty
  go_enter Tryz.func85, Tryz.ntmps85
  go_wp2_with (go_at_call 120; ((with_reducible refine ((c1).out).mono ?_); rintro e w1 ⟨⟨k, rfl⟩, hb1⟩; have hd : decide (0 ≤ (k : Int)) = true := decide_eq_true (by omega)))
  go_ret
  exact ⟨rfl, hb1⟩

set_option maxHeartbeats 1000000 in
theorem allship_bad (f : Nat → Gm.Ship) (A : Option Addr) (c : Nat) (w : World) (hno : ¬ ∀ i (h : i < 8), Gm.okShip (f i)) (hty : ∀ i (h : i < 8), Gm.tyShip (f i)) (hr : Lies w w.heap.size 7 A 8 (Gm.shipCells f)) :
    Calls Tryz.prog 50 #[.slice A 8 c, .func (.func 51) #[] #[]] w fun e w' => e = .returned (.bool false) ∧ Below w.heap.size w w' := by
  have hmf : ∀ (fn : Fn) (first cap : Array Value) (w : World), (Instr.makeFunc fn first cap).run Tryz.prog w = .ok (.func fn first cap) w := fun _ _ _ _ => rfl
  have hb0 := one_below w (.cells #[.func (.func 51) #[] #[]] 87)
  have c1 := Lib.hid (containsship_yes f A c w.heap.size _ hno hty ((hr.below hb0).wider hb0.size) (Box.made w _ _))
  have hbz := Lib.hid hb0
  clear hr hb0 hno hty
  go_enter Tryz.func50, Tryz.ntmps50
  go_wp2_with (go_at_call 85; ((with_reducible refine ((c1).out).mono ?_); rintro e w1 ⟨rfl, hb1⟩))
  go_ret
  exact ⟨rfl, hbz.out.trans (hb1.mono hbz.out.size)⟩

set_option maxHeartbeats 1000000 in
theorem allshot1_bad (s : Gm.Shot) (h : ¬ Gm.okShot s) (ty : Gm.tyShot s) (Bf : Nat) (w : World) (hf : Box w Bf 91 #[.func (.func 53) #[] #[]]) :
    Calls Tryz.prog 90 #[.agg s.cells.toArray, .pointer (some ⟨Bf, 0, none⟩)] w fun e w' => e = .returned (.bool true) ∧ Below w.heap.size w w' := by
  have c1 := fun X => Lib.hid (show Calls Tryz.prog 53 #[.agg s.cells.toArray] X (fun e w' => e = .returned (.bool false) ∧ Below X.heap.size X w') by obtain ⟨a, b, c, d, e, f⟩ := s; exact mayshot_not a b c d e f h ty X)
  have hK : ∀ o, (w.alloc o).cell? ⟨Bf, 0, none⟩ = some (.func (.func 53) #[] #[]) := fun o => (hf.alloc o).cell 0
  obtain ⟨owner, x, y, vx, vy, left⟩ := s
  simp only [Gm.Shot.cells] at c1 ⊢
  clear h hf ty
  go_enter Tryz.func90, Tryz.ntmps90
  go_wp2_with (go_at_call 53; ((with_reducible refine ((c1 _).out).mono ?_); rintro e w1 ⟨rfl, hb1⟩))
  go_ret
  exact ⟨rfl, (one_below w _).trans (hb1.mono (by simp))⟩

set_option maxRecDepth 100000 in
set_option maxHeartbeats 2000000 in
theorem indexshot_bad (l : List Gm.Shot) (n : Nat) (A : Option Addr) (c : Nat) (Bf : Nat) (w : World) (hno : ¬ ∀ i (h : i < l.length), Gm.okShot (l[i])) (hty : ∀ i (h : i < l.length), Gm.tyShot (l[i])) (hn : n = l.length) (hn32 : n ≤ 32) (hr : Lies w w.heap.size 6 A n (Gm.shotCells l)) (hf : Box w Bf 91 #[.func (.func 53) #[] #[]]) :
    Calls Tryz.prog 123 #[.slice A n c, .func (.func 90) #[] #[.pointer (some ⟨Bf, 0, none⟩)]] w fun e w' => (∃ k : Nat, e = .returned (.int .i64 k)) ∧ Below w.heap.size w w' := by
  have hN := Lib.hid hn
  clear hn
  have HNO := Lib.hid hno
  clear hno
  go_enter Tryz.func123, Tryz.ntmps123
  go_wp2
  go_loopw [8] (fun i wr => ∃ k : Nat, k ≤ n ∧ i = .int .i64 k ∧ (∀ j (hj : j < k), ∀ hjl : j < l.length, Gm.okShot (l[j]'hjl)) ∧ Below w.heap.size w wr) (fun i _ => n - (intOf i).toNat)
  case atStart => exact ⟨0, by omega, rfl, fun j hj => absurd hj (Nat.not_lt_zero j), Below.refl _ _⟩
  case round =>
    obtain ⟨k, hk, rfl, hall, hb⟩ := hrel
    by_cases hlt : k < n
    · have hbs := hb.size
      have hkl : k < l.length := by have := hN.out; omega
      obtain ⟨ad, rfl, hbl, e0, e1, e2, e3, e4, e5⟩ := shots_at (hr.below hb) hN.out k (by have := hN.out; omega)
      have cty := hty k hkl
      have hfb := hf.below hb hf.lt
      have hkn : (k : Int) < n := by omega
      by_cases ho : Gm.okShot (l[k]'hkl)
      · have hall2 : ∀ j (hj : j < k + 1), ∀ hjl : j < l.length, Gm.okShot (l[j]'hjl) := fun j hj => by
          by_cases e : j = k
          · subst e; exact fun _ => ho
          · exact hall j (by omega)
        have cc := fun X hX => Lib.hid (allshot1_yes (l[k]'hkl) ho Bf X hX)
        generalize l[k]'hkl = s at e0 e1 e2 e3 e4 e5 ho cc cty
        obtain ⟨owner, x, y, vx, vy, left⟩ := s
        dsimp only at e0 e1 e2 e3 e4 e5
        simp only [Gm.Shot.cells] at cc
        have HB := Lib.hid hb
        have HF := Lib.hid hfb
        have HALL := Lib.hid hall2
        clear hr ho hb hf hfb hty cty hall hall2
        go_wp2_with (go_at_call 90; ((with_reducible refine ((cc _ (by first | exact HF.out)).out).mono ?_); rintro e w1 ⟨rfl, hb1⟩))
        go_roundw
        case rel => exact ⟨k + 1, by omega, by go_num, HALL.out, HB.out.trans (hb1.mono HB.out.size)⟩
        case measure => simp [intOf]; omega
      · have cc := fun X hX => Lib.hid (allshot1_bad (l[k]'hkl) ho cty Bf X hX)
        generalize l[k]'hkl = s at e0 e1 e2 e3 e4 e5 ho cc cty
        obtain ⟨owner, x, y, vx, vy, left⟩ := s
        dsimp only at e0 e1 e2 e3 e4 e5
        simp only [Gm.Shot.cells] at cc
        have HB := Lib.hid hb
        have HF := Lib.hid hfb
        clear hr ho hb hf hfb hty cty hall
        go_wp2_with (go_at_call 90; ((with_reducible refine ((cc _ (by first | exact HF.out)).out).mono ?_); rintro e w1 ⟨rfl, hb1⟩))
        go_ret
        exact ⟨⟨k, rfl⟩, HB.out.trans (hb1.mono HB.out.size)⟩
    · exact absurd (fun i hi => hall i (by have := hN.out; omega) hi) HNO.out

set_option maxHeartbeats 1000000 in
theorem containsshot_yes (l : List Gm.Shot) (n : Nat) (A : Option Addr) (c : Nat) (Bf : Nat) (w : World) (hno : ¬ ∀ i (h : i < l.length), Gm.okShot (l[i])) (hty : ∀ i (h : i < l.length), Gm.tyShot (l[i])) (hn : n = l.length) (hn32 : n ≤ 32) (hr : Lies w w.heap.size 6 A n (Gm.shotCells l)) (hf : Box w Bf 91 #[.func (.func 53) #[] #[]]) :
    Calls Tryz.prog 89 #[.slice A n c, .func (.func 90) #[] #[.pointer (some ⟨Bf, 0, none⟩)]] w fun e w' => e = .returned (.bool true) ∧ Below w.heap.size w w' := by
  have c1 := Lib.hid (indexshot_bad l n A c Bf w hno hty hn hn32 hr hf)
  clear hr hf hno hty hn
  go_enter Tryz.func89, Tryz.ntmps89
  go_wp2_with (go_at_call 123; ((with_reducible refine ((c1).out).mono ?_); rintro e w1 ⟨⟨k, rfl⟩, hb1⟩; have hd : decide (0 ≤ (k : Int)) = true := decide_eq_true (by omega)))
  go_ret
  exact ⟨rfl, hb1⟩

set_option maxHeartbeats 1000000 in
theorem allshot_bad (l : List Gm.Shot) (n : Nat) (A : Option Addr) (c : Nat) (w : World) (hno : ¬ ∀ i (h : i < l.length), Gm.okShot (l[i])) (hty : ∀ i (h : i < l.length), Gm.tyShot (l[i])) (hn : n = l.length) (hn32 : n ≤ 32) (hr : Lies w w.heap.size 6 A n (Gm.shotCells l)) :
    Calls Tryz.prog 52 #[.slice A n c, .func (.func 53) #[] #[]] w fun e w' => e = .returned (.bool false) ∧ Below w.heap.size w w' := by
  have hmf : ∀ (fn : Fn) (first cap : Array Value) (w : World), (Instr.makeFunc fn first cap).run Tryz.prog w = .ok (.func fn first cap) w := fun _ _ _ _ => rfl
  have hb0 := one_below w (.cells #[.func (.func 53) #[] #[]] 91)
  have c1 := Lib.hid (containsshot_yes l n A c w.heap.size _ hno hty hn hn32 ((hr.below hb0).wider hb0.size) (Box.made w _ _))
  have hbz := Lib.hid hb0
  clear hr hb0 hno hty hn
  go_enter Tryz.func52, Tryz.ntmps52
  go_wp2_with (go_at_call 89; ((with_reducible refine ((c1).out).mono ?_); rintro e w1 ⟨rfl, hb1⟩))
  go_ret
  exact ⟨rfl, hbz.out.trans (hb1.mono hbz.out.size)⟩

set_option maxRecDepth 100000 in
set_option maxHeartbeats 2000000 in
theorem may_not (g : Gm.G) (A : Option Addr) (n c : Nat) (w : World) (hg : ¬ Gm.ok g) (hty : Gm.ty g) (hn : n = g.shots.length) (hn63 : n ≤ maxLen) (hr : Lies w w.heap.size 6 A n (Gm.shotCells g.shots)) :
    Calls Tryz.prog 24 #[.agg (Gm.cells g (.slice A n c))] w fun e w' => e = .returned (.bool false) ∧ Below w.heap.size w w' := by
  have B0 := Box.made w 28 (Gm.cells g (.slice A n c))
  have hb0 := one_below w (.cells (Gm.cells g (.slice A n c)) 28)
  have hc : ∀ j, (w.alloc (.cells (Gm.cells g (.slice A n c)) 28)).cell? ⟨w.heap.size, j, none⟩ = (Gm.cells g (.slice A n c))[j]? := fun j => B0.cell j
  have h0 := Gm.cells_0 g (.slice A n c)
  have h58 := Gm.cells_58 g (.slice A n c)
  have BB := Lib.hid B0
  have HB := Lib.hid hb0
  by_cases hf : g.frame < 0
  · have d1 : decide (g.frame < 0) = true := decide_eq_true hf
    clear hr B0 hb0 hn hg hty
    go_enter Tryz.func24, Tryz.ntmps24
    go_wp2
    go_ret
    exact ⟨rfl, HB.out⟩
  have d1 : decide (g.frame < 0) = false := decide_eq_false hf
  by_cases hf2 : 1048576 < g.frame
  · have d2 : decide (1048576 < g.frame) = true := decide_eq_true hf2
    clear hr B0 hb0 hn hg hty
    go_enter Tryz.func24, Tryz.ntmps24
    go_wp2
    go_ret
    exact ⟨rfl, HB.out⟩
  have d2 : decide (1048576 < g.frame) = false := decide_eq_false hf2
  by_cases hf3 : 32 < n
  · have d3 : decide (32 < (n : Int)) = true := decide_eq_true (by omega)
    clear hr B0 hb0 hn hg hty
    go_enter Tryz.func24, Tryz.ntmps24
    go_wp2
    go_ret
    exact ⟨rfl, HB.out⟩
  have d3 : decide (32 < (n : Int)) = false := decide_eq_false (by omega)
  by_cases hs : ∀ i, i < 8 → Gm.okShip (g.ship i)
  · have hs2 : ¬ ∀ i (h : i < g.shots.length), Gm.okShot g.shots[i] := fun hh => hg ⟨by omega, by omega, by omega, hs, hh⟩
    have c1 := Lib.hid (allship_yes g.ship (some ⟨w.heap.size, 2, none⟩) 8 _ hs (ships_lie B0))
    have c2 := fun X (hX : Below w.heap.size w X) => Lib.hid (allshot_bad g.shots n A c X hs2 hty.2.2.2 hn (by omega) ((hr.below hX).wider hX.size))
    clear hr B0 hb0 hn hg hty hs hs2
    go_enter Tryz.func24, Tryz.ntmps24
    go_wp2_with (first | (go_at_call 50; ((with_reducible refine ((c1).out).mono ?_); rintro e w1 ⟨rfl, hb1⟩; have hc1 := (BB.out.below hb1 BB.out.lt).cell; have HB1 := Lib.hid (HB.out.trans (hb1.mono HB.out.size)))) | (go_at_call 52; ((with_reducible refine ((c2 _ (HB1.out)).out).mono ?_); rintro e w2 ⟨rfl, hb2⟩)))
    go_ret
    exact ⟨rfl, HB1.out.trans (hb2.mono HB1.out.size)⟩
  · have c1 := Lib.hid (allship_bad g.ship (some ⟨w.heap.size, 2, none⟩) 8 _ hs hty.2.2.1 (ships_lie B0))
    clear hr B0 hb0 hn hg hty hs
    go_enter Tryz.func24, Tryz.ntmps24
    go_wp2_with (go_at_call 50; ((with_reducible refine ((c1).out).mono ?_); rintro e w1 ⟨rfl, hb1⟩; have HB1 := Lib.hid (HB.out.trans (hb1.mono HB.out.size))))
    go_ret
    exact ⟨rfl, HB1.out⟩
end Go.Proofs.YtiahpncglpfjeaaGreat
namespace Go.Proofs.YtiahpncglpfjeaaGreat
open Go.RowKit Go.Shelf
set_option linter.unusedVariables false
attribute [local go_sem] Oper.semAt_some
set_option maxHeartbeats 400000 in
theorem rospeer_any (i : Int) (w : World) :
    Calls Tryz.prog 83 #[.int .i64 i] w fun e w' => e = .returned (.bool (decide (0 ≤ i ∧ i < 12))) ∧ w = w' := by
  go_enter Tryz.func83, Tryz.ntmps83
  go_wp2
  all_goals
    go_ret
    exact ⟨ret_bool (by rw [Bool.eq_iff_iff]; simp; omega), rfl⟩
set_option maxHeartbeats 400000 in
theorem rosslot_any (i : Int) (w : World) :
    Calls Tryz.prog 48 #[.int .i64 i] w fun e w' => e = .returned (.bool (decide (0 ≤ i ∧ i < 8))) ∧ w = w' := by
  go_enter Tryz.func48, Tryz.ntmps48
  go_wp2
  all_goals
    go_ret
    exact ⟨ret_bool (by rw [Bool.eq_iff_iff]; simp; omega), rfl⟩
set_option maxHeartbeats 1000000 in
theorem mayseat_any (p g : Int) (w : World) :
    Calls Tryz.prog 92 #[.agg #[.int .i64 p, .int .i64 g]] w fun e w' => e = .returned (.bool (decide ((0 ≤ g ∧ g ≤ 60000) ∧ (p = -1 ∨ ((0 ≤ p ∧ p < 12) ∧ 0 < g))))) ∧ Below w.heap.size w w' := by
  have c1 := fun X => Lib.hid (rospeer_any p X)
  by_cases hg : g < 0
  · go_enter Tryz.func92, Tryz.ntmps92
    go_wp2
    go_ret
    exact ⟨ret_bool (by (try rw [Bool.eq_iff_iff]) <;> simp <;> omega), one_below _ _⟩
  by_cases hg2 : 60000 < g
  · go_enter Tryz.func92, Tryz.ntmps92
    go_wp2
    go_ret
    exact ⟨ret_bool (by (try rw [Bool.eq_iff_iff]) <;> simp <;> omega), one_below _ _⟩
  by_cases hp : p = -1
  · subst hp
    go_enter Tryz.func92, Tryz.ntmps92
    go_wp2
    go_ret
    exact ⟨ret_bool (by (try rw [Bool.eq_iff_iff]) <;> simp <;> omega), one_below _ _⟩
  have hpb : (p == -1) = false := by simpa using hp
  by_cases hq : 0 ≤ p ∧ p < 12
  · rw [decide_eq_true hq] at c1
    by_cases hg0 : 0 < g
    · go_enter Tryz.func92, Tryz.ntmps92
      go_wp2_with (go_at_call 83; ((with_reducible refine ((c1 _).out).mono ?_); rintro e w1 ⟨rfl, rfl⟩))
      go_ret
      exact ⟨ret_bool (by (try rw [Bool.eq_iff_iff]) <;> simp <;> omega), one_below _ _⟩
    · go_enter Tryz.func92, Tryz.ntmps92
      go_wp2_with (go_at_call 83; ((with_reducible refine ((c1 _).out).mono ?_); rintro e w1 ⟨rfl, rfl⟩))
      go_ret
      exact ⟨ret_bool (by (try rw [Bool.eq_iff_iff]) <;> simp <;> omega), one_below _ _⟩
  · rw [decide_eq_false hq] at c1
    have HQ := Lib.hid hq
    clear hq
    go_enter Tryz.func92, Tryz.ntmps92
    go_wp2_with (go_at_call 83; ((with_reducible refine ((c1 _).out).mono ?_); rintro e w1 ⟨rfl, rfl⟩))
    go_ret
    have hq := HQ.out
    exact ⟨ret_bool (by (try rw [Bool.eq_iff_iff]) <;> simp <;> omega), one_below _ _⟩

/-- The seats' going over is made. -/
theorem seats_any (B : Nat) (w : World) :
    Calls Tryz.prog 55 #[.pointer (some ⟨B, 0, none⟩)] w fun e w' => e = .returned (.func (.func 93) #[] #[.pointer (some ⟨w.heap.size, 0, none⟩)]) ∧ w' = w.alloc (.cells #[.pointer (some ⟨B, 0, none⟩)] 95) := by
  have hmf : ∀ (fn : Fn) (first cap : Array Value) (w : World), (Instr.makeFunc fn first cap).run Tryz.prog w = .ok (.func fn first cap) w := fun _ _ _ _ => rfl
  go_enter Tryz.func55, Tryz.ntmps55
  go_wp2
  go_ret
  exact ⟨rfl, rfl⟩

abbrev seatEnc (B : Nat) (x : Ros.Sl) : Array Value := #[.int .i64 x.1, .pointer (some ⟨B, 1 + x.1 * 2, none⟩)]
/-- What the going over reads between two rounds: where the roster lies. -/
def Sitting (B Bg : Nat) (W : World) : Prop := W.cell? ⟨Bg, 0, none⟩ = some (.pointer (some ⟨B, 0, none⟩))
theorem Sitting.below {B Bg : Nat} {w W : World} (h : Sitting B Bg w) (hb : Below w.heap.size w W) : Sitting B Bg W :=
  (World.cell?_of_block (hb.block _ (World.block_lt_of_cell? w _ h))).trans h
def SitKp (B Bg : Nat) (W W' : World) : Prop := Sitting B Bg W → Sitting B Bg W'
theorem sitkp_t {B Bg : Nat} {X Y Z : World} (h : SitKp B Bg X Y) (k : SitKp B Bg Y Z) : SitKp B Bg X Z := fun hx => k (h hx)
theorem sitkp_b {B Bg : Nat} {n : Nat} (W : World) (l : Nat) (o o' : Obj) (_ : n ≤ l) (h : W.heap[l]? = some o) (hc : o.isCells = false) (_ : o.isWalk = false) : SitKp B Bg W (W.putObj l o') := fun hf =>
  cell_kept hf (grownBy_putObj' W l o') (fun r e => by cases e; exact ⟨_, h, hc⟩)

set_option maxRecDepth 100000 in
set_option maxHeartbeats 4000000 in
theorem seats1_in (B Bg : Nat) (n l : Nat) (J Jx : List Ros.Sl → World → Prop)
    (hY : ∀ pre x W, J pre W → pre.length < 8 → YieldAt Fence.wide (n - 1) Tryz.prog l (seatEnc B x) W fun e W' =>
      (e = .returned (.bool true) ∧ J (pre ++ [x]) W' ∧ SitKp B Bg W W') ∨ (e = .returned (.bool false) ∧ Jx (pre ++ [x]) W'))
    (W : World) (hF : Sitting B Bg W) (h0 : J [] W) :
    CallsIn Fence.wide n Tryz.prog 93 #[.func (.yield l) #[] #[], .pointer (some ⟨Bg, 0, none⟩)] W fun e W' => (∃ v, e = .returned v) ∧
      ((∃ ys, ys = Ros.all8 ∧ J ys W') ∨ (∃ pre, (∃ rest, Ros.all8 = pre ++ rest) ∧ Jx pre W')) := by
  refine callsIn_of_wp Tryz.func93 rfl trivial ?_ rfl
  simp only [Tryz.ntmps93, List.size_toArray, List.length_cons, List.length_nil, Nat.reduceAdd, Nat.reduceSub, Array.replicate_succ, Array.replicate_zero, List.push_toArray, List.append_toArray, List.nil_append, List.cons_append]
  gi_wp2
  gi_loopw [4] (fun p wr => ∃ (i : Nat) (pre : List Ros.Sl), i ≤ 8 ∧ p = .int .i64 i ∧ Ros.all8 = pre ++ Ros.slots (8 - i) i ∧ Sitting B Bg wr ∧ J pre wr)
    (fun p _ => 8 - (intOf p).toNat)
  case atStart =>
    exact ⟨0, [], by omega, rfl, rfl, hF, h0⟩
  case round =>
    obtain ⟨i, pre, hi, rfl, hx, hf, hJs⟩ := hrel
    by_cases hlt : i < 8
    · have hi8 : (i : Int) < 8 := by omega
      have f0 : wr.cell? ⟨Bg, 0, none⟩ = some (.pointer (some ⟨B, 0, none⟩)) := hf
      rw [show 8 - i = (8 - (i + 1)) + 1 by omega, Ros.slots_yes hlt] at hx
      have hlen : pre.length < 8 := by
        have := Ros.slots_len 8 0; rw [show Ros.slots 8 0 = Ros.all8 from rfl, hx] at this; simp at this; omega
      obtain ⟨fn, tmps, assign, body, hy, hR⟩ := hY pre ⟨i, hlt⟩ wr hJs hlen
      dsimp only [seatEnc] at hy
      have HX := Lib.hid hx
      have HF := Lib.hid hf
      clear hx hf hJs hY
      gi_wp2
      refine ⟨fun h => (by cases h), hR.mono ?_⟩
      rintro e W3 (⟨rfl, hJ3, hk3⟩ | ⟨rfl, hJx3⟩)
      · gi_wp2
        go_roundw
        case rel => exact ⟨i + 1, pre ++ [⟨i, hlt⟩], by omega, by go_num, by rw [HX.out]; simp, hk3 HF.out, hJ3⟩
        case measure => simp [intOf]; omega
      · gi_wp2
        refine bodyPost_ret (results_none rfl _ _ _) rfl ?_
        exact ⟨⟨_, rfl⟩, .inr ⟨pre ++ [⟨i, hlt⟩], ⟨Ros.slots (8 - (i + 1)) (i + 1), by rw [HX.out]; simp⟩, hJx3⟩⟩
    · have hi8 : ¬ (i : Int) < 8 := by omega
      have hie : i = 8 := by omega
      subst hie
      have HX := Lib.hid (show Ros.all8 = pre by rw [hx]; simp [Ros.slots])
      clear hx
      gi_wp2
      go_end0
      have e := HX.out
      first
        | exact ⟨⟨_, rfl⟩, .inl ⟨pre, e.symm, hJs⟩⟩
        | exact ⟨⟨_, rfl⟩, .inl (by rw [e]; exact hJs)⟩

theorem seats1_stops (B Bg : Nat) (n : Nat) (w : World) (hF : Sitting B Bg w) :
    SeqStopsK Fence.wide n Tryz.prog 93 #[.pointer (some ⟨Bg, 0, none⟩)] (seatEnc B) (SitKp B Bg) (fun xs => xs = Ros.all8) (fun pre => ∃ rest, Ros.all8 = pre ++ rest) 8 w :=
  fun l J Jx W hW _ _ hY h0 => seats1_in B Bg n l J Jx hY W (hF.below hW) h0
end Go.Proofs.YtiahpncglpfjeaaGreat
namespace Go
open Go.RowKit

/-- A world that came of W, with every block below B as it was. -/
structure Ext (B : Nat) (W : World) where
  w : World
  h : Below B W w

instance {B : Nat} {W : World} : Nonempty (Ext B W) := ⟨⟨W, Below.refl _ _⟩⟩

theorem Ext.cell {B : Nat} {W : World} (q : Ext B W) {b o : Nat} {v : Value} (hb : b < B) (hc : W.cell? ⟨b, o, none⟩ = some v) : q.w.cell? ⟨b, o, none⟩ = some v :=
  (q.h.cell (p := ⟨b, o, none⟩) hb).trans hc

/-- A callee that may make memory. -/
theorem Calls.ext_of {P : Program} {f : FuncId} {args : Array Value} {B : Nat} {W : World} {q : Ext B W} {v : Value} (hB : B ≤ W.heap.size)
    (h : Calls P f args q.w fun e w' => e = .returned v ∧ Below q.w.heap.size q.w w') : Calls P f args q.w fun e w'' => e = .returned v ∧ ∃ q' : Ext B W, w'' = q'.w :=
  h.mono fun _ w' ⟨he, hb⟩ => ⟨he, ⟨w', q.h.trans (hb.mono (Nat.le_trans hB q.h.size))⟩, rfl⟩

end Go
namespace Rt
open Go Go.RowKit
set_option linter.unusedVariables false

def tame (o : Oper) : Bool := match o.op with | .defer .. => false | _ => true
theorem rows_in {n l : Nat} {P : Program} {row : String} {args : Array Value} {w : World} {R : Value → World → Prop} (h : Rows P row args w R) : RowsIn (Fence.wide.inRound l) n P row args w R :=
  fun c cs _ => let ⟨v, w', r, s⟩ := h c cs; ⟨v, w', r, stepsIn_wide.2 s⟩
theorem oper_in {n l : Nat} {P : Program} {o : Oper} {a : Act} {w : World} {K : Act → World → Prop} {Q : Exit → Act → World → Prop} (ht : tame o = true) (h : o.wp P a w K Q) : o.wpIn (Fence.wide.inRound l) n P a w K Q := by
  refine ⟨fun _ _ => trivial, ?_⟩
  rw [Oper.semAt_eq _ _ _ (fun c e => by unfold tame at ht; rw [e] at ht; cases ht)]
  unfold Oper.wp at h
  generalize (execOp a.eval o).run P w = r at *
  cases r with
  | ok x w' =>
    cases x <;> simp only [Oper.upon] at h <;> simp only [Oper.uponIn]
    case value => exact h
    case skip => exact h
    case defer => exact h
    case enter => exact ⟨fun e => (by cases e), (callsIn_wide.2 h).inRound l⟩
    case row => exact ⟨fun e => (by cases e), rows_in h⟩
  | halt x w' => cases x <;> simp only [Oper.upon] at h <;> simp only [Oper.uponIn] <;> exact h
theorem op_in {n l : Nat} {P : Program} {ops : Array Oper} {i : Nat} {a : Act} {w : World} {K : Act → World → Prop} {Q : Exit → Act → World → Prop} (ht : ops.all tame = true) (hQ : ¬ LetsOut Q) (h : wpOp P ops Q i K a w) : wpOpIn (Fence.wide.inRound l) n P ops Q i K a w := by
  unfold wpOp at h
  unfold wpOpIn
  split
  · rename_i e; simp only [e] at h; exact h
  · rename_i o e
    simp only [e] at h
    have hto : tame o = true := Array.all_eq_true_iff_forall_mem.1 ht o (Array.mem_of_getElem? e)
    split
    · rename_i hw
      simp only [hw, if_true] at h
      rcases h with h | h
      · exact oper_in hto h
      · exact absurd h.2 hQ
    · rename_i hw
      simp only [hw] at h
      exact ⟨fun _ _ => trivial, h⟩
theorem any_in {n l : Nat} {P : Program} {ops : Array Oper} {Q : Exit → Act → World → Prop} (ht : ops.all tame = true) (hQ : ¬ LetsOut Q) : ∀ (fuel : Nat) (listed : Array Bool) (a : Act) (w : World), wpAny P .any ops Q fuel listed a w → wpAnyIn (Fence.wide.inRound l) n P .any ops Q fuel listed a w
  | 0, _, _, _, h => h
  | fuel + 1, listed, a, w, h => ⟨h.1, fun i hi => wpOpIn_mono (fun a' w' h' => any_in ht hQ fuel _ a' w' h') (op_in ht hQ (h.2 i hi))⟩

theorem region_lex {n l id : Nat} {P : Program} {ops : List Oper} {a : Act} {w : World} {Q : Exit → Act → World → Prop} (hm : P.follows .mixedOrders = true) (ht : ops.toArray.all tame = true) (st : List Nat) (hB : Rp.okB st ops = true) (hQ : ¬ LetsOut Q) (C0 D0 E : World → Prop) (hC : C0 w.drew) (hCD : ∀ w, C0 w → D0 w ∧ E w)
    (h : Rp.wpLex P st E (fun a' C' => ∀ w', C' w' → Q .normal a' w') ops 0 a C0 D0) : (Code.region id ops.toArray true).wpIn (Fence.wide.inRound l) n P Q a w :=
  wpIn_region_any hm (any_in ht hQ _ _ _ _ (Rp.any_of_lex hB C0 D0 hC hCD h))
theorem region_ext {n l id : Nat} {P : Program} {ops : List Oper} {a : Act} {w : World} {Q : Exit → Act → World → Prop} (B : Nat) (W : World) (hm : P.follows .mixedOrders = true) (ht : ops.toArray.all tame = true) (hB : Region.lexB .any ops.toArray = true) (hQ : ¬ LetsOut Q) (hC : Below B W w)
    (h : wpQuiet P ops.toArray (fun w' => ∃ q : Ext B W, w' = q.w) (fun a' => ∀ w', (∃ q : Ext B W, w' = q.w) → Q .normal a' w') ops a) : (Code.region id ops.toArray true).wpIn (Fence.wide.inRound l) n P Q a w := by
  refine wpIn_region_any hm (any_in ht hQ _ _ _ _ ?_)
  simp only [Region.lexB, Bool.and_eq_true] at hB
  refine wpAny_of_quiet (C := fun w' => ∃ q : Ext B W, w' = q.w) (Q := fun a' => ∀ w', (∃ q : Ext B W, w' = q.w) → Q .normal a' w') (fun _ w' hw' h => h w' hw') _ _ _ _ ⟨⟨_, hC.drew⟩, rfl⟩ ?_
  have := wpAnyQ_lex (C := fun w' => ∃ q : Ext B W, w' = q.w) (md := .any) hB.1 ops.toArray.toList 0 (Array.replicate ops.toArray.size false) a (by simp) (by simpa using hB.2) (by simpa using h)
  simpa using this
end Rt
namespace Go.Proofs.YtiahpncglpfjeaaGreat
open Go.RowKit Go.Shelf
set_option linter.unusedVariables false
attribute [local go_sem] Oper.semAt_some
/-- What May knows on its way. -/
structure Maying (B Br Bh Bg : Nat) (w0 : World) (r : Ros.R) (pre : List Ros.Sl) (W : World) : Prop where
  ros : Box W B 33 (Ros.cells r)
  res : Box W Br 4 #[.bool false]
  has : Box W Bh 124 (Ros.hasCells (Ros.hasF r pre))
  sit : Box W Bg 95 #[.pointer (some ⟨B, 0, none⟩)]
  below : Below w0.heap.size w0 W
  good : Ros.Good r pre
theorem Below.turned {b : Nat} {w0 W W' : World} {row : Option Nat} (h : Below b w0 W) (hb : b ≤ w0.heap.size) (hg : W.grownBy W' row) (hr : ∀ r, row = some r → b ≤ r) : Below b w0 W' :=
  h.grown hg (Nat.le_trans hb h.size) fun k e => hr k e
theorem Maying.turned {B Br Bh Bg : Nat} {w0 : World} {r : Ros.R} {pre : List Ros.Sl} {W W' : World} {row : Option Nat} (h : Maying B Br Bh Bg w0 r pre W) (hg : W.grownBy W' row) (hr : ∀ r, row = some r → w0.heap.size ≤ r ∧ ∃ o : Obj, W.heap[r]? = some o ∧ o.isCells = false) : Maying B Br Bh Bg w0 r pre W' :=
  ⟨h.ros.turned hg fun r e => (hr r e).2, h.res.turned hg fun r e => (hr r e).2, h.has.turned hg fun r e => (hr r e).2, h.sit.turned hg fun r e => (hr r e).2, Below.turned h.below (Nat.le_refl _) hg fun r e => (hr r e).1, h.good⟩

theorem Maying.call {B Br Bh Bg : Nat} {w0 : World} {r : Ros.R} {pre : List Ros.Sl} {W W' : World} (h : Maying B Br Bh Bg w0 r pre W) (hb : Below W.heap.size W W') : Maying B Br Bh Bg w0 r pre W' :=
  ⟨h.ros.below hb h.ros.lt, h.res.below hb h.res.lt, h.has.below hb h.has.lt, h.sit.below hb h.sit.lt, h.below.trans (hb.mono h.below.size), h.good⟩

set_option maxRecDepth 100000 in
set_option maxHeartbeats 4000000 in
theorem rosmay_any (r : Ros.R) (w : World) :
    Calls Tryz.prog 54 #[.agg (Ros.cells r)] w fun e w' => e = .returned (.bool (Ros.may r)) ∧ Below w.heap.size w w' := by
  have B0 := Box.made w 33 (Ros.cells r)
  have hc : ∀ o j, ((w.alloc (.cells (Ros.cells r) 33)).alloc o).cell? ⟨w.heap.size, j, none⟩ = (Ros.cells r)[j]? := fun o j => (B0.alloc o).cell j
  have h0 := Ros.cells_0 r
  by_cases hv1 : r.version < 0
  · skip
    have hno : Ros.may r = false := decide_eq_false fun h => by have := h.1; omega
    have d1 : decide (r.version < 0) = true := decide_eq_true hv1
    rw [hno]
    have hres := (Box.made_at (n := w.heap.size + 1) (w.alloc (.cells (Ros.cells r) 33)) 4 #[.bool false] (by simp)).put 0 (.bool false)
    have hcr := hres.cell 0
    clear B0 hno hres
    go_enter Tryz.func54, Tryz.ntmps54
    go_wp2
    refine bodyPost_ret (v := .bool false) (by simp [results, Tryz.f54, go_sem] <;> exact hcr) rfl ?_
    exact ⟨rfl, two_below' w _ _⟩
  by_cases hv2 : 1073741824 < r.version
  · skip
    have hno : Ros.may r = false := decide_eq_false fun h => by have := h.1; omega
    have d1 : decide (r.version < 0) = false := decide_eq_false hv1
    have d2 : decide (1073741824 < r.version) = true := decide_eq_true hv2
    rw [hno]
    have hres := (Box.made_at (n := w.heap.size + 1) (w.alloc (.cells (Ros.cells r) 33)) 4 #[.bool false] (by simp)).put 0 (.bool false)
    have hcr := hres.cell 0
    clear B0 hno hres
    go_enter Tryz.func54, Tryz.ntmps54
    go_wp2
    refine bodyPost_ret (v := .bool false) (by simp [results, Tryz.f54, go_sem] <;> exact hcr) rfl ?_
    exact ⟨rfl, two_below' w _ _⟩
  have hver : 0 ≤ r.version ∧ r.version ≤ 1073741824 := by omega
  have d1 : decide (r.version < 0) = false := decide_eq_false hv1
  have d2 : decide (1073741824 < r.version) = false := decide_eq_false hv2
  have HV := Lib.hid hver
  have BB := Lib.hid B0
  clear hv1 hv2 hver
  refine (callsIn_wide (n := 10)).1 (callsIn_of_wp_marks Tryz.func54 rfl trivial (wpIn_wide.2 ?_) rfl)
  simp only [Tryz.ntmps54, List.size_toArray, List.length_cons, List.length_nil, Nat.reduceAdd, Nat.reduceSub, Array.replicate_succ, Array.replicate_zero, List.push_toArray, List.append_toArray, List.nil_append, List.cons_append]
  go_upto_block 0 with (go_at_call 55; ((with_reducible refine (seats_any _ _).mono ?_); rintro e w3 ⟨rfl, rfl⟩))
  have M0 : Maying w.heap.size (w.heap.size + 1) (w.heap.size + 1 + 1) (w.heap.size + 1 + 1 + 1) w r [] ((((w.alloc (.cells (Ros.cells r) 33)).alloc (.cells #[.bool false] 4)).alloc (.cells (Ros.hasCells fun _ => false) 124)).alloc (.cells #[.pointer (some ⟨w.heap.size, 0, none⟩)] 95)) :=
    ⟨((BB.out.alloc _).alloc _).alloc _, ((Box.made_at _ _ _ (by simp)).alloc _).alloc _, (Box.made_at _ _ _ (by simp)).alloc _, Box.made_at _ _ _ (by simp), ((((Below.refl _ _).alloc (Nat.le_refl _) _).alloc (by simp) _).alloc (by simp <;> omega) _).alloc (by simp <;> omega) _, Ros.good_nil r⟩
  simp only [Ros.hasCells] at M0
  generalize hW0 : ((((w.alloc (.cells (Ros.cells r) 33)).alloc (.cells #[.bool false] 4)).alloc _).alloc _) = W0 at M0 ⊢
  have MM0 := Lib.hid M0
  have hs0 : Sitting w.heap.size (w.heap.size + 1 + 1 + 1) W0 := M0.sit.cell 0
  clear hW0 M0 BB B0 hc h0 d1 d2
  refine (wpIn_wide (n := 10)).1 ?_
  refine wpIn_block ?_
  refine' wpIn_rangeFunc_ownF (n := 10) (w := W0) rfl (by omega) (gf := 93) (lb := #[.pointer (some ⟨w.heap.size + 1 + 1 + 1, 0, none⟩)]) rfl trivial (enters_of Tryz.func93 (by kernel_rfl) rfl)
    (seats1_stops w.heap.size (w.heap.size + 1 + 1 + 1) _ W0 hs0) sitkp_t (sitkp_b (n := W0.heap.size)) (Below.refl _ _) (fun _ => rfl)
    (fun pre W => Maying w.heap.size (w.heap.size + 1) (w.heap.size + 1 + 1) (w.heap.size + 1 + 1 + 1) w r pre W)
    (fun c pre W => c = .ret ∧ ¬ Ros.Good r pre ∧ Box W (w.heap.size + 1) 4 #[.bool false] ∧ Below w.heap.size w W)
    (fun pre W W' row h hgr hr => h.turned hgr (fun r e => ⟨Nat.le_trans MM0.out.below.size (hr r e).1, (hr r e).2⟩))
    (fun c pre W W' row h hgr hr => ⟨h.1, h.2.1, h.2.2.1.turned hgr (fun r e => (hr r e).2), Below.turned h.2.2.2 (Nat.le_refl _) hgr (fun r e => Nat.le_trans MM0.out.below.size (hr r e).1)⟩)
    MM0.out _ ?assign ?body ?done ?stop
  case assign =>
    intro l x W K hK
    gi_wp2
    exact hK
  case body =>
    rintro l pre ⟨k, hk⟩ W hM hlen
    have hk8 : (k : Int) < 8 := by omega
    have rc := hM.ros.cell
    have hl := hM.ros.lt
    have rp := Ros.cells_peer r k hk
    have rg := Ros.cells_gen r k hk
    have cs := fun X => Lib.hid (mayseat_any (r.peer k) (r.gen k) X)
    have HM := Lib.hid hM
    clear hM hlen
    by_cases hok : Ros.OkSeat r k
    · have hok' : (0 ≤ r.gen k ∧ r.gen k ≤ 60000) ∧ (r.peer k = -1 ∨ ((0 ≤ r.peer k ∧ r.peer k < 12) ∧ 0 < r.gen k)) := hok
      rw [decide_eq_true hok'] at cs
      have HOK := Lib.hid hok
      by_cases hp : r.peer k = -1
      · have HG : Hid (Ros.Good r (pre ++ [⟨k, hk⟩])) := Lib.hid (Ros.good_snoc.2 ⟨HM.out.good, hok, fun y hy => by rw [show r.peer (⟨k, hk⟩ : Ros.Sl).1 = -1 from hp]; omega⟩)
        have HF : Hid (Ros.hasF r (pre ++ [⟨k, hk⟩]) = Ros.hasF r pre) := Lib.hid (funext fun q => Ros.hasF_no (x := ⟨k, hk⟩) hp q)
        rw [hp] at rp cs
        generalize r.gen k = g at rg cs
        clear hok hok' hp
        gi_wp2_with (first | (gi_at_call 92; ((with_reducible refine (CallsIn.inRound l (callsIn_wide.2 (cs _).out)).mono ?_); rintro e v1 ⟨rfl, hb1⟩; have M1 := HM.out.call hb1; have s1 := M1.ros.cell; have s2 := M1.res.cell; have t2 := M1.res.free; have s3 := M1.has.cell; have t3 := M1.has.free; have l1 := M1.ros.lt; clear M1)) | (refine ⟨trivial, ?_⟩; gi_at_call 92; ((with_reducible refine (CallsIn.inRound l (callsIn_wide.2 (cs _).out)).mono ?_); rintro e v1 ⟨rfl, hb1⟩; have M1 := HM.out.call hb1; have s1 := M1.ros.cell; have s2 := M1.res.cell; have t2 := M1.res.free; have s3 := M1.has.cell; have t3 := M1.has.free; have l1 := M1.ros.lt; clear M1)))
        have M2 := HM.out.call hb1
        refine ⟨below_others hb1, fun h => h.below hb1, ?_⟩
        exact ⟨M2.ros, M2.res, by rw [HF.out]; exact M2.has, M2.sit, M2.below, HG.out⟩
      · obtain ⟨n, hn, hn12⟩ : ∃ n : Nat, r.peer k = n ∧ n < 12 := ⟨(r.peer k).toNat, by omega, by omega⟩
        have hne : ((n : Int) == -1) = false := by simp
        have hni : (n : Int) < 12 := by omega
        have ha := Ros.hasCells_at (Ros.hasF r pre) n hn12
        cases hh : Ros.hasF r pre n
        · rw [hh] at ha
          have HG : Hid (Ros.Good r (pre ++ [⟨k, hk⟩])) := Lib.hid (Ros.good_snoc.2 ⟨HM.out.good, hok, fun y hy => by rw [show r.peer (⟨k, hk⟩ : Ros.Sl).1 = n from hn]; exact .inr (Ros.hasF_iff.1 hh y hy)⟩)
          have HF : Hid (Ros.hasF r (pre ++ [⟨k, hk⟩]) = fun q => if q = n then true else Ros.hasF r pre q) := Lib.hid (funext fun q => Ros.hasF_yes (x := ⟨k, hk⟩) hn q)
          rw [hn] at rp cs
          generalize r.gen k = g at rg cs
          clear hok hok' hp hn hh
          gi_wp2_with (first | (gi_at_call 92; ((with_reducible refine (CallsIn.inRound l (callsIn_wide.2 (cs _).out)).mono ?_); rintro e v1 ⟨rfl, hb1⟩; have M1 := HM.out.call hb1; have s1 := M1.ros.cell; have s2 := M1.res.cell; have t2 := M1.res.free; have s3 := M1.has.cell; have t3 := M1.has.free; have l1 := M1.ros.lt; clear M1)) | (refine ⟨trivial, ?_⟩; gi_at_call 92; ((with_reducible refine (CallsIn.inRound l (callsIn_wide.2 (cs _).out)).mono ?_); rintro e v1 ⟨rfl, hb1⟩; have M1 := HM.out.call hb1; have s1 := M1.ros.cell; have s2 := M1.res.cell; have t2 := M1.res.free; have s3 := M1.has.cell; have t3 := M1.has.free; have l1 := M1.ros.lt; clear M1)))
          have M2 := HM.out.call hb1
          have hset := M2.has.put n (.bool true)
          rw [Ros.hasCells_set _ n hn12, ← HF.out] at hset
          refine ⟨(below_others hb1).trans (KeepsOthers.setCell _ _ _), fun h => (World.cell?_of_block (heap_setCell_other _ _ _ _ (by show w.heap.size + 1 + 1 + 1 ≠ w.heap.size + 1 + 1; omega))).trans (h.below hb1), ?_⟩
          exact ⟨M2.ros.far (by show _ ≠ _; simp; omega) _, M2.res.far (by show _ ≠ _; simp) _, hset, M2.sit.far (by show _ ≠ _; simp) _, M2.below.setCell (by simp; omega) _, HG.out⟩
        · rw [hh] at ha
          have HG : Hid (¬ Ros.Good r (pre ++ [⟨k, hk⟩])) := Lib.hid fun h => by
            have h3 := (Ros.good_snoc.1 h).2.2
            have : Ros.hasF r pre n = false := Ros.hasF_iff.2 fun y hy => by
              rcases h3 y hy with e | e
              · rw [e]; omega
              · rw [show r.peer (⟨k, hk⟩ : Ros.Sl).1 = n from hn] at e; exact e
            rw [this] at hh; cases hh
          rw [hn] at rp cs
          generalize r.gen k = g at rg cs
          clear hok hok' hp hn hh
          gi_wp2_with (first | (gi_at_call 92; ((with_reducible refine (CallsIn.inRound l (callsIn_wide.2 (cs _).out)).mono ?_); rintro e v1 ⟨rfl, hb1⟩; have M1 := HM.out.call hb1; have s1 := M1.ros.cell; have s2 := M1.res.cell; have t2 := M1.res.free; have s3 := M1.has.cell; have t3 := M1.has.free; have l1 := M1.ros.lt; clear M1)) | (refine ⟨trivial, ?_⟩; gi_at_call 92; ((with_reducible refine (CallsIn.inRound l (callsIn_wide.2 (cs _).out)).mono ?_); rintro e v1 ⟨rfl, hb1⟩; have M1 := HM.out.call hb1; have s1 := M1.ros.cell; have s2 := M1.res.cell; have t2 := M1.res.free; have s3 := M1.has.cell; have t3 := M1.has.free; have l1 := M1.ros.lt; clear M1)))
          have M2 := HM.out.call hb1
          exact ⟨(below_others hb1).trans (KeepsOthers.setCell _ _ _), rfl, HG.out, M2.res.put 0 _, M2.below.setCell (by simp) _⟩
    · have hok' : ¬ ((0 ≤ r.gen k ∧ r.gen k ≤ 60000) ∧ (r.peer k = -1 ∨ ((0 ≤ r.peer k ∧ r.peer k < 12) ∧ 0 < r.gen k))) := hok
      rw [decide_eq_false hok'] at cs
      have HG : Hid (¬ Ros.Good r (pre ++ [⟨k, hk⟩])) := Lib.hid fun h => hok (Ros.good_snoc.1 h).2.1
      generalize r.gen k = g at rg cs
      generalize r.peer k = p at rp cs
      clear hok hok'
      gi_wp2_with (first | (gi_at_call 92; ((with_reducible refine (CallsIn.inRound l (callsIn_wide.2 (cs _).out)).mono ?_); rintro e v1 ⟨rfl, hb1⟩; have M1 := HM.out.call hb1; have s1 := M1.ros.cell; have s2 := M1.res.cell; have t2 := M1.res.free; have s3 := M1.has.cell; have t3 := M1.has.free; have l1 := M1.ros.lt; clear M1)) | (refine ⟨trivial, ?_⟩; gi_at_call 92; ((with_reducible refine (CallsIn.inRound l (callsIn_wide.2 (cs _).out)).mono ?_); rintro e v1 ⟨rfl, hb1⟩; have M1 := HM.out.call hb1; have s1 := M1.ros.cell; have s2 := M1.res.cell; have t2 := M1.res.free; have s3 := M1.has.cell; have t3 := M1.has.free; have l1 := M1.ros.lt; clear M1)))
      have M2 := HM.out.call hb1
      exact ⟨(below_others hb1).trans (KeepsOthers.setCell _ _ _), rfl, HG.out, M2.res.put 0 _, M2.below.setCell (by simp) _⟩
  case done =>
    rintro D xs W hD rfl hM hK
    have hres := hM.res.put 0 (.bool true)
    have hK3 := others_kept (KeepsOthers.setCell W ⟨w.heap.size + 1, 0, none⟩ (.bool true)) hK
    have hDw : w.heap.size ≤ D := Nat.le_trans MM0.out.below.size hD
    have hT := hres.turned (grownBy_putObj' _ D (.deferred none)) (fun r e => by cases e; exact ⟨_, hK3, rfl⟩)
    have hT2 := Lib.hid (Below.turned (hM.below.setCell (p := ⟨w.heap.size + 1, 0, none⟩) (by simp) (.bool true)) (Nat.le_refl _) (grownBy_putObj' _ D (.deferred none)) (fun r e => by cases e; exact hDw))
    have hyes : Hid (Ros.may r = true) := Lib.hid (decide_eq_true ⟨HV.out, hM.good⟩)
    have HK3 := Lib.hid hK3
    have hc5 : ((W.setCell ⟨w.heap.size + 1, 0, none⟩ (.bool true)).putObj D (.deferred none)).cell? ⟨w.heap.size + 1, 0, none⟩ = some (.bool true) := hT.cell 0
    have u4 := hM.res.cell
    have v4 := hM.res.free
    clear hM hres hK3 hT hK
    go_wp2
    refine ⟨by simp, .inl ⟨_, _, rfl, run_takeDeferred HK3.out, ?_⟩⟩
    refine ⟨.bool true, ?_, by rw [hyes.out], hT2.out⟩
    simp [results, Tryz.f54, go_sem, hc5]
  case stop =>
    rintro D c' pre W hD ⟨rest, hpre⟩ ⟨rfl, h2, h3, h4⟩ hK
    have hno : Hid (Ros.may r = false) := Lib.hid (decide_eq_false fun h => h2 (Ros.good_front (m := rest) (by rw [← hpre]; exact h.2)))
    have hDw : w.heap.size ≤ D := Nat.le_trans MM0.out.below.size hD
    have hT := h3.turned (grownBy_putObj' _ D (.deferred none)) (fun r e => by cases e; exact ⟨_, hK, rfl⟩)
    have hT2 := Lib.hid (Below.turned h4 (Nat.le_refl _) (grownBy_putObj' _ D (.deferred none)) (fun r e => by cases e; exact hDw))
    have hc5 : (W.putObj D (.deferred none)).cell? ⟨w.heap.size + 1, 0, none⟩ = some (.bool false) := hT.cell 0
    have HK3 := Lib.hid hK
    clear h2 h3 h4 hK hpre hT
    refine wpIn_ret ?_
    refine ⟨by simp, .inl ⟨_, _, rfl, run_takeDeferred HK3.out, ?_⟩⟩
    refine ⟨.bool false, ?_, by rw [hno.out], hT2.out⟩
    simp [results, Tryz.f54, go_sem, hc5]
end Go.Proofs.YtiahpncglpfjeaaGreat
namespace Go.Proofs.YtiahpncglpfjeaaGreat
open Go.RowKit Go.Shelf
set_option linter.unusedVariables false

section
variable {P : Program} {ops : Array Oper} {rest : List Oper} {o : Oper} {a : Act} {w : World} {Q : Exit → Act → World → Prop} {dst : Option Tmp} {p v : Value} {t : TypeId} {d : TypeDesc} {x y : Operand}
/-- What the load of a whole block wants. -/
def LoadRow (P : Program) (ops : Array Oper) (Q : Exit → Act → World → Prop) (rest : List Oper) (dst : Option Tmp) (p : Value) (t : TypeId) (a : Act) (w : World) : Prop :=
  ∃ (B : Nat) (cs : Array Value), p = .pointer (some ⟨B, 0, none⟩) ∧ Box w B t cs ∧ (P.info? t).map (·.size) = some cs.size ∧ wpList P ops Q rest (a.put dst (.agg cs)) w
theorem LoadRow.mk {B : Nat} {cs : Array Value} (hp : p = .pointer (some ⟨B, 0, none⟩)) (hB : Box w B t cs) (hi : (P.info? t).map (·.size) = some cs.size) (h : wpList P ops Q rest (a.put dst (.agg cs)) w) : LoadRow P ops Q rest dst p t a w := ⟨B, cs, hp, hB, hi, h⟩
theorem row_load (hgd : o.guard = none) (ho : o.op = .load t x) (hu : P.underlying t = some d) (hd : d.isRow = true) (h : LoadRow P ops Q rest o.dst (a.eval x) t a w) : wpList P ops Q (o :: rest) a w := by
  obtain ⟨B, cs, hx, hB, hi, h⟩ := h
  exact wpList_load_blk hgd ho hx hB hu hd hi h
theorem row_load_g (hw : Region.wanted o (yielded ops a.tmps) = true) (ho : o.op = .load t x) (hu : P.underlying t = some d) (hd : d.isRow = true) (h : LoadRow P ops Q rest o.dst (a.eval x) t a w) : wpList P ops Q (o :: rest) a w := by
  obtain ⟨B, ⟨l⟩, hx, hB, hi, h⟩ := h
  exact wpList_load_part_g hw ho (f := 0) hx hB l (fun j v hv => by rw [Nat.zero_add]; simpa using hv) hu hd (by simpa using hi) h
/-- What the store of a whole block wants. -/
def StoreRow (P : Program) (ops : Array Oper) (Q : Exit → Act → World → Prop) (rest : List Oper) (dst : Option Tmp) (p v : Value) (t : TypeId) (a : Act) (w : World) : Prop :=
  ∃ (B : Nat) (cs old : Array Value), p = .pointer (some ⟨B, 0, none⟩) ∧ v = .agg cs ∧ Box w B t old ∧ (P.info? t).map (·.size) = some cs.size ∧ old.size = cs.size ∧ cs.all (·.oneCell') = true ∧ wpList P ops Q rest (a.put dst undef) (w.setRow B cs)
theorem StoreRow.mk {B : Nat} {cs old : Array Value} (hp : p = .pointer (some ⟨B, 0, none⟩)) (hv : v = .agg cs) (hB : Box w B t old) (hi : (P.info? t).map (·.size) = some cs.size) (hs : old.size = cs.size) (h1 : cs.all (·.oneCell') = true) (h : wpList P ops Q rest (a.put dst undef) (w.setRow B cs)) : StoreRow P ops Q rest dst p v t a w := ⟨B, cs, old, hp, hv, hB, hi, hs, h1, h⟩
theorem row_store (hgd : o.guard = none) (ho : o.op = .store t x y) (h : StoreRow P ops Q rest o.dst (a.eval x) (a.eval y) t a w) : wpList P ops Q (o :: rest) a w := by
  obtain ⟨B, cs, old, hx, hy, hB, hi, hs, h1, h⟩ := h
  exact wpList_store_blk hgd ho hx hy hB hi hs h1 h
end

theorem ros_info : (Tryz.prog.info? 33).map (·.size) = some 17 := by kernel_rfl
theorem ros_one (r : Ros.R) : (Ros.cells r).all (·.oneCell') = true := by
  refine Array.all_eq_true_iff_forall_mem.2 fun v hv => ?_
  obtain ⟨n, rfl⟩ := Ros.cells_ints r v (by simpa using hv)
  rfl
def rosZero : Ros.R := ⟨0, fun _ => 0, fun _ => 0⟩
theorem ros_zero : (Tryz.prog.info? 33).map (·.zero) = some (some (.agg (Ros.cells rosZero))) := by kernel_rfl
section
variable {ops : Array Oper} {rest : List Oper} {o : Oper} {a : Act} {w : World} {Q : Exit → Act → World → Prop}
theorem ros_alloc (hgd : o.guard = none) (ho : o.op = .alloc 33)
    (h : wpList Tryz.prog ops Q rest (a.put o.dst (.pointer (some ⟨w.heap.size, 0, none⟩))) (w.alloc (.cells (Ros.cells rosZero) 33))) : wpList Tryz.prog ops Q (o :: rest) a w :=
  wpList_alloc_z hgd ho ros_zero rfl h
theorem ros_store_new {x y : Operand} {v : World} {old : Array Value} {r : Ros.R} (hgd : o.guard = none) (ho : o.op = .store 33 x y) (hx : a.eval x = .pointer (some ⟨v.heap.size, 0, none⟩)) (hy : a.eval y = .agg (Ros.cells r))
    (hold : old.size = 17) (h : wpList Tryz.prog ops Q rest (a.put o.dst undef) (v.alloc (.cells (Ros.cells r) 33))) : wpList Tryz.prog ops Q (o :: rest) a (v.alloc (.cells old 33)) :=
  wpList_store_new hgd ho hx hy rfl rfl ros_info hold (ros_one _) h
end

theorem ros_load {ops : Array Oper} {rest : List Oper} {o : Oper} {a : Act} {w : World} {Q : Exit → Act → World → Prop} {x : Operand} (hgd : o.guard = none) (ho : o.op = .load 33 x) (h : LoadRow Tryz.prog ops Q rest o.dst (a.eval x) 33 a w) : wpList Tryz.prog ops Q (o :: rest) a w :=
  row_load hgd ho Tryz.underlying33 rfl h
theorem ros_load_g {ops : Array Oper} {rest : List Oper} {o : Oper} {a : Act} {w : World} {Q : Exit → Act → World → Prop} {x : Operand} (hw : Region.wanted o (yielded ops a.tmps) = true) (ho : o.op = .load 33 x) (h : LoadRow Tryz.prog ops Q rest o.dst (a.eval x) 33 a w) : wpList Tryz.prog ops Q (o :: rest) a w :=
  row_load_g hw ho Tryz.underlying33 rfl h
theorem ros_store {ops : Array Oper} {rest : List Oper} {o : Oper} {a : Act} {w : World} {Q : Exit → Act → World → Prop} {x y : Operand} (hgd : o.guard = none) (ho : o.op = .store 33 x y) (h : StoreRow Tryz.prog ops Q rest o.dst (a.eval x) (a.eval y) 33 a w) : wpList Tryz.prog ops Q (o :: rest) a w :=
  row_store hgd ho h

/-- What a going over of the seats knows. -/
structure Sit (B Bg : Nat) (w0 : World) (r : Ros.R) (W : World) : Prop where
  ros : Box W B 33 (Ros.cells r)
  sit : Box W Bg 95 #[.pointer (some ⟨B, 0, none⟩)]
  below : Below w0.heap.size w0 W
section
variable {B Bg : Nat} {w0 W W' : World} {r : Ros.R}
theorem Sit.turned {row : Option Nat} (h : Sit B Bg w0 r W) (hg : W.grownBy W' row) (hr : ∀ r, row = some r → w0.heap.size ≤ r ∧ ∃ o : Obj, W.heap[r]? = some o ∧ o.isCells = false) : Sit B Bg w0 r W' :=
  ⟨h.ros.turned hg fun r e => (hr r e).2, h.sit.turned hg fun r e => (hr r e).2, Below.turned h.below (Nat.le_refl _) hg fun r e => (hr r e).1⟩
theorem Sit.call (h : Sit B Bg w0 r W) (hb : Below W.heap.size W W') : Sit B Bg w0 r W' :=
  ⟨h.ros.below hb h.ros.lt, h.sit.below hb h.sit.lt, h.below.trans (hb.mono h.below.size)⟩
theorem Sit.drew (h : Sit B Bg w0 r W) : Sit B Bg w0 r W.drew := ⟨h.ros.drew, h.sit.drew, Below.drew h.below⟩
theorem Sit.far {p : Addr} {v : Value} {t : TypeId} {cs : Array Value} (h : Sit B Bg w0 r W) (hp : Box W p.block t cs) (h1 : 33 ≠ t) (h2 : 95 ≠ t) (hl : w0.heap.size ≤ p.block) : Sit B Bg w0 r (W.setCell p v) :=
  ⟨h.ros.far (fun e => Box.apart h.ros hp h1 e) _, h.sit.far (fun e => Box.apart h.sit hp h2 e) _, h.below.setCell hl _⟩
end
end Go.Proofs.YtiahpncglpfjeaaGreat
namespace Go.Proofs.YtiahpncglpfjeaaGreat
open Go.RowKit
set_option linter.unusedVariables false

theorem seat_in (a b c d : Int) (w : World) : (Op.equalIn 9998 30 (.agg #[.int .i64 a, .int .i64 b]) (.agg #[.int .i64 c, .int .i64 d])).run Tryz.prog w = .ok (a == c && b == d) w := by
  by_cases h1 : a = c
  · by_cases h2 : b = d
    · subst h1 h2; go_simp <;> simp
    · have h3 : (b == d) = false := by simpa using h2
      subst h1; go_simp <;> simp [h3, h2]
  · have h3 : (a == c) = false := by simpa using h1
    go_simp <;> simp [h3, h1]
theorem seat2_info : (Tryz.prog.info? 30).map (·.size) = some 2 := by kernel_rfl
theorem seatCells_list (r : Ros.R) (i : Nat) (hi : i < 8) : ((Ros.seatCells r).drop (i * 2)).take 2 = Ros.pair r i := by
  match i, hi with
  | 0, _ | 1, _ | 2, _ | 3, _ | 4, _ | 5, _ | 6, _ | 7, _ => rfl
theorem seat_part (r : Ros.R) (i : Nat) (hi : i < 8) (w : World) : (part 30 (Ros.seatCells r).toArray (i * 2)).run Tryz.prog w = .ok (.agg (Ros.pair r i).toArray) w := by
  have h := seatCells_list r i hi
  cases hq : Tryz.prog.info? 30 with
  | none => have := seat2_info; simp [hq] at this
  | some j =>
    have hs : j.size = 2 := by have := seat2_info; simpa [hq] using this
    simp [part, isAgg, sizeOf, typeInfo, hq, hs, run_underlying (Tryz.underlying30) w, h]
end Go.Proofs.YtiahpncglpfjeaaGreat
