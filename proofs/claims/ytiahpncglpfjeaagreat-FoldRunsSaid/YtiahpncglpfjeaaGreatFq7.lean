/-
Several texts in one: Ih Ii Ij Hm Hn He Ho Hq Hr.
-/
import Derived.Test.YtiahpncglpfjeaaGreatFq6
namespace Go.Proofs.YtiahpncglpfjeaaGreat
open Go.RowKit
set_option linter.unusedVariables false
set_option linter.unusedSimpArgs false

def Gm.inB (a : Int) : Bool := decide (Gf.wrap a = a)
theorem Gm.inB_iff {a : Int} : Gm.inB a = true ↔ Gm.inF a := by unfold Gm.inB Gm.inF Gf.wrap; simp; omega
def Gm.slowB (a m : Int) : Bool := decide (Fx.clamp a (-m) m = a)
theorem Gm.slowB_iff {a m : Int} (hm : 0 ≤ m) : Gm.slowB a m = true ↔ Gm.slow a m := by unfold Gm.slowB Gm.slow Fx.clamp; simp; omega

set_option maxHeartbeats 1000000 in
theorem there_any (x y : Int) (wx : -2147483648 ≤ x ∧ x ≤ 2147483647) (wy : -2147483648 ≤ y ∧ y ≤ 2147483647) (w : World) :
    Calls Tryz.prog 87 #[.int .i32 x, .int .i32 y] w fun e w' => e = .returned (.bool (Gm.inB x && Gm.inB y)) ∧ Below w.heap.size w w' := by
  have c1 := fun X => Lib.hid (fldwrap_any x wx X)
  have c2 := fun X => Lib.hid (fldwrap_any y wy X)
  have hx : Hid (Gm.inB x = decide (Gf.wrap x = x)) := Lib.hid rfl
  have hy : Hid (Gm.inB y = decide (Gf.wrap y = y)) := Lib.hid rfl
  generalize Gf.wrap x = X at *
  generalize Gf.wrap y = Y at *
  by_cases h1 : X = x
  · have b1 : (X == x) = true := by simpa using h1
    by_cases h2 : Y = y
    · have b2 : (Y == y) = true := by simpa using h2
      have HE := Lib.hid (show (Gm.inB x && Gm.inB y) = true by rw [hx.out, hy.out]; simp [h1, h2])
      clear h1 h2
      go_enter Tryz.func87, Tryz.ntmps87
      go_wp2_with (go_at_call 121; first | ((with_reducible refine ((c1 _).out).mono ?_); rintro e w1 ⟨rfl, hb1⟩; clear c1) | ((with_reducible refine ((c2 _).out).mono ?_); rintro e w2 ⟨rfl, hb2⟩))
      go_ret
      exact ⟨ret_bool HE.out.symm, hb1.trans (hb2.mono hb1.size)⟩
    · have b2 : (Y == y) = false := by simpa using h2
      have HE := Lib.hid (show (Gm.inB x && Gm.inB y) = false by rw [hx.out, hy.out]; simp [h1, h2])
      clear h1 h2
      go_enter Tryz.func87, Tryz.ntmps87
      go_wp2_with (go_at_call 121; first | ((with_reducible refine ((c1 _).out).mono ?_); rintro e w1 ⟨rfl, hb1⟩; clear c1) | ((with_reducible refine ((c2 _).out).mono ?_); rintro e w2 ⟨rfl, hb2⟩))
      go_ret
      exact ⟨ret_bool HE.out.symm, hb1.trans (hb2.mono hb1.size)⟩
  · have b1 : (X == x) = false := by simpa using h1
    have HE := Lib.hid (show (Gm.inB x && Gm.inB y) = false by rw [hx.out]; simp [h1])
    clear h1
    go_enter Tryz.func87, Tryz.ntmps87
    go_wp2_with (go_at_call 121; first | ((with_reducible refine ((c1 _).out).mono ?_); rintro e w1 ⟨rfl, hb1⟩; clear c1) | ((with_reducible refine ((c2 _).out).mono ?_); rintro e w2 ⟨rfl, hb2⟩))
    go_ret
    exact ⟨ret_bool HE.out.symm, hb1⟩

set_option maxHeartbeats 1000000 in
theorem within_any (x y m : Int) (hm : 0 ≤ m ∧ m ≤ 1000000) (wx : -2147483648 ≤ x ∧ x ≤ 2147483647) (wy : -2147483648 ≤ y ∧ y ≤ 2147483647) (w : World) :
    Calls Tryz.prog 88 #[.int .i32 x, .int .i32 y, .int .i32 m] w fun e w' => e = .returned (.bool (Gm.slowB x m && Gm.slowB y m)) ∧ Below w.heap.size w w' := by
  have c1 := fun X => Lib.hid (clamp_any x (-m) m wx (by omega) (by omega) X)
  have c2 := fun X => Lib.hid (clamp_any y (-m) m wy (by omega) (by omega) X)
  have hx : Hid (Gm.slowB x m = decide (Fx.clamp x (-m) m = x)) := Lib.hid rfl
  have hy : Hid (Gm.slowB y m = decide (Fx.clamp y (-m) m = y)) := Lib.hid rfl
  have hng : IntKind.i32.wrap (-m) = -m := by rw [IntKind.wrap_i32]; omega
  generalize Fx.clamp x (-m) m = X at *
  generalize Fx.clamp y (-m) m = Y at *
  by_cases h1 : X = x
  · have b1 : (X == x) = true := by simpa using h1
    by_cases h2 : Y = y
    · have b2 : (Y == y) = true := by simpa using h2
      have HE := Lib.hid (show (Gm.slowB x m && Gm.slowB y m) = true by rw [hx.out, hy.out]; simp [h1, h2])
      clear h1 h2
      go_enter Tryz.func88, Tryz.ntmps88
      go_wp2_with (go_at_call 122; first | ((with_reducible refine ((c1 _).out).mono ?_); rintro e w1 ⟨rfl, hb1⟩; clear c1) | ((with_reducible refine ((c2 _).out).mono ?_); rintro e w2 ⟨rfl, hb2⟩))
      go_ret
      exact ⟨ret_bool HE.out.symm, hb1.trans (hb2.mono hb1.size)⟩
    · have b2 : (Y == y) = false := by simpa using h2
      have HE := Lib.hid (show (Gm.slowB x m && Gm.slowB y m) = false by rw [hx.out, hy.out]; simp [h1, h2])
      clear h1 h2
      go_enter Tryz.func88, Tryz.ntmps88
      go_wp2_with (go_at_call 122; first | ((with_reducible refine ((c1 _).out).mono ?_); rintro e w1 ⟨rfl, hb1⟩; clear c1) | ((with_reducible refine ((c2 _).out).mono ?_); rintro e w2 ⟨rfl, hb2⟩))
      go_ret
      exact ⟨ret_bool HE.out.symm, hb1.trans (hb2.mono hb1.size)⟩
  · have b1 : (X == x) = false := by simpa using h1
    have HE := Lib.hid (show (Gm.slowB x m && Gm.slowB y m) = false by rw [hx.out]; simp [h1])
    clear h1
    go_enter Tryz.func88, Tryz.ntmps88
    go_wp2_with (go_at_call 122; first | ((with_reducible refine ((c1 _).out).mono ?_); rintro e w1 ⟨rfl, hb1⟩; clear c1) | ((with_reducible refine ((c2 _).out).mono ?_); rintro e w2 ⟨rfl, hb2⟩))
    go_ret
    exact ⟨ret_bool HE.out.symm, hb1⟩

set_option maxRecDepth 100000 in
set_option maxHeartbeats 2000000 in
theorem mayship_not (x y vx vy cool score : Int) (h : ¬ Gm.okShip ⟨true, x, y, vx, vy, cool, score⟩) (ty : Gm.tyShip ⟨true, x, y, vx, vy, cool, score⟩) (w : World) :
    Calls Tryz.prog 51 #[.agg #[.bool true, .int .i32 x, .int .i32 y, .int .i32 vx, .int .i32 vy, .int .i64 cool, .int .i64 score]] w fun e w' => e = .returned (.bool false) ∧ Below w.heap.size w w' := by
  obtain ⟨wx, wy, wvx, wvy, wc, ws⟩ := ty
  dsimp only at wx wy wvx wvy wc ws
  have c1 := fun X => Lib.hid (there_any x y wx wy X)
  have c2 := fun X => Lib.hid (within_any vx vy 524288 (by omega) wvx wvy X)
  have hno : Hid (¬ ((Gm.inB x && Gm.inB y) = true ∧ (Gm.slowB vx 524288 && Gm.slowB vy 524288) = true ∧ 0 ≤ cool ∧ cool ≤ 10 ∧ 0 ≤ score ∧ score ≤ 1073741824)) := Lib.hid fun hh => h (by
    obtain ⟨h1, h2, h3, h4, h5, h6⟩ := hh
    rw [Bool.and_eq_true, Gm.inB_iff, Gm.inB_iff] at h1
    rw [Bool.and_eq_true, Gm.slowB_iff (by decide), Gm.slowB_iff (by decide)] at h2
    exact ⟨.inl rfl, h1.1, h1.2, h2.1, h2.2, h3, h4, h5, h6⟩)
  clear h
  generalize (Gm.inB x && Gm.inB y) = T at *
  generalize (Gm.slowB vx 524288 && Gm.slowB vy 524288) = V at *
  cases T
  · clear hno
    go_enter Tryz.func51, Tryz.ntmps51
    go_wp2_with (first | (go_at_call 87; ((with_reducible refine ((c1 _).out).mono ?_); rintro e w1 ⟨rfl, hb⟩; have B1 := (Box.made w 24 #[.bool true, .int .i32 x, .int .i32 y, .int .i32 vx, .int .i32 vy, .int .i64 cool, .int .i64 score]).below hb (by simp); have K1 := B1.cell; have Y1 := Lib.hid ((one_below w (.cells #[.bool true, .int .i32 x, .int .i32 y, .int .i32 vx, .int .i32 vy, .int .i64 cool, .int .i64 score] 24)).trans (hb.mono (by simp))); clear hb)) | (go_at_call 88; ((with_reducible refine ((c2 _).out).mono ?_); rintro e w2 ⟨rfl, hb⟩; have B2 := B1.below hb B1.lt; have K2 := B2.cell; have Y2 := Lib.hid (Y1.out.trans (hb.mono Y1.out.size)); clear K1 hb)))
    go_ret
    exact ⟨rfl, Y1.out⟩
  cases V
  · clear hno
    go_enter Tryz.func51, Tryz.ntmps51
    go_wp2_with (first | (go_at_call 87; ((with_reducible refine ((c1 _).out).mono ?_); rintro e w1 ⟨rfl, hb⟩; have B1 := (Box.made w 24 #[.bool true, .int .i32 x, .int .i32 y, .int .i32 vx, .int .i32 vy, .int .i64 cool, .int .i64 score]).below hb (by simp); have K1 := B1.cell; have Y1 := Lib.hid ((one_below w (.cells #[.bool true, .int .i32 x, .int .i32 y, .int .i32 vx, .int .i32 vy, .int .i64 cool, .int .i64 score] 24)).trans (hb.mono (by simp))); clear hb)) | (go_at_call 88; ((with_reducible refine ((c2 _).out).mono ?_); rintro e w2 ⟨rfl, hb⟩; have B2 := B1.below hb B1.lt; have K2 := B2.cell; have Y2 := Lib.hid (Y1.out.trans (hb.mono Y1.out.size)); clear K1 hb)))
    go_ret
    exact ⟨rfl, Y2.out⟩
  by_cases d0 : 0 ≤ cool
  rotate_left
  · have e0 : decide (0 ≤ cool) = false := decide_eq_false d0
    clear hno
    go_enter Tryz.func51, Tryz.ntmps51
    go_wp2_with (first | (go_at_call 87; ((with_reducible refine ((c1 _).out).mono ?_); rintro e w1 ⟨rfl, hb⟩; have B1 := (Box.made w 24 #[.bool true, .int .i32 x, .int .i32 y, .int .i32 vx, .int .i32 vy, .int .i64 cool, .int .i64 score]).below hb (by simp); have K1 := B1.cell; have Y1 := Lib.hid ((one_below w (.cells #[.bool true, .int .i32 x, .int .i32 y, .int .i32 vx, .int .i32 vy, .int .i64 cool, .int .i64 score] 24)).trans (hb.mono (by simp))); clear hb)) | (go_at_call 88; ((with_reducible refine ((c2 _).out).mono ?_); rintro e w2 ⟨rfl, hb⟩; have B2 := B1.below hb B1.lt; have K2 := B2.cell; have Y2 := Lib.hid (Y1.out.trans (hb.mono Y1.out.size)); clear K1 hb)))
    go_ret
    exact ⟨rfl, Y2.out⟩
  have e0 : decide (0 ≤ cool) = true := decide_eq_true d0
  by_cases d1 : cool ≤ 10
  rotate_left
  · have e1 : decide (cool ≤ 10) = false := decide_eq_false d1
    clear hno
    go_enter Tryz.func51, Tryz.ntmps51
    go_wp2_with (first | (go_at_call 87; ((with_reducible refine ((c1 _).out).mono ?_); rintro e w1 ⟨rfl, hb⟩; have B1 := (Box.made w 24 #[.bool true, .int .i32 x, .int .i32 y, .int .i32 vx, .int .i32 vy, .int .i64 cool, .int .i64 score]).below hb (by simp); have K1 := B1.cell; have Y1 := Lib.hid ((one_below w (.cells #[.bool true, .int .i32 x, .int .i32 y, .int .i32 vx, .int .i32 vy, .int .i64 cool, .int .i64 score] 24)).trans (hb.mono (by simp))); clear hb)) | (go_at_call 88; ((with_reducible refine ((c2 _).out).mono ?_); rintro e w2 ⟨rfl, hb⟩; have B2 := B1.below hb B1.lt; have K2 := B2.cell; have Y2 := Lib.hid (Y1.out.trans (hb.mono Y1.out.size)); clear K1 hb)))
    go_ret
    exact ⟨rfl, Y2.out⟩
  have e1 : decide (cool ≤ 10) = true := decide_eq_true d1
  by_cases d2 : 0 ≤ score
  rotate_left
  · have e2 : decide (0 ≤ score) = false := decide_eq_false d2
    clear hno
    go_enter Tryz.func51, Tryz.ntmps51
    go_wp2_with (first | (go_at_call 87; ((with_reducible refine ((c1 _).out).mono ?_); rintro e w1 ⟨rfl, hb⟩; have B1 := (Box.made w 24 #[.bool true, .int .i32 x, .int .i32 y, .int .i32 vx, .int .i32 vy, .int .i64 cool, .int .i64 score]).below hb (by simp); have K1 := B1.cell; have Y1 := Lib.hid ((one_below w (.cells #[.bool true, .int .i32 x, .int .i32 y, .int .i32 vx, .int .i32 vy, .int .i64 cool, .int .i64 score] 24)).trans (hb.mono (by simp))); clear hb)) | (go_at_call 88; ((with_reducible refine ((c2 _).out).mono ?_); rintro e w2 ⟨rfl, hb⟩; have B2 := B1.below hb B1.lt; have K2 := B2.cell; have Y2 := Lib.hid (Y1.out.trans (hb.mono Y1.out.size)); clear K1 hb)))
    go_ret
    exact ⟨rfl, Y2.out⟩
  have e2 : decide (0 ≤ score) = true := decide_eq_true d2
  have e3 : decide (score ≤ 1073741824) = false := decide_eq_false fun h => hno.out ⟨rfl, rfl, d0, d1, d2, h⟩
  clear hno d0 d1 d2
  go_enter Tryz.func51, Tryz.ntmps51
  go_wp2_with (first | (go_at_call 87; ((with_reducible refine ((c1 _).out).mono ?_); rintro e w1 ⟨rfl, hb⟩; have B1 := (Box.made w 24 #[.bool true, .int .i32 x, .int .i32 y, .int .i32 vx, .int .i32 vy, .int .i64 cool, .int .i64 score]).below hb (by simp); have K1 := B1.cell; have Y1 := Lib.hid ((one_below w (.cells #[.bool true, .int .i32 x, .int .i32 y, .int .i32 vx, .int .i32 vy, .int .i64 cool, .int .i64 score] 24)).trans (hb.mono (by simp))); clear hb)) | (go_at_call 88; ((with_reducible refine ((c2 _).out).mono ?_); rintro e w2 ⟨rfl, hb⟩; have B2 := B1.below hb B1.lt; have K2 := B2.cell; have Y2 := Lib.hid (Y1.out.trans (hb.mono Y1.out.size)); clear K1 hb)))
  go_ret
  exact ⟨rfl, Y2.out⟩

set_option maxHeartbeats 1000000 in
theorem ship_eq' (s t : Gm.Ship) (w : World) : (Op.equalIn 10000 24 (.agg s.cells.toArray) (.agg t.cells.toArray)).run Tryz.prog w = .ok (s.eqB t) w := by
  obtain ⟨a1, a2, a3, a4, a5, a6, a7⟩ := s
  obtain ⟨b1, b2, b3, b4, b5, b6, b7⟩ := t
  have h := ifs7 w (a1 == b1) (a2 == b2) (a3 == b3) (a4 == b4) (a5 == b5) (a6 == b6) (a7 == b7)
  simp only [beq_iff_eq] at h
  simp only [Gm.Ship.cells]
  go_simp
  rfl
theorem ship_eql (s t : Gm.Ship) (w : World) : (binOp .eql 24 (.agg s.cells.toArray) (.agg t.cells.toArray)).run Tryz.prog w = .ok (.bool (s.eqB t)) w := by
  simp only [binOp]
  simp [Op.equal, Op.maxDepth, ship_eq']
set_option maxRecDepth 100000 in
set_option maxHeartbeats 2000000 in
theorem mayship_off (x y vx vy cool score : Int) (h : ¬ Gm.okShip ⟨false, x, y, vx, vy, cool, score⟩) (w : World) :
    Calls Tryz.prog 51 #[.agg #[.bool false, .int .i32 x, .int .i32 y, .int .i32 vx, .int .i32 vy, .int .i64 cool, .int .i64 score]] w fun e w' => e = .returned (.bool false) ∧ Below w.heap.size w w' := by
  have hne : (⟨false, x, y, vx, vy, cool, score⟩ : Gm.Ship) ≠ Gm.Ship.none := fun e => h (by
    rw [e]
    refine ⟨.inr rfl, ?_, ?_, ?_, ?_, ?_, ?_, ?_, ?_⟩ <;> simp [Gm.Ship.none, Gm.inF, Gm.slow])
  have he := fun W => ship_eql ⟨false, x, y, vx, vy, cool, score⟩ Gm.Ship.none W
  rw [show (⟨false, x, y, vx, vy, cool, score⟩ : Gm.Ship).eqB Gm.Ship.none = false by
    cases hq : (⟨false, x, y, vx, vy, cool, score⟩ : Gm.Ship).eqB Gm.Ship.none
    · rfl
    · exact absurd (Gm.Ship.eqB_iff.1 hq) hne] at he
  simp only [Gm.Ship.cells, Gm.Ship.none] at he
  clear h hne
  go_enter Tryz.func51, Tryz.ntmps51
  go_wp2
  go_ret
  exact ⟨rfl, one_below _ _⟩
theorem mayship_bad (s : Gm.Ship) (h : ¬ Gm.okShip s) (ty : Gm.tyShip s) (w : World) :
    Calls Tryz.prog 51 #[.agg s.cells.toArray] w fun e w' => e = .returned (.bool false) ∧ Below w.heap.size w w' := by
  obtain ⟨on, x, y, vx, vy, cool, score⟩ := s
  cases on
  · exact mayship_off x y vx vy cool score h w
  · exact mayship_not x y vx vy cool score h ty w

set_option maxRecDepth 100000 in
set_option maxHeartbeats 2000000 in
theorem mayshot_not (owner x y vx vy left : Int) (h : ¬ Gm.okShot ⟨owner, x, y, vx, vy, left⟩) (ty : Gm.tyShot ⟨owner, x, y, vx, vy, left⟩) (w : World) :
    Calls Tryz.prog 53 #[.agg #[.int .i64 owner, .int .i32 x, .int .i32 y, .int .i32 vx, .int .i32 vy, .int .i64 left]] w fun e w' => e = .returned (.bool false) ∧ Below w.heap.size w w' := by
  obtain ⟨wo, wx, wy, wvx, wvy, wl⟩ := ty
  dsimp only at wo wx wy wvx wvy wl
  have c0 := fun X => Lib.hid (isslot_any owner wo X)
  have c1 := fun X => Lib.hid (there_any x y wx wy X)
  have c2 := fun X => Lib.hid (within_any vx vy 393216 (by omega) wvx wvy X)
  have hno : Hid (¬ ((decide (0 ≤ owner) && decide (owner < 8)) = true ∧ (Gm.inB x && Gm.inB y) = true ∧ (Gm.slowB vx 393216 && Gm.slowB vy 393216) = true ∧ 1 ≤ left ∧ left ≤ 24)) := Lib.hid fun hh => h (by
    obtain ⟨h0, h1, h2, h3, h4⟩ := hh
    rw [Bool.and_eq_true, Gm.inB_iff, Gm.inB_iff] at h1
    rw [Bool.and_eq_true, Gm.slowB_iff (by decide), Gm.slowB_iff (by decide)] at h2
    simp only [Bool.and_eq_true, decide_eq_true_eq] at h0
    exact ⟨h0.1, h0.2, h1.1, h1.2, h2.1, h2.2, h3, h4⟩)
  clear h
  generalize (decide (0 ≤ owner) && decide (owner < 8)) = O at *
  generalize (Gm.inB x && Gm.inB y) = T at *
  generalize (Gm.slowB vx 393216 && Gm.slowB vy 393216) = V at *
  cases O
  · clear hno
    go_enter Tryz.func53, Tryz.ntmps53
    go_wp2_with (first | (go_at_call 91; ((with_reducible refine ((c0 _).out).mono ?_); rintro e w0 ⟨rfl, rfl⟩)) | (go_at_call 87; ((with_reducible refine ((c1 _).out).mono ?_); rintro e w1 ⟨rfl, hb⟩; have B1 := (Box.made w 90 #[.int .i64 owner, .int .i32 x, .int .i32 y, .int .i32 vx, .int .i32 vy, .int .i64 left]).below hb (by simp); have K1 := B1.cell; have Y1 := Lib.hid ((one_below w (.cells #[.int .i64 owner, .int .i32 x, .int .i32 y, .int .i32 vx, .int .i32 vy, .int .i64 left] 90)).trans (hb.mono (by simp))); clear hb)) | (go_at_call 88; ((with_reducible refine ((c2 _).out).mono ?_); rintro e w2 ⟨rfl, hb⟩; have B2 := B1.below hb B1.lt; have K2 := B2.cell; have Y2 := Lib.hid (Y1.out.trans (hb.mono Y1.out.size)); clear K1 hb)))
    go_ret
    exact ⟨rfl, one_below _ _⟩
  cases T
  · clear hno
    go_enter Tryz.func53, Tryz.ntmps53
    go_wp2_with (first | (go_at_call 91; ((with_reducible refine ((c0 _).out).mono ?_); rintro e w0 ⟨rfl, rfl⟩)) | (go_at_call 87; ((with_reducible refine ((c1 _).out).mono ?_); rintro e w1 ⟨rfl, hb⟩; have B1 := (Box.made w 90 #[.int .i64 owner, .int .i32 x, .int .i32 y, .int .i32 vx, .int .i32 vy, .int .i64 left]).below hb (by simp); have K1 := B1.cell; have Y1 := Lib.hid ((one_below w (.cells #[.int .i64 owner, .int .i32 x, .int .i32 y, .int .i32 vx, .int .i32 vy, .int .i64 left] 90)).trans (hb.mono (by simp))); clear hb)) | (go_at_call 88; ((with_reducible refine ((c2 _).out).mono ?_); rintro e w2 ⟨rfl, hb⟩; have B2 := B1.below hb B1.lt; have K2 := B2.cell; have Y2 := Lib.hid (Y1.out.trans (hb.mono Y1.out.size)); clear K1 hb)))
    go_ret
    exact ⟨rfl, Y1.out⟩
  cases V
  · clear hno
    go_enter Tryz.func53, Tryz.ntmps53
    go_wp2_with (first | (go_at_call 91; ((with_reducible refine ((c0 _).out).mono ?_); rintro e w0 ⟨rfl, rfl⟩)) | (go_at_call 87; ((with_reducible refine ((c1 _).out).mono ?_); rintro e w1 ⟨rfl, hb⟩; have B1 := (Box.made w 90 #[.int .i64 owner, .int .i32 x, .int .i32 y, .int .i32 vx, .int .i32 vy, .int .i64 left]).below hb (by simp); have K1 := B1.cell; have Y1 := Lib.hid ((one_below w (.cells #[.int .i64 owner, .int .i32 x, .int .i32 y, .int .i32 vx, .int .i32 vy, .int .i64 left] 90)).trans (hb.mono (by simp))); clear hb)) | (go_at_call 88; ((with_reducible refine ((c2 _).out).mono ?_); rintro e w2 ⟨rfl, hb⟩; have B2 := B1.below hb B1.lt; have K2 := B2.cell; have Y2 := Lib.hid (Y1.out.trans (hb.mono Y1.out.size)); clear K1 hb)))
    go_ret
    exact ⟨rfl, Y2.out⟩
  by_cases d0 : 1 ≤ left
  rotate_left
  · have e0 : decide (1 ≤ left) = false := decide_eq_false d0
    clear hno
    go_enter Tryz.func53, Tryz.ntmps53
    go_wp2_with (first | (go_at_call 91; ((with_reducible refine ((c0 _).out).mono ?_); rintro e w0 ⟨rfl, rfl⟩)) | (go_at_call 87; ((with_reducible refine ((c1 _).out).mono ?_); rintro e w1 ⟨rfl, hb⟩; have B1 := (Box.made w 90 #[.int .i64 owner, .int .i32 x, .int .i32 y, .int .i32 vx, .int .i32 vy, .int .i64 left]).below hb (by simp); have K1 := B1.cell; have Y1 := Lib.hid ((one_below w (.cells #[.int .i64 owner, .int .i32 x, .int .i32 y, .int .i32 vx, .int .i32 vy, .int .i64 left] 90)).trans (hb.mono (by simp))); clear hb)) | (go_at_call 88; ((with_reducible refine ((c2 _).out).mono ?_); rintro e w2 ⟨rfl, hb⟩; have B2 := B1.below hb B1.lt; have K2 := B2.cell; have Y2 := Lib.hid (Y1.out.trans (hb.mono Y1.out.size)); clear K1 hb)))
    go_ret
    exact ⟨rfl, Y2.out⟩
  have e0 : decide (1 ≤ left) = true := decide_eq_true d0
  have e3 : decide (left ≤ 24) = false := decide_eq_false fun h => hno.out ⟨rfl, rfl, rfl, d0, h⟩
  clear hno d0
  go_enter Tryz.func53, Tryz.ntmps53
  go_wp2_with (first | (go_at_call 91; ((with_reducible refine ((c0 _).out).mono ?_); rintro e w0 ⟨rfl, rfl⟩)) | (go_at_call 87; ((with_reducible refine ((c1 _).out).mono ?_); rintro e w1 ⟨rfl, hb⟩; have B1 := (Box.made w 90 #[.int .i64 owner, .int .i32 x, .int .i32 y, .int .i32 vx, .int .i32 vy, .int .i64 left]).below hb (by simp); have K1 := B1.cell; have Y1 := Lib.hid ((one_below w (.cells #[.int .i64 owner, .int .i32 x, .int .i32 y, .int .i32 vx, .int .i32 vy, .int .i64 left] 90)).trans (hb.mono (by simp))); clear hb)) | (go_at_call 88; ((with_reducible refine ((c2 _).out).mono ?_); rintro e w2 ⟨rfl, hb⟩; have B2 := B1.below hb B1.lt; have K2 := B2.cell; have Y2 := Lib.hid (Y1.out.trans (hb.mono Y1.out.size)); clear K1 hb)))
  go_ret
  exact ⟨rfl, Y2.out⟩
end Go.Proofs.YtiahpncglpfjeaaGreat
namespace Go.Proofs.YtiahpncglpfjeaaGreat
open Go.RowKit
set_option linter.unusedVariables false

set_option maxHeartbeats 1000000 in
theorem allship1_bad (s : Gm.Ship) (h : ¬ Gm.okShip s) (ty : Gm.tyShip s) (Bf : Nat) (w : World) (hf : Box w Bf 87 #[.func (.func 51) #[] #[]]) :
    Calls Tryz.prog 86 #[.agg s.cells.toArray, .pointer (some ⟨Bf, 0, none⟩)] w fun e w' => e = .returned (.bool true) ∧ Below w.heap.size w w' := by
  have c1 := fun X => Lib.hid (mayship_bad s h ty X)
  have hK : ∀ o, (w.alloc o).cell? ⟨Bf, 0, none⟩ = some (.func (.func 51) #[] #[]) := fun o => (hf.alloc o).cell 0
  obtain ⟨on, x, y, vx, vy, cool, score⟩ := s
  simp only [Gm.Ship.cells] at c1 ⊢
  clear h hf ty
  go_enter Tryz.func86, Tryz.ntmps86
  go_wp2_with (go_at_call 51; ((with_reducible refine ((c1 _).out).mono ?_); rintro e w1 ⟨rfl, hb1⟩))
  go_ret
  exact ⟨rfl, (one_below w _).trans (hb1.mono (by simp))⟩

set_option maxRecDepth 100000 in
set_option maxHeartbeats 2000000 in
theorem indexship_bad (f : Nat → Gm.Ship) (A : Option Addr) (c : Nat) (Bf : Nat) (w : World) (hno : ¬ ∀ i (h : i < 8), Gm.okShip (f i)) (hty : ∀ i (h : i < 8), Gm.tyShip (f i)) (hr : Lies w w.heap.size 7 A 8 (Gm.shipCells f)) (hf : Box w Bf 87 #[.func (.func 51) #[] #[]]) :
    Calls Tryz.prog 120 #[.slice A 8 c, .func (.func 86) #[] #[.pointer (some ⟨Bf, 0, none⟩)]] w fun e w' => (∃ k : Nat, e = .returned (.int .i64 k)) ∧ Below w.heap.size w w' := by
  have HNO := Lib.hid hno
  clear hno
  go_enter Tryz.func120, Tryz.ntmps120
  go_wp2
  go_loopw [8] (fun i wr => ∃ k : Nat, k ≤ 8 ∧ i = .int .i64 k ∧ (∀ j (hj : j < k), Gm.okShip (f j)) ∧ Below w.heap.size w wr) (fun i _ => 8 - (intOf i).toNat)
  case atStart => exact ⟨0, by omega, rfl, fun j hj => absurd hj (Nat.not_lt_zero j), Below.refl _ _⟩
  case round =>
    obtain ⟨k, hk, rfl, hall, hb⟩ := hrel
    by_cases hlt : k < 8
    · have hbs := hb.size
      obtain ⟨ad, rfl, hbl, e0, e1, e2, e3, e4, e5, e6⟩ := ships_at (hr.below hb) k hlt
      have cty := hty k hlt
      have hfb := hf.below hb hf.lt
      have hkn : (k : Int) < 8 := by omega
      by_cases ho : Gm.okShip (f k)
      · have hall2 : ∀ j (hj : j < k + 1), Gm.okShip (f j) := fun j hj => by
          by_cases e : j = k
          · subst e; exact ho
          · exact hall j (by omega)
        have cc := fun X hX => Lib.hid (allship1_yes (f k) ho Bf X hX)
        generalize f k = s at e0 e1 e2 e3 e4 e5 e6 ho cc cty
        obtain ⟨on, x, y, vx, vy, cool, score⟩ := s
        dsimp only at e0 e1 e2 e3 e4 e5 e6
        simp only [Gm.Ship.cells] at cc
        have HB := Lib.hid hb
        have HF := Lib.hid hfb
        have HALL := Lib.hid hall2
        clear hr ho hb hf hfb hty cty hall hall2
        go_wp2_with (go_at_call 86; ((with_reducible refine ((cc _ (by first | exact HF.out)).out).mono ?_); rintro e w1 ⟨rfl, hb1⟩))
        go_roundw
        case rel => exact ⟨k + 1, by omega, by go_num, HALL.out, HB.out.trans (hb1.mono HB.out.size)⟩
        case measure => simp [intOf]; omega
      · have cc := fun X hX => Lib.hid (allship1_bad (f k) ho cty Bf X hX)
        generalize f k = s at e0 e1 e2 e3 e4 e5 e6 ho cc cty
        obtain ⟨on, x, y, vx, vy, cool, score⟩ := s
        dsimp only at e0 e1 e2 e3 e4 e5 e6
        simp only [Gm.Ship.cells] at cc
        have HB := Lib.hid hb
        have HF := Lib.hid hfb
        clear hr ho hb hf hfb hty cty hall
        go_wp2_with (go_at_call 86; ((with_reducible refine ((cc _ (by first | exact HF.out)).out).mono ?_); rintro e w1 ⟨rfl, hb1⟩))
        go_ret
        exact ⟨⟨k, rfl⟩, HB.out.trans (hb1.mono HB.out.size)⟩
    · exact absurd (fun i hi => hall i (by omega)) HNO.out

set_option maxHeartbeats 1000000 in
theorem containsship_yes (f : Nat → Gm.Ship) (A : Option Addr) (c : Nat) (Bf : Nat) (w : World) (hno : ¬ ∀ i (h : i < 8), Gm.okShip (f i)) (hty : ∀ i (h : i < 8), Gm.tyShip (f i)) (hr : Lies w w.heap.size 7 A 8 (Gm.shipCells f)) (hf : Box w Bf 87 #[.func (.func 51) #[] #[]]) :
    Calls Tryz.prog 85 #[.slice A 8 c, .func (.func 86) #[] #[.pointer (some ⟨Bf, 0, none⟩)]] w fun e w' => e = .returned (.bool true) ∧ Below w.heap.size w w' := by
  have c1 := Lib.hid (indexship_bad f A c Bf w hno hty hr hf)
  clear hr hf hno hty
  go_enter Tryz.func85, Tryz.ntmps85
  go_wp2_with (go_at_call 120; ((with_reducible refine ((c1).out).mono ?_); rintro e w1 ⟨⟨k, rfl⟩, hb1⟩; have hd : decide (0 ≤ (k : Int)) = true := decide_eq_true (by omega)))
  go_ret
  exact ⟨rfl, hb1⟩

set_option maxHeartbeats 1000000 in
theorem allship_bad (f : Nat → Gm.Ship) (A : Option Addr) (c : Nat) (w : World) (hno : ¬ ∀ i (h : i < 8), Gm.okShip (f i)) (hty : ∀ i (h : i < 8), Gm.tyShip (f i)) (hr : Lies w w.heap.size 7 A 8 (Gm.shipCells f)) :
    Calls Tryz.prog 50 #[.slice A 8 c, .func (.func 51) #[] #[]] w fun e w' => e = .returned (.bool false) ∧ Below w.heap.size w w' := by
  have hmf : ∀ (fn : Fn) (first cap : Array Value) (w : World), (Instr.makeFunc fn first cap).run Tryz.prog w = .ok (.func fn first cap) w := fun _ _ _ _ => rfl
  have hb0 := one_below w (.cells #[.func (.func 51) #[] #[]] 87)
  have c1 := Lib.hid (containsship_yes f A c w.heap.size _ hno hty ((hr.below hb0).wider hb0.size) (Box.made w _ _))
  have hbz := Lib.hid hb0
  clear hr hb0 hno hty
  go_enter Tryz.func50, Tryz.ntmps50
  go_wp2_with (go_at_call 85; ((with_reducible refine ((c1).out).mono ?_); rintro e w1 ⟨rfl, hb1⟩))
  go_ret
  exact ⟨rfl, hbz.out.trans (hb1.mono hbz.out.size)⟩

set_option maxHeartbeats 1000000 in
theorem allshot1_bad (s : Gm.Shot) (h : ¬ Gm.okShot s) (ty : Gm.tyShot s) (Bf : Nat) (w : World) (hf : Box w Bf 91 #[.func (.func 53) #[] #[]]) :
    Calls Tryz.prog 90 #[.agg s.cells.toArray, .pointer (some ⟨Bf, 0, none⟩)] w fun e w' => e = .returned (.bool true) ∧ Below w.heap.size w w' := by
  have c1 := fun X => Lib.hid (show Calls Tryz.prog 53 #[.agg s.cells.toArray] X (fun e w' => e = .returned (.bool false) ∧ Below X.heap.size X w') by obtain ⟨a, b, c, d, e, f⟩ := s; exact mayshot_not a b c d e f h ty X)
  have hK : ∀ o, (w.alloc o).cell? ⟨Bf, 0, none⟩ = some (.func (.func 53) #[] #[]) := fun o => (hf.alloc o).cell 0
  obtain ⟨owner, x, y, vx, vy, left⟩ := s
  simp only [Gm.Shot.cells] at c1 ⊢
  clear h hf ty
  go_enter Tryz.func90, Tryz.ntmps90
  go_wp2_with (go_at_call 53; ((with_reducible refine ((c1 _).out).mono ?_); rintro e w1 ⟨rfl, hb1⟩))
  go_ret
  exact ⟨rfl, (one_below w _).trans (hb1.mono (by simp))⟩

set_option maxRecDepth 100000 in
set_option maxHeartbeats 2000000 in
theorem indexshot_bad (l : List Gm.Shot) (n : Nat) (A : Option Addr) (c : Nat) (Bf : Nat) (w : World) (hno : ¬ ∀ i (h : i < l.length), Gm.okShot (l[i])) (hty : ∀ i (h : i < l.length), Gm.tyShot (l[i])) (hn : n = l.length) (hn32 : n ≤ 32) (hr : Lies w w.heap.size 6 A n (Gm.shotCells l)) (hf : Box w Bf 91 #[.func (.func 53) #[] #[]]) :
    Calls Tryz.prog 123 #[.slice A n c, .func (.func 90) #[] #[.pointer (some ⟨Bf, 0, none⟩)]] w fun e w' => (∃ k : Nat, e = .returned (.int .i64 k)) ∧ Below w.heap.size w w' := by
  have hN := Lib.hid hn
  clear hn
  have HNO := Lib.hid hno
  clear hno
  go_enter Tryz.func123, Tryz.ntmps123
  go_wp2
  go_loopw [8] (fun i wr => ∃ k : Nat, k ≤ n ∧ i = .int .i64 k ∧ (∀ j (hj : j < k), ∀ hjl : j < l.length, Gm.okShot (l[j]'hjl)) ∧ Below w.heap.size w wr) (fun i _ => n - (intOf i).toNat)
  case atStart => exact ⟨0, by omega, rfl, fun j hj => absurd hj (Nat.not_lt_zero j), Below.refl _ _⟩
  case round =>
    obtain ⟨k, hk, rfl, hall, hb⟩ := hrel
    by_cases hlt : k < n
    · have hbs := hb.size
      have hkl : k < l.length := by have := hN.out; omega
      obtain ⟨ad, rfl, hbl, e0, e1, e2, e3, e4, e5⟩ := shots_at (hr.below hb) hN.out k (by have := hN.out; omega)
      have cty := hty k hkl
      have hfb := hf.below hb hf.lt
      have hkn : (k : Int) < n := by omega
      by_cases ho : Gm.okShot (l[k]'hkl)
      · have hall2 : ∀ j (hj : j < k + 1), ∀ hjl : j < l.length, Gm.okShot (l[j]'hjl) := fun j hj => by
          by_cases e : j = k
          · subst e; exact fun _ => ho
          · exact hall j (by omega)
        have cc := fun X hX => Lib.hid (allshot1_yes (l[k]'hkl) ho Bf X hX)
        generalize l[k]'hkl = s at e0 e1 e2 e3 e4 e5 ho cc cty
        obtain ⟨owner, x, y, vx, vy, left⟩ := s
        dsimp only at e0 e1 e2 e3 e4 e5
        simp only [Gm.Shot.cells] at cc
        have HB := Lib.hid hb
        have HF := Lib.hid hfb
        have HALL := Lib.hid hall2
        clear hr ho hb hf hfb hty cty hall hall2
        go_wp2_with (go_at_call 90; ((with_reducible refine ((cc _ (by first | exact HF.out)).out).mono ?_); rintro e w1 ⟨rfl, hb1⟩))
        go_roundw
        case rel => exact ⟨k + 1, by omega, by go_num, HALL.out, HB.out.trans (hb1.mono HB.out.size)⟩
        case measure => simp [intOf]; omega
      · have cc := fun X hX => Lib.hid (allshot1_bad (l[k]'hkl) ho cty Bf X hX)
        generalize l[k]'hkl = s at e0 e1 e2 e3 e4 e5 ho cc cty
        obtain ⟨owner, x, y, vx, vy, left⟩ := s
        dsimp only at e0 e1 e2 e3 e4 e5
        simp only [Gm.Shot.cells] at cc
        have HB := Lib.hid hb
        have HF := Lib.hid hfb
        clear hr ho hb hf hfb hty cty hall
        go_wp2_with (go_at_call 90; ((with_reducible refine ((cc _ (by first | exact HF.out)).out).mono ?_); rintro e w1 ⟨rfl, hb1⟩))
        go_ret
        exact ⟨⟨k, rfl⟩, HB.out.trans (hb1.mono HB.out.size)⟩
    · exact absurd (fun i hi => hall i (by have := hN.out; omega) hi) HNO.out

set_option maxHeartbeats 1000000 in
theorem containsshot_yes (l : List Gm.Shot) (n : Nat) (A : Option Addr) (c : Nat) (Bf : Nat) (w : World) (hno : ¬ ∀ i (h : i < l.length), Gm.okShot (l[i])) (hty : ∀ i (h : i < l.length), Gm.tyShot (l[i])) (hn : n = l.length) (hn32 : n ≤ 32) (hr : Lies w w.heap.size 6 A n (Gm.shotCells l)) (hf : Box w Bf 91 #[.func (.func 53) #[] #[]]) :
    Calls Tryz.prog 89 #[.slice A n c, .func (.func 90) #[] #[.pointer (some ⟨Bf, 0, none⟩)]] w fun e w' => e = .returned (.bool true) ∧ Below w.heap.size w w' := by
  have c1 := Lib.hid (indexshot_bad l n A c Bf w hno hty hn hn32 hr hf)
  clear hr hf hno hty hn
  go_enter Tryz.func89, Tryz.ntmps89
  go_wp2_with (go_at_call 123; ((with_reducible refine ((c1).out).mono ?_); rintro e w1 ⟨⟨k, rfl⟩, hb1⟩; have hd : decide (0 ≤ (k : Int)) = true := decide_eq_true (by omega)))
  go_ret
  exact ⟨rfl, hb1⟩

set_option maxHeartbeats 1000000 in
theorem allshot_bad (l : List Gm.Shot) (n : Nat) (A : Option Addr) (c : Nat) (w : World) (hno : ¬ ∀ i (h : i < l.length), Gm.okShot (l[i])) (hty : ∀ i (h : i < l.length), Gm.tyShot (l[i])) (hn : n = l.length) (hn32 : n ≤ 32) (hr : Lies w w.heap.size 6 A n (Gm.shotCells l)) :
    Calls Tryz.prog 52 #[.slice A n c, .func (.func 53) #[] #[]] w fun e w' => e = .returned (.bool false) ∧ Below w.heap.size w w' := by
  have hmf : ∀ (fn : Fn) (first cap : Array Value) (w : World), (Instr.makeFunc fn first cap).run Tryz.prog w = .ok (.func fn first cap) w := fun _ _ _ _ => rfl
  have hb0 := one_below w (.cells #[.func (.func 53) #[] #[]] 91)
  have c1 := Lib.hid (containsshot_yes l n A c w.heap.size _ hno hty hn hn32 ((hr.below hb0).wider hb0.size) (Box.made w _ _))
  have hbz := Lib.hid hb0
  clear hr hb0 hno hty hn
  go_enter Tryz.func52, Tryz.ntmps52
  go_wp2_with (go_at_call 89; ((with_reducible refine ((c1).out).mono ?_); rintro e w1 ⟨rfl, hb1⟩))
  go_ret
  exact ⟨rfl, hbz.out.trans (hb1.mono hbz.out.size)⟩

set_option maxRecDepth 100000 in
set_option maxHeartbeats 2000000 in
theorem may_not (g : Gm.G) (A : Option Addr) (n c : Nat) (w : World) (hg : ¬ Gm.ok g) (hty : Gm.ty g) (hn : n = g.shots.length) (hn63 : n ≤ maxLen) (hr : Lies w w.heap.size 6 A n (Gm.shotCells g.shots)) :
    Calls Tryz.prog 24 #[.agg (Gm.cells g (.slice A n c))] w fun e w' => e = .returned (.bool false) ∧ Below w.heap.size w w' := by
  have B0 := Box.made w 28 (Gm.cells g (.slice A n c))
  have hb0 := one_below w (.cells (Gm.cells g (.slice A n c)) 28)
  have hc : ∀ j, (w.alloc (.cells (Gm.cells g (.slice A n c)) 28)).cell? ⟨w.heap.size, j, none⟩ = (Gm.cells g (.slice A n c))[j]? := fun j => B0.cell j
  have h0 := Gm.cells_0 g (.slice A n c)
  have h58 := Gm.cells_58 g (.slice A n c)
  have BB := Lib.hid B0
  have HB := Lib.hid hb0
  by_cases hf : g.frame < 0
  · have d1 : decide (g.frame < 0) = true := decide_eq_true hf
    clear hr B0 hb0 hn hg hty
    go_enter Tryz.func24, Tryz.ntmps24
    go_wp2
    go_ret
    exact ⟨rfl, HB.out⟩
  have d1 : decide (g.frame < 0) = false := decide_eq_false hf
  by_cases hf2 : 1048576 < g.frame
  · have d2 : decide (1048576 < g.frame) = true := decide_eq_true hf2
    clear hr B0 hb0 hn hg hty
    go_enter Tryz.func24, Tryz.ntmps24
    go_wp2
    go_ret
    exact ⟨rfl, HB.out⟩
  have d2 : decide (1048576 < g.frame) = false := decide_eq_false hf2
  by_cases hf3 : 32 < n
  · have d3 : decide (32 < (n : Int)) = true := decide_eq_true (by omega)
    clear hr B0 hb0 hn hg hty
    go_enter Tryz.func24, Tryz.ntmps24
    go_wp2
    go_ret
    exact ⟨rfl, HB.out⟩
  have d3 : decide (32 < (n : Int)) = false := decide_eq_false (by omega)
  by_cases hs : ∀ i, i < 8 → Gm.okShip (g.ship i)
  · have hs2 : ¬ ∀ i (h : i < g.shots.length), Gm.okShot g.shots[i] := fun hh => hg ⟨by omega, by omega, by omega, hs, hh⟩
    have c1 := Lib.hid (allship_yes g.ship (some ⟨w.heap.size, 2, none⟩) 8 _ hs (ships_lie B0))
    have c2 := fun X (hX : Below w.heap.size w X) => Lib.hid (allshot_bad g.shots n A c X hs2 hty.2.2.2 hn (by omega) ((hr.below hX).wider hX.size))
    clear hr B0 hb0 hn hg hty hs hs2
    go_enter Tryz.func24, Tryz.ntmps24
    go_wp2_with (first | (go_at_call 50; ((with_reducible refine ((c1).out).mono ?_); rintro e w1 ⟨rfl, hb1⟩; have hc1 := (BB.out.below hb1 BB.out.lt).cell; have HB1 := Lib.hid (HB.out.trans (hb1.mono HB.out.size)))) | (go_at_call 52; ((with_reducible refine ((c2 _ (HB1.out)).out).mono ?_); rintro e w2 ⟨rfl, hb2⟩)))
    go_ret
    exact ⟨rfl, HB1.out.trans (hb2.mono HB1.out.size)⟩
  · have c1 := Lib.hid (allship_bad g.ship (some ⟨w.heap.size, 2, none⟩) 8 _ hs hty.2.2.1 (ships_lie B0))
    clear hr B0 hb0 hn hg hty hs
    go_enter Tryz.func24, Tryz.ntmps24
    go_wp2_with (go_at_call 50; ((with_reducible refine ((c1).out).mono ?_); rintro e w1 ⟨rfl, hb1⟩; have HB1 := Lib.hid (HB.out.trans (hb1.mono HB.out.size))))
    go_ret
    exact ⟨rfl, HB1.out⟩
end Go.Proofs.YtiahpncglpfjeaaGreat
namespace Go.Proofs.YtiahpncglpfjeaaGreat
open Go.RowKit Go.Shelf
set_option linter.unusedVariables false
set_option linter.unusedSimpArgs false

/-- Which states may be. -/
def Im.Ok (g : Gm.G) (r : Ros.R) : Prop := Gm.ok g ∧ Ros.Ok r ∧ ∀ k, k < 8 → (g.ship k).on = decide (0 ≤ r.peer k)
theorem state_info : (Tryz.prog.info? 35).map (·.size) = some 76 := by kernel_rfl
theorem seats_info : (Tryz.prog.info? 31).map (·.size) = some 16 := by kernel_rfl
section
variable {ops : Array Oper} {rest : List Oper} {o : Oper} {a : Act} {w : World} {Q : Exit → Act → World → Prop} {x : Operand} {dst : Option Tmp} {p : Value}
/-- What the load of a state's game wants. -/
def LoadIm (ops : Array Oper) (Q : Exit → Act → World → Prop) (rest : List Oper) (dst : Option Tmp) (p : Value) (off : Nat) (pick : Gm.G → Value → Ros.R → Array Value) (a : Act) (w : World) : Prop :=
  ∃ (B : Nat) (g : Gm.G) (s : Value) (r : Ros.R), p = .pointer (some ⟨B, off, none⟩) ∧ Box w B 35 (Im.cells g s r) ∧ wpList Tryz.prog ops Q rest (a.put dst (.agg (pick g s r))) w
theorem LoadIm.mk {off : Nat} {pick : Gm.G → Value → Ros.R → Array Value} {B : Nat} {g : Gm.G} {s : Value} {r : Ros.R} (hp : p = .pointer (some ⟨B, off, none⟩)) (hB : Box w B 35 (Im.cells g s r)) (h : wpList Tryz.prog ops Q rest (a.put dst (.agg (pick g s r))) w) : LoadIm ops Q rest dst p off pick a w := ⟨B, g, s, r, hp, hB, h⟩
theorem im_load_game (hgd : o.guard = none) (ho : o.op = .load 28 x) (h : LoadIm ops Q rest o.dst (a.eval x) 0 (fun g s _ => Gm.cells g s) a w) : wpList Tryz.prog ops Q (o :: rest) a w := by
  obtain ⟨B, g, s, r, hx, hB, h⟩ := h
  refine wpList_load_part hgd ho hx hB (Gm.cells g s).toList (fun j v hv => ?_) Tryz.underlying28 rfl game_info h
  have hj : j < 59 := (List.getElem?_eq_some_iff.1 hv).1
  rw [Nat.zero_add, Im.cells_g _ _ _ j hj]
  simpa using hv
theorem im_load_ros_g (hw : Region.wanted o (yielded ops a.tmps) = true) (ho : o.op = .load 33 x) (h : LoadIm ops Q rest o.dst (a.eval x) 59 (fun _ _ r => Ros.cells r) a w) : wpList Tryz.prog ops Q (o :: rest) a w := by
  obtain ⟨B, g, s, r, hx, hB, h⟩ := h
  refine wpList_load_part_g hw ho hx hB (Ros.cells r).toList (fun j v hv => ?_) Tryz.underlying33 rfl ros_info h
  rw [Im.cells_r]
  simpa using hv
theorem im_load_seats (hgd : o.guard = none) (ho : o.op = .load 31 x) (h : LoadIm ops Q rest o.dst (a.eval x) 60 (fun _ _ r => (Ros.seatCells r).toArray) a w) : wpList Tryz.prog ops Q (o :: rest) a w := by
  obtain ⟨B, g, s, r, hx, hB, h⟩ := h
  refine wpList_load_part hgd ho hx hB (Ros.seatCells r) (fun j v hv => ?_) Tryz.underlying31 rfl seats_info h
  rw [show 60 + j = 59 + (1 + j) by omega, Im.cells_r]
  rw [← hv]
  simp [Ros.cells, Nat.add_comm]
end

theorem seat_index (r : Ros.R) (k : Nat) (hk : k < 8) (W : World) : (Instr.index 31 (.agg (Ros.seatCells r).toArray) (.int .i64 (k : Int))).run Tryz.prog W = .ok (.agg #[.int .i64 (r.peer k), .int .i64 (r.gen k)]) W := by
  have h := seat_part r k hk W
  rw [show (Ros.pair r k).toArray = #[.int .i64 (r.peer k), .int .i64 (r.gen k)] from rfl] at h
  have hk8 : (k : Int) < 8 := by omega
  have hc : Tryz.prog.cellsOf 30 = 2 := by kernel_rfl
  cases hq : Tryz.prog.info? 30 with
  | none => have := seat2_info; simp [hq] at this
  | some i =>
    have hi : i.size = 2 := by have := seat2_info; simpa [hq] using this
    simp [Instr.index, run_underlying (Tryz.underlying31) W, h, hk8, sizeOf, typeInfo, hq, hi, go_sem]
    rw [if_pos hk, seatCells_list r k hk]
    rfl
set_option maxRecDepth 100000 in
set_option maxHeartbeats 4000000 in
theorem immay_any (g : Gm.G) (r : Ros.R) (A : Option Addr) (n c : Nat) (w : World) (hty : Gm.ty g) (hn : n = g.shots.length) (hn63 : n ≤ maxLen) (hr : Lies w w.heap.size 6 A n (Gm.shotCells g.shots)) :
    Calls Tryz.prog 73 #[.agg (Im.cells g (.slice A n c) r)] w fun e w' => (∃ v, e = .returned (.bool v) ∧ (v = true ↔ Im.Ok g r)) ∧ Below w.heap.size w w' := by
  have P0 := Lib.hid (Box.made w 35 (Im.cells g (.slice A n c) r))
  have K0 := Lib.hid (one_below w (.cells (Im.cells g (.slice A n c) r) 35))
  have hr0 := (hr.below K0.out).wider K0.out.size
  by_cases hg : Gm.ok g
  · have cg := fun X hX => Lib.hid (may_yes g A n c X hg hn hX)
    have cr := fun X => Lib.hid (rosmay_any r X)
    by_cases hok : Ros.Ok r
    · rw [show Ros.may r = true from decide_eq_true hok] at cr
      have HG := Lib.hid hg
      have HR := Lib.hid hok
      have hq := Lib.hid hr0
      clear hr hr0 hn hty hg hok
      go_enter Tryz.func73, Tryz.ntmps73
      go_wp2_with (first | ((with_reducible refine im_load_game rfl rfl ?_); apply LoadIm.mk rfl; (focus (with_reducible exact P0.out)); dsimp only) | ((with_reducible refine im_load_ros_g ?_ rfl ?_); (focus first | rfl | kernel_rfl | simp [Region.wanted, yielded]); apply LoadIm.mk rfl; (focus (with_reducible exact P1.out)); dsimp only) | ((with_reducible refine im_load_seats rfl rfl ?_); apply LoadIm.mk rfl; (focus (with_reducible exact P2.out)); dsimp only) | (go_at_call 24; ((with_reducible refine ((cg _ hq.out).out).mono ?_); rintro e w1 ⟨rfl, hb⟩; have P1 := Lib.hid (P0.out.below hb P0.out.lt); have K1 := Lib.hid (K0.out.trans (hb.mono K0.out.size)); clear hb)) | (go_at_call 54; ((with_reducible refine ((cr _).out).mono ?_); rintro e w2 ⟨rfl, hb⟩; have P2 := Lib.hid (P1.out.below hb P1.out.lt); have K2 := Lib.hid (K1.out.trans (hb.mono K1.out.size)); clear hb)))
      go_loopw [18] (fun i wr => ∃ k : Nat, k ≤ 8 ∧ i = .int .i64 k ∧ Box wr w.heap.size 35 (Im.cells g (.slice A n c) r) ∧ Below w.heap.size w wr ∧ ∀ j, j < k → (g.ship j).on = decide (0 ≤ r.peer j)) (fun i _ => 8 - (intOf i).toNat)
      case atStart => exact ⟨0, by omega, rfl, P2.out, K2.out, fun j hj => absurd hj (Nat.not_lt_zero j)⟩
      case round =>
        obtain ⟨k, hk, rfl, hB, hb, hall⟩ := hrel
        clear P0 K0 P1 K1 P2 K2 hq
        by_cases hlt : k < 8
        · have hk8 : (k : Int) < 8 := by omega
          have hpart := seat_index r k hlt
          have e0 := (hB.cell (2 + k * 7)).trans (Im.cells_ship g _ r k 0 hlt (by omega))
          simp only [Gm.Ship.cells, List.getElem?_cons_zero] at e0
          have hcell : ∀ o, (wr.alloc o).cell? ⟨w.heap.size, 2 + k * 7, none⟩ = some (.bool (g.ship k).on) := fun o => ((hB.alloc o).cell _).trans ((Im.cells_ship g _ r k 0 hlt (by omega)).trans rfl)
          obtain ⟨on, hon⟩ : ∃ on, on = (g.ship k).on := ⟨_, rfl⟩
          obtain ⟨pk, hpk⟩ : ∃ pk, pk = r.peer k := ⟨_, rfl⟩
          obtain ⟨gk, hgk⟩ : ∃ gk, gk = r.gen k := ⟨_, rfl⟩
          rw [← hon] at e0 hcell
          rw [← hpk, ← hgk] at hpart
          have HON := Lib.hid hon
          have HPK := Lib.hid hpk
          have HALL := Lib.hid hall
          have HB := Lib.hid hB
          have HBB := Lib.hid hb
          clear hon hpk hgk hall hB hb
          by_cases hm : on = decide (0 ≤ pk)
          · have hnew := Lib.hid (show ∀ j, j < k + 1 → (g.ship j).on = decide (0 ≤ r.peer j) from fun j hj => by
              by_cases e : j = k
              · rw [e, ← HON.out, ← HPK.out]; exact hm
              · exact HALL.out j (by omega))
            cases hd : decide (0 ≤ pk)
            · rw [hd] at hm
              subst hm
              go_upto_region 6 with fail
              go_quiet (fail)
              go_wp2
              go_roundw
              case rel => exact ⟨k + 1, by omega, by go_num, (HB.out.alloc _).draws _, draws_below (HBB.out.alloc HBB.out.size _) _, hnew.out⟩
              case measure => simp [intOf]; omega
            · rw [hd] at hm
              subst hm
              go_upto_region 6 with fail
              go_quiet (fail)
              go_wp2
              go_roundw
              case rel => exact ⟨k + 1, by omega, by go_num, (HB.out.alloc _).draws _, draws_below (HBB.out.alloc HBB.out.size _) _, hnew.out⟩
              case measure => simp [intOf]; omega
          · have hno := Lib.hid (show ¬ Im.Ok g r from fun h => hm (by rw [HON.out, HPK.out]; exact h.2.2 k hlt))
            cases hd : decide (0 ≤ pk)
            · obtain rfl : on = true := by
                cases on
                · exact absurd hd.symm hm
                · rfl
              clear hm
              go_upto_region 6 with fail
              go_quiet (fail)
              go_wp2
              go_ret
              exact ⟨by first | exact ⟨false, rfl, by simp; exact hno.out⟩ | exact .inl ⟨rfl, hno.out⟩, draws_below (HBB.out.alloc HBB.out.size _) _⟩
            · obtain rfl : on = false := by
                cases on
                · rfl
                · exact absurd hd.symm hm
              clear hm
              go_upto_region 6 with fail
              go_quiet (fail)
              go_wp2
              go_ret
              exact ⟨by first | exact ⟨false, rfl, by simp; exact hno.out⟩ | exact .inl ⟨rfl, hno.out⟩, draws_below (HBB.out.alloc HBB.out.size _) _⟩
        · have hk8 : ¬ (k : Int) < 8 := by omega
          have hyes := Lib.hid (show Im.Ok g r from ⟨HG.out, HR.out, fun j hj => hall j (by omega)⟩)
          have HBB := Lib.hid hb
          clear hall hB hb
          go_wp2
          go_ret
          exact ⟨by first | exact ⟨true, rfl, by simp; exact hyes.out⟩ | exact .inr ⟨rfl, hyes.out⟩, HBB.out⟩
    · rw [show Ros.may r = false from decide_eq_false hok] at cr
      have hno := Lib.hid (show ¬ Im.Ok g r from fun h => hok h.2.1)
      have hq := Lib.hid hr0
      clear hr hr0 hn hty hg hok
      go_enter Tryz.func73, Tryz.ntmps73
      go_wp2_with (first | ((with_reducible refine im_load_game rfl rfl ?_); apply LoadIm.mk rfl; (focus (with_reducible exact P0.out)); dsimp only) | ((with_reducible refine im_load_ros_g ?_ rfl ?_); (focus first | rfl | kernel_rfl | simp [Region.wanted, yielded]); apply LoadIm.mk rfl; (focus (with_reducible exact P1.out)); dsimp only) | ((with_reducible refine im_load_seats rfl rfl ?_); apply LoadIm.mk rfl; (focus (with_reducible exact P2.out)); dsimp only) | (go_at_call 24; ((with_reducible refine ((cg _ hq.out).out).mono ?_); rintro e w1 ⟨rfl, hb⟩; have P1 := Lib.hid (P0.out.below hb P0.out.lt); have K1 := Lib.hid (K0.out.trans (hb.mono K0.out.size)); clear hb)) | (go_at_call 54; ((with_reducible refine ((cr _).out).mono ?_); rintro e w2 ⟨rfl, hb⟩; have P2 := Lib.hid (P1.out.below hb P1.out.lt); have K2 := Lib.hid (K1.out.trans (hb.mono K1.out.size)); clear hb)))
      go_ret
      exact ⟨by first | exact ⟨false, rfl, by simp; exact hno.out⟩ | exact .inl ⟨rfl, hno.out⟩, K2.out⟩
  · have cg := fun X hX => Lib.hid (may_not g A n c X hg hty hn hn63 hX)
    have hno := Lib.hid (show ¬ Im.Ok g r from fun h => hg h.1)
    have hq := Lib.hid hr0
    clear hr hr0 hn hty hg
    go_enter Tryz.func73, Tryz.ntmps73
    go_wp2_with (first | ((with_reducible refine im_load_game rfl rfl ?_); apply LoadIm.mk rfl; (focus (with_reducible exact P0.out)); dsimp only) | ((with_reducible refine im_load_ros_g ?_ rfl ?_); (focus first | rfl | kernel_rfl | simp [Region.wanted, yielded]); apply LoadIm.mk rfl; (focus (with_reducible exact P1.out)); dsimp only) | ((with_reducible refine im_load_seats rfl rfl ?_); apply LoadIm.mk rfl; (focus (with_reducible exact P2.out)); dsimp only) | (go_at_call 24; ((with_reducible refine ((cg _ hq.out).out).mono ?_); rintro e w1 ⟨rfl, hb⟩; have P1 := Lib.hid (P0.out.below hb P0.out.lt); have K1 := Lib.hid (K0.out.trans (hb.mono K0.out.size)); clear hb)) | (go_at_call 54; ((with_reducible refine ((cr _).out).mono ?_); rintro e w2 ⟨rfl, hb⟩; have P2 := Lib.hid (P1.out.below hb P1.out.lt); have K2 := Lib.hid (K1.out.trans (hb.mono K1.out.size)); clear hb)))
    go_ret
    exact ⟨by first | exact ⟨false, rfl, by simp; exact hno.out⟩ | exact .inl ⟨rfl, hno.out⟩, K1.out⟩
end Go.Proofs.YtiahpncglpfjeaaGreat
namespace Go.Proofs.YtiahpncglpfjeaaGreat
open Go.RowKit
set_option linter.unusedVariables false

theorem and_one {p : Int} (wp : 0 ≤ p ∧ p ≤ 255) : bits .and .u8 p 1 = p % 2 := by
  rw [u8_and p 1 wp.1 (by omega) (by decide) (by decide)]
  show ((p.toNat &&& 1 : Nat) : Int) = p % 2
  rw [Nat.and_one_is_mod]; omega
theorem append_runs {P : Program} (w : World) {t ty e : TypeId} {i : TypeInfo} {z : Value} {size bytes : Nat} (ht : P.underlying t = some (.slice e)) (hi : P.info? e = some i) (hz : i.zero = some z) (hs : i.size = size) (hby : i.bytes = bytes) (hzs : z.cells.size = size) (hsz : 0 < size)
    {base n : Nat} {v : Value} {xs : List Value} (ho : w.ownsRow base e size v n xs) {ad : Addr} {m c : Nat} {news : List Value} (hl : Lies w w.heap.size size (some ad) m news) (hm : m ≠ 0) (h1 : ∀ u ∈ news, u.oneCell' = true) (h63 : n + m ≤ maxLen) (hb : (n + m) * bytes ≤ 140737488355328) (hbase : base ≤ w.heap.size) :
    ∃ A' c' w', (Builtin.append_ #[t, t] ty #[v, .slice (some ad) m c]).run P w = .ok (.slice A' (n + m) c') w' ∧ w'.ownsRow base e size (.slice A' (n + m) c') (n + m) (xs ++ news) ∧ w.grownBy w' v.ownBlock := by
  obtain ⟨v', w', hr, h2, h3, _, _⟩ := run_append_own_at (P := P) w base t ty e i z size bytes ht hi hz hs hby hzs hsz v n xs ho ad m c news hl.len (fun j u hu => hl.cell ad rfl hm j u hu) h1 h63 hb hbase
  obtain ⟨A', c', rfl⟩ := owned_slice h2
  exact ⟨A', c', w', hr, h2, h3⟩

theorem exec_append {P : Program} {o : Oper} {a : Act} {x y : Operand} {ts : Array TypeId} {W W' : World} {v1 v2 r : Value} (ho : o.op = .call { callee := .builtin .append, args := #[x, y], argTypes := ts }) (hx : a.eval x = v1) (hy : a.eval y = v2) (hr : (Builtin.append_ ts o.type #[v1, v2]).run P W = .ok r W') :
    (execOp a.eval o).run P W = .ok (.value r) W' := by
  unfold execOp
  simp only [ho, resolve, invoke, builtin, Sem.run_bind, Sem.run_pure, Result.andThen_ok, List.map_toArray, List.map_cons, List.map_nil, hx, hy, hr]

/-- What a shooting slot leaves. -/
def shotG (g : Gm.G) (k : Nat) (x y p : Int) : Gm.G :=
  if 0 < (g.ship k).cool then shipG g k { g.ship k with cool := (g.ship k).cool - 1 }
  else if p % 2 = 1 ∧ g.shots.length < 32 then { shipG g k { g.ship k with cool := 10 } with shots := g.shots ++ [⟨k, (g.ship k).x, (g.ship k).y, Gf.aimx x y, Gf.aimy y, 24⟩] }
  else g

theorem Has.field {b B k : Nat} {g : Gm.G} {w : World} (h : Has b B g w) {t' : Gm.Ship} {i : Nat} {u : Value} (he : ∀ s, (Gm.cells (shipG g k (g.ship k)) s).setIfInBounds i u = Gm.cells (shipG g k t') s) : Has b B (shipG g k t') (w.setCell ⟨B, i, none⟩ u) :=
  h.put rfl (fun s hB => he s ▸ (by rw [shipG, Gm.upd_self]; exact hB.put i u)) (fun j hj => heap_setCell_other _ _ j _ hj)

set_option maxRecDepth 100000 in
set_option maxHeartbeats 2000000 in
theorem shoot_cool (g : Gm.G) (b B k : Nat) (x y p : Int) (w : World) (hbB : b ≤ B) (hk : k < 8) (h : Has b B g w) (hc : 0 < (g.ship k).cool ∧ (g.ship k).cool ≤ 10) :
    Calls Tryz.prog 102 #[.pointer (some ⟨B, 0, none⟩), .int .i64 k, .agg #[.int .i8 x, .int .i8 y, .int .u8 p]] w fun e w' => (∃ v, e = .returned v) ∧ Has b B (shipG g k { g.ship k with cool := (g.ship k).cool - 1 }) w' ∧ Keep b B w w' := by
  have HH := Lib.hid (h.alloc (.cells #[.int .i8 x, .int .i8 y, .int .u8 p] 39))
  have HK := Lib.hid ((Keep.refl hbB w).alloc (.cells #[.int .i8 x, .int .i8 y, .int .u8 p] 39))
  have hr := Lib.hid (h.alloc (.cells #[.int .i8 x, .int .i8 y, .int .u8 p] 39) |>.field (k := k) (t' := { g.ship k with cool := (g.ship k).cool - 1 }) (fun s => set_cool g s k (g.ship k) hk ((g.ship k).cool - 1)))
  obtain ⟨A, c, hB, hO⟩ := HH.out
  have c0 := hB.cell
  have f0 := hB.free
  have s5 := Gm.cells_ship g (.slice A g.shots.length c) k 5 hk (by omega)
  simp only [Gm.Ship.cells, List.getElem?_cons_zero, List.getElem?_cons_succ] at s5
  have hk8 : (k : Int) < 8 := by omega
  generalize (g.ship k).cool = q at *
  have hq : IntKind.i64.wrap (q - 1) = q - 1 := by rw [IntKind.wrap_i64]; omega
  clear hB hO h
  go_enter Tryz.func102, Tryz.ntmps102
  go_wp2
  refine bodyPost_ret (results_none rfl _ _ _) rfl ?_
  exact ⟨⟨_, rfl⟩, hr.out, HK.out.put _ _⟩

set_option maxRecDepth 100000 in
set_option maxHeartbeats 2000000 in
theorem shoot_rest (g : Gm.G) (b B k : Nat) (x y p : Int) (w : World) (hbB : b ≤ B) (hk : k < 8) (h : Has b B g w) (hc : (g.ship k).cool = 0) (wp : 0 ≤ p ∧ p ≤ 255) (hp : ¬ (p % 2 = 1 ∧ g.shots.length < 32)) :
    Calls Tryz.prog 102 #[.pointer (some ⟨B, 0, none⟩), .int .i64 k, .agg #[.int .i8 x, .int .i8 y, .int .u8 p]] w fun e w' => (∃ v, e = .returned v) ∧ Has b B g w' ∧ Keep b B w w' := by
  have HH := Lib.hid (h.alloc (.cells #[.int .i8 x, .int .i8 y, .int .u8 p] 39))
  have HK := Lib.hid ((Keep.refl hbB w).alloc (.cells #[.int .i8 x, .int .i8 y, .int .u8 p] 39))
  obtain ⟨A, c, hB, hO⟩ := HH.out
  have c0 := hB.cell
  have f0 := hB.free
  have s5 := Gm.cells_ship g (.slice A g.shots.length c) k 5 hk (by omega)
  have e58 := Gm.cells_58 g (.slice A g.shots.length c)
  simp only [Gm.Ship.cells, List.getElem?_cons_zero, List.getElem?_cons_succ, hc] at s5
  have hk8 : (k : Int) < 8 := by omega
  clear hB hO h hc
  generalize g.shots.length = m at *
  by_cases hodd : p % 2 = 1
  · have hm32 : (32 : Int) ≤ m := by omega
    have hb1 : bits .and .u8 p 1 = 1 := by rw [and_one wp]; exact hodd
    clear hp hodd
    go_enter Tryz.func102, Tryz.ntmps102
    go_wp2
    refine bodyPost_ret (results_none rfl _ _ _) rfl ?_
    exact ⟨⟨_, rfl⟩, HH.out, HK.out⟩
  · have hb1 : bits .and .u8 p 1 = 0 := by rw [and_one wp]; omega
    clear hp hodd
    go_enter Tryz.func102, Tryz.ntmps102
    go_wp2
    refine bodyPost_ret (results_none rfl _ _ _) rfl ?_
    exact ⟨⟨_, rfl⟩, HH.out, HK.out⟩

set_option maxRecDepth 100000 in
set_option maxHeartbeats 1000000 in
theorem shoot_yes (g : Gm.G) (b B k : Nat) (x y p : Int) (w : World) (hbB : b ≤ B) (hk : k < 8) (h : Has b B g w) (hc : (g.ship k).cool = 0) (wx : -128 ≤ x ∧ x ≤ 127) (wy : -128 ≤ y ∧ y ≤ 127) (wp : 0 ≤ p ∧ p ≤ 255) (hp : p % 2 = 1) (hm : g.shots.length < 32) :
    Calls Tryz.prog 102 #[.pointer (some ⟨B, 0, none⟩), .int .i64 k, .agg #[.int .i8 x, .int .i8 y, .int .u8 p]] w fun e w' => (∃ v, e = .returned v) ∧ Has b B { shipG g k { g.ship k with cool := 10 } with shots := g.shots ++ [⟨k, (g.ship k).x, (g.ship k).y, Gf.aimx x y, Gf.aimy y, 24⟩] } w' ∧ Keep b B w w' := by
  have HH := Lib.hid (h.alloc (.cells #[.int .i8 x, .int .i8 y, .int .u8 p] 39))
  have HK := Lib.hid ((Keep.refl hbB w).alloc (.cells #[.int .i8 x, .int .i8 y, .int .u8 p] 39))
  obtain ⟨A, c, hB, hO⟩ := HH.out
  have c0 := hB.cell
  have f0 := hB.free
  have s5 := Gm.cells_ship g (.slice A g.shots.length c) k 5 hk (by omega)
  have s1 := Gm.cells_ship g (.slice A g.shots.length c) k 1 hk (by omega)
  have s2 := Gm.cells_ship g (.slice A g.shots.length c) k 2 hk (by omega)
  have e58 := Gm.cells_58 g (.slice A g.shots.length c)
  simp only [Gm.Ship.cells, List.getElem?_cons_zero, List.getElem?_cons_succ, hc] at s5 s1 s2
  have hk8 : (k : Int) < 8 := by omega
  have hb1 : bits .and .u8 p 1 = 1 := by rw [and_one wp]; exact hp
  have hm32 : ¬ (32 : Int) ≤ g.shots.length := by omega
  have ca := fun X => Lib.hid (fldaim_any x y p wx wy wp X)
  have BB := Lib.hid hB
  have OO := Lib.hid hO
  clear hB hO h hc hp
  go_enter Tryz.func102, Tryz.ntmps102
  go_upto_region 6 with (go_at_call 131; ((with_reducible refine ((ca _).out).mono ?_); rintro e w1 ⟨rfl, hb1'⟩; have B1 := BB.out.below hb1' BB.out.lt; have c1 := B1.cell; have f1 := B1.free; have HB1 := Lib.hid B1; have O1 := Lib.hid (own_below OO.out hb1' (Nat.le_refl _)); have K1 := Lib.hid (HK.out.call hb1'); clear B1 hb1' c0 f0))
  have ax := Gf.aimx_bd x y
  generalize hAX : Gf.aimx x y = AX at *
  generalize hAY : Gf.aimy y = AY at *
  obtain ⟨i0, hi0, hz0, hz1, hz2⟩ := info_parts shot_info
  have o1 := (O1.out.drew).alloc (.cells #[.int .i64 k, .int .i32 (g.ship k).x, .int .i32 (g.ship k).y, .int .i32 AX, .int .i32 AY, .int .i64 24] 90)
  have bsz := K1.out.size
  obtain ⟨A2, c2, w2, hrun, own2, hg2⟩ := append_runs (P := Tryz.prog) _ (ty := 26) Tryz.underlying26 hi0 hz0 hz1 hz2 rfl (by decide) o1 (c := 1) (lies_made w1.drew 90 ⟨k, (g.ship k).x, (g.ship k).y, AX, AY, 24⟩) (by decide) (shotCells_one _) (by unfold maxLen; omega) (by omega) (by have := HB1.out.lt; simp; omega)
  have B2 := grown_box HB1.out.drew O1.out.drew (by decide) hg2
  have K2 := Lib.hid (K1.out.drew.grown' O1.out.drew hg2)
  have HB2 := Lib.hid B2
  have OW := Lib.hid own2
  have f2 := B2.free
  have k2 := B2.cell
  clear o1 own2 hg2 B2 c1 f1
  refine Rp.wp_region_lex (by kernel_rfl) [] (by kernel_rfl) (· = w1.drew) (fun W => Box W B 28 (Gm.cells g (.slice A g.shots.length c))) (fun _ => True) rfl (fun W hW => ⟨hW ▸ HB1.out.drew, trivial⟩) ?_
  repeat (first
    | (apply Rp.lex_free rfl rfl; focus (intro _; go_simp; first | done | rfl))
    | (apply Rp.lex_look rfl rfl rfl rfl; focus (intro W hW; have c0 := Box.cell hW; clear hW; go_simp; first | done | rfl)))
  refine Rp.lex_make rfl (W' := w1.drew.alloc (.cells #[.int .i64 k, .int .i32 (g.ship k).x, .int .i32 (g.ship k).y, .int .i32 AX, .int .i32 AY, .int .i64 24] 90)) (v := .slice (some ⟨w1.drew.heap.size, 0, none⟩) 1 1) ?_ ⟨HB1.out.drew.alloc _, trivial⟩ ?_
  focus (go_simp; first | done | rfl)
  refine Rp.lex_make rfl (W' := w2) (v := .slice A2 (g.shots.length + 1) c2) (exec_append (x := .tmp 47) (y := .tmp 60) (v1 := .slice A g.shots.length c) (v2 := .slice (some ⟨w1.drew.heap.size, 0, none⟩) 1 1) rfl (by go_simp) (by go_simp) hrun) ⟨HB2.out, trivial⟩ ?_
  repeat (first
    | (apply Rp.lex_free rfl rfl; focus (intro _; go_simp; first | done | rfl))
    | (apply Rp.lex_look rfl rfl rfl rfl; focus (intro W hW; have c0 := Box.cell hW; clear hW; go_simp; first | done | rfl)))
  refine Rp.lex_store rfl rfl (C' := (· = w2.setCell ⟨B, 58, none⟩ (.slice A2 (g.shots.length + 1) c2))) (D' := fun _ => True) (fun W hW => ⟨_, ?_, rfl⟩) (fun _ _ => ⟨trivial, trivial⟩) ?_
  focus (subst hW; go_simp; first | done | rfl)
  refine Rp.lex_end fun W2 hW2 => ?_
  have ne2 := HB2.out.unowned OW.out (by decide)
  have H3 : Has b B { g with shots := g.shots ++ [⟨k, (g.ship k).x, (g.ship k).y, AX, AY, 24⟩] } W2 := by
    subst hW2
    refine ⟨A2, c2, ?_, ?_⟩
    · rw [show (g.shots ++ [(⟨k, (g.ship k).x, (g.ship k).y, AX, AY, 24⟩ : Gm.Shot)]).length = g.shots.length + 1 by simp]
      exact blk_shots HB2.out _
    · dsimp only
      rw [show (g.shots ++ [(⟨k, (g.ship k).x, (g.ship k).y, AX, AY, 24⟩ : Gm.Shot)]).length = g.shots.length + 1 by simp, Gm.shotCells_append]
      exact ownsRow_setCell_other (a := ⟨B, 58, none⟩) OW.out ne2 _
  have K3 : Keep b B w W2 := by subst hW2; exact K2.out.put _ _
  have R3 := Lib.hid (H3.field (k := k) (t' := { g.ship k with cool := 10 }) (u := .int .i64 10) (fun s => set_cool { g with shots := g.shots ++ [⟨k, (g.ship k).x, (g.ship k).y, AX, AY, 24⟩] } s k (g.ship k) hk 10))
  have HK3 := Lib.hid K3
  obtain ⟨G3, hG3⟩ : ∃ G : Gm.G, G = { g with shots := g.shots ++ [(⟨k, (g.ship k).x, (g.ship k).y, AX, AY, 24⟩ : Gm.Shot)] } := ⟨_, rfl⟩
  rw [← hG3] at H3
  clear hG3
  obtain ⟨A3, c3, hB3, hO3⟩ := H3
  have k3 := hB3.cell
  have f3 := hB3.free
  have z5 := Gm.cells_ship G3 (.slice A3 G3.shots.length c3) k 5 hk (by omega)
  simp only [Gm.Ship.cells, List.getElem?_cons_zero, List.getElem?_cons_succ] at z5
  clear hB3 hO3 K3 hW2 k2 f2 hrun ne2 s1 s2 s5 e58
  go_wp2
  go_end0
  exact ⟨⟨_, rfl⟩, by first | exact R3.out | (rw [hAX, hAY]; exact R3.out), HK3.out.put _ _⟩
theorem shoot_any (g : Gm.G) (b B k : Nat) (x y p : Int) (w : World) (hbB : b ≤ B) (hk : k < 8) (h : Has b B g w) (hc : 0 ≤ (g.ship k).cool ∧ (g.ship k).cool ≤ 10) (wx : -128 ≤ x ∧ x ≤ 127) (wy : -128 ≤ y ∧ y ≤ 127) (wp : 0 ≤ p ∧ p ≤ 255) :
    Calls Tryz.prog 102 #[.pointer (some ⟨B, 0, none⟩), .int .i64 k, .agg #[.int .i8 x, .int .i8 y, .int .u8 p]] w fun e w' => (∃ v, e = .returned v) ∧ Has b B (shotG g k x y p) w' ∧ Keep b B w w' := by
  unfold shotG
  by_cases h0 : 0 < (g.ship k).cool
  · rw [if_pos h0]; exact shoot_cool g b B k x y p w hbB hk h ⟨h0, hc.2⟩
  · rw [if_neg h0]
    by_cases hp : p % 2 = 1 ∧ g.shots.length < 32
    · rw [if_pos hp]; exact shoot_yes g b B k x y p w hbB hk h (by omega) wx wy wp hp.1 hp.2
    · rw [if_neg hp]; exact shoot_rest g b B k x y p w hbB hk h (by omega) wp hp
end Go.Proofs.YtiahpncglpfjeaaGreat
namespace Go.Proofs.YtiahpncglpfjeaaGreat
open Go.RowKit Go.Shelf
set_option linter.unusedVariables false
attribute [local go_sem] Oper.semAt_some
/-- A slot whose ship flies. -/
abbrev Slot (on : Nat → Bool) := { k : Nat // k < 8 ∧ on k = true }
def flies (on : Nat → Bool) : Nat → Nat → List (Slot on)
  | 0, _ => []
  | n + 1, i => if h : i < 8 ∧ on i = true then ⟨i, h⟩ :: flies on n (i + 1) else flies on n (i + 1)
theorem flies_len (on : Nat → Bool) : ∀ n i, (flies on n i).length ≤ n
  | 0, _ => Nat.le_refl _
  | n + 1, i => by
    unfold flies
    split
    · have := flies_len on n (i + 1); simp; omega
    · have := flies_len on n (i + 1); omega
theorem flies_yes {on : Nat → Bool} {n i : Nat} (h : i < 8) (ho : on i = true) : flies on (n + 1) i = ⟨i, h, ho⟩ :: flies on n (i + 1) := by
  show (if _ : _ then _ else _) = _; rw [dif_pos ⟨h, ho⟩]
theorem flies_no {on : Nat → Bool} {n i : Nat} (ho : on i = false) : flies on (n + 1) i = flies on n (i + 1) := by
  show (if _ : _ then _ else _) = _; rw [dif_neg (by simp [ho])]

abbrev slotEnc (B : Nat) (on : Nat → Bool) (x : Slot on) : Array Value := #[.int .i64 x.1, .pointer (some ⟨B, 2 + x.1 * 7, none⟩)]
/-- What the going over reads between two rounds: where the game lies, and who flies. -/
def Flying (B Bg : Nat) (on : Nat → Bool) (W : World) : Prop := W.cell? ⟨Bg, 0, none⟩ = some (.pointer (some ⟨B, 0, none⟩)) ∧ ∀ k, k < 8 → W.cell? ⟨B, 2 + k * 7, none⟩ = some (.bool (on k))
theorem Flying.below {B Bg : Nat} {on : Nat → Bool} {w W : World} (h : Flying B Bg on w) (hb : Below w.heap.size w W) : Flying B Bg on W :=
  ⟨(World.cell?_of_block (hb.block _ (World.block_lt_of_cell? w _ h.1))).trans h.1, fun k hk => (World.cell?_of_block (hb.block _ (World.block_lt_of_cell? w _ (h.2 k hk)))).trans (h.2 k hk)⟩
def FlyKp (B Bg : Nat) (on : Nat → Bool) (W W' : World) : Prop := Flying B Bg on W → Flying B Bg on W'
theorem flykp_t {B Bg : Nat} {on : Nat → Bool} {X Y Z : World} (h : FlyKp B Bg on X Y) (k : FlyKp B Bg on Y Z) : FlyKp B Bg on X Z := fun hx => k (h hx)
theorem flykp_b {B Bg : Nat} {on : Nat → Bool} {n : Nat} (W : World) (l : Nat) (o o' : Obj) (_ : n ≤ l) (h : W.heap[l]? = some o) (hc : o.isCells = false) (_ : o.isWalk = false) : FlyKp B Bg on W (W.putObj l o') := fun hf =>
  ⟨cell_kept hf.1 (grownBy_putObj' W l o') (fun r e => by cases e; exact ⟨_, h, hc⟩), fun k hk => cell_kept (hf.2 k hk) (grownBy_putObj' W l o') (fun r e => by cases e; exact ⟨_, h, hc⟩)⟩

set_option maxRecDepth 100000 in
set_option maxHeartbeats 4000000 in
theorem flying1_in (on : Nat → Bool) (B Bg : Nat) (n l : Nat) (J Jx : List (Slot on) → World → Prop)
    (hY : ∀ pre x W, J pre W → pre.length < 8 → YieldAt Fence.wide (n - 1) Tryz.prog l (slotEnc B on x) W fun e W' =>
      (e = .returned (.bool true) ∧ J (pre ++ [x]) W' ∧ FlyKp B Bg on W W') ∨ (e = .returned (.bool false) ∧ Jx (pre ++ [x]) W'))
    (W : World) (hF : Flying B Bg on W) (h0 : J [] W) :
    CallsIn Fence.wide n Tryz.prog 128 #[.func (.yield l) #[] #[], .pointer (some ⟨Bg, 0, none⟩)] W fun e W' => (∃ v, e = .returned v) ∧
      ((∃ ys, ys = flies on 8 0 ∧ J ys W') ∨ (∃ pre, (∃ rest, flies on 8 0 = pre ++ rest) ∧ Jx pre W')) := by
  refine callsIn_of_wp Tryz.func128 rfl trivial ?_ rfl
  simp only [Tryz.ntmps128, List.size_toArray, List.length_cons, List.length_nil, Nat.reduceAdd, Nat.reduceSub, Array.replicate_succ, Array.replicate_zero, List.push_toArray, List.append_toArray, List.nil_append, List.cons_append]
  gi_wp2
  gi_loopw [5] (fun p wr => ∃ (i : Nat) (pre : List (Slot on)), i ≤ 8 ∧ p = .int .i64 i ∧ flies on 8 0 = pre ++ flies on (8 - i) i ∧ Flying B Bg on wr ∧ J pre wr)
    (fun p _ => 8 - (intOf p).toNat)
  case atStart =>
    exact ⟨0, [], by omega, rfl, rfl, hF, h0⟩
  case round =>
    obtain ⟨i, pre, hi, rfl, hx, hf, hJs⟩ := hrel
    by_cases hlt : i < 8
    · have hi8 : (i : Int) < 8 := by omega
      have f0 := hf.1
      have f1 := hf.2 i hlt
      cases ho : on i
      · rw [ho] at f1
        rw [show 8 - i = (8 - (i + 1)) + 1 by omega, flies_no ho] at hx
        have HX := Lib.hid hx
        have HF := Lib.hid hf
        have HJ := Lib.hid hJs
        clear hx hf hJs hY
        gi_wp2
        refine ⟨fun _ h => (by cases h), ?_⟩
        gi_wp2
        go_roundw
        case rel => exact ⟨i + 1, pre, by omega, by go_num, HX.out, HF.out, HJ.out⟩
        case measure => simp [intOf]; omega
      · rw [ho] at f1
        rw [show 8 - i = (8 - (i + 1)) + 1 by omega, flies_yes hlt ho] at hx
        have hlen : pre.length < 8 := by
          have := flies_len on 8 0; rw [hx] at this; simp at this; omega
        obtain ⟨fn, tmps, assign, body, hy, hR⟩ := hY pre ⟨i, hlt, ho⟩ wr hJs hlen
        dsimp only [slotEnc] at hy
        have HX := Lib.hid hx
        have HF := Lib.hid hf
        clear hx hf hJs hY
        gi_wp2
        refine ⟨fun h => (by cases h), hR.mono ?_⟩
        rintro e W3 (⟨rfl, hJ3, hk3⟩ | ⟨rfl, hJx3⟩)
        · gi_wp2
          go_roundw
          case rel => exact ⟨i + 1, pre ++ [⟨i, hlt, ho⟩], by omega, by go_num, by rw [HX.out]; simp, hk3 HF.out, hJ3⟩
          case measure => simp [intOf]; omega
        · gi_wp2
          refine bodyPost_ret (results_none rfl _ _ _) rfl ?_
          exact ⟨⟨_, rfl⟩, .inr ⟨pre ++ [⟨i, hlt, ho⟩], ⟨flies on (8 - (i + 1)) (i + 1), by rw [HX.out]; simp⟩, hJx3⟩⟩
    · have hi8 : ¬ (i : Int) < 8 := by omega
      have hie : i = 8 := by omega
      subst hie
      have HX := Lib.hid (show flies on 8 0 = pre by rw [hx]; simp [flies])
      clear hx
      gi_wp2
      go_end0
      have e := HX.out
      first
        | exact ⟨⟨_, rfl⟩, .inl ⟨pre, e.symm, hJs⟩⟩
        | exact ⟨⟨_, rfl⟩, .inl (by rw [e]; exact hJs)⟩

theorem flying1_stops (on : Nat → Bool) (B Bg : Nat) (n : Nat) (w : World) (hF : Flying B Bg on w) :
    SeqStopsK Fence.wide n Tryz.prog 128 #[.pointer (some ⟨Bg, 0, none⟩)] (slotEnc B on) (FlyKp B Bg on) (fun xs => xs = flies on 8 0) (fun pre => ∃ rest, flies on 8 0 = pre ++ rest) 8 w :=
  fun l J Jx W hW _ _ hY h0 => flying1_in on B Bg n l J Jx hY W (hF.below hW) h0

/-- The going over is made. -/
theorem flying_any (B : Nat) (w : World) :
    Calls Tryz.prog 99 #[.pointer (some ⟨B, 0, none⟩)] w fun e w' => e = .returned (.func (.func 128) #[] #[.pointer (some ⟨w.heap.size, 0, none⟩)]) ∧ w' = w.alloc (.cells #[.pointer (some ⟨B, 0, none⟩)] 132) := by
  have hmf : ∀ (fn : Fn) (first cap : Array Value) (w : World), (Instr.makeFunc fn first cap).run Tryz.prog w = .ok (.func fn first cap) w := fun _ _ _ _ => rfl
  go_enter Tryz.func99, Tryz.ntmps99
  go_wp2
  go_ret
  exact ⟨rfl, rfl⟩
end Go.Proofs.YtiahpncglpfjeaaGreat
namespace Go.Proofs.YtiahpncglpfjeaaGreat
open Go.RowKit
set_option linter.unusedVariables false

theorem has_made {w w1 : World} {A : Option Addr} {n c : Nat} {g : Gm.G} (hn : n = g.shots.length) (ho : w1.ownsRow w.heap.size 90 6 (.slice A n c) n (Gm.shotCells g.shots)) : Has w.heap.size w1.heap.size g (w1.alloc (.cells (Gm.cells g (.slice A n c)) 28)) := by
  subst hn; exact ⟨A, c, Box.made _ _ _, ho.alloc _⟩
set_option maxRecDepth 100000 in
set_option maxHeartbeats 8000000 in
theorem spawn_walk (g : Gm.G) (A : Option Addr) (n c i : Nat) (x y d : Int) (w : World) (hg : Gm.ok g) (hd : 0 ≤ g.dice ∧ g.dice ≤ 18446744073709551615) (hn : n = g.shots.length) (hr : Lies w w.heap.size 6 A n (Gm.shotCells g.shots)) (hi : i < 8) (ho : (g.ship i).on = false)
    (hx : Dn.share (Dn.next g.dice) 16777216 = x) (hy : Dn.share (Dn.next (Dn.next g.dice)) 16777216 = y) (hdd : Dn.next (Dn.next g.dice) = d) :
    Calls Tryz.prog 96 #[.agg (Gm.cells g (.slice A n c)), .int .i64 i] w (Out { g with dice := d, ship := Gm.upd g.ship i ⟨true, x, y, 0, 0, 0, 0⟩ } 0 w) := by
  have b1 : Box ((w.alloc (.cells (Gm.cells g (.slice A n c)) 28)).alloc (.cells (Gm.cells zeroG (.slice none 0 0)) 28)) w.heap.size 28 (Gm.cells g (.slice A n c)) := (Box.made _ _ _).alloc _
  have b2 : Box ((w.alloc (.cells (Gm.cells g (.slice A n c)) 28)).alloc (.cells (Gm.cells zeroG (.slice none 0 0)) 28)) (w.heap.size + 1) 28 (Gm.cells zeroG (.slice none 0 0)) := Box.made_at _ _ _ (by simp)
  have hb0 := two_below' w (.cells (Gm.cells g (.slice A n c)) 28) (.cells (Gm.cells zeroG (.slice none 0 0)) 28)
  have co := Lib.hid (own_any g A n c _ hn (by have := hg.2.2.1; omega) ((hr.below hb0).wider hb0.size))
  have cm := fun X (hX : Below w.heap.size w X) => Lib.hid (may_yes g A n c X hg hn ((hr.below hX).wider hX.size))
  have cs := fun X => Lib.hid (isslot_any i (by omega) X)
  rw [decide_eq_true (show (0 : Int) ≤ i by omega), decide_eq_true (show (i : Int) < 8 by omega), Bool.and_self] at cs
  have cp := fun B X (hX : Has w.heap.size B g X) (hB : w.heap.size ≤ B) => Lib.hid (place_walk g w.heap.size B 0 x y d X hB hX hd hx hy hdd)
  have q0 : (Gm.cells g (.slice A n c))[2 + i * 7]? = some (.bool false) := (Gm.cells_ship g _ i 0 hi (by omega)).trans (by show some (Value.bool (g.ship i).on) = _; rw [ho])
  obtain ⟨t, ht⟩ : ∃ t, t = g.ship i := ⟨_, rfl⟩
  have r0 : ∀ s, (Gm.cells { g with dice := d } s)[2 + i * 7]? = some (.bool t.on) := fun s => (Gm.cells_ship { g with dice := d } s i 0 hi (by omega)).trans (by rw [ht]; rfl)
  have r1 : ∀ s, (Gm.cells { g with dice := d } s)[2 + i * 7 + 1]? = some (.int .i32 t.x) := fun s => (Gm.cells_ship { g with dice := d } s i 1 hi (by omega)).trans (by rw [ht]; rfl)
  have r2 : ∀ s, (Gm.cells { g with dice := d } s)[2 + i * 7 + 2]? = some (.int .i32 t.y) := fun s => (Gm.cells_ship { g with dice := d } s i 2 hi (by omega)).trans (by rw [ht]; rfl)
  have r3 : ∀ s, (Gm.cells { g with dice := d } s)[2 + i * 7 + 3]? = some (.int .i32 t.vx) := fun s => (Gm.cells_ship { g with dice := d } s i 3 hi (by omega)).trans (by rw [ht]; rfl)
  have r4 : ∀ s, (Gm.cells { g with dice := d } s)[2 + i * 7 + 4]? = some (.int .i32 t.vy) := fun s => (Gm.cells_ship { g with dice := d } s i 4 hi (by omega)).trans (by rw [ht]; rfl)
  have r5 : ∀ s, (Gm.cells { g with dice := d } s)[2 + i * 7 + 5]? = some (.int .i64 t.cool) := fun s => (Gm.cells_ship { g with dice := d } s i 5 hi (by omega)).trans (by rw [ht]; rfl)
  have r6 : ∀ s, (Gm.cells { g with dice := d } s)[2 + i * 7 + 6]? = some (.int .i64 t.score) := fun s => (Gm.cells_ship { g with dice := d } s i 6 hi (by omega)).trans (by rw [ht]; rfl)
  have hi8 : (i : Int) < 8 := by omega
  have hN := Lib.hid hn
  have HB := Lib.hid hb0
  have B1 := Lib.hid b1
  have B2 := Lib.hid b2
  clear hr hn b1 b2 hb0 ht hx hy hdd ho hg
  go_enter Tryz.func96, Tryz.ntmps96
  go_upto_region 5 with (first | (refine wpList_alloc_game rfl rfl ?_) | ((with_reducible refine load_gate rfl rfl ?_); apply LoadGame.mk rfl; (with_reducible exact B1.out)) | ((with_reducible refine load_gate rfl rfl ?_); apply LoadGame.mk rfl; (with_reducible exact D1.out)) | ((with_reducible refine load_gate rfl rfl ?_); apply LoadGame.mk rfl; exact F1.out) | (go_at_call 98; ((with_reducible refine (co.out).mono ?_); rintro e w1 ⟨A1, c1, rfl, ho1, hb1⟩; have HB1 := Lib.hid ((HB.out.trans (hb1.mono HB.out.size)).alloc (by have := hb1.size; simp at this; omega) (.cells (Gm.cells g (.slice A1 n c1)) 28)); have H1 := Lib.hid (has_made (w := w) hN.out (own_rebase ho1 (by simp; omega))); have D1 := Lib.hid ((B1.out.below hb1 (by simp <;> omega)).alloc (.cells (Gm.cells g (.slice A1 n c1)) 28)); have D2 := Lib.hid ((B2.out.below hb1 (by simp <;> omega)).alloc (.cells (Gm.cells g (.slice A1 n c1)) 28)); have s1 : w.heap.size + 1 < w1.heap.size := (by have := hb1.size; simp at this; omega); clear ho1 hb1)) | (refine wpList_store_game_new rfl rfl rfl rfl rfl rfl ?_) | (go_at_call 24; ((with_reducible refine ((cm _ HB1.out).out).mono ?_); rintro e w2 ⟨rfl, hb2⟩; have HB2 := Lib.hid (HB1.out.trans (hb2.mono HB1.out.size)); have H2 := Lib.hid (H1.out.call hb2); have E1 := (D1.out.below hb2 D1.out.lt).cell; have E2 := Lib.hid (D2.out.below hb2 D2.out.lt); clear hb2)) | (go_at_call 91; ((with_reducible refine ((cs _).out).mono ?_); rintro e w' ⟨rfl, rfl⟩)) | (go_at_call 126; ((with_reducible refine ((cp _ _ H2.out (by omega)).out).mono ?_); rintro e w3 ⟨rfl, H3, K3⟩; have ne2 : w.heap.size + 1 ≠ w1.heap.size := (by omega); obtain ⟨A3, c3, hB3, hO3⟩ := H3; have k3 := hB3.cell; have f3 := hB3.free; have G2 := Lib.hid (stored_far (B := w1.heap.size) (k := i) (E2.out.keep K3 ne2 (by decide)) ne2 ⟨true, x, y, 0, 0, 0, 0⟩); have F1 := Lib.hid (blk_ship hB3 hi ⟨true, x, y, 0, 0, 0, 0⟩); have hO3H := Lib.hid (stored_own hO3 (hB3.unowned hO3 (by decide)) ⟨true, x, y, 0, 0, 0, 0⟩ (B := w1.heap.size) (k := i)); have KK := Lib.hid (stored_below (B := w1.heap.size) (k := i) (HB2.out.trans ((K3.to HB2.out.size))) (by omega) ⟨true, x, y, 0, 0, 0, 0⟩); clear hB3 hO3 K3)) | ((with_reducible refine store_gate rfl rfl ?_); apply StoreGame.mk rfl rfl rfl; exact G2.out))
  go_wp2_with (first | ((with_reducible refine load_gate rfl rfl ?_); apply LoadGame.mk rfl; exact F1.out) | ((with_reducible refine store_gate rfl rfl ?_); apply StoreGame.mk rfl rfl rfl; exact G2.out))
  refine bodyPost_ret (v := .tuple #[.agg (Gm.cells { g with dice := d, ship := Gm.upd g.ship i ⟨true, x, y, 0, 0, 0, 0⟩ } (.slice A3 g.shots.length c3)), .int .i64 0]) ?_ ?_ ?_
  · have hh := results_cell_tmp (P := Tryz.prog) (fn := Tryz.f96) (p := 4) (q := 5) rfl
    exact hh _ _ _ _ (Gm.cells { g with dice := d, ship := Gm.upd g.ship i ⟨true, x, y, 0, 0, 0, 0⟩ } (.slice A3 g.shots.length c3)) _ rfl (Box.row G2.out _) Tryz.underlying28 rfl game_info
  · rfl
  · refine ⟨A3, c3, rfl, ?_, ?_⟩
    · exact Lies.owned (own_setRow hO3H.out (G2.out.unowned hO3H.out (by decide)) _)
    · exact Below.setRow' KK.out (by omega) _
theorem spawn_yes (g : Gm.G) (A : Option Addr) (n c i : Nat) (w : World) (hg : Gm.ok g) (hd : 0 ≤ g.dice ∧ g.dice ≤ 18446744073709551615) (hn : n = g.shots.length) (hr : Lies w w.heap.size 6 A n (Gm.shotCells g.shots)) (hi : i < 8) (ho : (g.ship i).on = false) :
    Calls Tryz.prog 96 #[.agg (Gm.cells g (.slice A n c)), .int .i64 i] w (Out (Gm.spawn g i) 0 w) :=
  spawn_walk g A n c i _ _ _ w hg hd hn hr hi ho rfl rfl rfl

end Go.Proofs.YtiahpncglpfjeaaGreat
namespace Go.Proofs.YtiahpncglpfjeaaGreat
open Go.RowKit Go.Shelf
set_option linter.unusedVariables false
attribute [local go_sem] Oper.semAt_some
/-- A frame for slot k. -/
def stepOne (ps : Nat → Gm.In) (g : Gm.G) (k : Nat) : Gm.G := { g with ship := Gm.upd g.ship k (Gm.moved (ps k) g.shots.length (g.ship k)), shots := g.shots ++ Gm.made (ps k) g.shots.length k (g.ship k) }
def over (ps : Nat → Gm.In) {on : Nat → Bool} (g : Gm.G) (pre : List (Slot on)) : Gm.G := pre.foldl (fun g x => stepOne ps g x.1) g
theorem over_snoc (ps : Nat → Gm.In) {on : Nat → Bool} (g : Gm.G) (pre : List (Slot on)) (x : Slot on) : over ps g (pre ++ [x]) = stepOne ps (over ps g pre) x.1 := by
  unfold over; rw [List.foldl_append]; rfl
/-- What holds of a game on the way; the ships of on fly, and no other. -/
structure Fit (on : Nat → Bool) (g : Gm.G) : Prop where
  ships : ∀ i, i < 8 → Gm.okShip (g.ship i)
  shots : ∀ t ∈ g.shots, Gm.okShot t
  len : g.shots.length ≤ 32
  flags : ∀ i, i < 8 → (g.ship i).on = on i
theorem moved_on (p : Gm.In) (n : Nat) (s : Gm.Ship) : (Gm.moved p n s).on = s.on := by
  unfold Gm.moved; split
  · rename_i h; rw [h]
  · rfl
theorem stepOne_fit {on : Nat → Bool} {ps : Nat → Gm.In} {g : Gm.G} {k : Nat} (h : Fit on g) (hk : k < 8) : Fit on (stepOne ps g k) := by
  refine ⟨fun i hi => ?_, fun t ht => ?_, ?_, fun i hi => ?_⟩
  · by_cases e : i = k
    · subst e; show Gm.okShip (Gm.upd _ _ _ _); rw [Gm.upd_same]; exact Gm.moved_ok (h.ships _ hi)
    · show Gm.okShip (Gm.upd _ _ _ _); rw [Gm.upd_other _ _ e]; exact h.ships _ hi
  · rcases List.mem_append.1 (show t ∈ g.shots ++ Gm.made (ps k) g.shots.length k (g.ship k) from ht) with ht | ht
    · exact h.shots _ ht
    · exact Gm.made_ok (by omega) _ ht
  · show (g.shots ++ Gm.made (ps k) g.shots.length k (g.ship k)).length ≤ 32
    have := Gm.made_len (ps k) g.shots.length k (g.ship k)
    have := h.len
    rw [List.length_append]; omega
  · by_cases e : i = k
    · subst e; show (Gm.upd _ _ _ _).on = _; rw [Gm.upd_same, moved_on]; exact h.flags _ hi
    · show (Gm.upd _ _ _ _).on = _; rw [Gm.upd_other _ _ e]; exact h.flags _ hi
theorem over_fit {on : Nat → Bool} {ps : Nat → Gm.In} {g : Gm.G} (h : Fit on g) : ∀ pre : List (Slot on), Fit on (over ps g pre) := by
  intro pre
  unfold over
  induction pre generalizing g with
  | nil => exact h
  | cons x pre ih => exact ih (stepOne_fit h x.2.1)
theorem over_from {on : Nat → Bool} (ps : Nat → Gm.In) (g : Gm.G) (hon : ∀ i, i < 8 → (g.ship i).on = on i) : ∀ n i, i + n = 8 →
    over ps { g with ship := (Gm.ph1 ps g i).1, shots := (Gm.ph1 ps g i).2 } (flies on n i) = { g with ship := (Gm.ph1 ps g 8).1, shots := (Gm.ph1 ps g 8).2 }
  | 0, i, h => by obtain rfl : i = 8 := by omega
                  rfl
  | n + 1, i, h => by
    have ih := over_from ps g hon n (i + 1) (by omega)
    cases ho : on i
    · rw [flies_no ho, ← ih]
      have e := Gm.next_off (p := ps i) (n := (Gm.ph1 ps g i).2.length) (i := i) (s := (Gm.ph1 ps g i).1 i) (by rw [Gm.ph1_later ps g i i (Nat.le_refl _), hon i (by omega), ho])
      have e0 : Gm.ph1 ps g (i + 1) = Gm.ph1 ps g i := by
        show (Gm.upd _ i _, _ ++ _) = _
        rw [e.1, e.2, Gm.upd_self, List.append_nil]
      rw [e0]
    · rw [flies_yes (by omega) ho, ← ih]
      rfl
theorem over_all {on : Nat → Bool} (ps : Nat → Gm.In) (g : Gm.G) (hon : ∀ i, i < 8 → (g.ship i).on = on i) : over ps g (flies on 8 0) = { g with ship := (Gm.ph1 ps g 8).1, shots := (Gm.ph1 ps g 8).2 } :=
  over_from ps g hon 8 0 rfl
theorem upd_twice (f : Nat → Gm.Ship) (k : Nat) (s t : Gm.Ship) : Gm.upd (Gm.upd f k s) k t = Gm.upd f k t := funext fun j => by
  unfold Gm.upd; split <;> rfl
/-- Steered and shot: that is a frame for a slot. -/
theorem shot_step (ps : Nat → Gm.In) (g : Gm.G) (k : Nat) (hon : (g.ship k).on = true) (hc : 0 ≤ (g.ship k).cool) :
    shotG (shipG g k (steered (g.ship k) (Gf.tame (ps k).x) (Gf.tame (ps k).y))) k (Gf.tame (ps k).x) (Gf.tame (ps k).y) (ps k).b = stepOne ps g k := by
  unfold shotG stepOne
  have e1 : (shipG g k (steered (g.ship k) (Gf.tame (ps k).x) (Gf.tame (ps k).y))).ship k = steered (g.ship k) (Gf.tame (ps k).x) (Gf.tame (ps k).y) := Gm.upd_same _ _ _
  rw [e1]
  have e2 : (steered (g.ship k) (Gf.tame (ps k).x) (Gf.tame (ps k).y)).cool = (g.ship k).cool := rfl
  rw [e2]
  have e3 : (steered (g.ship k) (Gf.tame (ps k).x) (Gf.tame (ps k).y)).on = true := hon
  by_cases h0 : 0 < (g.ship k).cool
  · rw [if_pos h0]
    have e := Gm.next_cool (p := ps k) (n := g.shots.length) (i := k) hon h0
    rw [e.1, e.2, List.append_nil]
    show { g with ship := Gm.upd (Gm.upd g.ship k _) k _ } = _
    rw [upd_twice]
    dsimp only [steered]
    rw [hon]; rfl
  · rw [if_neg h0]
    have hc0 : (g.ship k).cool = 0 := by omega
    by_cases hp : (ps k).b % 2 = 1 ∧ (shipG g k (steered (g.ship k) (Gf.tame (ps k).x) (Gf.tame (ps k).y))).shots.length < 32
    · rw [if_pos hp]
      have e := Gm.next_shot (p := ps k) (n := g.shots.length) (i := k) hon hc0 (by unfold Gm.shoots; simp; exact ⟨by omega, hp.1, hp.2⟩)
      rw [e.1, e.2]
      show ({ g with ship := Gm.upd (Gm.upd g.ship k _) k _, shots := _ } : Gm.G) = _
      rw [upd_twice]
      dsimp only [steered]
      rw [hon]; rfl
    · rw [if_neg hp]
      have e := Gm.next_rest (p := ps k) (n := g.shots.length) (i := k) hon hc0 (by
        unfold Gm.shoots
        cases h : (decide ((g.ship k).cool ≤ 0) && (decide ((ps k).b % 2 = 1) && decide (g.shots.length < 32)))
        · rfl
        · simp at h; exact absurd ⟨h.2.1, h.2.2⟩ hp)
      rw [e.1, e.2, List.append_nil]
      show ({ g with ship := Gm.upd g.ship k _ } : Gm.G) = _
      congr 2
      show steered (g.ship k) _ _ = _
      unfold steered
      rw [hon, hc0]; rfl

theorem Has.turned {b B : Nat} {g : Gm.G} {W W' : World} {row : Option Nat} (h : Has b B g W) (hg : W.grownBy W' row) (hr : ∀ r, row = some r → ∃ o : Obj, W.heap[r]? = some o ∧ o.isCells = false) : Has b B g W' := by
  obtain ⟨A, c, h, hl, h' | ⟨gg, cap, cur, hv, hbg, hgg, hx⟩⟩ := h
  · exact ⟨A, c, h.turned hg hr, hl, .inl h'⟩
  · exact ⟨A, c, h.turned hg hr, hl, .inr ⟨gg, cap, cur, hv, hbg, (Box.turned ⟨hgg⟩ hg hr).is, hx⟩⟩
theorem Keep.others {b B : Nat} {w w' : World} {t : TypeId} {cs : Array Value} (h : Keep b B w w') (hB : Box w B t cs) : KeepsOthers w w' :=
  ⟨h.size, fun k o hk ho => (h.block k (Array.getElem?_eq_some_iff.1 hk).1 (.inr ⟨fun e => (by subst e; rw [hB.is] at hk; injection hk with hk; subst hk; cases ho), fun cs e => (by rw [hk] at e; injection e with e; subst e; cases ho)⟩)).trans hk⟩
theorem Has.flags {b B : Nat} {g : Gm.G} {W : World} (h : Has b B g W) (k : Nat) (hk : k < 8) : W.cell? ⟨B, 2 + k * 7, none⟩ = some (.bool (g.ship k).on) := by
  obtain ⟨A, c, h, _⟩ := h
  exact (h.cell _).trans (Gm.cells_ship _ _ k 0 hk (by omega))

/-- What the ships' part finds. -/
structure Mid (b Bn Bi Br Bg : Nat) (ps : Nat → Gm.In) (w0 : World) (g : Gm.G) (W : World) : Prop where
  has : Has b Bn g W
  ins : Box W Bi 40 (Gm.insCells ps).toArray
  res : Box W Br 28 (Gm.cells zeroG (.slice none 0 0))
  fly : Box W Bg 132 #[.pointer (some ⟨Bn, 0, none⟩)]
  below : Below b w0 W
theorem Mid.turned {b Bn Bi Br Bg : Nat} {ps : Nat → Gm.In} {w0 : World} {g : Gm.G} {W W' : World} {row : Option Nat} (h : Mid b Bn Bi Br Bg ps w0 g W) (hb : b ≤ w0.heap.size) (hg : W.grownBy W' row) (hr : ∀ r, row = some r → b ≤ r ∧ ∃ o : Obj, W.heap[r]? = some o ∧ o.isCells = false) : Mid b Bn Bi Br Bg ps w0 g W' :=
  ⟨h.has.turned hg fun r e => (hr r e).2, h.ins.turned hg fun r e => (hr r e).2, h.res.turned hg fun r e => (hr r e).2, h.fly.turned hg fun r e => (hr r e).2, h.below.grown hg (Nat.le_trans hb h.below.size) fun k e => (hr k e).1⟩
theorem Mid.kept {b Bn Bi Br Bg : Nat} {ps : Nat → Gm.In} {w0 : World} {g g' : Gm.G} {W W' : World} (h : Mid b Bn Bi Br Bg ps w0 g W) (hb : b ≤ w0.heap.size) (hn : Br ≠ Bn) (hh : Has b Bn g' W') (hk : Keep b Bn W W') : Mid b Bn Bi Br Bg ps w0 g' W' := by
  obtain ⟨A, c, hB, _⟩ := h.has
  exact ⟨hh, h.ins.keep hk (Box.apart h.ins hB (by decide)) (by decide), h.res.keep hk hn (by decide), h.fly.keep hk (Box.apart h.fly hB (by decide)) (by decide), h.below.trans (hk.to (Nat.le_trans hb h.below.size))⟩
end Go.Proofs.YtiahpncglpfjeaaGreat
namespace Go.Proofs.YtiahpncglpfjeaaGreat
open Go.RowKit Go.Shelf
set_option linter.unusedVariables false

/-- A game lies in block B; its shots are the slice of A, with room for c. -/
structure HasAt (b B : Nat) (A : Option Addr) (c : Nat) (g : Gm.G) (w : World) : Prop where
  game : Box w B 28 (Gm.cells g (.slice A g.shots.length c))
  own : w.ownsRow b 90 6 (.slice A g.shots.length c) g.shots.length (Gm.shotCells g.shots)
section
variable {b B c : Nat} {A : Option Addr} {g g' : Gm.G} {w w' : World}
theorem HasAt.has (h : HasAt b B A c g w) : Has b B g w := ⟨A, c, h.game, h.own⟩
theorem HasAt.alloc (h : HasAt b B A c g w) (o : Obj) : HasAt b B A c g (w.alloc o) := ⟨h.game.alloc o, h.own.alloc o⟩
theorem HasAt.drew (h : HasAt b B A c g w) : HasAt b B A c g w.drew := ⟨h.game.drew, h.own.drew⟩
theorem HasAt.call (h : HasAt b B A c g w) (hb : Below w.heap.size w w') : HasAt b B A c g w' := ⟨h.game.below hb h.game.lt, own_below h.own hb (Nat.le_refl _)⟩
theorem HasAt.offRow {p : Nat} {t : TypeId} {cs : Array Value} (h : HasAt b B A c g w) (hne : p ≠ B) (hp : Box w p t cs) (ht : t ≠ 90) (cs' : Array Value) : HasAt b B A c g (w.setRow p cs') :=
  ⟨h.game.row_far (fun e => hne e.symm) cs', own_setRow h.own (hp.unowned h.own (fun e => ht e.symm)) cs'⟩
theorem HasAt.off {p : Addr} {t : TypeId} {cs : Array Value} (h : HasAt b B A c g w) (hne : p.block ≠ B) (hp : Box w p.block t cs) (ht : t ≠ 90) (u : Value) : HasAt b B A c g (w.setCell p u) :=
  ⟨h.game.far (fun e => hne e.symm) u, ownsRow_setCell_other h.own (hp.unowned h.own (fun e => ht e.symm)) u⟩
theorem HasAt.put (h : HasAt b B A c g w) (hs : g'.shots = g.shots) (hB : ∀ s, Box w B 28 (Gm.cells g s) → Box w' B 28 (Gm.cells g' s)) (hk : ∀ k, k ≠ B → w'.heap[k]? = w.heap[k]?) : HasAt b B A c g' w' := by
  obtain ⟨h, h'⟩ := h
  refine ⟨by rw [hs]; exact hB _ h, ?_⟩
  rw [hs]
  have hne := h.unowned h' (by decide)
  obtain ⟨hl, e | ⟨gg, cap, cur, hv, hbg, hgg, hr⟩⟩ := h'
  · exact ⟨hl, .inl e⟩
  · refine ⟨hl, .inr ⟨gg, cap, cur, hv, hbg, (hk gg (fun e => hne (by rw [hv, e]; rfl))).trans hgg, hr⟩⟩
theorem HasAt.stored (h : HasAt b B A c g w) {k : Nat} (hk : k < 8) (s : Gm.Ship) : HasAt b B A c { g with ship := Gm.upd g.ship k s } (stored w B k s) :=
  h.put rfl (fun _ hB => blk_ship hB hk s) (fun j hj => stored_else s j hj)
theorem HasAt.field {k : Nat} (h : HasAt b B A c g w) {t' : Gm.Ship} {i : Nat} {u : Value} (he : ∀ s, (Gm.cells (shipG g k (g.ship k)) s).setIfInBounds i u = Gm.cells (shipG g k t') s) : HasAt b B A c (shipG g k t') (w.setCell ⟨B, i, none⟩ u) :=
  h.put rfl (fun s hB => he s ▸ (by rw [shipG, Gm.upd_self]; exact hB.put i u)) (fun j hj => heap_setCell_other _ _ j _ hj)
end

set_option maxRecDepth 100000 in
set_option maxHeartbeats 1000000 in
theorem place_at (g : Gm.G) (b B : Nat) (A : Option Addr) (c : Nat) (sc : Int) (x y d : Int) (w : World) (hbB : b ≤ B) (h : HasAt b B A c g w) (hd : 0 ≤ g.dice ∧ g.dice ≤ 18446744073709551615)
    (hx : Dn.share (Dn.next g.dice) 16777216 = x) (hy : Dn.share (Dn.next (Dn.next g.dice)) 16777216 = y) (hdd : Dn.next (Dn.next g.dice) = d) :
    Calls Tryz.prog 126 #[.pointer (some ⟨B, 0, none⟩), .int .i64 sc] w fun e w' => e = .returned (.agg #[.bool true, .int .i32 x, .int .i32 y, .int .i32 0, .int .i32 0, .int .i64 0, .int .i64 sc]) ∧ HasAt b B A c { g with dice := d } w' ∧ Keep b B w w' := by
  have c1 := fun X => Lib.hid (place_any g.dice hd X)
  rw [hx, hy, hdd] at c1
  have HH := Lib.hid (h.alloc (.cells #[.bool false, .int .i32 0, .int .i32 0, .int .i32 0, .int .i32 0, .int .i64 0, .int .i64 0] 24))
  have HK := Lib.hid ((Keep.refl hbB w).alloc (.cells #[.bool false, .int .i32 0, .int .i32 0, .int .i32 0, .int .i32 0, .int .i64 0, .int .i64 0] 24))
  have hBs := h.game.lt
  have bT : Box (w.alloc (.cells #[.bool false, .int .i32 0, .int .i32 0, .int .i32 0, .int .i32 0, .int .i64 0, .int .i64 0] 24)) w.heap.size 24 #[.bool false, .int .i32 0, .int .i32 0, .int .i32 0, .int .i32 0, .int .i64 0, .int .i64 0] := Box.made _ _ _
  have BT := Lib.hid bT
  have BG := Lib.hid (h.game.alloc (.cells #[.bool false, .int .i32 0, .int .i32 0, .int .i32 0, .int .i32 0, .int .i64 0, .int .i64 0] 24))
  have hc := BG.out.cell
  have e1 := Gm.cells_1 g (.slice A g.shots.length c)
  clear bT h hx hy hdd
  go_enter Tryz.func126, Tryz.ntmps126
  go_wp2_with (first | (go_at_call 141; ((with_reducible refine ((c1 _).out).mono ?_); rintro e w1 ⟨rfl, hb⟩; have D1 := BG.out.below hb (by simp <;> omega); have T1 := BT.out.below hb (by simp <;> omega); have k1 := D1.cell; have f1 := D1.free; have H1 := Lib.hid (HH.out.call hb); have K1 := Lib.hid ((HK.out.call hb).put 1 (.int .u64 d)); have ne1 : w.heap.size ≠ B := (by omega); have T2 := Lib.hid (T1.far (p := ⟨B, 1, none⟩) ne1 (.int .u64 d)); clear D1 T1 hb ne1)) | (refine wpList_build_is rfl (t := 24) (vs := [(0, .bool true), (1, .int .i32 x), (2, .int .i32 y), (6, .int .i64 sc)]) rfl rfl (built_ship _ _ _) ?_) | ((with_reducible refine blk_gate (t := 24) rfl rfl ship7_info ?_); apply StoreBlk.mk rfl rfl; exact T2.out; (focus (simp [Value.oneCell'])); (focus rfl); (focus rfl)))
  refine bodyPost_ret (v := .agg #[.bool true, .int .i32 x, .int .i32 y, .int .i32 0, .int .i32 0, .int .i64 0, .int .i64 sc]) ?_ ?_ ?_
  · exact results_cell_row rfl _ _ _ _ #[.bool true, .int .i32 x, .int .i32 y, .int .i32 0, .int .i32 0, .int .i64 0, .int .i64 sc] (0, 0) _ rfl (Box.row T2.out _).is Tryz.underlying24 rfl ship7_info
  · rfl
  · refine ⟨rfl, ?_, K1.out.freshRow (Nat.le_refl _) _⟩
    have h2 : HasAt b B A c { g with dice := d } (w1.setCell ⟨B, 1, none⟩ (.int .u64 d)) := H1.out.put rfl (fun _ hB => blk_dice hB d) (fun j hj => heap_setCell_other _ _ j _ hj)
    exact h2.offRow (by omega) T2.out (by decide) _

set_option maxRecDepth 100000 in
set_option maxHeartbeats 4000000 in
theorem hit_walk (g : Gm.G) (b B : Nat) (A : Option Addr) (c kh o : Nat) (x y d : Int) (w : World) (hbB : b ≤ B) (hk : kh < 8) (ho : o < 8) (h : HasAt b B A c g w) (hd : 0 ≤ g.dice ∧ g.dice ≤ 18446744073709551615) (hs : ∀ i, i < 8 → 0 ≤ (g.ship i).score ∧ (g.ship i).score ≤ 1073741824)
    (hx : Dn.share (Dn.next g.dice) 16777216 = x) (hy : Dn.share (Dn.next (Dn.next g.dice)) 16777216 = y) (hdd : Dn.next (Dn.next g.dice) = d) :
    Calls Tryz.prog 133 #[.pointer (some ⟨B, 0, none⟩), .pointer (some ⟨B, 2 + kh * 7, none⟩), .int .i64 o] w fun e w' => e = .returned (.tuple #[]) ∧ HasAt b B A c { g with dice := d, ship := Gm.more (Gm.upd g.ship kh ⟨true, x, y, 0, 0, 0, (g.ship kh).score⟩) o } w' ∧ Keep b B w w' := by
  have cp := fun sc X (hX : HasAt b B A c g X) => Lib.hid (place_at g b B A c sc x y d X hbB hX hd hx hy hdd)
  have hc := h.game.cell
  have s6 := Gm.cells_ship g (.slice A g.shots.length c) kh 6 hk (by omega)
  simp only [Gm.Ship.cells, List.getElem?_cons_zero, List.getElem?_cons_succ] at s6
  obtain ⟨t, ht⟩ : ∃ t, t = g.ship kh := ⟨_, rfl⟩
  have q0 : ∀ s, (Gm.cells { g with dice := d } s)[2 + kh * 7]? = some (.bool t.on) := fun s => (Gm.cells_ship { g with dice := d } s kh 0 hk (by omega)).trans (by rw [ht]; rfl)
  have q1 : ∀ s, (Gm.cells { g with dice := d } s)[2 + kh * 7 + 1]? = some (.int .i32 t.x) := fun s => (Gm.cells_ship { g with dice := d } s kh 1 hk (by omega)).trans (by rw [ht]; rfl)
  have q2 : ∀ s, (Gm.cells { g with dice := d } s)[2 + kh * 7 + 2]? = some (.int .i32 t.y) := fun s => (Gm.cells_ship { g with dice := d } s kh 2 hk (by omega)).trans (by rw [ht]; rfl)
  have q3 : ∀ s, (Gm.cells { g with dice := d } s)[2 + kh * 7 + 3]? = some (.int .i32 t.vx) := fun s => (Gm.cells_ship { g with dice := d } s kh 3 hk (by omega)).trans (by rw [ht]; rfl)
  have q4 : ∀ s, (Gm.cells { g with dice := d } s)[2 + kh * 7 + 4]? = some (.int .i32 t.vy) := fun s => (Gm.cells_ship { g with dice := d } s kh 4 hk (by omega)).trans (by rw [ht]; rfl)
  have q5 : ∀ s, (Gm.cells { g with dice := d } s)[2 + kh * 7 + 5]? = some (.int .i64 t.cool) := fun s => (Gm.cells_ship { g with dice := d } s kh 5 hk (by omega)).trans (by rw [ht]; rfl)
  have q6 : ∀ s, (Gm.cells { g with dice := d } s)[2 + kh * 7 + 6]? = some (.int .i64 t.score) := fun s => (Gm.cells_ship { g with dice := d } s kh 6 hk (by omega)).trans (by rw [ht]; rfl)
  have ho8 : (o : Int) < 8 := by omega
  have HH := Lib.hid h
  generalize hsc : (g.ship kh).score = sc at s6 ⊢
  clear h ht hx hy hdd
  go_enter Tryz.func133, Tryz.ntmps133
  go_upto_region 1 with (go_at_call 126; ((with_reducible refine ((cp _ _ HH.out).out).mono ?_); rintro e w1 ⟨rfl, H1, K1⟩; have hB1 := H1.game; have c1 := hB1.cell; have f1 := hB1.free; have H2 := Lib.hid (H1.stored hk ⟨true, x, y, 0, 0, 0, sc⟩); have K2 := Lib.hid (K1.stored (k := kh) ⟨true, x, y, 0, 0, 0, sc⟩); clear H1 K1 hB1 hc))
  have hgen : ∀ W : World, W = stored w1 B kh ⟨true, x, y, 0, 0, 0, sc⟩ → HasAt b B A c { g with dice := d, ship := Gm.upd g.ship kh ⟨true, x, y, 0, 0, 0, sc⟩ } W ∧ Keep b B w W := fun W hW => by subst hW; exact ⟨H2.out, K2.out⟩
  obtain ⟨W2, hW2⟩ : ∃ W2, W2 = stored w1 B kh ⟨true, x, y, 0, 0, 0, sc⟩ := ⟨_, rfl⟩
  have hh2 := hgen W2 hW2
  simp only [stored] at hW2
  rw [← hW2]
  obtain ⟨H3, K3⟩ := hh2
  have hs3 : ∀ i, i < 8 → 0 ≤ (Gm.upd g.ship kh ⟨true, x, y, 0, 0, 0, sc⟩ i).score ∧ (Gm.upd g.ship kh ⟨true, x, y, 0, 0, 0, sc⟩ i).score ≤ 1073741824 := fun i hi => by
    have h1 := hs i hi
    have h2 := hs kh hk
    unfold Gm.upd; split
    · dsimp only; rw [← hsc]; exact h2
    · exact h1
  generalize hF : Gm.upd g.ship kh ⟨true, x, y, 0, 0, 0, sc⟩ = F at H3 hs3
  have FH := Lib.hid hF
  have sco := hs3 o ho
  have r0 := Gm.cells_ship { g with dice := d, ship := F } (.slice A g.shots.length c) o 0 ho (by omega)
  have r6 := Gm.cells_ship { g with dice := d, ship := F } (.slice A g.shots.length c) o 6 ho (by omega)
  simp only [Gm.Ship.cells, List.getElem?_cons_zero, List.getElem?_cons_succ, Nat.add_zero] at r0 r6
  have hsco := Lib.hid (fun u => H3.field (k := o) (t' := { F o with score := u }) (fun s => set_score { g with dice := d, ship := F } s o (F o) ho u))
  have H3H := Lib.hid H3
  have K3H := Lib.hid K3
  have k3 := H3.game.cell
  have f3 := H3.game.free
  have FF : Hid (Gm.more F o = if (F o).on = true then Gm.upd F o { F o with score := min ((F o).score + 1) 1073741824 } else F) := Lib.hid rfl
  clear H2 K2 hgen hW2 hF H3 K3 c1 f1 q0 q1 q2 q3 q4 q5 q6 hs3 cp HH s6 hs
  cases hon : (F o).on
  · rw [hon] at r0
    have HON := Lib.hid hon
    clear hon
    go_wp2
    go_end0
    refine ⟨rfl, ?_, K3H.out⟩
    rw [FH.out, FF.out, if_neg (by rw [HON.out]; simp)]
    exact H3H.out
  · rw [hon] at r0
    have HON := Lib.hid hon
    clear hon
    generalize (F o).score = so at *
    have hwrap : IntKind.i64.wrap (so + 1) = so + 1 := by rw [IntKind.wrap_i64]; omega
    by_cases hlt : so + 1 ≤ 1073741824
    · have MM := Lib.hid (Int.min_eq_left hlt)
      go_wp2
      go_end0
      refine ⟨rfl, ?_, K3H.out.put _ _⟩
      rw [FH.out, FF.out, if_pos HON.out, MM.out]
      exact hsco.out _
    · have MM := Lib.hid (Int.min_eq_right (show (1073741824 : Int) ≤ so + 1 by omega))
      have hlt' : ¬ so + 1 ≤ 1073741824 := hlt
      go_wp2
      go_end0
      refine ⟨rfl, ?_, K3H.out.put _ _⟩
      rw [FH.out, FF.out, if_pos HON.out, MM.out]
      exact hsco.out _
end Go.Proofs.YtiahpncglpfjeaaGreat
namespace Go.Proofs.YtiahpncglpfjeaaGreat
open Go.RowKit Go.Shelf
set_option linter.unusedVariables false

theorem shotCells_set (L : List Gm.Shot) (i j : Nat) (hi : i < L.length) (hj : j < 6) (u : Value) (s' : Gm.Shot) (h : L[i].cells.set j u = s'.cells) : (Gm.shotCells L).set (i * 6 + j) u = Gm.shotCells (L.set i s') := by
  induction L generalizing i with
  | nil => simp at hi
  | cons a L ih =>
    unfold Gm.shotCells at *
    match i with
    | 0 =>
      rw [List.set_cons_zero, List.flatMap_cons, List.flatMap_cons, List.set_append_left _ _ (by simp [Gm.Shot.cells]; omega)]
      congr 1
      simpa using h
    | i + 1 =>
      have hlen : a.cells.length = 6 := rfl
      rw [List.set_cons_succ, List.flatMap_cons, List.flatMap_cons, List.set_append_right _ _ (by rw [hlen]; omega), ← ih i (by simpa using hi) (by simpa using h), hlen]
      congr 2
      omega
/-- A game whose shot i is s. -/
abbrev flyG (G : Gm.G) (i : Nat) (s : Gm.Shot) : Gm.G := { G with shots := G.shots.set i s }
theorem flyG_self (G : Gm.G) (i : Nat) (hi : i < G.shots.length) : flyG G i G.shots[i] = G := by
  unfold flyG; rw [List.set_getElem_self]
theorem HasAt.len {b B c : Nat} {A : Option Addr} {g : Gm.G} {w : World} (h : HasAt b B A c g w) (hn : g.shots.length ≠ 0) : ∃ gs, A = some ⟨gs, 0, none⟩ ∧ b ≤ gs ∧ gs < w.heap.size := by
  obtain ⟨_, ⟨_, h0⟩ | ⟨g', cap, cur, hv, hb, hg, _⟩⟩ := h.own
  · exact absurd h0 hn
  · injection hv with hv
    exact ⟨g', hv, hb, (Array.getElem?_eq_some_iff.1 hg).1⟩
section
variable {b B c gs i : Nat} {G : Gm.G} {s : Gm.Shot} {W : World}
theorem HasAt.shot (h : HasAt b B (some ⟨gs, 0, none⟩) c (flyG G i s) W) (hi : i < G.shots.length) (j : Nat) (hj : j < 6) : W.cell? ⟨gs, i * 6 + j, none⟩ = s.cells[j]? := by
  have h1 := h.own
  dsimp only at h1
  have hl : (G.shots.set i s).length = G.shots.length := by simp
  rw [h1.cellAt (i * 6 + j) (by rw [hl]; omega), Gm.shotCells_at _ i j (by rw [hl]; exact hi) hj]
  simp
theorem HasAt.shotFree (h : HasAt b B (some ⟨gs, 0, none⟩) c G W) (j : Nat) : W.frozen? ⟨gs, j, none⟩ = false := h.own.frozenAt j
theorem HasAt.apart (h : HasAt b B (some ⟨gs, 0, none⟩) c G W) : gs ≠ B := fun e => h.game.unowned h.own (by decide) (by rw [e]; rfl)
theorem HasAt.row (h : HasAt b B (some ⟨gs, 0, none⟩) c G W) : ∃ cs, Box W gs 90 cs ∧ b ≤ gs := by
  obtain ⟨_, ⟨h0, _⟩ | ⟨g', cap, cur, hv, hb, hg, _⟩⟩ := h.own
  · cases h0
  · injection hv with hv
    injection hv with hv
    injection hv with hv
    subst hv
    exact ⟨cur, ⟨hg⟩, hb⟩
theorem HasAt.shotPut (h : HasAt b B (some ⟨gs, 0, none⟩) c (flyG G i s) W) (hi : i < G.shots.length) {j : Nat} (hj : j < 6) {u : Value} {s' : Gm.Shot} (he : s.cells.set j u = s'.cells) : HasAt b B (some ⟨gs, 0, none⟩) c (flyG G i s') (W.setCell ⟨gs, i * 6 + j, none⟩ u) := by
  have hl : (G.shots.set i s).length = G.shots.length := by simp
  have hl' : (G.shots.set i s').length = G.shots.length := by simp
  refine ⟨?_, ?_⟩
  · have hg := h.game
    dsimp only at hg ⊢
    rw [hl] at hg
    rw [hl']
    exact hg.far (p := ⟨gs, i * 6 + j, none⟩) (fun e => h.apart e.symm) u
  · have h1 := (h.own.stored (i * 6 + j) u).1
    dsimp only at h1 ⊢
    rw [hl'] 
    rw [hl] at h1
    rw [shotCells_set _ i j (by rw [hl]; exact hi) hj u s' (by simpa using he), List.set_set] at h1
    exact h1
end

theorem hit_none {f : Nat → Gm.Ship} {s : Gm.Shot} : ∀ n i, i + n = 8 → (∀ y ∈ flies (fun j => (f j).on) n i, Gm.hits1 f s y.1 = false) → Gm.hitFrom f s n i = -1
  | 0, _, _, _ => rfl
  | n + 1, i, hi, h => by
    cases ho : (f i).on
    · rw [flies_no (on := fun j => (f j).on) ho] at h
      rw [Gm.hitFrom_no (by unfold Gm.hits1; rw [ho]; rfl)]
      exact hit_none n (i + 1) (by omega) h
    · rw [flies_yes (on := fun j => (f j).on) (by omega) ho] at h
      rw [Gm.hitFrom_no (h ⟨i, by omega, ho⟩ (by simp))]
      exact hit_none n (i + 1) (by omega) fun y hy => h y (by simp [hy])
theorem hit_first {f : Nat → Gm.Ship} {s : Gm.Shot} : ∀ n i (pre : List (Slot fun j => (f j).on)) (x : Slot fun j => (f j).on) rest, i + n = 8 → flies (fun j => (f j).on) n i = pre ++ x :: rest → (∀ y ∈ pre, Gm.hits1 f s y.1 = false) → Gm.hits1 f s x.1 = true → Gm.hitFrom f s n i = (x.1 : Nat)
  | 0, _, pre, x, rest, _, h, _, _ => by
    have h' : ([] : List (Slot fun j => (f j).on)) = pre ++ x :: rest := h
    have := congrArg List.length h'
    simp at this
  | n + 1, i, pre, x, rest, hi, h, hn, hx => by
    cases ho : (f i).on
    · rw [flies_no (on := fun j => (f j).on) ho] at h
      rw [Gm.hitFrom_no (by unfold Gm.hits1; rw [ho]; rfl)]
      exact hit_first n (i + 1) pre x rest (by omega) h hn hx
    · rw [flies_yes (on := fun j => (f j).on) (by omega) ho] at h
      cases pre with
      | nil =>
        simp only [List.nil_append, List.cons.injEq] at h
        rw [← h.1] at hx ⊢
        rw [Gm.hitFrom_yes hx]
      | cons y pre =>
        simp only [List.cons_append, List.cons.injEq] at h
        have hy := hn y (by simp)
        rw [← h.1] at hy
        rw [Gm.hitFrom_no hy]
        exact hit_first n (i + 1) pre x rest (by omega) h.2 (fun z hz => hn z (by simp [hz])) hx

/-- What becomes of a shot: does it stay, and what is the game then? -/
def gone (G : Gm.G) (i : Nat) (s : Gm.Shot) : Bool × Gm.G :=
  if (Gm.fly s).left = 0 then (false, flyG G i (Gm.fly s))
  else if Gm.hit G.ship (Gm.fly s) < 0 then (true, flyG G i (Gm.fly s))
  else (false, { flyG G i (Gm.fly s) with dice := Gm.placeD G.dice, ship := Gm.more (Gm.anew G.dice G.ship (Gm.hit G.ship (Gm.fly s)).toNat) s.owner.toNat })
end Go.Proofs.YtiahpncglpfjeaaGreat
