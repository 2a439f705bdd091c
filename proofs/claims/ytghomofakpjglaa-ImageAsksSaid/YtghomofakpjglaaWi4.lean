/-
Several texts in one: Ih Ii Tb Qx Rt Tc Td Tk Ij Ik Il Ip Iz.
-/
import Derived.Test.YtghomofakpjglaaWi3
namespace Go.Proofs.Ytghomofakpjglaa
open Go.RowKit
set_option linter.unusedVariables false
set_option linter.unusedSimpArgs false

def Gm.inB (a : Int) : Bool := decide (Gf.wrap a = a)
theorem Gm.inB_iff {a : Int} : Gm.inB a = true ↔ Gm.inF a := by unfold Gm.inB Gm.inF Gf.wrap; simp; omega
def Gm.slowB (a m : Int) : Bool := decide (Fx.clamp a (-m) m = a)
theorem Gm.slowB_iff {a m : Int} (hm : 0 ≤ m) : Gm.slowB a m = true ↔ Gm.slow a m := by unfold Gm.slowB Gm.slow Fx.clamp; simp; omega

set_option maxHeartbeats 1000000 in
theorem there_any (x y : Int) (wx : -2147483648 ≤ x ∧ x ≤ 2147483647) (wy : -2147483648 ≤ y ∧ y ≤ 2147483647) (w : World) :
    Calls Try.prog 94 #[.int .i32 x, .int .i32 y] w fun e w' => e = .returned (.bool (Gm.inB x && Gm.inB y)) ∧ Below w.heap.size w w' := by
  have c1 := fun X => Lib.hid (fldwrap_any x wx X)
  have c2 := fun X => Lib.hid (fldwrap_any y wy X)
  have hx : Hid (Gm.inB x = decide (Gf.wrap x = x)) := Lib.hid rfl
  have hy : Hid (Gm.inB y = decide (Gf.wrap y = y)) := Lib.hid rfl
  generalize Gf.wrap x = X at *
  generalize Gf.wrap y = Y at *
  by_cases h1 : X = x
  · have b1 : (X == x) = true := by simpa using h1
    by_cases h2 : Y = y
    · have b2 : (Y == y) = true := by simpa using h2
      have HE := Lib.hid (show (Gm.inB x && Gm.inB y) = true by rw [hx.out, hy.out]; simp [h1, h2])
      clear h1 h2
      go_enter Try.func94, Try.ntmps94
      go_wp2_with (go_at_call 105; first | ((with_reducible refine ((c1 _).out).mono ?_); rintro e w1 ⟨rfl, hb1⟩; clear c1) | ((with_reducible refine ((c2 _).out).mono ?_); rintro e w2 ⟨rfl, hb2⟩))
      go_ret
      exact ⟨ret_bool HE.out.symm, hb1.trans (hb2.mono hb1.size)⟩
    · have b2 : (Y == y) = false := by simpa using h2
      have HE := Lib.hid (show (Gm.inB x && Gm.inB y) = false by rw [hx.out, hy.out]; simp [h1, h2])
      clear h1 h2
      go_enter Try.func94, Try.ntmps94
      go_wp2_with (go_at_call 105; first | ((with_reducible refine ((c1 _).out).mono ?_); rintro e w1 ⟨rfl, hb1⟩; clear c1) | ((with_reducible refine ((c2 _).out).mono ?_); rintro e w2 ⟨rfl, hb2⟩))
      go_ret
      exact ⟨ret_bool HE.out.symm, hb1.trans (hb2.mono hb1.size)⟩
  · have b1 : (X == x) = false := by simpa using h1
    have HE := Lib.hid (show (Gm.inB x && Gm.inB y) = false by rw [hx.out]; simp [h1])
    clear h1
    go_enter Try.func94, Try.ntmps94
    go_wp2_with (go_at_call 105; first | ((with_reducible refine ((c1 _).out).mono ?_); rintro e w1 ⟨rfl, hb1⟩; clear c1) | ((with_reducible refine ((c2 _).out).mono ?_); rintro e w2 ⟨rfl, hb2⟩))
    go_ret
    exact ⟨ret_bool HE.out.symm, hb1⟩

set_option maxHeartbeats 1000000 in
theorem within_any (x y m : Int) (hm : 0 ≤ m ∧ m ≤ 1000000) (wx : -2147483648 ≤ x ∧ x ≤ 2147483647) (wy : -2147483648 ≤ y ∧ y ≤ 2147483647) (w : World) :
    Calls Try.prog 95 #[.int .i32 x, .int .i32 y, .int .i32 m] w fun e w' => e = .returned (.bool (Gm.slowB x m && Gm.slowB y m)) ∧ Below w.heap.size w w' := by
  have c1 := fun X => Lib.hid (clamp_any x (-m) m wx (by omega) (by omega) X)
  have c2 := fun X => Lib.hid (clamp_any y (-m) m wy (by omega) (by omega) X)
  have hx : Hid (Gm.slowB x m = decide (Fx.clamp x (-m) m = x)) := Lib.hid rfl
  have hy : Hid (Gm.slowB y m = decide (Fx.clamp y (-m) m = y)) := Lib.hid rfl
  have hng : IntKind.i32.wrap (-m) = -m := by rw [IntKind.wrap_i32]; omega
  generalize Fx.clamp x (-m) m = X at *
  generalize Fx.clamp y (-m) m = Y at *
  by_cases h1 : X = x
  · have b1 : (X == x) = true := by simpa using h1
    by_cases h2 : Y = y
    · have b2 : (Y == y) = true := by simpa using h2
      have HE := Lib.hid (show (Gm.slowB x m && Gm.slowB y m) = true by rw [hx.out, hy.out]; simp [h1, h2])
      clear h1 h2
      go_enter Try.func95, Try.ntmps95
      go_wp2_with (go_at_call 106; first | ((with_reducible refine ((c1 _).out).mono ?_); rintro e w1 ⟨rfl, hb1⟩; clear c1) | ((with_reducible refine ((c2 _).out).mono ?_); rintro e w2 ⟨rfl, hb2⟩))
      go_ret
      exact ⟨ret_bool HE.out.symm, hb1.trans (hb2.mono hb1.size)⟩
    · have b2 : (Y == y) = false := by simpa using h2
      have HE := Lib.hid (show (Gm.slowB x m && Gm.slowB y m) = false by rw [hx.out, hy.out]; simp [h1, h2])
      clear h1 h2
      go_enter Try.func95, Try.ntmps95
      go_wp2_with (go_at_call 106; first | ((with_reducible refine ((c1 _).out).mono ?_); rintro e w1 ⟨rfl, hb1⟩; clear c1) | ((with_reducible refine ((c2 _).out).mono ?_); rintro e w2 ⟨rfl, hb2⟩))
      go_ret
      exact ⟨ret_bool HE.out.symm, hb1.trans (hb2.mono hb1.size)⟩
  · have b1 : (X == x) = false := by simpa using h1
    have HE := Lib.hid (show (Gm.slowB x m && Gm.slowB y m) = false by rw [hx.out]; simp [h1])
    clear h1
    go_enter Try.func95, Try.ntmps95
    go_wp2_with (go_at_call 106; first | ((with_reducible refine ((c1 _).out).mono ?_); rintro e w1 ⟨rfl, hb1⟩; clear c1) | ((with_reducible refine ((c2 _).out).mono ?_); rintro e w2 ⟨rfl, hb2⟩))
    go_ret
    exact ⟨ret_bool HE.out.symm, hb1⟩

set_option maxRecDepth 100000 in
set_option maxHeartbeats 2000000 in
theorem mayship_not (x y vx vy cool score : Int) (h : ¬ Gm.okShip ⟨true, x, y, vx, vy, cool, score⟩) (ty : Gm.tyShip ⟨true, x, y, vx, vy, cool, score⟩) (w : World) :
    Calls Try.prog 84 #[.agg #[.bool true, .int .i32 x, .int .i32 y, .int .i32 vx, .int .i32 vy, .int .i64 cool, .int .i64 score]] w fun e w' => e = .returned (.bool false) ∧ Below w.heap.size w w' := by
  obtain ⟨wx, wy, wvx, wvy, wc, ws⟩ := ty
  dsimp only at wx wy wvx wvy wc ws
  have c1 := fun X => Lib.hid (there_any x y wx wy X)
  have c2 := fun X => Lib.hid (within_any vx vy 524288 (by omega) wvx wvy X)
  have hno : Hid (¬ ((Gm.inB x && Gm.inB y) = true ∧ (Gm.slowB vx 524288 && Gm.slowB vy 524288) = true ∧ 0 ≤ cool ∧ cool ≤ 10 ∧ 0 ≤ score ∧ score ≤ 1073741824)) := Lib.hid fun hh => h (by
    obtain ⟨h1, h2, h3, h4, h5, h6⟩ := hh
    rw [Bool.and_eq_true, Gm.inB_iff, Gm.inB_iff] at h1
    rw [Bool.and_eq_true, Gm.slowB_iff (by decide), Gm.slowB_iff (by decide)] at h2
    exact ⟨.inl rfl, h1.1, h1.2, h2.1, h2.2, h3, h4, h5, h6⟩)
  clear h
  generalize (Gm.inB x && Gm.inB y) = T at *
  generalize (Gm.slowB vx 524288 && Gm.slowB vy 524288) = V at *
  cases T
  · clear hno
    go_enter Try.func84, Try.ntmps84
    go_wp2_with (first | (go_at_call 94; ((with_reducible refine ((c1 _).out).mono ?_); rintro e w1 ⟨rfl, hb⟩; have B1 := (Box.made w 24 #[.bool true, .int .i32 x, .int .i32 y, .int .i32 vx, .int .i32 vy, .int .i64 cool, .int .i64 score]).below hb (by simp); have K1 := B1.cell; have Y1 := Lib.hid ((one_below w (.cells #[.bool true, .int .i32 x, .int .i32 y, .int .i32 vx, .int .i32 vy, .int .i64 cool, .int .i64 score] 24)).trans (hb.mono (by simp))); clear hb)) | (go_at_call 95; ((with_reducible refine ((c2 _).out).mono ?_); rintro e w2 ⟨rfl, hb⟩; have B2 := B1.below hb B1.lt; have K2 := B2.cell; have Y2 := Lib.hid (Y1.out.trans (hb.mono Y1.out.size)); clear K1 hb)))
    go_ret
    exact ⟨rfl, Y1.out⟩
  cases V
  · clear hno
    go_enter Try.func84, Try.ntmps84
    go_wp2_with (first | (go_at_call 94; ((with_reducible refine ((c1 _).out).mono ?_); rintro e w1 ⟨rfl, hb⟩; have B1 := (Box.made w 24 #[.bool true, .int .i32 x, .int .i32 y, .int .i32 vx, .int .i32 vy, .int .i64 cool, .int .i64 score]).below hb (by simp); have K1 := B1.cell; have Y1 := Lib.hid ((one_below w (.cells #[.bool true, .int .i32 x, .int .i32 y, .int .i32 vx, .int .i32 vy, .int .i64 cool, .int .i64 score] 24)).trans (hb.mono (by simp))); clear hb)) | (go_at_call 95; ((with_reducible refine ((c2 _).out).mono ?_); rintro e w2 ⟨rfl, hb⟩; have B2 := B1.below hb B1.lt; have K2 := B2.cell; have Y2 := Lib.hid (Y1.out.trans (hb.mono Y1.out.size)); clear K1 hb)))
    go_ret
    exact ⟨rfl, Y2.out⟩
  by_cases d0 : 0 ≤ cool
  rotate_left
  · have e0 : decide (0 ≤ cool) = false := decide_eq_false d0
    clear hno
    go_enter Try.func84, Try.ntmps84
    go_wp2_with (first | (go_at_call 94; ((with_reducible refine ((c1 _).out).mono ?_); rintro e w1 ⟨rfl, hb⟩; have B1 := (Box.made w 24 #[.bool true, .int .i32 x, .int .i32 y, .int .i32 vx, .int .i32 vy, .int .i64 cool, .int .i64 score]).below hb (by simp); have K1 := B1.cell; have Y1 := Lib.hid ((one_below w (.cells #[.bool true, .int .i32 x, .int .i32 y, .int .i32 vx, .int .i32 vy, .int .i64 cool, .int .i64 score] 24)).trans (hb.mono (by simp))); clear hb)) | (go_at_call 95; ((with_reducible refine ((c2 _).out).mono ?_); rintro e w2 ⟨rfl, hb⟩; have B2 := B1.below hb B1.lt; have K2 := B2.cell; have Y2 := Lib.hid (Y1.out.trans (hb.mono Y1.out.size)); clear K1 hb)))
    go_ret
    exact ⟨rfl, Y2.out⟩
  have e0 : decide (0 ≤ cool) = true := decide_eq_true d0
  by_cases d1 : cool ≤ 10
  rotate_left
  · have e1 : decide (cool ≤ 10) = false := decide_eq_false d1
    clear hno
    go_enter Try.func84, Try.ntmps84
    go_wp2_with (first | (go_at_call 94; ((with_reducible refine ((c1 _).out).mono ?_); rintro e w1 ⟨rfl, hb⟩; have B1 := (Box.made w 24 #[.bool true, .int .i32 x, .int .i32 y, .int .i32 vx, .int .i32 vy, .int .i64 cool, .int .i64 score]).below hb (by simp); have K1 := B1.cell; have Y1 := Lib.hid ((one_below w (.cells #[.bool true, .int .i32 x, .int .i32 y, .int .i32 vx, .int .i32 vy, .int .i64 cool, .int .i64 score] 24)).trans (hb.mono (by simp))); clear hb)) | (go_at_call 95; ((with_reducible refine ((c2 _).out).mono ?_); rintro e w2 ⟨rfl, hb⟩; have B2 := B1.below hb B1.lt; have K2 := B2.cell; have Y2 := Lib.hid (Y1.out.trans (hb.mono Y1.out.size)); clear K1 hb)))
    go_ret
    exact ⟨rfl, Y2.out⟩
  have e1 : decide (cool ≤ 10) = true := decide_eq_true d1
  by_cases d2 : 0 ≤ score
  rotate_left
  · have e2 : decide (0 ≤ score) = false := decide_eq_false d2
    clear hno
    go_enter Try.func84, Try.ntmps84
    go_wp2_with (first | (go_at_call 94; ((with_reducible refine ((c1 _).out).mono ?_); rintro e w1 ⟨rfl, hb⟩; have B1 := (Box.made w 24 #[.bool true, .int .i32 x, .int .i32 y, .int .i32 vx, .int .i32 vy, .int .i64 cool, .int .i64 score]).below hb (by simp); have K1 := B1.cell; have Y1 := Lib.hid ((one_below w (.cells #[.bool true, .int .i32 x, .int .i32 y, .int .i32 vx, .int .i32 vy, .int .i64 cool, .int .i64 score] 24)).trans (hb.mono (by simp))); clear hb)) | (go_at_call 95; ((with_reducible refine ((c2 _).out).mono ?_); rintro e w2 ⟨rfl, hb⟩; have B2 := B1.below hb B1.lt; have K2 := B2.cell; have Y2 := Lib.hid (Y1.out.trans (hb.mono Y1.out.size)); clear K1 hb)))
    go_ret
    exact ⟨rfl, Y2.out⟩
  have e2 : decide (0 ≤ score) = true := decide_eq_true d2
  have e3 : decide (score ≤ 1073741824) = false := decide_eq_false fun h => hno.out ⟨rfl, rfl, d0, d1, d2, h⟩
  clear hno d0 d1 d2
  go_enter Try.func84, Try.ntmps84
  go_wp2_with (first | (go_at_call 94; ((with_reducible refine ((c1 _).out).mono ?_); rintro e w1 ⟨rfl, hb⟩; have B1 := (Box.made w 24 #[.bool true, .int .i32 x, .int .i32 y, .int .i32 vx, .int .i32 vy, .int .i64 cool, .int .i64 score]).below hb (by simp); have K1 := B1.cell; have Y1 := Lib.hid ((one_below w (.cells #[.bool true, .int .i32 x, .int .i32 y, .int .i32 vx, .int .i32 vy, .int .i64 cool, .int .i64 score] 24)).trans (hb.mono (by simp))); clear hb)) | (go_at_call 95; ((with_reducible refine ((c2 _).out).mono ?_); rintro e w2 ⟨rfl, hb⟩; have B2 := B1.below hb B1.lt; have K2 := B2.cell; have Y2 := Lib.hid (Y1.out.trans (hb.mono Y1.out.size)); clear K1 hb)))
  go_ret
  exact ⟨rfl, Y2.out⟩

set_option maxHeartbeats 1000000 in
theorem ship_eq' (s t : Gm.Ship) (w : World) : (Op.equalIn 10000 24 (.agg s.cells.toArray) (.agg t.cells.toArray)).run Try.prog w = .ok (s.eqB t) w := by
  obtain ⟨a1, a2, a3, a4, a5, a6, a7⟩ := s
  obtain ⟨b1, b2, b3, b4, b5, b6, b7⟩ := t
  have h := ifs7 w (a1 == b1) (a2 == b2) (a3 == b3) (a4 == b4) (a5 == b5) (a6 == b6) (a7 == b7)
  simp only [beq_iff_eq] at h
  simp only [Gm.Ship.cells]
  go_simp
  rfl
theorem ship_eql (s t : Gm.Ship) (w : World) : (binOp .eql 24 (.agg s.cells.toArray) (.agg t.cells.toArray)).run Try.prog w = .ok (.bool (s.eqB t)) w := by
  simp only [binOp]
  simp [Op.equal, Op.maxDepth, ship_eq']
set_option maxRecDepth 100000 in
set_option maxHeartbeats 2000000 in
theorem mayship_off (x y vx vy cool score : Int) (h : ¬ Gm.okShip ⟨false, x, y, vx, vy, cool, score⟩) (w : World) :
    Calls Try.prog 84 #[.agg #[.bool false, .int .i32 x, .int .i32 y, .int .i32 vx, .int .i32 vy, .int .i64 cool, .int .i64 score]] w fun e w' => e = .returned (.bool false) ∧ Below w.heap.size w w' := by
  have hne : (⟨false, x, y, vx, vy, cool, score⟩ : Gm.Ship) ≠ Gm.Ship.none := fun e => h (by
    rw [e]
    refine ⟨.inr rfl, ?_, ?_, ?_, ?_, ?_, ?_, ?_, ?_⟩ <;> simp [Gm.Ship.none, Gm.inF, Gm.slow])
  have he := fun W => ship_eql ⟨false, x, y, vx, vy, cool, score⟩ Gm.Ship.none W
  rw [show (⟨false, x, y, vx, vy, cool, score⟩ : Gm.Ship).eqB Gm.Ship.none = false by
    cases hq : (⟨false, x, y, vx, vy, cool, score⟩ : Gm.Ship).eqB Gm.Ship.none
    · rfl
    · exact absurd (Gm.Ship.eqB_iff.1 hq) hne] at he
  simp only [Gm.Ship.cells, Gm.Ship.none] at he
  clear h hne
  go_enter Try.func84, Try.ntmps84
  go_wp2
  go_ret
  exact ⟨rfl, one_below _ _⟩
theorem mayship_bad (s : Gm.Ship) (h : ¬ Gm.okShip s) (ty : Gm.tyShip s) (w : World) :
    Calls Try.prog 84 #[.agg s.cells.toArray] w fun e w' => e = .returned (.bool false) ∧ Below w.heap.size w w' := by
  obtain ⟨on, x, y, vx, vy, cool, score⟩ := s
  cases on
  · exact mayship_off x y vx vy cool score h w
  · exact mayship_not x y vx vy cool score h ty w

set_option maxRecDepth 100000 in
set_option maxHeartbeats 2000000 in
theorem mayshot_not (owner x y vx vy left : Int) (h : ¬ Gm.okShot ⟨owner, x, y, vx, vy, left⟩) (ty : Gm.tyShot ⟨owner, x, y, vx, vy, left⟩) (w : World) :
    Calls Try.prog 86 #[.agg #[.int .i64 owner, .int .i32 x, .int .i32 y, .int .i32 vx, .int .i32 vy, .int .i64 left]] w fun e w' => e = .returned (.bool false) ∧ Below w.heap.size w w' := by
  obtain ⟨wo, wx, wy, wvx, wvy, wl⟩ := ty
  dsimp only at wo wx wy wvx wvy wl
  have c0 := fun X => Lib.hid (isslot_any owner wo X)
  have c1 := fun X => Lib.hid (there_any x y wx wy X)
  have c2 := fun X => Lib.hid (within_any vx vy 393216 (by omega) wvx wvy X)
  have hno : Hid (¬ ((decide (0 ≤ owner) && decide (owner < 8)) = true ∧ (Gm.inB x && Gm.inB y) = true ∧ (Gm.slowB vx 393216 && Gm.slowB vy 393216) = true ∧ 1 ≤ left ∧ left ≤ 24)) := Lib.hid fun hh => h (by
    obtain ⟨h0, h1, h2, h3, h4⟩ := hh
    rw [Bool.and_eq_true, Gm.inB_iff, Gm.inB_iff] at h1
    rw [Bool.and_eq_true, Gm.slowB_iff (by decide), Gm.slowB_iff (by decide)] at h2
    simp only [Bool.and_eq_true, decide_eq_true_eq] at h0
    exact ⟨h0.1, h0.2, h1.1, h1.2, h2.1, h2.2, h3, h4⟩)
  clear h
  generalize (decide (0 ≤ owner) && decide (owner < 8)) = O at *
  generalize (Gm.inB x && Gm.inB y) = T at *
  generalize (Gm.slowB vx 393216 && Gm.slowB vy 393216) = V at *
  cases O
  · clear hno
    go_enter Try.func86, Try.ntmps86
    go_wp2_with (first | (go_at_call 98; ((with_reducible refine ((c0 _).out).mono ?_); rintro e w0 ⟨rfl, rfl⟩)) | (go_at_call 94; ((with_reducible refine ((c1 _).out).mono ?_); rintro e w1 ⟨rfl, hb⟩; have B1 := (Box.made w 88 #[.int .i64 owner, .int .i32 x, .int .i32 y, .int .i32 vx, .int .i32 vy, .int .i64 left]).below hb (by simp); have K1 := B1.cell; have Y1 := Lib.hid ((one_below w (.cells #[.int .i64 owner, .int .i32 x, .int .i32 y, .int .i32 vx, .int .i32 vy, .int .i64 left] 88)).trans (hb.mono (by simp))); clear hb)) | (go_at_call 95; ((with_reducible refine ((c2 _).out).mono ?_); rintro e w2 ⟨rfl, hb⟩; have B2 := B1.below hb B1.lt; have K2 := B2.cell; have Y2 := Lib.hid (Y1.out.trans (hb.mono Y1.out.size)); clear K1 hb)))
    go_ret
    exact ⟨rfl, one_below _ _⟩
  cases T
  · clear hno
    go_enter Try.func86, Try.ntmps86
    go_wp2_with (first | (go_at_call 98; ((with_reducible refine ((c0 _).out).mono ?_); rintro e w0 ⟨rfl, rfl⟩)) | (go_at_call 94; ((with_reducible refine ((c1 _).out).mono ?_); rintro e w1 ⟨rfl, hb⟩; have B1 := (Box.made w 88 #[.int .i64 owner, .int .i32 x, .int .i32 y, .int .i32 vx, .int .i32 vy, .int .i64 left]).below hb (by simp); have K1 := B1.cell; have Y1 := Lib.hid ((one_below w (.cells #[.int .i64 owner, .int .i32 x, .int .i32 y, .int .i32 vx, .int .i32 vy, .int .i64 left] 88)).trans (hb.mono (by simp))); clear hb)) | (go_at_call 95; ((with_reducible refine ((c2 _).out).mono ?_); rintro e w2 ⟨rfl, hb⟩; have B2 := B1.below hb B1.lt; have K2 := B2.cell; have Y2 := Lib.hid (Y1.out.trans (hb.mono Y1.out.size)); clear K1 hb)))
    go_ret
    exact ⟨rfl, Y1.out⟩
  cases V
  · clear hno
    go_enter Try.func86, Try.ntmps86
    go_wp2_with (first | (go_at_call 98; ((with_reducible refine ((c0 _).out).mono ?_); rintro e w0 ⟨rfl, rfl⟩)) | (go_at_call 94; ((with_reducible refine ((c1 _).out).mono ?_); rintro e w1 ⟨rfl, hb⟩; have B1 := (Box.made w 88 #[.int .i64 owner, .int .i32 x, .int .i32 y, .int .i32 vx, .int .i32 vy, .int .i64 left]).below hb (by simp); have K1 := B1.cell; have Y1 := Lib.hid ((one_below w (.cells #[.int .i64 owner, .int .i32 x, .int .i32 y, .int .i32 vx, .int .i32 vy, .int .i64 left] 88)).trans (hb.mono (by simp))); clear hb)) | (go_at_call 95; ((with_reducible refine ((c2 _).out).mono ?_); rintro e w2 ⟨rfl, hb⟩; have B2 := B1.below hb B1.lt; have K2 := B2.cell; have Y2 := Lib.hid (Y1.out.trans (hb.mono Y1.out.size)); clear K1 hb)))
    go_ret
    exact ⟨rfl, Y2.out⟩
  by_cases d0 : 1 ≤ left
  rotate_left
  · have e0 : decide (1 ≤ left) = false := decide_eq_false d0
    clear hno
    go_enter Try.func86, Try.ntmps86
    go_wp2_with (first | (go_at_call 98; ((with_reducible refine ((c0 _).out).mono ?_); rintro e w0 ⟨rfl, rfl⟩)) | (go_at_call 94; ((with_reducible refine ((c1 _).out).mono ?_); rintro e w1 ⟨rfl, hb⟩; have B1 := (Box.made w 88 #[.int .i64 owner, .int .i32 x, .int .i32 y, .int .i32 vx, .int .i32 vy, .int .i64 left]).below hb (by simp); have K1 := B1.cell; have Y1 := Lib.hid ((one_below w (.cells #[.int .i64 owner, .int .i32 x, .int .i32 y, .int .i32 vx, .int .i32 vy, .int .i64 left] 88)).trans (hb.mono (by simp))); clear hb)) | (go_at_call 95; ((with_reducible refine ((c2 _).out).mono ?_); rintro e w2 ⟨rfl, hb⟩; have B2 := B1.below hb B1.lt; have K2 := B2.cell; have Y2 := Lib.hid (Y1.out.trans (hb.mono Y1.out.size)); clear K1 hb)))
    go_ret
    exact ⟨rfl, Y2.out⟩
  have e0 : decide (1 ≤ left) = true := decide_eq_true d0
  have e3 : decide (left ≤ 24) = false := decide_eq_false fun h => hno.out ⟨rfl, rfl, rfl, d0, h⟩
  clear hno d0
  go_enter Try.func86, Try.ntmps86
  go_wp2_with (first | (go_at_call 98; ((with_reducible refine ((c0 _).out).mono ?_); rintro e w0 ⟨rfl, rfl⟩)) | (go_at_call 94; ((with_reducible refine ((c1 _).out).mono ?_); rintro e w1 ⟨rfl, hb⟩; have B1 := (Box.made w 88 #[.int .i64 owner, .int .i32 x, .int .i32 y, .int .i32 vx, .int .i32 vy, .int .i64 left]).below hb (by simp); have K1 := B1.cell; have Y1 := Lib.hid ((one_below w (.cells #[.int .i64 owner, .int .i32 x, .int .i32 y, .int .i32 vx, .int .i32 vy, .int .i64 left] 88)).trans (hb.mono (by simp))); clear hb)) | (go_at_call 95; ((with_reducible refine ((c2 _).out).mono ?_); rintro e w2 ⟨rfl, hb⟩; have B2 := B1.below hb B1.lt; have K2 := B2.cell; have Y2 := Lib.hid (Y1.out.trans (hb.mono Y1.out.size)); clear K1 hb)))
  go_ret
  exact ⟨rfl, Y2.out⟩
end Go.Proofs.Ytghomofakpjglaa
namespace Go.Proofs.Ytghomofakpjglaa
open Go.RowKit
set_option linter.unusedVariables false

set_option maxHeartbeats 1000000 in
theorem allship1_bad (s : Gm.Ship) (h : ¬ Gm.okShip s) (ty : Gm.tyShip s) (Bf : Nat) (w : World) (hf : Box w Bf 129 #[.func (.func 84) #[] #[]]) :
    Calls Try.prog 93 #[.agg s.cells.toArray, .pointer (some ⟨Bf, 0, none⟩)] w fun e w' => e = .returned (.bool true) ∧ Below w.heap.size w w' := by
  have c1 := fun X => Lib.hid (mayship_bad s h ty X)
  have hK : ∀ o, (w.alloc o).cell? ⟨Bf, 0, none⟩ = some (.func (.func 84) #[] #[]) := fun o => (hf.alloc o).cell 0
  obtain ⟨on, x, y, vx, vy, cool, score⟩ := s
  simp only [Gm.Ship.cells] at c1 ⊢
  clear h hf ty
  go_enter Try.func93, Try.ntmps93
  go_wp2_with (go_at_call 84; ((with_reducible refine ((c1 _).out).mono ?_); rintro e w1 ⟨rfl, hb1⟩))
  go_ret
  exact ⟨rfl, (one_below w _).trans (hb1.mono (by simp))⟩

set_option maxRecDepth 100000 in
set_option maxHeartbeats 2000000 in
theorem indexship_bad (f : Nat → Gm.Ship) (A : Option Addr) (c : Nat) (Bf : Nat) (w : World) (hno : ¬ ∀ i (h : i < 8), Gm.okShip (f i)) (hty : ∀ i (h : i < 8), Gm.tyShip (f i)) (hr : Lies w w.heap.size 7 A 8 (Gm.shipCells f)) (hf : Box w Bf 129 #[.func (.func 84) #[] #[]]) :
    Calls Try.prog 104 #[.slice A 8 c, .func (.func 93) #[] #[.pointer (some ⟨Bf, 0, none⟩)]] w fun e w' => (∃ k : Nat, e = .returned (.int .i64 k)) ∧ Below w.heap.size w w' := by
  have HNO := Lib.hid hno
  clear hno
  go_enter Try.func104, Try.ntmps104
  go_wp2
  go_loopw [8] (fun i wr => ∃ k : Nat, k ≤ 8 ∧ i = .int .i64 k ∧ (∀ j (hj : j < k), Gm.okShip (f j)) ∧ Below w.heap.size w wr) (fun i _ => 8 - (intOf i).toNat)
  case atStart => exact ⟨0, by omega, rfl, fun j hj => absurd hj (Nat.not_lt_zero j), Below.refl _ _⟩
  case round =>
    obtain ⟨k, hk, rfl, hall, hb⟩ := hrel
    by_cases hlt : k < 8
    · have hbs := hb.size
      obtain ⟨ad, rfl, hbl, e0, e1, e2, e3, e4, e5, e6⟩ := ships_at (hr.below hb) k hlt
      have cty := hty k hlt
      have hfb := hf.below hb hf.lt
      have hkn : (k : Int) < 8 := by omega
      by_cases ho : Gm.okShip (f k)
      · have hall2 : ∀ j (hj : j < k + 1), Gm.okShip (f j) := fun j hj => by
          by_cases e : j = k
          · subst e; exact ho
          · exact hall j (by omega)
        have cc := fun X hX => Lib.hid (allship1_yes (f k) ho Bf X hX)
        generalize f k = s at e0 e1 e2 e3 e4 e5 e6 ho cc cty
        obtain ⟨on, x, y, vx, vy, cool, score⟩ := s
        dsimp only at e0 e1 e2 e3 e4 e5 e6
        simp only [Gm.Ship.cells] at cc
        have HB := Lib.hid hb
        have HF := Lib.hid hfb
        have HALL := Lib.hid hall2
        clear hr ho hb hf hfb hty cty hall hall2
        go_wp2_with (go_at_call 93; ((with_reducible refine ((cc _ (by first | exact HF.out)).out).mono ?_); rintro e w1 ⟨rfl, hb1⟩))
        go_roundw
        case rel => exact ⟨k + 1, by omega, by go_num, HALL.out, HB.out.trans (hb1.mono HB.out.size)⟩
        case measure => simp [intOf]; omega
      · have cc := fun X hX => Lib.hid (allship1_bad (f k) ho cty Bf X hX)
        generalize f k = s at e0 e1 e2 e3 e4 e5 e6 ho cc cty
        obtain ⟨on, x, y, vx, vy, cool, score⟩ := s
        dsimp only at e0 e1 e2 e3 e4 e5 e6
        simp only [Gm.Ship.cells] at cc
        have HB := Lib.hid hb
        have HF := Lib.hid hfb
        clear hr ho hb hf hfb hty cty hall
        go_wp2_with (go_at_call 93; ((with_reducible refine ((cc _ (by first | exact HF.out)).out).mono ?_); rintro e w1 ⟨rfl, hb1⟩))
        go_ret
        exact ⟨⟨k, rfl⟩, HB.out.trans (hb1.mono HB.out.size)⟩
    · exact absurd (fun i hi => hall i (by omega)) HNO.out

set_option maxHeartbeats 1000000 in
theorem containsship_yes (f : Nat → Gm.Ship) (A : Option Addr) (c : Nat) (Bf : Nat) (w : World) (hno : ¬ ∀ i (h : i < 8), Gm.okShip (f i)) (hty : ∀ i (h : i < 8), Gm.tyShip (f i)) (hr : Lies w w.heap.size 7 A 8 (Gm.shipCells f)) (hf : Box w Bf 129 #[.func (.func 84) #[] #[]]) :
    Calls Try.prog 92 #[.slice A 8 c, .func (.func 93) #[] #[.pointer (some ⟨Bf, 0, none⟩)]] w fun e w' => e = .returned (.bool true) ∧ Below w.heap.size w w' := by
  have c1 := Lib.hid (indexship_bad f A c Bf w hno hty hr hf)
  clear hr hf hno hty
  go_enter Try.func92, Try.ntmps92
  go_wp2_with (go_at_call 104; ((with_reducible refine ((c1).out).mono ?_); rintro e w1 ⟨⟨k, rfl⟩, hb1⟩; have hd : decide (0 ≤ (k : Int)) = true := decide_eq_true (by omega)))
  go_ret
  exact ⟨rfl, hb1⟩

set_option maxHeartbeats 1000000 in
theorem allship_bad (f : Nat → Gm.Ship) (A : Option Addr) (c : Nat) (w : World) (hno : ¬ ∀ i (h : i < 8), Gm.okShip (f i)) (hty : ∀ i (h : i < 8), Gm.tyShip (f i)) (hr : Lies w w.heap.size 7 A 8 (Gm.shipCells f)) :
    Calls Try.prog 83 #[.slice A 8 c, .func (.func 84) #[] #[]] w fun e w' => e = .returned (.bool false) ∧ Below w.heap.size w w' := by
  have hmf : ∀ (fn : Fn) (first cap : Array Value) (w : World), (Instr.makeFunc fn first cap).run Try.prog w = .ok (.func fn first cap) w := fun _ _ _ _ => rfl
  have hb0 := one_below w (.cells #[.func (.func 84) #[] #[]] 129)
  have c1 := Lib.hid (containsship_yes f A c w.heap.size _ hno hty ((hr.below hb0).wider hb0.size) (Box.made w _ _))
  have hbz := Lib.hid hb0
  clear hr hb0 hno hty
  go_enter Try.func83, Try.ntmps83
  go_wp2_with (go_at_call 92; ((with_reducible refine ((c1).out).mono ?_); rintro e w1 ⟨rfl, hb1⟩))
  go_ret
  exact ⟨rfl, hbz.out.trans (hb1.mono hbz.out.size)⟩

set_option maxHeartbeats 1000000 in
theorem allshot1_bad (s : Gm.Shot) (h : ¬ Gm.okShot s) (ty : Gm.tyShot s) (Bf : Nat) (w : World) (hf : Box w Bf 131 #[.func (.func 86) #[] #[]]) :
    Calls Try.prog 97 #[.agg s.cells.toArray, .pointer (some ⟨Bf, 0, none⟩)] w fun e w' => e = .returned (.bool true) ∧ Below w.heap.size w w' := by
  have c1 := fun X => Lib.hid (show Calls Try.prog 86 #[.agg s.cells.toArray] X (fun e w' => e = .returned (.bool false) ∧ Below X.heap.size X w') by obtain ⟨a, b, c, d, e, f⟩ := s; exact mayshot_not a b c d e f h ty X)
  have hK : ∀ o, (w.alloc o).cell? ⟨Bf, 0, none⟩ = some (.func (.func 86) #[] #[]) := fun o => (hf.alloc o).cell 0
  obtain ⟨owner, x, y, vx, vy, left⟩ := s
  simp only [Gm.Shot.cells] at c1 ⊢
  clear h hf ty
  go_enter Try.func97, Try.ntmps97
  go_wp2_with (go_at_call 86; ((with_reducible refine ((c1 _).out).mono ?_); rintro e w1 ⟨rfl, hb1⟩))
  go_ret
  exact ⟨rfl, (one_below w _).trans (hb1.mono (by simp))⟩

set_option maxRecDepth 100000 in
set_option maxHeartbeats 2000000 in
theorem indexshot_bad (l : List Gm.Shot) (n : Nat) (A : Option Addr) (c : Nat) (Bf : Nat) (w : World) (hno : ¬ ∀ i (h : i < l.length), Gm.okShot (l[i])) (hty : ∀ i (h : i < l.length), Gm.tyShot (l[i])) (hn : n = l.length) (hn32 : n ≤ 32) (hr : Lies w w.heap.size 6 A n (Gm.shotCells l)) (hf : Box w Bf 131 #[.func (.func 86) #[] #[]]) :
    Calls Try.prog 107 #[.slice A n c, .func (.func 97) #[] #[.pointer (some ⟨Bf, 0, none⟩)]] w fun e w' => (∃ k : Nat, e = .returned (.int .i64 k)) ∧ Below w.heap.size w w' := by
  have hN := Lib.hid hn
  clear hn
  have HNO := Lib.hid hno
  clear hno
  go_enter Try.func107, Try.ntmps107
  go_wp2
  go_loopw [8] (fun i wr => ∃ k : Nat, k ≤ n ∧ i = .int .i64 k ∧ (∀ j (hj : j < k), ∀ hjl : j < l.length, Gm.okShot (l[j]'hjl)) ∧ Below w.heap.size w wr) (fun i _ => n - (intOf i).toNat)
  case atStart => exact ⟨0, by omega, rfl, fun j hj => absurd hj (Nat.not_lt_zero j), Below.refl _ _⟩
  case round =>
    obtain ⟨k, hk, rfl, hall, hb⟩ := hrel
    by_cases hlt : k < n
    · have hbs := hb.size
      have hkl : k < l.length := by have := hN.out; omega
      obtain ⟨ad, rfl, hbl, e0, e1, e2, e3, e4, e5⟩ := shots_at (hr.below hb) hN.out k (by have := hN.out; omega)
      have cty := hty k hkl
      have hfb := hf.below hb hf.lt
      have hkn : (k : Int) < n := by omega
      by_cases ho : Gm.okShot (l[k]'hkl)
      · have hall2 : ∀ j (hj : j < k + 1), ∀ hjl : j < l.length, Gm.okShot (l[j]'hjl) := fun j hj => by
          by_cases e : j = k
          · subst e; exact fun _ => ho
          · exact hall j (by omega)
        have cc := fun X hX => Lib.hid (allshot1_yes (l[k]'hkl) ho Bf X hX)
        generalize l[k]'hkl = s at e0 e1 e2 e3 e4 e5 ho cc cty
        obtain ⟨owner, x, y, vx, vy, left⟩ := s
        dsimp only at e0 e1 e2 e3 e4 e5
        simp only [Gm.Shot.cells] at cc
        have HB := Lib.hid hb
        have HF := Lib.hid hfb
        have HALL := Lib.hid hall2
        clear hr ho hb hf hfb hty cty hall hall2
        go_wp2_with (go_at_call 97; ((with_reducible refine ((cc _ (by first | exact HF.out)).out).mono ?_); rintro e w1 ⟨rfl, hb1⟩))
        go_roundw
        case rel => exact ⟨k + 1, by omega, by go_num, HALL.out, HB.out.trans (hb1.mono HB.out.size)⟩
        case measure => simp [intOf]; omega
      · have cc := fun X hX => Lib.hid (allshot1_bad (l[k]'hkl) ho cty Bf X hX)
        generalize l[k]'hkl = s at e0 e1 e2 e3 e4 e5 ho cc cty
        obtain ⟨owner, x, y, vx, vy, left⟩ := s
        dsimp only at e0 e1 e2 e3 e4 e5
        simp only [Gm.Shot.cells] at cc
        have HB := Lib.hid hb
        have HF := Lib.hid hfb
        clear hr ho hb hf hfb hty cty hall
        go_wp2_with (go_at_call 97; ((with_reducible refine ((cc _ (by first | exact HF.out)).out).mono ?_); rintro e w1 ⟨rfl, hb1⟩))
        go_ret
        exact ⟨⟨k, rfl⟩, HB.out.trans (hb1.mono HB.out.size)⟩
    · exact absurd (fun i hi => hall i (by have := hN.out; omega) hi) HNO.out

set_option maxHeartbeats 1000000 in
theorem containsshot_yes (l : List Gm.Shot) (n : Nat) (A : Option Addr) (c : Nat) (Bf : Nat) (w : World) (hno : ¬ ∀ i (h : i < l.length), Gm.okShot (l[i])) (hty : ∀ i (h : i < l.length), Gm.tyShot (l[i])) (hn : n = l.length) (hn32 : n ≤ 32) (hr : Lies w w.heap.size 6 A n (Gm.shotCells l)) (hf : Box w Bf 131 #[.func (.func 86) #[] #[]]) :
    Calls Try.prog 96 #[.slice A n c, .func (.func 97) #[] #[.pointer (some ⟨Bf, 0, none⟩)]] w fun e w' => e = .returned (.bool true) ∧ Below w.heap.size w w' := by
  have c1 := Lib.hid (indexshot_bad l n A c Bf w hno hty hn hn32 hr hf)
  clear hr hf hno hty hn
  go_enter Try.func96, Try.ntmps96
  go_wp2_with (go_at_call 107; ((with_reducible refine ((c1).out).mono ?_); rintro e w1 ⟨⟨k, rfl⟩, hb1⟩; have hd : decide (0 ≤ (k : Int)) = true := decide_eq_true (by omega)))
  go_ret
  exact ⟨rfl, hb1⟩

set_option maxHeartbeats 1000000 in
theorem allshot_bad (l : List Gm.Shot) (n : Nat) (A : Option Addr) (c : Nat) (w : World) (hno : ¬ ∀ i (h : i < l.length), Gm.okShot (l[i])) (hty : ∀ i (h : i < l.length), Gm.tyShot (l[i])) (hn : n = l.length) (hn32 : n ≤ 32) (hr : Lies w w.heap.size 6 A n (Gm.shotCells l)) :
    Calls Try.prog 85 #[.slice A n c, .func (.func 86) #[] #[]] w fun e w' => e = .returned (.bool false) ∧ Below w.heap.size w w' := by
  have hmf : ∀ (fn : Fn) (first cap : Array Value) (w : World), (Instr.makeFunc fn first cap).run Try.prog w = .ok (.func fn first cap) w := fun _ _ _ _ => rfl
  have hb0 := one_below w (.cells #[.func (.func 86) #[] #[]] 131)
  have c1 := Lib.hid (containsshot_yes l n A c w.heap.size _ hno hty hn hn32 ((hr.below hb0).wider hb0.size) (Box.made w _ _))
  have hbz := Lib.hid hb0
  clear hr hb0 hno hty hn
  go_enter Try.func85, Try.ntmps85
  go_wp2_with (go_at_call 96; ((with_reducible refine ((c1).out).mono ?_); rintro e w1 ⟨rfl, hb1⟩))
  go_ret
  exact ⟨rfl, hbz.out.trans (hb1.mono hbz.out.size)⟩

set_option maxRecDepth 100000 in
set_option maxHeartbeats 2000000 in
theorem may_not (g : Gm.G) (A : Option Addr) (n c : Nat) (w : World) (hg : ¬ Gm.ok g) (hty : Gm.ty g) (hn : n = g.shots.length) (hn63 : n ≤ maxLen) (hr : Lies w w.heap.size 6 A n (Gm.shotCells g.shots)) :
    Calls Try.prog 65 #[.agg (Gm.cells g (.slice A n c))] w fun e w' => e = .returned (.bool false) ∧ Below w.heap.size w w' := by
  have B0 := Box.made w 28 (Gm.cells g (.slice A n c))
  have hb0 := one_below w (.cells (Gm.cells g (.slice A n c)) 28)
  have hc : ∀ j, (w.alloc (.cells (Gm.cells g (.slice A n c)) 28)).cell? ⟨w.heap.size, j, none⟩ = (Gm.cells g (.slice A n c))[j]? := fun j => B0.cell j
  have h0 := Gm.cells_0 g (.slice A n c)
  have h58 := Gm.cells_58 g (.slice A n c)
  have BB := Lib.hid B0
  have HB := Lib.hid hb0
  by_cases hf : g.frame < 0
  · have d1 : decide (g.frame < 0) = true := decide_eq_true hf
    clear hr B0 hb0 hn hg hty
    go_enter Try.func65, Try.ntmps65
    go_wp2
    go_ret
    exact ⟨rfl, HB.out⟩
  have d1 : decide (g.frame < 0) = false := decide_eq_false hf
  by_cases hf2 : 1048576 < g.frame
  · have d2 : decide (1048576 < g.frame) = true := decide_eq_true hf2
    clear hr B0 hb0 hn hg hty
    go_enter Try.func65, Try.ntmps65
    go_wp2
    go_ret
    exact ⟨rfl, HB.out⟩
  have d2 : decide (1048576 < g.frame) = false := decide_eq_false hf2
  by_cases hf3 : 32 < n
  · have d3 : decide (32 < (n : Int)) = true := decide_eq_true (by omega)
    clear hr B0 hb0 hn hg hty
    go_enter Try.func65, Try.ntmps65
    go_wp2
    go_ret
    exact ⟨rfl, HB.out⟩
  have d3 : decide (32 < (n : Int)) = false := decide_eq_false (by omega)
  by_cases hs : ∀ i, i < 8 → Gm.okShip (g.ship i)
  · have hs2 : ¬ ∀ i (h : i < g.shots.length), Gm.okShot g.shots[i] := fun hh => hg ⟨by omega, by omega, by omega, hs, hh⟩
    have c1 := Lib.hid (allship_yes g.ship (some ⟨w.heap.size, 2, none⟩) 8 _ hs (ships_lie B0))
    have c2 := fun X (hX : Below w.heap.size w X) => Lib.hid (allshot_bad g.shots n A c X hs2 hty.2.2.2 hn (by omega) ((hr.below hX).wider hX.size))
    clear hr B0 hb0 hn hg hty hs hs2
    go_enter Try.func65, Try.ntmps65
    go_wp2_with (first | (go_at_call 83; ((with_reducible refine ((c1).out).mono ?_); rintro e w1 ⟨rfl, hb1⟩; have hc1 := (BB.out.below hb1 BB.out.lt).cell; have HB1 := Lib.hid (HB.out.trans (hb1.mono HB.out.size)))) | (go_at_call 85; ((with_reducible refine ((c2 _ (HB1.out)).out).mono ?_); rintro e w2 ⟨rfl, hb2⟩)))
    go_ret
    exact ⟨rfl, HB1.out.trans (hb2.mono HB1.out.size)⟩
  · have c1 := Lib.hid (allship_bad g.ship (some ⟨w.heap.size, 2, none⟩) 8 _ hs hty.2.2.1 (ships_lie B0))
    clear hr B0 hb0 hn hg hty hs
    go_enter Try.func65, Try.ntmps65
    go_wp2_with (go_at_call 83; ((with_reducible refine ((c1).out).mono ?_); rintro e w1 ⟨rfl, hb1⟩; have HB1 := Lib.hid (HB.out.trans (hb1.mono HB.out.size))))
    go_ret
    exact ⟨rfl, HB1.out⟩
end Go.Proofs.Ytghomofakpjglaa
namespace Go.Proofs.Ytghomofakpjglaa
open Go.RowKit Go.Shelf
set_option linter.unusedVariables false
attribute [local go_sem] Oper.semAt_some
set_option maxHeartbeats 400000 in
theorem rospeer_any (i : Int) (w : World) :
    Calls Try.prog 100 #[.int .i64 i] w fun e w' => e = .returned (.bool (decide (0 ≤ i ∧ i < 12))) ∧ w = w' := by
  go_enter Try.func100, Try.ntmps100
  go_wp2
  all_goals
    go_ret
    exact ⟨ret_bool (by rw [Bool.eq_iff_iff]; simp; omega), rfl⟩
set_option maxHeartbeats 400000 in
set_option maxHeartbeats 1000000 in
theorem mayseat_any (p g : Int) (w : World) :
    Calls Try.prog 88 #[.agg #[.int .i64 p, .int .i64 g]] w fun e w' => e = .returned (.bool (decide ((0 ≤ g ∧ g ≤ 60000) ∧ (p = -1 ∨ ((0 ≤ p ∧ p < 12) ∧ 0 < g))))) ∧ Below w.heap.size w w' := by
  have c1 := fun X => Lib.hid (rospeer_any p X)
  by_cases hg : g < 0
  · go_enter Try.func88, Try.ntmps88
    go_wp2
    go_ret
    exact ⟨ret_bool (by (try rw [Bool.eq_iff_iff]) <;> simp <;> omega), one_below _ _⟩
  by_cases hg2 : 60000 < g
  · go_enter Try.func88, Try.ntmps88
    go_wp2
    go_ret
    exact ⟨ret_bool (by (try rw [Bool.eq_iff_iff]) <;> simp <;> omega), one_below _ _⟩
  by_cases hp : p = -1
  · subst hp
    go_enter Try.func88, Try.ntmps88
    go_wp2
    go_ret
    exact ⟨ret_bool (by (try rw [Bool.eq_iff_iff]) <;> simp <;> omega), one_below _ _⟩
  have hpb : (p == -1) = false := by simpa using hp
  by_cases hq : 0 ≤ p ∧ p < 12
  · rw [decide_eq_true hq] at c1
    by_cases hg0 : 0 < g
    · go_enter Try.func88, Try.ntmps88
      go_wp2_with (go_at_call 100; ((with_reducible refine ((c1 _).out).mono ?_); rintro e w1 ⟨rfl, rfl⟩))
      go_ret
      exact ⟨ret_bool (by (try rw [Bool.eq_iff_iff]) <;> simp <;> omega), one_below _ _⟩
    · go_enter Try.func88, Try.ntmps88
      go_wp2_with (go_at_call 100; ((with_reducible refine ((c1 _).out).mono ?_); rintro e w1 ⟨rfl, rfl⟩))
      go_ret
      exact ⟨ret_bool (by (try rw [Bool.eq_iff_iff]) <;> simp <;> omega), one_below _ _⟩
  · rw [decide_eq_false hq] at c1
    have HQ := Lib.hid hq
    clear hq
    go_enter Try.func88, Try.ntmps88
    go_wp2_with (go_at_call 100; ((with_reducible refine ((c1 _).out).mono ?_); rintro e w1 ⟨rfl, rfl⟩))
    go_ret
    have hq := HQ.out
    exact ⟨ret_bool (by (try rw [Bool.eq_iff_iff]) <;> simp <;> omega), one_below _ _⟩

/-- The seats' going over is made. -/
theorem seats_any (B : Nat) (w : World) :
    Calls Try.prog 87 #[.pointer (some ⟨B, 0, none⟩)] w fun e w' => e = .returned (.func (.func 99) #[] #[.pointer (some ⟨w.heap.size, 0, none⟩)]) ∧ w' = w.alloc (.cells #[.pointer (some ⟨B, 0, none⟩)] 136) := by
  have hmf : ∀ (fn : Fn) (first cap : Array Value) (w : World), (Instr.makeFunc fn first cap).run Try.prog w = .ok (.func fn first cap) w := fun _ _ _ _ => rfl
  go_enter Try.func87, Try.ntmps87
  go_wp2
  go_ret
  exact ⟨rfl, rfl⟩

abbrev seatEnc (B : Nat) (x : Ros.Sl) : Array Value := #[.int .i64 x.1, .pointer (some ⟨B, 1 + x.1 * 2, none⟩)]
/-- What the going over reads between two rounds: where the roster lies. -/
def Sitting (B Bg : Nat) (W : World) : Prop := W.cell? ⟨Bg, 0, none⟩ = some (.pointer (some ⟨B, 0, none⟩))
theorem Sitting.below {B Bg : Nat} {w W : World} (h : Sitting B Bg w) (hb : Below w.heap.size w W) : Sitting B Bg W :=
  (World.cell?_of_block (hb.block _ (World.block_lt_of_cell? w _ h))).trans h
def SitKp (B Bg : Nat) (W W' : World) : Prop := Sitting B Bg W → Sitting B Bg W'
theorem sitkp_t {B Bg : Nat} {X Y Z : World} (h : SitKp B Bg X Y) (k : SitKp B Bg Y Z) : SitKp B Bg X Z := fun hx => k (h hx)
theorem sitkp_b {B Bg : Nat} {n : Nat} (W : World) (l : Nat) (o o' : Obj) (_ : n ≤ l) (h : W.heap[l]? = some o) (hc : o.isCells = false) (_ : o.isWalk = false) : SitKp B Bg W (W.putObj l o') := fun hf =>
  cell_kept hf (grownBy_putObj' W l o') (fun r e => by cases e; exact ⟨_, h, hc⟩)

set_option maxRecDepth 100000 in
set_option maxHeartbeats 4000000 in
theorem seats1_in (B Bg : Nat) (n l : Nat) (J Jx : List Ros.Sl → World → Prop)
    (hY : ∀ pre x W, J pre W → pre.length < 8 → YieldAt Fence.wide (n - 1) Try.prog l (seatEnc B x) W fun e W' =>
      (e = .returned (.bool true) ∧ J (pre ++ [x]) W' ∧ SitKp B Bg W W') ∨ (e = .returned (.bool false) ∧ Jx (pre ++ [x]) W'))
    (W : World) (hF : Sitting B Bg W) (h0 : J [] W) :
    CallsIn Fence.wide n Try.prog 99 #[.func (.yield l) #[] #[], .pointer (some ⟨Bg, 0, none⟩)] W fun e W' => (∃ v, e = .returned v) ∧
      ((∃ ys, ys = Ros.all8 ∧ J ys W') ∨ (∃ pre, (∃ rest, Ros.all8 = pre ++ rest) ∧ Jx pre W')) := by
  refine callsIn_of_wp Try.func99 rfl trivial ?_ rfl
  simp only [Try.ntmps99, List.size_toArray, List.length_cons, List.length_nil, Nat.reduceAdd, Nat.reduceSub, Array.replicate_succ, Array.replicate_zero, List.push_toArray, List.append_toArray, List.nil_append, List.cons_append]
  gi_wp2
  gi_loopw [4] (fun p wr => ∃ (i : Nat) (pre : List Ros.Sl), i ≤ 8 ∧ p = .int .i64 i ∧ Ros.all8 = pre ++ Ros.slots (8 - i) i ∧ Sitting B Bg wr ∧ J pre wr)
    (fun p _ => 8 - (intOf p).toNat)
  case atStart =>
    exact ⟨0, [], by omega, rfl, rfl, hF, h0⟩
  case round =>
    obtain ⟨i, pre, hi, rfl, hx, hf, hJs⟩ := hrel
    by_cases hlt : i < 8
    · have hi8 : (i : Int) < 8 := by omega
      have f0 : wr.cell? ⟨Bg, 0, none⟩ = some (.pointer (some ⟨B, 0, none⟩)) := hf
      rw [show 8 - i = (8 - (i + 1)) + 1 by omega, Ros.slots_yes hlt] at hx
      have hlen : pre.length < 8 := by
        have := Ros.slots_len 8 0; rw [show Ros.slots 8 0 = Ros.all8 from rfl, hx] at this; simp at this; omega
      obtain ⟨fn, tmps, assign, body, hy, hR⟩ := hY pre ⟨i, hlt⟩ wr hJs hlen
      dsimp only [seatEnc] at hy
      have HX := Lib.hid hx
      have HF := Lib.hid hf
      clear hx hf hJs hY
      gi_wp2
      refine ⟨fun h => (by cases h), hR.mono ?_⟩
      rintro e W3 (⟨rfl, hJ3, hk3⟩ | ⟨rfl, hJx3⟩)
      · gi_wp2
        go_roundw
        case rel => exact ⟨i + 1, pre ++ [⟨i, hlt⟩], by omega, by go_num, by rw [HX.out]; simp, hk3 HF.out, hJ3⟩
        case measure => simp [intOf]; omega
      · gi_wp2
        refine bodyPost_ret (results_none rfl _ _ _) rfl ?_
        exact ⟨⟨_, rfl⟩, .inr ⟨pre ++ [⟨i, hlt⟩], ⟨Ros.slots (8 - (i + 1)) (i + 1), by rw [HX.out]; simp⟩, hJx3⟩⟩
    · have hi8 : ¬ (i : Int) < 8 := by omega
      have hie : i = 8 := by omega
      subst hie
      have HX := Lib.hid (show Ros.all8 = pre by rw [hx]; simp [Ros.slots])
      clear hx
      gi_wp2
      go_end0
      have e := HX.out
      first
        | exact ⟨⟨_, rfl⟩, .inl ⟨pre, e.symm, hJs⟩⟩
        | exact ⟨⟨_, rfl⟩, .inl (by rw [e]; exact hJs)⟩

theorem seats1_stops (B Bg : Nat) (n : Nat) (w : World) (hF : Sitting B Bg w) :
    SeqStopsK Fence.wide n Try.prog 99 #[.pointer (some ⟨Bg, 0, none⟩)] (seatEnc B) (SitKp B Bg) (fun xs => xs = Ros.all8) (fun pre => ∃ rest, Ros.all8 = pre ++ rest) 8 w :=
  fun l J Jx W hW _ _ hY h0 => seats1_in B Bg n l J Jx hY W (hF.below hW) h0
end Go.Proofs.Ytghomofakpjglaa
namespace Go
open Go.RowKit

/-- A world that came of W, with every block below B as it was. -/
structure Ext (B : Nat) (W : World) where
  w : World
  h : Below B W w

instance {B : Nat} {W : World} : Nonempty (Ext B W) := ⟨⟨W, Below.refl _ _⟩⟩

theorem Ext.cell {B : Nat} {W : World} (q : Ext B W) {b o : Nat} {v : Value} (hb : b < B) (hc : W.cell? ⟨b, o, none⟩ = some v) : q.w.cell? ⟨b, o, none⟩ = some v :=
  (q.h.cell (p := ⟨b, o, none⟩) hb).trans hc

theorem wp_region_ext {P : Program} {id : Nat} {Q : Exit → Act → World → Prop} {a : Act} {w : World} {l : List Oper} (B : Nat) (W : World) (hm : P.follows .mixedOrders = true) (hB : Region.lexB .any l.toArray = true) (hC : Below B W w)
    (h : wpQuiet P l.toArray (fun w' => ∃ q : Ext B W, w' = q.w) (fun a' => ∀ w', (∃ q : Ext B W, w' = q.w) → Q .normal a' w') l a) : (Code.region id l.toArray true).wp P Q a w :=
  wp_region_quiet (C := fun w' => ∃ q : Ext B W, w' = q.w) hm hB ⟨⟨_, hC.drew⟩, rfl⟩ (by simpa using h)

/-- A callee that may make memory. -/
theorem Calls.ext_of {P : Program} {f : FuncId} {args : Array Value} {B : Nat} {W : World} {q : Ext B W} {v : Value} (hB : B ≤ W.heap.size)
    (h : Calls P f args q.w fun e w' => e = .returned v ∧ Below q.w.heap.size q.w w') : Calls P f args q.w fun e w'' => e = .returned v ∧ ∃ q' : Ext B W, w'' = q'.w :=
  h.mono fun _ w' ⟨he, hb⟩ => ⟨he, ⟨w', q.h.trans (hb.mono (Nat.le_trans hB q.h.size))⟩, rfl⟩

/-- A callee that leaves the world as it was. -/
theorem Calls.ext_same {P : Program} {f : FuncId} {args : Array Value} {B : Nat} {W : World} {q : Ext B W} {v : Value}
    (h : Calls P f args q.w fun e w' => e = .returned v ∧ q.w = w') : Calls P f args q.w fun e w'' => e = .returned v ∧ ∃ q' : Ext B W, w'' = q'.w :=
  h.mono fun _ _ ⟨he, hb⟩ => ⟨he, q, hb.symm⟩
end Go
namespace Rt
open Go Go.RowKit
set_option linter.unusedVariables false

def tame (o : Oper) : Bool := match o.op with | .defer .. => false | _ => true
end Rt
namespace Go.Proofs.Ytghomofakpjglaa
open Go.RowKit Go.Shelf
set_option linter.unusedVariables false
attribute [local go_sem] Oper.semAt_some
/-- What May knows on its way. -/
structure Maying (B Br Bh Bg : Nat) (w0 : World) (r : Ros.R) (pre : List Ros.Sl) (W : World) : Prop where
  ros : Box W B 33 (Ros.cells r)
  res : Box W Br 4 #[.bool false]
  has : Box W Bh 132 (Ros.hasCells (Ros.hasF r pre))
  sit : Box W Bg 136 #[.pointer (some ⟨B, 0, none⟩)]
  below : Below w0.heap.size w0 W
  good : Ros.Good r pre
theorem Below.turned {b : Nat} {w0 W W' : World} {row : Option Nat} (h : Below b w0 W) (hb : b ≤ w0.heap.size) (hg : W.grownBy W' row) (hr : ∀ r, row = some r → b ≤ r) : Below b w0 W' :=
  h.grown hg (Nat.le_trans hb h.size) fun k e => hr k e
theorem Maying.turned {B Br Bh Bg : Nat} {w0 : World} {r : Ros.R} {pre : List Ros.Sl} {W W' : World} {row : Option Nat} (h : Maying B Br Bh Bg w0 r pre W) (hg : W.grownBy W' row) (hr : ∀ r, row = some r → w0.heap.size ≤ r ∧ ∃ o : Obj, W.heap[r]? = some o ∧ o.isCells = false) : Maying B Br Bh Bg w0 r pre W' :=
  ⟨h.ros.turned hg fun r e => (hr r e).2, h.res.turned hg fun r e => (hr r e).2, h.has.turned hg fun r e => (hr r e).2, h.sit.turned hg fun r e => (hr r e).2, Below.turned h.below (Nat.le_refl _) hg fun r e => (hr r e).1, h.good⟩

theorem Maying.call {B Br Bh Bg : Nat} {w0 : World} {r : Ros.R} {pre : List Ros.Sl} {W W' : World} (h : Maying B Br Bh Bg w0 r pre W) (hb : Below W.heap.size W W') : Maying B Br Bh Bg w0 r pre W' :=
  ⟨h.ros.below hb h.ros.lt, h.res.below hb h.res.lt, h.has.below hb h.has.lt, h.sit.below hb h.sit.lt, h.below.trans (hb.mono h.below.size), h.good⟩

set_option maxRecDepth 100000 in
set_option maxHeartbeats 4000000 in
theorem rosmay_any (r : Ros.R) (w : World) :
    Calls Try.prog 66 #[.agg (Ros.cells r)] w fun e w' => e = .returned (.bool (Ros.may r)) ∧ Below w.heap.size w w' := by
  have B0 := Box.made w 33 (Ros.cells r)
  have hc : ∀ o j, ((w.alloc (.cells (Ros.cells r) 33)).alloc o).cell? ⟨w.heap.size, j, none⟩ = (Ros.cells r)[j]? := fun o j => (B0.alloc o).cell j
  have h0 := Ros.cells_0 r
  by_cases hv1 : r.version < 0
  · skip
    have hno : Ros.may r = false := decide_eq_false fun h => by have := h.1; omega
    have d1 : decide (r.version < 0) = true := decide_eq_true hv1
    rw [hno]
    have hres := (Box.made_at (n := w.heap.size + 1) (w.alloc (.cells (Ros.cells r) 33)) 4 #[.bool false] (by simp)).put 0 (.bool false)
    have hcr := hres.cell 0
    clear B0 hno hres
    go_enter Try.func66, Try.ntmps66
    go_wp2
    refine bodyPost_ret (v := .bool false) (by simp [results, Try.f66, go_sem] <;> exact hcr) rfl ?_
    exact ⟨rfl, two_below' w _ _⟩
  by_cases hv2 : 1073741824 < r.version
  · skip
    have hno : Ros.may r = false := decide_eq_false fun h => by have := h.1; omega
    have d1 : decide (r.version < 0) = false := decide_eq_false hv1
    have d2 : decide (1073741824 < r.version) = true := decide_eq_true hv2
    rw [hno]
    have hres := (Box.made_at (n := w.heap.size + 1) (w.alloc (.cells (Ros.cells r) 33)) 4 #[.bool false] (by simp)).put 0 (.bool false)
    have hcr := hres.cell 0
    clear B0 hno hres
    go_enter Try.func66, Try.ntmps66
    go_wp2
    refine bodyPost_ret (v := .bool false) (by simp [results, Try.f66, go_sem] <;> exact hcr) rfl ?_
    exact ⟨rfl, two_below' w _ _⟩
  have hver : 0 ≤ r.version ∧ r.version ≤ 1073741824 := by omega
  have d1 : decide (r.version < 0) = false := decide_eq_false hv1
  have d2 : decide (1073741824 < r.version) = false := decide_eq_false hv2
  have HV := Lib.hid hver
  have BB := Lib.hid B0
  clear hv1 hv2 hver
  refine (callsIn_wide (n := 10)).1 (callsIn_of_wp_marks Try.func66 rfl trivial (wpIn_wide.2 ?_) rfl)
  simp only [Try.ntmps66, List.size_toArray, List.length_cons, List.length_nil, Nat.reduceAdd, Nat.reduceSub, Array.replicate_succ, Array.replicate_zero, List.push_toArray, List.append_toArray, List.nil_append, List.cons_append]
  go_upto_block 0 with (go_at_call 87; ((with_reducible refine (seats_any _ _).mono ?_); rintro e w3 ⟨rfl, rfl⟩))
  have M0 : Maying w.heap.size (w.heap.size + 1) (w.heap.size + 1 + 1) (w.heap.size + 1 + 1 + 1) w r [] ((((w.alloc (.cells (Ros.cells r) 33)).alloc (.cells #[.bool false] 4)).alloc (.cells (Ros.hasCells fun _ => false) 132)).alloc (.cells #[.pointer (some ⟨w.heap.size, 0, none⟩)] 136)) :=
    ⟨((BB.out.alloc _).alloc _).alloc _, ((Box.made_at _ _ _ (by simp)).alloc _).alloc _, (Box.made_at _ _ _ (by simp)).alloc _, Box.made_at _ _ _ (by simp), ((((Below.refl _ _).alloc (Nat.le_refl _) _).alloc (by simp) _).alloc (by simp <;> omega) _).alloc (by simp <;> omega) _, Ros.good_nil r⟩
  simp only [Ros.hasCells] at M0
  generalize hW0 : ((((w.alloc (.cells (Ros.cells r) 33)).alloc (.cells #[.bool false] 4)).alloc _).alloc _) = W0 at M0 ⊢
  have MM0 := Lib.hid M0
  have hs0 : Sitting w.heap.size (w.heap.size + 1 + 1 + 1) W0 := M0.sit.cell 0
  clear hW0 M0 BB B0 hc h0 d1 d2
  refine (wpIn_wide (n := 10)).1 ?_
  refine wpIn_block ?_
  refine' wpIn_rangeFunc_ownF (n := 10) (w := W0) rfl (by omega) (gf := 99) (lb := #[.pointer (some ⟨w.heap.size + 1 + 1 + 1, 0, none⟩)]) rfl trivial (enters_of Try.func99 (by kernel_rfl) rfl)
    (seats1_stops w.heap.size (w.heap.size + 1 + 1 + 1) _ W0 hs0) sitkp_t (sitkp_b (n := W0.heap.size)) (Below.refl _ _) (fun _ => rfl)
    (fun pre W => Maying w.heap.size (w.heap.size + 1) (w.heap.size + 1 + 1) (w.heap.size + 1 + 1 + 1) w r pre W)
    (fun c pre W => c = .ret ∧ ¬ Ros.Good r pre ∧ Box W (w.heap.size + 1) 4 #[.bool false] ∧ Below w.heap.size w W)
    (fun pre W W' row h hgr hr => h.turned hgr (fun r e => ⟨Nat.le_trans MM0.out.below.size (hr r e).1, (hr r e).2⟩))
    (fun c pre W W' row h hgr hr => ⟨h.1, h.2.1, h.2.2.1.turned hgr (fun r e => (hr r e).2), Below.turned h.2.2.2 (Nat.le_refl _) hgr (fun r e => Nat.le_trans MM0.out.below.size (hr r e).1)⟩)
    MM0.out _ ?assign ?body ?done ?stop
  case assign =>
    intro l x W K hK
    gi_wp2
    exact hK
  case body =>
    rintro l pre ⟨k, hk⟩ W hM hlen
    have hk8 : (k : Int) < 8 := by omega
    have rc := hM.ros.cell
    have hl := hM.ros.lt
    have rp := Ros.cells_peer r k hk
    have rg := Ros.cells_gen r k hk
    have cs := fun X => Lib.hid (mayseat_any (r.peer k) (r.gen k) X)
    have HM := Lib.hid hM
    clear hM hlen
    by_cases hok : Ros.OkSeat r k
    · have hok' : (0 ≤ r.gen k ∧ r.gen k ≤ 60000) ∧ (r.peer k = -1 ∨ ((0 ≤ r.peer k ∧ r.peer k < 12) ∧ 0 < r.gen k)) := hok
      rw [decide_eq_true hok'] at cs
      have HOK := Lib.hid hok
      by_cases hp : r.peer k = -1
      · have HG : Hid (Ros.Good r (pre ++ [⟨k, hk⟩])) := Lib.hid (Ros.good_snoc.2 ⟨HM.out.good, hok, fun y hy => by rw [show r.peer (⟨k, hk⟩ : Ros.Sl).1 = -1 from hp]; omega⟩)
        have HF : Hid (Ros.hasF r (pre ++ [⟨k, hk⟩]) = Ros.hasF r pre) := Lib.hid (funext fun q => Ros.hasF_no (x := ⟨k, hk⟩) hp q)
        rw [hp] at rp cs
        generalize r.gen k = g at rg cs
        clear hok hok' hp
        gi_wp2_with (first | (gi_at_call 88; ((with_reducible refine (CallsIn.inRound l (callsIn_wide.2 (cs _).out)).mono ?_); rintro e v1 ⟨rfl, hb1⟩; have M1 := HM.out.call hb1; have s1 := M1.ros.cell; have s2 := M1.res.cell; have t2 := M1.res.free; have s3 := M1.has.cell; have t3 := M1.has.free; have l1 := M1.ros.lt; clear M1)) | (refine ⟨trivial, ?_⟩; gi_at_call 88; ((with_reducible refine (CallsIn.inRound l (callsIn_wide.2 (cs _).out)).mono ?_); rintro e v1 ⟨rfl, hb1⟩; have M1 := HM.out.call hb1; have s1 := M1.ros.cell; have s2 := M1.res.cell; have t2 := M1.res.free; have s3 := M1.has.cell; have t3 := M1.has.free; have l1 := M1.ros.lt; clear M1)))
        have M2 := HM.out.call hb1
        refine ⟨below_others hb1, fun h => h.below hb1, ?_⟩
        exact ⟨M2.ros, M2.res, by rw [HF.out]; exact M2.has, M2.sit, M2.below, HG.out⟩
      · obtain ⟨n, hn, hn12⟩ : ∃ n : Nat, r.peer k = n ∧ n < 12 := ⟨(r.peer k).toNat, by omega, by omega⟩
        have hne : ((n : Int) == -1) = false := by simp
        have hni : (n : Int) < 12 := by omega
        have ha := Ros.hasCells_at (Ros.hasF r pre) n hn12
        cases hh : Ros.hasF r pre n
        · rw [hh] at ha
          have HG : Hid (Ros.Good r (pre ++ [⟨k, hk⟩])) := Lib.hid (Ros.good_snoc.2 ⟨HM.out.good, hok, fun y hy => by rw [show r.peer (⟨k, hk⟩ : Ros.Sl).1 = n from hn]; exact .inr (Ros.hasF_iff.1 hh y hy)⟩)
          have HF : Hid (Ros.hasF r (pre ++ [⟨k, hk⟩]) = fun q => if q = n then true else Ros.hasF r pre q) := Lib.hid (funext fun q => Ros.hasF_yes (x := ⟨k, hk⟩) hn q)
          rw [hn] at rp cs
          generalize r.gen k = g at rg cs
          clear hok hok' hp hn hh
          gi_wp2_with (first | (gi_at_call 88; ((with_reducible refine (CallsIn.inRound l (callsIn_wide.2 (cs _).out)).mono ?_); rintro e v1 ⟨rfl, hb1⟩; have M1 := HM.out.call hb1; have s1 := M1.ros.cell; have s2 := M1.res.cell; have t2 := M1.res.free; have s3 := M1.has.cell; have t3 := M1.has.free; have l1 := M1.ros.lt; clear M1)) | (refine ⟨trivial, ?_⟩; gi_at_call 88; ((with_reducible refine (CallsIn.inRound l (callsIn_wide.2 (cs _).out)).mono ?_); rintro e v1 ⟨rfl, hb1⟩; have M1 := HM.out.call hb1; have s1 := M1.ros.cell; have s2 := M1.res.cell; have t2 := M1.res.free; have s3 := M1.has.cell; have t3 := M1.has.free; have l1 := M1.ros.lt; clear M1)))
          have M2 := HM.out.call hb1
          have hset := M2.has.put n (.bool true)
          rw [Ros.hasCells_set _ n hn12, ← HF.out] at hset
          refine ⟨(below_others hb1).trans (KeepsOthers.setCell _ _ _), fun h => (World.cell?_of_block (heap_setCell_other _ _ _ _ (by show w.heap.size + 1 + 1 + 1 ≠ w.heap.size + 1 + 1; omega))).trans (h.below hb1), ?_⟩
          exact ⟨M2.ros.far (by show _ ≠ _; simp; omega) _, M2.res.far (by show _ ≠ _; simp) _, hset, M2.sit.far (by show _ ≠ _; simp) _, M2.below.setCell (by simp; omega) _, HG.out⟩
        · rw [hh] at ha
          have HG : Hid (¬ Ros.Good r (pre ++ [⟨k, hk⟩])) := Lib.hid fun h => by
            have h3 := (Ros.good_snoc.1 h).2.2
            have : Ros.hasF r pre n = false := Ros.hasF_iff.2 fun y hy => by
              rcases h3 y hy with e | e
              · rw [e]; omega
              · rw [show r.peer (⟨k, hk⟩ : Ros.Sl).1 = n from hn] at e; exact e
            rw [this] at hh; cases hh
          rw [hn] at rp cs
          generalize r.gen k = g at rg cs
          clear hok hok' hp hn hh
          gi_wp2_with (first | (gi_at_call 88; ((with_reducible refine (CallsIn.inRound l (callsIn_wide.2 (cs _).out)).mono ?_); rintro e v1 ⟨rfl, hb1⟩; have M1 := HM.out.call hb1; have s1 := M1.ros.cell; have s2 := M1.res.cell; have t2 := M1.res.free; have s3 := M1.has.cell; have t3 := M1.has.free; have l1 := M1.ros.lt; clear M1)) | (refine ⟨trivial, ?_⟩; gi_at_call 88; ((with_reducible refine (CallsIn.inRound l (callsIn_wide.2 (cs _).out)).mono ?_); rintro e v1 ⟨rfl, hb1⟩; have M1 := HM.out.call hb1; have s1 := M1.ros.cell; have s2 := M1.res.cell; have t2 := M1.res.free; have s3 := M1.has.cell; have t3 := M1.has.free; have l1 := M1.ros.lt; clear M1)))
          have M2 := HM.out.call hb1
          exact ⟨(below_others hb1).trans (KeepsOthers.setCell _ _ _), rfl, HG.out, M2.res.put 0 _, M2.below.setCell (by simp) _⟩
    · have hok' : ¬ ((0 ≤ r.gen k ∧ r.gen k ≤ 60000) ∧ (r.peer k = -1 ∨ ((0 ≤ r.peer k ∧ r.peer k < 12) ∧ 0 < r.gen k))) := hok
      rw [decide_eq_false hok'] at cs
      have HG : Hid (¬ Ros.Good r (pre ++ [⟨k, hk⟩])) := Lib.hid fun h => hok (Ros.good_snoc.1 h).2.1
      generalize r.gen k = g at rg cs
      generalize r.peer k = p at rp cs
      clear hok hok'
      gi_wp2_with (first | (gi_at_call 88; ((with_reducible refine (CallsIn.inRound l (callsIn_wide.2 (cs _).out)).mono ?_); rintro e v1 ⟨rfl, hb1⟩; have M1 := HM.out.call hb1; have s1 := M1.ros.cell; have s2 := M1.res.cell; have t2 := M1.res.free; have s3 := M1.has.cell; have t3 := M1.has.free; have l1 := M1.ros.lt; clear M1)) | (refine ⟨trivial, ?_⟩; gi_at_call 88; ((with_reducible refine (CallsIn.inRound l (callsIn_wide.2 (cs _).out)).mono ?_); rintro e v1 ⟨rfl, hb1⟩; have M1 := HM.out.call hb1; have s1 := M1.ros.cell; have s2 := M1.res.cell; have t2 := M1.res.free; have s3 := M1.has.cell; have t3 := M1.has.free; have l1 := M1.ros.lt; clear M1)))
      have M2 := HM.out.call hb1
      exact ⟨(below_others hb1).trans (KeepsOthers.setCell _ _ _), rfl, HG.out, M2.res.put 0 _, M2.below.setCell (by simp) _⟩
  case done =>
    rintro D xs W hD rfl hM hK
    have hres := hM.res.put 0 (.bool true)
    have hK3 := others_kept (KeepsOthers.setCell W ⟨w.heap.size + 1, 0, none⟩ (.bool true)) hK
    have hDw : w.heap.size ≤ D := Nat.le_trans MM0.out.below.size hD
    have hT := hres.turned (grownBy_putObj' _ D (.deferred none)) (fun r e => by cases e; exact ⟨_, hK3, rfl⟩)
    have hT2 := Lib.hid (Below.turned (hM.below.setCell (p := ⟨w.heap.size + 1, 0, none⟩) (by simp) (.bool true)) (Nat.le_refl _) (grownBy_putObj' _ D (.deferred none)) (fun r e => by cases e; exact hDw))
    have hyes : Hid (Ros.may r = true) := Lib.hid (decide_eq_true ⟨HV.out, hM.good⟩)
    have HK3 := Lib.hid hK3
    have hc5 : ((W.setCell ⟨w.heap.size + 1, 0, none⟩ (.bool true)).putObj D (.deferred none)).cell? ⟨w.heap.size + 1, 0, none⟩ = some (.bool true) := hT.cell 0
    have u4 := hM.res.cell
    have v4 := hM.res.free
    clear hM hres hK3 hT hK
    go_wp2
    refine ⟨by simp, .inl ⟨_, _, rfl, run_takeDeferred HK3.out, ?_⟩⟩
    refine ⟨.bool true, ?_, by rw [hyes.out], hT2.out⟩
    simp [results, Try.f66, go_sem, hc5]
  case stop =>
    rintro D c' pre W hD ⟨rest, hpre⟩ ⟨rfl, h2, h3, h4⟩ hK
    have hno : Hid (Ros.may r = false) := Lib.hid (decide_eq_false fun h => h2 (Ros.good_front (m := rest) (by rw [← hpre]; exact h.2)))
    have hDw : w.heap.size ≤ D := Nat.le_trans MM0.out.below.size hD
    have hT := h3.turned (grownBy_putObj' _ D (.deferred none)) (fun r e => by cases e; exact ⟨_, hK, rfl⟩)
    have hT2 := Lib.hid (Below.turned h4 (Nat.le_refl _) (grownBy_putObj' _ D (.deferred none)) (fun r e => by cases e; exact hDw))
    have hc5 : (W.putObj D (.deferred none)).cell? ⟨w.heap.size + 1, 0, none⟩ = some (.bool false) := hT.cell 0
    have HK3 := Lib.hid hK
    clear h2 h3 h4 hK hpre hT
    refine wpIn_ret ?_
    refine ⟨by simp, .inl ⟨_, _, rfl, run_takeDeferred HK3.out, ?_⟩⟩
    refine ⟨.bool false, ?_, by rw [hno.out], hT2.out⟩
    simp [results, Try.f66, go_sem, hc5]
end Go.Proofs.Ytghomofakpjglaa
namespace Go.Proofs.Ytghomofakpjglaa
open Go.RowKit Go.Shelf
set_option linter.unusedVariables false

section
variable {P : Program} {ops : Array Oper} {rest : List Oper} {o : Oper} {a : Act} {w : World} {Q : Exit → Act → World → Prop} {dst : Option Tmp} {p v : Value} {t : TypeId} {d : TypeDesc} {x y : Operand}
/-- What the load of a whole block wants. -/
def LoadRow (P : Program) (ops : Array Oper) (Q : Exit → Act → World → Prop) (rest : List Oper) (dst : Option Tmp) (p : Value) (t : TypeId) (a : Act) (w : World) : Prop :=
  ∃ (B : Nat) (cs : Array Value), p = .pointer (some ⟨B, 0, none⟩) ∧ Box w B t cs ∧ (P.info? t).map (·.size) = some cs.size ∧ wpList P ops Q rest (a.put dst (.agg cs)) w
theorem LoadRow.mk {B : Nat} {cs : Array Value} (hp : p = .pointer (some ⟨B, 0, none⟩)) (hB : Box w B t cs) (hi : (P.info? t).map (·.size) = some cs.size) (h : wpList P ops Q rest (a.put dst (.agg cs)) w) : LoadRow P ops Q rest dst p t a w := ⟨B, cs, hp, hB, hi, h⟩
theorem row_load (hgd : o.guard = none) (ho : o.op = .load t x) (hu : P.underlying t = some d) (hd : d.isRow = true) (h : LoadRow P ops Q rest o.dst (a.eval x) t a w) : wpList P ops Q (o :: rest) a w := by
  obtain ⟨B, cs, hx, hB, hi, h⟩ := h
  exact wpList_load_blk hgd ho hx hB hu hd hi h
/-- What the store of a whole block wants. -/
def StoreRow (P : Program) (ops : Array Oper) (Q : Exit → Act → World → Prop) (rest : List Oper) (dst : Option Tmp) (p v : Value) (t : TypeId) (a : Act) (w : World) : Prop :=
  ∃ (B : Nat) (cs old : Array Value), p = .pointer (some ⟨B, 0, none⟩) ∧ v = .agg cs ∧ Box w B t old ∧ (P.info? t).map (·.size) = some cs.size ∧ old.size = cs.size ∧ cs.all (·.oneCell') = true ∧ wpList P ops Q rest (a.put dst undef) (w.setRow B cs)
theorem StoreRow.mk {B : Nat} {cs old : Array Value} (hp : p = .pointer (some ⟨B, 0, none⟩)) (hv : v = .agg cs) (hB : Box w B t old) (hi : (P.info? t).map (·.size) = some cs.size) (hs : old.size = cs.size) (h1 : cs.all (·.oneCell') = true) (h : wpList P ops Q rest (a.put dst undef) (w.setRow B cs)) : StoreRow P ops Q rest dst p v t a w := ⟨B, cs, old, hp, hv, hB, hi, hs, h1, h⟩
theorem row_store (hgd : o.guard = none) (ho : o.op = .store t x y) (h : StoreRow P ops Q rest o.dst (a.eval x) (a.eval y) t a w) : wpList P ops Q (o :: rest) a w := by
  obtain ⟨B, cs, old, hx, hy, hB, hi, hs, h1, h⟩ := h
  exact wpList_store_blk hgd ho hx hy hB hi hs h1 h
end

theorem ros_info : (Try.prog.info? 33).map (·.size) = some 17 := by kernel_rfl
theorem ros_one (r : Ros.R) : (Ros.cells r).all (·.oneCell') = true := by
  refine Array.all_eq_true_iff_forall_mem.2 fun v hv => ?_
  obtain ⟨n, rfl⟩ := Ros.cells_ints r v (by simpa using hv)
  rfl
def rosZero : Ros.R := ⟨0, fun _ => 0, fun _ => 0⟩
theorem ros_zero : (Try.prog.info? 33).map (·.zero) = some (some (.agg (Ros.cells rosZero))) := by kernel_rfl
section
variable {ops : Array Oper} {rest : List Oper} {o : Oper} {a : Act} {w : World} {Q : Exit → Act → World → Prop}
theorem ros_alloc (hgd : o.guard = none) (ho : o.op = .alloc 33)
    (h : wpList Try.prog ops Q rest (a.put o.dst (.pointer (some ⟨w.heap.size, 0, none⟩))) (w.alloc (.cells (Ros.cells rosZero) 33))) : wpList Try.prog ops Q (o :: rest) a w :=
  wpList_alloc_z hgd ho ros_zero rfl h
end

theorem ros_load {ops : Array Oper} {rest : List Oper} {o : Oper} {a : Act} {w : World} {Q : Exit → Act → World → Prop} {x : Operand} (hgd : o.guard = none) (ho : o.op = .load 33 x) (h : LoadRow Try.prog ops Q rest o.dst (a.eval x) 33 a w) : wpList Try.prog ops Q (o :: rest) a w :=
  row_load hgd ho Try.underlying33 rfl h
theorem ros_store {ops : Array Oper} {rest : List Oper} {o : Oper} {a : Act} {w : World} {Q : Exit → Act → World → Prop} {x y : Operand} (hgd : o.guard = none) (ho : o.op = .store 33 x y) (h : StoreRow Try.prog ops Q rest o.dst (a.eval x) (a.eval y) 33 a w) : wpList Try.prog ops Q (o :: rest) a w :=
  row_store hgd ho h

/-- What a going over of the seats knows. -/
structure Sit (B Bg : Nat) (w0 : World) (r : Ros.R) (W : World) : Prop where
  ros : Box W B 33 (Ros.cells r)
  sit : Box W Bg 136 #[.pointer (some ⟨B, 0, none⟩)]
  below : Below w0.heap.size w0 W
section
variable {B Bg : Nat} {w0 W W' : World} {r : Ros.R}
theorem Sit.turned {row : Option Nat} (h : Sit B Bg w0 r W) (hg : W.grownBy W' row) (hr : ∀ r, row = some r → w0.heap.size ≤ r ∧ ∃ o : Obj, W.heap[r]? = some o ∧ o.isCells = false) : Sit B Bg w0 r W' :=
  ⟨h.ros.turned hg fun r e => (hr r e).2, h.sit.turned hg fun r e => (hr r e).2, Below.turned h.below (Nat.le_refl _) hg fun r e => (hr r e).1⟩
theorem Sit.call (h : Sit B Bg w0 r W) (hb : Below W.heap.size W W') : Sit B Bg w0 r W' :=
  ⟨h.ros.below hb h.ros.lt, h.sit.below hb h.sit.lt, h.below.trans (hb.mono h.below.size)⟩
theorem Sit.drew (h : Sit B Bg w0 r W) : Sit B Bg w0 r W.drew := ⟨h.ros.drew, h.sit.drew, Below.drew h.below⟩
theorem Sit.far {p : Addr} {v : Value} {t : TypeId} {cs : Array Value} (h : Sit B Bg w0 r W) (hp : Box W p.block t cs) (h1 : 33 ≠ t) (h2 : 136 ≠ t) (hl : w0.heap.size ≤ p.block) : Sit B Bg w0 r (W.setCell p v) :=
  ⟨h.ros.far (fun e => Box.apart h.ros hp h1 e) _, h.sit.far (fun e => Box.apart h.sit hp h2 e) _, h.below.setCell hl _⟩
end
end Go.Proofs.Ytghomofakpjglaa
namespace Go.Proofs.Ytghomofakpjglaa
open Go.RowKit
set_option linter.unusedVariables false

theorem seat_in (a b c d : Int) (w : World) : (Op.equalIn 9998 30 (.agg #[.int .i64 a, .int .i64 b]) (.agg #[.int .i64 c, .int .i64 d])).run Try.prog w = .ok (a == c && b == d) w := by
  by_cases h1 : a = c
  · by_cases h2 : b = d
    · subst h1 h2; go_simp <;> simp
    · have h3 : (b == d) = false := by simpa using h2
      subst h1; go_simp <;> simp [h3, h2]
  · have h3 : (a == c) = false := by simpa using h1
    go_simp <;> simp [h3, h1]
theorem seat2_info : (Try.prog.info? 30).map (·.size) = some 2 := by kernel_rfl
theorem seatCells_list (r : Ros.R) (i : Nat) (hi : i < 8) : ((Ros.seatCells r).drop (i * 2)).take 2 = Ros.pair r i := by
  match i, hi with
  | 0, _ | 1, _ | 2, _ | 3, _ | 4, _ | 5, _ | 6, _ | 7, _ => rfl
theorem seat_part (r : Ros.R) (i : Nat) (hi : i < 8) (w : World) : (part 30 (Ros.seatCells r).toArray (i * 2)).run Try.prog w = .ok (.agg (Ros.pair r i).toArray) w := by
  have h := seatCells_list r i hi
  cases hq : Try.prog.info? 30 with
  | none => have := seat2_info; simp [hq] at this
  | some j =>
    have hs : j.size = 2 := by have := seat2_info; simpa [hq] using this
    simp [part, isAgg, sizeOf, typeInfo, hq, hs, run_underlying (Try.underlying30) w, h]
end Go.Proofs.Ytghomofakpjglaa
namespace Go.Proofs.Ytghomofakpjglaa
open Go.RowKit Go.Shelf
set_option linter.unusedVariables false
set_option linter.unusedSimpArgs false

/-- Which states may be. -/
def Im.Ok (g : Gm.G) (r : Ros.R) : Prop := Gm.ok g ∧ Ros.Ok r ∧ ∀ k, k < 8 → (g.ship k).on = decide (0 ≤ r.peer k)
theorem state_info : (Try.prog.info? 35).map (·.size) = some 76 := by kernel_rfl
theorem seats_info : (Try.prog.info? 31).map (·.size) = some 16 := by kernel_rfl
section
variable {ops : Array Oper} {rest : List Oper} {o : Oper} {a : Act} {w : World} {Q : Exit → Act → World → Prop} {x : Operand} {dst : Option Tmp} {p : Value}
/-- What the load of a state's game wants. -/
def LoadIm (ops : Array Oper) (Q : Exit → Act → World → Prop) (rest : List Oper) (dst : Option Tmp) (p : Value) (off : Nat) (pick : Gm.G → Value → Ros.R → Array Value) (a : Act) (w : World) : Prop :=
  ∃ (B : Nat) (g : Gm.G) (s : Value) (r : Ros.R), p = .pointer (some ⟨B, off, none⟩) ∧ Box w B 35 (Im.cells g s r) ∧ wpList Try.prog ops Q rest (a.put dst (.agg (pick g s r))) w
theorem LoadIm.mk {off : Nat} {pick : Gm.G → Value → Ros.R → Array Value} {B : Nat} {g : Gm.G} {s : Value} {r : Ros.R} (hp : p = .pointer (some ⟨B, off, none⟩)) (hB : Box w B 35 (Im.cells g s r)) (h : wpList Try.prog ops Q rest (a.put dst (.agg (pick g s r))) w) : LoadIm ops Q rest dst p off pick a w := ⟨B, g, s, r, hp, hB, h⟩
theorem im_load_game (hgd : o.guard = none) (ho : o.op = .load 28 x) (h : LoadIm ops Q rest o.dst (a.eval x) 0 (fun g s _ => Gm.cells g s) a w) : wpList Try.prog ops Q (o :: rest) a w := by
  obtain ⟨B, g, s, r, hx, hB, h⟩ := h
  refine wpList_load_part hgd ho hx hB (Gm.cells g s).toList (fun j v hv => ?_) Try.underlying28 rfl game_info h
  have hj : j < 59 := (List.getElem?_eq_some_iff.1 hv).1
  rw [Nat.zero_add, Im.cells_g _ _ _ j hj]
  simpa using hv
theorem im_load_ros_g (hw : Region.wanted o (yielded ops a.tmps) = true) (ho : o.op = .load 33 x) (h : LoadIm ops Q rest o.dst (a.eval x) 59 (fun _ _ r => Ros.cells r) a w) : wpList Try.prog ops Q (o :: rest) a w := by
  obtain ⟨B, g, s, r, hx, hB, h⟩ := h
  refine wpList_load_part_g hw ho hx hB (Ros.cells r).toList (fun j v hv => ?_) Try.underlying33 rfl ros_info h
  rw [Im.cells_r]
  simpa using hv
theorem im_load_seats (hgd : o.guard = none) (ho : o.op = .load 31 x) (h : LoadIm ops Q rest o.dst (a.eval x) 60 (fun _ _ r => (Ros.seatCells r).toArray) a w) : wpList Try.prog ops Q (o :: rest) a w := by
  obtain ⟨B, g, s, r, hx, hB, h⟩ := h
  refine wpList_load_part hgd ho hx hB (Ros.seatCells r) (fun j v hv => ?_) Try.underlying31 rfl seats_info h
  rw [show 60 + j = 59 + (1 + j) by omega, Im.cells_r]
  rw [← hv]
  simp [Ros.cells, Nat.add_comm]
end

theorem seat_index (r : Ros.R) (k : Nat) (hk : k < 8) (W : World) : (Instr.index 31 (.agg (Ros.seatCells r).toArray) (.int .i64 (k : Int))).run Try.prog W = .ok (.agg #[.int .i64 (r.peer k), .int .i64 (r.gen k)]) W := by
  have h := seat_part r k hk W
  rw [show (Ros.pair r k).toArray = #[.int .i64 (r.peer k), .int .i64 (r.gen k)] from rfl] at h
  have hk8 : (k : Int) < 8 := by omega
  have hc : Try.prog.cellsOf 30 = 2 := by kernel_rfl
  cases hq : Try.prog.info? 30 with
  | none => have := seat2_info; simp [hq] at this
  | some i =>
    have hi : i.size = 2 := by have := seat2_info; simpa [hq] using this
    simp [Instr.index, run_underlying (Try.underlying31) W, h, hk8, sizeOf, typeInfo, hq, hi, go_sem]
    rw [if_pos hk, seatCells_list r k hk]
    rfl
set_option maxRecDepth 100000 in
set_option maxHeartbeats 4000000 in
theorem immay_any (g : Gm.G) (r : Ros.R) (A : Option Addr) (n c : Nat) (w : World) (hty : Gm.ty g) (hn : n = g.shots.length) (hn63 : n ≤ maxLen) (hr : Lies w w.heap.size 6 A n (Gm.shotCells g.shots)) :
    Calls Try.prog 38 #[.agg (Im.cells g (.slice A n c) r)] w fun e w' => (∃ v, e = .returned (.bool v) ∧ (v = true ↔ Im.Ok g r)) ∧ Below w.heap.size w w' := by
  have P0 := Lib.hid (Box.made w 35 (Im.cells g (.slice A n c) r))
  have K0 := Lib.hid (one_below w (.cells (Im.cells g (.slice A n c) r) 35))
  have hr0 := (hr.below K0.out).wider K0.out.size
  by_cases hg : Gm.ok g
  · have cg := fun X hX => Lib.hid (may_yes g A n c X hg hn hX)
    have cr := fun X => Lib.hid (rosmay_any r X)
    by_cases hok : Ros.Ok r
    · rw [show Ros.may r = true from decide_eq_true hok] at cr
      have HG := Lib.hid hg
      have HR := Lib.hid hok
      have hq := Lib.hid hr0
      clear hr hr0 hn hty hg hok
      go_enter Try.func38, Try.ntmps38
      go_wp2_with (first | ((with_reducible refine im_load_game rfl rfl ?_); apply LoadIm.mk rfl; (focus (with_reducible exact P0.out)); dsimp only) | ((with_reducible refine im_load_ros_g ?_ rfl ?_); (focus first | rfl | kernel_rfl | simp [Region.wanted, yielded]); apply LoadIm.mk rfl; (focus (with_reducible exact P1.out)); dsimp only) | ((with_reducible refine im_load_seats rfl rfl ?_); apply LoadIm.mk rfl; (focus (with_reducible exact P2.out)); dsimp only) | (go_at_call 65; ((with_reducible refine ((cg _ hq.out).out).mono ?_); rintro e w1 ⟨rfl, hb⟩; have P1 := Lib.hid (P0.out.below hb P0.out.lt); have K1 := Lib.hid (K0.out.trans (hb.mono K0.out.size)); clear hb)) | (go_at_call 66; ((with_reducible refine ((cr _).out).mono ?_); rintro e w2 ⟨rfl, hb⟩; have P2 := Lib.hid (P1.out.below hb P1.out.lt); have K2 := Lib.hid (K1.out.trans (hb.mono K1.out.size)); clear hb)))
      go_loopw [18] (fun i wr => ∃ k : Nat, k ≤ 8 ∧ i = .int .i64 k ∧ Box wr w.heap.size 35 (Im.cells g (.slice A n c) r) ∧ Below w.heap.size w wr ∧ ∀ j, j < k → (g.ship j).on = decide (0 ≤ r.peer j)) (fun i _ => 8 - (intOf i).toNat)
      case atStart => exact ⟨0, by omega, rfl, P2.out, K2.out, fun j hj => absurd hj (Nat.not_lt_zero j)⟩
      case round =>
        obtain ⟨k, hk, rfl, hB, hb, hall⟩ := hrel
        clear P0 K0 P1 K1 P2 K2 hq
        by_cases hlt : k < 8
        · have hk8 : (k : Int) < 8 := by omega
          have hpart := seat_index r k hlt
          have e0 := (hB.cell (2 + k * 7)).trans (Im.cells_ship g _ r k 0 hlt (by omega))
          simp only [Gm.Ship.cells, List.getElem?_cons_zero] at e0
          have hcell : ∀ o, (wr.alloc o).cell? ⟨w.heap.size, 2 + k * 7, none⟩ = some (.bool (g.ship k).on) := fun o => ((hB.alloc o).cell _).trans ((Im.cells_ship g _ r k 0 hlt (by omega)).trans rfl)
          obtain ⟨on, hon⟩ : ∃ on, on = (g.ship k).on := ⟨_, rfl⟩
          obtain ⟨pk, hpk⟩ : ∃ pk, pk = r.peer k := ⟨_, rfl⟩
          obtain ⟨gk, hgk⟩ : ∃ gk, gk = r.gen k := ⟨_, rfl⟩
          rw [← hon] at e0 hcell
          rw [← hpk, ← hgk] at hpart
          have HON := Lib.hid hon
          have HPK := Lib.hid hpk
          have HALL := Lib.hid hall
          have HB := Lib.hid hB
          have HBB := Lib.hid hb
          clear hon hpk hgk hall hB hb
          by_cases hm : on = decide (0 ≤ pk)
          · have hnew := Lib.hid (show ∀ j, j < k + 1 → (g.ship j).on = decide (0 ≤ r.peer j) from fun j hj => by
              by_cases e : j = k
              · rw [e, ← HON.out, ← HPK.out]; exact hm
              · exact HALL.out j (by omega))
            cases hd : decide (0 ≤ pk)
            · rw [hd] at hm
              subst hm
              go_upto_region 6 with fail
              go_quiet (fail)
              go_wp2
              go_roundw
              case rel => exact ⟨k + 1, by omega, by go_num, (HB.out.alloc _).draws _, draws_below (HBB.out.alloc HBB.out.size _) _, hnew.out⟩
              case measure => simp [intOf]; omega
            · rw [hd] at hm
              subst hm
              go_upto_region 6 with fail
              go_quiet (fail)
              go_wp2
              go_roundw
              case rel => exact ⟨k + 1, by omega, by go_num, (HB.out.alloc _).draws _, draws_below (HBB.out.alloc HBB.out.size _) _, hnew.out⟩
              case measure => simp [intOf]; omega
          · have hno := Lib.hid (show ¬ Im.Ok g r from fun h => hm (by rw [HON.out, HPK.out]; exact h.2.2 k hlt))
            cases hd : decide (0 ≤ pk)
            · obtain rfl : on = true := by
                cases on
                · exact absurd hd.symm hm
                · rfl
              clear hm
              go_upto_region 6 with fail
              go_quiet (fail)
              go_wp2
              go_ret
              exact ⟨by first | exact ⟨false, rfl, by simp; exact hno.out⟩ | exact .inl ⟨rfl, hno.out⟩, draws_below (HBB.out.alloc HBB.out.size _) _⟩
            · obtain rfl : on = false := by
                cases on
                · rfl
                · exact absurd hd.symm hm
              clear hm
              go_upto_region 6 with fail
              go_quiet (fail)
              go_wp2
              go_ret
              exact ⟨by first | exact ⟨false, rfl, by simp; exact hno.out⟩ | exact .inl ⟨rfl, hno.out⟩, draws_below (HBB.out.alloc HBB.out.size _) _⟩
        · have hk8 : ¬ (k : Int) < 8 := by omega
          have hyes := Lib.hid (show Im.Ok g r from ⟨HG.out, HR.out, fun j hj => hall j (by omega)⟩)
          have HBB := Lib.hid hb
          clear hall hB hb
          go_wp2
          go_ret
          exact ⟨by first | exact ⟨true, rfl, by simp; exact hyes.out⟩ | exact .inr ⟨rfl, hyes.out⟩, HBB.out⟩
    · rw [show Ros.may r = false from decide_eq_false hok] at cr
      have hno := Lib.hid (show ¬ Im.Ok g r from fun h => hok h.2.1)
      have hq := Lib.hid hr0
      clear hr hr0 hn hty hg hok
      go_enter Try.func38, Try.ntmps38
      go_wp2_with (first | ((with_reducible refine im_load_game rfl rfl ?_); apply LoadIm.mk rfl; (focus (with_reducible exact P0.out)); dsimp only) | ((with_reducible refine im_load_ros_g ?_ rfl ?_); (focus first | rfl | kernel_rfl | simp [Region.wanted, yielded]); apply LoadIm.mk rfl; (focus (with_reducible exact P1.out)); dsimp only) | ((with_reducible refine im_load_seats rfl rfl ?_); apply LoadIm.mk rfl; (focus (with_reducible exact P2.out)); dsimp only) | (go_at_call 65; ((with_reducible refine ((cg _ hq.out).out).mono ?_); rintro e w1 ⟨rfl, hb⟩; have P1 := Lib.hid (P0.out.below hb P0.out.lt); have K1 := Lib.hid (K0.out.trans (hb.mono K0.out.size)); clear hb)) | (go_at_call 66; ((with_reducible refine ((cr _).out).mono ?_); rintro e w2 ⟨rfl, hb⟩; have P2 := Lib.hid (P1.out.below hb P1.out.lt); have K2 := Lib.hid (K1.out.trans (hb.mono K1.out.size)); clear hb)))
      go_ret
      exact ⟨by first | exact ⟨false, rfl, by simp; exact hno.out⟩ | exact .inl ⟨rfl, hno.out⟩, K2.out⟩
  · have cg := fun X hX => Lib.hid (may_not g A n c X hg hty hn hn63 hX)
    have hno := Lib.hid (show ¬ Im.Ok g r from fun h => hg h.1)
    have hq := Lib.hid hr0
    clear hr hr0 hn hty hg
    go_enter Try.func38, Try.ntmps38
    go_wp2_with (first | ((with_reducible refine im_load_game rfl rfl ?_); apply LoadIm.mk rfl; (focus (with_reducible exact P0.out)); dsimp only) | ((with_reducible refine im_load_ros_g ?_ rfl ?_); (focus first | rfl | kernel_rfl | simp [Region.wanted, yielded]); apply LoadIm.mk rfl; (focus (with_reducible exact P1.out)); dsimp only) | ((with_reducible refine im_load_seats rfl rfl ?_); apply LoadIm.mk rfl; (focus (with_reducible exact P2.out)); dsimp only) | (go_at_call 65; ((with_reducible refine ((cg _ hq.out).out).mono ?_); rintro e w1 ⟨rfl, hb⟩; have P1 := Lib.hid (P0.out.below hb P0.out.lt); have K1 := Lib.hid (K0.out.trans (hb.mono K0.out.size)); clear hb)) | (go_at_call 66; ((with_reducible refine ((cr _).out).mono ?_); rintro e w2 ⟨rfl, hb⟩; have P2 := Lib.hid (P1.out.below hb P1.out.lt); have K2 := Lib.hid (K1.out.trans (hb.mono K1.out.size)); clear hb)))
    go_ret
    exact ⟨by first | exact ⟨false, rfl, by simp; exact hno.out⟩ | exact .inl ⟨rfl, hno.out⟩, K1.out⟩
end Go.Proofs.Ytghomofakpjglaa
namespace Go.Proofs.Ytghomofakpjglaa
open Go.RowKit Go.Shelf
set_option linter.unusedVariables false
set_option linter.unusedSimpArgs false

theorem catch_put (Bb Bc : Nat) (u : TypeId) (pv : Value) (older : List PanicEntry) (w : World) (x : Value) (hb : Box w Bb 36 #[x]) (y : Int) (hc : Box w Bc 3 #[.int .i64 y]) :
    CallsD Try.prog 36 #[.pointer (some ⟨Bb, 0, none⟩), .pointer (some ⟨Bc, 0, none⟩)] (.panicking ({ v := .iface u pv, recovered := false } :: older)) w fun e u' w' =>
      e = .returned (.tuple #[]) ∧ u' = .panicking ({ v := .iface u pv, recovered := true } :: older) ∧ w' = (w.setCell ⟨Bb, 0, none⟩ (.slice none 0 0)).setCell ⟨Bc, 0, none⟩ (.int .i64 1) := by
  have ne : Bb ≠ Bc := Box.apart hb hc (by decide)
  have c1 := hb.cell 0
  have f1 := hb.free 0
  have c2 := hc.cell 0
  have f2 := hc.free 0
  refine callsD_of_wpS Try.func36 rfl fun c₀ cs hu => ?_
  apply wpS_seq
  apply wpS_region
  simp [wpOpsS, go_sem, recoverD, hu, Try.ntmps36, Exit.thenS]
  refine wpS_cond (t := true) (by simp [Act.eval, Array.replicate]) ?_
  simp only [if_true]
  apply wpS_region
  have c2' : (w.setCell ⟨Bb, 0, none⟩ (.slice none 0 0)).cell? ⟨Bc, 0, none⟩ = some (.int .i64 y) := (hc.far (p := ⟨Bb, 0, none⟩) (fun e => ne e.symm) _).cell 0
  have f2' : (w.setCell ⟨Bb, 0, none⟩ (.slice none 0 0)).frozen? ⟨Bc, 0, none⟩ = false := (hc.far (p := ⟨Bb, 0, none⟩) (fun e => ne e.symm) _).free 0
  simp [wpOpsS, go_sem, c1, f1, c2', f2', bodyPostS, results, Try.results36]

theorem catch_idle_put (p q : Addr) (w : World) :
    CallsD Try.prog 36 #[.pointer (some p), .pointer (some q)] .returning w fun e u' w' => e = .returned (.tuple #[]) ∧ u' = .returning ∧ w' = w := by
  refine callsD_of_wpS Try.func36 rfl fun c₀ cs hu => ?_
  apply wpS_seq
  apply wpS_region
  simp [wpOpsS, go_sem, recoverD, hu, Try.ntmps36, Exit.thenS]
  refine wpS_cond (t := false) (by simp [Act.eval, Array.replicate]) ?_
  simp only [Bool.false_eq_true, if_false]
  refine wpS_of_wp (wp_skip ?_)
  cases c₀
  simp_all [bodyPostS, results, Try.results36]
end Go.Proofs.Ytghomofakpjglaa
namespace Go.Proofs.Ytghomofakpjglaa
open Go.RowKit Go.Shelf
set_option linter.unusedVariables false
set_option linter.unusedSimpArgs false

section
variable {ops : Array Oper} {Q : Exit → Act → World → Prop} {o : Oper} {rest : List Oper} {a : Act} {w : World} {x : Operand}
theorem im_load_state (hgd : o.guard = none) (ho : o.op = .load 35 x) (h : LoadIm ops Q rest o.dst (a.eval x) 0 (fun g s r => Im.cells g s r) a w) : wpList Try.prog ops Q (o :: rest) a w := by
  obtain ⟨B, g, s, r, hx, hB, h⟩ := h
  refine wpList_load_part hgd ho hx hB (Im.cells g s r).toList (fun j v hv => ?_) Try.underlying35 rfl (by rw [Array.length_toList, Im.cells_size]; exact state_info) (by rw [Array.toArray_toList]; exact h)
  rw [Nat.zero_add]
  simpa using hv
end

theorem Im.put_le (g : Gm.G) (r : Ros.R) (h : g.shots.length ≤ 32) : (Im.put g r).length ≤ 64000 := by
  have e1 := Im.ships_le g.ship 8
  have e2 := Im.shots_len g.shots
  have e3 := Im.seats_len r 8
  unfold Im.put
  simp only [List.length_append, Im.bytesOf_len, e2, e3]
  omega

theorem put_no (g : Gm.G) (r : Ros.R) (A : Option Addr) (n c : Nat) (w : World) (hno : ¬ Im.Ok g r) (hty : Gm.ty g) (hn : n = g.shots.length) (hn63 : n ≤ maxLen) (hr : Lies w w.heap.size 6 A n (Gm.shotCells g.shots)) :
    Calls Try.prog 14 #[.agg (Im.cells g (.slice A n c) r)] w fun e w' => e = .returned (.tuple #[.slice none 0 0, .int .i64 1]) ∧ Below w.heap.size w w' := by
  have hmf : ∀ (fn : Fn) (first cap : Array Value) (w : World), (Instr.makeFunc fn first cap).run Try.prog w = .ok (.func fn first cap) w := fun _ _ _ _ => rfl
  have P1 := Lib.hid (((Box.made w 35 (Im.cells g (.slice A n c) r)).alloc (.cells #[.slice none 0 0] 36)).alloc (.cells #[.int .i64 0] 3))
  have B1 := Lib.hid ((Box.made_at (n := w.heap.size + 1) (w.alloc (.cells (Im.cells g (.slice A n c) r) 35)) 36 #[.slice none 0 0] (by simp)).alloc (.cells #[.int .i64 0] 3))
  have C1 := Lib.hid (Box.made_at (n := w.heap.size + 1 + 1) ((w.alloc (.cells (Im.cells g (.slice A n c) r) 35)).alloc (.cells #[.slice none 0 0] 36)) 3 #[.int .i64 0] (by simp))
  have K1 := Lib.hid ((((Below.refl w.heap.size w).alloc (Nat.le_refl _) (.cells (Im.cells g (.slice A n c) r) 35)).alloc (by simp) (.cells #[.slice none 0 0] 36)).alloc (by simp <;> omega) (.cells #[.int .i64 0] 3))
  have hr1 := (hr.below K1.out).wider K1.out.size
  have cm := fun X hX => Lib.hid (immay_any g r A n c X hty hn hn63 hX)
  have HR := Lib.hid hr1
  have HN := Lib.hid hno
  clear hr hr1 hn hty hno
  go_enter_defers Try.func14, Try.ntmps14
  go_wp2_with (first | ((with_reducible refine im_load_state rfl rfl ?_); apply LoadIm.mk rfl; (focus (with_reducible exact P1.out)); dsimp only) | (go_at_call 38; ((with_reducible refine ((cm _ HR.out).out).mono ?_); rintro e w1 ⟨⟨v, rfl, hv⟩, hb⟩; obtain rfl : v = false := (by cases v <;> first | rfl | exact absurd (hv.1 rfl) HN.out); have C2 := Lib.hid (C1.out.below hb C1.out.lt); have B2 := Lib.hid (B1.out.below hb B1.out.lt); have K2 := Lib.hid (K1.out.trans (hb.mono K1.out.size)); clear hb hv)) | (go_at_call 37; ((with_reducible refine (need_no _ _).mono ?_); rintro e w2 ⟨rfl, rfl⟩)))
  refine leaves_cons (f := 36) (args := #[.pointer (some ⟨w.heap.size + 1, 0, none⟩), .pointer (some ⟨w.heap.size + 1 + 1, 0, none⟩)]) (by simp) (by simp [go_sem]) ?_
  refine (catch_put (w.heap.size + 1) (w.heap.size + 1 + 1) _ _ [] _ _ B2.out _ C2.out).mono ?_
  have ne : w.heap.size + 1 ≠ w.heap.size + 1 + 1 := by omega
  have B4 := (B2.out.put 0 (.slice none 0 0)).far (p := ⟨w.heap.size + 1 + 1, 0, none⟩) ne (.int .i64 1)
  have C4 := (C2.out.far (p := ⟨w.heap.size + 1, 0, none⟩) (fun e => ne e.symm) (.slice none 0 0)).put 0 (.int .i64 1)
  have K4 := (K2.out.setCell (p := ⟨w.heap.size + 1, 0, none⟩) (Nat.le_succ _) (.slice none 0 0)).setCell (p := ⟨w.heap.size + 1 + 1, 0, none⟩) (by show w.heap.size ≤ w.heap.size + 1 + 1; omega) (.int .i64 1)
  have b4 := B4.cell 0
  have c4 := C4.cell 0
  simp at b4 c4
  rintro e u' w'' ⟨rfl, rfl, rfl⟩
  simp [Leaves, settle, results, Try.results14, go_sem, b4, c4]
  exact K4

theorem put_yes (g : Gm.G) (r : Ros.R) (A : Option Addr) (n c : Nat) (w : World) (hok : Im.Ok g r) (hd : 0 ≤ g.dice ∧ g.dice ≤ 18446744073709551615) (hn : n = g.shots.length) (hr : Lies w w.heap.size 6 A n (Gm.shotCells g.shots)) :
    Calls Try.prog 14 #[.agg (Im.cells g (.slice A n c) r)] w fun e w' => ∃ A' c', e = .returned (.tuple #[.slice A' (Im.put g r).length c', .int .i64 0]) ∧ Lies w' w'.heap.size 1 A' (Im.put g r).length (Im.u8s (Im.put g r)) ∧ Below w.heap.size w w' := by
  have hmf : ∀ (fn : Fn) (first cap : Array Value) (w : World), (Instr.makeFunc fn first cap).run Try.prog w = .ok (.func fn first cap) w := fun _ _ _ _ => rfl
  have hn32 : g.shots.length ≤ 32 := hok.1.2.2.1
  have hlen := Im.put_le g r hn32
  have P1 := Lib.hid (((Box.made w 35 (Im.cells g (.slice A n c) r)).alloc (.cells #[.slice none 0 0] 36)).alloc (.cells #[.int .i64 0] 3))
  have B1 := Lib.hid ((Box.made_at (n := w.heap.size + 1) (w.alloc (.cells (Im.cells g (.slice A n c) r) 35)) 36 #[.slice none 0 0] (by simp)).alloc (.cells #[.int .i64 0] 3))
  have C1 := Lib.hid (Box.made_at (n := w.heap.size + 1 + 1) ((w.alloc (.cells (Im.cells g (.slice A n c) r) 35)).alloc (.cells #[.slice none 0 0] 36)) 3 #[.int .i64 0] (by simp))
  have K1 := Lib.hid ((((Below.refl w.heap.size w).alloc (Nat.le_refl _) (.cells (Im.cells g (.slice A n c) r) 35)).alloc (by simp) (.cells #[.slice none 0 0] 36)).alloc (by simp <;> omega) (.cells #[.int .i64 0] 3))
  have hr1 := (hr.below K1.out).wider K1.out.size
  have hr0 := hr.below K1.out
  have cm := fun X hX => Lib.hid (immay_any g r A n c X ⟨by have := hok.1.1; have := hok.1.2.1; unfold Gm.i64; omega, hd, fun i hi => (hok.1.2.2.2.1 i hi).ty, fun i hi => (hok.1.2.2.2.2 i hi).ty⟩ hn (by rw [hn]; unfold maxLen; omega) hX)
  have cl := fun Bp X h1 h2 h3 h4 => Lib.hid (laystate_w g r n A c w.heap.size [] w.heap.size (w.heap.size + 1) Bp X hn hok.1 hd hok.2.1 (Nat.le_succ _) (Nat.le_refl _) h1 h2 (by simp) h3 h4)
  have HR := Lib.hid hr1
  have H0 := Lib.hid hr0
  have HN := Lib.hid hok
  have HD := Lib.hid hd
  have HL := Lib.hid hlen
  clear hr hr1 hr0 hn hok hd hn32 hlen
  go_enter_defers Try.func14, Try.ntmps14
  go_wp2_with (first | ((with_reducible refine im_load_state rfl rfl ?_); apply LoadIm.mk rfl; (focus (with_reducible exact P1.out)); dsimp only) | (go_at_call 38; ((with_reducible refine ((cm _ HR.out).out).mono ?_); rintro e w1 ⟨⟨v, rfl, hv⟩, hb⟩; obtain rfl : v = true := hv.2 HN.out; have P2 := Lib.hid (P1.out.below hb P1.out.lt); have C2 := Lib.hid (C1.out.below hb C1.out.lt); have B2 := Lib.hid (B1.out.below hb B1.out.lt); have K2 := Lib.hid (K1.out.trans (hb.mono K1.out.size)); have H2 := Lib.hid (H0.out.below (hb.mono K1.out.size)); clear hb hv)) | (go_at_call 37; ((with_reducible refine (need_yes _ _).mono ?_); rintro e w2 ⟨rfl, rfl⟩)) | (go_at_call 40; ((with_reducible refine (writer_any _ _).mono ?_); rintro e w3 ⟨rfl, rfl⟩)) | (go_at_call 39; ((with_reducible refine ((cl _ _ (K2.out.alloc K2.out.size _).size (Wr.nil (Box.made _ _ _) (B2.out.alloc _)) (P2.out.alloc _) (H2.out.below ((one_below _ _).mono K2.out.size))).out).mono ?_); rintro e w3 ⟨rfl, hI, hb, hk⟩; rw [List.nil_append] at hI; have C3 := Lib.hid (hk _ _ _ (C2.out.alloc _) (by omega) (by decide) (by decide)); have K3 := Lib.hid ((K2.out.alloc K2.out.size _).trans hb); obtain ⟨h1, A', c', hB, ho⟩ := hI; have B3 := Lib.hid hB; have O3 := Lib.hid ho; have b3 := hB.cell 0; have f3 := hB.free 0; have c3 := (C3.out.far (p := ⟨w.heap.size + 1, 0, none⟩) (show w.heap.size + 1 + 1 ≠ w.heap.size + 1 by omega) (.slice A' (Im.put g r).length c')).cell 0; have g3 := (C3.out.far (p := ⟨w.heap.size + 1, 0, none⟩) (show w.heap.size + 1 + 1 ≠ w.heap.size + 1 by omega) (.slice A' (Im.put g r).length c')).free 0; clear h1 hB ho hb hk)))
  have ne : w.heap.size + 1 ≠ w.heap.size + 1 + 1 := by omega
  have B4 := (B3.out.put 0 (.slice A' (Im.put g r).length c')).far (p := ⟨w.heap.size + 1 + 1, 0, none⟩) ne (.int .i64 0)
  have C4 := (C3.out.far (p := ⟨w.heap.size + 1, 0, none⟩) (fun e => ne e.symm) (.slice A' (Im.put g r).length c')).put 0 (.int .i64 0)
  have K4 := (K3.out.setCell (p := ⟨w.heap.size + 1, 0, none⟩) (Nat.le_succ _) (.slice A' (Im.put g r).length c')).setCell (p := ⟨w.heap.size + 1 + 1, 0, none⟩) (by show w.heap.size ≤ w.heap.size + 1 + 1; omega) (.int .i64 0)
  have O4 := Lies.owned (ownsRow_setCell_other (a := ⟨w.heap.size + 1 + 1, 0, none⟩) (ownsRow_setCell_other (a := ⟨w.heap.size + 1, 0, none⟩) O3.out (B3.out.unowned O3.out (by decide)) (.slice A' (Im.put g r).length c')) ((C3.out.far (p := ⟨w.heap.size + 1, 0, none⟩) (fun e => ne e.symm) (.slice A' (Im.put g r).length c')).unowned (ownsRow_setCell_other (a := ⟨w.heap.size + 1, 0, none⟩) O3.out (B3.out.unowned O3.out (by decide)) (.slice A' (Im.put g r).length c')) (by decide)) (.int .i64 0))
  have b4 := B4.cell 0
  have c4 := C4.cell 0
  simp at b4 c4
  refine leaves_cons (f := 36) (args := #[.pointer (some ⟨w.heap.size + 1, 0, none⟩), .pointer (some ⟨w.heap.size + 1 + 1, 0, none⟩)]) (by simp) (by simp [go_sem]) ?_
  refine (catch_idle_put _ _ _).mono ?_
  rintro e u' w'' ⟨rfl, rfl, rfl⟩
  simp [Leaves, settle, results, Try.results14, go_sem, b4, c4]
  exact ⟨O4.wider (by simp), K4⟩
end Go.Proofs.Ytghomofakpjglaa
namespace Go.Proofs.Ytghomofakpjglaa
namespace Im
open Go Go.RowKit _root_.Im
def shipsFrom (f : Nat → Gm.Ship) : Nat → Nat → List Int
  | _, 0 => []
  | k, n + 1 => ship (f k) ++ shipsFrom f (k + 1) n
theorem ships_from (f : Nat → Gm.Ship) : ∀ (n k : Nat), ships f k ++ shipsFrom f k n = ships f (k + n)
  | 0, k => by simp [shipsFrom]
  | n + 1, k => by
    show ships f k ++ (ship (f k) ++ shipsFrom f (k + 1) n) = _
    rw [← List.append_assoc]
    have := ships_from f n (k + 1)
    rw [show k + 1 + n = k + (n + 1) by omega] at this
    exact this
def seatsFrom (r : Ros.R) : Nat → Nat → List Int
  | _, 0 => []
  | k, n + 1 => (bytesOf 1 (r.peer k + 1) ++ bytesOf 2 (r.gen k)) ++ seatsFrom r (k + 1) n
theorem seats_from (r : Ros.R) : ∀ (n k : Nat), seats r k ++ seatsFrom r k n = seats r (k + n)
  | 0, k => by simp [seatsFrom]
  | n + 1, k => by
    show seats r k ++ ((bytesOf 1 (r.peer k + 1) ++ bytesOf 2 (r.gen k)) ++ seatsFrom r (k + 1) n) = _
    rw [← List.append_assoc]
    have := seats_from r n (k + 1)
    rw [show k + 1 + n = k + (n + 1) by omega] at this
    exact this
/-- The zero of a roster; a roster that is read up to a seat. -/
def R0 : Ros.R := ⟨0, fun _ => 0, fun _ => 0⟩
def G0 : Gm.G := ⟨0, 0, fun _ => Gm.Ship.none, []⟩
def bare (f d : Int) : Gm.G := ⟨f, d, fun _ => Gm.Ship.none, []⟩
theorem cells_set_g (g : Gm.G) (s : Value) (r : Ros.R) (i : Nat) (hi : i < 59) (v : Value) : (cells g s r).setIfInBounds i v = (Gm.cells g s).setIfInBounds i v ++ Ros.cells r := by
  unfold cells
  rw [Array.setIfInBounds_append, if_pos (by rw [Gm.cells_size]; exact hi)]
theorem cells_set_r (g : Gm.G) (s : Value) (r : Ros.R) (i : Nat) (v : Value) : (cells g s r).setIfInBounds (59 + i) v = Gm.cells g s ++ (Ros.cells r).setIfInBounds i v := by
  unfold cells
  rw [Array.setIfInBounds_append, if_neg (by rw [Gm.cells_size]; omega), Gm.cells_size, Nat.add_sub_cancel_left]
theorem cells_frame (g : Gm.G) (s : Value) (r : Ros.R) (f : Int) : (cells g s r).setIfInBounds 0 (.int .i64 f) = cells { g with frame := f } s r := by rw [cells_set_g _ _ _ _ (by omega)]; rfl
theorem cells_dice (g : Gm.G) (s : Value) (r : Ros.R) (d : Int) : (cells g s r).setIfInBounds 1 (.int .u64 d) = cells { g with dice := d } s r := by rw [cells_set_g _ _ _ _ (by omega)]; rfl
theorem cells_shots' (g : Gm.G) (s s' : Value) (r : Ros.R) : (cells g s r).setIfInBounds 58 s' = cells g s' r := by rw [cells_set_g _ _ _ _ (by omega)]; rfl
theorem cells_version (g : Gm.G) (s : Value) (r : Ros.R) (v : Int) : (cells g s r).setIfInBounds 59 (.int .i64 v) = cells g s { r with version := v } := by rw [cells_set_r g s r 0, Ros.cells_setv]; rfl
end Im
open Go.RowKit Go.Shelf
set_option linter.unusedVariables false
set_option linter.unusedSimpArgs false

end Go.Proofs.Ytghomofakpjglaa
namespace Go.Proofs.Ytghomofakpjglaa
open Go.RowKit Go.Shelf
set_option linter.unusedVariables false
set_option linter.unusedSimpArgs false

theorem put_made (g : Gm.G) (r : Ros.R) (A : Option Addr) (n c : Nat) (w : World) (hok : Im.Ok g r) (hd : 0 ≤ g.dice ∧ g.dice ≤ 18446744073709551615) (hn : n = g.shots.length) (hr : Lies w w.heap.size 6 A n (Gm.shotCells g.shots)) :
    Calls Try.prog 14 #[.agg (Im.cells g (.slice A n c) r)] w fun e w' => ∃ A' c', e = .returned (.tuple #[.slice A' (Im.put g r).length c', .int .i64 0]) ∧ (Im.put g r).length ≤ c' ∧ Lies w' w'.heap.size 1 A' (Im.put g r).length (Im.u8s (Im.put g r)) ∧ Below w.heap.size w w' := by
  have hmf : ∀ (fn : Fn) (first cap : Array Value) (w : World), (Instr.makeFunc fn first cap).run Try.prog w = .ok (.func fn first cap) w := fun _ _ _ _ => rfl
  have hn32 : g.shots.length ≤ 32 := hok.1.2.2.1
  have hlen := Im.put_le g r hn32
  have P1 := Lib.hid (((Box.made w 35 (Im.cells g (.slice A n c) r)).alloc (.cells #[.slice none 0 0] 36)).alloc (.cells #[.int .i64 0] 3))
  have B1 := Lib.hid ((Box.made_at (n := w.heap.size + 1) (w.alloc (.cells (Im.cells g (.slice A n c) r) 35)) 36 #[.slice none 0 0] (by simp)).alloc (.cells #[.int .i64 0] 3))
  have C1 := Lib.hid (Box.made_at (n := w.heap.size + 1 + 1) ((w.alloc (.cells (Im.cells g (.slice A n c) r) 35)).alloc (.cells #[.slice none 0 0] 36)) 3 #[.int .i64 0] (by simp))
  have K1 := Lib.hid ((((Below.refl w.heap.size w).alloc (Nat.le_refl _) (.cells (Im.cells g (.slice A n c) r) 35)).alloc (by simp) (.cells #[.slice none 0 0] 36)).alloc (by simp <;> omega) (.cells #[.int .i64 0] 3))
  have hr1 := (hr.below K1.out).wider K1.out.size
  have hr0 := hr.below K1.out
  have cm := fun X hX => Lib.hid (immay_any g r A n c X ⟨by have := hok.1.1; have := hok.1.2.1; unfold Gm.i64; omega, hd, fun i hi => (hok.1.2.2.2.1 i hi).ty, fun i hi => (hok.1.2.2.2.2 i hi).ty⟩ hn (by rw [hn]; unfold maxLen; omega) hX)
  have cl := fun Bp X h1 h2 h3 h4 => Lib.hid (laystate_w g r n A c w.heap.size [] w.heap.size (w.heap.size + 1) Bp X hn hok.1 hd hok.2.1 (Nat.le_succ _) (Nat.le_refl _) h1 h2 (by simp) h3 h4)
  have HR := Lib.hid hr1
  have H0 := Lib.hid hr0
  have HN := Lib.hid hok
  have HD := Lib.hid hd
  have HL := Lib.hid hlen
  clear hr hr1 hr0 hn hok hd hn32 hlen
  go_enter_defers Try.func14, Try.ntmps14
  go_wp2_with (first | ((with_reducible refine im_load_state rfl rfl ?_); apply LoadIm.mk rfl; (focus (with_reducible exact P1.out)); dsimp only) | (go_at_call 38; ((with_reducible refine ((cm _ HR.out).out).mono ?_); rintro e w1 ⟨⟨v, rfl, hv⟩, hb⟩; obtain rfl : v = true := hv.2 HN.out; have P2 := Lib.hid (P1.out.below hb P1.out.lt); have C2 := Lib.hid (C1.out.below hb C1.out.lt); have B2 := Lib.hid (B1.out.below hb B1.out.lt); have K2 := Lib.hid (K1.out.trans (hb.mono K1.out.size)); have H2 := Lib.hid (H0.out.below (hb.mono K1.out.size)); clear hb hv)) | (go_at_call 37; ((with_reducible refine (need_yes _ _).mono ?_); rintro e w2 ⟨rfl, rfl⟩)) | (go_at_call 40; ((with_reducible refine (writer_any _ _).mono ?_); rintro e w3 ⟨rfl, rfl⟩)) | (go_at_call 39; ((with_reducible refine ((cl _ _ (K2.out.alloc K2.out.size _).size (Wr.nil (Box.made _ _ _) (B2.out.alloc _)) (P2.out.alloc _) (H2.out.below ((one_below _ _).mono K2.out.size))).out).mono ?_); rintro e w3 ⟨rfl, hI, hb, hk⟩; rw [List.nil_append] at hI; have C3 := Lib.hid (hk _ _ _ (C2.out.alloc _) (by omega) (by decide) (by decide)); have K3 := Lib.hid ((K2.out.alloc K2.out.size _).trans hb); obtain ⟨h1, A', c', hB, ho⟩ := hI; have B3 := Lib.hid hB; have O3 := Lib.hid ho; have b3 := hB.cell 0; have f3 := hB.free 0; have c3 := (C3.out.far (p := ⟨w.heap.size + 1, 0, none⟩) (show w.heap.size + 1 + 1 ≠ w.heap.size + 1 by omega) (.slice A' (Im.put g r).length c')).cell 0; have g3 := (C3.out.far (p := ⟨w.heap.size + 1, 0, none⟩) (show w.heap.size + 1 + 1 ≠ w.heap.size + 1 by omega) (.slice A' (Im.put g r).length c')).free 0; clear h1 hB ho hb hk)))
  have ne : w.heap.size + 1 ≠ w.heap.size + 1 + 1 := by omega
  have B4 := (B3.out.put 0 (.slice A' (Im.put g r).length c')).far (p := ⟨w.heap.size + 1 + 1, 0, none⟩) ne (.int .i64 0)
  have C4 := (C3.out.far (p := ⟨w.heap.size + 1, 0, none⟩) (fun e => ne e.symm) (.slice A' (Im.put g r).length c')).put 0 (.int .i64 0)
  have K4 := (K3.out.setCell (p := ⟨w.heap.size + 1, 0, none⟩) (Nat.le_succ _) (.slice A' (Im.put g r).length c')).setCell (p := ⟨w.heap.size + 1 + 1, 0, none⟩) (by show w.heap.size ≤ w.heap.size + 1 + 1; omega) (.int .i64 0)
  have O4 := Lies.owned (ownsRow_setCell_other (a := ⟨w.heap.size + 1 + 1, 0, none⟩) (ownsRow_setCell_other (a := ⟨w.heap.size + 1, 0, none⟩) O3.out (B3.out.unowned O3.out (by decide)) (.slice A' (Im.put g r).length c')) ((C3.out.far (p := ⟨w.heap.size + 1, 0, none⟩) (fun e => ne e.symm) (.slice A' (Im.put g r).length c')).unowned (ownsRow_setCell_other (a := ⟨w.heap.size + 1, 0, none⟩) O3.out (B3.out.unowned O3.out (by decide)) (.slice A' (Im.put g r).length c')) (by decide)) (.int .i64 0))
  have b4 := B4.cell 0
  have c4 := C4.cell 0
  simp at b4 c4
  refine leaves_cons (f := 36) (args := #[.pointer (some ⟨w.heap.size + 1, 0, none⟩), .pointer (some ⟨w.heap.size + 1 + 1, 0, none⟩)]) (by simp) (by simp [go_sem]) ?_
  refine (catch_idle_put _ _ _).mono ?_
  rintro e u' w'' ⟨rfl, rfl, rfl⟩
  simp [Leaves, settle, results, Try.results14, go_sem, b4, c4]
  exact ⟨A', c', by first | rfl | exact ⟨rfl, rfl⟩ | simp, own_cap O3.out, O4.wider (by simp), K4⟩
end Go.Proofs.Ytghomofakpjglaa
