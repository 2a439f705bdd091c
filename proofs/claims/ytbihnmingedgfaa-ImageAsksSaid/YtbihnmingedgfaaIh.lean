/-
The program's game: which games may be, those that may not among them.
-/
import Derived.Test.YtbihnmingedgfaaHb
import Derived.Test.YtbihnmingedgfaaEq
namespace Go.Proofs.Ytbihnmingedgfaa
open Go.RowKit
set_option linter.unusedVariables false
set_option linter.unusedSimpArgs false

def Gm.inB (a : Int) : Bool := decide (Gf.wrap a = a)
theorem Gm.inB_iff {a : Int} : Gm.inB a = true ↔ Gm.inF a := by unfold Gm.inB Gm.inF Gf.wrap; simp; omega
def Gm.slowB (a m : Int) : Bool := decide (Fx.clamp a (-m) m = a)
theorem Gm.slowB_iff {a m : Int} (hm : 0 ≤ m) : Gm.slowB a m = true ↔ Gm.slow a m := by unfold Gm.slowB Gm.slow Fx.clamp; simp; omega

set_option maxHeartbeats 1000000 in
theorem there_any (x y : Int) (wx : -2147483648 ≤ x ∧ x ≤ 2147483647) (wy : -2147483648 ≤ y ∧ y ≤ 2147483647) (w : World) :
    Calls Try.prog 137 #[.int .i32 x, .int .i32 y] w fun e w' => e = .returned (.bool (Gm.inB x && Gm.inB y)) ∧ Below w.heap.size w w' := by
  have c1 := fun X => Lib.hid (fldwrap_any x wx X)
  have c2 := fun X => Lib.hid (fldwrap_any y wy X)
  have hx : Hid (Gm.inB x = decide (Gf.wrap x = x)) := Lib.hid rfl
  have hy : Hid (Gm.inB y = decide (Gf.wrap y = y)) := Lib.hid rfl
  generalize Gf.wrap x = X at *
  generalize Gf.wrap y = Y at *
  by_cases h1 : X = x
  · have b1 : (X == x) = true := by simpa using h1
    by_cases h2 : Y = y
    · have b2 : (Y == y) = true := by simpa using h2
      have HE := Lib.hid (show (Gm.inB x && Gm.inB y) = true by rw [hx.out, hy.out]; simp [h1, h2])
      clear h1 h2
      go_enter Try.func137, Try.ntmps137
      go_wp2_with (go_at_call 156; first | ((with_reducible refine ((c1 _).out).mono ?_); rintro e w1 ⟨rfl, hb1⟩; clear c1) | ((with_reducible refine ((c2 _).out).mono ?_); rintro e w2 ⟨rfl, hb2⟩))
      go_ret
      exact ⟨ret_bool HE.out.symm, hb1.trans (hb2.mono hb1.size)⟩
    · have b2 : (Y == y) = false := by simpa using h2
      have HE := Lib.hid (show (Gm.inB x && Gm.inB y) = false by rw [hx.out, hy.out]; simp [h1, h2])
      clear h1 h2
      go_enter Try.func137, Try.ntmps137
      go_wp2_with (go_at_call 156; first | ((with_reducible refine ((c1 _).out).mono ?_); rintro e w1 ⟨rfl, hb1⟩; clear c1) | ((with_reducible refine ((c2 _).out).mono ?_); rintro e w2 ⟨rfl, hb2⟩))
      go_ret
      exact ⟨ret_bool HE.out.symm, hb1.trans (hb2.mono hb1.size)⟩
  · have b1 : (X == x) = false := by simpa using h1
    have HE := Lib.hid (show (Gm.inB x && Gm.inB y) = false by rw [hx.out]; simp [h1])
    clear h1
    go_enter Try.func137, Try.ntmps137
    go_wp2_with (go_at_call 156; first | ((with_reducible refine ((c1 _).out).mono ?_); rintro e w1 ⟨rfl, hb1⟩; clear c1) | ((with_reducible refine ((c2 _).out).mono ?_); rintro e w2 ⟨rfl, hb2⟩))
    go_ret
    exact ⟨ret_bool HE.out.symm, hb1⟩

set_option maxHeartbeats 1000000 in
theorem within_any (x y m : Int) (hm : 0 ≤ m ∧ m ≤ 1000000) (wx : -2147483648 ≤ x ∧ x ≤ 2147483647) (wy : -2147483648 ≤ y ∧ y ≤ 2147483647) (w : World) :
    Calls Try.prog 138 #[.int .i32 x, .int .i32 y, .int .i32 m] w fun e w' => e = .returned (.bool (Gm.slowB x m && Gm.slowB y m)) ∧ Below w.heap.size w w' := by
  have c1 := fun X => Lib.hid (clamp_any x (-m) m wx (by omega) (by omega) X)
  have c2 := fun X => Lib.hid (clamp_any y (-m) m wy (by omega) (by omega) X)
  have hx : Hid (Gm.slowB x m = decide (Fx.clamp x (-m) m = x)) := Lib.hid rfl
  have hy : Hid (Gm.slowB y m = decide (Fx.clamp y (-m) m = y)) := Lib.hid rfl
  have hng : IntKind.i32.wrap (-m) = -m := by rw [IntKind.wrap_i32]; omega
  generalize Fx.clamp x (-m) m = X at *
  generalize Fx.clamp y (-m) m = Y at *
  by_cases h1 : X = x
  · have b1 : (X == x) = true := by simpa using h1
    by_cases h2 : Y = y
    · have b2 : (Y == y) = true := by simpa using h2
      have HE := Lib.hid (show (Gm.slowB x m && Gm.slowB y m) = true by rw [hx.out, hy.out]; simp [h1, h2])
      clear h1 h2
      go_enter Try.func138, Try.ntmps138
      go_wp2_with (go_at_call 72; first | ((with_reducible refine ((c1 _).out).mono ?_); rintro e w1 ⟨rfl, hb1⟩; clear c1) | ((with_reducible refine ((c2 _).out).mono ?_); rintro e w2 ⟨rfl, hb2⟩))
      go_ret
      exact ⟨ret_bool HE.out.symm, hb1.trans (hb2.mono hb1.size)⟩
    · have b2 : (Y == y) = false := by simpa using h2
      have HE := Lib.hid (show (Gm.slowB x m && Gm.slowB y m) = false by rw [hx.out, hy.out]; simp [h1, h2])
      clear h1 h2
      go_enter Try.func138, Try.ntmps138
      go_wp2_with (go_at_call 72; first | ((with_reducible refine ((c1 _).out).mono ?_); rintro e w1 ⟨rfl, hb1⟩; clear c1) | ((with_reducible refine ((c2 _).out).mono ?_); rintro e w2 ⟨rfl, hb2⟩))
      go_ret
      exact ⟨ret_bool HE.out.symm, hb1.trans (hb2.mono hb1.size)⟩
  · have b1 : (X == x) = false := by simpa using h1
    have HE := Lib.hid (show (Gm.slowB x m && Gm.slowB y m) = false by rw [hx.out]; simp [h1])
    clear h1
    go_enter Try.func138, Try.ntmps138
    go_wp2_with (go_at_call 72; first | ((with_reducible refine ((c1 _).out).mono ?_); rintro e w1 ⟨rfl, hb1⟩; clear c1) | ((with_reducible refine ((c2 _).out).mono ?_); rintro e w2 ⟨rfl, hb2⟩))
    go_ret
    exact ⟨ret_bool HE.out.symm, hb1⟩

set_option maxRecDepth 100000 in
set_option maxHeartbeats 2000000 in
theorem mayship_not (x y vx vy cool score : Int) (h : ¬ Gm.okShip ⟨true, x, y, vx, vy, cool, score⟩) (ty : Gm.tyShip ⟨true, x, y, vx, vy, cool, score⟩) (w : World) :
    Calls Try.prog 101 #[.agg #[.bool true, .int .i32 x, .int .i32 y, .int .i32 vx, .int .i32 vy, .int .i64 cool, .int .i64 score]] w fun e w' => e = .returned (.bool false) ∧ Below w.heap.size w w' := by
  obtain ⟨wx, wy, wvx, wvy, wc, ws⟩ := ty
  dsimp only at wx wy wvx wvy wc ws
  have c1 := fun X => Lib.hid (there_any x y wx wy X)
  have c2 := fun X => Lib.hid (within_any vx vy 524288 (by omega) wvx wvy X)
  have hno : Hid (¬ ((Gm.inB x && Gm.inB y) = true ∧ (Gm.slowB vx 524288 && Gm.slowB vy 524288) = true ∧ 0 ≤ cool ∧ cool ≤ 10 ∧ 0 ≤ score ∧ score ≤ 1073741824)) := Lib.hid fun hh => h (by
    obtain ⟨h1, h2, h3, h4, h5, h6⟩ := hh
    rw [Bool.and_eq_true, Gm.inB_iff, Gm.inB_iff] at h1
    rw [Bool.and_eq_true, Gm.slowB_iff (by decide), Gm.slowB_iff (by decide)] at h2
    exact ⟨.inl rfl, h1.1, h1.2, h2.1, h2.2, h3, h4, h5, h6⟩)
  clear h
  generalize (Gm.inB x && Gm.inB y) = T at *
  generalize (Gm.slowB vx 524288 && Gm.slowB vy 524288) = V at *
  cases T
  · clear hno
    go_enter Try.func101, Try.ntmps101
    go_wp2_with (first | (go_at_call 137; ((with_reducible refine ((c1 _).out).mono ?_); rintro e w1 ⟨rfl, hb⟩; have B1 := (Box.made w 26 #[.bool true, .int .i32 x, .int .i32 y, .int .i32 vx, .int .i32 vy, .int .i64 cool, .int .i64 score]).below hb (by simp); have K1 := B1.cell; have Y1 := Lib.hid ((one_below w (.cells #[.bool true, .int .i32 x, .int .i32 y, .int .i32 vx, .int .i32 vy, .int .i64 cool, .int .i64 score] 26)).trans (hb.mono (by simp))); clear hb)) | (go_at_call 138; ((with_reducible refine ((c2 _).out).mono ?_); rintro e w2 ⟨rfl, hb⟩; have B2 := B1.below hb B1.lt; have K2 := B2.cell; have Y2 := Lib.hid (Y1.out.trans (hb.mono Y1.out.size)); clear K1 hb)))
    go_ret
    exact ⟨rfl, Y1.out⟩
  cases V
  · clear hno
    go_enter Try.func101, Try.ntmps101
    go_wp2_with (first | (go_at_call 137; ((with_reducible refine ((c1 _).out).mono ?_); rintro e w1 ⟨rfl, hb⟩; have B1 := (Box.made w 26 #[.bool true, .int .i32 x, .int .i32 y, .int .i32 vx, .int .i32 vy, .int .i64 cool, .int .i64 score]).below hb (by simp); have K1 := B1.cell; have Y1 := Lib.hid ((one_below w (.cells #[.bool true, .int .i32 x, .int .i32 y, .int .i32 vx, .int .i32 vy, .int .i64 cool, .int .i64 score] 26)).trans (hb.mono (by simp))); clear hb)) | (go_at_call 138; ((with_reducible refine ((c2 _).out).mono ?_); rintro e w2 ⟨rfl, hb⟩; have B2 := B1.below hb B1.lt; have K2 := B2.cell; have Y2 := Lib.hid (Y1.out.trans (hb.mono Y1.out.size)); clear K1 hb)))
    go_ret
    exact ⟨rfl, Y2.out⟩
  by_cases d0 : 0 ≤ cool
  rotate_left
  · have e0 : decide (0 ≤ cool) = false := decide_eq_false d0
    clear hno
    go_enter Try.func101, Try.ntmps101
    go_wp2_with (first | (go_at_call 137; ((with_reducible refine ((c1 _).out).mono ?_); rintro e w1 ⟨rfl, hb⟩; have B1 := (Box.made w 26 #[.bool true, .int .i32 x, .int .i32 y, .int .i32 vx, .int .i32 vy, .int .i64 cool, .int .i64 score]).below hb (by simp); have K1 := B1.cell; have Y1 := Lib.hid ((one_below w (.cells #[.bool true, .int .i32 x, .int .i32 y, .int .i32 vx, .int .i32 vy, .int .i64 cool, .int .i64 score] 26)).trans (hb.mono (by simp))); clear hb)) | (go_at_call 138; ((with_reducible refine ((c2 _).out).mono ?_); rintro e w2 ⟨rfl, hb⟩; have B2 := B1.below hb B1.lt; have K2 := B2.cell; have Y2 := Lib.hid (Y1.out.trans (hb.mono Y1.out.size)); clear K1 hb)))
    go_ret
    exact ⟨rfl, Y2.out⟩
  have e0 : decide (0 ≤ cool) = true := decide_eq_true d0
  by_cases d1 : cool ≤ 10
  rotate_left
  · have e1 : decide (cool ≤ 10) = false := decide_eq_false d1
    clear hno
    go_enter Try.func101, Try.ntmps101
    go_wp2_with (first | (go_at_call 137; ((with_reducible refine ((c1 _).out).mono ?_); rintro e w1 ⟨rfl, hb⟩; have B1 := (Box.made w 26 #[.bool true, .int .i32 x, .int .i32 y, .int .i32 vx, .int .i32 vy, .int .i64 cool, .int .i64 score]).below hb (by simp); have K1 := B1.cell; have Y1 := Lib.hid ((one_below w (.cells #[.bool true, .int .i32 x, .int .i32 y, .int .i32 vx, .int .i32 vy, .int .i64 cool, .int .i64 score] 26)).trans (hb.mono (by simp))); clear hb)) | (go_at_call 138; ((with_reducible refine ((c2 _).out).mono ?_); rintro e w2 ⟨rfl, hb⟩; have B2 := B1.below hb B1.lt; have K2 := B2.cell; have Y2 := Lib.hid (Y1.out.trans (hb.mono Y1.out.size)); clear K1 hb)))
    go_ret
    exact ⟨rfl, Y2.out⟩
  have e1 : decide (cool ≤ 10) = true := decide_eq_true d1
  by_cases d2 : 0 ≤ score
  rotate_left
  · have e2 : decide (0 ≤ score) = false := decide_eq_false d2
    clear hno
    go_enter Try.func101, Try.ntmps101
    go_wp2_with (first | (go_at_call 137; ((with_reducible refine ((c1 _).out).mono ?_); rintro e w1 ⟨rfl, hb⟩; have B1 := (Box.made w 26 #[.bool true, .int .i32 x, .int .i32 y, .int .i32 vx, .int .i32 vy, .int .i64 cool, .int .i64 score]).below hb (by simp); have K1 := B1.cell; have Y1 := Lib.hid ((one_below w (.cells #[.bool true, .int .i32 x, .int .i32 y, .int .i32 vx, .int .i32 vy, .int .i64 cool, .int .i64 score] 26)).trans (hb.mono (by simp))); clear hb)) | (go_at_call 138; ((with_reducible refine ((c2 _).out).mono ?_); rintro e w2 ⟨rfl, hb⟩; have B2 := B1.below hb B1.lt; have K2 := B2.cell; have Y2 := Lib.hid (Y1.out.trans (hb.mono Y1.out.size)); clear K1 hb)))
    go_ret
    exact ⟨rfl, Y2.out⟩
  have e2 : decide (0 ≤ score) = true := decide_eq_true d2
  have e3 : decide (score ≤ 1073741824) = false := decide_eq_false fun h => hno.out ⟨rfl, rfl, d0, d1, d2, h⟩
  clear hno d0 d1 d2
  go_enter Try.func101, Try.ntmps101
  go_wp2_with (first | (go_at_call 137; ((with_reducible refine ((c1 _).out).mono ?_); rintro e w1 ⟨rfl, hb⟩; have B1 := (Box.made w 26 #[.bool true, .int .i32 x, .int .i32 y, .int .i32 vx, .int .i32 vy, .int .i64 cool, .int .i64 score]).below hb (by simp); have K1 := B1.cell; have Y1 := Lib.hid ((one_below w (.cells #[.bool true, .int .i32 x, .int .i32 y, .int .i32 vx, .int .i32 vy, .int .i64 cool, .int .i64 score] 26)).trans (hb.mono (by simp))); clear hb)) | (go_at_call 138; ((with_reducible refine ((c2 _).out).mono ?_); rintro e w2 ⟨rfl, hb⟩; have B2 := B1.below hb B1.lt; have K2 := B2.cell; have Y2 := Lib.hid (Y1.out.trans (hb.mono Y1.out.size)); clear K1 hb)))
  go_ret
  exact ⟨rfl, Y2.out⟩

set_option maxHeartbeats 1000000 in
theorem ship_eq' (s t : Gm.Ship) (w : World) : (Op.equalIn 10000 26 (.agg s.cells.toArray) (.agg t.cells.toArray)).run Try.prog w = .ok (s.eqB t) w := by
  obtain ⟨a1, a2, a3, a4, a5, a6, a7⟩ := s
  obtain ⟨b1, b2, b3, b4, b5, b6, b7⟩ := t
  have h := ifs7 w (a1 == b1) (a2 == b2) (a3 == b3) (a4 == b4) (a5 == b5) (a6 == b6) (a7 == b7)
  simp only [beq_iff_eq] at h
  simp only [Gm.Ship.cells]
  go_simp
  rfl
theorem ship_eql (s t : Gm.Ship) (w : World) : (binOp .eql 26 (.agg s.cells.toArray) (.agg t.cells.toArray)).run Try.prog w = .ok (.bool (s.eqB t)) w := by
  simp only [binOp]
  simp [Op.equal, Op.maxDepth, ship_eq']
set_option maxRecDepth 100000 in
set_option maxHeartbeats 2000000 in
theorem mayship_off (x y vx vy cool score : Int) (h : ¬ Gm.okShip ⟨false, x, y, vx, vy, cool, score⟩) (w : World) :
    Calls Try.prog 101 #[.agg #[.bool false, .int .i32 x, .int .i32 y, .int .i32 vx, .int .i32 vy, .int .i64 cool, .int .i64 score]] w fun e w' => e = .returned (.bool false) ∧ Below w.heap.size w w' := by
  have hne : (⟨false, x, y, vx, vy, cool, score⟩ : Gm.Ship) ≠ Gm.Ship.none := fun e => h (by
    rw [e]
    refine ⟨.inr rfl, ?_, ?_, ?_, ?_, ?_, ?_, ?_, ?_⟩ <;> simp [Gm.Ship.none, Gm.inF, Gm.slow])
  have he := fun W => ship_eql ⟨false, x, y, vx, vy, cool, score⟩ Gm.Ship.none W
  rw [show (⟨false, x, y, vx, vy, cool, score⟩ : Gm.Ship).eqB Gm.Ship.none = false by
    cases hq : (⟨false, x, y, vx, vy, cool, score⟩ : Gm.Ship).eqB Gm.Ship.none
    · rfl
    · exact absurd (Gm.Ship.eqB_iff.1 hq) hne] at he
  simp only [Gm.Ship.cells, Gm.Ship.none] at he
  clear h hne
  go_enter Try.func101, Try.ntmps101
  go_wp2
  go_ret
  exact ⟨rfl, one_below _ _⟩
theorem mayship_bad (s : Gm.Ship) (h : ¬ Gm.okShip s) (ty : Gm.tyShip s) (w : World) :
    Calls Try.prog 101 #[.agg s.cells.toArray] w fun e w' => e = .returned (.bool false) ∧ Below w.heap.size w w' := by
  obtain ⟨on, x, y, vx, vy, cool, score⟩ := s
  cases on
  · exact mayship_off x y vx vy cool score h w
  · exact mayship_not x y vx vy cool score h ty w

set_option maxRecDepth 100000 in
set_option maxHeartbeats 2000000 in
theorem mayshot_not (owner x y vx vy left : Int) (h : ¬ Gm.okShot ⟨owner, x, y, vx, vy, left⟩) (ty : Gm.tyShot ⟨owner, x, y, vx, vy, left⟩) (w : World) :
    Calls Try.prog 103 #[.agg #[.int .i64 owner, .int .i32 x, .int .i32 y, .int .i32 vx, .int .i32 vy, .int .i64 left]] w fun e w' => e = .returned (.bool false) ∧ Below w.heap.size w w' := by
  obtain ⟨wo, wx, wy, wvx, wvy, wl⟩ := ty
  dsimp only at wo wx wy wvx wvy wl
  have c0 := fun X => Lib.hid (isslot_any owner wo X)
  have c1 := fun X => Lib.hid (there_any x y wx wy X)
  have c2 := fun X => Lib.hid (within_any vx vy 393216 (by omega) wvx wvy X)
  have hno : Hid (¬ ((decide (0 ≤ owner) && decide (owner < 8)) = true ∧ (Gm.inB x && Gm.inB y) = true ∧ (Gm.slowB vx 393216 && Gm.slowB vy 393216) = true ∧ 1 ≤ left ∧ left ≤ 24)) := Lib.hid fun hh => h (by
    obtain ⟨h0, h1, h2, h3, h4⟩ := hh
    rw [Bool.and_eq_true, Gm.inB_iff, Gm.inB_iff] at h1
    rw [Bool.and_eq_true, Gm.slowB_iff (by decide), Gm.slowB_iff (by decide)] at h2
    simp only [Bool.and_eq_true, decide_eq_true_eq] at h0
    exact ⟨h0.1, h0.2, h1.1, h1.2, h2.1, h2.2, h3, h4⟩)
  clear h
  generalize (decide (0 ≤ owner) && decide (owner < 8)) = O at *
  generalize (Gm.inB x && Gm.inB y) = T at *
  generalize (Gm.slowB vx 393216 && Gm.slowB vy 393216) = V at *
  cases O
  · clear hno
    go_enter Try.func103, Try.ntmps103
    go_wp2_with (first | (go_at_call 54; ((with_reducible refine ((c0 _).out).mono ?_); rintro e w0 ⟨rfl, rfl⟩)) | (go_at_call 137; ((with_reducible refine ((c1 _).out).mono ?_); rintro e w1 ⟨rfl, hb⟩; have B1 := (Box.made w 108 #[.int .i64 owner, .int .i32 x, .int .i32 y, .int .i32 vx, .int .i32 vy, .int .i64 left]).below hb (by simp); have K1 := B1.cell; have Y1 := Lib.hid ((one_below w (.cells #[.int .i64 owner, .int .i32 x, .int .i32 y, .int .i32 vx, .int .i32 vy, .int .i64 left] 108)).trans (hb.mono (by simp))); clear hb)) | (go_at_call 138; ((with_reducible refine ((c2 _).out).mono ?_); rintro e w2 ⟨rfl, hb⟩; have B2 := B1.below hb B1.lt; have K2 := B2.cell; have Y2 := Lib.hid (Y1.out.trans (hb.mono Y1.out.size)); clear K1 hb)))
    go_ret
    exact ⟨rfl, one_below _ _⟩
  cases T
  · clear hno
    go_enter Try.func103, Try.ntmps103
    go_wp2_with (first | (go_at_call 54; ((with_reducible refine ((c0 _).out).mono ?_); rintro e w0 ⟨rfl, rfl⟩)) | (go_at_call 137; ((with_reducible refine ((c1 _).out).mono ?_); rintro e w1 ⟨rfl, hb⟩; have B1 := (Box.made w 108 #[.int .i64 owner, .int .i32 x, .int .i32 y, .int .i32 vx, .int .i32 vy, .int .i64 left]).below hb (by simp); have K1 := B1.cell; have Y1 := Lib.hid ((one_below w (.cells #[.int .i64 owner, .int .i32 x, .int .i32 y, .int .i32 vx, .int .i32 vy, .int .i64 left] 108)).trans (hb.mono (by simp))); clear hb)) | (go_at_call 138; ((with_reducible refine ((c2 _).out).mono ?_); rintro e w2 ⟨rfl, hb⟩; have B2 := B1.below hb B1.lt; have K2 := B2.cell; have Y2 := Lib.hid (Y1.out.trans (hb.mono Y1.out.size)); clear K1 hb)))
    go_ret
    exact ⟨rfl, Y1.out⟩
  cases V
  · clear hno
    go_enter Try.func103, Try.ntmps103
    go_wp2_with (first | (go_at_call 54; ((with_reducible refine ((c0 _).out).mono ?_); rintro e w0 ⟨rfl, rfl⟩)) | (go_at_call 137; ((with_reducible refine ((c1 _).out).mono ?_); rintro e w1 ⟨rfl, hb⟩; have B1 := (Box.made w 108 #[.int .i64 owner, .int .i32 x, .int .i32 y, .int .i32 vx, .int .i32 vy, .int .i64 left]).below hb (by simp); have K1 := B1.cell; have Y1 := Lib.hid ((one_below w (.cells #[.int .i64 owner, .int .i32 x, .int .i32 y, .int .i32 vx, .int .i32 vy, .int .i64 left] 108)).trans (hb.mono (by simp))); clear hb)) | (go_at_call 138; ((with_reducible refine ((c2 _).out).mono ?_); rintro e w2 ⟨rfl, hb⟩; have B2 := B1.below hb B1.lt; have K2 := B2.cell; have Y2 := Lib.hid (Y1.out.trans (hb.mono Y1.out.size)); clear K1 hb)))
    go_ret
    exact ⟨rfl, Y2.out⟩
  by_cases d0 : 1 ≤ left
  rotate_left
  · have e0 : decide (1 ≤ left) = false := decide_eq_false d0
    clear hno
    go_enter Try.func103, Try.ntmps103
    go_wp2_with (first | (go_at_call 54; ((with_reducible refine ((c0 _).out).mono ?_); rintro e w0 ⟨rfl, rfl⟩)) | (go_at_call 137; ((with_reducible refine ((c1 _).out).mono ?_); rintro e w1 ⟨rfl, hb⟩; have B1 := (Box.made w 108 #[.int .i64 owner, .int .i32 x, .int .i32 y, .int .i32 vx, .int .i32 vy, .int .i64 left]).below hb (by simp); have K1 := B1.cell; have Y1 := Lib.hid ((one_below w (.cells #[.int .i64 owner, .int .i32 x, .int .i32 y, .int .i32 vx, .int .i32 vy, .int .i64 left] 108)).trans (hb.mono (by simp))); clear hb)) | (go_at_call 138; ((with_reducible refine ((c2 _).out).mono ?_); rintro e w2 ⟨rfl, hb⟩; have B2 := B1.below hb B1.lt; have K2 := B2.cell; have Y2 := Lib.hid (Y1.out.trans (hb.mono Y1.out.size)); clear K1 hb)))
    go_ret
    exact ⟨rfl, Y2.out⟩
  have e0 : decide (1 ≤ left) = true := decide_eq_true d0
  have e3 : decide (left ≤ 24) = false := decide_eq_false fun h => hno.out ⟨rfl, rfl, rfl, d0, h⟩
  clear hno d0
  go_enter Try.func103, Try.ntmps103
  go_wp2_with (first | (go_at_call 54; ((with_reducible refine ((c0 _).out).mono ?_); rintro e w0 ⟨rfl, rfl⟩)) | (go_at_call 137; ((with_reducible refine ((c1 _).out).mono ?_); rintro e w1 ⟨rfl, hb⟩; have B1 := (Box.made w 108 #[.int .i64 owner, .int .i32 x, .int .i32 y, .int .i32 vx, .int .i32 vy, .int .i64 left]).below hb (by simp); have K1 := B1.cell; have Y1 := Lib.hid ((one_below w (.cells #[.int .i64 owner, .int .i32 x, .int .i32 y, .int .i32 vx, .int .i32 vy, .int .i64 left] 108)).trans (hb.mono (by simp))); clear hb)) | (go_at_call 138; ((with_reducible refine ((c2 _).out).mono ?_); rintro e w2 ⟨rfl, hb⟩; have B2 := B1.below hb B1.lt; have K2 := B2.cell; have Y2 := Lib.hid (Y1.out.trans (hb.mono Y1.out.size)); clear K1 hb)))
  go_ret
  exact ⟨rfl, Y2.out⟩
end Go.Proofs.Ytbihnmingedgfaa
