/-
Several texts in one: Ih Ii Tb Qx Rt Tc Td Tk Ij Hc Hw.
-/
import Derived.Test.YtbdlpbnfcnhajaaGreatRq4
set_option maxRecDepth 100000
set_option maxHeartbeats 8000000
set_option linter.unusedVariables false
set_option linter.unusedSimpArgs false
namespace Go.Proofs.YtbdlpbnfcnhajaaGreat
open Go.RowKit
def Gm.inB (a : Int) : Bool := decide (Gf.wrap a = a)
theorem Gm.qiy {a : Int} : Gm.inB a = true ↔ Gm.inF a := by unfold Gm.inB Gm.inF Gf.wrap; simp; omega
def Gm.qdh (a m : Int) : Bool := decide (Fx.qeW a (-m) m = a)
theorem Gm.qeF {a m : Int} (hm : 0 <= m) : Gm.qdh a m = true ↔ Gm.slow a m := by unfold Gm.qdh Gm.slow Fx.qeW; simp; omega
theorem qiU (x y : Int) (wx : -2147483648 <= x /\ x <= 2147483647) (wy : -2147483648 <= y /\ y <= 2147483647) (w : World) :
 Calls Tryz.prog 146 #[.int .i32 x, .int .i32 y] w fun e w' => e = .returned (.bool (Gm.inB x && Gm.inB y)) /\ Below w.heap.size w w' := by
 have c1 := fun X => qh (qdA x wx X)
 have c2 := fun X => qh (qdA y wy X)
 have hx : Hid (Gm.inB x = decide (Gf.wrap x = x)) := qh rfl
 have hy : Hid (Gm.inB y = decide (Gf.wrap y = y)) := qh rfl
 generalize Gf.wrap x = X at *
 generalize Gf.wrap y = Y at *
 by_cases h1 : X = x
 · have b1 : (X == x) = true := by simpa using h1
   by_cases h2 : Y = y
   · have b2 : (Y == y) = true := by simpa using h2
     have HE := qh (show (Gm.inB x && Gm.inB y) = true by rw [hx.out, hy.out]; simp [h1, h2])
     clear h1 h2
     go_enter Tryz.func146, Tryz.ntmps146
     go_wp2_with (go_at_call 160; first | ((with_reducible refine ((c1 _).out).mono ?_); rintro e w1 ⟨rfl, hb1⟩; clear c1) | ((with_reducible refine ((c2 _).out).mono ?_); rintro e w2 ⟨rfl, hb2⟩))
     go_ret
     exact ⟨qao HE.out.symm, hb1.trans (hb2.mono hb1.size)⟩
   · have b2 : (Y == y) = false := by simpa using h2
     have HE := qh (show (Gm.inB x && Gm.inB y) = false by rw [hx.out, hy.out]; simp [h1, h2])
     clear h1 h2
     go_enter Tryz.func146, Tryz.ntmps146
     go_wp2_with (go_at_call 160; first | ((with_reducible refine ((c1 _).out).mono ?_); rintro e w1 ⟨rfl, hb1⟩; clear c1) | ((with_reducible refine ((c2 _).out).mono ?_); rintro e w2 ⟨rfl, hb2⟩))
     go_ret
     exact ⟨qao HE.out.symm, hb1.trans (hb2.mono hb1.size)⟩
 · have b1 : (X == x) = false := by simpa using h1
   have HE := qh (show (Gm.inB x && Gm.inB y) = false by rw [hx.out]; simp [h1])
   clear h1
   go_enter Tryz.func146, Tryz.ntmps146
   go_wp2_with (go_at_call 160; first | ((with_reducible refine ((c1 _).out).mono ?_); rintro e w1 ⟨rfl, hb1⟩; clear c1) | ((with_reducible refine ((c2 _).out).mono ?_); rintro e w2 ⟨rfl, hb2⟩))
   go_ret
   exact ⟨qao HE.out.symm, hb1⟩
theorem qhx (x y m : Int) (hm : 0 <= m /\ m <= 1000000) (wx : -2147483648 <= x /\ x <= 2147483647) (wy : -2147483648 <= y /\ y <= 2147483647) (w : World) :
 Calls Tryz.prog 147 #[.int .i32 x, .int .i32 y, .int .i32 m] w fun e w' => e = .returned (.bool (Gm.qdh x m && Gm.qdh y m)) /\ Below w.heap.size w w' := by
 have c1 := fun X => qh (qdT x (-m) m wx (by omega) (by omega) X)
 have c2 := fun X => qh (qdT y (-m) m wy (by omega) (by omega) X)
 have hx : Hid (Gm.qdh x m = decide (Fx.qeW x (-m) m = x)) := qh rfl
 have hy : Hid (Gm.qdh y m = decide (Fx.qeW y (-m) m = y)) := qh rfl
 have hng : IntKind.i32.wrap (-m) = -m := by rw [IntKind.wrap_i32]; omega
 generalize Fx.qeW x (-m) m = X at *
 generalize Fx.qeW y (-m) m = Y at *
 by_cases h1 : X = x
 · have b1 : (X == x) = true := by simpa using h1
   by_cases h2 : Y = y
   · have b2 : (Y == y) = true := by simpa using h2
     have HE := qh (show (Gm.qdh x m && Gm.qdh y m) = true by rw [hx.out, hy.out]; simp [h1, h2])
     clear h1 h2
     go_enter Tryz.func147, Tryz.ntmps147
     go_wp2_with (go_at_call 150; first | ((with_reducible refine ((c1 _).out).mono ?_); rintro e w1 ⟨rfl, hb1⟩; clear c1) | ((with_reducible refine ((c2 _).out).mono ?_); rintro e w2 ⟨rfl, hb2⟩))
     go_ret
     exact ⟨qao HE.out.symm, hb1.trans (hb2.mono hb1.size)⟩
   · have b2 : (Y == y) = false := by simpa using h2
     have HE := qh (show (Gm.qdh x m && Gm.qdh y m) = false by rw [hx.out, hy.out]; simp [h1, h2])
     clear h1 h2
     go_enter Tryz.func147, Tryz.ntmps147
     go_wp2_with (go_at_call 150; first | ((with_reducible refine ((c1 _).out).mono ?_); rintro e w1 ⟨rfl, hb1⟩; clear c1) | ((with_reducible refine ((c2 _).out).mono ?_); rintro e w2 ⟨rfl, hb2⟩))
     go_ret
     exact ⟨qao HE.out.symm, hb1.trans (hb2.mono hb1.size)⟩
 · have b1 : (X == x) = false := by simpa using h1
   have HE := qh (show (Gm.qdh x m && Gm.qdh y m) = false by rw [hx.out]; simp [h1])
   clear h1
   go_enter Tryz.func147, Tryz.ntmps147
   go_wp2_with (go_at_call 150; first | ((with_reducible refine ((c1 _).out).mono ?_); rintro e w1 ⟨rfl, hb1⟩; clear c1) | ((with_reducible refine ((c2 _).out).mono ?_); rintro e w2 ⟨rfl, hb2⟩))
   go_ret
   exact ⟨qao HE.out.symm, hb1⟩
theorem qkQ (x y vx vy cool score : Int) (h : ¬ Gm.qaT ⟨true, x, y, vx, vy, cool, score⟩) (ty : Gm.qcM ⟨true, x, y, vx, vy, cool, score⟩) (w : World) :
 Calls Tryz.prog 129 #[.agg #[.bool true, .int .i32 x, .int .i32 y, .int .i32 vx, .int .i32 vy, .int .i64 cool, .int .i64 score]] w fun e w' => e = .returned (.bool false) /\ Below w.heap.size w w' := by
 obtain ⟨wx, wy, wvx, wvy, wc, ws⟩ := ty
 dsimp only at wx wy wvx wvy wc ws
 have c1 := fun X => qh (qiU x y wx wy X)
 have c2 := fun X => qh (qhx vx vy 524288 (by omega) wvx wvy X)
 have hno : Hid (¬ ((Gm.inB x && Gm.inB y) = true /\ (Gm.qdh vx 524288 && Gm.qdh vy 524288) = true /\ 0 <= cool /\ cool <= 10 /\ 0 <= score /\ score <= 1073741824)) := qh fun hh => h (by
  obtain ⟨h1, h2, h3, h4, h5, h6⟩ := hh
  rw [Bool.and_eq_true, Gm.qiy, Gm.qiy] at h1
  rw [Bool.and_eq_true, Gm.qeF (by decide), Gm.qeF (by decide)] at h2
  exact ⟨.inl rfl, h1.1, h1.2, h2.1, h2.2, h3, h4, h5, h6⟩)
 clear h
 generalize (Gm.inB x && Gm.inB y) = T at *
 generalize (Gm.qdh vx 524288 && Gm.qdh vy 524288) = V at *
 cases T
 · clear hno
   go_enter Tryz.func129, Tryz.ntmps129
   go_wp2_with (first | (go_at_call 146; ((with_reducible refine ((c1 _).out).mono ?_); rintro e w1 ⟨rfl, hb⟩; have B1 := (Box.made w 29 #[.bool true, .int .i32 x, .int .i32 y, .int .i32 vx, .int .i32 vy, .int .i64 cool, .int .i64 score]).below hb (by simp); have K1 := B1.cell; have Y1 := qh ((qac w (.cells #[.bool true, .int .i32 x, .int .i32 y, .int .i32 vx, .int .i32 vy, .int .i64 cool, .int .i64 score] 29)).trans (hb.mono (by simp))); clear hb)) | (go_at_call 147; ((with_reducible refine ((c2 _).out).mono ?_); rintro e w2 ⟨rfl, hb⟩; have B2 := B1.below hb B1.lt; have K2 := B2.cell; have Y2 := qh (Y1.out.trans (hb.mono Y1.out.size)); clear K1 hb)))
   go_ret
   exact ⟨rfl, Y1.out⟩
 cases V
 · clear hno
   go_enter Tryz.func129, Tryz.ntmps129
   go_wp2_with (first | (go_at_call 146; ((with_reducible refine ((c1 _).out).mono ?_); rintro e w1 ⟨rfl, hb⟩; have B1 := (Box.made w 29 #[.bool true, .int .i32 x, .int .i32 y, .int .i32 vx, .int .i32 vy, .int .i64 cool, .int .i64 score]).below hb (by simp); have K1 := B1.cell; have Y1 := qh ((qac w (.cells #[.bool true, .int .i32 x, .int .i32 y, .int .i32 vx, .int .i32 vy, .int .i64 cool, .int .i64 score] 29)).trans (hb.mono (by simp))); clear hb)) | (go_at_call 147; ((with_reducible refine ((c2 _).out).mono ?_); rintro e w2 ⟨rfl, hb⟩; have B2 := B1.below hb B1.lt; have K2 := B2.cell; have Y2 := qh (Y1.out.trans (hb.mono Y1.out.size)); clear K1 hb)))
   go_ret
   exact ⟨rfl, Y2.out⟩
 by_cases d0 : 0 <= cool
 rotate_left
 · have e0 : decide (0 <= cool) = false := decide_eq_false d0
   clear hno
   go_enter Tryz.func129, Tryz.ntmps129
   go_wp2_with (first | (go_at_call 146; ((with_reducible refine ((c1 _).out).mono ?_); rintro e w1 ⟨rfl, hb⟩; have B1 := (Box.made w 29 #[.bool true, .int .i32 x, .int .i32 y, .int .i32 vx, .int .i32 vy, .int .i64 cool, .int .i64 score]).below hb (by simp); have K1 := B1.cell; have Y1 := qh ((qac w (.cells #[.bool true, .int .i32 x, .int .i32 y, .int .i32 vx, .int .i32 vy, .int .i64 cool, .int .i64 score] 29)).trans (hb.mono (by simp))); clear hb)) | (go_at_call 147; ((with_reducible refine ((c2 _).out).mono ?_); rintro e w2 ⟨rfl, hb⟩; have B2 := B1.below hb B1.lt; have K2 := B2.cell; have Y2 := qh (Y1.out.trans (hb.mono Y1.out.size)); clear K1 hb)))
   go_ret
   exact ⟨rfl, Y2.out⟩
 have e0 : decide (0 <= cool) = true := decide_eq_true d0
 by_cases d1 : cool <= 10
 rotate_left
 · have e1 : decide (cool <= 10) = false := decide_eq_false d1
   clear hno
   go_enter Tryz.func129, Tryz.ntmps129
   go_wp2_with (first | (go_at_call 146; ((with_reducible refine ((c1 _).out).mono ?_); rintro e w1 ⟨rfl, hb⟩; have B1 := (Box.made w 29 #[.bool true, .int .i32 x, .int .i32 y, .int .i32 vx, .int .i32 vy, .int .i64 cool, .int .i64 score]).below hb (by simp); have K1 := B1.cell; have Y1 := qh ((qac w (.cells #[.bool true, .int .i32 x, .int .i32 y, .int .i32 vx, .int .i32 vy, .int .i64 cool, .int .i64 score] 29)).trans (hb.mono (by simp))); clear hb)) | (go_at_call 147; ((with_reducible refine ((c2 _).out).mono ?_); rintro e w2 ⟨rfl, hb⟩; have B2 := B1.below hb B1.lt; have K2 := B2.cell; have Y2 := qh (Y1.out.trans (hb.mono Y1.out.size)); clear K1 hb)))
   go_ret
   exact ⟨rfl, Y2.out⟩
 have e1 : decide (cool <= 10) = true := decide_eq_true d1
 by_cases d2 : 0 <= score
 rotate_left
 · have e2 : decide (0 <= score) = false := decide_eq_false d2
   clear hno
   go_enter Tryz.func129, Tryz.ntmps129
   go_wp2_with (first | (go_at_call 146; ((with_reducible refine ((c1 _).out).mono ?_); rintro e w1 ⟨rfl, hb⟩; have B1 := (Box.made w 29 #[.bool true, .int .i32 x, .int .i32 y, .int .i32 vx, .int .i32 vy, .int .i64 cool, .int .i64 score]).below hb (by simp); have K1 := B1.cell; have Y1 := qh ((qac w (.cells #[.bool true, .int .i32 x, .int .i32 y, .int .i32 vx, .int .i32 vy, .int .i64 cool, .int .i64 score] 29)).trans (hb.mono (by simp))); clear hb)) | (go_at_call 147; ((with_reducible refine ((c2 _).out).mono ?_); rintro e w2 ⟨rfl, hb⟩; have B2 := B1.below hb B1.lt; have K2 := B2.cell; have Y2 := qh (Y1.out.trans (hb.mono Y1.out.size)); clear K1 hb)))
   go_ret
   exact ⟨rfl, Y2.out⟩
 have e2 : decide (0 <= score) = true := decide_eq_true d2
 have e3 : decide (score <= 1073741824) = false := decide_eq_false fun h => hno.out ⟨rfl, rfl, d0, d1, d2, h⟩
 clear hno d0 d1 d2
 go_enter Tryz.func129, Tryz.ntmps129
 go_wp2_with (first | (go_at_call 146; ((with_reducible refine ((c1 _).out).mono ?_); rintro e w1 ⟨rfl, hb⟩; have B1 := (Box.made w 29 #[.bool true, .int .i32 x, .int .i32 y, .int .i32 vx, .int .i32 vy, .int .i64 cool, .int .i64 score]).below hb (by simp); have K1 := B1.cell; have Y1 := qh ((qac w (.cells #[.bool true, .int .i32 x, .int .i32 y, .int .i32 vx, .int .i32 vy, .int .i64 cool, .int .i64 score] 29)).trans (hb.mono (by simp))); clear hb)) | (go_at_call 147; ((with_reducible refine ((c2 _).out).mono ?_); rintro e w2 ⟨rfl, hb⟩; have B2 := B1.below hb B1.lt; have K2 := B2.cell; have Y2 := qh (Y1.out.trans (hb.mono Y1.out.size)); clear K1 hb)))
 go_ret
 exact ⟨rfl, Y2.out⟩
theorem qlo (s t : Gm.Ship) (w : World) : (Op.equalIn 10000 29 (.agg s.cells.toArray) (.agg t.cells.toArray)).run Tryz.prog w = .ok (s.eqB t) w := by
 obtain ⟨a1, a2, a3, a4, a5, a6, a7⟩ := s
 obtain ⟨b1, b2, b3, b4, b5, b6, b7⟩ := t
 have h := ifs7 w (a1 == b1) (a2 == b2) (a3 == b3) (a4 == b4) (a5 == b5) (a6 == b6) (a7 == b7)
 simp only [beq_iff_eq] at h
 simp only [Gm.Ship.cells]
 go_simp
 rfl
theorem qoM (s t : Gm.Ship) (w : World) : (binOp .eql 29 (.agg s.cells.toArray) (.agg t.cells.toArray)).run Tryz.prog w = .ok (.bool (s.eqB t)) w := by
 simp only [binOp]
 simp [Op.equal, Op.maxDepth, qlo]
theorem qkP (x y vx vy cool score : Int) (h : ¬ Gm.qaT ⟨false, x, y, vx, vy, cool, score⟩) (w : World) :
 Calls Tryz.prog 129 #[.agg #[.bool false, .int .i32 x, .int .i32 y, .int .i32 vx, .int .i32 vy, .int .i64 cool, .int .i64 score]] w fun e w' => e = .returned (.bool false) /\ Below w.heap.size w w' := by
 have hne : (⟨false, x, y, vx, vy, cool, score⟩ : Gm.Ship) ≠ Gm.Ship.none := fun e => h (by
  rw [e]
  refine ⟨.inr rfl, ?_, ?_, ?_, ?_, ?_, ?_, ?_, ?_⟩ <;> simp [Gm.Ship.none, Gm.inF, Gm.slow])
 have he := fun W => qoM ⟨false, x, y, vx, vy, cool, score⟩ Gm.Ship.none W
 rw [show (⟨false, x, y, vx, vy, cool, score⟩ : Gm.Ship).eqB Gm.Ship.none = false by
  cases hq : (⟨false, x, y, vx, vy, cool, score⟩ : Gm.Ship).eqB Gm.Ship.none
  · rfl
  · exact absurd (Gm.Ship.qex.1 hq) hne] at he
 simp only [Gm.Ship.cells, Gm.Ship.none] at he
 clear h hne
 go_enter Tryz.func129, Tryz.ntmps129
 go_wp2
 go_ret
 exact ⟨rfl, qac _ _⟩
theorem qkR (s : Gm.Ship) (h : ¬ Gm.qaT s) (ty : Gm.qcM s) (w : World) :
 Calls Tryz.prog 129 #[.agg s.cells.toArray] w fun e w' => e = .returned (.bool false) /\ Below w.heap.size w w' := by
 obtain ⟨on, x, y, vx, vy, cool, score⟩ := s
 cases on
 · exact qkP x y vx vy cool score h w
 · exact qkQ x y vx vy cool score h ty w
theorem qkN (owner x y vx vy left : Int) (h : ¬ Gm.qa5 ⟨owner, x, y, vx, vy, left⟩) (ty : Gm.qde ⟨owner, x, y, vx, vy, left⟩) (w : World) :
 Calls Tryz.prog 131 #[.agg #[.int .i64 owner, .int .i32 x, .int .i32 y, .int .i32 vx, .int .i32 vy, .int .i64 left]] w fun e w' => e = .returned (.bool false) /\ Below w.heap.size w w' := by
 obtain ⟨wo, wx, wy, wvx, wvy, wl⟩ := ty
 dsimp only at wo wx wy wvx wvy wl
 have c0 := fun X => qh (qdm owner wo X)
 have c1 := fun X => qh (qiU x y wx wy X)
 have c2 := fun X => qh (qhx vx vy 393216 (by omega) wvx wvy X)
 have hno : Hid (¬ ((decide (0 <= owner) && decide (owner < 8)) = true /\ (Gm.inB x && Gm.inB y) = true /\ (Gm.qdh vx 393216 && Gm.qdh vy 393216) = true /\ 1 <= left /\ left <= 24)) := qh fun hh => h (by
  obtain ⟨h0, h1, h2, h3, h4⟩ := hh
  rw [Bool.and_eq_true, Gm.qiy, Gm.qiy] at h1
  rw [Bool.and_eq_true, Gm.qeF (by decide), Gm.qeF (by decide)] at h2
  simp only [Bool.and_eq_true, decide_eq_true_eq] at h0
  exact ⟨h0.1, h0.2, h1.1, h1.2, h2.1, h2.2, h3, h4⟩)
 clear h
 generalize (decide (0 <= owner) && decide (owner < 8)) = O at *
 generalize (Gm.inB x && Gm.inB y) = T at *
 generalize (Gm.qdh vx 393216 && Gm.qdh vy 393216) = V at *
 cases O
 · clear hno
   go_enter Tryz.func131, Tryz.ntmps131
   go_wp2_with (first | (go_at_call 125; ((with_reducible refine ((c0 _).out).mono ?_); rintro e w0 ⟨rfl, rfl⟩)) | (go_at_call 146; ((with_reducible refine ((c1 _).out).mono ?_); rintro e w1 ⟨rfl, hb⟩; have B1 := (Box.made w 72 #[.int .i64 owner, .int .i32 x, .int .i32 y, .int .i32 vx, .int .i32 vy, .int .i64 left]).below hb (by simp); have K1 := B1.cell; have Y1 := qh ((qac w (.cells #[.int .i64 owner, .int .i32 x, .int .i32 y, .int .i32 vx, .int .i32 vy, .int .i64 left] 72)).trans (hb.mono (by simp))); clear hb)) | (go_at_call 147; ((with_reducible refine ((c2 _).out).mono ?_); rintro e w2 ⟨rfl, hb⟩; have B2 := B1.below hb B1.lt; have K2 := B2.cell; have Y2 := qh (Y1.out.trans (hb.mono Y1.out.size)); clear K1 hb)))
   go_ret
   exact ⟨rfl, qac _ _⟩
 cases T
 · clear hno
   go_enter Tryz.func131, Tryz.ntmps131
   go_wp2_with (first | (go_at_call 125; ((with_reducible refine ((c0 _).out).mono ?_); rintro e w0 ⟨rfl, rfl⟩)) | (go_at_call 146; ((with_reducible refine ((c1 _).out).mono ?_); rintro e w1 ⟨rfl, hb⟩; have B1 := (Box.made w 72 #[.int .i64 owner, .int .i32 x, .int .i32 y, .int .i32 vx, .int .i32 vy, .int .i64 left]).below hb (by simp); have K1 := B1.cell; have Y1 := qh ((qac w (.cells #[.int .i64 owner, .int .i32 x, .int .i32 y, .int .i32 vx, .int .i32 vy, .int .i64 left] 72)).trans (hb.mono (by simp))); clear hb)) | (go_at_call 147; ((with_reducible refine ((c2 _).out).mono ?_); rintro e w2 ⟨rfl, hb⟩; have B2 := B1.below hb B1.lt; have K2 := B2.cell; have Y2 := qh (Y1.out.trans (hb.mono Y1.out.size)); clear K1 hb)))
   go_ret
   exact ⟨rfl, Y1.out⟩
 cases V
 · clear hno
   go_enter Tryz.func131, Tryz.ntmps131
   go_wp2_with (first | (go_at_call 125; ((with_reducible refine ((c0 _).out).mono ?_); rintro e w0 ⟨rfl, rfl⟩)) | (go_at_call 146; ((with_reducible refine ((c1 _).out).mono ?_); rintro e w1 ⟨rfl, hb⟩; have B1 := (Box.made w 72 #[.int .i64 owner, .int .i32 x, .int .i32 y, .int .i32 vx, .int .i32 vy, .int .i64 left]).below hb (by simp); have K1 := B1.cell; have Y1 := qh ((qac w (.cells #[.int .i64 owner, .int .i32 x, .int .i32 y, .int .i32 vx, .int .i32 vy, .int .i64 left] 72)).trans (hb.mono (by simp))); clear hb)) | (go_at_call 147; ((with_reducible refine ((c2 _).out).mono ?_); rintro e w2 ⟨rfl, hb⟩; have B2 := B1.below hb B1.lt; have K2 := B2.cell; have Y2 := qh (Y1.out.trans (hb.mono Y1.out.size)); clear K1 hb)))
   go_ret
   exact ⟨rfl, Y2.out⟩
 by_cases d0 : 1 <= left
 rotate_left
 · have e0 : decide (1 <= left) = false := decide_eq_false d0
   clear hno
   go_enter Tryz.func131, Tryz.ntmps131
   go_wp2_with (first | (go_at_call 125; ((with_reducible refine ((c0 _).out).mono ?_); rintro e w0 ⟨rfl, rfl⟩)) | (go_at_call 146; ((with_reducible refine ((c1 _).out).mono ?_); rintro e w1 ⟨rfl, hb⟩; have B1 := (Box.made w 72 #[.int .i64 owner, .int .i32 x, .int .i32 y, .int .i32 vx, .int .i32 vy, .int .i64 left]).below hb (by simp); have K1 := B1.cell; have Y1 := qh ((qac w (.cells #[.int .i64 owner, .int .i32 x, .int .i32 y, .int .i32 vx, .int .i32 vy, .int .i64 left] 72)).trans (hb.mono (by simp))); clear hb)) | (go_at_call 147; ((with_reducible refine ((c2 _).out).mono ?_); rintro e w2 ⟨rfl, hb⟩; have B2 := B1.below hb B1.lt; have K2 := B2.cell; have Y2 := qh (Y1.out.trans (hb.mono Y1.out.size)); clear K1 hb)))
   go_ret
   exact ⟨rfl, Y2.out⟩
 have e0 : decide (1 <= left) = true := decide_eq_true d0
 have e3 : decide (left <= 24) = false := decide_eq_false fun h => hno.out ⟨rfl, rfl, rfl, d0, h⟩
 clear hno d0
 go_enter Tryz.func131, Tryz.ntmps131
 go_wp2_with (first | (go_at_call 125; ((with_reducible refine ((c0 _).out).mono ?_); rintro e w0 ⟨rfl, rfl⟩)) | (go_at_call 146; ((with_reducible refine ((c1 _).out).mono ?_); rintro e w1 ⟨rfl, hb⟩; have B1 := (Box.made w 72 #[.int .i64 owner, .int .i32 x, .int .i32 y, .int .i32 vx, .int .i32 vy, .int .i64 left]).below hb (by simp); have K1 := B1.cell; have Y1 := qh ((qac w (.cells #[.int .i64 owner, .int .i32 x, .int .i32 y, .int .i32 vx, .int .i32 vy, .int .i64 left] 72)).trans (hb.mono (by simp))); clear hb)) | (go_at_call 147; ((with_reducible refine ((c2 _).out).mono ?_); rintro e w2 ⟨rfl, hb⟩; have B2 := B1.below hb B1.lt; have K2 := B2.cell; have Y2 := qh (Y1.out.trans (hb.mono Y1.out.size)); clear K1 hb)))
 go_ret
 exact ⟨rfl, Y2.out⟩
theorem qj2 (s : Gm.Ship) (h : ¬ Gm.qaT s) (ty : Gm.qcM s) (Bf : Nat) (w : World) (hf : Box w Bf 173 #[.func (.func 129) #[] #[]]) :
 Calls Tryz.prog 145 #[.agg s.cells.toArray, .pointer (some ⟨Bf, 0, none⟩)] w fun e w' => e = .returned (.bool true) /\ Below w.heap.size w w' := by
 have c1 := fun X => qh (qkR s h ty X)
 have hK : ∀ o, (w.alloc o).cell? ⟨Bf, 0, none⟩ = some (.func (.func 129) #[] #[]) := fun o => (hf.alloc o).cell 0
 obtain ⟨on, x, y, vx, vy, cool, score⟩ := s
 simp only [Gm.Ship.cells] at c1 ⊢
 clear h hf ty
 go_enter Tryz.func145, Tryz.ntmps145
 go_wp2_with (go_at_call 129; ((with_reducible refine ((c1 _).out).mono ?_); rintro e w1 ⟨rfl, hb1⟩))
 go_ret
 exact ⟨rfl, (qac w _).trans (hb1.mono (by simp))⟩
theorem qix (f : Nat -> Gm.Ship) (A : Option Addr) (c : Nat) (Bf : Nat) (w : World) (hno : ¬ ∀ i (h : i < 8), Gm.qaT (f i)) (hty : ∀ i (h : i < 8), Gm.qcM (f i)) (hr : Lies w w.heap.size 7 A 8 (Gm.qax f)) (hf : Box w Bf 173 #[.func (.func 129) #[] #[]]) :
 Calls Tryz.prog 159 #[.slice A 8 c, .func (.func 145) #[] #[.pointer (some ⟨Bf, 0, none⟩)]] w fun e w' => (∃ k : Nat, e = .returned (.int .i64 k)) /\ Below w.heap.size w w' := by
 have HNO := qh hno
 clear hno
 go_enter Tryz.func159, Tryz.ntmps159
 go_wp2
 go_loopw [8] (fun i wr => ∃ k : Nat, k <= 8 /\ i = .int .i64 k /\ (∀ j (hj : j < k), Gm.qaT (f j)) /\ Below w.heap.size w wr) (fun i _ => 8 - (intOf i).toNat)
 case atStart => exact ⟨0, by omega, rfl, fun j hj => absurd hj (Nat.not_lt_zero j), Below.refl _ _⟩
 case round =>
  obtain ⟨k, hk, rfl, hall, hb⟩ := hrel
  by_cases hlt : k < 8
  · have hbs := hb.size
    obtain ⟨ad, rfl, hbl, e0, e1, e2, e3, e4, e5, e6⟩ := qln (hr.below hb) k hlt
    have cty := hty k hlt
    have hfb := hf.below hb hf.lt
    have hkn : (k : Int) < 8 := by omega
    by_cases ho : Gm.qaT (f k)
    · have hall2 : ∀ j (hj : j < k + 1), Gm.qaT (f j) := fun j hj => by
       by_cases e : j = k
       · subst e; exact ho
       · exact hall j (by omega)
      have cc := fun X hX => qh (qfN (f k) ho Bf X hX)
      generalize f k = s at e0 e1 e2 e3 e4 e5 e6 ho cc cty
      obtain ⟨on, x, y, vx, vy, cool, score⟩ := s
      dsimp only at e0 e1 e2 e3 e4 e5 e6
      simp only [Gm.Ship.cells] at cc
      have HB := qh hb
      have HF := qh hfb
      have HALL := qh hall2
      clear hr ho hb hf hfb hty cty hall hall2
      go_wp2_with (go_at_call 145; ((with_reducible refine ((cc _ (by first | exact HF.out)).out).mono ?_); rintro e w1 ⟨rfl, hb1⟩))
      go_roundw
      case rel => exact ⟨k + 1, by omega, by go_num, HALL.out, HB.out.trans (hb1.mono HB.out.size)⟩
      case measure => simp [intOf]; omega
    · have cc := fun X hX => qh (qj2 (f k) ho cty Bf X hX)
      generalize f k = s at e0 e1 e2 e3 e4 e5 e6 ho cc cty
      obtain ⟨on, x, y, vx, vy, cool, score⟩ := s
      dsimp only at e0 e1 e2 e3 e4 e5 e6
      simp only [Gm.Ship.cells] at cc
      have HB := qh hb
      have HF := qh hfb
      clear hr ho hb hf hfb hty cty hall
      go_wp2_with (go_at_call 145; ((with_reducible refine ((cc _ (by first | exact HF.out)).out).mono ?_); rintro e w1 ⟨rfl, hb1⟩))
      go_ret
      exact ⟨⟨k, rfl⟩, HB.out.trans (hb1.mono HB.out.size)⟩
  · exact absurd (fun i hi => hall i (by omega)) HNO.out
theorem qfV (f : Nat -> Gm.Ship) (A : Option Addr) (c : Nat) (Bf : Nat) (w : World) (hno : ¬ ∀ i (h : i < 8), Gm.qaT (f i)) (hty : ∀ i (h : i < 8), Gm.qcM (f i)) (hr : Lies w w.heap.size 7 A 8 (Gm.qax f)) (hf : Box w Bf 173 #[.func (.func 129) #[] #[]]) :
 Calls Tryz.prog 144 #[.slice A 8 c, .func (.func 145) #[] #[.pointer (some ⟨Bf, 0, none⟩)]] w fun e w' => e = .returned (.bool true) /\ Below w.heap.size w w' := by
 have c1 := qh (qix f A c Bf w hno hty hr hf)
 clear hr hf hno hty
 go_enter Tryz.func144, Tryz.ntmps144
 go_wp2_with (go_at_call 159; ((with_reducible refine ((c1).out).mono ?_); rintro e w1 ⟨⟨k, rfl⟩, hb1⟩; have hd : decide (0 <= (k : Int)) = true := decide_eq_true (by omega)))
 go_ret
 exact ⟨rfl, hb1⟩
theorem qlh (f : Nat -> Gm.Ship) (A : Option Addr) (c : Nat) (w : World) (hno : ¬ ∀ i (h : i < 8), Gm.qaT (f i)) (hty : ∀ i (h : i < 8), Gm.qcM (f i)) (hr : Lies w w.heap.size 7 A 8 (Gm.qax f)) :
 Calls Tryz.prog 128 #[.slice A 8 c, .func (.func 129) #[] #[]] w fun e w' => e = .returned (.bool false) /\ Below w.heap.size w w' := by
 have hmf : ∀ (fn : Fn) (first cap : Array Value) (w : World), (Instr.makeFunc fn first cap).run Tryz.prog w = .ok (.func fn first cap) w := fun _ _ _ _ => rfl
 have hb0 := qac w (.cells #[.func (.func 129) #[] #[]] 173)
 have c1 := qh (qfV f A c w.heap.size _ hno hty ((hr.below hb0).wider hb0.size) (Box.made w _ _))
 have hbz := qh hb0
 clear hr hb0 hno hty
 go_enter Tryz.func128, Tryz.ntmps128
 go_wp2_with (go_at_call 144; ((with_reducible refine ((c1).out).mono ?_); rintro e w1 ⟨rfl, hb1⟩))
 go_ret
 exact ⟨rfl, hbz.out.trans (hb1.mono hbz.out.size)⟩
theorem qj1 (s : Gm.Shot) (h : ¬ Gm.qa5 s) (ty : Gm.qde s) (Bf : Nat) (w : World) (hf : Box w Bf 175 #[.func (.func 131) #[] #[]]) :
 Calls Tryz.prog 149 #[.agg s.cells.toArray, .pointer (some ⟨Bf, 0, none⟩)] w fun e w' => e = .returned (.bool true) /\ Below w.heap.size w w' := by
 have c1 := fun X => qh (show Calls Tryz.prog 131 #[.agg s.cells.toArray] X (fun e w' => e = .returned (.bool false) /\ Below X.heap.size X w') by obtain ⟨a, b, c, d, e, f⟩ := s; exact qkN a b c d e f h ty X)
 have hK : ∀ o, (w.alloc o).cell? ⟨Bf, 0, none⟩ = some (.func (.func 131) #[] #[]) := fun o => (hf.alloc o).cell 0
 obtain ⟨owner, x, y, vx, vy, left⟩ := s
 simp only [Gm.Shot.cells] at c1 ⊢
 clear h hf ty
 go_enter Tryz.func149, Tryz.ntmps149
 go_wp2_with (go_at_call 131; ((with_reducible refine ((c1 _).out).mono ?_); rintro e w1 ⟨rfl, hb1⟩))
 go_ret
 exact ⟨rfl, (qac w _).trans (hb1.mono (by simp))⟩
theorem qiv (l : List Gm.Shot) (n : Nat) (A : Option Addr) (c : Nat) (Bf : Nat) (w : World) (hno : ¬ ∀ i (h : i < l.length), Gm.qa5 (l[i])) (hty : ∀ i (h : i < l.length), Gm.qde (l[i])) (hn : n = l.length) (hn32 : n <= 32) (hr : Lies w w.heap.size 6 A n (Gm.qab l)) (hf : Box w Bf 175 #[.func (.func 131) #[] #[]]) :
 Calls Tryz.prog 161 #[.slice A n c, .func (.func 149) #[] #[.pointer (some ⟨Bf, 0, none⟩)]] w fun e w' => (∃ k : Nat, e = .returned (.int .i64 k)) /\ Below w.heap.size w w' := by
 have hN := qh hn
 clear hn
 have HNO := qh hno
 clear hno
 go_enter Tryz.func161, Tryz.ntmps161
 go_wp2
 go_loopw [8] (fun i wr => ∃ k : Nat, k <= n /\ i = .int .i64 k /\ (∀ j (hj : j < k), ∀ hjl : j < l.length, Gm.qa5 (l[j]'hjl)) /\ Below w.heap.size w wr) (fun i _ => n - (intOf i).toNat)
 case atStart => exact ⟨0, by omega, rfl, fun j hj => absurd hj (Nat.not_lt_zero j), Below.refl _ _⟩
 case round =>
  obtain ⟨k, hk, rfl, hall, hb⟩ := hrel
  by_cases hlt : k < n
  · have hbs := hb.size
    have hkl : k < l.length := by have := hN.out; omega
    obtain ⟨ad, rfl, hbl, e0, e1, e2, e3, e4, e5⟩ := qco (hr.below hb) hN.out k (by have := hN.out; omega)
    have cty := hty k hkl
    have hfb := hf.below hb hf.lt
    have hkn : (k : Int) < n := by omega
    by_cases ho : Gm.qa5 (l[k]'hkl)
    · have hall2 : ∀ j (hj : j < k + 1), ∀ hjl : j < l.length, Gm.qa5 (l[j]'hjl) := fun j hj => by
       by_cases e : j = k
       · subst e; exact fun _ => ho
       · exact hall j (by omega)
      have cc := fun X hX => qh (qfM (l[k]'hkl) ho Bf X hX)
      generalize l[k]'hkl = s at e0 e1 e2 e3 e4 e5 ho cc cty
      obtain ⟨owner, x, y, vx, vy, left⟩ := s
      dsimp only at e0 e1 e2 e3 e4 e5
      simp only [Gm.Shot.cells] at cc
      have HB := qh hb
      have HF := qh hfb
      have HALL := qh hall2
      clear hr ho hb hf hfb hty cty hall hall2
      go_wp2_with (go_at_call 149; ((with_reducible refine ((cc _ (by first | exact HF.out)).out).mono ?_); rintro e w1 ⟨rfl, hb1⟩))
      go_roundw
      case rel => exact ⟨k + 1, by omega, by go_num, HALL.out, HB.out.trans (hb1.mono HB.out.size)⟩
      case measure => simp [intOf]; omega
    · have cc := fun X hX => qh (qj1 (l[k]'hkl) ho cty Bf X hX)
      generalize l[k]'hkl = s at e0 e1 e2 e3 e4 e5 ho cc cty
      obtain ⟨owner, x, y, vx, vy, left⟩ := s
      dsimp only at e0 e1 e2 e3 e4 e5
      simp only [Gm.Shot.cells] at cc
      have HB := qh hb
      have HF := qh hfb
      clear hr ho hb hf hfb hty cty hall
      go_wp2_with (go_at_call 149; ((with_reducible refine ((cc _ (by first | exact HF.out)).out).mono ?_); rintro e w1 ⟨rfl, hb1⟩))
      go_ret
      exact ⟨⟨k, rfl⟩, HB.out.trans (hb1.mono HB.out.size)⟩
  · exact absurd (fun i hi => hall i (by have := hN.out; omega) hi) HNO.out
theorem qfU (l : List Gm.Shot) (n : Nat) (A : Option Addr) (c : Nat) (Bf : Nat) (w : World) (hno : ¬ ∀ i (h : i < l.length), Gm.qa5 (l[i])) (hty : ∀ i (h : i < l.length), Gm.qde (l[i])) (hn : n = l.length) (hn32 : n <= 32) (hr : Lies w w.heap.size 6 A n (Gm.qab l)) (hf : Box w Bf 175 #[.func (.func 131) #[] #[]]) :
 Calls Tryz.prog 148 #[.slice A n c, .func (.func 149) #[] #[.pointer (some ⟨Bf, 0, none⟩)]] w fun e w' => e = .returned (.bool true) /\ Below w.heap.size w w' := by
 have c1 := qh (qiv l n A c Bf w hno hty hn hn32 hr hf)
 clear hr hf hno hty hn
 go_enter Tryz.func148, Tryz.ntmps148
 go_wp2_with (go_at_call 161; ((with_reducible refine ((c1).out).mono ?_); rintro e w1 ⟨⟨k, rfl⟩, hb1⟩; have hd : decide (0 <= (k : Int)) = true := decide_eq_true (by omega)))
 go_ret
 exact ⟨rfl, hb1⟩
theorem qlg (l : List Gm.Shot) (n : Nat) (A : Option Addr) (c : Nat) (w : World) (hno : ¬ ∀ i (h : i < l.length), Gm.qa5 (l[i])) (hty : ∀ i (h : i < l.length), Gm.qde (l[i])) (hn : n = l.length) (hn32 : n <= 32) (hr : Lies w w.heap.size 6 A n (Gm.qab l)) :
 Calls Tryz.prog 130 #[.slice A n c, .func (.func 131) #[] #[]] w fun e w' => e = .returned (.bool false) /\ Below w.heap.size w w' := by
 have hmf : ∀ (fn : Fn) (first cap : Array Value) (w : World), (Instr.makeFunc fn first cap).run Tryz.prog w = .ok (.func fn first cap) w := fun _ _ _ _ => rfl
 have hb0 := qac w (.cells #[.func (.func 131) #[] #[]] 175)
 have c1 := qh (qfU l n A c w.heap.size _ hno hty hn hn32 ((hr.below hb0).wider hb0.size) (Box.made w _ _))
 have hbz := qh hb0
 clear hr hb0 hno hty hn
 go_enter Tryz.func130, Tryz.ntmps130
 go_wp2_with (go_at_call 148; ((with_reducible refine ((c1).out).mono ?_); rintro e w1 ⟨rfl, hb1⟩))
 go_ret
 exact ⟨rfl, hbz.out.trans (hb1.mono hbz.out.size)⟩
theorem qpZ (g : Gm.G) (A : Option Addr) (n c : Nat) (w : World) (hg : ¬ Gm.ok g) (hty : Gm.ty g) (hn : n = g.qaa.length) (hn63 : n <= maxLen) (hr : Lies w w.heap.size 6 A n (Gm.qab g.qaa)) :
 Calls Tryz.prog 100 #[.agg (Gm.cells g (.slice A n c))] w fun e w' => e = .returned (.bool false) /\ Below w.heap.size w w' := by
 have B0 := Box.made w 33 (Gm.cells g (.slice A n c))
 have hb0 := qac w (.cells (Gm.cells g (.slice A n c)) 33)
 have hc : ∀ j, (w.alloc (.cells (Gm.cells g (.slice A n c)) 33)).cell? ⟨w.heap.size, j, none⟩ = (Gm.cells g (.slice A n c))[j]? := fun j => B0.cell j
 have h0 := Gm.qaS g (.slice A n c)
 have h58 := Gm.qaZ g (.slice A n c)
 have BB := qh B0
 have HB := qh hb0
 by_cases hf : g.frame < 0
 · have d1 : decide (g.frame < 0) = true := decide_eq_true hf
   clear hr B0 hb0 hn hg hty
   go_enter Tryz.func100, Tryz.ntmps100
   go_wp2
   go_ret
   exact ⟨rfl, HB.out⟩
 have d1 : decide (g.frame < 0) = false := decide_eq_false hf
 by_cases hf2 : 1048576 < g.frame
 · have d2 : decide (1048576 < g.frame) = true := decide_eq_true hf2
   clear hr B0 hb0 hn hg hty
   go_enter Tryz.func100, Tryz.ntmps100
   go_wp2
   go_ret
   exact ⟨rfl, HB.out⟩
 have d2 : decide (1048576 < g.frame) = false := decide_eq_false hf2
 by_cases hf3 : 32 < n
 · have d3 : decide (32 < (n : Int)) = true := decide_eq_true (by omega)
   clear hr B0 hb0 hn hg hty
   go_enter Tryz.func100, Tryz.ntmps100
   go_wp2
   go_ret
   exact ⟨rfl, HB.out⟩
 have d3 : decide (32 < (n : Int)) = false := decide_eq_false (by omega)
 by_cases hs : ∀ i, i < 8 -> Gm.qaT (g.ship i)
 · have hs2 : ¬ ∀ i (h : i < g.qaa.length), Gm.qa5 g.qaa[i] := fun hh => hg ⟨by omega, by omega, by omega, hs, hh⟩
   have c1 := qh (qhd g.ship (some ⟨w.heap.size, 2, none⟩) 8 _ hs (qgi B0))
   have c2 := fun X (hX : Below w.heap.size w X) => qh (qlg g.qaa n A c X hs2 hty.2.2.2 hn (by omega) ((hr.below hX).wider hX.size))
   clear hr B0 hb0 hn hg hty hs hs2
   go_enter Tryz.func100, Tryz.ntmps100
   go_wp2_with (first | (go_at_call 128; ((with_reducible refine ((c1).out).mono ?_); rintro e w1 ⟨rfl, hb1⟩; have hc1 := (BB.out.below hb1 BB.out.lt).cell; have HB1 := qh (HB.out.trans (hb1.mono HB.out.size)))) | (go_at_call 130; ((with_reducible refine ((c2 _ (HB1.out)).out).mono ?_); rintro e w2 ⟨rfl, hb2⟩)))
   go_ret
   exact ⟨rfl, HB1.out.trans (hb2.mono HB1.out.size)⟩
 · have c1 := qh (qlh g.ship (some ⟨w.heap.size, 2, none⟩) 8 _ hs hty.2.2.1 (qgi B0))
   clear hr B0 hb0 hn hg hty hs
   go_enter Tryz.func100, Tryz.ntmps100
   go_wp2_with (go_at_call 128; ((with_reducible refine ((c1).out).mono ?_); rintro e w1 ⟨rfl, hb1⟩; have HB1 := qh (HB.out.trans (hb1.mono HB.out.size))))
   go_ret
   exact ⟨rfl, HB1.out⟩
open Go.RowKit Go.Shelf
attribute [local go_sem] Oper.semAt_some
theorem qdv (i : Int) (w : World) :
 Calls Tryz.prog 141 #[.int .i64 i] w fun e w' => e = .returned (.bool (decide (0 <= i /\ i < 12))) /\ w = w' := by
 go_enter Tryz.func141, Tryz.ntmps141
 go_wp2
 all_goals
  go_ret
  exact ⟨qao (by rw [Bool.eq_iff_iff]; simp; omega), rfl⟩
theorem qdu (i : Int) (w : World) :
 Calls Tryz.prog 123 #[.int .i64 i] w fun e w' => e = .returned (.bool (decide (0 <= i /\ i < 8))) /\ w = w' := by
 go_enter Tryz.func123, Tryz.ntmps123
 go_wp2
 all_goals
  go_ret
  exact ⟨qao (by rw [Bool.eq_iff_iff]; simp; omega), rfl⟩
theorem qkS (p g : Int) (w : World) :
 Calls Tryz.prog 138 #[.agg #[.int .i64 p, .int .i64 g]] w fun e w' => e = .returned (.bool (decide ((0 <= g /\ g <= 60000) /\ (p = -1 \/ ((0 <= p /\ p < 12) /\ 0 < g))))) /\ Below w.heap.size w w' := by
 have c1 := fun X => qh (qdv p X)
 by_cases hg : g < 0
 · go_enter Tryz.func138, Tryz.ntmps138
   go_wp2
   go_ret
   exact ⟨qao (by (try rw [Bool.eq_iff_iff]) <;> simp <;> omega), qac _ _⟩
 by_cases hg2 : 60000 < g
 · go_enter Tryz.func138, Tryz.ntmps138
   go_wp2
   go_ret
   exact ⟨qao (by (try rw [Bool.eq_iff_iff]) <;> simp <;> omega), qac _ _⟩
 by_cases hp : p = -1
 · subst hp
   go_enter Tryz.func138, Tryz.ntmps138
   go_wp2
   go_ret
   exact ⟨qao (by (try rw [Bool.eq_iff_iff]) <;> simp <;> omega), qac _ _⟩
 have hpb : (p == -1) = false := by simpa using hp
 by_cases hq : 0 <= p /\ p < 12
 · rw [decide_eq_true hq] at c1
   by_cases hg0 : 0 < g
   · go_enter Tryz.func138, Tryz.ntmps138
     go_wp2_with (go_at_call 141; ((with_reducible refine ((c1 _).out).mono ?_); rintro e w1 ⟨rfl, rfl⟩))
     go_ret
     exact ⟨qao (by (try rw [Bool.eq_iff_iff]) <;> simp <;> omega), qac _ _⟩
   · go_enter Tryz.func138, Tryz.ntmps138
     go_wp2_with (go_at_call 141; ((with_reducible refine ((c1 _).out).mono ?_); rintro e w1 ⟨rfl, rfl⟩))
     go_ret
     exact ⟨qao (by (try rw [Bool.eq_iff_iff]) <;> simp <;> omega), qac _ _⟩
 · rw [decide_eq_false hq] at c1
   have HQ := qh hq
   clear hq
   go_enter Tryz.func138, Tryz.ntmps138
   go_wp2_with (go_at_call 141; ((with_reducible refine ((c1 _).out).mono ?_); rintro e w1 ⟨rfl, rfl⟩))
   go_ret
   have hq := HQ.out
   exact ⟨qao (by (try rw [Bool.eq_iff_iff]) <;> simp <;> omega), qac _ _⟩
theorem qgn (B : Nat) (w : World) :
 Calls Tryz.prog 71 #[.pointer (some ⟨B, 0, none⟩)] w fun e w' => e = .returned (.func (.func 93) #[] #[.pointer (some ⟨w.heap.size, 0, none⟩)]) /\ w' = w.alloc (.cells #[.pointer (some ⟨B, 0, none⟩)] 119) := by
 have hmf : ∀ (fn : Fn) (first cap : Array Value) (w : World), (Instr.makeFunc fn first cap).run Tryz.prog w = .ok (.func fn first cap) w := fun _ _ _ _ => rfl
 go_enter Tryz.func71, Tryz.ntmps71
 go_wp2
 go_ret
 exact ⟨rfl, rfl⟩
abbrev qkl (B : Nat) (x : Ros.Sl) : Array Value := #[.int .i64 x.1, .pointer (some ⟨B, 1 + x.1 * 2, none⟩)]
def qcT (B Bg : Nat) (W : World) : Prop := W.cell? ⟨Bg, 0, none⟩ = some (.pointer (some ⟨B, 0, none⟩))
theorem qcT.below {B Bg : Nat} {w W : World} (h : qcT B Bg w) (hb : Below w.heap.size w W) : qcT B Bg W :=
 (World.cell?_of_block (hb.block _ (World.block_lt_of_cell? w _ h))).trans h
def qm2 (B Bg : Nat) (W W' : World) : Prop := qcT B Bg W -> qcT B Bg W'
theorem qkf {B Bg : Nat} {X Y Z : World} (h : qm2 B Bg X Y) (k : qm2 B Bg Y Z) : qm2 B Bg X Z := fun hx => k (h hx)
theorem qkg {B Bg : Nat} {n : Nat} (W : World) (l : Nat) (o o' : Obj) (_ : n <= l) (h : W.heap[l]? = some o) (hc : o.isCells = false) (_ : o.isWalk = false) : qm2 B Bg W (W.putObj l o') := fun hf =>
 cell_kept hf (grownBy_putObj' W l o') (fun r e => by cases e; exact ⟨_, h, hc⟩)
theorem qny (B Bg : Nat) (n l : Nat) (J Jx : List Ros.Sl -> World -> Prop)
 (hY : ∀ pre x W, J pre W -> pre.length < 8 -> YieldAt Fence.wide (n - 1) Tryz.prog l (qkl B x) W fun e W' =>
  (e = .returned (.bool true) /\ J (pre ++ [x]) W' /\ qm2 B Bg W W') \/ (e = .returned (.bool false) /\ Jx (pre ++ [x]) W'))
 (W : World) (hF : qcT B Bg W) (h0 : J [] W) :
 CallsIn Fence.wide n Tryz.prog 93 #[.func (.yield l) #[] #[], .pointer (some ⟨Bg, 0, none⟩)] W fun e W' => (∃ v, e = .returned v) /\
  ((∃ ys, ys = Ros.all8 /\ J ys W') \/ (∃ pre, (∃ rest, Ros.all8 = pre ++ rest) /\ Jx pre W')) := by
 refine callsIn_of_wp Tryz.func93 rfl trivial ?_ rfl
 simp only [Tryz.ntmps93, List.size_toArray, List.length_cons, List.length_nil, Nat.reduceAdd, Nat.reduceSub, Array.replicate_succ, Array.replicate_zero, List.push_toArray, List.append_toArray, List.nil_append, List.cons_append]
 gi_wp2
 gi_loopw [4] (fun p wr => ∃ (i : Nat) (pre : List Ros.Sl), i <= 8 /\ p = .int .i64 i /\ Ros.all8 = pre ++ Ros.slots (8 - i) i /\ qcT B Bg wr /\ J pre wr)
  (fun p _ => 8 - (intOf p).toNat)
 case atStart =>
  exact ⟨0, [], by omega, rfl, rfl, hF, h0⟩
 case round =>
  obtain ⟨i, pre, hi, rfl, hx, hf, hJs⟩ := hrel
  by_cases hlt : i < 8
  · have hi8 : (i : Int) < 8 := by omega
    have f0 : wr.cell? ⟨Bg, 0, none⟩ = some (.pointer (some ⟨B, 0, none⟩)) := hf
    rw [show 8 - i = (8 - (i + 1)) + 1 by omega, Ros.qnp hlt] at hx
    have hlen : pre.length < 8 := by
     have := Ros.qiZ 8 0; rw [show Ros.slots 8 0 = Ros.all8 from rfl, hx] at this; simp at this; omega
    obtain ⟨fn, tmps, assign, body, hy, hR⟩ := hY pre ⟨i, hlt⟩ wr hJs hlen
    dsimp only [qkl] at hy
    have HX := qh hx
    have HF := qh hf
    clear hx hf hJs hY
    gi_wp2
    refine ⟨fun h => (by cases h), hR.mono ?_⟩
    rintro e W3 (⟨rfl, hJ3, hk3⟩ | ⟨rfl, hJx3⟩)
    · gi_wp2
      go_roundw
      case rel => exact ⟨i + 1, pre ++ [⟨i, hlt⟩], by omega, by go_num, by rw [HX.out]; simp, hk3 HF.out, hJ3⟩
      case measure => simp [intOf]; omega
    · gi_wp2
      refine bodyPost_ret (results_none rfl _ _ _) rfl ?_
      exact ⟨⟨_, rfl⟩, .inr ⟨pre ++ [⟨i, hlt⟩], ⟨Ros.slots (8 - (i + 1)) (i + 1), by rw [HX.out]; simp⟩, hJx3⟩⟩
  · have hi8 : ¬ (i : Int) < 8 := by omega
    have hie : i = 8 := by omega
    subst hie
    have HX := qh (show Ros.all8 = pre by rw [hx]; simp [Ros.slots])
    clear hx
    gi_wp2
    go_end0
    have e := HX.out
    first
     | exact ⟨⟨_, rfl⟩, .inl ⟨pre, e.symm, hJs⟩⟩
     | exact ⟨⟨_, rfl⟩, .inl (by rw [e]; exact hJs)⟩
theorem qdN (B Bg : Nat) (n : Nat) (w : World) (hF : qcT B Bg w) :
 SeqStopsK Fence.wide n Tryz.prog 93 #[.pointer (some ⟨Bg, 0, none⟩)] (qkl B) (qm2 B Bg) (fun xs => xs = Ros.all8) (fun pre => ∃ rest, Ros.all8 = pre ++ rest) 8 w :=
 fun l J Jx W hW _ _ hY h0 => qny B Bg n l J Jx hY W (hF.below hW) h0
end Go.Proofs.YtbdlpbnfcnhajaaGreat
namespace Go
open Go.RowKit
structure Ext (B : Nat) (W : World) where
 w : World
 h : Below B W w
instance {B : Nat} {W : World} : Nonempty (Ext B W) := ⟨⟨W, Below.refl _ _⟩⟩
theorem Ext.cell {B : Nat} {W : World} (q : Ext B W) {b o : Nat} {v : Value} (hb : b < B) (hc : W.cell? ⟨b, o, none⟩ = some v) : q.w.cell? ⟨b, o, none⟩ = some v :=
 (q.h.cell (p := ⟨b, o, none⟩) hb).trans hc
theorem qa0 {P : Program} {id : Nat} {Q : Exit -> Act -> World -> Prop} {a : Act} {w : World} {l : List Oper} (B : Nat) (W : World) (hm : P.follows .mixedOrders = true) (hB : Region.lexB .any l.toArray = true) (hC : Below B W w)
 (h : wpQuiet P l.toArray (fun w' => ∃ q : Ext B W, w' = q.w) (fun a' => ∀ w', (∃ q : Ext B W, w' = q.w) -> Q .normal a' w') l a) : (Code.region id l.toArray true).wp P Q a w :=
 wp_region_quiet (C := fun w' => ∃ q : Ext B W, w' = q.w) hm hB ⟨⟨_, hC.drew⟩, rfl⟩ (by simpa using h)
theorem Calls.qbz {P : Program} {f : FuncId} {args : Array Value} {B : Nat} {W : World} {q : Ext B W} {v : Value} (hB : B <= W.heap.size)
 (h : Calls P f args q.w fun e w' => e = .returned v /\ Below q.w.heap.size q.w w') : Calls P f args q.w fun e w'' => e = .returned v /\ ∃ q' : Ext B W, w'' = q'.w :=
 h.mono fun _ w' ⟨he, hb⟩ => ⟨he, ⟨w', q.h.trans (hb.mono (Nat.le_trans hB q.h.size))⟩, rfl⟩
end Go
namespace Rt
open Go Go.RowKit
def tame (o : Oper) : Bool := match o.op with | .defer .. => false | _ => true
theorem qpO {n l : Nat} {P : Program} {row : String} {args : Array Value} {w : World} {R : Value -> World -> Prop} (h : Rows P row args w R) : RowsIn (Fence.wide.inRound l) n P row args w R :=
 fun c cs _ => let ⟨v, w', r, s⟩ := h c cs; ⟨v, w', r, stepsIn_wide.2 s⟩
theorem qpT {n l : Nat} {P : Program} {o : Oper} {a : Act} {w : World} {K : Act -> World -> Prop} {Q : Exit -> Act -> World -> Prop} (ht : tame o = true) (h : o.wp P a w K Q) : o.wpIn (Fence.wide.inRound l) n P a w K Q := by
 refine ⟨fun _ _ => trivial, ?_⟩
 rw [Oper.semAt_eq _ _ _ (fun c e => by unfold tame at ht; rw [e] at ht; cases ht)]
 unfold Oper.wp at h
 generalize (execOp a.eval o).run P w = r at *
 cases r with
 | ok x w' =>
  cases x <;> simp only [Oper.upon] at h <;> simp only [Oper.uponIn]
  case value => exact h
  case skip => exact h
  case defer => exact h
  case enter => exact ⟨fun e => (by cases e), (callsIn_wide.2 h).inRound l⟩
  case row => exact ⟨fun e => (by cases e), qpO h⟩
 | halt x w' => cases x <;> simp only [Oper.upon] at h <;> simp only [Oper.uponIn] <;> exact h
theorem qqF {n l : Nat} {P : Program} {ops : Array Oper} {i : Nat} {a : Act} {w : World} {K : Act -> World -> Prop} {Q : Exit -> Act -> World -> Prop} (ht : ops.all tame = true) (hQ : ¬ LetsOut Q) (h : wpOp P ops Q i K a w) : wpOpIn (Fence.wide.inRound l) n P ops Q i K a w := by
 unfold wpOp at h
 unfold wpOpIn
 split
 · rename_i e; simp only [e] at h; exact h
 · rename_i o e
   simp only [e] at h
   have hto : tame o = true := Array.all_eq_true_iff_forall_mem.1 ht o (Array.mem_of_getElem? e)
   split
   · rename_i hw
     simp only [hw, if_true] at h
     rcases h with h | h
     · exact qpT hto h
     · exact absurd h.2 hQ
   · rename_i hw
     simp only [hw] at h
     exact ⟨fun _ _ => trivial, h⟩
theorem qop {n l : Nat} {P : Program} {ops : Array Oper} {Q : Exit -> Act -> World -> Prop} (ht : ops.all tame = true) (hQ : ¬ LetsOut Q) : ∀ (fuel : Nat) (listed : Array Bool) (a : Act) (w : World), wpAny P .any ops Q fuel listed a w -> wpAnyIn (Fence.wide.inRound l) n P .any ops Q fuel listed a w
 | 0, _, _, _, h => h
 | fuel + 1, listed, a, w, h => ⟨h.1, fun i hi => wpOpIn_mono (fun a' w' h' => qop ht hQ fuel _ a' w' h') (qqF ht hQ (h.2 i hi))⟩
theorem qml {n l id : Nat} {P : Program} {ops : List Oper} {a : Act} {w : World} {Q : Exit -> Act -> World -> Prop} (hm : P.follows .mixedOrders = true) (ht : ops.toArray.all tame = true) (st : List Nat) (hB : Ry.okB st ops = true) (hQ : ¬ LetsOut Q) (C0 D0 E : World -> Prop) (hC : C0 w.drew) (hCD : ∀ w, C0 w -> D0 w /\ E w)
 (h : Ry.qaN P st E (fun a' C' => ∀ w', C' w' -> Q .normal a' w') ops 0 a C0 D0) : (Code.region id ops.toArray true).wpIn (Fence.wide.inRound l) n P Q a w :=
 wpIn_region_any hm (qop ht hQ _ _ _ _ (Ry.qea hB C0 D0 hC hCD h))
theorem qdk {n l id : Nat} {P : Program} {ops : List Oper} {a : Act} {w : World} {Q : Exit -> Act -> World -> Prop} (B : Nat) (W : World) (hm : P.follows .mixedOrders = true) (ht : ops.toArray.all tame = true) (hB : Region.lexB .any ops.toArray = true) (hQ : ¬ LetsOut Q) (hC : Below B W w)
 (h : wpQuiet P ops.toArray (fun w' => ∃ q : Ext B W, w' = q.w) (fun a' => ∀ w', (∃ q : Ext B W, w' = q.w) -> Q .normal a' w') ops a) : (Code.region id ops.toArray true).wpIn (Fence.wide.inRound l) n P Q a w := by
 refine wpIn_region_any hm (qop ht hQ _ _ _ _ ?_)
 simp only [Region.lexB, Bool.and_eq_true] at hB
 refine wpAny_of_quiet (C := fun w' => ∃ q : Ext B W, w' = q.w) (Q := fun a' => ∀ w', (∃ q : Ext B W, w' = q.w) -> Q .normal a' w') (fun _ w' hw' h => h w' hw') _ _ _ _ ⟨⟨_, hC.drew⟩, rfl⟩ ?_
 have := wpAnyQ_lex (C := fun w' => ∃ q : Ext B W, w' = q.w) (md := .any) hB.1 ops.toArray.toList 0 (Array.replicate ops.toArray.size false) a (by simp) (by simpa using hB.2) (by simpa using h)
 simpa using this
end Rt
namespace Go.Proofs.YtbdlpbnfcnhajaaGreat
open Go.RowKit Go.Shelf
attribute [local go_sem] Oper.semAt_some
structure qfO (B Br Bh Bg : Nat) (w0 : World) (r : Ros.R) (pre : List Ros.Sl) (W : World) : Prop where
 ros : Box W B 38 (Ros.cells r)
 res : Box W Br 4 #[.bool false]
 has : Box W Bh 178 (Ros.qd6 (Ros.hasF r pre))
 sit : Box W Bg 119 #[.pointer (some ⟨B, 0, none⟩)]
 below : Below w0.heap.size w0 W
 good : Ros.Good r pre
theorem Below.turned {b : Nat} {w0 W W' : World} {row : Option Nat} (h : Below b w0 W) (hb : b <= w0.heap.size) (hg : W.grownBy W' row) (hr : ∀ r, row = some r -> b <= r) : Below b w0 W' :=
 h.grown hg (Nat.le_trans hb h.size) fun k e => hr k e
theorem qfO.turned {B Br Bh Bg : Nat} {w0 : World} {r : Ros.R} {pre : List Ros.Sl} {W W' : World} {row : Option Nat} (h : qfO B Br Bh Bg w0 r pre W) (hg : W.grownBy W' row) (hr : ∀ r, row = some r -> w0.heap.size <= r /\ ∃ o : Obj, W.heap[r]? = some o /\ o.isCells = false) : qfO B Br Bh Bg w0 r pre W' :=
 ⟨h.ros.turned hg fun r e => (hr r e).2, h.res.turned hg fun r e => (hr r e).2, h.has.turned hg fun r e => (hr r e).2, h.sit.turned hg fun r e => (hr r e).2, Below.turned h.below (Nat.le_refl _) hg fun r e => (hr r e).1, h.good⟩
theorem qfO.call {B Br Bh Bg : Nat} {w0 : World} {r : Ros.R} {pre : List Ros.Sl} {W W' : World} (h : qfO B Br Bh Bg w0 r pre W) (hb : Below W.heap.size W W') : qfO B Br Bh Bg w0 r pre W' :=
 ⟨h.ros.below hb h.ros.lt, h.res.below hb h.res.lt, h.has.below hb h.has.lt, h.sit.below hb h.sit.lt, h.below.trans (hb.mono h.below.size), h.good⟩
theorem qfc (r : Ros.R) (w : World) :
 Calls Tryz.prog 111 #[.agg (Ros.cells r)] w fun e w' => e = .returned (.bool (Ros.may r)) /\ Below w.heap.size w w' := by
 have B0 := Box.made w 38 (Ros.cells r)
 have hc : ∀ o j, ((w.alloc (.cells (Ros.cells r) 38)).alloc o).cell? ⟨w.heap.size, j, none⟩ = (Ros.cells r)[j]? := fun o j => (B0.alloc o).cell j
 have h0 := Ros.qaS r
 by_cases hv1 : r.version < 0
 · skip
   have hno : Ros.may r = false := decide_eq_false fun h => by have := h.1; omega
   have d1 : decide (r.version < 0) = true := decide_eq_true hv1
   rw [hno]
   have hres := (Box.qan (n := w.heap.size + 1) (w.alloc (.cells (Ros.cells r) 38)) 4 #[.bool false] (by simp)).put 0 (.bool false)
   have hcr := hres.cell 0
   clear B0 hno hres
   go_enter Tryz.func111, Tryz.ntmps111
   go_wp2
   refine bodyPost_ret (v := .bool false) (by simp [results, Tryz.f111, go_sem] <;> exact hcr) rfl ?_
   exact ⟨rfl, qal w _ _⟩
 by_cases hv2 : 1073741824 < r.version
 · skip
   have hno : Ros.may r = false := decide_eq_false fun h => by have := h.1; omega
   have d1 : decide (r.version < 0) = false := decide_eq_false hv1
   have d2 : decide (1073741824 < r.version) = true := decide_eq_true hv2
   rw [hno]
   have hres := (Box.qan (n := w.heap.size + 1) (w.alloc (.cells (Ros.cells r) 38)) 4 #[.bool false] (by simp)).put 0 (.bool false)
   have hcr := hres.cell 0
   clear B0 hno hres
   go_enter Tryz.func111, Tryz.ntmps111
   go_wp2
   refine bodyPost_ret (v := .bool false) (by simp [results, Tryz.f111, go_sem] <;> exact hcr) rfl ?_
   exact ⟨rfl, qal w _ _⟩
 have hver : 0 <= r.version /\ r.version <= 1073741824 := by omega
 have d1 : decide (r.version < 0) = false := decide_eq_false hv1
 have d2 : decide (1073741824 < r.version) = false := decide_eq_false hv2
 have HV := qh hver
 have BB := qh B0
 clear hv1 hv2 hver
 refine (callsIn_wide (n := 10)).1 (callsIn_of_wp_marks Tryz.func111 rfl trivial (wpIn_wide.2 ?_) rfl)
 simp only [Tryz.ntmps111, List.size_toArray, List.length_cons, List.length_nil, Nat.reduceAdd, Nat.reduceSub, Array.replicate_succ, Array.replicate_zero, List.push_toArray, List.append_toArray, List.nil_append, List.cons_append]
 go_upto_block 0 with (go_at_call 71; ((with_reducible refine (qgn _ _).mono ?_); rintro e w3 ⟨rfl, rfl⟩))
 have M0 : qfO w.heap.size (w.heap.size + 1) (w.heap.size + 1 + 1) (w.heap.size + 1 + 1 + 1) w r [] ((((w.alloc (.cells (Ros.cells r) 38)).alloc (.cells #[.bool false] 4)).alloc (.cells (Ros.qd6 fun _ => false) 178)).alloc (.cells #[.pointer (some ⟨w.heap.size, 0, none⟩)] 119)) :=
  ⟨((BB.out.alloc _).alloc _).alloc _, ((Box.qan _ _ _ (by simp)).alloc _).alloc _, (Box.qan _ _ _ (by simp)).alloc _, Box.qan _ _ _ (by simp), ((((Below.refl _ _).alloc (Nat.le_refl _) _).alloc (by simp) _).alloc (by simp <;> omega) _).alloc (by simp <;> omega) _, Ros.qpe r⟩
 simp only [Ros.qd6] at M0
 generalize hW0 : ((((w.alloc (.cells (Ros.cells r) 38)).alloc (.cells #[.bool false] 4)).alloc _).alloc _) = W0 at M0 ⊢
 have MM0 := qh M0
 have hs0 : qcT w.heap.size (w.heap.size + 1 + 1 + 1) W0 := M0.sit.cell 0
 clear hW0 M0 BB B0 hc h0 d1 d2
 refine (wpIn_wide (n := 10)).1 ?_
 refine wpIn_block ?_
 refine' wpIn_rangeFunc_ownF (n := 10) (w := W0) rfl (by omega) (gf := 93) (lb := #[.pointer (some ⟨w.heap.size + 1 + 1 + 1, 0, none⟩)]) rfl trivial (enters_of Tryz.func93 (by kernel_rfl) rfl)
  (qdN w.heap.size (w.heap.size + 1 + 1 + 1) _ W0 hs0) qkf (qkg (n := W0.heap.size)) (Below.refl _ _) (fun _ => rfl)
  (fun pre W => qfO w.heap.size (w.heap.size + 1) (w.heap.size + 1 + 1) (w.heap.size + 1 + 1 + 1) w r pre W)
  (fun c pre W => c = .ret /\ ¬ Ros.Good r pre /\ Box W (w.heap.size + 1) 4 #[.bool false] /\ Below w.heap.size w W)
  (fun pre W W' row h hgr hr => h.turned hgr (fun r e => ⟨Nat.le_trans MM0.out.below.size (hr r e).1, (hr r e).2⟩))
  (fun c pre W W' row h hgr hr => ⟨h.1, h.2.1, h.2.2.1.turned hgr (fun r e => (hr r e).2), Below.turned h.2.2.2 (Nat.le_refl _) hgr (fun r e => Nat.le_trans MM0.out.below.size (hr r e).1)⟩)
  MM0.out _ ?assign ?body ?done ?stop
 case assign =>
  intro l x W K hK
  gi_wp2
  exact hK
 case body =>
  rintro l pre ⟨k, hk⟩ W hM hlen
  have hk8 : (k : Int) < 8 := by omega
  have rc := hM.ros.cell
  have hl := hM.ros.lt
  have rp := Ros.qaB r k hk
  have rg := Ros.qaV r k hk
  have cs := fun X => qh (qkS (r.peer k) (r.gen k) X)
  have HM := qh hM
  clear hM hlen
  by_cases hok : Ros.qej r k
  · have hok' : (0 <= r.gen k /\ r.gen k <= 60000) /\ (r.peer k = -1 \/ ((0 <= r.peer k /\ r.peer k < 12) /\ 0 < r.gen k)) := hok
    rw [decide_eq_true hok'] at cs
    have HOK := qh hok
    by_cases hp : r.peer k = -1
    · have HG : Hid (Ros.Good r (pre ++ [⟨k, hk⟩])) := qh (Ros.qeS.2 ⟨HM.out.good, hok, fun y hy => by rw [show r.peer (⟨k, hk⟩ : Ros.Sl).1 = -1 from hp]; omega⟩)
      have HF : Hid (Ros.hasF r (pre ++ [⟨k, hk⟩]) = Ros.hasF r pre) := qh (funext fun q => Ros.qp9 (x := ⟨k, hk⟩) hp q)
      rw [hp] at rp cs
      generalize r.gen k = g at rg cs
      clear hok hok' hp
      gi_wp2_with (first | (gi_at_call 138; ((with_reducible refine (CallsIn.inRound l (callsIn_wide.2 (cs _).out)).mono ?_); rintro e v1 ⟨rfl, hb1⟩; have M1 := HM.out.call hb1; have s1 := M1.ros.cell; have s2 := M1.res.cell; have t2 := M1.res.free; have s3 := M1.has.cell; have t3 := M1.has.free; have l1 := M1.ros.lt; clear M1)) | (refine ⟨trivial, ?_⟩; gi_at_call 138; ((with_reducible refine (CallsIn.inRound l (callsIn_wide.2 (cs _).out)).mono ?_); rintro e v1 ⟨rfl, hb1⟩; have M1 := HM.out.call hb1; have s1 := M1.ros.cell; have s2 := M1.res.cell; have t2 := M1.res.free; have s3 := M1.has.cell; have t3 := M1.has.free; have l1 := M1.ros.lt; clear M1)))
      have M2 := HM.out.call hb1
      refine ⟨qbi hb1, fun h => h.below hb1, ?_⟩
      exact ⟨M2.ros, M2.res, by rw [HF.out]; exact M2.has, M2.sit, M2.below, HG.out⟩
    · obtain ⟨n, hn, hn12⟩ : ∃ n : Nat, r.peer k = n /\ n < 12 := ⟨(r.peer k).toNat, by omega, by omega⟩
      have hne : ((n : Int) == -1) = false := by simp
      have hni : (n : Int) < 12 := by omega
      have ha := Ros.qkW (Ros.hasF r pre) n hn12
      cases hh : Ros.hasF r pre n
      · rw [hh] at ha
        have HG : Hid (Ros.Good r (pre ++ [⟨k, hk⟩])) := qh (Ros.qeS.2 ⟨HM.out.good, hok, fun y hy => by rw [show r.peer (⟨k, hk⟩ : Ros.Sl).1 = n from hn]; exact .inr (Ros.qlH.1 hh y hy)⟩)
        have HF : Hid (Ros.hasF r (pre ++ [⟨k, hk⟩]) = fun q => if q = n then true else Ros.hasF r pre q) := qh (funext fun q => Ros.qpd (x := ⟨k, hk⟩) hn q)
        rw [hn] at rp cs
        generalize r.gen k = g at rg cs
        clear hok hok' hp hn hh
        gi_wp2_with (first | (gi_at_call 138; ((with_reducible refine (CallsIn.inRound l (callsIn_wide.2 (cs _).out)).mono ?_); rintro e v1 ⟨rfl, hb1⟩; have M1 := HM.out.call hb1; have s1 := M1.ros.cell; have s2 := M1.res.cell; have t2 := M1.res.free; have s3 := M1.has.cell; have t3 := M1.has.free; have l1 := M1.ros.lt; clear M1)) | (refine ⟨trivial, ?_⟩; gi_at_call 138; ((with_reducible refine (CallsIn.inRound l (callsIn_wide.2 (cs _).out)).mono ?_); rintro e v1 ⟨rfl, hb1⟩; have M1 := HM.out.call hb1; have s1 := M1.ros.cell; have s2 := M1.res.cell; have t2 := M1.res.free; have s3 := M1.has.cell; have t3 := M1.has.free; have l1 := M1.ros.lt; clear M1)))
        have M2 := HM.out.call hb1
        have hset := M2.has.put n (.bool true)
        rw [Ros.qjJ _ n hn12, <- HF.out] at hset
        refine ⟨(qbi hb1).trans (KeepsOthers.setCell _ _ _), fun h => (World.cell?_of_block (heap_setCell_other _ _ _ _ (by show w.heap.size + 1 + 1 + 1 ≠ w.heap.size + 1 + 1; omega))).trans (h.below hb1), ?_⟩
        exact ⟨M2.ros.far (by show _ ≠ _; simp; omega) _, M2.res.far (by show _ ≠ _; simp) _, hset, M2.sit.far (by show _ ≠ _; simp) _, M2.below.setCell (by simp; omega) _, HG.out⟩
      · rw [hh] at ha
        have HG : Hid (¬ Ros.Good r (pre ++ [⟨k, hk⟩])) := qh fun h => by
         have h3 := (Ros.qeS.1 h).2.2
         have : Ros.hasF r pre n = false := Ros.qlH.2 fun y hy => by
          rcases h3 y hy with e | e
          · rw [e]; omega
          · rw [show r.peer (⟨k, hk⟩ : Ros.Sl).1 = n from hn] at e; exact e
         rw [this] at hh; cases hh
        rw [hn] at rp cs
        generalize r.gen k = g at rg cs
        clear hok hok' hp hn hh
        gi_wp2_with (first | (gi_at_call 138; ((with_reducible refine (CallsIn.inRound l (callsIn_wide.2 (cs _).out)).mono ?_); rintro e v1 ⟨rfl, hb1⟩; have M1 := HM.out.call hb1; have s1 := M1.ros.cell; have s2 := M1.res.cell; have t2 := M1.res.free; have s3 := M1.has.cell; have t3 := M1.has.free; have l1 := M1.ros.lt; clear M1)) | (refine ⟨trivial, ?_⟩; gi_at_call 138; ((with_reducible refine (CallsIn.inRound l (callsIn_wide.2 (cs _).out)).mono ?_); rintro e v1 ⟨rfl, hb1⟩; have M1 := HM.out.call hb1; have s1 := M1.ros.cell; have s2 := M1.res.cell; have t2 := M1.res.free; have s3 := M1.has.cell; have t3 := M1.has.free; have l1 := M1.ros.lt; clear M1)))
        have M2 := HM.out.call hb1
        exact ⟨(qbi hb1).trans (KeepsOthers.setCell _ _ _), rfl, HG.out, M2.res.put 0 _, M2.below.setCell (by simp) _⟩
  · have hok' : ¬ ((0 <= r.gen k /\ r.gen k <= 60000) /\ (r.peer k = -1 \/ ((0 <= r.peer k /\ r.peer k < 12) /\ 0 < r.gen k))) := hok
    rw [decide_eq_false hok'] at cs
    have HG : Hid (¬ Ros.Good r (pre ++ [⟨k, hk⟩])) := qh fun h => hok (Ros.qeS.1 h).2.1
    generalize r.gen k = g at rg cs
    generalize r.peer k = p at rp cs
    clear hok hok'
    gi_wp2_with (first | (gi_at_call 138; ((with_reducible refine (CallsIn.inRound l (callsIn_wide.2 (cs _).out)).mono ?_); rintro e v1 ⟨rfl, hb1⟩; have M1 := HM.out.call hb1; have s1 := M1.ros.cell; have s2 := M1.res.cell; have t2 := M1.res.free; have s3 := M1.has.cell; have t3 := M1.has.free; have l1 := M1.ros.lt; clear M1)) | (refine ⟨trivial, ?_⟩; gi_at_call 138; ((with_reducible refine (CallsIn.inRound l (callsIn_wide.2 (cs _).out)).mono ?_); rintro e v1 ⟨rfl, hb1⟩; have M1 := HM.out.call hb1; have s1 := M1.ros.cell; have s2 := M1.res.cell; have t2 := M1.res.free; have s3 := M1.has.cell; have t3 := M1.has.free; have l1 := M1.ros.lt; clear M1)))
    have M2 := HM.out.call hb1
    exact ⟨(qbi hb1).trans (KeepsOthers.setCell _ _ _), rfl, HG.out, M2.res.put 0 _, M2.below.setCell (by simp) _⟩
 case done =>
  rintro D xs W hD rfl hM hK
  have hres := hM.res.put 0 (.bool true)
  have hK3 := qes (KeepsOthers.setCell W ⟨w.heap.size + 1, 0, none⟩ (.bool true)) hK
  have hDw : w.heap.size <= D := Nat.le_trans MM0.out.below.size hD
  have hT := hres.turned (grownBy_putObj' _ D (.deferred none)) (fun r e => by cases e; exact ⟨_, hK3, rfl⟩)
  have hT2 := qh (Below.turned (hM.below.setCell (p := ⟨w.heap.size + 1, 0, none⟩) (by simp) (.bool true)) (Nat.le_refl _) (grownBy_putObj' _ D (.deferred none)) (fun r e => by cases e; exact hDw))
  have hyes : Hid (Ros.may r = true) := qh (decide_eq_true ⟨HV.out, hM.good⟩)
  have HK3 := qh hK3
  have hc5 : ((W.setCell ⟨w.heap.size + 1, 0, none⟩ (.bool true)).putObj D (.deferred none)).cell? ⟨w.heap.size + 1, 0, none⟩ = some (.bool true) := hT.cell 0
  have u4 := hM.res.cell
  have v4 := hM.res.free
  clear hM hres hK3 hT hK
  go_wp2
  refine ⟨by simp, .inl ⟨_, _, rfl, run_takeDeferred HK3.out, ?_⟩⟩
  refine ⟨.bool true, ?_, by rw [hyes.out], hT2.out⟩
  simp [results, Tryz.f111, go_sem, hc5]
 case stop =>
  rintro D c' pre W hD ⟨rest, hpre⟩ ⟨rfl, h2, h3, h4⟩ hK
  have hno : Hid (Ros.may r = false) := qh (decide_eq_false fun h => h2 (Ros.qmI (m := rest) (by rw [<- hpre]; exact h.2)))
  have hDw : w.heap.size <= D := Nat.le_trans MM0.out.below.size hD
  have hT := h3.turned (grownBy_putObj' _ D (.deferred none)) (fun r e => by cases e; exact ⟨_, hK, rfl⟩)
  have hT2 := qh (Below.turned h4 (Nat.le_refl _) (grownBy_putObj' _ D (.deferred none)) (fun r e => by cases e; exact hDw))
  have hc5 : (W.putObj D (.deferred none)).cell? ⟨w.heap.size + 1, 0, none⟩ = some (.bool false) := hT.cell 0
  have HK3 := qh hK
  clear h2 h3 h4 hK hpre hT
  refine wpIn_ret ?_
  refine ⟨by simp, .inl ⟨_, _, rfl, run_takeDeferred HK3.out, ?_⟩⟩
  refine ⟨.bool false, ?_, by rw [hno.out], hT2.out⟩
  simp [results, Tryz.f111, go_sem, hc5]
end Go.Proofs.YtbdlpbnfcnhajaaGreat
namespace Go.Proofs.YtbdlpbnfcnhajaaGreat
open Go.RowKit Go.Shelf
section
variable {P : Program} {ops : Array Oper} {rest : List Oper} {o : Oper} {a : Act} {w : World} {Q : Exit -> Act -> World -> Prop} {dst : Option Tmp} {p v : Value} {t : TypeId} {d : TypeDesc} {x y : Operand}
def qah (P : Program) (ops : Array Oper) (Q : Exit -> Act -> World -> Prop) (rest : List Oper) (dst : Option Tmp) (p : Value) (t : TypeId) (a : Act) (w : World) : Prop :=
 ∃ (B : Nat) (cs : Array Value), p = .pointer (some ⟨B, 0, none⟩) /\ Box w B t cs /\ (P.info? t).map (·.size) = some cs.size /\ wpList P ops Q rest (a.put dst (.agg cs)) w
theorem qah.mk {B : Nat} {cs : Array Value} (hp : p = .pointer (some ⟨B, 0, none⟩)) (hB : Box w B t cs) (hi : (P.info? t).map (·.size) = some cs.size) (h : wpList P ops Q rest (a.put dst (.agg cs)) w) : qah P ops Q rest dst p t a w := ⟨B, cs, hp, hB, hi, h⟩
theorem qdt (hgd : o.guard = none) (ho : o.op = .load t x) (hu : P.underlying t = some d) (hd : d.isRow = true) (h : qah P ops Q rest o.dst (a.eval x) t a w) : wpList P ops Q (o :: rest) a w := by
 obtain ⟨B, cs, hx, hB, hi, h⟩ := h
 exact qcK hgd ho hx hB hu hd hi h
theorem ql6 (hw : Region.wanted o (yielded ops a.tmps) = true) (ho : o.op = .load t x) (hu : P.underlying t = some d) (hd : d.isRow = true) (h : qah P ops Q rest o.dst (a.eval x) t a w) : wpList P ops Q (o :: rest) a w := by
 obtain ⟨B, ⟨l⟩, hx, hB, hi, h⟩ := h
 exact qap hw ho (f := 0) hx hB l (fun j v hv => by rw [Nat.zero_add]; simpa using hv) hu hd (by simpa using hi) h
def qaz (P : Program) (ops : Array Oper) (Q : Exit -> Act -> World -> Prop) (rest : List Oper) (dst : Option Tmp) (p v : Value) (t : TypeId) (a : Act) (w : World) : Prop :=
 ∃ (B : Nat) (cs old : Array Value), p = .pointer (some ⟨B, 0, none⟩) /\ v = .agg cs /\ Box w B t old /\ (P.info? t).map (·.size) = some cs.size /\ old.size = cs.size /\ cs.all (·.oneCell') = true /\ wpList P ops Q rest (a.put dst undef) (w.setRow B cs)
theorem qaz.mk {B : Nat} {cs old : Array Value} (hp : p = .pointer (some ⟨B, 0, none⟩)) (hv : v = .agg cs) (hB : Box w B t old) (hi : (P.info? t).map (·.size) = some cs.size) (hs : old.size = cs.size) (h1 : cs.all (·.oneCell') = true) (h : wpList P ops Q rest (a.put dst undef) (w.setRow B cs)) : qaz P ops Q rest dst p v t a w := ⟨B, cs, old, hp, hv, hB, hi, hs, h1, h⟩
theorem qnB (hgd : o.guard = none) (ho : o.op = .store t x y) (h : qaz P ops Q rest o.dst (a.eval x) (a.eval y) t a w) : wpList P ops Q (o :: rest) a w := by
 obtain ⟨B, cs, old, hx, hy, hB, hi, hs, h1, h⟩ := h
 exact qbF hgd ho hx hy hB hi hs h1 h
end
theorem qad : (Tryz.prog.info? 38).map (·.size) = some 17 := by kernel_rfl
theorem qaK (r : Ros.R) : (Ros.cells r).all (·.oneCell') = true := by
 refine Array.all_eq_true_iff_forall_mem.2 fun v hv => ?_
 obtain ⟨n, rfl⟩ := Ros.qhU r v (by simpa using hv)
 rfl
def qai : Ros.R := ⟨0, fun _ => 0, fun _ => 0⟩
theorem qoS : (Tryz.prog.info? 38).map (·.zero) = some (some (.agg (Ros.cells qai))) := by kernel_rfl
section
variable {ops : Array Oper} {rest : List Oper} {o : Oper} {a : Act} {w : World} {Q : Exit -> Act -> World -> Prop}
theorem qaq (hgd : o.guard = none) (ho : o.op = .alloc 38)
 (h : wpList Tryz.prog ops Q rest (a.put o.dst (.pointer (some ⟨w.heap.size, 0, none⟩))) (w.alloc (.cells (Ros.cells qai) 38))) : wpList Tryz.prog ops Q (o :: rest) a w :=
 qbU hgd ho qoS rfl h
theorem qaC {x y : Operand} {v : World} {old : Array Value} {r : Ros.R} (hgd : o.guard = none) (ho : o.op = .store 38 x y) (hx : a.eval x = .pointer (some ⟨v.heap.size, 0, none⟩)) (hy : a.eval y = .agg (Ros.cells r))
 (hold : old.size = 17) (h : wpList Tryz.prog ops Q rest (a.put o.dst undef) (v.alloc (.cells (Ros.cells r) 38))) : wpList Tryz.prog ops Q (o :: rest) a (v.alloc (.cells old 38)) :=
 qbE hgd ho hx hy rfl rfl qad hold (qaK _) h
end
theorem qak {ops : Array Oper} {rest : List Oper} {o : Oper} {a : Act} {w : World} {Q : Exit -> Act -> World -> Prop} {x : Operand} (hgd : o.guard = none) (ho : o.op = .load 38 x) (h : qah Tryz.prog ops Q rest o.dst (a.eval x) 38 a w) : wpList Tryz.prog ops Q (o :: rest) a w :=
 qdt hgd ho Tryz.underlying38 rfl h
theorem qbj {ops : Array Oper} {rest : List Oper} {o : Oper} {a : Act} {w : World} {Q : Exit -> Act -> World -> Prop} {x : Operand} (hw : Region.wanted o (yielded ops a.tmps) = true) (ho : o.op = .load 38 x) (h : qah Tryz.prog ops Q rest o.dst (a.eval x) 38 a w) : wpList Tryz.prog ops Q (o :: rest) a w :=
 ql6 hw ho Tryz.underlying38 rfl h
theorem qav {ops : Array Oper} {rest : List Oper} {o : Oper} {a : Act} {w : World} {Q : Exit -> Act -> World -> Prop} {x y : Operand} (hgd : o.guard = none) (ho : o.op = .store 38 x y) (h : qaz Tryz.prog ops Q rest o.dst (a.eval x) (a.eval y) 38 a w) : wpList Tryz.prog ops Q (o :: rest) a w :=
 qnB hgd ho h
structure Sit (B Bg : Nat) (w0 : World) (r : Ros.R) (W : World) : Prop where
 ros : Box W B 38 (Ros.cells r)
 sit : Box W Bg 119 #[.pointer (some ⟨B, 0, none⟩)]
 below : Below w0.heap.size w0 W
section
variable {B Bg : Nat} {w0 W W' : World} {r : Ros.R}
theorem Sit.turned {row : Option Nat} (h : Sit B Bg w0 r W) (hg : W.grownBy W' row) (hr : ∀ r, row = some r -> w0.heap.size <= r /\ ∃ o : Obj, W.heap[r]? = some o /\ o.isCells = false) : Sit B Bg w0 r W' :=
 ⟨h.ros.turned hg fun r e => (hr r e).2, h.sit.turned hg fun r e => (hr r e).2, Below.turned h.below (Nat.le_refl _) hg fun r e => (hr r e).1⟩
theorem Sit.call (h : Sit B Bg w0 r W) (hb : Below W.heap.size W W') : Sit B Bg w0 r W' :=
 ⟨h.ros.below hb h.ros.lt, h.sit.below hb h.sit.lt, h.below.trans (hb.mono h.below.size)⟩
theorem Sit.drew (h : Sit B Bg w0 r W) : Sit B Bg w0 r W.drew := ⟨h.ros.drew, h.sit.drew, Below.drew h.below⟩
theorem Sit.far {p : Addr} {v : Value} {t : TypeId} {cs : Array Value} (h : Sit B Bg w0 r W) (hp : Box W p.block t cs) (h1 : 38 ≠ t) (h2 : 119 ≠ t) (hl : w0.heap.size <= p.block) : Sit B Bg w0 r (W.setCell p v) :=
 ⟨h.ros.far (fun e => Box.apart h.ros hp h1 e) _, h.sit.far (fun e => Box.apart h.sit hp h2 e) _, h.below.setCell hl _⟩
end
open Go.RowKit
theorem qpN (a b c d : Int) (w : World) : (Op.equalIn 9998 35 (.agg #[.int .i64 a, .int .i64 b]) (.agg #[.int .i64 c, .int .i64 d])).run Tryz.prog w = .ok (a == c && b == d) w := by
 by_cases h1 : a = c
 · by_cases h2 : b = d
   · subst h1 h2; go_simp <;> simp
   · have h3 : (b == d) = false := by simpa using h2
     subst h1; go_simp <;> simp [h3, h2]
 · have h3 : (a == c) = false := by simpa using h1
   go_simp <;> simp [h3, h1]
theorem qdj : (Tryz.prog.info? 35).map (·.size) = some 2 := by kernel_rfl
theorem qef (r : Ros.R) (i : Nat) (hi : i < 8) : ((Ros.qbl r).drop (i * 2)).take 2 = Ros.pair r i := by
 match i, hi with
 | 0, _ | 1, _ | 2, _ | 3, _ | 4, _ | 5, _ | 6, _ | 7, _ => rfl
theorem qgp (r : Ros.R) (i : Nat) (hi : i < 8) (w : World) : (part 35 (Ros.qbl r).toArray (i * 2)).run Tryz.prog w = .ok (.agg (Ros.pair r i).toArray) w := by
 have h := qef r i hi
 cases hq : Tryz.prog.info? 35 with
 | none => have := qdj; simp [hq] at this
 | some j =>
  have hs : j.size = 2 := by have := qdj; simpa [hq] using this
  simp [part, isAgg, sizeOf, typeInfo, hq, hs, run_underlying (Tryz.underlying35) w, h]
def Im.Ok (g : Gm.G) (r : Ros.R) : Prop := Gm.ok g /\ Ros.Ok r /\ ∀ k, k < 8 -> (g.ship k).on = decide (0 <= r.peer k)
theorem qaw : (Tryz.prog.info? 40).map (·.size) = some 76 := by kernel_rfl
theorem ql1 : (Tryz.prog.info? 36).map (·.size) = some 16 := by kernel_rfl
section
variable {ops : Array Oper} {rest : List Oper} {o : Oper} {a : Act} {w : World} {Q : Exit -> Act -> World -> Prop} {x : Operand} {dst : Option Tmp} {p : Value}
def qay (ops : Array Oper) (Q : Exit -> Act -> World -> Prop) (rest : List Oper) (dst : Option Tmp) (p : Value) (off : Nat) (pick : Gm.G -> Value -> Ros.R -> Array Value) (a : Act) (w : World) : Prop :=
 ∃ (B : Nat) (g : Gm.G) (s : Value) (r : Ros.R), p = .pointer (some ⟨B, off, none⟩) /\ Box w B 40 (Im.cells g s r) /\ wpList Tryz.prog ops Q rest (a.put dst (.agg (pick g s r))) w
theorem qay.mk {off : Nat} {pick : Gm.G -> Value -> Ros.R -> Array Value} {B : Nat} {g : Gm.G} {s : Value} {r : Ros.R} (hp : p = .pointer (some ⟨B, off, none⟩)) (hB : Box w B 40 (Im.cells g s r)) (h : wpList Tryz.prog ops Q rest (a.put dst (.agg (pick g s r))) w) : qay ops Q rest dst p off pick a w := ⟨B, g, s, r, hp, hB, h⟩
theorem qaY (hgd : o.guard = none) (ho : o.op = .load 33 x) (h : qay ops Q rest o.dst (a.eval x) 0 (fun g s _ => Gm.cells g s) a w) : wpList Tryz.prog ops Q (o :: rest) a w := by
 obtain ⟨B, g, s, r, hx, hB, h⟩ := h
 refine qbG hgd ho hx hB (Gm.cells g s).toList (fun j v hv => ?_) Tryz.underlying33 rfl qbb h
 have hj : j < 59 := (List.getElem?_eq_some_iff.1 hv).1
 rw [Nat.zero_add, Im.qdb _ _ _ j hj]
 simpa using hv
theorem qbt (hw : Region.wanted o (yielded ops a.tmps) = true) (ho : o.op = .load 38 x) (h : qay ops Q rest o.dst (a.eval x) 59 (fun _ _ r => Ros.cells r) a w) : wpList Tryz.prog ops Q (o :: rest) a w := by
 obtain ⟨B, g, s, r, hx, hB, h⟩ := h
 refine qap hw ho hx hB (Ros.cells r).toList (fun j v hv => ?_) Tryz.underlying38 rfl qad h
 rw [Im.qez]
 simpa using hv
theorem qdz (hgd : o.guard = none) (ho : o.op = .load 36 x) (h : qay ops Q rest o.dst (a.eval x) 60 (fun _ _ r => (Ros.qbl r).toArray) a w) : wpList Tryz.prog ops Q (o :: rest) a w := by
 obtain ⟨B, g, s, r, hx, hB, h⟩ := h
 refine qbG hgd ho hx hB (Ros.qbl r) (fun j v hv => ?_) Tryz.underlying36 rfl ql1 h
 rw [show 60 + j = 59 + (1 + j) by omega, Im.qez]
 rw [<- hv]
 simp [Ros.cells, Nat.add_comm]
end
theorem ql3 (r : Ros.R) (k : Nat) (hk : k < 8) (W : World) : (Instr.index 36 (.agg (Ros.qbl r).toArray) (.int .i64 (k : Int))).run Tryz.prog W = .ok (.agg #[.int .i64 (r.peer k), .int .i64 (r.gen k)]) W := by
 have h := qgp r k hk W
 rw [show (Ros.pair r k).toArray = #[.int .i64 (r.peer k), .int .i64 (r.gen k)] from rfl] at h
 have hk8 : (k : Int) < 8 := by omega
 have hc : Tryz.prog.cellsOf 35 = 2 := by kernel_rfl
 cases hq : Tryz.prog.info? 35 with
 | none => have := qdj; simp [hq] at this
 | some i =>
  have hi : i.size = 2 := by have := qdj; simpa [hq] using this
  simp [Instr.index, run_underlying (Tryz.underlying36) W, h, hk8, sizeOf, typeInfo, hq, hi, go_sem]
  rw [if_pos hk, qef r k hk]
  rfl
theorem qjI (g : Gm.G) (r : Ros.R) (A : Option Addr) (n c : Nat) (w : World) (hty : Gm.ty g) (hn : n = g.qaa.length) (hn63 : n <= maxLen) (hr : Lies w w.heap.size 6 A n (Gm.qab g.qaa)) :
 Calls Tryz.prog 89 #[.agg (Im.cells g (.slice A n c) r)] w fun e w' => (∃ v, e = .returned (.bool v) /\ (v = true ↔ Im.Ok g r)) /\ Below w.heap.size w w' := by
 have P0 := qh (Box.made w 40 (Im.cells g (.slice A n c) r))
 have K0 := qh (qac w (.cells (Im.cells g (.slice A n c) r) 40))
 have hr0 := (hr.below K0.out).wider K0.out.size
 by_cases hg : Gm.ok g
 · have cg := fun X hX => qh (qgJ g A n c X hg hn hX)
   have cr := fun X => qh (qfc r X)
   by_cases hok : Ros.Ok r
   · rw [show Ros.may r = true from decide_eq_true hok] at cr
     have HG := qh hg
     have HR := qh hok
     have hq := qh hr0
     clear hr hr0 hn hty hg hok
     go_enter Tryz.func89, Tryz.ntmps89
     go_wp2_with (first | ((with_reducible refine qaY rfl rfl ?_); apply qay.mk rfl; (focus (with_reducible exact P0.out)); dsimp only) | ((with_reducible refine qbt ?_ rfl ?_); (focus first | rfl | kernel_rfl | simp [Region.wanted, yielded]); apply qay.mk rfl; (focus (with_reducible exact P1.out)); dsimp only) | ((with_reducible refine qdz rfl rfl ?_); apply qay.mk rfl; (focus (with_reducible exact P2.out)); dsimp only) | (go_at_call 100; ((with_reducible refine ((cg _ hq.out).out).mono ?_); rintro e w1 ⟨rfl, hb⟩; have P1 := qh (P0.out.below hb P0.out.lt); have K1 := qh (K0.out.trans (hb.mono K0.out.size)); clear hb)) | (go_at_call 111; ((with_reducible refine ((cr _).out).mono ?_); rintro e w2 ⟨rfl, hb⟩; have P2 := qh (P1.out.below hb P1.out.lt); have K2 := qh (K1.out.trans (hb.mono K1.out.size)); clear hb)))
     go_loopw [18] (fun i wr => ∃ k : Nat, k <= 8 /\ i = .int .i64 k /\ Box wr w.heap.size 40 (Im.cells g (.slice A n c) r) /\ Below w.heap.size w wr /\ ∀ j, j < k -> (g.ship j).on = decide (0 <= r.peer j)) (fun i _ => 8 - (intOf i).toNat)
     case atStart => exact ⟨0, by omega, rfl, P2.out, K2.out, fun j hj => absurd hj (Nat.not_lt_zero j)⟩
     case round =>
      obtain ⟨k, hk, rfl, hB, hb, hall⟩ := hrel
      clear P0 K0 P1 K1 P2 K2 hq
      by_cases hlt : k < 8
      · have hk8 : (k : Int) < 8 := by omega
        have hpart := ql3 r k hlt
        have e0 := (hB.cell (2 + k * 7)).trans (Im.qae g _ r k 0 hlt (by omega))
        simp only [Gm.Ship.cells, List.getElem?_cons_zero] at e0
        have hcell : ∀ o, (wr.alloc o).cell? ⟨w.heap.size, 2 + k * 7, none⟩ = some (.bool (g.ship k).on) := fun o => ((hB.alloc o).cell _).trans ((Im.qae g _ r k 0 hlt (by omega)).trans rfl)
        obtain ⟨on, hon⟩ : ∃ on, on = (g.ship k).on := ⟨_, rfl⟩
        obtain ⟨pk, hpk⟩ : ∃ pk, pk = r.peer k := ⟨_, rfl⟩
        obtain ⟨gk, hgk⟩ : ∃ gk, gk = r.gen k := ⟨_, rfl⟩
        rw [<- hon] at e0 hcell
        rw [<- hpk, <- hgk] at hpart
        have HON := qh hon
        have HPK := qh hpk
        have HALL := qh hall
        have HB := qh hB
        have HBB := qh hb
        clear hon hpk hgk hall hB hb
        by_cases hm : on = decide (0 <= pk)
        · have hnew := qh (show ∀ j, j < k + 1 -> (g.ship j).on = decide (0 <= r.peer j) from fun j hj => by
           by_cases e : j = k
           · rw [e, <- HON.out, <- HPK.out]; exact hm
           · exact HALL.out j (by omega))
          cases hd : decide (0 <= pk)
          · rw [hd] at hm
            subst hm
            go_upto_region 6 with fail
            go_quiet (fail)
            go_wp2
            go_roundw
            case rel => exact ⟨k + 1, by omega, by go_num, (HB.out.alloc _).draws _, qaj (HBB.out.alloc HBB.out.size _) _, hnew.out⟩
            case measure => simp [intOf]; omega
          · rw [hd] at hm
            subst hm
            go_upto_region 6 with fail
            go_quiet (fail)
            go_wp2
            go_roundw
            case rel => exact ⟨k + 1, by omega, by go_num, (HB.out.alloc _).draws _, qaj (HBB.out.alloc HBB.out.size _) _, hnew.out⟩
            case measure => simp [intOf]; omega
        · have hno := qh (show ¬ Im.Ok g r from fun h => hm (by rw [HON.out, HPK.out]; exact h.2.2 k hlt))
          cases hd : decide (0 <= pk)
          · obtain rfl : on = true := by
             cases on
             · exact absurd hd.symm hm
             · rfl
            clear hm
            go_upto_region 6 with fail
            go_quiet (fail)
            go_wp2
            go_ret
            exact ⟨by first | exact ⟨false, rfl, by simp; exact hno.out⟩ | exact .inl ⟨rfl, hno.out⟩, qaj (HBB.out.alloc HBB.out.size _) _⟩
          · obtain rfl : on = false := by
             cases on
             · rfl
             · exact absurd hd.symm hm
            clear hm
            go_upto_region 6 with fail
            go_quiet (fail)
            go_wp2
            go_ret
            exact ⟨by first | exact ⟨false, rfl, by simp; exact hno.out⟩ | exact .inl ⟨rfl, hno.out⟩, qaj (HBB.out.alloc HBB.out.size _) _⟩
      · have hk8 : ¬ (k : Int) < 8 := by omega
        have hyes := qh (show Im.Ok g r from ⟨HG.out, HR.out, fun j hj => hall j (by omega)⟩)
        have HBB := qh hb
        clear hall hB hb
        go_wp2
        go_ret
        exact ⟨by first | exact ⟨true, rfl, by simp; exact hyes.out⟩ | exact .inr ⟨rfl, hyes.out⟩, HBB.out⟩
   · rw [show Ros.may r = false from decide_eq_false hok] at cr
     have hno := qh (show ¬ Im.Ok g r from fun h => hok h.2.1)
     have hq := qh hr0
     clear hr hr0 hn hty hg hok
     go_enter Tryz.func89, Tryz.ntmps89
     go_wp2_with (first | ((with_reducible refine qaY rfl rfl ?_); apply qay.mk rfl; (focus (with_reducible exact P0.out)); dsimp only) | ((with_reducible refine qbt ?_ rfl ?_); (focus first | rfl | kernel_rfl | simp [Region.wanted, yielded]); apply qay.mk rfl; (focus (with_reducible exact P1.out)); dsimp only) | ((with_reducible refine qdz rfl rfl ?_); apply qay.mk rfl; (focus (with_reducible exact P2.out)); dsimp only) | (go_at_call 100; ((with_reducible refine ((cg _ hq.out).out).mono ?_); rintro e w1 ⟨rfl, hb⟩; have P1 := qh (P0.out.below hb P0.out.lt); have K1 := qh (K0.out.trans (hb.mono K0.out.size)); clear hb)) | (go_at_call 111; ((with_reducible refine ((cr _).out).mono ?_); rintro e w2 ⟨rfl, hb⟩; have P2 := qh (P1.out.below hb P1.out.lt); have K2 := qh (K1.out.trans (hb.mono K1.out.size)); clear hb)))
     go_ret
     exact ⟨by first | exact ⟨false, rfl, by simp; exact hno.out⟩ | exact .inl ⟨rfl, hno.out⟩, K2.out⟩
 · have cg := fun X hX => qh (qpZ g A n c X hg hty hn hn63 hX)
   have hno := qh (show ¬ Im.Ok g r from fun h => hg h.1)
   have hq := qh hr0
   clear hr hr0 hn hty hg
   go_enter Tryz.func89, Tryz.ntmps89
   go_wp2_with (first | ((with_reducible refine qaY rfl rfl ?_); apply qay.mk rfl; (focus (with_reducible exact P0.out)); dsimp only) | ((with_reducible refine qbt ?_ rfl ?_); (focus first | rfl | kernel_rfl | simp [Region.wanted, yielded]); apply qay.mk rfl; (focus (with_reducible exact P1.out)); dsimp only) | ((with_reducible refine qdz rfl rfl ?_); apply qay.mk rfl; (focus (with_reducible exact P2.out)); dsimp only) | (go_at_call 100; ((with_reducible refine ((cg _ hq.out).out).mono ?_); rintro e w1 ⟨rfl, hb⟩; have P1 := qh (P0.out.below hb P0.out.lt); have K1 := qh (K0.out.trans (hb.mono K0.out.size)); clear hb)) | (go_at_call 111; ((with_reducible refine ((cr _).out).mono ?_); rintro e w2 ⟨rfl, hb⟩; have P2 := qh (P1.out.below hb P1.out.lt); have K2 := qh (K1.out.trans (hb.mono K1.out.size)); clear hb)))
   go_ret
   exact ⟨by first | exact ⟨false, rfl, by simp; exact hno.out⟩ | exact .inl ⟨rfl, hno.out⟩, K1.out⟩
theorem qbQ {w : World} {base base' : Nat} {e : TypeId} {size n : Nat} {v : Value} {xs : List Value} (h : w.ownsRow base e size v n xs) (hb : base' <= base) : w.ownsRow base' e size v n xs := by
 obtain ⟨hl, h' | ⟨g, cap, cur, hv, hbg, hr⟩⟩ := h
 · exact ⟨hl, .inl h'⟩
 · exact ⟨hl, .inr ⟨g, cap, cur, hv, Nat.le_trans hb hbg, hr⟩⟩
theorem qjT (l : List Gm.Shot) (A : Option Addr) (n c : Nat) (w : World) (hn : n = l.length) (hn32 : n <= 60) (hr : Lies w w.heap.size 6 A n (Gm.qab l)) :
 Calls Tryz.prog 69 #[.slice A n c] w fun e w' => ∃ A' c', e = .returned (.slice A' n c') /\ w'.ownsRow w.heap.size 72 6 (.slice A' n c') n (Gm.qab l) /\ Below w.heap.size w w' := by
 have hmf : ∀ (fn : Fn) (first cap : Array Value) (w : World), (Instr.makeFunc fn first cap).run Tryz.prog w = .ok (.func fn first cap) w := fun _ _ _ _ => rfl
 obtain ⟨i0, hi0, hz0, hz1, hz2⟩ := info_parts qdi
 have hI := qh hi0
 have hZ := qh hz0
 have hS := qh hz1
 have hY := qh hz2
 have hL := qh hr
 have hN := qh hn
 clear hn hi0 hz0 hz1 hz2 hr
 cases A with
 | none =>
  have hn0 : n = 0 := by
   by_cases h : n = 0
   · exact h
   · obtain ⟨ad, he, _⟩ := hL.out.start h; cases he
  subst hn0
  have hnil : ∀ W : World, (binOp .eql 31 (.slice none 0 c) (.slice none 0 0)).run Tryz.prog W = .ok (.bool true) W := fun W => Lib.run_eql_slice_nil W _ _ none 0 c 0 0 Tryz.underlying31
  go_enter Tryz.func69, Tryz.ntmps69
  go_wp2
  go_ret
  refine ⟨none, 0, rfl, ?_, Below.refl _ _⟩
  have hl : l = [] := List.eq_nil_of_length_eq_zero hN.out.symm
  subst hl
  exact World.ownsRow_nil _ _ _ _
 | some ad =>
  have hnil : ∀ W : World, (binOp .eql 31 (.slice (some ad) n c) (.slice none 0 0)).run Tryz.prog W = .ok (.bool false) W := fun W => Lib.run_eql_slice_nil W _ _ (some ad) n c 0 0 Tryz.underlying31
  have own0 := qh (World.ownsRow_lit (base := w.heap.size) (e := 72) (size := 6) w #[] 0 (Nat.le_refl _) (by unfold maxLen; omega) rfl)
  have hb0 := qh (qac w (.cells #[] 72))
  have hL1 := qh ((hL.out.below hb0.out).wider hb0.out.size)
  go_enter Tryz.func69, Tryz.ntmps69
  go_wp2_with ((with_reducible refine qcn (x := .tmp 5) (y := .tmp 6) (t := 31) (e := 72) (size := 6) (bytes := 32) rfl rfl Tryz.underlying31 hI.out hZ.out hS.out hY.out rfl (by decide) ?_); refine qdJ.mk (base := w.heap.size) (n := 0) (xs := []) rfl own0.out hL1.out (qbA _) (by unfold maxLen; omega) (by omega) (by simp) ?_; intro A2 k2 w2 own2 hg2; have OW := qh own2; have HG := qh hg2; clear own2 hg2)
  go_ret
  refine ⟨A2, k2, by simp, ?_, ?_⟩
  · have h := OW.out
    simpa using h
  · exact (hb0.out).grown HG.out (by simp) (fun k hk => by injection hk with hk; have : w.heap.size = k := hk; omega)
theorem qir (g : Gm.G) (A : Option Addr) (n c : Nat) (w : World) (hn : n = g.qaa.length) (hn32 : n <= 60) (hr : Lies w w.heap.size 6 A n (Gm.qab g.qaa)) :
 Calls Tryz.prog 99 #[.agg (Gm.cells g (.slice A n c))] w fun e w' => ∃ A' c', e = .returned (.agg (Gm.cells g (.slice A' n c'))) /\ w'.ownsRow w.heap.size 72 6 (.slice A' n c') n (Gm.qab g.qaa) /\ Below w.heap.size w w' := by
 have b1 : Box ((w.alloc (.cells (Gm.cells g (.slice A n c)) 33)).alloc (.cells (Gm.cells qbn (.slice none 0 0)) 33)) w.heap.size 33 (Gm.cells g (.slice A n c)) := (Box.made _ _ _).alloc _
 have b2 : Box ((w.alloc (.cells (Gm.cells g (.slice A n c)) 33)).alloc (.cells (Gm.cells qbn (.slice none 0 0)) 33)) (w.heap.size + 1) 33 (Gm.cells qbn (.slice none 0 0)) := Box.qan _ _ _ (by simp)
 have hb0 := qal w (.cells (Gm.cells g (.slice A n c)) 33) (.cells (Gm.cells qbn (.slice none 0 0)) 33)
 have c1 := qh (qjT g.qaa A n c _ hn hn32 ((hr.below hb0).wider hb0.size))
 have e58 := Gm.qaZ g (.slice A n c)
 have hc := b1.cell
 have HB := qh hb0
 have B1 := qh b1
 have B2 := qh b2
 clear hr hn b1 b2 hb0
 go_enter Tryz.func99, Tryz.ntmps99
 go_wp2_with (first | (refine qaF rfl rfl ?_) | (go_at_call 69; ((with_reducible refine ((c1).out).mono ?_); rintro e w1 ⟨A', c', rfl, ho, hb⟩; have D1 := B1.out.below hb (by simp <;> omega); have D2 := B2.out.below hb (by simp <;> omega); have k1 := D1.cell; have f1 := D1.free; have O1 := qh ho; have HB1 := qh (HB.out.trans (hb.mono HB.out.size)); have F1 := qh (qcd D1 (.slice A' n c')); have ne1 : w.heap.size + 1 ≠ w.heap.size := (by omega); have F2 := qh (D2.far (p := ⟨w.heap.size, 58, none⟩) ne1 (.slice A' n c')); have nO := qh (D1.qaO ho (by decide)); have nO2 := qh (D2.qaO ho (by decide)); clear D1 D2 ho hb ne1)) | ((with_reducible refine qaG rfl rfl ?_); apply qaL.mk rfl; exact F1.out) | ((with_reducible refine qbe rfl rfl ?_); apply qbc.mk rfl rfl rfl; exact F2.out))
 refine bodyPost_ret (v := .agg (Gm.cells g (.slice A' n c'))) ?_ ?_ ?_
 · exact results_cell_row rfl _ _ _ _ (Gm.cells g (.slice A' n c')) (0, 0) _ rfl (Box.row F2.out _).is Tryz.underlying33 rfl qbb
 · rfl
 · refine ⟨A', c', rfl, ?_, ?_⟩
   · have h := qbf (ownsRow_setCell_other (a := ⟨w.heap.size, 58, none⟩) O1.out nO.out (.slice A' n c')) nO2.out (Gm.cells g (.slice A' n c'))
     exact qbQ h (by simp; omega)
   · exact Below.setRow' (HB1.out.setCell (p := ⟨w.heap.size, 58, none⟩) (by simp) _) (by omega) _
structure Keep (b B : Nat) (w w' : World) : Prop where
 os : w'.os = w.os
 tape : w'.tape = w.tape
 output : w'.output = w.output
 size : w.heap.size <= w'.heap.size
 low : b <= B
 block : ∀ k, k < w.heap.size -> (k < b \/ k ≠ B /\ ∀ cs, w.heap[k]? ≠ some (.cells cs 72 (0, 0))) -> w'.heap[k]? = w.heap[k]?
section
variable {b B : Nat} {w w' w'' : World}
theorem Keep.refl (h : b <= B) (w : World) : Keep b B w w := ⟨rfl, rfl, rfl, Nat.le_refl _, h, fun _ _ _ => rfl⟩
theorem Keep.trans (h : Keep b B w w') (k : Keep b B w' w'') : Keep b B w w'' :=
 ⟨k.os.trans h.os, k.tape.trans h.tape, k.output.trans h.output, Nat.le_trans h.size k.size, h.low, fun i hi hc => by
  have e := h.block i hi hc
  rw [<- e]
  refine k.block i (Nat.lt_of_lt_of_le hi h.size) ?_
  rcases hc with hc | ⟨h1, h2⟩
  · exact .inl hc
  · exact .inr ⟨h1, fun cs => by rw [e]; exact h2 cs⟩⟩
theorem Keep.on {c : Nat} (h : Keep b B w w') (hb : Below c w' w'') (hc : w'.heap.size <= c) : Keep b B w w'' :=
 h.trans ⟨hb.os, hb.tape, hb.output, hb.size, h.low, fun i hi _ => hb.block i (by omega)⟩
theorem Keep.call (h : Keep b B w w') (hb : Below w'.heap.size w' w'') : Keep b B w w'' := h.on hb (Nat.le_refl _)
theorem Keep.alloc (h : Keep b B w w') (o : Obj) : Keep b B w (w'.alloc o) := h.call (qac w' o)
theorem Keep.drew (h : Keep b B w w') : Keep b B w w'.drew := ⟨h.os, h.tape, h.output, h.size, h.low, h.block⟩
theorem Keep.put (h : Keep b B w w') (i : Nat) (u : Value) : Keep b B w (w'.setCell ⟨B, i, none⟩ u) := by
 have hg := (Below.refl 0 w').setCell (p := ⟨B, i, none⟩) (Nat.zero_le _) u
 refine h.trans ⟨hg.os, hg.tape, hg.output, hg.size, h.low, fun k hk hc => ?_⟩
 refine heap_setCell_other w' ⟨B, i, none⟩ k u ?_
 have := h.low
 show k ≠ B
 rcases hc with hc | hc
 · omega
 · exact hc.1
theorem Keep.row {g : Nat} {cs0 : Array Value} (h : Keep b B w w') (hg : Box w' g 72 cs0) (hbg : b <= g) (cs : Array Value) : Keep b B w (w'.setRow g cs) := by
 have hz := Below.setRow' (g := g) (Below.refl 0 w') (Nat.zero_le _) cs
 refine h.trans ⟨hz.os, hz.tape, hz.output, hz.size, h.low, fun k hk hc => setRow_other w' g k cs ?_⟩
 rcases hc with hc | hc
 · omega
 · intro e; subst e; exact hc.2 _ hg.is
theorem Keep.shot {g i : Nat} {u : Value} {cs0 : Array Value} (h : Keep b B w w') (hg : Box w' g 72 cs0) (hbg : b <= g) : Keep b B w (w'.setCell ⟨g, i, none⟩ u) := by
 have hz := (Below.refl 0 w').setCell (p := ⟨g, i, none⟩) (Nat.zero_le _) u
 refine h.trans ⟨hz.os, hz.tape, hz.output, hz.size, h.low, fun k hk hc => heap_setCell_other w' ⟨g, i, none⟩ k u ?_⟩
 show k ≠ g
 rcases hc with hc | hc
 · omega
 · intro e; subst e; exact hc.2 _ hg.is
theorem Keep.grown {n : Nat} {v : Value} {xs : List Value} (h : Keep b B w w') (ho : w'.ownsRow b 72 6 v n xs) (hg : w'.grownBy w'' v.ownBlock) : Keep b B w w'' := by
 refine h.trans ⟨hg.os, hg.tape, hg.output, hg.size, h.low, fun k hk hc => hg.block k hk fun e => ?_⟩
 obtain ⟨_, ⟨rfl, _⟩ | ⟨g, cap, cur, rfl, hbg, hgg, _⟩⟩ := ho
 · cases e
 · have e' : k = g := by injection e
   subst e'
   rcases hc with hc | hc
   · omega
   · exact hc.2 _ hgg
theorem Keep.grown' {n : Nat} {v : Value} {xs : List Value} {o : Obj} (h : Keep b B w w') (ho : w'.ownsRow b 72 6 v n xs) (hg : (w'.alloc o).grownBy w'' v.ownBlock) : Keep b B w w'' :=
 (h.alloc o).grown (ho.alloc o) hg
theorem Keep.fresh (h : Keep b B w w') {p : Addr} (hp : w.heap.size <= p.block) (u : Value) : Keep b B w (w'.setCell p u) := by
 have hz := (Below.refl 0 w').setCell (p := p) (Nat.zero_le _) u
 exact ⟨hz.os.trans h.os, hz.tape.trans h.tape, hz.output.trans h.output, Nat.le_trans h.size hz.size, h.low, fun k hk hc => (heap_setCell_other w' p k u (by omega)).trans (h.block k hk hc)⟩
theorem Keep.qf3 (h : Keep b B w w') {g : Nat} (hp : w.heap.size <= g) (cs : Array Value) : Keep b B w (w'.setRow g cs) := by
 have hz := Below.setRow' (g := g) (Below.refl 0 w') (Nat.zero_le _) cs
 exact ⟨hz.os.trans h.os, hz.tape.trans h.tape, hz.output.trans h.output, Nat.le_trans h.size hz.size, h.low, fun k hk hc => (setRow_other w' g k cs (by omega)).trans (h.block k hk hc)⟩
theorem Keep.below (h : Keep b B w w') : Below b w w' \/ w.heap.size < b := by
 by_cases hs : w.heap.size < b
 · exact .inr hs
 · exact .inl ⟨h.os, h.tape, h.output, h.size, fun i hi => h.block i (by omega) (.inl hi)⟩
theorem Keep.to (h : Keep b B w w') (hs : b <= w.heap.size) : Below b w w' := ⟨h.os, h.tape, h.output, h.size, fun i hi => h.block i (by omega) (.inl hi)⟩
theorem Box.keep {g : Nat} {t : TypeId} {cs : Array Value} (h : Box w g t cs) (k : Keep b B w w') (hg : g ≠ B) (ht : t ≠ 72) : Box w' g t cs :=
 ⟨(k.block g h.lt (.inr ⟨hg, fun cs' e => by rw [h.is] at e; injection e with e; injection e with _ e _; exact ht e⟩)).trans h.is⟩
end
def Has (b B : Nat) (g : Gm.G) (w : World) : Prop :=
 ∃ A c, Box w B 33 (Gm.cells g (.slice A g.qaa.length c)) /\ w.ownsRow b 72 6 (.slice A g.qaa.length c) g.qaa.length (Gm.qab g.qaa)
theorem Has.lt {b B : Nat} {g : Gm.G} {w : World} (h : Has b B g w) : B < w.heap.size := by obtain ⟨A, c, h, _⟩ := h; exact h.lt
theorem Has.alloc {b B : Nat} {g : Gm.G} {w : World} (h : Has b B g w) (o : Obj) : Has b B g (w.alloc o) := by obtain ⟨A, c, h, h'⟩ := h; exact ⟨A, c, h.alloc o, h'.alloc o⟩
theorem Has.drew {b B : Nat} {g : Gm.G} {w : World} (h : Has b B g w) : Has b B g w.drew := by obtain ⟨A, c, h, h'⟩ := h; exact ⟨A, c, h.drew, h'.drew⟩
theorem Has.call {b B : Nat} {g : Gm.G} {w w' : World} (h : Has b B g w) (hb : Below w.heap.size w w') : Has b B g w' := by
 obtain ⟨A, c, h, h'⟩ := h; exact ⟨A, c, h.below hb h.lt, own_below h' hb (Nat.le_refl _)⟩
theorem Has.far {b B : Nat} {g : Gm.G} {w : World} {p : Addr} {t : TypeId} {cs : Array Value} (h : Has b B g w) (hp : Box w p.block t cs) (ht : t ≠ 72) (ht' : t ≠ 33) (u : Value) : Has b B g (w.setCell p u) := by
 obtain ⟨A, c, h, h'⟩ := h
 exact ⟨A, c, h.far (fun e => Box.apart h hp (fun e' => ht' e'.symm) e) u, ownsRow_setCell_other h' (hp.qaO h' (fun e => ht e.symm)) u⟩
theorem Has.off {b B : Nat} {g : Gm.G} {w : World} {p : Addr} {t : TypeId} {cs : Array Value} (h : Has b B g w) (hne : p.block ≠ B) (hp : Box w p.block t cs) (ht : t ≠ 72) (u : Value) : Has b B g (w.setCell p u) := by
 obtain ⟨A, c, h, h'⟩ := h
 exact ⟨A, c, h.far (fun e => hne e.symm) u, ownsRow_setCell_other h' (hp.qaO h' (fun e => ht e.symm)) u⟩
theorem Has.qjA {b B : Nat} {g : Gm.G} {w : World} {p : Nat} {t : TypeId} {cs : Array Value} (h : Has b B g w) (hne : p ≠ B) (hp : Box w p t cs) (ht : t ≠ 72) (cs' : Array Value) : Has b B g (w.setRow p cs') := by
 obtain ⟨A, c, h, h'⟩ := h
 exact ⟨A, c, h.qa4 (fun e => hne e.symm) cs', qbf h' (hp.qaO h' (fun e => ht e.symm)) cs'⟩
theorem Has.put {b B : Nat} {g g' : Gm.G} {w w' : World} (h : Has b B g w) (hs : g'.qaa = g.qaa) (hB : ∀ s, Box w B 33 (Gm.cells g s) -> Box w' B 33 (Gm.cells g' s)) (hk : ∀ k, k ≠ B -> w'.heap[k]? = w.heap[k]?) : Has b B g' w' := by
 obtain ⟨A, c, h, h'⟩ := h
 refine ⟨A, c, by rw [hs]; exact hB _ h, ?_⟩
 rw [hs]
 have hne := h.qaO h' (by decide)
 obtain ⟨hl, e | ⟨gg, cap, cur, hv, hbg, hgg, hr⟩⟩ := h'
 · exact ⟨hl, .inl e⟩
 · refine ⟨hl, .inr ⟨gg, cap, cur, hv, hbg, (hk gg (fun e => hne (by rw [hv, e]; rfl))).trans hgg, hr⟩⟩
theorem qem {w : World} {B k : Nat} (s : Gm.Ship) (j : Nat) (hj : j ≠ B) : (stored w B k s).heap[j]? = w.heap[j]? := by
 unfold stored
 rw [heap_setCell_other _ _ j _ hj, heap_setCell_other _ _ j _ hj, heap_setCell_other _ _ j _ hj, heap_setCell_other _ _ j _ hj, heap_setCell_other _ _ j _ hj, heap_setCell_other _ _ j _ hj, heap_setCell_other _ _ j _ hj]
theorem Keep.stored {b B k : Nat} {w w' : World} (h : Keep b B w w') (s : Gm.Ship) : Keep b B w (stored w' B k s) :=
 ((((((h.put _ _).put _ _).put _ _).put _ _).put _ _).put _ _).put _ _
theorem Has.stored {b B k : Nat} {g : Gm.G} {w : World} (h : Has b B g w) (hk : k < 8) (s : Gm.Ship) : Has b B { g with ship := Gm.upd g.ship k s } (stored w B k s) :=
 h.put rfl (fun _ hB => qdF hB hk s) (fun j hj => qem s j hj)
def Out (g' : Gm.G) (code : Int) (w : World) (e : Ending) (w' : World) : Prop :=
 ∃ A c, e = .returned (.tuple #[.agg (Gm.cells g' (.slice A g'.qaa.length c)), .int .i64 code]) /\ Lies w' w'.heap.size 6 A g'.qaa.length (Gm.qab g'.qaa) /\ Below w.heap.size w w'
end Go.Proofs.YtbdlpbnfcnhajaaGreat