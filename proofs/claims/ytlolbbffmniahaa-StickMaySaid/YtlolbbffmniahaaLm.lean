import Derived.Test.YtlolbbffmniahaaLr
namespace Go.Proofs.Ytlolbbffmniahaa
open Go.RowKit

theorem may_of (x y : Int) (hx : -127 ≤ x) (hy : -127 ≤ y) : may x y = true := by unfold may; simp; omega

set_option maxRecDepth 100000 in
set_option maxHeartbeats 1000000 in
theorem may_walk (x y : Nat) (b ax ay : Int) (tx ty : Bool) (hx : x < 2 ^ 64) (hy : y < 2 ^ 64)
    (hax : St.axis x = ax) (hay : St.axis y = ay) (bx1 : -127 ≤ ax) (bx2 : ax ≤ 127) (by1 : -127 ≤ ay) (by2 : ay ≤ 127)
    (o1 : (FloatKind.f64.format.order x x == some .eq) = tx) (o2 : (FloatKind.f64.format.order y y == some .eq) = ty) (z1 : tx = false → ax = 0) (z2 : ty = false → ay = 0) (w : World) :
    Calls Try.prog 4 #[.float .f64 x, .float .f64 y, .int .u8 b] w fun e w' => e = .returned (.bool true) ∧ Below w.heap.size w w' := by
  have c1 := fun w => Lib.hid (axis_t x ax hx hax w)
  have c2 := fun w => Lib.hid (axis_t (Fl.flip x) (-ax) (Fl.flip_lt x hx) (by rw [St.axis_flip x hx, hax]) w)
  have c3 := fun w => Lib.hid (read_any x y b hx hy w)
  have c4 := fun w => Lib.hid (may_t ax ay b true (may_of ax ay bx1 by1) w)
  rw [hax, hay] at c3
  clear hax hay
  cases tx <;> cases ty <;> simp only [forall_const, reduceCtorEq, false_implies] at z1 z2
  all_goals
    try subst z1
    try subst z2
    go_enter Try.func4, Try.ntmps4
    go_wp2_with fail
    refine ((c3 _).out).mono ?_
    rintro e w1 ⟨rfl, hb1⟩
    go_wp2_with fail
    refine (told_any _).mono ?_
    rintro e w2 ⟨rfl, hb2⟩
    obtain ⟨hc, hf⟩ := bcell hb2
    have hz1 := hb1.size
    have hz2 := hb2.size
    simp only [World.size_alloc] at hz2
    go_wp2_with fail
    refine ((c4 _).out).mono ?_
    rintro e w3 ⟨rfl, hb3⟩
    obtain ⟨hc3, hf3⟩ := bcell hb3
    have hlt : w1.heap.size < w2.heap.size := by omega
    go_wp2_with (go_at_call 12; first | ((with_reducible refine ((c2 _).out).mono ?_); rintro e w' ⟨rfl, rfl⟩) | ((with_reducible refine ((c1 _).out).mono ?_); rintro e w' ⟨rfl, rfl⟩))
    go_ret
    exact ⟨ret_bool (by simp), ((hb1.alloc hb1.size _).trans (hb2.mono (by simp; omega))).trans (hb3.mono (by omega))⟩

theorem may_law (x y : Nat) (b : Int) (hx : x < 2 ^ 64) (hy : y < 2 ^ 64) (w : World) :
    Calls Try.prog 4 #[.float .f64 x, .float .f64 y, .int .u8 b] w fun e w' => e = .returned (.bool true) ∧ Below w.heap.size w w' :=
  may_walk x y b _ _ _ _ hx hy rfl rfl (St.axis_bound x).1 (St.axis_bound x).2 (St.axis_bound y).1 (St.axis_bound y).2 (eq_self x) (eq_self y)
    (fun h => axis_of_nan (by simpa using h)) (fun h => axis_of_nan (by simpa using h)) w
end Go.Proofs.Ytlolbbffmniahaa
