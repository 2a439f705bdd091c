import Derived.Test.YtlolbbffmniahaaLr
import Derived.Test.YtlolbbffmniahaaSg
import Derived.Deep.QuietTactic
import Derived.BigQuiet
namespace Go.Proofs.Ytlolbbffmniahaa
open Go.RowKit

theorem u64_mod (n m : Int) (hm : 0 < m) : 0 ≤ (IntKind.u64.wrap n).tmod m ∧ (IntKind.u64.wrap n).tmod m < m := by
  have h : 0 ≤ IntKind.u64.wrap n := by simp only [IntKind.wrap_u64]; omega
  rw [Int.tmod_eq_emod_of_nonneg h]
  exact ⟨Int.emod_nonneg _ (by omega), Int.emod_lt_of_pos _ hm⟩

set_option maxRecDepth 100000 in
set_option maxHeartbeats 1000000 in
theorem steps_walk (n p k q : Int) (f a b g : Nat) (x : Int) (hk0 : 0 ≤ k) (hk1 : k < 112) (_hq0 : 0 ≤ q) (_hq1 : q < 100)
    (ek : (IntKind.u64.wrap n).tmod 112 = k) (eq : (IntKind.u64.wrap p).tmod 100 = q)
    (e1 : Ieee.double.div (floatOfInt .f64 (16 + k)) 4638637247447433216 = some f) (e2 : Ieee.double.div (floatOfInt .f64 q) 4636737291354636288 = some a)
    (e3 : Ieee.double.div a 4638637247447433216 = some b) (e4 : Ieee.double.add f b = some g)
    (af : St.axis f = 16 + k) (afl : St.axis (Fl.flip f) = -(16 + k)) (ag : St.axis g = x) (hx : x = 16 + k ∨ x = min (16 + k + 1) 127) (lf : f < 2 ^ 64) (lg : g < 2 ^ 64) (w : World) :
    Calls Try.prog 9 #[.int .i64 n, .int .i64 p] w fun e w' => e = .returned (.bool true) ∧ Below w.heap.size w w' := by
  have r1 := fun w => run_float_arith (P := Try.prog) w .quo 22 .f64 _ _ _ e1
  have r2 := fun w => run_float_arith (P := Try.prog) w .quo 22 .f64 _ _ _ e2
  have r3 := fun w => run_float_arith (P := Try.prog) w .quo 22 .f64 _ _ _ e3
  have r4 := fun w => run_float_arith (P := Try.prog) w .add 22 .f64 _ _ _ e4
  have c1 := fun w => Lib.hid (axis_t f _ lf af w)
  have c2 := fun w => Lib.hid (axis_t (Fl.flip f) _ (Fl.flip_lt f lf) afl w)
  have c3 := fun w => Lib.hid (axis_t g _ lg ag w)
  have c4 := fun w => Lib.hid (may_t (16 + k) 0 0 true (by unfold may; simp; omega) w)
  clear e1 e2 e3 e4 af afl ag
  have hxk : Hid (x = 16 + k ∨ x = min (16 + k + 1) 127) := hx
  have hx0 : 0 ≤ x := by omega
  have hx1 : x ≤ 127 := by omega
  clear hx
  go_enter Try.func9, Try.ntmps9
  go_wp2_with (first | (go_at_call 12; first | ((with_reducible refine ((c1 _).out).mono ?_); rintro e w' ⟨rfl, rfl⟩) | ((with_reducible refine ((c2 _).out).mono ?_); rintro e w' ⟨rfl, rfl⟩) | ((with_reducible refine ((c3 _).out).mono ?_); rintro e w' ⟨rfl, rfl⟩)))
  refine (told_any _).mono ?_
  rintro e w1 ⟨rfl, hb1⟩
  go_wp2_with (first | (go_at_call 12; first | ((with_reducible refine ((c1 _).out).mono ?_); rintro e w' ⟨rfl, rfl⟩) | ((with_reducible refine ((c2 _).out).mono ?_); rintro e w' ⟨rfl, rfl⟩) | ((with_reducible refine ((c3 _).out).mono ?_); rintro e w' ⟨rfl, rfl⟩)) | (go_at_call 17; refine ((c4 _).out).mono ?_; rintro e w2 ⟨rfl, hb2⟩))
  all_goals first | (exfalso; have := hxk.out; omega) | (go_ret; exact ⟨ret_bool (by simp), below2 hb1 (by assumption)⟩)

theorem steps_law (n p : Int) (w : World) :
    Calls Try.prog 9 #[.int .i64 n, .int .i64 p] w fun e w' => e = .returned (.bool true) ∧ Below w.heap.size w w' := by
  obtain ⟨k0, k1⟩ := u64_mod n 112 (by omega)
  obtain ⟨q0, q1⟩ := u64_mod p 100 (by omega)
  obtain ⟨k, hk⟩ := Int.eq_ofNat_of_zero_le k0
  obtain ⟨q, hq⟩ := Int.eq_ofNat_of_zero_le q0
  obtain ⟨f, a, b, g, e1, e2, e3, e4, h1, h2, h3, h4, h5⟩ := St.step_ok k q (by omega) (by omega)
  unfold St.cM at e1 e3
  unfold St.c100 at e2
  exact steps_walk n p k q f a b g _ (by omega) (by omega) (by omega) (by omega) hk hq e1 e2 e3 e4 h1 h2 rfl (by rcases h3 with h | h <;> omega) h4 h5 w

theorem x0 : St.axis 0 = 0 := St.axis_of (by decide +kernel)
theorem x1 : St.axis 1 = 0 := St.axis_of (by decide +kernel)
theorem x2 : St.axis 9218868437227405311 = 127 := St.axis_of (by decide +kernel)
theorem x3 : St.axis 4593671619917905919 = 0 := St.axis_of (by decide +kernel)
theorem x4 : St.axis 4607182418800017408 = 127 := St.axis_of (by decide +kernel)
theorem x5 : St.axis 4607182418800017407 = 127 := St.axis_of (by decide +kernel)
theorem x6 : St.axis 4609434218613702656 = 127 := St.axis_of (by decide +kernel)

theorem edge_below {B : Nat} {a w : World} (o1 o2 : Obj) (n : Nat) (h : Below B a w) (hB : B ≤ w.heap.size) : Below B a (((w.alloc o1).alloc o2).drewN n) :=
  below_drewN n ((h.alloc hB o1).alloc (by simp; omega) o2)

set_option maxRecDepth 100000 in
set_option maxHeartbeats 4000000 in
theorem edges_pos (n k : Int) (hk : k = 0 ∨ k = 1 ∨ k = 2 ∨ k = 3 ∨ k = 4 ∨ k = 5 ∨ k = 6 ∨ k = 7 ∨ k = 8 ∨ k = 9) (ek : (IntKind.u64.wrap n).tmod 10 = k) (w : World) :
    Calls Try.prog 7 #[.int .i64 n, .bool false] w fun e w' => e = .returned (.bool true) ∧ Below w.heap.size w w' := by
  rcases hk with rfl | rfl | rfl | rfl | rfl | rfl | rfl | rfl | rfl | rfl
  all_goals
    go_enter Try.func7, Try.ntmps7
    go_wp2_with (first | (go_at_call 21; refine (nan_any _).mono ?_; rintro e w' ⟨rfl, rfl⟩) | (go_at_call 22; refine (inf_pos _).mono ?_; rintro e w' ⟨rfl, rfl⟩))
    go_quiet (fail)
    go_wp2_with (first | (go_at_call 12; refine (axis_any _ (by decide) _).mono ?_; rintro e w' ⟨rfl, rfl⟩) | (go_at_call 11; refine (told_any _).mono ?_; rintro e w1 ⟨rfl, hb1⟩))
    go_ret
    exact ⟨ret_bool (by simp [x0, x1, x2, x3, x4, x5, x6, a3, a4, a5]), (edge_below _ _ _ (Below.refl _ _) (Nat.le_refl _)).trans ((‹Below _ _ _›).mono (by simp; omega))⟩
set_option maxRecDepth 100000 in
set_option maxHeartbeats 4000000 in
theorem edges_neg (n k : Int) (hk : k = 0 ∨ k = 1 ∨ k = 2 ∨ k = 3 ∨ k = 4 ∨ k = 5 ∨ k = 6 ∨ k = 7 ∨ k = 8 ∨ k = 9) (ek : (IntKind.u64.wrap n).tmod 10 = k) (w : World) :
    Calls Try.prog 7 #[.int .i64 n, .bool true] w fun e w' => e = .returned (.bool true) ∧ Below w.heap.size w w' := by
  rcases hk with rfl | rfl | rfl | rfl | rfl | rfl | rfl | rfl | rfl | rfl
  all_goals
    go_enter Try.func7, Try.ntmps7
    go_wp2_with (first | (go_at_call 21; refine (nan_any _).mono ?_; rintro e w' ⟨rfl, rfl⟩) | (go_at_call 22; refine (inf_pos _).mono ?_; rintro e w' ⟨rfl, rfl⟩))
    go_quiet (fail)
    go_wp2_with (first | (go_at_call 12; refine (axis_any _ (Fl.flip_lt _ (by decide)) _).mono ?_; rintro e w' ⟨rfl, rfl⟩) | (go_at_call 11; refine (told_any _).mono ?_; rintro e w1 ⟨rfl, hb1⟩))
    go_ret
    exact ⟨ret_bool (by simp [St.axis_flip, x0, x1, x2, x3, x4, x5, x6, a3, a4, a5]), (edge_below _ _ _ (Below.refl _ _) (Nat.le_refl _)).trans ((‹Below _ _ _›).mono (by simp; omega))⟩

theorem edges_law (n : Int) (t : Bool) (w : World) :
    Calls Try.prog 7 #[.int .i64 n, .bool t] w fun e w' => e = .returned (.bool true) ∧ Below w.heap.size w w' := by
  obtain ⟨k0, k1⟩ := u64_mod n 10 (by omega)
  cases t
  · exact edges_pos n _ (by omega) rfl w
  · exact edges_neg n _ (by omega) rfl w
end Go.Proofs.Ytlolbbffmniahaa
