/-
FixOrder: the walk.
-/
import Derived.Test.YtpcndjmhikigfaaFt
namespace Go.Proofs.Ytpcndjmhikigfaa
open Go.RowKit
set_option linter.unusedVariables false

theorem root_mono {a b : Int} (h : a ≤ b) : Fx.root a ≤ Fx.root b := by
  unfold Fx.root
  split
  · split
    · exact Int.le_refl _
    · omega
  · rw [if_neg (by omega)]
    have := Fx.sq_mono (show a.toNat * 65536 ≤ b.toNat * 65536 by omega)
    omega
theorem val_lt (a b : Int) (wa : I32 a) (wb : I32 b) : (FloatKind.f64.format.order (Fo.val a) (Fo.val b) == some .lt) = decide (a < b) := by
  obtain ⟨_, _, f1, z1⟩ := Fo.val_spec a (by omega)
  obtain ⟨_, _, f2, z2⟩ := Fo.val_spec b (by omega)
  have h := Fl.lt_iff (Fo.fin_num f1) (Fo.fin_num f2)
  refine h.trans (decide_eq_decide.2 ?_)
  have up := Fo.U_pos
  generalize Fl.U = u at *
  have := @Int.mul_lt_mul_right u a b (by omega)
  rw [← this]
  omega

set_option maxRecDepth 100000 in
set_option maxHeartbeats 2000000 in
theorem order_up (a b c s1 s2 s3 s4 r1 r2 : Int) (f1 f2 : Nat) (t : Bool) (wa : I32 a) (wb : I32 b) (wc : I32 c) (h0 : a ≤ b)
    (h1 : Fx.cut (a + c) = s1) (h2 : Fx.cut (b + c) = s2) (h3 : Fx.cut (c - a) = s3) (h4 : Fx.cut (c - b) = s4) (h5 : Fx.root a = r1) (h6 : Fx.root b = r2) (h7 : Fo.val a = f1) (h8 : Fo.val b = f2)
    (o1 : (FloatKind.f64.format.order f1 f2 == some .lt) = t) (o2 : decide (a < b) = t) (l1 : s1 ≤ s2) (l2 : s4 ≤ s3) (l3 : r1 ≤ r2) (w : World) :
    Calls Try.prog 10 #[.int .i32 a, .int .i32 b, .int .i32 c] w fun e w' => e = .returned (.bool true) ∧ Kept w w' := by
  have hk := Kept.refl w
  have c0 := fun (x : World) (h : Kept w x) => Lib.hid (told_t h)
  have c1 := fun (x : World) (h : Kept w x) => Lib.hid (fixadd_t h a c s1 wa wc h1)
  have c2 := fun (x : World) (h : Kept w x) => Lib.hid (fixadd_t h b c s2 wb wc h2)
  have c3 := fun (x : World) (h : Kept w x) => Lib.hid (fixsub_t h c a s3 wc wa h3)
  have c4 := fun (x : World) (h : Kept w x) => Lib.hid (fixsub_t h c b s4 wc wb h4)
  have c5 := fun (x : World) (h : Kept w x) => Lib.hid (fixroot_t h a r1 wa h5)
  have c6 := fun (x : World) (h : Kept w x) => Lib.hid (fixroot_t h b r2 wb h6)
  have c7 := fun (x : World) (h : Kept w x) => Lib.hid (float_t h a f1 wa h7)
  have c8 := fun (x : World) (h : Kept w x) => Lib.hid (float_t h b f2 wb h8)
  clear h1 h2 h3 h4 h5 h6 h7 h8
  go_enter Try.func10, Try.ntmps10
  go_wp2_with (first | (go_at_call 11; ((with_reducible refine ((c0 _ (by assumption)).out).mono ?_); rintro e w' ⟨rfl, hk⟩)) | (go_at_call 12; first | ((with_reducible refine ((c1 _ (by assumption)).out).mono ?_); rintro e w' ⟨rfl, hk⟩) | ((with_reducible refine ((c2 _ (by assumption)).out).mono ?_); rintro e w' ⟨rfl, hk⟩)) | (go_at_call 14; first | ((with_reducible refine ((c3 _ (by assumption)).out).mono ?_); rintro e w' ⟨rfl, hk⟩) | ((with_reducible refine ((c4 _ (by assumption)).out).mono ?_); rintro e w' ⟨rfl, hk⟩)) | (go_at_call 20; first | ((with_reducible refine ((c5 _ (by assumption)).out).mono ?_); rintro e w' ⟨rfl, hk⟩) | ((with_reducible refine ((c6 _ (by assumption)).out).mono ?_); rintro e w' ⟨rfl, hk⟩)) | (go_at_call 26; first | ((with_reducible refine ((c7 _ (by assumption)).out).mono ?_); rintro e w' ⟨rfl, hk⟩) | ((with_reducible refine ((c8 _ (by assumption)).out).mono ?_); rintro e w' ⟨rfl, hk⟩)))
  all_goals
    go_ret
    exact ⟨ret_bool (by simp), by assumption⟩

set_option maxRecDepth 100000 in
set_option maxHeartbeats 2000000 in
theorem order_down (a b c s1 s2 s3 s4 r1 r2 : Int) (f1 f2 : Nat) (wa : I32 a) (wb : I32 b) (wc : I32 c) (h0 : b < a)
    (h1 : Fx.cut (b + c) = s1) (h2 : Fx.cut (a + c) = s2) (h3 : Fx.cut (c - b) = s3) (h4 : Fx.cut (c - a) = s4) (h5 : Fx.root b = r1) (h6 : Fx.root a = r2) (h7 : Fo.val b = f1) (h8 : Fo.val a = f2)
    (o1 : (FloatKind.f64.format.order f1 f2 == some .lt) = true) (l1 : s1 ≤ s2) (l2 : s4 ≤ s3) (l3 : r1 ≤ r2) (w : World) :
    Calls Try.prog 10 #[.int .i32 a, .int .i32 b, .int .i32 c] w fun e w' => e = .returned (.bool true) ∧ Kept w w' := by
  have hk := Kept.refl w
  have c0 := fun (x : World) (h : Kept w x) => Lib.hid (told_t h)
  have c1 := fun (x : World) (h : Kept w x) => Lib.hid (fixadd_t h b c s1 wb wc h1)
  have c2 := fun (x : World) (h : Kept w x) => Lib.hid (fixadd_t h a c s2 wa wc h2)
  have c3 := fun (x : World) (h : Kept w x) => Lib.hid (fixsub_t h c b s3 wc wb h3)
  have c4 := fun (x : World) (h : Kept w x) => Lib.hid (fixsub_t h c a s4 wc wa h4)
  have c5 := fun (x : World) (h : Kept w x) => Lib.hid (fixroot_t h b r1 wb h5)
  have c6 := fun (x : World) (h : Kept w x) => Lib.hid (fixroot_t h a r2 wa h6)
  have c7 := fun (x : World) (h : Kept w x) => Lib.hid (float_t h b f1 wb h7)
  have c8 := fun (x : World) (h : Kept w x) => Lib.hid (float_t h a f2 wa h8)
  clear h1 h2 h3 h4 h5 h6 h7 h8
  go_enter Try.func10, Try.ntmps10
  go_wp2_with (first | (go_at_call 11; ((with_reducible refine ((c0 _ (by assumption)).out).mono ?_); rintro e w' ⟨rfl, hk⟩)) | (go_at_call 12; first | ((with_reducible refine ((c1 _ (by assumption)).out).mono ?_); rintro e w' ⟨rfl, hk⟩) | ((with_reducible refine ((c2 _ (by assumption)).out).mono ?_); rintro e w' ⟨rfl, hk⟩)) | (go_at_call 14; first | ((with_reducible refine ((c3 _ (by assumption)).out).mono ?_); rintro e w' ⟨rfl, hk⟩) | ((with_reducible refine ((c4 _ (by assumption)).out).mono ?_); rintro e w' ⟨rfl, hk⟩)) | (go_at_call 20; first | ((with_reducible refine ((c5 _ (by assumption)).out).mono ?_); rintro e w' ⟨rfl, hk⟩) | ((with_reducible refine ((c6 _ (by assumption)).out).mono ?_); rintro e w' ⟨rfl, hk⟩)) | (go_at_call 26; first | ((with_reducible refine ((c7 _ (by assumption)).out).mono ?_); rintro e w' ⟨rfl, hk⟩) | ((with_reducible refine ((c8 _ (by assumption)).out).mono ?_); rintro e w' ⟨rfl, hk⟩)))
  all_goals
    go_ret
    exact ⟨ret_bool (by simp), by assumption⟩

theorem order_law (a b c : Int) (wa : I32 a) (wb : I32 b) (wc : I32 c) (w : World) :
    Calls Try.prog 10 #[.int .i32 a, .int .i32 b, .int .i32 c] w fun e w' => e = .returned (.bool true) ∧ Kept w w' := by
  by_cases h : a ≤ b
  · exact order_up a b c _ _ _ _ _ _ _ _ _ wa wb wc h rfl rfl rfl rfl rfl rfl rfl rfl (val_lt a b wa wb) rfl (Fx.cut_mono (by omega)) (Fx.cut_mono (by omega)) (root_mono h) w
  · exact order_down a b c _ _ _ _ _ _ _ _ wa wb wc (by omega) rfl rfl rfl rfl rfl rfl rfl rfl ((val_lt b a wb wa).trans (decide_eq_true (by omega))) (Fx.cut_mono (by omega)) (Fx.cut_mono (by omega)) (root_mono (by omega)) w

end Go.Proofs.Ytpcndjmhikigfaa
