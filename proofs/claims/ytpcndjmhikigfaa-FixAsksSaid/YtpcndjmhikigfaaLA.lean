/-
FixAsks: the walk.
-/
import Derived.Test.YtpcndjmhikigfaaFt
namespace Go.Proofs.Ytpcndjmhikigfaa
open Go.RowKit
set_option linter.unusedVariables false

set_option maxRecDepth 100000 in
set_option maxHeartbeats 2000000 in
theorem asks_walk (a b c : Int) (f : Nat) (s1 s2 s3 s4 s5 s6 s7 : Int) (wa : I32 a) (wb : I32 b) (wc : I32 c)
    (h1 : Fx.cut (a + b) = s1) (h2 : Fx.cut (a - b) = s2) (h3 : Fx.mul a b = s3) (h4 : Fx.div a b = s4) (h5 : Fx.root a = s5) (h6 : Fx.clamp a b c = s6) (h7 : Fo.of f = s7) (w : World) :
    Calls Try.prog 3 #[.int .i32 a, .int .i32 b, .int .i32 c, .float .f64 f] w fun e w' => e = .returned (.bool true) ∧ Kept w w' := by
  have hk := Kept.refl w
  have c0 := fun (x : World) (h : Kept w x) => Lib.hid (told_t h)
  have c1 := fun (x : World) (h : Kept w x) => Lib.hid (fixadd_t h _ _ s1 wa wb h1)
  have d1 := fun (x : World) (h : Kept w x) => Lib.hid (refadd_t h _ _ s1 wa wb h1)
  have c2 := fun (x : World) (h : Kept w x) => Lib.hid (fixsub_t h _ _ s2 wa wb h2)
  have d2 := fun (x : World) (h : Kept w x) => Lib.hid (refsub_t h _ _ s2 wa wb h2)
  have c3 := fun (x : World) (h : Kept w x) => Lib.hid (fixmul_t h _ _ s3 wa wb h3)
  have d3 := fun (x : World) (h : Kept w x) => Lib.hid (refmul_t h _ _ s3 wa wb h3)
  have c4 := fun (x : World) (h : Kept w x) => Lib.hid (fixdiv_t h _ _ s4 wa wb h4)
  have d4 := fun (x : World) (h : Kept w x) => Lib.hid (refdiv_t h _ _ s4 wa wb h4)
  have c5 := fun (x : World) (h : Kept w x) => Lib.hid (fixroot_t h _ s5 wa h5)
  have d5 := fun (x : World) (h : Kept w x) => Lib.hid (refroot_t h _ s5 wa h5)
  have c6 := fun (x : World) (h : Kept w x) => Lib.hid (fixclamp_t h _ _ _ s6 wa wb wc h6)
  have d6 := fun (x : World) (h : Kept w x) => Lib.hid (refclamp_t h _ _ _ s6 wa wb wc h6)
  have c7 := fun (x : World) (h : Kept w x) => Lib.hid (fixof_t h _ s7 h7)
  have d7 := fun (x : World) (h : Kept w x) => Lib.hid (refof_t h _ s7 h7)
  clear h1 h2 h3 h4 h5 h6 h7
  go_enter Try.func3, Try.ntmps3
  go_wp2_with (first | (go_at_call 11; ((with_reducible refine ((c0 _ (by assumption)).out).mono ?_); rintro e w' ⟨rfl, hk⟩)) | (go_at_call 12; ((with_reducible refine ((c1 _ (by assumption)).out).mono ?_); rintro e w' ⟨rfl, hk⟩)) | (go_at_call 13; ((with_reducible refine ((d1 _ (by assumption)).out).mono ?_); rintro e w' ⟨rfl, hk⟩)) | (go_at_call 14; ((with_reducible refine ((c2 _ (by assumption)).out).mono ?_); rintro e w' ⟨rfl, hk⟩)) | (go_at_call 15; ((with_reducible refine ((d2 _ (by assumption)).out).mono ?_); rintro e w' ⟨rfl, hk⟩)) | (go_at_call 16; ((with_reducible refine ((c3 _ (by assumption)).out).mono ?_); rintro e w' ⟨rfl, hk⟩)) | (go_at_call 17; ((with_reducible refine ((d3 _ (by assumption)).out).mono ?_); rintro e w' ⟨rfl, hk⟩)) | (go_at_call 18; ((with_reducible refine ((c4 _ (by assumption)).out).mono ?_); rintro e w' ⟨rfl, hk⟩)) | (go_at_call 19; ((with_reducible refine ((d4 _ (by assumption)).out).mono ?_); rintro e w' ⟨rfl, hk⟩)) | (go_at_call 20; ((with_reducible refine ((c5 _ (by assumption)).out).mono ?_); rintro e w' ⟨rfl, hk⟩)) | (go_at_call 21; ((with_reducible refine ((d5 _ (by assumption)).out).mono ?_); rintro e w' ⟨rfl, hk⟩)) | (go_at_call 22; ((with_reducible refine ((c6 _ (by assumption)).out).mono ?_); rintro e w' ⟨rfl, hk⟩)) | (go_at_call 23; ((with_reducible refine ((d6 _ (by assumption)).out).mono ?_); rintro e w' ⟨rfl, hk⟩)) | (go_at_call 24; ((with_reducible refine ((c7 _ (by assumption)).out).mono ?_); rintro e w' ⟨rfl, hk⟩)) | (go_at_call 25; ((with_reducible refine ((d7 _ (by assumption)).out).mono ?_); rintro e w' ⟨rfl, hk⟩)))
  go_ret
  exact ⟨ret_bool (by simp), by assumption⟩

theorem asks_law (a b c : Int) (f : Nat) (wa : I32 a) (wb : I32 b) (wc : I32 c) (w : World) :
    Calls Try.prog 3 #[.int .i32 a, .int .i32 b, .int .i32 c, .float .f64 f] w fun e w' => e = .returned (.bool true) ∧ Kept w w' :=
  asks_walk a b c f _ _ _ _ _ _ _ wa wb wc rfl rfl rfl rfl rfl rfl rfl w

end Go.Proofs.Ytpcndjmhikigfaa
