/-
The contracts of package fix with named answers, carried on from a world that is kept; that told is true.
-/
import Derived.Test.YtpcndjmhikigfaaFq
import Derived.Test.YtpcndjmhikigfaaFf
namespace Go.Proofs.Ytpcndjmhikigfaa
open Go.RowKit
set_option linter.unusedVariables false

/-- Whatever was there in v is there in w. -/
def Kept (v w : World) : Prop := Below v.heap.size v w
theorem Kept.refl (w : World) : Kept w w := Below.refl _ _
theorem Kept.on {v w w' : World} (h : Kept v w) (h' : Below w.heap.size w w') : Kept v w' := Below.trans h (h'.mono (Below.size h))

theorem on_below {P : Program} {f : FuncId} {args : Array Value} {a w : World} {v : Value} (hb : Kept a w)
    (h : Calls P f args w fun e w' => e = .returned v ∧ Below w.heap.size w w') : Calls P f args w fun e w' => e = .returned v ∧ Kept a w' :=
  h.mono fun _ _ ⟨he, h'⟩ => ⟨he, hb.on h'⟩
theorem on_same {P : Program} {f : FuncId} {args : Array Value} {a w : World} {v : Value} (hb : Kept a w)
    (h : Calls P f args w fun e w' => e = .returned v ∧ w = w') : Calls P f args w fun e w' => e = .returned v ∧ Kept a w' :=
  h.mono fun _ _ ⟨he, h'⟩ => ⟨he, h' ▸ hb⟩

abbrev I32 (a : Int) : Prop := -2147483648 ≤ a ∧ a ≤ 2147483647

theorem fixadd_t {v w : World} (hb : Kept v w) (a : Int) (b : Int) (n : Int) (wa : I32 a) (wb : I32 b) (h : Fx.cut (a + b) = n) :
    Calls Try.prog 12 #[.int .i32 a, .int .i32 b] w fun e w' => e = .returned (.int .i32 n) ∧ Kept v w' := by
  rw [← h]; exact on_below hb (fixadd_any a b wa wb w)

theorem fixsub_t {v w : World} (hb : Kept v w) (a : Int) (b : Int) (n : Int) (wa : I32 a) (wb : I32 b) (h : Fx.cut (a - b) = n) :
    Calls Try.prog 14 #[.int .i32 a, .int .i32 b] w fun e w' => e = .returned (.int .i32 n) ∧ Kept v w' := by
  rw [← h]; exact on_below hb (fixsub_any a b wa wb w)

theorem fixmul_t {v w : World} (hb : Kept v w) (a : Int) (b : Int) (n : Int) (wa : I32 a) (wb : I32 b) (h : Fx.mul a b = n) :
    Calls Try.prog 16 #[.int .i32 a, .int .i32 b] w fun e w' => e = .returned (.int .i32 n) ∧ Kept v w' := by
  rw [← h]; exact on_below hb (fixmul_any a b wa wb w)

theorem fixdiv_t {v w : World} (hb : Kept v w) (a : Int) (b : Int) (n : Int) (wa : I32 a) (wb : I32 b) (h : Fx.div a b = n) :
    Calls Try.prog 18 #[.int .i32 a, .int .i32 b] w fun e w' => e = .returned (.int .i32 n) ∧ Kept v w' := by
  rw [← h]; exact on_below hb (fixdiv_any a b wa wb w)

theorem fixclamp_t {v w : World} (hb : Kept v w) (a : Int) (l : Int) (u : Int) (n : Int) (wa : I32 a) (wl : I32 l) (wu : I32 u) (h : Fx.clamp a l u = n) :
    Calls Try.prog 22 #[.int .i32 a, .int .i32 l, .int .i32 u] w fun e w' => e = .returned (.int .i32 n) ∧ Kept v w' := by
  rw [← h]; exact on_below hb (clamp_any a l u wa wl wu w)

theorem fixroot_t {v w : World} (hb : Kept v w) (a : Int) (n : Int) (wa : I32 a) (h : Fx.root a = n) :
    Calls Try.prog 20 #[.int .i32 a] w fun e w' => e = .returned (.int .i32 n) ∧ Kept v w' := by
  rw [← h]; exact on_same hb (fixroot_any a wa.2 w)

theorem refadd_t {v w : World} (hb : Kept v w) (a : Int) (b : Int) (n : Int) (wa : I32 a) (wb : I32 b) (h : Fx.cut (a + b) = n) :
    Calls Try.prog 13 #[.int .i32 a, .int .i32 b] w fun e w' => e = .returned (.int .i32 n) ∧ Kept v w' := by
  rw [← h]; exact on_same hb (refadd_any a b wa wb w)

theorem refsub_t {v w : World} (hb : Kept v w) (a : Int) (b : Int) (n : Int) (wa : I32 a) (wb : I32 b) (h : Fx.cut (a - b) = n) :
    Calls Try.prog 15 #[.int .i32 a, .int .i32 b] w fun e w' => e = .returned (.int .i32 n) ∧ Kept v w' := by
  rw [← h]; exact on_same hb (refsub_any a b wa wb w)

theorem refmul_t {v w : World} (hb : Kept v w) (a : Int) (b : Int) (n : Int) (wa : I32 a) (wb : I32 b) (h : Fx.mul a b = n) :
    Calls Try.prog 17 #[.int .i32 a, .int .i32 b] w fun e w' => e = .returned (.int .i32 n) ∧ Kept v w' := by
  rw [← h]; exact on_same hb (refmul_any a b wa wb w)

theorem refdiv_t {v w : World} (hb : Kept v w) (a : Int) (b : Int) (n : Int) (wa : I32 a) (wb : I32 b) (h : Fx.div a b = n) :
    Calls Try.prog 19 #[.int .i32 a, .int .i32 b] w fun e w' => e = .returned (.int .i32 n) ∧ Kept v w' := by
  rw [← h]; exact on_same hb (refdiv_any a b wa wb w)

theorem refclamp_t {v w : World} (hb : Kept v w) (a : Int) (l : Int) (u : Int) (n : Int) (wa : I32 a) (wl : I32 l) (wu : I32 u) (h : Fx.clamp a l u = n) :
    Calls Try.prog 23 #[.int .i32 a, .int .i32 l, .int .i32 u] w fun e w' => e = .returned (.int .i32 n) ∧ Kept v w' := by
  rw [← h]; exact on_same hb (refclamp_any a l u wa wl wu w)

theorem refroot_t {v w : World} (hb : Kept v w) (a : Int) (n : Int) (wa : I32 a) (h : Fx.root a = n) :
    Calls Try.prog 21 #[.int .i32 a] w fun e w' => e = .returned (.int .i32 n) ∧ Kept v w' := by
  rw [← h]; exact on_same hb (refroot_any a wa.2 w)

theorem fixof_t {v w : World} (hb : Kept v w) (b : Nat) (n : Int) (h : Fo.of b = n) :
    Calls Try.prog 24 #[.float .f64 b] w fun e w' => e = .returned (.int .i32 n) ∧ Kept v w' := by
  rw [← h]; exact on_below hb (fixof_any b w)

theorem refof_t {v w : World} (hb : Kept v w) (b : Nat) (n : Int) (h : Fo.of b = n) :
    Calls Try.prog 25 #[.float .f64 b] w fun e w' => e = .returned (.int .i32 n) ∧ Kept v w' := by
  rw [← h]; exact on_below hb (refof_any b w)

theorem float_t {v w : World} (hb : Kept v w) (a : Int) (n : Nat) (wa : I32 a) (h : Fo.val a = n) :
    Calls Try.prog 26 #[.int .i32 a] w fun e w' => e = .returned (.float .f64 n) ∧ Kept v w' := by
  rw [← h]; exact on_same hb (float_any a wa w)
theorem nan_t {v w : World} (hb : Kept v w) :
    Calls Try.prog 29 #[] w fun e w' => e = .returned (.float .f64 9221120237041090561) ∧ Kept v w' := on_same hb (nan_any w)
theorem infneg_t {v w : World} (hb : Kept v w) :
    Calls Try.prog 28 #[.int .i64 (-1)] w fun e w' => e = .returned (.float .f64 18442240474082181120) ∧ Kept v w' := on_same hb (inf_neg w)
theorem infpos_t {v w : World} (hb : Kept v w) :
    Calls Try.prog 28 #[.int .i64 1] w fun e w' => e = .returned (.float .f64 9218868437227405312) ∧ Kept v w' := on_same hb (inf_pos w)

theorem root_4 : Fx.root 262144 = 131072 := by rw [root_pos (by omega)]; exact congrArg Int.ofNat (Fx.sq_is (r := 131072) (by decide +kernel))
theorem fl_half : Fo.val 32768 = 4602678819172646912 := by decide +kernel
theorem of_1 : Fo.of 4607182418800017408 = 65536 := by decide +kernel
theorem of_nan1 : Fo.of 9221120237041090561 = 0 := by decide +kernel
theorem of_ninf : Fo.of 18442240474082181120 = -2147483648 := by decide +kernel

set_option maxRecDepth 100000 in
set_option maxHeartbeats 1000000 in
theorem told_any (w : World) :
    Calls Try.prog 11 #[] w fun e w' => e = .returned (.bool true) ∧ Below w.heap.size w w' := by
  have o1 : (FloatKind.f64.format.order 4602678819172646912 4602678819172646912 == some .eq) = true := by decide +kernel
  have h := Kept.refl w
  go_enter Try.func11, Try.ntmps11
  go_wp2_with fail
  refine (fixof_t h _ _ of_1).mono ?_
  clear h
  rintro e w1 ⟨rfl, h⟩
  go_wp2_with fail
  refine (float_t h _ _ (by decide) fl_half).mono ?_
  clear h
  rintro e w1 ⟨rfl, h⟩
  go_wp2_with fail
  refine (fixmul_t h 32768 32768 16384 (by decide) (by decide) (by decide +kernel)).mono ?_
  clear h
  rintro e w1 ⟨rfl, h⟩
  go_wp2_with fail
  refine (fixdiv_t h 65536 0 2147483647 (by decide) (by decide) (by decide +kernel)).mono ?_
  clear h
  rintro e w1 ⟨rfl, h⟩
  go_wp2_with fail
  refine (fixroot_t h _ _ (by decide) root_4).mono ?_
  clear h
  rintro e w1 ⟨rfl, h⟩
  go_wp2_with fail
  refine (fixadd_t h 2147483647 1 2147483647 (by decide) (by decide) (by decide +kernel)).mono ?_
  clear h
  rintro e w1 ⟨rfl, h⟩
  go_wp2_with fail
  refine (fixsub_t h (-2147483648) 1 (-2147483648) (by decide) (by decide) (by decide +kernel)).mono ?_
  clear h
  rintro e w1 ⟨rfl, h⟩
  go_wp2_with fail
  refine (fixclamp_t h 5 7 3 3 (by decide) (by decide) (by decide) (by decide +kernel)).mono ?_
  clear h
  rintro e w1 ⟨rfl, h⟩
  go_wp2_with fail
  refine (nan_t h).mono ?_
  clear h
  rintro e w1 ⟨rfl, h⟩
  go_wp2_with fail
  refine (fixof_t h _ _ of_nan1).mono ?_
  clear h
  rintro e w1 ⟨rfl, h⟩
  go_wp2_with fail
  refine (infneg_t h).mono ?_
  clear h
  rintro e w1 ⟨rfl, h⟩
  go_wp2_with fail
  refine (fixof_t h _ _ of_ninf).mono ?_
  clear h
  rintro e w1 ⟨rfl, h⟩
  go_wp2_with fail
  go_ret
  exact ⟨rfl, h⟩
theorem told_t {v w : World} (hb : Kept v w) :
    Calls Try.prog 11 #[] w fun e w' => e = .returned (.bool true) ∧ Kept v w' := on_below hb (told_any w)
end Go.Proofs.Ytpcndjmhikigfaa
