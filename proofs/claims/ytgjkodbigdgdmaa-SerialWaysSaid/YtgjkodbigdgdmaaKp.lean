/-
Whatever was there stays: the one fact that a walk carries on; what a call returns; a NaN drawn from the tape.
-/
import Derived.Test.YtgjkodbigdgdmaaRows
import Derived.Test.YtgjkodbigdgdmaaFl
import Derived.WalkKit
import Derived.WalkSpells
import Derived.WalkLawsBesides
import Derived.Laws.Externs
import Derived.Laws.BitsAllLaws
import Derived.Lib.Hide
namespace Go.Proofs.Ytgjkodbigdgdmaa
open Go.RowKit
set_option linter.unusedVariables false

theorem ret_float {a b : Nat} (h : a = b) : Ending.returned (.float .f64 a) = .returned (.float .f64 b) := by rw [h]
theorem ret_bool {a b : Bool} (h : a = b) : Ending.returned (.bool a) = .returned (.bool b) := by rw [h]
theorem ret_int {k : IntKind} {a b : Int} (h : a = b) : Ending.returned (.int k a) = .returned (.int k b) := by rw [h]

/-- Whatever was there in v is there in w. -/
def Kept (v w : World) : Prop := Below v.heap.size v w
theorem Kept.refl (w : World) : Kept w w := Below.refl _ _
theorem Kept.on {v w w' : World} (h : Kept v w) (h' : Below w.heap.size w w') : Kept v w' := Below.trans h (h'.mono (Below.size h))

theorem on_below {P : Program} {f : FuncId} {args : Array Value} {a w : World} {v : Value} (hb : Kept a w)
    (h : Calls P f args w fun e w' => e = .returned v ∧ Below w.heap.size w w') : Calls P f args w fun e w' => e = .returned v ∧ Kept a w' :=
  h.mono fun _ _ ⟨he, h'⟩ => ⟨he, hb.on h'⟩
theorem on_same {P : Program} {f : FuncId} {args : Array Value} {a w : World} {v : Value} (hb : Kept a w)
    (h : Calls P f args w fun e w' => e = .returned v ∧ w = w') : Calls P f args w fun e w' => e = .returned v ∧ Kept a w' :=
  h.mono fun _ _ ⟨he, h'⟩ => ⟨he, h' ▸ hb⟩
theorem to_below {P : Program} {f : FuncId} {args : Array Value} {w : World} {v : Value}
    (h : Calls P f args w fun e w' => e = .returned v ∧ w = w') : Calls P f args w fun e w' => e = .returned v ∧ Below w.heap.size w w' :=
  h.mono fun _ _ ⟨he, h'⟩ => ⟨he, h' ▸ Below.refl _ _⟩

/-- A NaN drawn from the tape. -/
theorem run_float_nan {P : Program} (w : World) (op : BinOp) (hop : op = .add ∨ op = .sub ∨ op = .mul ∨ op = .quo) (t : TypeId) (x y : Nat) (h : floatBits op .f64 x y = none) :
    ∃ n, Fl.isNaN n = true ∧ n < 2 ^ 64 ∧ (binOp op t (.float .f64 x) (.float .f64 y)).run P w = .ok (.float .f64 n) w.drew := by
  refine ⟨Question.cut (.nanBits .f64 x y) (w.tape w.drawn (.nanBits .f64 x y)), ?_, ?_, ?_⟩
  · generalize w.tape w.drawn (.nanBits .f64 x y) = k
    unfold Fl.isNaN
    refine decide_eq_true ?_
    unfold Fl.rung Fl.inf
    simp only [Question.cut]
    have h1 : k / 2 % (2 ^ 52 - 1) < 2 ^ 52 - 1 := Nat.mod_lt _ (by decide)
    have h2 : k % 2 < 2 := Nat.mod_lt _ (by decide)
    generalize k / 2 % (2 ^ 52 - 1) = m at *
    generalize k % 2 = s at *
    omega
  · generalize w.tape w.drawn (.nanBits .f64 x y) = k
    simp only [Question.cut]
    have h1 : k / 2 % (2 ^ 52 - 1) < 2 ^ 52 - 1 := Nat.mod_lt _ (by decide)
    have h2 : k % 2 < 2 := Nat.mod_lt _ (by decide)
    generalize k / 2 % (2 ^ 52 - 1) = m at *
    generalize k % 2 = s at *
    omega
  · unfold floatBits at h
    rcases hop with rfl | rfl | rfl | rfl <;> simp only at h <;> simp [binOp, Op.floatArith, h, Question.forced]

theorem ne_self (b : Nat) : (FloatKind.f64.format.order b b != some .eq) = Fl.isNaN b := by
  show (Ieee.double.order b b != some .eq) = _
  cases h : Fl.isNaN b
  · have := Fl.eq_iff h h
    rw [bne, this]; simp
  · rw [Fl.order_nan_left b h]; rfl
end Go.Proofs.Ytgjkodbigdgdmaa
