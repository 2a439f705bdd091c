/-
For every two inputs the law StickNear of layer 1 returns true, and its arguments read as before. No condition.
-/
import Derived.Test.YtlolbbffmniahaaLn
import Derived.Test.YtlolbbffmniahaaBd
import Derived.ProofKit
import Derived.OpenShut
import Derived.Lib.SmallJoins
namespace Go.Proofs.Ytlolbbffmniahaa.stickNear
open Go.ChangeShapes Go.WideShapes Go.ChangeAt Go.RowKit Go.Joins
set_option linter.unusedVariables false

theorem own : ownKnob Try.prog.godebug = none := by kernel_rfl
theorem cells25 : Try.prog.cellsOf 25 = 3 := by kernel_rfl

set_option maxRecDepth 100000 in
theorem lifted (os : Os) (started : os.Started) (H : Type) (enc : TypeId × Value → H) :
    ReturnsInHanded {} Try.checked os 8 .any (Rows.stickNearSpec.pre6 enc Try.prog Try.f8 Rows.stickNearRow.domain false) (Rows.stickNearSpec.post enc Try.prog Try.f8 false true false false) := by
  refine returnsInHanded_of_change (C := Try.checked) own started (by kernel_rfl) Try.func8
    (ChangeSpec.witness6 (enc := enc) (C := Try.checked) false ⟨#[], #[.agg #[.int .i8 0, .int .i8 0, .int .u8 0], .agg #[.int .i8 0, .int .i8 0, .int .u8 0]], []⟩ 8 (by kernel_rfl) (by kernel_rfl) (by kernel_rfl) (by kernel_rfl)) ?_
  intro W base args ds gs before hval0 hW hcnd _
  have hval : ∀ (j : Nat) t v, Try.f8.params[j]? = some t → args[j]? = some v → Value.okWide Try.prog W .any base t v := hval0
  have hW' := hW
  obtain ⟨p, q, hA0, hV, rfl, hfz, hnd⟩ := hW
  have hA : DataW.TrodAll enc Try.prog W 0 (fun _ => true) true Try.f8.params.toList args.toList ds p := hA0
  rw [Try.params8] at hA hval
  obtain ⟨v0, vs0, d0, ds0, p0, q0, hargs, rfl, rfl, h0, r0⟩ := trodAll_cons hA
  obtain ⟨v1, vs1, d1, ds1, p1, q1, rfl, rfl, rfl, h1, r1⟩ := trodAll_cons r0
  obtain ⟨rfl, rfl, rfl⟩ := trodAll_nil r1
  obtain rfl : args = #[v0, v1] := by cases args; simp_all
  obtain ⟨rfl, rfl⟩ := trodVars_none hV
  obtain ⟨c00, c01, c02, y00, y01, y02, m0, rfl, rfl, rfl, g00, g01, g02⟩ := open_agg3 Try.underlying25 (by kernel_rfl) cells25 (hval 0 25 v0 rfl rfl) h0
  obtain ⟨x0, e00, rfl, w0x⟩ := DataW.trod_int Try.underlying23 g00
  obtain ⟨y0, e01, rfl, w0y⟩ := DataW.trod_int Try.underlying23 g01
  obtain ⟨b0, e02, rfl, w0b⟩ := DataW.trod_int Try.underlying5 g02
  simp at e00 e01 e02
  subst e00 e01 e02
  obtain ⟨c10, c11, c12, y10, y11, y12, m1, rfl, rfl, rfl, g10, g11, g12⟩ := open_agg3 Try.underlying25 (by kernel_rfl) cells25 (hval 1 25 v1 rfl rfl) h1
  obtain ⟨x1, e10, rfl, w1x⟩ := DataW.trod_int Try.underlying23 g10
  obtain ⟨y1, e11, rfl, w1y⟩ := DataW.trod_int Try.underlying23 g11
  obtain ⟨b1, e12, rfl, w1b⟩ := DataW.trod_int Try.underlying5 g12
  simp at e10 e11 e12
  subst e10 e11 e12
  clear hA0 hval0 hval hA
  simp only [List.append_nil] at hW'
  refine (near_law x0 y0 b0 x1 y1 b1 (Bd.i8 w0x) (Bd.i8 w0y) (Bd.i8 w1x) (Bd.i8 w1y) W).mono fun e W' ⟨he, hb⟩ => ?_
  subst he
  exact ⟨_, rfl, _, _, _, [], [], [], hW', (trodAll_cons_mk (shut_bool Try.underlying4 _) trodAll_mk0), (trodAll_cons_mk (shut_agg3 Try.underlying25 (by kernel_rfl) cells25 (Bd.fld Try.underlying23 w0x) (Bd.fld Try.underlying23 w0y) (Bd.fld Try.underlying5 w0b)) (trodAll_cons_mk (shut_agg3 Try.underlying25 (by kernel_rfl) cells25 (Bd.fld Try.underlying23 w1x) (Bd.fld Try.underlying23 w1y) (Bd.fld Try.underlying5 w1b)) trodAll_mk0)), rfl, hb.frame _, fun h => by cases h⟩

theorem over : Rows.stickNearRow.holds Try.pinned (OpenSpec.ofChange Rows.stickNearSpec) :=
  OpenClaim.holds_of_wide 8 Try.f8 rfl rfl rfl rfl rfl rfl rfl ⟨rfl, rfl, rfl, rfl, rfl⟩ rfl rfl rfl rfl rfl (by kernel_rfl) Try.func8 (by kernel_rfl)
    (of_decide_eq_true (by kernel_rfl)) (by unfold Func.isWrapper; first | (rw [if_pos (by decide +kernel)]; kernel_rfl) | (rw [if_neg (by decide +kernel)]; exact ⟨rfl, rfl⟩))
    (fun os started H enc _ => lifted os started H enc)

theorem proved : Rows.StickNearSaid :=
  over
#print axioms proved
end Go.Proofs.Ytlolbbffmniahaa.stickNear
