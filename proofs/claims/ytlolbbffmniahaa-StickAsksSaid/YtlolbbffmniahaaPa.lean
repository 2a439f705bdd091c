/-
For every two floats, every byte of buttons and every two inputs the law StickAsks of layer 1 returns true, and its arguments read as before. No condition.
-/
import Derived.Test.YtlolbbffmniahaaLa
import Derived.Test.YtlolbbffmniahaaBd
import Derived.ProofKit
import Derived.OpenShut
import Derived.Lib.SmallJoins
namespace Go.Proofs.Ytlolbbffmniahaa.stickAsks
open Go.ChangeShapes Go.WideShapes Go.ChangeAt Go.RowKit Go.Joins
set_option linter.unusedVariables false

theorem own : ownKnob Try.prog.godebug = none := by kernel_rfl
theorem cells25 : Try.prog.cellsOf 25 = 3 := by kernel_rfl

set_option maxRecDepth 100000 in
theorem lifted (os : Os) (started : os.Started) (H : Type) (enc : TypeId × Value → H) :
    ReturnsInHanded {} Try.checked os 3 .any (Rows.stickAsksSpec.pre6 enc Try.prog Try.f3 Rows.stickAsksRow.domain false) (Rows.stickAsksSpec.post enc Try.prog Try.f3 false true false false) := by
  refine returnsInHanded_of_change (C := Try.checked) own started (by kernel_rfl) Try.func3
    (ChangeSpec.witness6 (enc := enc) (C := Try.checked) false ⟨#[], #[.float .f64 0, .float .f64 0, .int .u8 0, .agg #[.int .i8 0, .int .i8 0, .int .u8 0], .agg #[.int .i8 0, .int .i8 0, .int .u8 0]], []⟩ 8 (by kernel_rfl) (by kernel_rfl) (by kernel_rfl) (by kernel_rfl)) ?_
  intro W base args ds gs before hval0 hW hcnd _
  have hval : ∀ (j : Nat) t v, Try.f3.params[j]? = some t → args[j]? = some v → Value.okWide Try.prog W .any base t v := hval0
  have hW' := hW
  obtain ⟨p, q, hA0, hV, rfl, hfz, hnd⟩ := hW
  have hA : DataW.TrodAll enc Try.prog W 0 (fun _ => true) true Try.f3.params.toList args.toList ds p := hA0
  rw [Try.params3] at hA hval
  obtain ⟨v0, vs0, d0, ds0, p0, q0, hargs, rfl, rfl, h0, r0⟩ := trodAll_cons hA
  obtain ⟨v1, vs1, d1, ds1, p1, q1, rfl, rfl, rfl, h1, r1⟩ := trodAll_cons r0
  obtain ⟨v2, vs2, d2, ds2, p2, q2, rfl, rfl, rfl, h2, r2⟩ := trodAll_cons r1
  obtain ⟨v3, vs3, d3, ds3, p3, q3, rfl, rfl, rfl, h3, r3⟩ := trodAll_cons r2
  obtain ⟨v4, vs4, d4, ds4, p4, q4, rfl, rfl, rfl, h4, r4⟩ := trodAll_cons r3
  obtain ⟨rfl, rfl, rfl⟩ := trodAll_nil r4
  obtain rfl : args = #[v0, v1, v2, v3, v4] := by cases args; simp_all
  obtain ⟨rfl, rfl⟩ := trodVars_none hV
  obtain ⟨a0, rfl, rfl, rfl, w0⟩ := open_float Try.underlying22 (hval 0 22 v0 rfl rfl) h0
  obtain ⟨a1, rfl, rfl, rfl, w1⟩ := open_float Try.underlying22 (hval 1 22 v1 rfl rfl) h1
  obtain ⟨a2, rfl, rfl, rfl, w2⟩ := open_int Try.underlying5 (hval 2 5 v2 rfl rfl) h2
  obtain ⟨c30, c31, c32, y30, y31, y32, m3, rfl, rfl, rfl, g30, g31, g32⟩ := open_agg3 Try.underlying25 (by kernel_rfl) cells25 (hval 3 25 v3 rfl rfl) h3
  obtain ⟨x3, e30, rfl, w3x⟩ := DataW.trod_int Try.underlying23 g30
  obtain ⟨y3, e31, rfl, w3y⟩ := DataW.trod_int Try.underlying23 g31
  obtain ⟨b3, e32, rfl, w3b⟩ := DataW.trod_int Try.underlying5 g32
  simp at e30 e31 e32
  subst e30 e31 e32
  obtain ⟨c40, c41, c42, y40, y41, y42, m4, rfl, rfl, rfl, g40, g41, g42⟩ := open_agg3 Try.underlying25 (by kernel_rfl) cells25 (hval 4 25 v4 rfl rfl) h4
  obtain ⟨x4, e40, rfl, w4x⟩ := DataW.trod_int Try.underlying23 g40
  obtain ⟨y4, e41, rfl, w4y⟩ := DataW.trod_int Try.underlying23 g41
  obtain ⟨b4, e42, rfl, w4b⟩ := DataW.trod_int Try.underlying5 g42
  simp at e40 e41 e42
  subst e40 e41 e42
  clear hA0 hval0 hval hA
  simp only [List.append_nil] at hW'
  refine (asks_law a0 a1 a2 x3 y3 b3 x4 y4 b4 (Bd.f64 w0) (Bd.f64 w1) (Bd.i8 w3x) (Bd.i8 w3y) (Bd.i8 w4x) (Bd.i8 w4y) W).mono fun e W' ⟨he, hb⟩ => ?_
  subst he
  exact ⟨_, rfl, _, _, _, [], [], [], hW', (trodAll_cons_mk (shut_bool Try.underlying4 _) trodAll_mk0), (trodAll_cons_mk (shut_float Try.underlying22 w0) (trodAll_cons_mk (shut_float Try.underlying22 w1) (trodAll_cons_mk (shut_int Try.underlying5 w2) (trodAll_cons_mk (shut_agg3 Try.underlying25 (by kernel_rfl) cells25 (Bd.fld Try.underlying23 w3x) (Bd.fld Try.underlying23 w3y) (Bd.fld Try.underlying5 w3b)) (trodAll_cons_mk (shut_agg3 Try.underlying25 (by kernel_rfl) cells25 (Bd.fld Try.underlying23 w4x) (Bd.fld Try.underlying23 w4y) (Bd.fld Try.underlying5 w4b)) trodAll_mk0))))), rfl, hb.frame _, fun h => by cases h⟩

theorem over : Rows.stickAsksRow.holds Try.pinned (OpenSpec.ofChange Rows.stickAsksSpec) :=
  OpenClaim.holds_of_wide 3 Try.f3 rfl rfl rfl rfl rfl rfl rfl ⟨rfl, rfl, rfl, rfl, rfl⟩ rfl rfl rfl rfl rfl (by kernel_rfl) Try.func3 (by kernel_rfl)
    (of_decide_eq_true (by kernel_rfl)) (by unfold Func.isWrapper; first | (rw [if_pos (by decide +kernel)]; kernel_rfl) | (rw [if_neg (by decide +kernel)]; exact ⟨rfl, rfl⟩))
    (fun os started H enc _ => lifted os started H enc)

theorem proved : Rows.StickAsksSaid :=
  over
#print axioms proved
end Go.Proofs.Ytlolbbffmniahaa.stickAsks
