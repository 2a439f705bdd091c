/-
Several texts in one: Ol Er Ui Rnd Ry Un Uo.
-/
import Derived.Test.YtgmlbimgcifenaaVp13
import Derived.Test.YtgmlbimgcifenaaVk1
import Derived.Test.YtgmlbimgcifenaaVb1
import Derived.Test.YtgmlbimgcifenaaVf1
import Derived.Laws.FloatArith
import Derived.Test.YtgmlbimgcifenaaRows
import Derived.WalkKit
import Derived.WalkSpells
import Derived.WalkLawsBesides
import Derived.Laws.Externs
import Derived.Laws.BitsAllLaws
import Derived.Lib.Hide
import Derived.LoopTactic
import Derived.Deep.QuietTactic
import Derived.BigQuiet
import Derived.Outline
import Derived.Laws.OwnMore
import Derived.Deep.Draws
import Derived.Laws.Rows
import Derived.Deep.MidRow
import Derived.Maps.AppendAt
import Derived.Deep.WholeRow
import Derived.Orders
import Derived.Tactics
import Derived.Tactics2
import Derived.KernelRfl
import Derived.StillTail
import Derived.Below
import Derived.RangeFuncNested
import Derived.RangeFuncBound
import Derived.RangeFuncCalls
import Derived.RangeFuncLeaves
import Derived.Shelf.Abstract
import Derived.Shelf.RegionOpen
import Derived.Laws.StructEq
import Derived.ChangeKeysEq
import Derived.Deep.CutRange
import Derived.Deep.CutBlock
import Derived.Deep.DeepCutAuto
import Derived.Deep.LoopGhost
import Derived.OwnWalkIn
import Derived.TacticsInMore
import Derived.LoopNIn
import Derived.LoopIn
import Derived.Laws.CopyOwn
import Derived.Laws.MakeOwn
import Derived.Defers
import Derived.Recover
import Derived.Laws.BytesArg
import Derived.Lib.Bytes
import Derived.Laws.ShiftsVarLaws
import Derived.RowKit
import GoSem.Claim
import Derived.ChangeShapes
import Derived.ProofKit
import Derived.OpenShut
import Derived.Carry
import Derived.Lib.SmallJoins
import Derived.ChangeOld
import Derived.ChangeArms
import Derived.Great.BuildSlice
namespace Go.Proofs.Ytgmlbimgcifenaa
open Go.RowKit
set_option linter.unusedVariables false

section
variable {P : Program} {ops : Array Oper} {rest : List Oper} {o : Oper} {a : Act} {w : World} {Q : Exit → Act → World → Prop}
theorem load_at_gate_g {ty : TypeId} {x : Operand} {size : Nat} {d : TypeDesc} (hw : Region.wanted o (yielded ops a.tmps) = true) (ho : o.op = .load ty x) (hu : P.underlying ty = some d) (hd : d.isRow = true) (hi : (P.info? ty).map (·.size) = some size) (h : LoadAt P ops Q rest o.dst (a.eval x) size a w) : wpList P ops Q (o :: rest) a w := by
  obtain ⟨ad, cs, hx, hc, hs, h⟩ := h
  refine wpList_step fun K hK => ?_
  rw [if_pos hw]
  unfold Oper.wp execOp
  simp only [ho, hx, Instr.loadAt, Instr.sureAddr, Sem.run_bind, Sem.run_pure, Result.andThen_ok, run_loadVar_any w ad ty cs d hc hu hd (by rw [hi, hs])]
  exact hK _ _ h
end
/-- The first n of a slice. -/
theorem run_slice_to {P : Program} {t e : TypeId} {sz : Nat} (a : Option Addr) (len cap n : Nat) (hu : P.underlying t = some (.slice e)) (hs : (P.info? e).map (·.size) = some sz) (h : n ≤ cap) (w : World) :
    (Instr.slice t (.slice a len cap) none (some (.int .i64 (n : Int))) none).run P w = .ok (.slice a n cap) w := by
  have h0 : (0 : Int) ≤ n := by omega
  have h1 : (n : Int) ≤ cap := by omega
  cases hq : P.info? e with
  | none => simp [hq] at hs
  | some i =>
    have ea : (if cap = 0 then a else a.map fun x => x.add 0) = a := by
      split
      · rfl
      · cases a
        · rfl
        · simp [Addr.add]
    simp [Instr.slice, run_underlying hu, Instr.sliceBounds, Instr.sliceBound, asIntOf, sizeOf, typeInfo, hq, h, Addr.add]
end Go.Proofs.Ytgmlbimgcifenaa
namespace En
open Go
set_option linter.unusedVariables false
/-- The document's own state: which kind it is at, behind which slot. -/
def At (kd sl z : Int) : Prop := (kd = 2 ∧ (-1 ≤ sl ∧ sl ≤ 7) ∧ z = sl) ∨ (kd = 1 ∧ (0 ≤ sl ∧ sl ≤ 7) ∧ z = 8 + sl)
end En
namespace Go.Proofs.Ytgmlbimgcifenaa
open Go.RowKit Go.Shelf
set_option linter.unusedVariables false
set_option linter.unusedSimpArgs false

theorem refmayin_any (x y b : Int) (w : World) (hx : -128 ≤ x) (hy : -128 ≤ y) :
    Calls Try.prog 28 #[.agg #[.int .i8 x, .int .i8 y, .int .u8 b]] w fun e w' => e = .returned (.bool (decide (-127 ≤ x ∧ -127 ≤ y))) ∧ Below w.heap.size w w' := by
  by_cases h1 : x = -128
  · subst h1
    go_enter Try.func28, Try.ntmps28
    go_wp2
    go_ret
    exact ⟨ret_bool (by simp), one_below _ _⟩
  · have e1 : (x != -128) = true := by simpa using h1
    by_cases h2 : y = -128
    · subst h2
      go_enter Try.func28, Try.ntmps28
      go_wp2
      go_ret
      exact ⟨ret_bool (by simp), one_below _ _⟩
    · have e2 : (y != -128) = true := by simpa using h2
      have hd : decide (-127 ≤ x ∧ -127 ≤ y) = true := decide_eq_true (by omega)
      rw [hd]
      go_enter Try.func28, Try.ntmps28
      go_wp2
      go_ret
      exact ⟨ret_bool (by simp), one_below _ _⟩

set_option maxRecDepth 100000 in
set_option maxHeartbeats 8000000 in
theorem refmayen_any (e : En.E) (A : Option Addr) (n c : Nat) (w : World) (hn : n = e.evs.length) (hn63 : n ≤ maxLen) (hty : ∀ i, i < 8 → Gm.tyIn (e.inp i)) (hL : Lies w w.heap.size 4 A n (En.evCells e.evs)) :
    Calls Try.prog 24 #[.agg (En.cells e (.slice A n c))] w fun r w' => r = .returned (.bool (decide (En.Ok e))) ∧ Below w.heap.size w w' := by
  obtain ⟨d, hv⟩ : ∃ d, d = decide (En.Ok e) := ⟨_, rfl⟩
  rw [← hv]
  have HV := Lib.hid hv
  have HN := Lib.hid hn
  clear hv hn
  have P0 := Lib.hid (Box.made w 53 (En.cells e (.slice A n c)))
  have K0 := Lib.hid (one_below w (.cells (En.cells e (.slice A n c)) 53))
  have hr0 := Lib.hid ((hL.below K0.out).wider K0.out.size)
  have c0 := P0.out.cell 0
  have c1 := P0.out.cell 1
  rw [En.cells_0] at c0
  rw [En.cells_1] at c1
  have n63 : (n : Int) ≤ 9223372036854775807 := by unfold maxLen at hn63; omega
  clear hL hn63
  by_cases hf1 : e.frame < 0
  · have hno := Lib.hid (show ¬ En.Ok e from fun h => by have := h.frame; omega)
    go_enter Try.func24, Try.ntmps24
    go_wp2
    go_ret
    exact ⟨ret_bool (by rw [HV.out]; exact (decide_eq_false hno.out).symm), K0.out⟩
  by_cases hf2 : 1048576 ≤ e.frame
  · have hno := Lib.hid (show ¬ En.Ok e from fun h => by have := h.frame; omega)
    go_enter Try.func24, Try.ntmps24
    go_wp2
    go_ret
    exact ⟨ret_bool (by rw [HV.out]; exact (decide_eq_false hno.out).symm), K0.out⟩
  have HF := Lib.hid (show 0 ≤ e.frame ∧ e.frame < 1048576 by omega)
  go_enter Try.func24, Try.ntmps24
  go_wp2
  go_loopw [3, 4, 5] (fun kv sv i wr => ∃ (k : Nat) (kd sl z : Int), k ≤ n ∧ i = .int .i64 k ∧ kv = .int .i64 kd ∧ sv = .int .i64 sl ∧ En.At kd sl z ∧ (En.Row (-1) e.evs ↔ En.Row z (e.evs.drop k)) ∧ Below (w.alloc (.cells (En.cells e (.slice A n c)) 53)).heap.size (w.alloc (.cells (En.cells e (.slice A n c)) 53)) wr) (fun _ _ i _ => n - (intOf i).toNat)
  case atStart => exact ⟨0, 2, -1, -1, by omega, rfl, rfl, rfl, .inl ⟨rfl, by omega, rfl⟩, Iff.rfl, Below.refl _ _⟩
  case round =>
    obtain ⟨k, kd, sl, z, hk, rfl, rfl, rfl, hat, hrow, hb⟩ := hrel
    have p1 := ((P0.out.below hb P0.out.lt).cell 1).trans (En.cells_1 _ _)
    have HB := Lib.hid hb
    have KB := Lib.hid (K0.out.trans (hb.mono K0.out.size))
    by_cases hlt : k < n
    · have hk8 : (k : Int) < n := by omega
      have hkl : k < e.evs.length := by have := HN.out; omega
      obtain ⟨ad, rfl, hbl, e0, e1, e2, e3⟩ := evs_at (hr0.out.below hb) HN.out k hkl
      rw [List.drop_eq_getElem_cons hkl] at hrow
      generalize hv : e.evs[k] = v at e0 e1 e2 e3 hrow
      obtain ⟨vk, vs, vg, vp⟩ := v
      dsimp only at e0 e1 e2 e3
      have hrow' : En.Row (-1) e.evs ↔ (En.evOk ⟨vk, vs, vg, vp⟩ ∧ z < En.place ⟨vk, vs, vg, vp⟩) ∧ En.Row (En.place ⟨vk, vs, vg, vp⟩) (e.evs.drop (k + 1)) := hrow
      have HW := Lib.hid hrow'
      have sz := hb.size
      have ltA : ad.block < wr.heap.size := Nat.lt_of_lt_of_le hbl hb.size
      have ltP := (P0.out.below hb P0.out.lt).lt
      have Q1 := Lib.hid (Box.made wr 59 #[.int .i64 vk, .int .i64 vs, .int .i64 vg, .int .i64 vp])
      have K1 := Lib.hid (KB.out.alloc KB.out.size (.cells #[.int .i64 vk, .int .i64 vs, .int .i64 vg, .int .i64 vp] 59))
      have KX := Lib.hid (HB.out.alloc HB.out.size (.cells #[.int .i64 vk, .int .i64 vs, .int .i64 vg, .int .i64 vp] 59))
      have q1 := Q1.out.cell
      have HAT := Lib.hid hat
      clear hrow hrow' hb hv hat
      rcases HAT.out with ⟨rfl, hs, rfl⟩ | ⟨rfl, hs, rfl⟩
      · by_cases k1 : vk = 1
        · subst k1
          have HPL := Lib.hid (show En.place ⟨1, vs, vg, vp⟩ = 8 + vs from rfl)
          by_cases t1 : vs ≤ -1
          · have HNO := Lib.hid (show ¬ (En.evOk ⟨1, vs, vg, vp⟩ ∧ z < En.place ⟨1, vs, vg, vp⟩) from fun h => by obtain ⟨⟨_, h2, _⟩, h5⟩ := h; rw [HPL.out] at h5; dsimp only at h2 h5; omega)
            go_wp2
            go_ret
            exact ⟨ret_bool (by rw [HV.out]; exact (decide_eq_false fun h => absurd (HW.out.1 h.row).1 HNO.out).symm), K1.out⟩
          by_cases t2 : 8 ≤ vs
          · have HNO := Lib.hid (show ¬ (En.evOk ⟨1, vs, vg, vp⟩ ∧ z < En.place ⟨1, vs, vg, vp⟩) from fun h => by obtain ⟨⟨_, h2, h3, h4⟩, _⟩ := h; dsimp only at h2 h3 h4; omega)
            go_wp2
            go_ret
            exact ⟨ret_bool (by rw [HV.out]; exact (decide_eq_false fun h => absurd (HW.out.1 h.row).1 HNO.out).symm), K1.out⟩
          by_cases t3 : vg < 1
          · have HNO := Lib.hid (show ¬ (En.evOk ⟨1, vs, vg, vp⟩ ∧ z < En.place ⟨1, vs, vg, vp⟩) from fun h => by obtain ⟨⟨_, h2, h3, h4⟩, _⟩ := h; dsimp only at h2 h3 h4; omega)
            go_wp2
            go_ret
            exact ⟨ret_bool (by rw [HV.out]; exact (decide_eq_false fun h => absurd (HW.out.1 h.row).1 HNO.out).symm), K1.out⟩
          by_cases t4 : 60000 < vg
          · have HNO := Lib.hid (show ¬ (En.evOk ⟨1, vs, vg, vp⟩ ∧ z < En.place ⟨1, vs, vg, vp⟩) from fun h => by obtain ⟨⟨_, h2, h3, h4⟩, _⟩ := h; dsimp only at h2 h3 h4; omega)
            go_wp2
            go_ret
            exact ⟨ret_bool (by rw [HV.out]; exact (decide_eq_false fun h => absurd (HW.out.1 h.row).1 HNO.out).symm), K1.out⟩
          by_cases t5 : vp < 0
          · have HNO := Lib.hid (show ¬ (En.evOk ⟨1, vs, vg, vp⟩ ∧ z < En.place ⟨1, vs, vg, vp⟩) from fun h => by obtain ⟨⟨_, h2, h3, h4⟩, _⟩ := h; dsimp only at h2 h3 h4; omega)
            go_wp2
            go_ret
            exact ⟨ret_bool (by rw [HV.out]; exact (decide_eq_false fun h => absurd (HW.out.1 h.row).1 HNO.out).symm), K1.out⟩
          by_cases t6 : 12 ≤ vp
          · have HNO := Lib.hid (show ¬ (En.evOk ⟨1, vs, vg, vp⟩ ∧ z < En.place ⟨1, vs, vg, vp⟩) from fun h => by obtain ⟨⟨_, h2, h3, h4⟩, _⟩ := h; dsimp only at h2 h3 h4; omega)
            go_wp2
            go_ret
            exact ⟨ret_bool (by rw [HV.out]; exact (decide_eq_false fun h => absurd (HW.out.1 h.row).1 HNO.out).symm), K1.out⟩
          have HNX := Lib.hid (show En.Row (-1) e.evs ↔ En.Row (8 + vs) (e.evs.drop (k + 1)) from by rw [HW.out, HPL.out]; exact ⟨fun h => h.2, fun h => ⟨⟨⟨by first | exact .inl rfl | exact .inr rfl, by dsimp only; omega, by dsimp only; omega, by dsimp only; omega⟩, by (try dsimp only); omega⟩, h⟩⟩)
          go_wp2
          go_roundw
          case rel => exact ⟨k + 1, 1, vs, 8 + vs, by omega, by go_num, rfl, rfl, .inr ⟨rfl, by omega, rfl⟩, HNX.out, KX.out⟩
          case measure => simp [intOf]; omega
        · by_cases k2 : vk = 2
          · subst k2
            have HPL := Lib.hid (show En.place ⟨2, vs, vg, vp⟩ = vs from rfl)
            by_cases t1 : vs ≤ z
            · have HNO := Lib.hid (show ¬ (En.evOk ⟨2, vs, vg, vp⟩ ∧ z < En.place ⟨2, vs, vg, vp⟩) from fun h => by obtain ⟨⟨_, h2, _⟩, h5⟩ := h; rw [HPL.out] at h5; dsimp only at h2 h5; omega)
              go_wp2
              go_ret
              exact ⟨ret_bool (by rw [HV.out]; exact (decide_eq_false fun h => absurd (HW.out.1 h.row).1 HNO.out).symm), K1.out⟩
            by_cases t2 : 8 ≤ vs
            · have HNO := Lib.hid (show ¬ (En.evOk ⟨2, vs, vg, vp⟩ ∧ z < En.place ⟨2, vs, vg, vp⟩) from fun h => by obtain ⟨⟨_, h2, h3, h4⟩, _⟩ := h; dsimp only at h2 h3 h4; omega)
              go_wp2
              go_ret
              exact ⟨ret_bool (by rw [HV.out]; exact (decide_eq_false fun h => absurd (HW.out.1 h.row).1 HNO.out).symm), K1.out⟩
            by_cases t3 : vg < 1
            · have HNO := Lib.hid (show ¬ (En.evOk ⟨2, vs, vg, vp⟩ ∧ z < En.place ⟨2, vs, vg, vp⟩) from fun h => by obtain ⟨⟨_, h2, h3, h4⟩, _⟩ := h; dsimp only at h2 h3 h4; omega)
              go_wp2
              go_ret
              exact ⟨ret_bool (by rw [HV.out]; exact (decide_eq_false fun h => absurd (HW.out.1 h.row).1 HNO.out).symm), K1.out⟩
            by_cases t4 : 60000 < vg
            · have HNO := Lib.hid (show ¬ (En.evOk ⟨2, vs, vg, vp⟩ ∧ z < En.place ⟨2, vs, vg, vp⟩) from fun h => by obtain ⟨⟨_, h2, h3, h4⟩, _⟩ := h; dsimp only at h2 h3 h4; omega)
              go_wp2
              go_ret
              exact ⟨ret_bool (by rw [HV.out]; exact (decide_eq_false fun h => absurd (HW.out.1 h.row).1 HNO.out).symm), K1.out⟩
            by_cases t5 : vp < 0
            · have HNO := Lib.hid (show ¬ (En.evOk ⟨2, vs, vg, vp⟩ ∧ z < En.place ⟨2, vs, vg, vp⟩) from fun h => by obtain ⟨⟨_, h2, h3, h4⟩, _⟩ := h; dsimp only at h2 h3 h4; omega)
              go_wp2
              go_ret
              exact ⟨ret_bool (by rw [HV.out]; exact (decide_eq_false fun h => absurd (HW.out.1 h.row).1 HNO.out).symm), K1.out⟩
            by_cases t6 : 12 ≤ vp
            · have HNO := Lib.hid (show ¬ (En.evOk ⟨2, vs, vg, vp⟩ ∧ z < En.place ⟨2, vs, vg, vp⟩) from fun h => by obtain ⟨⟨_, h2, h3, h4⟩, _⟩ := h; dsimp only at h2 h3 h4; omega)
              go_wp2
              go_ret
              exact ⟨ret_bool (by rw [HV.out]; exact (decide_eq_false fun h => absurd (HW.out.1 h.row).1 HNO.out).symm), K1.out⟩
            have HNX := Lib.hid (show En.Row (-1) e.evs ↔ En.Row (vs) (e.evs.drop (k + 1)) from by rw [HW.out, HPL.out]; exact ⟨fun h => h.2, fun h => ⟨⟨⟨by first | exact .inl rfl | exact .inr rfl, by dsimp only; omega, by dsimp only; omega, by dsimp only; omega⟩, by (try dsimp only); omega⟩, h⟩⟩)
            go_wp2
            go_roundw
            case rel => exact ⟨k + 1, 2, vs, vs, by omega, by go_num, rfl, rfl, .inl ⟨rfl, by omega, rfl⟩, HNX.out, KX.out⟩
            case measure => simp [intOf]; omega
          · have b1 : (vk == 1) = false := by simpa using k1
            have b2 : (vk != 2) = true := by simpa using k2
            have HNO := Lib.hid (show ¬ (En.evOk ⟨vk, vs, vg, vp⟩ ∧ z < En.place ⟨vk, vs, vg, vp⟩) from fun h => by obtain ⟨⟨h1, _⟩, _⟩ := h; dsimp only at h1; omega)
            go_wp2
            go_ret
            exact ⟨ret_bool (by rw [HV.out]; exact (decide_eq_false fun h => absurd (HW.out.1 h.row).1 HNO.out).symm), K1.out⟩
      · by_cases k1 : vk = 1
        · subst k1
          have HPL := Lib.hid (show En.place ⟨1, vs, vg, vp⟩ = 8 + vs from rfl)
          by_cases t1 : vs ≤ sl
          · have HNO := Lib.hid (show ¬ (En.evOk ⟨1, vs, vg, vp⟩ ∧ 8 + sl < En.place ⟨1, vs, vg, vp⟩) from fun h => by obtain ⟨⟨_, h2, _⟩, h5⟩ := h; rw [HPL.out] at h5; dsimp only at h2 h5; omega)
            go_wp2
            go_ret
            exact ⟨ret_bool (by rw [HV.out]; exact (decide_eq_false fun h => absurd (HW.out.1 h.row).1 HNO.out).symm), K1.out⟩
          by_cases t2 : 8 ≤ vs
          · have HNO := Lib.hid (show ¬ (En.evOk ⟨1, vs, vg, vp⟩ ∧ 8 + sl < En.place ⟨1, vs, vg, vp⟩) from fun h => by obtain ⟨⟨_, h2, h3, h4⟩, _⟩ := h; dsimp only at h2 h3 h4; omega)
            go_wp2
            go_ret
            exact ⟨ret_bool (by rw [HV.out]; exact (decide_eq_false fun h => absurd (HW.out.1 h.row).1 HNO.out).symm), K1.out⟩
          by_cases t3 : vg < 1
          · have HNO := Lib.hid (show ¬ (En.evOk ⟨1, vs, vg, vp⟩ ∧ 8 + sl < En.place ⟨1, vs, vg, vp⟩) from fun h => by obtain ⟨⟨_, h2, h3, h4⟩, _⟩ := h; dsimp only at h2 h3 h4; omega)
            go_wp2
            go_ret
            exact ⟨ret_bool (by rw [HV.out]; exact (decide_eq_false fun h => absurd (HW.out.1 h.row).1 HNO.out).symm), K1.out⟩
          by_cases t4 : 60000 < vg
          · have HNO := Lib.hid (show ¬ (En.evOk ⟨1, vs, vg, vp⟩ ∧ 8 + sl < En.place ⟨1, vs, vg, vp⟩) from fun h => by obtain ⟨⟨_, h2, h3, h4⟩, _⟩ := h; dsimp only at h2 h3 h4; omega)
            go_wp2
            go_ret
            exact ⟨ret_bool (by rw [HV.out]; exact (decide_eq_false fun h => absurd (HW.out.1 h.row).1 HNO.out).symm), K1.out⟩
          by_cases t5 : vp < 0
          · have HNO := Lib.hid (show ¬ (En.evOk ⟨1, vs, vg, vp⟩ ∧ 8 + sl < En.place ⟨1, vs, vg, vp⟩) from fun h => by obtain ⟨⟨_, h2, h3, h4⟩, _⟩ := h; dsimp only at h2 h3 h4; omega)
            go_wp2
            go_ret
            exact ⟨ret_bool (by rw [HV.out]; exact (decide_eq_false fun h => absurd (HW.out.1 h.row).1 HNO.out).symm), K1.out⟩
          by_cases t6 : 12 ≤ vp
          · have HNO := Lib.hid (show ¬ (En.evOk ⟨1, vs, vg, vp⟩ ∧ 8 + sl < En.place ⟨1, vs, vg, vp⟩) from fun h => by obtain ⟨⟨_, h2, h3, h4⟩, _⟩ := h; dsimp only at h2 h3 h4; omega)
            go_wp2
            go_ret
            exact ⟨ret_bool (by rw [HV.out]; exact (decide_eq_false fun h => absurd (HW.out.1 h.row).1 HNO.out).symm), K1.out⟩
          have HNX := Lib.hid (show En.Row (-1) e.evs ↔ En.Row (8 + vs) (e.evs.drop (k + 1)) from by rw [HW.out, HPL.out]; exact ⟨fun h => h.2, fun h => ⟨⟨⟨by first | exact .inl rfl | exact .inr rfl, by dsimp only; omega, by dsimp only; omega, by dsimp only; omega⟩, by (try dsimp only); omega⟩, h⟩⟩)
          go_wp2
          go_roundw
          case rel => exact ⟨k + 1, 1, vs, 8 + vs, by omega, by go_num, rfl, rfl, .inr ⟨rfl, by omega, rfl⟩, HNX.out, KX.out⟩
          case measure => simp [intOf]; omega
        · have b1 : (vk == 1) = false := by simpa using k1
          have b2 : (vk != 1) = true := by simpa using k1
          have HNO := Lib.hid (show ¬ (En.evOk ⟨vk, vs, vg, vp⟩ ∧ 8 + sl < En.place ⟨vk, vs, vg, vp⟩) from fun h => by
            obtain ⟨⟨h1, h2, _⟩, h5⟩ := h
            dsimp only at h1 h2
            have : vk = 2 := by omega
            subst this
            rw [show En.place ⟨2, vs, vg, vp⟩ = vs from rfl] at h5
            omega)
          go_wp2
          go_ret
          exact ⟨ret_bool (by rw [HV.out]; exact (decide_eq_false fun h => absurd (HW.out.1 h.row).1 HNO.out).symm), K1.out⟩
    · have hk8 : ¬ (k : Int) < n := by omega
      obtain rfl : k = n := by omega
      have hd : e.evs.drop k = [] := List.drop_eq_nil_of_le (by have := HN.out; omega)
      rw [hd] at hrow
      have HW := Lib.hid (show En.Row (-1) e.evs from hrow.2 trivial)
      clear hrow hb hat c0 c1
      go_wp2
      go_loopw [7] (fun i wq => ∃ m : Nat, m ≤ 8 ∧ i = .int .i64 m ∧ Below wr.heap.size wr wq ∧ ∀ j, j < m → En.inOk (e.inp j)) (fun i _ => 8 - (intOf i).toNat)
      case atStart => exact ⟨0, by omega, rfl, Below.refl _ _, fun j hj => absurd hj (Nat.not_lt_zero j)⟩
      case round =>
        obtain ⟨m, hm, rfl, hb2, hall⟩ := hrel
        have KM := Lib.hid (KB.out.trans (hb2.mono KB.out.size))
        have PM := Lib.hid ((P0.out.below HB.out P0.out.lt).below hb2 (P0.out.below HB.out P0.out.lt).lt)
        clear p1
        by_cases hlt8 : m < 8
        · have hm8 : (m : Int) < 8 := by omega
          have e0 := (PM.out.cell (2 + m * 3)).trans (En.cells_in e _ m 0 hlt8 (by omega))
          have e1 := (PM.out.cell (2 + m * 3 + 1)).trans (En.cells_in e _ m 1 hlt8 (by omega))
          have e2 := (PM.out.cell (2 + m * 3 + 2)).trans (En.cells_in e _ m 2 hlt8 (by omega))
          have hok : En.inOk (e.inp m) ↔ (-127 ≤ (e.inp m).x ∧ -127 ≤ (e.inp m).y) := Iff.rfl
          have hti := hty m hlt8
          have HK := Lib.hid (show ∀ j, j < m + 1 → j = m ∨ j < m from fun j hj => by omega)
          obtain ⟨p, hp⟩ : ∃ p, p = e.inp m := ⟨_, rfl⟩
          rw [← hp] at e0 e1 e2 hok hti
          obtain ⟨x, y, b⟩ := p
          simp only [Gm.In.cells, List.getElem?_cons_zero, List.getElem?_cons_succ, Nat.add_zero] at e0 e1 e2
          dsimp only at hok
          obtain ⟨tx, ty, tb⟩ := hti
          dsimp only at tx ty tb
          have cs := fun X => Lib.hid (refmayin_any x y b X tx.1 ty.1)
          have HP := Lib.hid hp
          have HALL := Lib.hid hall
          have HB2 := Lib.hid hb2
          clear hp hall hb2
          by_cases hi : -127 ≤ x ∧ -127 ≤ y
          · rw [decide_eq_true hi] at cs
            have hnew := Lib.hid (show ∀ j, j < m + 1 → En.inOk (e.inp j) from fun j hj => by
              rcases HK.out j hj with rfl | h
              · rw [← HP.out]; exact hok.2 hi
              · exact HALL.out j h)
            clear hok hi
            go_wp2_with (go_at_call 28; ((with_reducible refine ((cs _).out).mono ?_); rintro r w2 ⟨rfl, hb⟩; have K2 := Lib.hid (HB2.out.trans (hb.mono HB2.out.size)); clear hb))
            go_roundw
            case rel => exact ⟨m + 1, by omega, by go_num, K2.out, hnew.out⟩
            case measure => simp [intOf]; omega
          · rw [decide_eq_false hi] at cs
            have hno := Lib.hid (show ¬ En.Ok e from fun h => hi (by have := h.ins m hlt8; rw [← HP.out] at this; exact this))
            clear hok hi
            go_wp2_with (go_at_call 28; ((with_reducible refine ((cs _).out).mono ?_); rintro r w2 ⟨rfl, hb⟩; have K2 := Lib.hid (KM.out.trans (hb.mono KM.out.size)); clear hb))
            go_ret
            exact ⟨ret_bool (by rw [HV.out]; exact (decide_eq_false hno.out).symm), K2.out⟩
        · have hm8 : ¬ (m : Int) < 8 := by omega
          obtain rfl : m = 8 := by omega
          have hyes := Lib.hid (show En.Ok e from ⟨HF.out, HW.out, hall⟩)
          clear hall hb2
          go_wp2
          go_ret
          exact ⟨ret_bool (by rw [HV.out]; exact (decide_eq_true hyes.out).symm), KM.out⟩
end Go.Proofs.Ytgmlbimgcifenaa
namespace Bb
open Go Kd
theorem logOf_bare (f : Int) (n : Nat) : ∀ s ∈ logOf f n, s.e.evs = [] ∧ s.adr = none ∧ s.cap = 0 := fun s hs => by
  obtain ⟨i, _, rfl⟩ := logOf_mem hs
  exact ⟨rfl, rfl, rfl⟩
end Bb
namespace Go.Proofs.Ytgmlbimgcifenaa
open Go.RowKit Go.Shelf
set_option linter.unusedVariables false
set_option linter.unusedSimpArgs false

end Go.Proofs.Ytgmlbimgcifenaa
namespace Go.Proofs.Ytgmlbimgcifenaa
open Go Go.RowKit Go.Shelf
set_option linter.unusedVariables false
set_option linter.unusedSimpArgs false

/-- Where the rest of a slice begins. -/
def dropA (A : Option Addr) (cap k : Nat) : Option Addr := if cap - k = 0 then A else A.map fun x => x.add (k * 26)
theorem LiesS.drop {w : World} {B n c : Nat} {A : Option Addr} {l : List En.S} (h : LiesS w B A n l) (k : Nat) (hk : k ≤ n) (hc : n ≤ c) : LiesS w B (dropA A c k) (n - k) (l.drop k) := by
  have hn := h.len
  refine ⟨⟨by rw [En.sCells_len, List.length_drop, hn], fun h0 => ?_, fun ad e h0 j u hu => ?_⟩, fun q hq => h.each q (List.mem_of_mem_drop hq), fun q hq => h.few q (List.mem_of_mem_drop hq)⟩
  · obtain ⟨ad, e, hb⟩ := h.row.start (by omega)
    refine ⟨ad.add (k * 26), by unfold dropA; rw [if_neg (by omega), e]; rfl, by rw [add_block]; exact hb⟩
  · obtain ⟨ad0, e0, hb⟩ := h.row.start (by omega)
    have e1 : ad = ad0.add (k * 26) := by
      unfold dropA at e
      rw [if_neg (by omega), e0] at e
      exact (Option.some.inj e).symm
    have hj : j < (n - k) * 26 := by have := (List.getElem?_eq_some_iff.1 hu).1; rw [En.sCells_len, List.length_drop] at this; omega
    rw [e1, add_twice]
    refine h.row.cell ad0 e0 (by omega) _ u ?_
    have h1 := En.sCells_at (l.drop k) (j / 26) (j % 26) (by rw [List.length_drop]; omega) (by omega)
    have h2 := En.sCells_at l (k + j / 26) (j % 26) (by omega) (by omega)
    rw [show j / 26 * 26 + j % 26 = j by omega, hu] at h1
    rw [show (k + j / 26) * 26 + j % 26 = k * 26 + j by omega] at h2
    rw [h2, h1, List.getElem_drop]
/-- A slice from k on. -/
theorem run_slice_from {P : Program} {t : TypeId} (A : Option Addr) (len cap k : Nat) (hu : P.underlying t = some (.slice 53)) (hs : (P.info? 53).map (·.size) = some 26) (h : k ≤ len) (hc : len ≤ cap) (w : World) :
    (Instr.slice t (.slice A len cap) (some (.int .i64 (k : Int))) none none).run P w = .ok (.slice (dropA A cap k) (len - k) (cap - k)) w := by
  have h0 : (0 : Int) ≤ k := by omega
  have h1 : (k : Int) ≤ len := by omega
  cases hq : P.info? 53 with
  | none => simp [hq] at hs
  | some i =>
    have hs' : i.size = 26 := by simpa [hq] using hs
    simp [Instr.slice, run_underlying hu, Instr.sliceBounds, Instr.sliceBound, asIntOf, sizeOf, typeInfo, hq, h, dropA, hs', hc]
    by_cases hck : cap = k
    · rw [if_pos hck, if_pos (by omega)]
    · rw [if_neg hck, if_neg (by omega)]
end Go.Proofs.Ytgmlbimgcifenaa
namespace Ry
open Go

def isHard (o : Oper) : Bool := match o.op with | .store .. => true | _ => false
def isMake (o : Oper) : Bool := match o.op with | .buildSlice .. | .alloc .. => true | .call c => (match c.callee with | .builtin .append | .value _ => true | _ => false) | _ => false
def isStore (o : Oper) : Bool := isHard o || isMake o
/-- The world is looked at, and left as it is. -/
def isLook (o : Oper) : Bool := match o.op with | .load .. | .nilCheck .. => true | _ => false
/-- Nothing of the world is asked. -/
def isFree (o : Oper) : Bool := match o.op with | .fieldAddr .. | .indexAddr .. | .move .. | .assign .. | .pick .. | .extract .. | .binOp .. | .unOp .. | .build .. | .convert .. | .slice .. => true | _ => false

theorem store_free {o : Oper} (h : isStore o = true) : isFree o = false := by
  unfold isStore isHard isMake at h
  unfold isFree
  generalize o.op = x at h ⊢
  cases x <;> first | rfl | (exact absurd h (by decide)) | (simp at h)
theorem store_look {o : Oper} (h : isStore o = true) : isLook o = false := by
  unfold isStore isHard isMake at h
  unfold isLook
  generalize o.op = x at h ⊢
  cases x <;> first | rfl | (exact absurd h (by decide)) | (simp at h)

/-- What an operation leaves: the value v, a world of C. -/
def Gives (P : Program) (o : Oper) (a : Act) (w : World) (v : Value) (C : World → Prop) : Prop :=
  match (execOp a.eval o).run P w with
  | .ok (.value u) w1 => u = v ∧ C w1
  | .ok .skip w1 => undef = v ∧ C w1
  | .ok (.enter f args) w1 => Calls P f args w1 fun e w2 => e = .returned v ∧ C w2
  | _ => False

theorem Gives.wp {P : Program} {o : Oper} {a : Act} {w : World} {v : Value} {C : World → Prop} {K : Act → World → Prop} {Q : Exit → Act → World → Prop} (h : Gives P o a w v C) (hK : ∀ w', C w' → K (a.put o.dst v) w') : o.wp P a w K Q := by
  unfold Gives at h
  unfold Oper.wp
  generalize (execOp a.eval o).run P w = r at *
  cases r with
  | ok n w1 =>
    cases n <;> simp only [Oper.upon] at h ⊢
    case value u => obtain ⟨rfl, h⟩ := h; exact hK _ h
    case skip => obtain ⟨rfl, h⟩ := h; exact hK _ h
    case enter f args =>
      exact h.mono fun e w2 ⟨he, hw⟩ => by subst he; exact hK _ hw
  | halt x w1 => cases h
theorem Gives.congr {P : Program} {o : Oper} {a a' : Act} {w : World} {v : Value} {C : World → Prop} (h : Gives P o a w v C) (he : execOp a'.eval o = execOp a.eval o) : Gives P o a' w v C := by
  unfold Gives at *; rw [he]; exact h

/-- The walk in the order of the text: C is what is known of the world, D what is known of it till the next store, E what is known all the time; n is how many have been; the looks of st ask E alone. -/
def wpLex (P : Program) (st : List Nat) (E : World → Prop) (Q : Act → (World → Prop) → Prop) : List Oper → Nat → Act → (World → Prop) → (World → Prop) → Prop
  | [], _, a, C, _ => Q a C
  | o :: rest, n, a, C, D =>
    if isStore o then ∃ v C' D', (∀ w, C w → Gives P o a w v C') ∧ (isHard o = false → D' = D) ∧ (∀ w, C' w → D' w ∧ E w) ∧ wpLex P st E Q rest (n + 1) (a.put o.dst v) C' D'
    else if isFree o then ∃ v, (∀ w, Gives P o a w v (fun w' => w' = w)) ∧ wpLex P st E Q rest (n + 1) (a.put o.dst v) C D
    else if isLook o then ∃ v, (∀ w, (if st.contains n then E w else D w) → Gives P o a w v (fun w' => w' = w)) ∧ wpLex P st E Q rest (n + 1) (a.put o.dst v) C D
    else ∃ v, (∀ w, C w → Gives P o a w v C) ∧ wpLex P st E Q rest (n + 1) (a.put o.dst v) C D

/-- A run in the order of the text, written out. -/
structure Run (P : Program) (st : Nat → Bool) (E : World → Prop) (l : List Oper) (A : Nat → Act) (C D : Nat → World → Prop) (v : Nat → Value) : Prop where
  act : ∀ i o, l[i]? = some o → A (i + 1) = (A i).put o.dst (v i)
  store : ∀ i o, l[i]? = some o → isStore o = true → ∀ w, C i w → Gives P o (A i) w (v i) (C (i + 1))
  free : ∀ i o, l[i]? = some o → isStore o = false → isFree o = true → C (i + 1) = C i ∧ ∀ w, Gives P o (A i) w (v i) (fun w' => w' = w)
  look : ∀ i o, l[i]? = some o → isStore o = false → isFree o = false → isLook o = true → C (i + 1) = C i ∧ ∀ w, (if st i then E w else D i w) → Gives P o (A i) w (v i) (fun w' => w' = w)
  read : ∀ i o, l[i]? = some o → isStore o = false → isFree o = false → isLook o = false → C (i + 1) = C i ∧ ∀ w, C i w → Gives P o (A i) w (v i) (C i)
  soft : ∀ i o, l[i]? = some o → isHard o = false → D (i + 1) = D i
  held : ∀ i, i ≤ l.length → ∀ w, C i w → D i w ∧ E w

def consF {α : Type} (x : α) (f : Nat → α) : Nat → α
  | 0 => x
  | i + 1 => f i
theorem Run.cons {P : Program} {st : Nat → Bool} {E : World → Prop} {l : List Oper} {o : Oper} {a : Act} {C D C1 D1 : World → Prop} {u : Value} {A : Nat → Act} {Cs Ds : Nat → World → Prop} {v : Nat → Value} (hr : Run P (fun i => st (i + 1)) E l A Cs Ds v) (hA : A 0 = a.put o.dst u) (hC : Cs 0 = C1) (hD : Ds 0 = D1) (hCD : ∀ w, C w → D w ∧ E w)
    (h1 : isStore o = true → ∀ w, C w → Gives P o a w u C1) (h2 : isStore o = false → isFree o = true → C1 = C ∧ ∀ w, Gives P o a w u (fun w' => w' = w)) (h3 : isStore o = false → isFree o = false → isLook o = true → C1 = C ∧ ∀ w, (if st 0 then E w else D w) → Gives P o a w u (fun w' => w' = w))
    (h4 : isStore o = false → isFree o = false → isLook o = false → C1 = C ∧ ∀ w, C w → Gives P o a w u C) (h5 : isHard o = false → D1 = D) : Run P st E (o :: l) (consF a A) (consF C Cs) (consF D Ds) (consF u v) := by
  refine ⟨?_, ?_, ?_, ?_, ?_, ?_, ?_⟩
  · intro i o' ho'
    cases i with
    | zero => simp at ho'; subst ho'; exact hA
    | succ i => exact hr.act i o' (by simpa using ho')
  · intro i o' ho'
    cases i with
    | zero => simp at ho'; subst ho'; intro hs w hw; show Gives P o a w u (Cs 0); rw [hC]; exact h1 hs w hw
    | succ i => exact hr.store i o' (by simpa using ho')
  · intro i o' ho'
    cases i with
    | zero => simp at ho'; subst ho'; intro hs hf; exact ⟨hC.trans (h2 hs hf).1, (h2 hs hf).2⟩
    | succ i => exact hr.free i o' (by simpa using ho')
  · intro i o' ho'
    cases i with
    | zero => simp at ho'; subst ho'; intro hs hf hl; exact ⟨hC.trans (h3 hs hf hl).1, (h3 hs hf hl).2⟩
    | succ i => exact hr.look i o' (by simpa using ho')
  · intro i o' ho'
    cases i with
    | zero => simp at ho'; subst ho'; intro hs hf hl; exact ⟨hC.trans (h4 hs hf hl).1, (h4 hs hf hl).2⟩
    | succ i => exact hr.read i o' (by simpa using ho')
  · intro i o' ho'
    cases i with
    | zero => simp at ho'; subst ho'; intro hh; exact hD.trans (h5 hh)
    | succ i => exact hr.soft i o' (by simpa using ho')
  · intro i hi
    cases i with
    | zero => exact hCD
    | succ i => exact hr.held i (by simpa using hi)
theorem run_of_lex {P : Program} {st : List Nat} {E : World → Prop} {Q : Act → (World → Prop) → Prop} : ∀ (l : List Oper) (n : Nat) (a : Act) (C D : World → Prop), (∀ w, C w → D w ∧ E w) → wpLex P st E Q l n a C D →
    ∃ A Cs Ds v, Run P (fun i => st.contains (n + i)) E l A Cs Ds v ∧ A 0 = a ∧ Cs 0 = C ∧ Ds 0 = D ∧ Q (A l.length) (Cs l.length)
  | [], n, a, C, D, hCD, h => ⟨fun _ => a, fun _ => C, fun _ => D, fun _ => undef, ⟨fun i o h => by simp at h, fun i o h => by simp at h, fun i o h => by simp at h, fun i o h => by simp at h, fun i o h => by simp at h, fun i o h => by simp at h, fun i _ w hw => hCD w hw⟩, rfl, rfl, rfl, h⟩
  | o :: l, n, a, C, D, hCD, h => by
    unfold wpLex at h
    have shift : (fun i => st.contains (n + 1 + i)) = fun i => (fun j => st.contains (n + j)) (i + 1) := funext fun i => by
      show st.contains (n + 1 + i) = st.contains (n + (i + 1)); rw [show n + 1 + i = n + (i + 1) by omega]
    by_cases hs : isStore o = true
    · rw [if_pos hs] at h
      obtain ⟨u, C', D', h1, hd, hcd, h2⟩ := h
      obtain ⟨A, Cs, Ds, v, hr, hA, hC, hD, hQ⟩ := run_of_lex l (n + 1) _ C' D' hcd h2
      rw [shift] at hr
      exact ⟨_, _, _, _, Run.cons (st := fun j => st.contains (n + j)) hr hA hC hD hCD (fun _ => h1) (fun e => by rw [hs] at e; cases e) (fun e => by rw [hs] at e; cases e) (fun e => by rw [hs] at e; cases e) hd, rfl, rfl, rfl, hQ⟩
    · have hs0 : isStore o = false := by simpa using hs
      have hh0 : isHard o = false := by simp [isStore] at hs0; exact hs0.1
      rw [if_neg hs] at h
      by_cases hf : isFree o = true
      · rw [if_pos hf] at h
        obtain ⟨u, h1, h2⟩ := h
        obtain ⟨A, Cs, Ds, v, hr, hA, hC, hD, hQ⟩ := run_of_lex l (n + 1) _ C D hCD h2
        rw [shift] at hr
        exact ⟨_, _, _, _, Run.cons (st := fun j => st.contains (n + j)) hr hA hC hD hCD (fun e => absurd e hs) (fun _ _ => ⟨rfl, h1⟩) (fun _ e => by rw [hf] at e; cases e) (fun _ e => by rw [hf] at e; cases e) (fun _ => rfl), rfl, rfl, rfl, hQ⟩
      · rw [if_neg hf] at h
        by_cases hl : isLook o = true
        · rw [if_pos hl] at h
          obtain ⟨u, h1, h2⟩ := h
          obtain ⟨A, Cs, Ds, v, hr, hA, hC, hD, hQ⟩ := run_of_lex l (n + 1) _ C D hCD h2
          rw [shift] at hr
          exact ⟨_, _, _, _, Run.cons (st := fun j => st.contains (n + j)) hr hA hC hD hCD (fun e => absurd e hs) (fun _ e => absurd e hf) (fun _ _ _ => ⟨rfl, h1⟩) (fun _ _ e => by rw [hl] at e; cases e) (fun _ => rfl), rfl, rfl, rfl, hQ⟩
        · rw [if_neg hl] at h
          obtain ⟨u, h1, h2⟩ := h
          obtain ⟨A, Cs, Ds, v, hr, hA, hC, hD, hQ⟩ := run_of_lex l (n + 1) _ C D hCD h2
          rw [shift] at hr
          exact ⟨_, _, _, _, Run.cons (st := fun j => st.contains (n + j)) hr hA hC hD hCD (fun e => absurd e hs) (fun _ e => absurd e hf) (fun _ _ e => absurd e hl) (fun _ _ _ => ⟨rfl, h1⟩) (fun _ => rfl), rfl, rfl, rfl, hQ⟩

section
variable {l : List Oper} {v : Nat → Value} {a0 : Act}
structure Shape (l : List Oper) (v : Nat → Value) (a0 : Act) (S : Nat → Bool) (a : Act) : Prop where
  size : a.tmps.size = a0.tmps.size
  defers : a.defers = a0.defers
  done : ∀ j o t, l[j]? = some o → o.dst = some t → S j = true → a.tmps[t]? = if t < a0.tmps.size then some (v j) else none
  rest : ∀ t, (∀ j o, l[j]? = some o → o.dst = some t → S j = false) → a.tmps[t]? = a0.tmps[t]?

def Distinct (l : List Oper) : Prop := ∀ (i j : Nat) (oi oj : Oper) (t : Tmp), l[i]? = some oi → l[j]? = some oj → oi.dst = some t → oj.dst = some t → i = j

theorem Shape.start : Shape l v a0 (fun _ => false) a0 := ⟨rfl, rfl, fun _ _ _ _ _ h => (by cases h), fun _ _ => rfl⟩
theorem Shape.put {S : Nat → Bool} {a : Act} (hd : Distinct l) (h : Shape l v a0 S a) {i : Nat} {o : Oper} (ho : l[i]? = some o) : Shape l v a0 (fun j => S j || j == i) (a.put o.dst (v i)) := by
  cases hdst : o.dst with
  | none =>
    refine ⟨h.size, h.defers, fun j oj t hj ht hS => ?_, fun t ht => ?_⟩
    · simp only [Bool.or_eq_true, beq_iff_eq] at hS
      rcases hS with hS | rfl
      · exact h.done j oj t hj ht hS
      · rw [ho] at hj; injection hj with hj; subst hj; rw [hdst] at ht; cases ht
    · exact h.rest t fun j oj hj ht' => by have := ht j oj hj ht'; simp at this; exact this.1
  | some d =>
    refine ⟨by simp [Act.put, h.size], h.defers, fun j oj t hj ht hS => ?_, fun t ht => ?_⟩
    · simp only [Act.put, Array.getElem?_setIfInBounds]
      by_cases htd : d = t
      · subst htd
        have : j = i := hd j i oj o d hj ho ht hdst
        subst this
        rw [if_pos rfl, h.size]
      · rw [if_neg htd]
        simp only [Bool.or_eq_true, beq_iff_eq] at hS
        rcases hS with hS | rfl
        · exact h.done j oj t hj ht hS
        · rw [ho] at hj; injection hj with hj; subst hj; rw [hdst] at ht; injection ht with ht; exact absurd ht htd
    · have hne : d ≠ t := fun e => by subst e; have := ht i o ho hdst; simp at this
      simp only [Act.put, Array.getElem?_setIfInBounds, if_neg hne]
      exact h.rest t fun j oj hj ht' => by have := ht j oj hj ht'; simp at this; exact this.1
theorem Shape.same {S S' : Nat → Bool} {a a' : Act} (h : Shape l v a0 S a) (h' : Shape l v a0 S' a') {t : Nat} (hS : ∀ j o, l[j]? = some o → o.dst = some t → S j = S' j) : a.tmps[t]? = a'.tmps[t]? := by
  by_cases hx : ∃ j o, l[j]? = some o ∧ o.dst = some t ∧ S j = true
  · obtain ⟨j, o, hj, ht, hs⟩ := hx
    rw [h.done j o t hj ht hs, h'.done j o t hj ht (by rw [← hS j o hj ht]; exact hs)]
  · have hn : ∀ j o, l[j]? = some o → o.dst = some t → S j = false := fun j o hj ht => by
      cases hs : S j
      · rfl
      · exact absurd ⟨j, o, hj, ht, hs⟩ hx
    rw [h.rest t hn, h'.rest t fun j o hj ht => by rw [← hS j o hj ht]; exact hn j o hj ht]
theorem Shape.ext {S S' : Nat → Bool} {a a' : Act} (h : Shape l v a0 S a) (h' : Shape l v a0 S' a') (hS : ∀ j o, l[j]? = some o → S j = S' j) : a = a' := by
  have ht : a.tmps = a'.tmps := Array.ext_getElem? fun t => h.same h' fun j o hj _ => hS j o hj
  have hd : a.defers = a'.defers := h.defers.trans h'.defers.symm
  cases a; cases a'; simp_all
theorem Shape.congr {S S' : Nat → Bool} {a : Act} (h : Shape l v a0 S a) (hS : ∀ j o, l[j]? = some o → S j = S' j) : Shape l v a0 S' a :=
  ⟨h.size, h.defers, fun j o t hj ht hs => h.done j o t hj ht (by rw [hS j o hj]; exact hs), fun t ht => h.rest t fun j o hj hd => by rw [hS j o hj]; exact ht j o hj hd⟩
theorem Run.shape {P : Program} {st : Nat → Bool} {E : World → Prop} {A : Nat → Act} {C D : Nat → World → Prop} (hr : Run P st E l A C D v) (hd : Distinct l) : ∀ k, k ≤ l.length → Shape l v (A 0) (fun j => decide (j < k)) (A k)
  | 0, _ => Shape.start.congr fun j o _ => by simp
  | k + 1, hk => by
    have ho : l[k]? = some (l[k]'(by omega)) := List.getElem?_eq_getElem (by omega)
    rw [hr.act k _ ho]
    refine ((Run.shape hr hd k (by omega)).put hd ho).congr fun j o _ => ?_
    rw [Bool.eq_iff_iff]; simp; omega
end

/-- Does i wait for j? As the table says. -/
def tb (b : Array Nat) (i j : Nat) : Bool := (b.getD i 0).testBit j
def pairB (st : List Nat) (l : List Oper) (b : Array Nat) (i j : Nat) : Bool :=
  match l[i]?, l[j]? with
  | some oi, some oj =>
    (!(tb b i j) || oi.after.any fun e => Region.binds .any e && (e.on == j || tb b e.on j)) &&
    (i == j || ((match oi.dst, oj.dst with | some d, some d' => d != d' | _, _ => true) &&
      (match oj.dst with | some d => !(oi.looksAt l.toArray).contains d || (if j < i then tb b i j else tb b j i) | none => true) &&
      (!isStore oj || isFree oi || (isLook oi && (!isHard oj || st.contains i)) || (if j < i then tb b i j else tb b j i))))
  | _, _ => true
def oneB (l : List Oper) (i : Nat) : Bool :=
  match l[i]? with
  | some o => o.guard.isNone && !(isStore o && isFree o) && o.after.all fun e => !Region.binds .any e || decide (e.on < i)
  | none => true
def okB (st : List Nat) (l : List Oper) : Bool :=
  Region.noSelect l.toArray && ((List.range l.length).all fun i => oneB l i && (List.range l.length).all fun j => pairB st l (Region.before l.toArray) i j)

structure Ok (st : List Nat) (l : List Oper) (cl : Nat → Nat → Bool) : Prop where
  sel : Region.noSelect l.toArray = true
  guard : ∀ (i : Nat) (o : Oper), l[i]? = some o → o.guard = none
  down : ∀ (i : Nat) (o : Oper), l[i]? = some o → ∀ e ∈ o.after, Region.binds .any e = true → e.on < i
  cert : ∀ (i j : Nat) (o oj : Oper), l[i]? = some o → l[j]? = some oj → cl i j = true → ∃ e ∈ o.after, Region.binds .any e = true ∧ (e.on = j ∨ cl e.on j = true)
  dist : Distinct l
  looks : ∀ (i j : Nat) (oi oj : Oper) (t : Tmp), l[i]? = some oi → l[j]? = some oj → i ≠ j → oj.dst = some t → t ∈ oi.looksAt l.toArray → (if j < i then cl i j else cl j i) = true
  store : ∀ (i j : Nat) (oi oj : Oper), l[i]? = some oi → l[j]? = some oj → i ≠ j → isStore oj = true → isFree oi = false → (isLook oi && (!isHard oj || st.contains i)) = false → (if j < i then cl i j else cl j i) = true
theorem Ok.of (st : List Nat) (l : List Oper) (h : okB st l = true) : Ok st l (tb (Region.before l.toArray)) := by
  simp only [okB, Bool.and_eq_true] at h
  obtain ⟨h0, h⟩ := h
  have h1 : ∀ i o, l[i]? = some o → oneB l i = true ∧ ∀ j oj, l[j]? = some oj → pairB st l (Region.before l.toArray) i j = true := fun i o ho => by
    have hi : i < l.length := (List.getElem?_eq_some_iff.1 ho).1
    have := List.all_eq_true.1 h i (List.mem_range.2 hi)
    simp only [Bool.and_eq_true] at this
    exact ⟨this.1, fun j oj hj => List.all_eq_true.1 this.2 j (List.mem_range.2 (List.getElem?_eq_some_iff.1 hj).1)⟩
  have one : ∀ i o, l[i]? = some o → (o.guard.isNone = true ∧ (!(isStore o && isFree o)) = true) ∧ (o.after.all fun e => !Region.binds .any e || decide (e.on < i)) = true := fun i o ho => by
    have := (h1 i o ho).1
    simp only [oneB, ho, Bool.and_eq_true] at this
    exact this
  have two : ∀ i j oi oj, l[i]? = some oi → l[j]? = some oj →
      (!(tb (Region.before l.toArray) i j) || oi.after.any fun e => Region.binds .any e && (e.on == j || tb (Region.before l.toArray) e.on j)) = true ∧
      (i == j || ((match oi.dst, oj.dst with | some d, some d' => d != d' | _, _ => true) &&
      (match oj.dst with | some d => !(oi.looksAt l.toArray).contains d || (if j < i then tb (Region.before l.toArray) i j else tb (Region.before l.toArray) j i) | none => true) &&
      (!isStore oj || isFree oi || (isLook oi && (!isHard oj || st.contains i)) || (if j < i then tb (Region.before l.toArray) i j else tb (Region.before l.toArray) j i)))) = true := fun i j oi oj hi hj => by
    have := (h1 i oi hi).2 j oj hj
    simp only [pairB, hi, hj, Bool.and_eq_true] at this
    exact this
  refine ⟨h0, fun i o ho => by simpa using (one i o ho).1.1, fun i o ho e he hb => ?_, fun i j o oj hi hj hc => ?_, fun i j oi oj t hi hj hdi hdj => ?_, fun i j oi oj t hi hj hne hdj ht => ?_, fun i j oi oj hi hj hne hs hf hlk => ?_⟩
  · have := (Array.all_eq_true_iff_forall_mem.1 (one i o ho).2) e he
    simpa [hb] using this
  · have := (two i j o oj hi hj).1
    rw [hc] at this
    simp at this
    obtain ⟨k, hk, h1, h2⟩ := this
    exact ⟨o.after[k], Array.getElem_mem hk, h1, h2⟩
  · by_cases hij : i = j
    · exact hij
    · have := (two i j oi oj hi hj).2
      simp [hij, hdi, hdj] at this
  · have := (two i j oi oj hi hj).2
    simp only [Bool.or_eq_true, beq_iff_eq, Bool.and_eq_true, hne, false_or, hdj] at this
    have h2 := this.1.2
    rcases h2 with h2 | h2
    · simp at h2; exact absurd ht h2
    · exact h2
  · have := (two i j oi oj hi hj).2
    simp only [Bool.or_eq_true, beq_iff_eq, Bool.and_eq_true, hne, false_or] at this
    rcases this.2 with ((h2 | h2) | h2) | h2
    · simp [hs] at h2
    · rw [hf] at h2; cases h2
    · simp only [h2.1, Bool.true_and] at hlk; have h3' := h2.2; simp only [Bool.or_eq_false_iff] at hlk; rcases h3' with h3 | h3
      · rw [hlk.1] at h3; cases h3
      · rw [hlk.2] at h3; cases h3
    · exact h2

/-- How many have not been. -/
def unl (f : Nat → Bool) : Nat → Nat
  | 0 => 0
  | k + 1 => unl f k + (if f k then 0 else 1)
theorem unl_le (f : Nat → Bool) : ∀ n, unl f n ≤ n
  | 0 => Nat.le_refl _
  | n + 1 => by have := unl_le f n; unfold unl; split <;> omega
theorem unl_zero {f : Nat → Bool} : ∀ {n}, unl f n = 0 → ∀ i, i < n → f i = true
  | 0, _, i, h => absurd h (by omega)
  | n + 1, h, i, hi => by
    unfold unl at h
    by_cases hfn : f n = true
    · rw [if_pos hfn] at h
      by_cases hin : i = n
      · rw [hin]; exact hfn
      · exact unl_zero (n := n) (by omega) i (by omega)
    · rw [if_neg hfn] at h; omega
theorem unl_congr {f g : Nat → Bool} : ∀ {n}, (∀ i, i < n → f i = g i) → unl f n = unl g n
  | 0, _ => rfl
  | n + 1, h => by unfold unl; rw [unl_congr (n := n) fun i hi => h i (by omega), h n (by omega)]
theorem unl_set {f g : Nat → Bool} {i : Nat} (h0 : f i = false) (h1 : g i = true) (ho : ∀ j, j ≠ i → g j = f j) : ∀ {n}, i < n → unl g n + 1 = unl f n
  | 0, h => absurd h (by omega)
  | n + 1, h => by
    unfold unl
    by_cases hin : i = n
    · subst hin
      rw [unl_congr (n := i) fun j hj => ho j (by omega), h0, h1]; simp
    · have := unl_set h0 h1 ho (n := n) (by omega)
      rw [ho n (by omega)]; omega

structure Inv (l : List Oper) (v : Nat → Value) (a0 : Act) (C : Nat → World → Prop) (listed : Array Bool) (a : Act) (w : World) : Prop where
  size : listed.size = l.length
  closed : ∀ (i : Nat) (o : Oper), l[i]? = some o → listed.getD i false = true → ∀ e ∈ o.after, Region.binds .any e = true → listed.getD e.on false = true
  shape : Shape l v a0 (fun j => listed.getD j false) a
  world : ∀ i, i ≤ l.length → (∀ (j : Nat) (o : Oper), l[j]? = some o → isStore o = true → listed.getD j false = decide (j < i)) → C i w

section
variable {P : Program} {st : List Nat} {E : World → Prop} {l : List Oper} {A : Nat → Act} {C D : Nat → World → Prop} {v : Nat → Value} {cl : Nat → Nat → Bool} {listed : Array Bool} {a : Act} {w : World}
theorem Inv.down (ok : Ok st l cl) (h : Inv l v (A 0) C listed a w) : ∀ (n i j : Nat), i < n → (∃ o, l[i]? = some o) → (∃ o, l[j]? = some o) → cl i j = true → listed.getD i false = true → listed.getD j false = true
  | 0, _, _, hi, _, _, _, _ => absurd hi (by omega)
  | n + 1, i, j, hi, ⟨o, ho⟩, ⟨oj, hj⟩, hc, hl => by
    obtain ⟨e, he, hb, h'⟩ := ok.cert i j o oj ho hj hc
    have h1 := h.closed i o ho hl e he hb
    rcases h' with rfl | h'
    · exact h1
    · have hd := ok.down i o ho e he hb
      have hlt : i < l.length := (List.getElem?_eq_some_iff.1 ho).1
      exact Inv.down ok h n e.on j (by omega) ⟨_, List.getElem?_eq_getElem (show e.on < l.length by omega)⟩ ⟨oj, hj⟩ h' h1
/-- What stands between stores is one class. -/
theorem Run.between (hr : Run P (fun i => st.contains i) E l A C D v) {i : Nat} : ∀ (d k : Nat), k = i + d → k ≤ l.length → (∀ (j : Nat) (o : Oper), l[j]? = some o → isStore o = true → i ≤ j → j < k → False) → C k = C i
  | 0, k, hk, _, _ => by rw [hk]; rfl
  | d + 1, k, hk, hl, hn => by
    have ih := Run.between hr d (k - 1) (by omega) (by omega) (fun j o hj hs h1 h2 => hn j o hj hs h1 (by omega))
    have ho : l[k - 1]? = some (l[k - 1]'(by omega)) := List.getElem?_eq_getElem (by omega)
    have hs : isStore (l[k - 1]'(by omega)) = false := by
      cases h : isStore (l[k - 1]'(by omega))
      · rfl
      · exact (hn _ _ ho h (by omega) (by omega)).elim
    have e : k - 1 + 1 = k := by omega
    cases hf : isFree (l[k - 1]'(by omega))
    · cases hl : isLook (l[k - 1]'(by omega))
      · have := (hr.read _ _ ho hs hf hl).1; rw [e] at this; rw [this, ih]
      · have := (hr.look _ _ ho hs hf hl).1; rw [e] at this; rw [this, ih]
    · have := (hr.free _ _ ho hs hf).1; rw [e] at this; rw [this, ih]
theorem Run.one (hr : Run P (fun i => st.contains i) E l A C D v) {f : Nat → Bool} {i k : Nat} (hi : i ≤ l.length) (hk : k ≤ l.length) (h1 : ∀ (j : Nat) (o : Oper), l[j]? = some o → isStore o = true → f j = decide (j < i)) (h2 : ∀ (j : Nat) (o : Oper), l[j]? = some o → isStore o = true → f j = decide (j < k)) : C k = C i := by
  rcases Nat.le_total i k with h | h
  · exact hr.between (k - i) k (by omega) hk fun j o hj hs ha hb => by
      have e1 := h1 j o hj hs; have e2 := h2 j o hj hs
      rw [e1] at e2; simp at e2; omega
  · exact (hr.between (i - k) i (by omega) hi fun j o hj hs ha hb => by
      have e1 := h1 j o hj hs; have e2 := h2 j o hj hs
      rw [e1] at e2; simp at e2; omega).symm

theorem Run.steady (hr : Run P (fun i => st.contains i) E l A C D v) {i : Nat} : ∀ (d k : Nat), k = i + d → k ≤ l.length → (∀ (j : Nat) (o : Oper), l[j]? = some o → isHard o = true → i ≤ j → j < k → False) → D k = D i
  | 0, k, hk, _, _ => by rw [hk]; rfl
  | d + 1, k, hk, hl, hn => by
    have ih := Run.steady hr d (k - 1) (by omega) (by omega) (fun j o hj hs h1 h2 => hn j o hj hs h1 (by omega))
    have ho : l[k - 1]? = some (l[k - 1]'(by omega)) := List.getElem?_eq_getElem (by omega)
    have hs : isHard (l[k - 1]'(by omega)) = false := by
      cases h : isHard (l[k - 1]'(by omega))
      · rfl
      · exact (hn _ _ ho h (by omega) (by omega)).elim
    have e : k - 1 + 1 = k := by omega
    have := hr.soft _ _ ho hs; rw [e] at this; rw [this, ih]
/-- Of the acts the first so many have been. -/
theorem Inv.where_ (ok : Ok st l cl) (h : Inv l v (A 0) C listed a w) : ∃ k, k ≤ l.length ∧ ∀ (j : Nat) (o : Oper), l[j]? = some o → isStore o = true → listed.getD j false = decide (j < k) := by
  have key : ∀ n, n ≤ l.length → (∀ (j : Nat) (o : Oper), l[j]? = some o → isStore o = true → j < n → listed.getD j false = true) ∨ ∃ k, k < n ∧ ∃ o, l[k]? = some o ∧ isStore o = true ∧ listed.getD k false = false ∧ ∀ (j : Nat) (o : Oper), l[j]? = some o → isStore o = true → j < k → listed.getD j false = true := by
    intro n
    induction n with
    | zero => intro _; exact .inl fun j o _ _ hj => absurd hj (by omega)
    | succ n ih =>
      intro hn
      rcases ih (by omega) with h1 | ⟨k, hk, h1⟩
      · have ho : l[n]? = some (l[n]'(by omega)) := List.getElem?_eq_getElem (by omega)
        by_cases hs : isStore (l[n]'(by omega)) = true
        · cases hl : listed.getD n false
          · exact .inr ⟨n, by omega, _, ho, hs, hl, h1⟩
          · refine .inl fun j o hj hso hjn => ?_
            by_cases e : j = n
            · subst e; exact hl
            · exact h1 j o hj hso (by omega)
        · refine .inl fun j o hj hso hjn => ?_
          by_cases e : j = n
          · subst e; rw [ho] at hj; injection hj with hj; subst hj; exact absurd hso hs
          · exact h1 j o hj hso (by omega)
      · exact .inr ⟨k, by omega, h1⟩
  rcases key l.length (Nat.le_refl _) with h1 | ⟨k, hk, o, ho, hs, hl, h1⟩
  · refine ⟨l.length, Nat.le_refl _, fun j o hj hso => ?_⟩
    have := (List.getElem?_eq_some_iff.1 hj).1
    rw [h1 j o hj hso this]; simp [this]
  · refine ⟨k, by omega, fun j oj hj hsj => ?_⟩
    by_cases hjk : j < k
    · rw [h1 j oj hj hsj hjk]; simp [hjk]
    · by_cases e : j = k
      · subst e; rw [hl]; simp
      · have hf : isFree o = false := store_free hs
        have hlk : isLook o = false := store_look hs
        have hc := ok.store k j o oj ho hj (fun e' => e e'.symm) hsj hf (by simp [hlk])
        rw [if_neg (by omega)] at hc
        cases hlj : listed.getD j false
        · simp [hjk]
        · have := h.down ok l.length j k (List.getElem?_eq_some_iff.1 hj).1 ⟨oj, hj⟩ ⟨o, ho⟩ hc hlj
          rw [hl] at this; cases this
theorem Inv.step (hr : Run P (fun i => st.contains i) E l A C D v) (ok : Ok st l cl) (h : Inv l v (A 0) C listed a w) {Q : Exit → Act → World → Prop} {i : Nat} (hi : i ∈ Region.ready .any l.toArray listed) :
    wpOp P l.toArray Q i (fun a' w' => Inv l v (A 0) C (listed.setIfInBounds i true) a' w') a w := by
  obtain ⟨hun, o, ho', hdeps⟩ := mem_ready.1 hi
  have ho : l[i]? = some o := by simpa using ho'
  have hil : i < l.length := (List.getElem?_eq_some_iff.1 ho).1
  have his : i < listed.size := by rw [h.size]; exact hil
  have hun' : listed.getD i false = false := by simp [his] at hun ⊢; exact hun
  -- who is waited for has been; who waits has not
  have before : ∀ j oj, l[j]? = some oj → cl i j = true → listed.getD j false = true := fun j oj hj hc => by
    obtain ⟨e, he, hb, h'⟩ := ok.cert i j o oj ho hj hc
    have h1 := hdeps e he hb
    rcases h' with rfl | h'
    · exact h1
    · have hd := ok.down i o ho e he hb
      exact h.down ok l.length e.on j (by omega) ⟨_, List.getElem?_eq_getElem (show e.on < l.length by omega)⟩ ⟨oj, hj⟩ h' h1
  have behind : ∀ j oj, l[j]? = some oj → cl j i = true → listed.getD j false = false := fun j oj hj hc => by
    cases hl : listed.getD j false
    · rfl
    · have hjl : j < l.length := (List.getElem?_eq_some_iff.1 hj).1
      have := h.down ok l.length j i hjl ⟨oj, hj⟩ ⟨o, ho⟩ hc hl
      rw [hun'] at this; cases this
  have exec : execOp a.eval o = execOp (A i).eval o := execOp_congr o (fun cs b => Region.noSelect_spec ok.sel i o cs b ho') fun x hx => by
    cases x with
    | tmp t =>
      have ht : t ∈ o.looksAt l.toArray := List.mem_append_left _ (List.mem_filterMap.2 ⟨.tmp t, by simpa using hx, rfl⟩)
      have e := h.shape.same (hr.shape ok.dist i (by omega)) (t := t) fun j oj hj hd => by
        by_cases hji : j = i
        · subst hji; rw [hun']; simp
        · have hc := ok.looks i j o oj t ho hj (fun e => hji e.symm) hd ht
          by_cases hlt : j < i
          · rw [if_pos hlt] at hc; rw [before j oj hj hc]; simp [hlt]
          · rw [if_neg hlt] at hc; rw [behind j oj hj hc]; simp [hlt]
      simp only [Act.eval, Array.getD_eq_getD_getElem?, e]
    | const => rfl
    | global => rfl
    | func => rfl
  have hg := ok.guard i o ho
  have getset : ∀ j, (listed.setIfInBounds i true).getD j false = (listed.getD j false || j == i) := fun j => by
    by_cases hji : j = i
    · subst hji; simp [his]
    · rw [getD_set_ne false (fun e => hji e.symm)]; simp [hji]
  -- what is left of the invariant, whatever comes of the world
  have next : ∀ w', (∀ k, k ≤ l.length → (∀ (j : Nat) (oj : Oper), l[j]? = some oj → isStore oj = true → (listed.getD j false || j == i) = decide (j < k)) → C k w') → Inv l v (A 0) C (listed.setIfInBounds i true) (a.put o.dst (v i)) w' := fun w' hw => by
    refine ⟨by simp [h.size], fun j oj hj hl e he hb => ?_, (h.shape.put ok.dist ho).congr fun j oj hj => (getset j).symm, fun k hk hst => hw k hk fun j oj hj hs => by rw [← getset j]; exact hst j oj hj hs⟩
    rw [getset] at hl ⊢
    simp only [Bool.or_eq_true, beq_iff_eq] at hl ⊢
    rcases hl with hl | rfl
    · exact .inl (h.closed j oj hj hl e he hb)
    · rw [ho] at hj; injection hj with hj; subst hj; exact .inl (hdeps e he hb)
  unfold wpOp
  simp only [ho', Region.wanted, hg, if_true]
  refine .inl ?_
  cases hs : isStore o
  · cases hf : isFree o
    · cases hl : isLook o
      · -- a call
        have here : ∀ (j : Nat) (oj : Oper), l[j]? = some oj → isStore oj = true → listed.getD j false = decide (j < i) := fun j oj hj hsj => by
          have hji : j ≠ i := fun e => by subst e; rw [ho] at hj; injection hj with hj; subst hj; rw [hs] at hsj; cases hsj
          have hc := ok.store i j o oj ho hj (fun e => hji e.symm) hsj hf (by simp [hl])
          by_cases hlt : j < i
          · rw [if_pos hlt] at hc; rw [before j oj hj hc]; simp [hlt]
          · rw [if_neg hlt] at hc; rw [behind j oj hj hc]; simp [hlt]
        have hw := h.world i (by omega) here
        refine (((hr.read i o ho hs hf hl).2 w hw).congr exec).wp fun w' hw' => next w' fun k hk hst => ?_
        have hst' : ∀ (j : Nat) (oj : Oper), l[j]? = some oj → isStore oj = true → listed.getD j false = decide (j < k) := fun j oj hj hsj => by
          have hji : j ≠ i := fun e => by subst e; rw [ho] at hj; injection hj with hj; subst hj; rw [hs] at hsj; cases hsj
          have := hst j oj hj hsj; rw [show (j == i) = false from by simpa using hji, Bool.or_false] at this; exact this
        rw [hr.one (f := fun j => listed.getD j false) (by omega) hk here hst']; exact hw'
      · -- a look
        obtain ⟨k0, hk0, hat⟩ := h.where_ ok
        have hD : if st.contains i then E w else D i w := by
          have h00 := hr.held k0 hk0 w (h.world k0 hk0 hat)
          by_cases hst0 : st.contains i = true
          · rw [if_pos hst0]; exact h00.2
          rw [if_neg hst0]
          have h0 := h00.1
          have hst0 : st.contains i = false := by simpa using hst0
          have hard : ∀ (j : Nat) (oj : Oper), l[j]? = some oj → isHard oj = true → listed.getD j false = decide (j < i) ∧ j ≠ i := fun j oj hj hhj => by
            have hsj : isStore oj = true := by simp [isStore, hhj]
            have hji : j ≠ i := fun e => by subst e; rw [ho] at hj; injection hj with hj; subst hj; rw [hs] at hsj; cases hsj
            have hc := ok.store i j o oj ho hj (fun e => hji e.symm) hsj hf (by rw [hhj, hst0]; simp)
            by_cases hlt : j < i
            · rw [if_pos hlt] at hc; rw [before j oj hj hc]; simp [hlt, hji]
            · rw [if_neg hlt] at hc; rw [behind j oj hj hc]; simp [hlt, hji]
          have none : ∀ (j : Nat) (oj : Oper), l[j]? = some oj → isHard oj = true → decide (j < k0) = decide (j < i) := fun j oj hj hhj => by
            rw [← hat j oj hj (by simp [isStore, hhj])]; exact (hard j oj hj hhj).1
          rcases Nat.le_total i k0 with hle | hle
          · rw [hr.steady (i := i) (k0 - i) k0 (by omega) hk0 fun j oj hj hh h1 h2 => by
              have := none j oj hj hh; simp [h2] at this; omega] at h0
            exact h0
          · rw [← hr.steady (i := k0) (i - k0) i (by omega) (by omega) fun j oj hj hh h1 h2 => by
              have := none j oj hj hh; simp [h2] at this; omega] at h0
            exact h0
        refine (((hr.look i o ho hs hf hl).2 w hD).congr exec).wp fun w' hw' => next w' fun k hk hst => ?_
        subst hw'
        refine h.world k hk fun j oj hj hsj => ?_
        have hji : j ≠ i := fun e => by subst e; rw [ho] at hj; injection hj with hj; subst hj; rw [hs] at hsj; cases hsj
        have := hst j oj hj hsj; rw [show (j == i) = false from by simpa using hji, Bool.or_false] at this; exact this
    · -- nothing of the world
      refine (((hr.free i o ho hs hf).2 w).congr exec).wp fun w' hw' => next w' fun k hk hst => ?_
      subst hw'
      refine h.world k hk fun j oj hj hsj => ?_
      have hji : j ≠ i := fun e => by subst e; rw [ho] at hj; injection hj with hj; subst hj; rw [hs] at hsj; cases hsj
      have := hst j oj hj hsj; rw [show (j == i) = false from by simpa using hji, Bool.or_false] at this; exact this
  · -- a store
    have hf : isFree o = false := store_free hs
    have hlk : isLook o = false := store_look hs
    have here : ∀ (j : Nat) (oj : Oper), l[j]? = some oj → isStore oj = true → listed.getD j false = decide (j < i) := fun j oj hj hsj => by
      by_cases hji : j = i
      · subst hji; rw [hun']; simp
      · have hc := ok.store i j o oj ho hj (fun e => hji e.symm) hsj hf (by simp [hlk])
        by_cases hlt : j < i
        · rw [if_pos hlt] at hc; rw [before j oj hj hc]; simp [hlt]
        · rw [if_neg hlt] at hc; rw [behind j oj hj hc]; simp [hlt]
    have hw := h.world i (by omega) here
    have hgv := hr.store i o ho hs w hw
    refine (hgv.congr exec).wp fun w' hw' => next w' fun k hk hst => ?_
    have h1 : ∀ (j : Nat) (oj : Oper), l[j]? = some oj → isStore oj = true → (listed.getD j false || j == i) = decide (j < i + 1) := fun j oj hj hsj => by
      rw [here j oj hj hsj, Bool.eq_iff_iff]; simp; omega
    rw [hr.one (f := fun j => listed.getD j false || j == i) (by omega) hk h1 hst]; exact hw'

theorem Inv.all_ (hr : Run P (fun i => st.contains i) E l A C D v) (ok : Ok st l cl) {Q : Exit → Act → World → Prop} (hQ : ∀ w, C l.length w → Q .normal (A l.length) w) : ∀ (n : Nat) (listed : Array Bool) (a : Act) (w : World), Inv l v (A 0) C listed a w → unl (fun i => listed.getD i false) l.length ≤ n →
    wpAny P .any l.toArray Q n listed a w := by
  have last : ∀ (listed : Array Bool) (a : Act) (w : World), Inv l v (A 0) C listed a w → (∀ i, i < l.length → listed.getD i false = true) → Q .normal a w := fun listed a w h hall => by
    have e : a = A l.length := h.shape.ext (hr.shape ok.dist l.length (Nat.le_refl _)) fun j o hj => by
      have hjl : j < l.length := (List.getElem?_eq_some_iff.1 hj).1
      rw [hall j hjl]; simp [hjl]
    rw [e]
    exact hQ w (h.world l.length (Nat.le_refl _) fun j o hj _ => by
      have hjl : j < l.length := (List.getElem?_eq_some_iff.1 hj).1
      rw [hall j hjl]; simp [hjl])
  intro n
  induction n with
  | zero =>
    intro listed a w h hn
    have hall := unl_zero (f := fun i => listed.getD i false) (n := l.length) (by omega)
    refine ⟨?_, last listed a w h hall⟩
    cases hr' : Region.ready .any l.toArray listed with
    | nil => rfl
    | cons i is =>
      have hi : i ∈ Region.ready .any l.toArray listed := by rw [hr']; simp
      obtain ⟨hun, o, ho', _⟩ := mem_ready.1 hi
      have hil : i < l.length := by have := (Array.getElem?_eq_some_iff.1 ho').1; simpa using this
      have := hall i hil
      have his : i < listed.size := by rw [h.size]; exact hil
      simp [his] at hun this
      rw [this] at hun; cases hun
  | succ n ih =>
    intro listed a w h hn
    refine ⟨fun hr' => last listed a w h fun i hi => ?_, fun i hi => ?_⟩
    · induction i using Nat.strongRecOn with
      | _ i ihi =>
        cases hu : listed.getD i false
        · have ho : l[i]? = some (l[i]'hi) := List.getElem?_eq_getElem hi
          have : i ∈ Region.ready .any l.toArray listed := mem_ready.2 ⟨by
            have his : i < listed.size := by rw [h.size]; exact hi
            simp [his] at hu ⊢; exact hu, _, (by rw [List.getElem?_toArray]; exact ho), fun e he hb => by
            have hd := ok.down i _ ho e he hb
            exact ihi e.on hd (by omega)⟩
          rw [hr'] at this; cases this
        · rfl
    · refine wpOp_mono (fun a' w' h' => ih _ a' w' h' ?_) (h.step hr ok hi)
      obtain ⟨hun, o, ho', _⟩ := mem_ready.1 hi
      have hil : i < l.length := by have := (Array.getElem?_eq_some_iff.1 ho').1; simpa using this
      have his : i < listed.size := by rw [h.size]; exact hil
      have := unl_set (f := fun i => listed.getD i false) (g := fun j => (listed.setIfInBounds i true).getD j false) (i := i) (by simp [his] at hun ⊢; exact hun) (by simp [his]) (fun j hj => getD_set_ne false (fun e => hj e.symm)) hil
      omega

/-- **One walk serves every order.** -/
theorem any_of_lex {Q : Exit → Act → World → Prop} (hB : okB st l = true) (C0 D0 : World → Prop) (hC : C0 w.drew) (hCD : ∀ w, C0 w → D0 w ∧ E w)
    (h : wpLex P st E (fun a' C' => ∀ w', C' w' → Q .normal a' w') l 0 a C0 D0) : wpAny P .any l.toArray Q l.toArray.size (Array.replicate l.toArray.size false) a w.drew := by
  obtain ⟨A, Cs, Ds, v, hr, hA, hC0, hD0, hQ⟩ := run_of_lex l 0 a C0 D0 hCD h
  simp only [Nat.zero_add] at hr
  have ok := Ok.of st l hB
  have hinv : Inv l v (A 0) Cs (Array.replicate l.toArray.size false) a w.drew := by
    have hg : ∀ i, (Array.replicate l.length false).getD i false = false := fun i => by
      by_cases hi : i < l.length <;> simp [hi]
    refine ⟨by simp, fun i o ho hl => ?_, ?_, fun i hi hst => ?_⟩
    · simp only [List.size_toArray] at hl; rw [hg i] at hl; cases hl
    · rw [hA]; exact Shape.start.congr fun j o _ => by simp only [List.size_toArray]; rw [hg j]
    · have e : Cs i = Cs 0 := hr.between i i (by omega) hi fun j o hj hs h0 hlt => by
        have := hst j o hj hs
        simp only [List.size_toArray] at this
        rw [hg j] at this; simp at this; omega
      rw [e, hC0]; exact hC
  have := Inv.all_ hr ok (Q := Q) hQ l.toArray.size _ _ _ hinv (by have := unl_le (fun i => (Array.replicate l.toArray.size false).getD i false) l.length; simpa using this)
  exact this
end
theorem wp_region_lex {P : Program} {l : List Oper} {a : Act} {w : World} {id : Nat} {Q : Exit → Act → World → Prop} (hm : P.follows .mixedOrders = true) (st : List Nat) (hB : okB st l = true) (C0 D0 E : World → Prop) (hC : C0 w.drew) (hCD : ∀ w, C0 w → D0 w ∧ E w)
    (h : wpLex P st E (fun a' C' => ∀ w', C' w' → Q .normal a' w') l 0 a C0 D0) : (Code.region id l.toArray true).wp P Q a w :=
  wp_region_any hm (any_of_lex hB C0 D0 hC hCD h)

section
variable {P : Program} {st : List Nat} {E : World → Prop} {Q : Act → (World → Prop) → Prop} {o : Oper} {rest : List Oper} {n : Nat} {a : Act} {C D : World → Prop} {W : World}
theorem lex_free (hs : isStore o = false) (hf : isFree o = true) {v : Value} (hrun : ∀ w, (execOp a.eval o).run P w = .ok (.value v) w) (h : wpLex P st E Q rest (n + 1) (a.put o.dst v) C D) : wpLex P st E Q (o :: rest) n a C D := by
  unfold wpLex
  rw [if_neg (by simp [hs]), if_pos hf]
  exact ⟨v, fun w => by unfold Gives; rw [hrun w]; exact ⟨rfl, rfl⟩, h⟩
theorem lex_look (hs : isStore o = false) (hf : isFree o = false) (hl : isLook o = true) (hst : st.contains n = false) {v : Value} (hrun : ∀ w, D w → (execOp a.eval o).run P w = .ok (.value v) w) (h : wpLex P st E Q rest (n + 1) (a.put o.dst v) C D) : wpLex P st E Q (o :: rest) n a C D := by
  unfold wpLex
  rw [if_neg (by simp [hs]), if_neg (by simp [hf]), if_pos hl]
  exact ⟨v, fun w hw => by rw [if_neg (by rw [hst]; simp)] at hw; unfold Gives; rw [hrun w hw]; exact ⟨rfl, rfl⟩, h⟩
/-- A function is called: it may leave another class. -/
theorem lex_call (hs : isStore o = true) {C' : World → Prop} {v : Value} {f : FuncId} {args : Array Value} (hrun : ∀ w, C w → (execOp a.eval o).run P w = .ok (.enter f args) w) (hc : ∀ w, C w → Calls P f args w fun e w' => e = .returned v ∧ C' w') (hD : ∀ w, C' w → D w ∧ E w) (h : wpLex P st E Q rest (n + 1) (a.put o.dst v) C' D) : wpLex P st E Q (o :: rest) n a C D := by
  unfold wpLex
  rw [if_pos hs]
  exact ⟨v, C', D, fun w hw => by unfold Gives; rw [hrun w hw]; exact hc w hw, fun _ => rfl, hD, h⟩
/-- Memory is made; the world is known. -/
theorem lex_make (hs : isStore o = true) {v : Value} {W' : World} (hrun : (execOp a.eval o).run P W = .ok (.value v) W') (hD : D W' ∧ E W') (h : wpLex P st E Q rest (n + 1) (a.put o.dst v) (· = W') D) : wpLex P st E Q (o :: rest) n a (· = W) D := by
  unfold wpLex
  rw [if_pos hs]
  exact ⟨v, (· = W'), D, fun w hw => by subst hw; unfold Gives; rw [hrun]; exact ⟨rfl, rfl⟩, fun _ => rfl, fun w hw => hw ▸ hD, h⟩
theorem lex_store (hs : isStore o = true) (hh : isHard o = true) {C' D' : World → Prop} (hrun : ∀ w, C w → ∃ W', (execOp a.eval o).run P w = .ok .skip W' ∧ C' W') (hD : ∀ w, C' w → D' w ∧ E w) (h : wpLex P st E Q rest (n + 1) (a.put o.dst undef) C' D') : wpLex P st E Q (o :: rest) n a C D := by
  unfold wpLex
  rw [if_pos hs]
  exact ⟨undef, C', D', fun w hw => by obtain ⟨W', h1, h2⟩ := hrun w hw; unfold Gives; rw [h1]; exact ⟨rfl, h2⟩, fun e => by (rw [hh] at e; cases e), hD, h⟩
theorem lex_end {Q : Exit → Act → World → Prop} (h : ∀ w', C w' → Q .normal a w') : wpLex P st E (fun a' C' => ∀ w', C' w' → Q .normal a' w') [] n a C D := h
end
end Ry
namespace Bb
open Go Kd
def lm (f : Int) (l : List En.S) : Ms.M := { Ms.start 5 0 0 0 0 with frame := f, log := l }
theorem logOf_at {f : Int} {n k : Nat} (h : k < n) : (logOf f n)[k]? = some (e0 (f + (k : Int))) := by unfold logOf; rw [List.getElem?_map, List.getElem?_range h]; rfl
theorem lm_ok {f : Int} {n : Nat} (hf : 0 ≤ f ∧ f + n < 1048576) (hn : 1 ≤ n ∧ n ≤ 16) : Ms.Ok (lm f (logOf f n)) := by
  have e : ((lm f (logOf f n)).log.length : Int) = n := by show (((logOf f n).length : Nat) : Int) = n; rw [logOf_len]
  refine ⟨?_, rfl, ?_, fun k h => absurd h (Nat.not_lt_zero _), fun k h => log_ok (f := f) hf k h⟩
  · rw [Go.Proofs.Ytgmlbimgcifenaa.no1_iff]
    refine ⟨⟨(show (1 : Int) ≤ 5 by decide), (show (5 : Int) ≤ 14 by decide)⟩, ⟨(show (0 : Int) ≤ 0 by decide), (show (0 : Int) < 12 by decide)⟩, ?_, ⟨(show (0 : Int) ≤ 0 by decide), (show (0 : Int) ≤ 7 by decide)⟩, ⟨by show 0 ≤ f; omega, by show f ≤ 1048576; omega⟩, ⟨(show (0 : Int) ≤ 0 by decide), (show (0 : Int) ≤ 9 by decide)⟩, ⟨(show (0 : Int) ≤ 0 by decide), (show (0 : Int) ≤ 65535 by decide)⟩⟩
    unfold Ms.bare Ms.bareOf; rfl
  · unfold Ms.no3
    rw [e]
    have h1 : (decide ((n : Int) < 1)) = false := decide_eq_false (by omega)
    have h2 : (decide (16 < (n : Int))) = false := decide_eq_false (by omega)
    rw [h1, h2]
    rfl
/-- Where a frame is wrong, the message may not be. -/
theorem lm_no {f : Int} {l : List En.S} {k : Nat} {g : Int} (h : l[k]? = some (e0 g)) (hg : g ≠ f + (k : Int)) : ¬ Ms.Ok (lm f l) := fun hok => by
  obtain ⟨hk, he⟩ := List.getElem?_eq_some_iff.1 h
  have := (hok.log k hk).2
  have e1 : (lm f l).log[k] = e0 g := he
  rw [e1] at this
  exact hg this
theorem lm_nil {f : Int} : ¬ Ms.Ok (lm f []) := fun h => absurd (show true = false from h.n3) (by decide)
theorem lm_ty {f : Int} {l : List En.S} (hf : 0 ≤ f ∧ f < 1048576) (hl : ∀ s ∈ l, ∃ g : Int, (0 ≤ g ∧ g < 1048576) ∧ s = e0 g) : Ms.Ty (lm f l) := by
  have h2 : ∀ s ∈ (lm f l).log, En.Ty s.e := fun s hs => by
    obtain ⟨g, hg, rfl⟩ := hl s hs
    exact e0_ty g hg
  exact { Ms.start_ty (k := 5) (f := 0) (s := 0) (by decide) (by decide) (by decide) with log := h2, frame := by unfold En.i64 lm; dsimp only; omega }
theorem mem_log {f : Int} {n : Nat} (hf : 0 ≤ f ∧ f + n < 1048576) : ∀ s ∈ logOf f n, ∃ g : Int, (0 ≤ g ∧ g < 1048576) ∧ s = e0 g := fun s hs => by
  obtain ⟨i, hi, rfl⟩ := logOf_mem hs
  exact ⟨_, by omega, rfl⟩
theorem skip {f : Int} {n i : Nat} (hf : 0 ≤ f ∧ f + n < 1048576) (hn : 1 ≤ n ∧ n ≤ 16) (hi : i < n) : Ms.okB (lm f ((logOf f n).take i ++ (logOf f n).drop (i + 1))) = (decide (i + 1 = n) && decide (1 < n)) := by
  by_cases h1 : i + 1 = n
  · subst h1
    have e : (logOf f (i + 1)).take i ++ (logOf f (i + 1)).drop (i + 1) = logOf f i := by
      rw [List.drop_eq_nil_of_le (by rw [logOf_len]; omega), List.append_nil, logOf_next, List.take_append_of_le_length (by rw [logOf_len]; omega), List.take_of_length_le (by rw [logOf_len]; omega)]
    rw [e]
    by_cases h0 : i = 0
    · subst h0
      exact (Ms.okB_no lm_nil).symm
    · rw [Ms.okB_iff.2 (lm_ok ⟨hf.1, by omega⟩ ⟨by omega, by omega⟩)]
      simp; omega
  · rw [decide_eq_false h1, Bool.false_and]
    refine (Ms.okB_no (lm_no (k := i) (g := f + ((i + 1 : Nat) : Int)) ?_ (by omega))).symm
    have hl : ((logOf f n).take i).length = i := by rw [List.length_take, logOf_len]; omega
    rw [List.getElem?_append_right (by omega), hl, Nat.sub_self, List.getElem?_drop]
    exact logOf_at (by omega)
theorem twice {f : Int} {n i : Nat} (hi : i < n) : ¬ Ms.Ok (lm f ((logOf f n).take (i + 1) ++ (logOf f n).drop i)) := by
  refine lm_no (k := i + 1) (g := f + (i : Int)) ?_ (by omega)
  have hl : ((logOf f n).take (i + 1)).length = i + 1 := by rw [List.length_take, logOf_len]; omega
  rw [List.getElem?_append_right (by omega), hl, Nat.sub_self, List.getElem?_drop]
  exact logOf_at (by omega)
theorem mem_parts {f : Int} {n a b : Nat} {s : En.S} (h : s ∈ (logOf f n).take a ++ (logOf f n).drop b) : s ∈ logOf f n := (List.mem_append.1 h).elim List.mem_of_mem_take List.mem_of_mem_drop
end Bb
namespace Go.Proofs.Ytgmlbimgcifenaa
open Go Go.RowKit Go.Shelf
set_option linter.unusedVariables false
set_option linter.unusedSimpArgs false

theorem append_rowW {P : Program} (w : World) {t ty e : TypeId} {i : TypeInfo} {z : Value} {size bytes : Nat} (ht : P.underlying t = some (.slice e)) (hi : P.info? e = some i) (hz : i.zero = some z) (hs : i.size = size) (hby : i.bytes = bytes) (hzs : z.cells.size = size) (hsz : 0 < size)
    {base n : Nat} {v : Value} {xs : List Value} (ho : w.ownsRow base e size v n xs) {A : Option Addr} {m c : Nat} {news : List Value} (hl : Lies w w.heap.size size A m news) (h1 : ∀ u ∈ news, u.oneCell' = true) (h63 : n + m ≤ maxLen) (hb : (n + m) * bytes ≤ 140737488355328) (hbase : base ≤ w.heap.size) :
    ∃ A' c' w', (Builtin.append_ #[t, t] ty #[v, .slice A m c]).run P w = .ok (.slice A' (n + m) c') w' ∧ w'.ownsRow base e size (.slice A' (n + m) c') (n + m) (xs ++ news) ∧ w.grownBy w' v.ownBlock := by
  have hrun : ∃ v' w', (Builtin.append_ #[t, t] ty #[v, .slice A m c]).run P w = .ok v' w' ∧ w'.ownsRow base e size v' (n + m) (xs ++ news) ∧ w.grownBy w' v.ownBlock := by
    cases A with
    | none =>
      have hm : m = 0 := by
        by_cases hm : m = 0
        · exact hm
        · obtain ⟨ad, he, _⟩ := hl.start hm
          cases he
      subst hm
      have hn : news = [] := List.eq_nil_of_length_eq_zero (by simpa using hl.len)
      subst hn
      exact ⟨_, w, append_nothing w ht hi ho c, by simpa using ho, World.grownBy.refl w _⟩
    | some ad =>
      have hcells : ∀ j u, news[j]? = some u → w.cell? (ad.add j) = some u := fun j u hu => by
        by_cases hm : m = 0
        · subst hm
          have hn : news = [] := List.eq_nil_of_length_eq_zero (by simpa using hl.len)
          subst hn
          simp at hu
        · exact hl.cell ad rfl hm j u hu
      obtain ⟨v', w', hr, h2, h3, _, _⟩ := run_append_own_at (P := P) w base t ty e i z size bytes ht hi hz hs hby hzs hsz v n xs ho ad m c news hl.len hcells h1 h63 hb hbase
      exact ⟨v', w', hr, h2, h3⟩
  obtain ⟨v', w', hr, h2, h3⟩ := hrun
  obtain ⟨A', c', rfl⟩ := owned_slice h2
  exact ⟨A', c', w', hr, h2, h3⟩
theorem en_emptyW (w : World) : (w.alloc (.cells #[] 53)).ownsRow w.heap.size 53 26 (.slice (some ⟨w.heap.size, 0, none⟩) 0 0) 0 [] := by
  have := World.ownsRow_lit (base := w.heap.size) (e := 53) (size := 26) w #[] 0 (Nat.le_refl _) (by unfold maxLen; omega) rfl
  simpa using this
theorem own_grownW {w w0 w' : World} {base n size : Nat} {e : TypeId} {v : Value} {xs : List Value} (k : Below base w0 w) (ho : w.ownsRow base e size v n xs) (hg : w.grownBy w' v.ownBlock) (hb : base = w0.heap.size) : Below base w0 w' := by
  refine k.grown hg (by rw [hb]; exact k.size) fun j hj => ?_
  obtain ⟨_, ⟨e, _⟩ | ⟨g, cap, cur, e, hbg, _⟩⟩ := ho
  · rw [e] at hj; cases hj
  · rw [e] at hj
    injection hj with hj
    have : g = j := hj
    omega
theorem en_joinedW (w : World) {A1 A2 : Option Addr} {n1 c1 n2 c2 : Nat} {l1 l2 : List En.S} (h1 : LiesS w w.heap.size A1 n1 l1) (h2 : LiesS w w.heap.size A2 n2 l2) (hn : n1 + n2 ≤ 200) (ty1 ty2 : TypeId) :
    ∃ A3 c3 w3 A4 c4 w4, (Builtin.append_ #[26, 26] ty1 #[.slice (some ⟨w.heap.size, 0, none⟩) 0 0, .slice A1 n1 c1]).run Try.prog (w.alloc (.cells #[] 53)) = .ok (.slice A3 n1 c3) w3 ∧
      (Builtin.append_ #[26, 26] ty2 #[.slice A3 n1 c3, .slice A2 n2 c2]).run Try.prog w3 = .ok (.slice A4 (n1 + n2) c4) w4 ∧
      w4.ownsRow w.heap.size 53 26 (.slice A4 (n1 + n2) c4) (n1 + n2) (En.sCells (l1 ++ l2)) ∧ Below w.heap.size w w4 ∧ Below w.heap.size w w3 := by
  obtain ⟨i, hi, hz, hs, hby⟩ := info_parts zen_infoZ
  have hk := one_below w (.cells #[] 53)
  obtain ⟨X, hX⟩ : ∃ X, X = w.alloc (.cells #[] 53) := ⟨_, rfl⟩
  have ho := en_emptyW w
  rw [← hX] at hk ho ⊢
  obtain ⟨A3, c3, w3, r3, o3, g3⟩ := append_rowW (P := Try.prog) X (ty := ty1) Try.underlying26 hi hz hs hby rfl (by decide) ho (c := c1) ((h1.row.below hk).wider hk.size) (En.sCells_one l1) (by unfold maxLen; omega) (by omega) hk.size
  rw [Nat.zero_add, List.nil_append] at o3
  rw [Nat.zero_add] at r3
  have k3 := own_grownW hk ho g3 rfl
  obtain ⟨A4, c4, w4, r4, o4, g4⟩ := append_rowW (P := Try.prog) w3 (ty := ty2) Try.underlying26 hi hz hs hby rfl (by decide) o3 (c := c2) ((h2.row.below k3).wider k3.size) (En.sCells_one l2) (by unfold maxLen; omega) (by omega) k3.size
  have k4 := own_grownW k3 o3 g4 rfl
  refine ⟨A3, c3, w3, A4, c4, w4, r3, r4, ?_, k4, k3⟩
  rw [show En.sCells (l1 ++ l2) = En.sCells l1 ++ En.sCells l2 from by unfold En.sCells; rw [List.flatMap_append]]
  exact o4
/-- Another message's cell is set. -/
theorem Gl.off {w X : World} {B B2 j : Nat} {q : Ms.S} {cs : Array Value} (h : Gl w B q X) (hB : Box X B2 29 cs) (hne : B ≠ B2) (hlo : w.heap.size ≤ B2) (v : Value) : Gl w B q (X.setCell ⟨B2, j, none⟩ v) :=
  ⟨h.box.far (p := ⟨B2, j, none⟩) hne v, ownsRow_setCell_other (a := ⟨B2, j, none⟩) h.own (hB.unowned h.own (by decide)) v, h.kept.setCell (p := ⟨B2, j, none⟩) hlo v, h.low, h.bare, h.ents⟩
theorem Gl.log_of {w X : World} {B k : Nat} {q : Ms.S} (h : Gl w B q X) (hk : q.m.log.length = k) : LiesS X X.heap.size q.al k q.m.log := by
  subst hk
  exact ⟨Lies.owned h.own, fun s hs => by rw [(h.ents s hs).1]; exact Lies.empty, fun s hs => by rw [(h.ents s hs).1]; exact Nat.zero_le _⟩
theorem LiesS.belowW {w w' : World} {A : Option Addr} {n : Nat} {l : List En.S} (h : LiesS w w.heap.size A n l) (hb : Below w.heap.size w w') : LiesS w' w'.heap.size A n l :=
  ⟨(h.row.below hb).wider hb.size, fun s hs => ((h.each s hs).below hb).wider hb.size, h.few⟩
/-- A message whose list is a row of its own, made by append. -/
theorem lies_own {X : World} {base : Nat} {q : Ms.S} (h : X.ownsRow base 53 26 (.slice q.al q.m.log.length q.cl) q.m.log.length (En.sCells q.m.log)) (hb : q.m.ins = [] ∧ q.m.data = []) (he : ∀ s ∈ q.m.log, s.e.evs = [] ∧ s.adr = none ∧ s.cap = 0) (hl : q.m.log.length ≤ 1000) : LiesM X X.heap.size q := by
  refine ⟨?_, ⟨Lies.owned h, fun s hs => ?_, fun s hs => ?_⟩, ?_, by rw [hb.1]; exact Nat.zero_le _, by unfold maxLen; omega, by rw [hb.2]; exact Nat.zero_le _⟩
  · rw [hb.1]; exact Lies.empty
  · rw [(he s hs).1]; exact Lies.empty
  · rw [(he s hs).1]; exact Nat.zero_le _
  · rw [hb.2]; exact Lies.empty
theorem ens_rowW : Try.prog.underlying 26 = some (.slice (Try.prog.elem 26)) := by kernel_rfl
theorem exec_slice_toW {o : Oper} {a : Act} {w : World} {x y : Operand} {A : Option Addr} {m c k : Nat} (ho : o.op = .slice 26 x none (some y) none) (hx : a.eval x = .slice A m c) (hy : a.eval y = .int .i64 (k : Int)) (hk : k ≤ c) :
    (execOp a.eval o).run Try.prog w = .ok (.value (.slice A k c)) w := by
  unfold execOp
  simp only [ho, Option.map_some, Option.map_none, hx, hy, Sem.run_bind, run_sliceAt_slice w 26 _ _ _ _ ens_rowW, run_slice_to A m c k Try.underlying26 en_info26 hk, Result.andThen_ok]
  simp only [Sem.run_pure]
theorem exec_slice_from3 {o : Oper} {a : Act} {w : World} {x y : Operand} {A : Option Addr} {m c k : Nat} {z : Int} (hz : z = (k : Int)) (ho : o.op = .slice 26 x (some y) none none) (hx : a.eval x = .slice A m c) (hy : a.eval y = .int .i64 z) (hk : k ≤ m) (hc : m ≤ c) :
    (execOp a.eval o).run Try.prog w = .ok (.value (.slice (dropA A c k) (m - k) (c - k))) w := by
  subst hz
  unfold execOp
  simp only [ho, Option.map_some, Option.map_none, hx, hy, Sem.run_bind, run_sliceAt_slice w 26 _ _ _ _ ens_rowW, run_slice_from A m c k Try.underlying26 en_info26 hk hc, Result.andThen_ok]
  simp only [Sem.run_pure]
theorem exec_slice_to3 {o : Oper} {a : Act} {w : World} {x y : Operand} {A : Option Addr} {m c k : Nat} {z : Int} (hz : z = (k : Int)) (ho : o.op = .slice 26 x none (some y) none) (hx : a.eval x = .slice A m c) (hy : a.eval y = .int .i64 z) (hk : k ≤ c) :
    (execOp a.eval o).run Try.prog w = .ok (.value (.slice A k c)) w := by
  subst hz
  exact exec_slice_toW ho hx hy hk
end Go.Proofs.Ytgmlbimgcifenaa
namespace Go.Proofs.Ytgmlbimgcifenaa
open Go.RowKit Go.Shelf
set_option linter.unusedVariables false
set_option linter.unusedSimpArgs false

theorem lm_built (f : Int) : Try.prog.built 29 [(0, .int .i64 5), (7, .int .i64 f)] = some (Ms.S.cells ⟨Bb.lm f [], none, 0, none, 0, none, 0⟩) := by kernel_rfl
theorem mod_n (x : Int) (n : Nat) (hn : 1 ≤ n ∧ n ≤ 100000000) (h : -9223372036854775808 ≤ x ∧ x ≤ 9223372036854775807) : ∃ k : Nat, IntKind.u64.wrap x % (n : Int) = (k : Int) ∧ k < n := by
  have u0 : 0 ≤ IntKind.u64.wrap x := by rw [IntKind.wrap_u64]; omega
  have h1 := Int.emod_nonneg (IntKind.u64.wrap x) (show (n : Int) ≠ 0 by omega)
  have h2 := Int.emod_lt_of_pos (IntKind.u64.wrap x) (show (0 : Int) < (n : Int) by omega)
  exact ⟨(IntKind.u64.wrap x % (n : Int)).toNat, by omega, by omega⟩

set_option maxRecDepth 100000 in
set_option maxHeartbeats 4000000 in
theorem logs12_law (x y z : Int) (w : World) (hx : -9223372036854775808 ≤ x ∧ x ≤ 9223372036854775807) (hy : -9223372036854775808 ≤ y ∧ y ≤ 9223372036854775807) (hz : -9223372036854775808 ≤ z ∧ z ≤ 9223372036854775807) :
    Calls Try.prog 9 #[.int .i64 x, .int .i64 y, .int .i64 z] w fun e w' => e = .returned (.bool true) ∧ Below w.heap.size w w' := by
  have ct := fun X => Lib.hid (told12_any X)
  obtain ⟨f, hf, hfl⟩ := mod_n x 1048560 (by decide) hx
  obtain ⟨k0, hk0, hkl⟩ := mod_n y 16 (by decide) hy
  obtain ⟨k, hk⟩ : ∃ k, k = 1 + k0 := ⟨_, rfl⟩
  have HK1 := Lib.hid (show 1 + (k0 : Int) = (k : Int) by omega)
  have hk0b : (k0 : Int) ≤ 15 := by omega
  have hkk : 1 ≤ k ∧ k ≤ 16 := by omega
  obtain ⟨i, hi, hil⟩ := mod_n z k (by omega) hz
  have u0 : 0 ≤ IntKind.u64.wrap x := by rw [IntKind.wrap_u64]; omega
  have u1 : IntKind.u64.wrap x ≤ 18446744073709551615 := by rw [IntKind.wrap_u64]; omega
  have v0 : 0 ≤ IntKind.u64.wrap y := by rw [IntKind.wrap_u64]; omega
  have v1 : IntKind.u64.wrap y ≤ 18446744073709551615 := by rw [IntKind.wrap_u64]; omega
  have q0 : 0 ≤ IntKind.u64.wrap z := by rw [IntKind.wrap_u64]; omega
  have q1 : IntKind.u64.wrap z ≤ 18446744073709551615 := by rw [IntKind.wrap_u64]; omega
  have hwk : IntKind.u64.wrap (k : Int) = (k : Int) := by rw [IntKind.wrap_u64]; omega
  have hfr : 0 ≤ (f : Int) ∧ (f : Int) + k < 1048576 := by omega
  have M0 := Lib.hid (Gl.born (Below.refl w.heap.size w) (Bb.lm f []) rfl rfl rfl)
  have hb0 := lm_built f
  have hf16 : IntKind.u64.wrap x % 1048560 = (f : Int) := hf
  have hk16 : IntKind.u64.wrap y % 16 = (k0 : Int) := hk0
  clear hf hk0 hk
  go_enter Try.func9, Try.ntmps9
  go_upto_region 2 with fail
  rw [HK1.out]
  go_upto_region 3 with (first | (refine wpList_build_is rfl (t := 29) (vs := [(0, .int .i64 5), (7, .int .i64 (f : Int))]) rfl rfl hb0 ?_) | (with_reducible refine alloc_msg rfl rfl ?_) | ((with_reducible refine ms_store_new rfl rfl rfl rfl Ms.zeroM_size rfl (msg_one _) ?_)))
  clear hf16 hk16
  generalize w.alloc (.cells (Ms.S.cells ⟨Bb.lm (f : Int) [], none, 0, none, 0, none, 0⟩) 29) = W0 at *
  go_wp2_with fail
  go_loopw [10] (fun jv wr => ∃ (j : Nat) (q : Ms.S), j ≤ k ∧ jv = .int .i64 j ∧ q.m = Bb.lm f (Bb.logOf f j) ∧ Gl w w.heap.size q wr) (fun jv _ => k - (intOf jv).toNat)
  case atStart => exact ⟨0, _, by omega, rfl, rfl, M0.out⟩
  case round =>
    obtain ⟨j, q, hj, rfl, hq, hG⟩ := hrel
    have GG := Lib.hid hG
    have QM := Lib.hid hq
    have hll : q.m.log.length = j := by rw [hq]; exact Bb.logOf_len f j
    have HLL := Lib.hid hll
    by_cases hlt : j < k
    · have hj8 : (j : Int) < (k : Int) := by omega
      have d14 := (hG.box.cell 14).trans (show _ = some (Value.slice q.al q.m.log.length q.cl) from rfl)
      have f14 := hG.box.free 14
      have l14 := hG.box.lt
      rw [hll] at d14
      obtain ⟨i0, hi0, hz0, hz1, hz2⟩ := info_parts zen_infoZ
      have hI := Lib.hid hi0
      have hZ := Lib.hid hz0
      have hS := Lib.hid hz1
      have hY := Lib.hid hz2
      have hfb : (f : Int) ≤ 1048559 := by omega
      have b7 := en_built7 ((f : Int) + (j : Int))
      have OW := Lib.hid (show wr.ownsRow w.heap.size 53 26 (.slice q.al j q.cl) j (En.sCells q.m.log) by have o := hG.own; rw [hll] at o; exact o)
      have kS := hG.kept.size
      have ES := Lib.hid (show (En.cells ⟨(f : Int) + (j : Int), [], En.in0⟩ (.slice none 0 0)).toList = En.S.cells (Kd.e0 ((f : Int) + (j : Int))) from rfl)
      obtain ⟨e, he⟩ : ∃ e, e = (⟨(f : Int) + (j : Int), [], En.in0⟩ : En.E) := ⟨_, rfl⟩
      rw [← he] at b7 ES
      clear hi0 hz0 hz1 hz2 hG hq hll he
      go_upto_region 5 with (first | (refine wpList_build_is rfl (t := 53) (vs := [(0, .int .i64 ((f : Int) + (j : Int)))]) rfl rfl b7 ?_) | ((with_reducible refine en_build rfl rfl ?_); apply BuildEn.mk rfl) | ((with_reducible refine append_gate (t := 26) (e := 53) (size := 26) (bytes := 56) rfl rfl Try.underlying26 hI.out hZ.out hS.out hY.out rfl (by decide) ?_); refine Appends.mk (base := w.heap.size) (n := j) (xs := En.sCells q.m.log) rfl (OW.out.alloc _) (Lies.boxed (n := 1) (size := 26) (xs := (En.cells e (.slice none 0 0)).toList) (by rw [Array.toArray_toList]; exact Box.made wr 53 (En.cells e (.slice none 0 0))) rfl) (fun u hu => by have := En.cells_one e (.slice none 0 0) rfl; rw [Array.all_eq_true'] at this; exact this u (Array.mem_toList_iff.1 hu)) (by unfold maxLen; omega) (by omega) (by simp; omega) ?_; intro A7 c7 w7 own7 hg7; have OW7 := Lib.hid own7; have HG7 := Lib.hid (show World.grownBy (wr.alloc _) w7 (Value.slice q.al j q.cl).ownBlock from hg7); have B7 := Lib.hid (grown_box GG.out.box OW.out (by decide) hg7); have b7 := (B7.out.cell 14).trans (show _ = some (Value.slice q.al q.m.log.length q.cl) from rfl); have f7 := B7.out.free 14; have l7 := B7.out.lt; clear own7 hg7))
      have G8 := Lib.hid (show Gl w w.heap.size { q with m := { q.m with log := q.m.log ++ [Kd.e0 ((f : Int) + (j : Int))] }, al := A7, cl := c7 } (w7.setCell ⟨w.heap.size, 14, none⟩ (.slice A7 (j + 1) c7)) by
        have o := OW7.out
        have g := HG7.out
        have h := GG.out
        rw [ES.out] at o
        have hll := HLL.out
        subst hll
        exact Gl.step h ⟨rfl, rfl, rfl⟩ o g)
      have E8 := Lib.hid (show ({ q.m with log := q.m.log ++ [Kd.e0 ((f : Int) + (j : Int))] } : Ms.M) = Bb.lm f (Bb.logOf f (j + 1)) by rw [Bb.logOf_next, QM.out]; rfl)
      clear b7 f7 l7 B7 HG7 OW7 ES
      generalize w7.setCell ⟨w.heap.size, 14, none⟩ (.slice A7 (j + 1) c7) = w8 at *
      go_wp2
      go_roundw
      case rel => exact ⟨j + 1, _, by omega, by go_num, E8.out, G8.out⟩
      case measure => simp [intOf]; omega
    · obtain rfl : k = j := by omega
      have hL := hG.lies (by rw [hll]; omega)
      have hT := Bb.lm_ty (f := (f : Int)) (l := Bb.logOf f k) (by omega) (Bb.mem_log hfr)
      have hO := Bb.lm_ok hfr hkk
      rw [← hq] at hT hO
      have cm := Lib.hid (wmay_any q wr hT hL)
      rw [Ms.okB_iff.2 hO] at cm
      clear hL hT hO
      go_upto_region 10 with (first | (with_reducible refine alloc_msg rfl rfl ?_) | ((with_reducible refine ms_store_new rfl rfl rfl rfl Ms.zeroM_size (ms_size _) (msg_one _) ?_)) | ((with_reducible refine ms_load rfl rfl ?_); apply LoadMs.mk rfl (by first | (with_reducible exact GG.out.box) | (with_reducible exact G2.out.box)) (ms_size _)) | (go_at_call 15; ((with_reducible refine (cm.out).mono ?_); rintro r w2 ⟨rfl, hb⟩; have G2 := Lib.hid (GG.out.call hb); clear hb cm)))
      have HCAP := Lib.hid (show k ≤ q.cl by have o := hG.own; rw [hll] at o; exact own_cap o)
      clear hq hll hG
      have hwi : IntKind.i64.wrap ((i : Int) + 1) = (i : Int) + 1 := by rw [IntKind.wrap_i64]; omega
      have BXa := Lib.hid (Box.made w2 29 q.cells)
      have GXa := Lib.hid (G2.out.call (one_below w2 (.cells q.cells 29)))
      have lx2 : w.heap.size < w2.heap.size := G2.out.box.lt
      generalize w2.alloc (.cells q.cells 29) = Xa at *
      have GLa := Lib.hid (GXa.out.log_of HLL.out)

      have hl0a := (LiesS.belowW (GLa.out) ((Below.refl Xa.heap.size Xa).drew))
      obtain ⟨A3a, c3a, W3a, A4a, c4a, W4a, r3, r4, hOX, bX, bX3⟩ := en_joinedW Xa.drew (c1 := q.cl) (c2 := q.cl - (i + 1)) (hl0a.take i (by omega)) (hl0a.drop (i + 1) (by omega) HCAP.out) (by omega) 26 26
      have bYa := ((Below.refl Xa.heap.size Xa).drew).trans (show Below Xa.heap.size Xa.drew W4a from bX)
      have bZ := ((Below.refl Xa.heap.size Xa).drew).trans (show Below Xa.heap.size Xa.drew W3a from bX3)
      have c14a := (GXa.out.box.cell 14).trans (show _ = some (Value.slice q.al q.m.log.length q.cl) from rfl)
      rw [HLL.out] at c14a
      have dD := fun (X : World) (hX : Below Xa.heap.size Xa X) => (hX.cell (p := ⟨w.heap.size, 14, none⟩) GXa.out.box.lt).trans c14a
      have xB := BXa.out.below bYa BXa.out.lt
      have xc := xB.cell 14
      have xf := xB.free 14
      have xl := xB.lt
      have xv := xc.trans (show _ = some (Value.slice q.al q.m.log.length q.cl) from rfl)
      refine Ry.wp_region_lex (by kernel_rfl) [] (by kernel_rfl) (· = Xa.drew) (fun X => X.cell? ⟨w.heap.size, 14, none⟩ = some (.slice q.al k q.cl)) (fun _ => True) rfl (fun W hW => ⟨by rw [hW]; exact dD _ ((Below.refl Xa.heap.size Xa).drew), trivial⟩) ?_
      refine Ry.lex_make rfl (W' := Xa.drew.alloc (.cells #[] 53)) (v := .slice (some ⟨Xa.drew.heap.size, 0, none⟩) 0 0) ?_ ⟨dD _ (((Below.refl Xa.heap.size Xa).drew).alloc (by simp) _), trivial⟩ ?_
      focus (go_simp; first | done | rfl)
      repeat (first | (apply Ry.lex_free rfl rfl; focus (intro _; go_simp; first | done | rfl)) | (apply Ry.lex_look rfl rfl rfl rfl; focus (intro W hW; go_simp; first | done | rfl)))
      refine Ry.lex_free rfl rfl (v := .slice q.al i q.cl) (fun W => exec_slice_to3 (A := q.al) (m := k) (c := q.cl) (k := i) (z := (i : Int)) (by first | rfl | (push_cast; rfl)) rfl (by go_simp) (by go_simp <;> exact hwi) (by have := HCAP.out; omega)) ?_
      refine Ry.lex_make rfl (W' := W3a) (v := .slice A3a i c3a) (exec_append' (x := .tmp 49) (y := .tmp 53) (v1 := .slice (some ⟨Xa.drew.heap.size, 0, none⟩) 0 0) (v2 := .slice q.al i q.cl) rfl (by go_simp) (by go_simp) r3) ⟨dD _ bZ, trivial⟩ ?_
      repeat (first | (apply Ry.lex_free rfl rfl; focus (intro _; go_simp; first | done | rfl)) | (apply Ry.lex_look rfl rfl rfl rfl; focus (intro W hW; go_simp; first | done | rfl)))
      refine Ry.lex_free rfl rfl (v := .slice (dropA q.al q.cl (i + 1)) (k - (i + 1)) (q.cl - (i + 1))) (fun W => exec_slice_from3 (A := q.al) (m := k) (c := q.cl) (k := (i + 1)) (z := (i : Int) + 1) (by first | rfl | (push_cast; rfl)) rfl (by go_simp) (by go_simp <;> exact hwi) (by omega) HCAP.out) ?_
      refine Ry.lex_make rfl (W' := W4a) (v := .slice A4a (i + (k - (i + 1))) c4a) (exec_append' (x := .tmp 54) (y := .tmp 59) (v1 := .slice A3a i c3a) (v2 := .slice (dropA q.al q.cl (i + 1)) (k - (i + 1)) (q.cl - (i + 1))) rfl (by go_simp) (by go_simp) r4) ⟨dD _ bYa, trivial⟩ ?_
      repeat (apply Ry.lex_free rfl rfl; focus (intro _; go_simp; first | done | rfl))
      refine Ry.lex_store rfl rfl (C' := (· = W4a.setCell ⟨w2.heap.size, 14, none⟩ (.slice A4a (i + (k - (i + 1))) c4a))) (D' := fun _ => True) (fun W hW => ⟨_, by subst hW; go_simp; first | done | rfl, rfl⟩) (fun _ _ => ⟨trivial, trivial⟩) ?_
      refine Ry.lex_end fun W5 hW5 => ?_
      have hW5' := hW5.symm
      subst hW5'
      clear hW5
      simp only [Act.put, List.setIfInBounds_toArray, List.set_cons_succ, List.set_cons_zero]
      have GDa := Lib.hid (Gl.off (j := 14) (GXa.out.call bYa) xB (show w.heap.size ≠ w2.heap.size by omega) (show w.heap.size ≤ w2.heap.size by omega) (.slice A4a (i + (k - (i + 1))) c4a))
      have LNa : (q.m.log.take i ++ q.m.log.drop (i + 1)).length = i + (k - (i + 1)) := by rw [List.length_append, List.length_take, List.length_drop, HLL.out]; omega
      have BDa := Lib.hid (show Box (W4a.setCell ⟨w2.heap.size, 14, none⟩ (.slice A4a (i + (k - (i + 1))) c4a)) w2.heap.size 29 ({ q with m := { q.m with log := q.m.log.take i ++ q.m.log.drop (i + 1) }, al := A4a, cl := c4a } : Ms.S).cells by
        have kk := xB.put 14 (.slice A4a (i + (k - (i + 1))) c4a)
        have ee : q.cells.setIfInBounds 14 (.slice A4a (i + (k - (i + 1))) c4a) = ({ q with m := { q.m with log := q.m.log.take i ++ q.m.log.drop (i + 1) }, al := A4a, cl := c4a } : Ms.S).cells := by
          unfold Ms.S.cells Ms.cells Ms.S.sl
          dsimp only
          rw [LNa]
          rfl
        rw [ee] at kk
        exact kk)
      have ODa := Lib.hid (show (W4a.setCell ⟨w2.heap.size, 14, none⟩ (.slice A4a (i + (k - (i + 1))) c4a)).ownsRow _ 53 26 (.slice A4a (q.m.log.take i ++ q.m.log.drop (i + 1)).length c4a) (q.m.log.take i ++ q.m.log.drop (i + 1)).length (En.sCells (q.m.log.take i ++ q.m.log.drop (i + 1))) by rw [LNa]; exact ownsRow_setCell_other (a := ⟨w2.heap.size, 14, none⟩) hOX (xB.unowned hOX (by decide)) _)
      generalize W4a.setCell ⟨w2.heap.size, 14, none⟩ (.slice A4a (i + (k - (i + 1))) c4a) = Xb at *
      clear r3 r4 hOX bX bX3 hl0a bYa bZ c14a dD xB xc xf xl xv LNa
      go_upto_region 12 with (first | (with_reducible refine alloc_msg rfl rfl ?_) | ((with_reducible refine ms_store_new rfl rfl rfl rfl Ms.zeroM_size (ms_size _) (msg_one _) ?_)) | ((with_reducible refine ms_load rfl rfl ?_); apply LoadMs.mk rfl (by with_reducible exact GDa.out.box) (ms_size _)))
      have BXb := Lib.hid (Box.made Xb 29 q.cells)
      have GXb := Lib.hid (GDa.out.call (one_below Xb (.cells q.cells 29)))
      have BDx := Lib.hid (BDa.out.below (one_below Xb (.cells q.cells 29)) BDa.out.lt)
      have ODx := Lib.hid (own_below ODa.out (one_below Xb (.cells q.cells 29)) (Nat.le_refl _))
      have lxb : w.heap.size < Xb.heap.size := GDa.out.box.lt
      have lxc : w2.heap.size < Xb.heap.size := BDa.out.lt
      generalize Xb.alloc (.cells q.cells 29) = Xc at *
      have GLb := Lib.hid (GXb.out.log_of HLL.out)

      have hl0b := (LiesS.belowW (GLb.out) ((Below.refl Xc.heap.size Xc).drew))
      obtain ⟨A3b, c3b, W3b, A4b, c4b, W4b, r3, r4, hOX, bX, bX3⟩ := en_joinedW Xc.drew (c1 := q.cl) (c2 := q.cl - i) (hl0b.take (i + 1) (by omega)) (hl0b.drop i (by omega) HCAP.out) (by omega) 26 26
      have bYb := ((Below.refl Xc.heap.size Xc).drew).trans (show Below Xc.heap.size Xc.drew W4b from bX)
      have bZ := ((Below.refl Xc.heap.size Xc).drew).trans (show Below Xc.heap.size Xc.drew W3b from bX3)
      have c14b := (GXb.out.box.cell 14).trans (show _ = some (Value.slice q.al q.m.log.length q.cl) from rfl)
      rw [HLL.out] at c14b
      have dD := fun (X : World) (hX : Below Xc.heap.size Xc X) => (hX.cell (p := ⟨w.heap.size, 14, none⟩) GXb.out.box.lt).trans c14b
      have xB := BXb.out.below bYb BXb.out.lt
      have xc := xB.cell 14
      have xf := xB.free 14
      have xl := xB.lt
      have xv := xc.trans (show _ = some (Value.slice q.al q.m.log.length q.cl) from rfl)
      refine Ry.wp_region_lex (by kernel_rfl) [] (by kernel_rfl) (· = Xc.drew) (fun X => X.cell? ⟨w.heap.size, 14, none⟩ = some (.slice q.al k q.cl)) (fun _ => True) rfl (fun W hW => ⟨by rw [hW]; exact dD _ ((Below.refl Xc.heap.size Xc).drew), trivial⟩) ?_
      refine Ry.lex_make rfl (W' := Xc.drew.alloc (.cells #[] 53)) (v := .slice (some ⟨Xc.drew.heap.size, 0, none⟩) 0 0) ?_ ⟨dD _ (((Below.refl Xc.heap.size Xc).drew).alloc (by simp) _), trivial⟩ ?_
      focus (go_simp; first | done | rfl)
      repeat (first | (apply Ry.lex_free rfl rfl; focus (intro _; go_simp; first | done | rfl)) | (apply Ry.lex_look rfl rfl rfl rfl; focus (intro W hW; go_simp; first | done | rfl)))
      refine Ry.lex_free rfl rfl (v := .slice q.al (i + 1) q.cl) (fun W => exec_slice_to3 (A := q.al) (m := k) (c := q.cl) (k := (i + 1)) (z := (i : Int) + 1) (by first | rfl | (push_cast; rfl)) rfl (by go_simp) (by go_simp <;> exact hwi) (by have := HCAP.out; omega)) ?_
      refine Ry.lex_make rfl (W' := W3b) (v := .slice A3b (i + 1) c3b) (exec_append' (x := .tmp 63) (y := .tmp 68) (v1 := .slice (some ⟨Xc.drew.heap.size, 0, none⟩) 0 0) (v2 := .slice q.al (i + 1) q.cl) rfl (by go_simp) (by go_simp) r3) ⟨dD _ bZ, trivial⟩ ?_
      repeat (first | (apply Ry.lex_free rfl rfl; focus (intro _; go_simp; first | done | rfl)) | (apply Ry.lex_look rfl rfl rfl rfl; focus (intro W hW; go_simp; first | done | rfl)))
      refine Ry.lex_free rfl rfl (v := .slice (dropA q.al q.cl i) (k - i) (q.cl - i)) (fun W => exec_slice_from3 (A := q.al) (m := k) (c := q.cl) (k := i) (z := (i : Int)) (by first | rfl | (push_cast; rfl)) rfl (by go_simp) (by go_simp <;> exact hwi) (by omega) HCAP.out) ?_
      refine Ry.lex_make rfl (W' := W4b) (v := .slice A4b ((i + 1) + (k - i)) c4b) (exec_append' (x := .tmp 69) (y := .tmp 73) (v1 := .slice A3b (i + 1) c3b) (v2 := .slice (dropA q.al q.cl i) (k - i) (q.cl - i)) rfl (by go_simp) (by go_simp) r4) ⟨dD _ bYb, trivial⟩ ?_
      repeat (apply Ry.lex_free rfl rfl; focus (intro _; go_simp; first | done | rfl))
      refine Ry.lex_store rfl rfl (C' := (· = W4b.setCell ⟨Xb.heap.size, 14, none⟩ (.slice A4b ((i + 1) + (k - i)) c4b))) (D' := fun _ => True) (fun W hW => ⟨_, by subst hW; go_simp; first | done | rfl, rfl⟩) (fun _ _ => ⟨trivial, trivial⟩) ?_
      refine Ry.lex_end fun W5 hW5 => ?_
      have hW5' := hW5.symm
      subst hW5'
      clear hW5
      simp only [Act.put, List.setIfInBounds_toArray, List.set_cons_succ, List.set_cons_zero]
      have GDb := Lib.hid (Gl.off (j := 14) (GXb.out.call bYb) xB (show w.heap.size ≠ Xb.heap.size by omega) (show w.heap.size ≤ Xb.heap.size by omega) (.slice A4b ((i + 1) + (k - i)) c4b))
      have LNb : (q.m.log.take (i + 1) ++ q.m.log.drop i).length = (i + 1) + (k - i) := by rw [List.length_append, List.length_take, List.length_drop, HLL.out]; omega
      have BDb := Lib.hid (show Box (W4b.setCell ⟨Xb.heap.size, 14, none⟩ (.slice A4b ((i + 1) + (k - i)) c4b)) Xb.heap.size 29 ({ q with m := { q.m with log := q.m.log.take (i + 1) ++ q.m.log.drop i }, al := A4b, cl := c4b } : Ms.S).cells by
        have kk := xB.put 14 (.slice A4b ((i + 1) + (k - i)) c4b)
        have ee : q.cells.setIfInBounds 14 (.slice A4b ((i + 1) + (k - i)) c4b) = ({ q with m := { q.m with log := q.m.log.take (i + 1) ++ q.m.log.drop i }, al := A4b, cl := c4b } : Ms.S).cells := by
          unfold Ms.S.cells Ms.cells Ms.S.sl
          dsimp only
          rw [LNb]
          rfl
        rw [ee] at kk
        exact kk)
      have ODb := Lib.hid (show (W4b.setCell ⟨Xb.heap.size, 14, none⟩ (.slice A4b ((i + 1) + (k - i)) c4b)).ownsRow _ 53 26 (.slice A4b (q.m.log.take (i + 1) ++ q.m.log.drop i).length c4b) (q.m.log.take (i + 1) ++ q.m.log.drop i).length (En.sCells (q.m.log.take (i + 1) ++ q.m.log.drop i)) by rw [LNb]; exact ownsRow_setCell_other (a := ⟨Xb.heap.size, 14, none⟩) hOX (xB.unowned hOX (by decide)) _)
      have BDz := Lib.hid ((BDx.out.below bYb BDx.out.lt).far (p := ⟨Xb.heap.size, 14, none⟩) (show w2.heap.size ≠ Xb.heap.size by omega) (.slice A4b ((i + 1) + (k - i)) c4b))
      have ODz := Lib.hid (show (W4b.setCell ⟨Xb.heap.size, 14, none⟩ (.slice A4b ((i + 1) + (k - i)) c4b)).ownsRow _ 53 26 (.slice A4a (q.m.log.take i ++ q.m.log.drop (i + 1)).length c4a) (q.m.log.take i ++ q.m.log.drop (i + 1)).length (En.sCells (q.m.log.take i ++ q.m.log.drop (i + 1))) from ownsRow_setCell_other (a := ⟨Xb.heap.size, 14, none⟩) (own_below ODx.out bYb (Nat.le_refl _)) (xB.unowned (own_below ODx.out bYb (Nat.le_refl _)) (by decide)) _)
      generalize W4b.setCell ⟨Xb.heap.size, 14, none⟩ (.slice A4b ((i + 1) + (k - i)) c4b) = Xd at *
      clear r3 r4 hOX bX bX3 hl0b bYb bZ c14b dD xB xc xf xl xv LNb
      have hlog : q.m.log = Bb.logOf f k := by rw [QM.out]; rfl
      have hlen0 : 0 < q.m.log.length := by rw [HLL.out]; omega
      have hp0 : q.m.log[0].cells.toArray = En.cells (Kd.e0 ((f : Int) + ((0 : Nat) : Int))).e (.slice none 0 0) := by
        have h0 : q.m.log[0]? = some (Kd.e0 ((f : Int) + ((0 : Nat) : Int))) := by rw [hlog]; exact Bb.logOf_at (by omega)
        have h1 : q.m.log[0] = Kd.e0 ((f : Int) + ((0 : Nat) : Int)) := Option.some.inj ((List.getElem?_eq_getElem hlen0).symm.trans h0)
        rw [h1]; exact En.S.cells_arr _
      have eX : ({ q with m := { q.m with log := q.m.log.take i ++ q.m.log.drop (i + 1) }, al := A4a, cl := c4a } : Ms.S).m = Bb.lm f ((Bb.logOf f k).take i ++ (Bb.logOf f k).drop (i + 1)) := by show ({ q.m with log := q.m.log.take i ++ q.m.log.drop (i + 1) } : Ms.M) = _; rw [hlog, QM.out]; rfl
      have eY : ({ q with m := { q.m with log := q.m.log.take (i + 1) ++ q.m.log.drop i }, al := A4b, cl := c4b } : Ms.S).m = Bb.lm f ((Bb.logOf f k).take (i + 1) ++ (Bb.logOf f k).drop i) := by show ({ q.m with log := q.m.log.take (i + 1) ++ q.m.log.drop i } : Ms.M) = _; rw [hlog, QM.out]; rfl
      have tX : Ms.Ty ({ q with m := { q.m with log := q.m.log.take i ++ q.m.log.drop (i + 1) }, al := A4a, cl := c4a } : Ms.S).m := by rw [eX]; exact Bb.lm_ty (by omega) (fun s hs => Bb.mem_log hfr s (Bb.mem_parts hs))
      have tY : Ms.Ty ({ q with m := { q.m with log := q.m.log.take (i + 1) ++ q.m.log.drop i }, al := A4b, cl := c4b } : Ms.S).m := by rw [eY]; exact Bb.lm_ty (by omega) (fun s hs => Bb.mem_log hfr s (Bb.mem_parts hs))
      have nX : ∀ s ∈ q.m.log.take i ++ q.m.log.drop (i + 1), s.e.evs = [] ∧ s.adr = none ∧ s.cap = 0 := fun s hs => Bb.logOf_bare f k s (Bb.mem_parts (by rw [← hlog]; exact hs))
      have nY : ∀ s ∈ q.m.log.take (i + 1) ++ q.m.log.drop i, s.e.evs = [] ∧ s.adr = none ∧ s.cap = 0 := fun s hs => Bb.logOf_bare f k s (Bb.mem_parts (by rw [← hlog]; exact hs))
      have lX : (q.m.log.take i ++ q.m.log.drop (i + 1)).length ≤ 1000 := by rw [List.length_append, List.length_take, List.length_drop, HLL.out]; omega
      have lY : (q.m.log.take (i + 1) ++ q.m.log.drop i).length ≤ 1000 := by rw [List.length_append, List.length_take, List.length_drop, HLL.out]; omega
      have cx := fun X (hX : Below Xd.heap.size Xd X) => Lib.hid (wmay_any ({ q with m := { q.m with log := q.m.log.take i ++ q.m.log.drop (i + 1) }, al := A4a, cl := c4a } : Ms.S) X tX (lies_own (q := ({ q with m := { q.m with log := q.m.log.take i ++ q.m.log.drop (i + 1) }, al := A4a, cl := c4a } : Ms.S)) (own_below ODz.out hX (Nat.le_refl _)) GDb.out.bare nX lX))
      have cy := fun X (hX : Below Xd.heap.size Xd X) => Lib.hid (wmay_any ({ q with m := { q.m with log := q.m.log.take (i + 1) ++ q.m.log.drop i }, al := A4b, cl := c4b } : Ms.S) X tY (lies_own (q := ({ q with m := { q.m with log := q.m.log.take (i + 1) ++ q.m.log.drop i }, al := A4b, cl := c4b } : Ms.S)) (own_below ODb.out hX (Nat.le_refl _)) GDb.out.bare nY lY))
      rw [show Ms.okB ({ q with m := { q.m with log := q.m.log.take i ++ q.m.log.drop (i + 1) }, al := A4a, cl := c4a } : Ms.S).m = (decide (i + 1 = k) && decide (1 < k)) by rw [eX]; exact Bb.skip hfr hkk hil] at cx
      rw [show Ms.okB ({ q with m := { q.m with log := q.m.log.take (i + 1) ++ q.m.log.drop i }, al := A4b, cl := c4b } : Ms.S).m = false by rw [eY]; exact (Ms.okB_no (Bb.twice hil)).symm] at cy
      have ce := fun X => Lib.hid (refmayen_any (Kd.e0 ((f : Int) + ((0 : Nat) : Int))).e none 0 0 X rfl (Nat.zero_le _) (Kd.e0_ty _ (by omega)).ins Lies.empty)
      rw [decide_eq_true (Kd.e0_ok ((f : Int) + ((0 : Nat) : Int)) (by omega))] at ce
      have ik0 : (0 : Int) < (k : Int) := by omega
      have KW := Lib.hid GDb.out.kept
      clear eX eY tX tY nX nY lX lY hlog
      generalize Kd.e0 ((f : Int) + ((0 : Nat) : Int)) = se at *
      by_cases h1 : i + 1 = k
      · have hki : (k : Int) - 1 = (i : Int) := by omega
        rw [decide_eq_true h1, Bool.true_and] at cx
        by_cases h2 : 1 < k
        · have h28 : 1 < (k : Int) := by omega
          rw [decide_eq_true h2] at cx
          clear h1 h2
          go_wp2_with (first | ((with_reducible refine ms_load_g ?_ rfl ?_); (focus first | rfl | kernel_rfl | simp [Region.wanted, yielded]); apply LoadMs.mk rfl (by first | (with_reducible exact BX5.out) | (with_reducible exact BY6.out)) (ms_size _)) | ((with_reducible refine load_at_gate_g ?_ rfl Try.underlying53 rfl en_info ?_); (focus first | rfl | kernel_rfl | simp [Region.wanted, yielded]); apply LoadAt.mk (ad := ad.add (0 * 26)) rfl hcl rfl; rw [HP0.out]) | (go_at_call 12; ((with_reducible refine ((ct _).out).mono ?_); rintro r w5 ⟨rfl, hb⟩; have K5 := Lib.hid hb; have c5 := cx w5 hb; have BX5 := Lib.hid (BDz.out.below hb BDz.out.lt); clear hb cx)) | (go_at_call 15; first | ((with_reducible refine (c5.out).mono ?_); rintro r w6 ⟨rfl, hb⟩; have K6 := Lib.hid (K5.out.trans (hb.mono K5.out.size)); have c6 := cy w6 K6.out; have BY6 := Lib.hid (BDb.out.below K6.out BDb.out.lt); clear hb cy c5) | ((with_reducible refine (c6.out).mono ?_); rintro r w7 ⟨rfl, hb⟩; have K7 := Lib.hid (K6.out.trans (hb.mono K6.out.size)); have G7 := GDb.out.call K7.out; have HP0 := Lib.hid hp0; obtain ⟨ad, hA, hal7, hcl⟩ := (G7.log_of HLL.out).at 0 hlen0; have c77 := (G7.box.cell 14).trans (show _ = some (Value.slice q.al q.m.log.length q.cl) from rfl); rw [HLL.out, hA] at c77; clear hb c6)) | (go_at_call 24; ((with_reducible refine ((ce _).out).mono ?_); rintro r w8 ⟨rfl, hb⟩; have K8 := Lib.hid (K7.out.trans (hb.mono K7.out.size)); clear hb)))
          go_ret
          exact ⟨rfl, KW.out.trans (K8.out.mono KW.out.size)⟩
        · have h28 : decide (1 < (k : Int)) = false := decide_eq_false (by omega)
          rw [decide_eq_false h2] at cx
          clear h1 h2
          go_wp2_with (first | ((with_reducible refine ms_load_g ?_ rfl ?_); (focus first | rfl | kernel_rfl | simp [Region.wanted, yielded]); apply LoadMs.mk rfl (by first | (with_reducible exact BX5.out) | (with_reducible exact BY6.out)) (ms_size _)) | ((with_reducible refine load_at_gate_g ?_ rfl Try.underlying53 rfl en_info ?_); (focus first | rfl | kernel_rfl | simp [Region.wanted, yielded]); apply LoadAt.mk (ad := ad.add (0 * 26)) rfl hcl rfl; rw [HP0.out]) | (go_at_call 12; ((with_reducible refine ((ct _).out).mono ?_); rintro r w5 ⟨rfl, hb⟩; have K5 := Lib.hid hb; have c5 := cx w5 hb; have BX5 := Lib.hid (BDz.out.below hb BDz.out.lt); clear hb cx)) | (go_at_call 15; first | ((with_reducible refine (c5.out).mono ?_); rintro r w6 ⟨rfl, hb⟩; have K6 := Lib.hid (K5.out.trans (hb.mono K5.out.size)); have c6 := cy w6 K6.out; have BY6 := Lib.hid (BDb.out.below K6.out BDb.out.lt); clear hb cy c5) | ((with_reducible refine (c6.out).mono ?_); rintro r w7 ⟨rfl, hb⟩; have K7 := Lib.hid (K6.out.trans (hb.mono K6.out.size)); have G7 := GDb.out.call K7.out; have HP0 := Lib.hid hp0; obtain ⟨ad, hA, hal7, hcl⟩ := (G7.log_of HLL.out).at 0 hlen0; have c77 := (G7.box.cell 14).trans (show _ = some (Value.slice q.al q.m.log.length q.cl) from rfl); rw [HLL.out, hA] at c77; clear hb c6)) | (go_at_call 24; ((with_reducible refine ((ce _).out).mono ?_); rintro r w8 ⟨rfl, hb⟩; have K8 := Lib.hid (K7.out.trans (hb.mono K7.out.size)); clear hb)))
          go_ret
          exact ⟨rfl, KW.out.trans (K8.out.mono KW.out.size)⟩
      · have hki : ¬ (i : Int) = (k : Int) - 1 := by omega
        rw [decide_eq_false h1, Bool.false_and] at cx
        clear h1
        go_wp2_with (first | ((with_reducible refine ms_load_g ?_ rfl ?_); (focus first | rfl | kernel_rfl | simp [Region.wanted, yielded]); apply LoadMs.mk rfl (by first | (with_reducible exact BX5.out) | (with_reducible exact BY6.out)) (ms_size _)) | ((with_reducible refine load_at_gate_g ?_ rfl Try.underlying53 rfl en_info ?_); (focus first | rfl | kernel_rfl | simp [Region.wanted, yielded]); apply LoadAt.mk (ad := ad.add (0 * 26)) rfl hcl rfl; rw [HP0.out]) | (go_at_call 12; ((with_reducible refine ((ct _).out).mono ?_); rintro r w5 ⟨rfl, hb⟩; have K5 := Lib.hid hb; have c5 := cx w5 hb; have BX5 := Lib.hid (BDz.out.below hb BDz.out.lt); clear hb cx)) | (go_at_call 15; first | ((with_reducible refine (c5.out).mono ?_); rintro r w6 ⟨rfl, hb⟩; have K6 := Lib.hid (K5.out.trans (hb.mono K5.out.size)); have c6 := cy w6 K6.out; have BY6 := Lib.hid (BDb.out.below K6.out BDb.out.lt); clear hb cy c5) | ((with_reducible refine (c6.out).mono ?_); rintro r w7 ⟨rfl, hb⟩; have K7 := Lib.hid (K6.out.trans (hb.mono K6.out.size)); have G7 := GDb.out.call K7.out; have HP0 := Lib.hid hp0; obtain ⟨ad, hA, hal7, hcl⟩ := (G7.log_of HLL.out).at 0 hlen0; have c77 := (G7.box.cell 14).trans (show _ = some (Value.slice q.al q.m.log.length q.cl) from rfl); rw [HLL.out, hA] at c77; clear hb c6)) | (go_at_call 24; ((with_reducible refine ((ce _).out).mono ?_); rintro r w8 ⟨rfl, hb⟩; have K8 := Lib.hid (K7.out.trans (hb.mono K7.out.size)); clear hb)))
        go_ret
        exact ⟨rfl, KW.out.trans (K8.out.mono KW.out.size)⟩
end Go.Proofs.Ytgmlbimgcifenaa
