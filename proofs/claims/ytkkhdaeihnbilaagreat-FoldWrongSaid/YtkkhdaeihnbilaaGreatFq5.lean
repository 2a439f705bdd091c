/-
Several texts in one: Tb Qx Rt Tc Td Tk I4 Ia Ib Ic Nl Id Ie If.
-/
import Derived.Test.YtkkhdaeihnbilaaGreatFq4
namespace Go.Proofs.YtkkhdaeihnbilaaGreat
open Go.RowKit Go.Shelf
set_option linter.unusedVariables false
attribute [local go_sem] Oper.semAt_some
set_option maxHeartbeats 400000 in
theorem rospeer_any (i : Int) (w : World) :
    Calls Tryz.prog 83 #[.int .i64 i] w fun e w' => e = .returned (.bool (decide (0 ≤ i ∧ i < 12))) ∧ w = w' := by
  go_enter Tryz.func83, Tryz.ntmps83
  go_wp2
  all_goals
    go_ret
    exact ⟨ret_bool (by rw [Bool.eq_iff_iff]; simp; omega), rfl⟩
set_option maxHeartbeats 400000 in
theorem rosslot_any (i : Int) (w : World) :
    Calls Tryz.prog 48 #[.int .i64 i] w fun e w' => e = .returned (.bool (decide (0 ≤ i ∧ i < 8))) ∧ w = w' := by
  go_enter Tryz.func48, Tryz.ntmps48
  go_wp2
  all_goals
    go_ret
    exact ⟨ret_bool (by rw [Bool.eq_iff_iff]; simp; omega), rfl⟩
set_option maxHeartbeats 1000000 in
theorem mayseat_any (p g : Int) (w : World) :
    Calls Tryz.prog 92 #[.agg #[.int .i64 p, .int .i64 g]] w fun e w' => e = .returned (.bool (decide ((0 ≤ g ∧ g ≤ 60000) ∧ (p = -1 ∨ ((0 ≤ p ∧ p < 12) ∧ 0 < g))))) ∧ Below w.heap.size w w' := by
  have c1 := fun X => Lib.hid (rospeer_any p X)
  by_cases hg : g < 0
  · go_enter Tryz.func92, Tryz.ntmps92
    go_wp2
    go_ret
    exact ⟨ret_bool (by (try rw [Bool.eq_iff_iff]) <;> simp <;> omega), one_below _ _⟩
  by_cases hg2 : 60000 < g
  · go_enter Tryz.func92, Tryz.ntmps92
    go_wp2
    go_ret
    exact ⟨ret_bool (by (try rw [Bool.eq_iff_iff]) <;> simp <;> omega), one_below _ _⟩
  by_cases hp : p = -1
  · subst hp
    go_enter Tryz.func92, Tryz.ntmps92
    go_wp2
    go_ret
    exact ⟨ret_bool (by (try rw [Bool.eq_iff_iff]) <;> simp <;> omega), one_below _ _⟩
  have hpb : (p == -1) = false := by simpa using hp
  by_cases hq : 0 ≤ p ∧ p < 12
  · rw [decide_eq_true hq] at c1
    by_cases hg0 : 0 < g
    · go_enter Tryz.func92, Tryz.ntmps92
      go_wp2_with (go_at_call 83; ((with_reducible refine ((c1 _).out).mono ?_); rintro e w1 ⟨rfl, rfl⟩))
      go_ret
      exact ⟨ret_bool (by (try rw [Bool.eq_iff_iff]) <;> simp <;> omega), one_below _ _⟩
    · go_enter Tryz.func92, Tryz.ntmps92
      go_wp2_with (go_at_call 83; ((with_reducible refine ((c1 _).out).mono ?_); rintro e w1 ⟨rfl, rfl⟩))
      go_ret
      exact ⟨ret_bool (by (try rw [Bool.eq_iff_iff]) <;> simp <;> omega), one_below _ _⟩
  · rw [decide_eq_false hq] at c1
    have HQ := Lib.hid hq
    clear hq
    go_enter Tryz.func92, Tryz.ntmps92
    go_wp2_with (go_at_call 83; ((with_reducible refine ((c1 _).out).mono ?_); rintro e w1 ⟨rfl, rfl⟩))
    go_ret
    have hq := HQ.out
    exact ⟨ret_bool (by (try rw [Bool.eq_iff_iff]) <;> simp <;> omega), one_below _ _⟩

/-- The seats' going over is made. -/
theorem seats_any (B : Nat) (w : World) :
    Calls Tryz.prog 55 #[.pointer (some ⟨B, 0, none⟩)] w fun e w' => e = .returned (.func (.func 93) #[] #[.pointer (some ⟨w.heap.size, 0, none⟩)]) ∧ w' = w.alloc (.cells #[.pointer (some ⟨B, 0, none⟩)] 95) := by
  have hmf : ∀ (fn : Fn) (first cap : Array Value) (w : World), (Instr.makeFunc fn first cap).run Tryz.prog w = .ok (.func fn first cap) w := fun _ _ _ _ => rfl
  go_enter Tryz.func55, Tryz.ntmps55
  go_wp2
  go_ret
  exact ⟨rfl, rfl⟩

abbrev seatEnc (B : Nat) (x : Ros.Sl) : Array Value := #[.int .i64 x.1, .pointer (some ⟨B, 1 + x.1 * 2, none⟩)]
/-- What the going over reads between two rounds: where the roster lies. -/
def Sitting (B Bg : Nat) (W : World) : Prop := W.cell? ⟨Bg, 0, none⟩ = some (.pointer (some ⟨B, 0, none⟩))
theorem Sitting.below {B Bg : Nat} {w W : World} (h : Sitting B Bg w) (hb : Below w.heap.size w W) : Sitting B Bg W :=
  (World.cell?_of_block (hb.block _ (World.block_lt_of_cell? w _ h))).trans h
def SitKp (B Bg : Nat) (W W' : World) : Prop := Sitting B Bg W → Sitting B Bg W'
theorem sitkp_t {B Bg : Nat} {X Y Z : World} (h : SitKp B Bg X Y) (k : SitKp B Bg Y Z) : SitKp B Bg X Z := fun hx => k (h hx)
theorem sitkp_b {B Bg : Nat} {n : Nat} (W : World) (l : Nat) (o o' : Obj) (_ : n ≤ l) (h : W.heap[l]? = some o) (hc : o.isCells = false) (_ : o.isWalk = false) : SitKp B Bg W (W.putObj l o') := fun hf =>
  cell_kept hf (grownBy_putObj' W l o') (fun r e => by cases e; exact ⟨_, h, hc⟩)

set_option maxRecDepth 100000 in
set_option maxHeartbeats 4000000 in
theorem seats1_in (B Bg : Nat) (n l : Nat) (J Jx : List Ros.Sl → World → Prop)
    (hY : ∀ pre x W, J pre W → pre.length < 8 → YieldAt Fence.wide (n - 1) Tryz.prog l (seatEnc B x) W fun e W' =>
      (e = .returned (.bool true) ∧ J (pre ++ [x]) W' ∧ SitKp B Bg W W') ∨ (e = .returned (.bool false) ∧ Jx (pre ++ [x]) W'))
    (W : World) (hF : Sitting B Bg W) (h0 : J [] W) :
    CallsIn Fence.wide n Tryz.prog 93 #[.func (.yield l) #[] #[], .pointer (some ⟨Bg, 0, none⟩)] W fun e W' => (∃ v, e = .returned v) ∧
      ((∃ ys, ys = Ros.all8 ∧ J ys W') ∨ (∃ pre, (∃ rest, Ros.all8 = pre ++ rest) ∧ Jx pre W')) := by
  refine callsIn_of_wp Tryz.func93 rfl trivial ?_ rfl
  simp only [Tryz.ntmps93, List.size_toArray, List.length_cons, List.length_nil, Nat.reduceAdd, Nat.reduceSub, Array.replicate_succ, Array.replicate_zero, List.push_toArray, List.append_toArray, List.nil_append, List.cons_append]
  gi_wp2
  gi_loopw [4] (fun p wr => ∃ (i : Nat) (pre : List Ros.Sl), i ≤ 8 ∧ p = .int .i64 i ∧ Ros.all8 = pre ++ Ros.slots (8 - i) i ∧ Sitting B Bg wr ∧ J pre wr)
    (fun p _ => 8 - (intOf p).toNat)
  case atStart =>
    exact ⟨0, [], by omega, rfl, rfl, hF, h0⟩
  case round =>
    obtain ⟨i, pre, hi, rfl, hx, hf, hJs⟩ := hrel
    by_cases hlt : i < 8
    · have hi8 : (i : Int) < 8 := by omega
      have f0 : wr.cell? ⟨Bg, 0, none⟩ = some (.pointer (some ⟨B, 0, none⟩)) := hf
      rw [show 8 - i = (8 - (i + 1)) + 1 by omega, Ros.slots_yes hlt] at hx
      have hlen : pre.length < 8 := by
        have := Ros.slots_len 8 0; rw [show Ros.slots 8 0 = Ros.all8 from rfl, hx] at this; simp at this; omega
      obtain ⟨fn, tmps, assign, body, hy, hR⟩ := hY pre ⟨i, hlt⟩ wr hJs hlen
      dsimp only [seatEnc] at hy
      have HX := Lib.hid hx
      have HF := Lib.hid hf
      clear hx hf hJs hY
      gi_wp2
      refine ⟨fun h => (by cases h), hR.mono ?_⟩
      rintro e W3 (⟨rfl, hJ3, hk3⟩ | ⟨rfl, hJx3⟩)
      · gi_wp2
        go_roundw
        case rel => exact ⟨i + 1, pre ++ [⟨i, hlt⟩], by omega, by go_num, by rw [HX.out]; simp, hk3 HF.out, hJ3⟩
        case measure => simp [intOf]; omega
      · gi_wp2
        refine bodyPost_ret (results_none rfl _ _ _) rfl ?_
        exact ⟨⟨_, rfl⟩, .inr ⟨pre ++ [⟨i, hlt⟩], ⟨Ros.slots (8 - (i + 1)) (i + 1), by rw [HX.out]; simp⟩, hJx3⟩⟩
    · have hi8 : ¬ (i : Int) < 8 := by omega
      have hie : i = 8 := by omega
      subst hie
      have HX := Lib.hid (show Ros.all8 = pre by rw [hx]; simp [Ros.slots])
      clear hx
      gi_wp2
      go_end0
      have e := HX.out
      first
        | exact ⟨⟨_, rfl⟩, .inl ⟨pre, e.symm, hJs⟩⟩
        | exact ⟨⟨_, rfl⟩, .inl (by rw [e]; exact hJs)⟩

theorem seats1_stops (B Bg : Nat) (n : Nat) (w : World) (hF : Sitting B Bg w) :
    SeqStopsK Fence.wide n Tryz.prog 93 #[.pointer (some ⟨Bg, 0, none⟩)] (seatEnc B) (SitKp B Bg) (fun xs => xs = Ros.all8) (fun pre => ∃ rest, Ros.all8 = pre ++ rest) 8 w :=
  fun l J Jx W hW _ _ hY h0 => seats1_in B Bg n l J Jx hY W (hF.below hW) h0
end Go.Proofs.YtkkhdaeihnbilaaGreat
namespace Go
open Go.RowKit

/-- A world that came of W, with every block below B as it was. -/
structure Ext (B : Nat) (W : World) where
  w : World
  h : Below B W w

instance {B : Nat} {W : World} : Nonempty (Ext B W) := ⟨⟨W, Below.refl _ _⟩⟩

theorem Ext.cell {B : Nat} {W : World} (q : Ext B W) {b o : Nat} {v : Value} (hb : b < B) (hc : W.cell? ⟨b, o, none⟩ = some v) : q.w.cell? ⟨b, o, none⟩ = some v :=
  (q.h.cell (p := ⟨b, o, none⟩) hb).trans hc

theorem wp_region_ext {P : Program} {id : Nat} {Q : Exit → Act → World → Prop} {a : Act} {w : World} {l : List Oper} (B : Nat) (W : World) (hm : P.follows .mixedOrders = true) (hB : Region.lexB .any l.toArray = true) (hC : Below B W w)
    (h : wpQuiet P l.toArray (fun w' => ∃ q : Ext B W, w' = q.w) (fun a' => ∀ w', (∃ q : Ext B W, w' = q.w) → Q .normal a' w') l a) : (Code.region id l.toArray true).wp P Q a w :=
  wp_region_quiet (C := fun w' => ∃ q : Ext B W, w' = q.w) hm hB ⟨⟨_, hC.drew⟩, rfl⟩ (by simpa using h)

/-- A callee that may make memory. -/
theorem Calls.ext_of {P : Program} {f : FuncId} {args : Array Value} {B : Nat} {W : World} {q : Ext B W} {v : Value} (hB : B ≤ W.heap.size)
    (h : Calls P f args q.w fun e w' => e = .returned v ∧ Below q.w.heap.size q.w w') : Calls P f args q.w fun e w'' => e = .returned v ∧ ∃ q' : Ext B W, w'' = q'.w :=
  h.mono fun _ w' ⟨he, hb⟩ => ⟨he, ⟨w', q.h.trans (hb.mono (Nat.le_trans hB q.h.size))⟩, rfl⟩

end Go
namespace Rt
open Go Go.RowKit
set_option linter.unusedVariables false

def tame (o : Oper) : Bool := match o.op with | .defer .. => false | _ => true
theorem rows_in {n l : Nat} {P : Program} {row : String} {args : Array Value} {w : World} {R : Value → World → Prop} (h : Rows P row args w R) : RowsIn (Fence.wide.inRound l) n P row args w R :=
  fun c cs _ => let ⟨v, w', r, s⟩ := h c cs; ⟨v, w', r, stepsIn_wide.2 s⟩
theorem oper_in {n l : Nat} {P : Program} {o : Oper} {a : Act} {w : World} {K : Act → World → Prop} {Q : Exit → Act → World → Prop} (ht : tame o = true) (h : o.wp P a w K Q) : o.wpIn (Fence.wide.inRound l) n P a w K Q := by
  refine ⟨fun _ _ => trivial, ?_⟩
  rw [Oper.semAt_eq _ _ _ (fun c e => by unfold tame at ht; rw [e] at ht; cases ht)]
  unfold Oper.wp at h
  generalize (execOp a.eval o).run P w = r at *
  cases r with
  | ok x w' =>
    cases x <;> simp only [Oper.upon] at h <;> simp only [Oper.uponIn]
    case value => exact h
    case skip => exact h
    case defer => exact h
    case enter => exact ⟨fun e => (by cases e), (callsIn_wide.2 h).inRound l⟩
    case row => exact ⟨fun e => (by cases e), rows_in h⟩
  | halt x w' => cases x <;> simp only [Oper.upon] at h <;> simp only [Oper.uponIn] <;> exact h
theorem op_in {n l : Nat} {P : Program} {ops : Array Oper} {i : Nat} {a : Act} {w : World} {K : Act → World → Prop} {Q : Exit → Act → World → Prop} (ht : ops.all tame = true) (hQ : ¬ LetsOut Q) (h : wpOp P ops Q i K a w) : wpOpIn (Fence.wide.inRound l) n P ops Q i K a w := by
  unfold wpOp at h
  unfold wpOpIn
  split
  · rename_i e; simp only [e] at h; exact h
  · rename_i o e
    simp only [e] at h
    have hto : tame o = true := Array.all_eq_true_iff_forall_mem.1 ht o (Array.mem_of_getElem? e)
    split
    · rename_i hw
      simp only [hw, if_true] at h
      rcases h with h | h
      · exact oper_in hto h
      · exact absurd h.2 hQ
    · rename_i hw
      simp only [hw] at h
      exact ⟨fun _ _ => trivial, h⟩
theorem any_in {n l : Nat} {P : Program} {ops : Array Oper} {Q : Exit → Act → World → Prop} (ht : ops.all tame = true) (hQ : ¬ LetsOut Q) : ∀ (fuel : Nat) (listed : Array Bool) (a : Act) (w : World), wpAny P .any ops Q fuel listed a w → wpAnyIn (Fence.wide.inRound l) n P .any ops Q fuel listed a w
  | 0, _, _, _, h => h
  | fuel + 1, listed, a, w, h => ⟨h.1, fun i hi => wpOpIn_mono (fun a' w' h' => any_in ht hQ fuel _ a' w' h') (op_in ht hQ (h.2 i hi))⟩

theorem region_lex {n l id : Nat} {P : Program} {ops : List Oper} {a : Act} {w : World} {Q : Exit → Act → World → Prop} (hm : P.follows .mixedOrders = true) (ht : ops.toArray.all tame = true) (st : List Nat) (hB : Rp.okB st ops = true) (hQ : ¬ LetsOut Q) (C0 D0 E : World → Prop) (hC : C0 w.drew) (hCD : ∀ w, C0 w → D0 w ∧ E w)
    (h : Rp.wpLex P st E (fun a' C' => ∀ w', C' w' → Q .normal a' w') ops 0 a C0 D0) : (Code.region id ops.toArray true).wpIn (Fence.wide.inRound l) n P Q a w :=
  wpIn_region_any hm (any_in ht hQ _ _ _ _ (Rp.any_of_lex hB C0 D0 hC hCD h))
theorem region_ext {n l id : Nat} {P : Program} {ops : List Oper} {a : Act} {w : World} {Q : Exit → Act → World → Prop} (B : Nat) (W : World) (hm : P.follows .mixedOrders = true) (ht : ops.toArray.all tame = true) (hB : Region.lexB .any ops.toArray = true) (hQ : ¬ LetsOut Q) (hC : Below B W w)
    (h : wpQuiet P ops.toArray (fun w' => ∃ q : Ext B W, w' = q.w) (fun a' => ∀ w', (∃ q : Ext B W, w' = q.w) → Q .normal a' w') ops a) : (Code.region id ops.toArray true).wpIn (Fence.wide.inRound l) n P Q a w := by
  refine wpIn_region_any hm (any_in ht hQ _ _ _ _ ?_)
  simp only [Region.lexB, Bool.and_eq_true] at hB
  refine wpAny_of_quiet (C := fun w' => ∃ q : Ext B W, w' = q.w) (Q := fun a' => ∀ w', (∃ q : Ext B W, w' = q.w) → Q .normal a' w') (fun _ w' hw' h => h w' hw') _ _ _ _ ⟨⟨_, hC.drew⟩, rfl⟩ ?_
  have := wpAnyQ_lex (C := fun w' => ∃ q : Ext B W, w' = q.w) (md := .any) hB.1 ops.toArray.toList 0 (Array.replicate ops.toArray.size false) a (by simp) (by simpa using hB.2) (by simpa using h)
  simpa using this
end Rt
namespace Go.Proofs.YtkkhdaeihnbilaaGreat
open Go.RowKit Go.Shelf
set_option linter.unusedVariables false
attribute [local go_sem] Oper.semAt_some
/-- What May knows on its way. -/
structure Maying (B Br Bh Bg : Nat) (w0 : World) (r : Ros.R) (pre : List Ros.Sl) (W : World) : Prop where
  ros : Box W B 33 (Ros.cells r)
  res : Box W Br 4 #[.bool false]
  has : Box W Bh 124 (Ros.hasCells (Ros.hasF r pre))
  sit : Box W Bg 95 #[.pointer (some ⟨B, 0, none⟩)]
  below : Below w0.heap.size w0 W
  good : Ros.Good r pre
theorem Below.turned {b : Nat} {w0 W W' : World} {row : Option Nat} (h : Below b w0 W) (hb : b ≤ w0.heap.size) (hg : W.grownBy W' row) (hr : ∀ r, row = some r → b ≤ r) : Below b w0 W' :=
  h.grown hg (Nat.le_trans hb h.size) fun k e => hr k e
theorem Maying.turned {B Br Bh Bg : Nat} {w0 : World} {r : Ros.R} {pre : List Ros.Sl} {W W' : World} {row : Option Nat} (h : Maying B Br Bh Bg w0 r pre W) (hg : W.grownBy W' row) (hr : ∀ r, row = some r → w0.heap.size ≤ r ∧ ∃ o : Obj, W.heap[r]? = some o ∧ o.isCells = false) : Maying B Br Bh Bg w0 r pre W' :=
  ⟨h.ros.turned hg fun r e => (hr r e).2, h.res.turned hg fun r e => (hr r e).2, h.has.turned hg fun r e => (hr r e).2, h.sit.turned hg fun r e => (hr r e).2, Below.turned h.below (Nat.le_refl _) hg fun r e => (hr r e).1, h.good⟩

theorem Maying.call {B Br Bh Bg : Nat} {w0 : World} {r : Ros.R} {pre : List Ros.Sl} {W W' : World} (h : Maying B Br Bh Bg w0 r pre W) (hb : Below W.heap.size W W') : Maying B Br Bh Bg w0 r pre W' :=
  ⟨h.ros.below hb h.ros.lt, h.res.below hb h.res.lt, h.has.below hb h.has.lt, h.sit.below hb h.sit.lt, h.below.trans (hb.mono h.below.size), h.good⟩

set_option maxRecDepth 100000 in
set_option maxHeartbeats 4000000 in
theorem rosmay_any (r : Ros.R) (w : World) :
    Calls Tryz.prog 54 #[.agg (Ros.cells r)] w fun e w' => e = .returned (.bool (Ros.may r)) ∧ Below w.heap.size w w' := by
  have B0 := Box.made w 33 (Ros.cells r)
  have hc : ∀ o j, ((w.alloc (.cells (Ros.cells r) 33)).alloc o).cell? ⟨w.heap.size, j, none⟩ = (Ros.cells r)[j]? := fun o j => (B0.alloc o).cell j
  have h0 := Ros.cells_0 r
  by_cases hv1 : r.version < 0
  · skip
    have hno : Ros.may r = false := decide_eq_false fun h => by have := h.1; omega
    have d1 : decide (r.version < 0) = true := decide_eq_true hv1
    rw [hno]
    have hres := (Box.made_at (n := w.heap.size + 1) (w.alloc (.cells (Ros.cells r) 33)) 4 #[.bool false] (by simp)).put 0 (.bool false)
    have hcr := hres.cell 0
    clear B0 hno hres
    go_enter Tryz.func54, Tryz.ntmps54
    go_wp2
    refine bodyPost_ret (v := .bool false) (by simp [results, Tryz.f54, go_sem] <;> exact hcr) rfl ?_
    exact ⟨rfl, two_below' w _ _⟩
  by_cases hv2 : 1073741824 < r.version
  · skip
    have hno : Ros.may r = false := decide_eq_false fun h => by have := h.1; omega
    have d1 : decide (r.version < 0) = false := decide_eq_false hv1
    have d2 : decide (1073741824 < r.version) = true := decide_eq_true hv2
    rw [hno]
    have hres := (Box.made_at (n := w.heap.size + 1) (w.alloc (.cells (Ros.cells r) 33)) 4 #[.bool false] (by simp)).put 0 (.bool false)
    have hcr := hres.cell 0
    clear B0 hno hres
    go_enter Tryz.func54, Tryz.ntmps54
    go_wp2
    refine bodyPost_ret (v := .bool false) (by simp [results, Tryz.f54, go_sem] <;> exact hcr) rfl ?_
    exact ⟨rfl, two_below' w _ _⟩
  have hver : 0 ≤ r.version ∧ r.version ≤ 1073741824 := by omega
  have d1 : decide (r.version < 0) = false := decide_eq_false hv1
  have d2 : decide (1073741824 < r.version) = false := decide_eq_false hv2
  have HV := Lib.hid hver
  have BB := Lib.hid B0
  clear hv1 hv2 hver
  refine (callsIn_wide (n := 10)).1 (callsIn_of_wp_marks Tryz.func54 rfl trivial (wpIn_wide.2 ?_) rfl)
  simp only [Tryz.ntmps54, List.size_toArray, List.length_cons, List.length_nil, Nat.reduceAdd, Nat.reduceSub, Array.replicate_succ, Array.replicate_zero, List.push_toArray, List.append_toArray, List.nil_append, List.cons_append]
  go_upto_block 0 with (go_at_call 55; ((with_reducible refine (seats_any _ _).mono ?_); rintro e w3 ⟨rfl, rfl⟩))
  have M0 : Maying w.heap.size (w.heap.size + 1) (w.heap.size + 1 + 1) (w.heap.size + 1 + 1 + 1) w r [] ((((w.alloc (.cells (Ros.cells r) 33)).alloc (.cells #[.bool false] 4)).alloc (.cells (Ros.hasCells fun _ => false) 124)).alloc (.cells #[.pointer (some ⟨w.heap.size, 0, none⟩)] 95)) :=
    ⟨((BB.out.alloc _).alloc _).alloc _, ((Box.made_at _ _ _ (by simp)).alloc _).alloc _, (Box.made_at _ _ _ (by simp)).alloc _, Box.made_at _ _ _ (by simp), ((((Below.refl _ _).alloc (Nat.le_refl _) _).alloc (by simp) _).alloc (by simp <;> omega) _).alloc (by simp <;> omega) _, Ros.good_nil r⟩
  simp only [Ros.hasCells] at M0
  generalize hW0 : ((((w.alloc (.cells (Ros.cells r) 33)).alloc (.cells #[.bool false] 4)).alloc _).alloc _) = W0 at M0 ⊢
  have MM0 := Lib.hid M0
  have hs0 : Sitting w.heap.size (w.heap.size + 1 + 1 + 1) W0 := M0.sit.cell 0
  clear hW0 M0 BB B0 hc h0 d1 d2
  refine (wpIn_wide (n := 10)).1 ?_
  refine wpIn_block ?_
  refine' wpIn_rangeFunc_ownF (n := 10) (w := W0) rfl (by omega) (gf := 93) (lb := #[.pointer (some ⟨w.heap.size + 1 + 1 + 1, 0, none⟩)]) rfl trivial (enters_of Tryz.func93 (by kernel_rfl) rfl)
    (seats1_stops w.heap.size (w.heap.size + 1 + 1 + 1) _ W0 hs0) sitkp_t (sitkp_b (n := W0.heap.size)) (Below.refl _ _) (fun _ => rfl)
    (fun pre W => Maying w.heap.size (w.heap.size + 1) (w.heap.size + 1 + 1) (w.heap.size + 1 + 1 + 1) w r pre W)
    (fun c pre W => c = .ret ∧ ¬ Ros.Good r pre ∧ Box W (w.heap.size + 1) 4 #[.bool false] ∧ Below w.heap.size w W)
    (fun pre W W' row h hgr hr => h.turned hgr (fun r e => ⟨Nat.le_trans MM0.out.below.size (hr r e).1, (hr r e).2⟩))
    (fun c pre W W' row h hgr hr => ⟨h.1, h.2.1, h.2.2.1.turned hgr (fun r e => (hr r e).2), Below.turned h.2.2.2 (Nat.le_refl _) hgr (fun r e => Nat.le_trans MM0.out.below.size (hr r e).1)⟩)
    MM0.out _ ?assign ?body ?done ?stop
  case assign =>
    intro l x W K hK
    gi_wp2
    exact hK
  case body =>
    rintro l pre ⟨k, hk⟩ W hM hlen
    have hk8 : (k : Int) < 8 := by omega
    have rc := hM.ros.cell
    have hl := hM.ros.lt
    have rp := Ros.cells_peer r k hk
    have rg := Ros.cells_gen r k hk
    have cs := fun X => Lib.hid (mayseat_any (r.peer k) (r.gen k) X)
    have HM := Lib.hid hM
    clear hM hlen
    by_cases hok : Ros.OkSeat r k
    · have hok' : (0 ≤ r.gen k ∧ r.gen k ≤ 60000) ∧ (r.peer k = -1 ∨ ((0 ≤ r.peer k ∧ r.peer k < 12) ∧ 0 < r.gen k)) := hok
      rw [decide_eq_true hok'] at cs
      have HOK := Lib.hid hok
      by_cases hp : r.peer k = -1
      · have HG : Hid (Ros.Good r (pre ++ [⟨k, hk⟩])) := Lib.hid (Ros.good_snoc.2 ⟨HM.out.good, hok, fun y hy => by rw [show r.peer (⟨k, hk⟩ : Ros.Sl).1 = -1 from hp]; omega⟩)
        have HF : Hid (Ros.hasF r (pre ++ [⟨k, hk⟩]) = Ros.hasF r pre) := Lib.hid (funext fun q => Ros.hasF_no (x := ⟨k, hk⟩) hp q)
        rw [hp] at rp cs
        generalize r.gen k = g at rg cs
        clear hok hok' hp
        gi_wp2_with (first | (gi_at_call 92; ((with_reducible refine (CallsIn.inRound l (callsIn_wide.2 (cs _).out)).mono ?_); rintro e v1 ⟨rfl, hb1⟩; have M1 := HM.out.call hb1; have s1 := M1.ros.cell; have s2 := M1.res.cell; have t2 := M1.res.free; have s3 := M1.has.cell; have t3 := M1.has.free; have l1 := M1.ros.lt; clear M1)) | (refine ⟨trivial, ?_⟩; gi_at_call 92; ((with_reducible refine (CallsIn.inRound l (callsIn_wide.2 (cs _).out)).mono ?_); rintro e v1 ⟨rfl, hb1⟩; have M1 := HM.out.call hb1; have s1 := M1.ros.cell; have s2 := M1.res.cell; have t2 := M1.res.free; have s3 := M1.has.cell; have t3 := M1.has.free; have l1 := M1.ros.lt; clear M1)))
        have M2 := HM.out.call hb1
        refine ⟨below_others hb1, fun h => h.below hb1, ?_⟩
        exact ⟨M2.ros, M2.res, by rw [HF.out]; exact M2.has, M2.sit, M2.below, HG.out⟩
      · obtain ⟨n, hn, hn12⟩ : ∃ n : Nat, r.peer k = n ∧ n < 12 := ⟨(r.peer k).toNat, by omega, by omega⟩
        have hne : ((n : Int) == -1) = false := by simp
        have hni : (n : Int) < 12 := by omega
        have ha := Ros.hasCells_at (Ros.hasF r pre) n hn12
        cases hh : Ros.hasF r pre n
        · rw [hh] at ha
          have HG : Hid (Ros.Good r (pre ++ [⟨k, hk⟩])) := Lib.hid (Ros.good_snoc.2 ⟨HM.out.good, hok, fun y hy => by rw [show r.peer (⟨k, hk⟩ : Ros.Sl).1 = n from hn]; exact .inr (Ros.hasF_iff.1 hh y hy)⟩)
          have HF : Hid (Ros.hasF r (pre ++ [⟨k, hk⟩]) = fun q => if q = n then true else Ros.hasF r pre q) := Lib.hid (funext fun q => Ros.hasF_yes (x := ⟨k, hk⟩) hn q)
          rw [hn] at rp cs
          generalize r.gen k = g at rg cs
          clear hok hok' hp hn hh
          gi_wp2_with (first | (gi_at_call 92; ((with_reducible refine (CallsIn.inRound l (callsIn_wide.2 (cs _).out)).mono ?_); rintro e v1 ⟨rfl, hb1⟩; have M1 := HM.out.call hb1; have s1 := M1.ros.cell; have s2 := M1.res.cell; have t2 := M1.res.free; have s3 := M1.has.cell; have t3 := M1.has.free; have l1 := M1.ros.lt; clear M1)) | (refine ⟨trivial, ?_⟩; gi_at_call 92; ((with_reducible refine (CallsIn.inRound l (callsIn_wide.2 (cs _).out)).mono ?_); rintro e v1 ⟨rfl, hb1⟩; have M1 := HM.out.call hb1; have s1 := M1.ros.cell; have s2 := M1.res.cell; have t2 := M1.res.free; have s3 := M1.has.cell; have t3 := M1.has.free; have l1 := M1.ros.lt; clear M1)))
          have M2 := HM.out.call hb1
          have hset := M2.has.put n (.bool true)
          rw [Ros.hasCells_set _ n hn12, ← HF.out] at hset
          refine ⟨(below_others hb1).trans (KeepsOthers.setCell _ _ _), fun h => (World.cell?_of_block (heap_setCell_other _ _ _ _ (by show w.heap.size + 1 + 1 + 1 ≠ w.heap.size + 1 + 1; omega))).trans (h.below hb1), ?_⟩
          exact ⟨M2.ros.far (by show _ ≠ _; simp; omega) _, M2.res.far (by show _ ≠ _; simp) _, hset, M2.sit.far (by show _ ≠ _; simp) _, M2.below.setCell (by simp; omega) _, HG.out⟩
        · rw [hh] at ha
          have HG : Hid (¬ Ros.Good r (pre ++ [⟨k, hk⟩])) := Lib.hid fun h => by
            have h3 := (Ros.good_snoc.1 h).2.2
            have : Ros.hasF r pre n = false := Ros.hasF_iff.2 fun y hy => by
              rcases h3 y hy with e | e
              · rw [e]; omega
              · rw [show r.peer (⟨k, hk⟩ : Ros.Sl).1 = n from hn] at e; exact e
            rw [this] at hh; cases hh
          rw [hn] at rp cs
          generalize r.gen k = g at rg cs
          clear hok hok' hp hn hh
          gi_wp2_with (first | (gi_at_call 92; ((with_reducible refine (CallsIn.inRound l (callsIn_wide.2 (cs _).out)).mono ?_); rintro e v1 ⟨rfl, hb1⟩; have M1 := HM.out.call hb1; have s1 := M1.ros.cell; have s2 := M1.res.cell; have t2 := M1.res.free; have s3 := M1.has.cell; have t3 := M1.has.free; have l1 := M1.ros.lt; clear M1)) | (refine ⟨trivial, ?_⟩; gi_at_call 92; ((with_reducible refine (CallsIn.inRound l (callsIn_wide.2 (cs _).out)).mono ?_); rintro e v1 ⟨rfl, hb1⟩; have M1 := HM.out.call hb1; have s1 := M1.ros.cell; have s2 := M1.res.cell; have t2 := M1.res.free; have s3 := M1.has.cell; have t3 := M1.has.free; have l1 := M1.ros.lt; clear M1)))
          have M2 := HM.out.call hb1
          exact ⟨(below_others hb1).trans (KeepsOthers.setCell _ _ _), rfl, HG.out, M2.res.put 0 _, M2.below.setCell (by simp) _⟩
    · have hok' : ¬ ((0 ≤ r.gen k ∧ r.gen k ≤ 60000) ∧ (r.peer k = -1 ∨ ((0 ≤ r.peer k ∧ r.peer k < 12) ∧ 0 < r.gen k))) := hok
      rw [decide_eq_false hok'] at cs
      have HG : Hid (¬ Ros.Good r (pre ++ [⟨k, hk⟩])) := Lib.hid fun h => hok (Ros.good_snoc.1 h).2.1
      generalize r.gen k = g at rg cs
      generalize r.peer k = p at rp cs
      clear hok hok'
      gi_wp2_with (first | (gi_at_call 92; ((with_reducible refine (CallsIn.inRound l (callsIn_wide.2 (cs _).out)).mono ?_); rintro e v1 ⟨rfl, hb1⟩; have M1 := HM.out.call hb1; have s1 := M1.ros.cell; have s2 := M1.res.cell; have t2 := M1.res.free; have s3 := M1.has.cell; have t3 := M1.has.free; have l1 := M1.ros.lt; clear M1)) | (refine ⟨trivial, ?_⟩; gi_at_call 92; ((with_reducible refine (CallsIn.inRound l (callsIn_wide.2 (cs _).out)).mono ?_); rintro e v1 ⟨rfl, hb1⟩; have M1 := HM.out.call hb1; have s1 := M1.ros.cell; have s2 := M1.res.cell; have t2 := M1.res.free; have s3 := M1.has.cell; have t3 := M1.has.free; have l1 := M1.ros.lt; clear M1)))
      have M2 := HM.out.call hb1
      exact ⟨(below_others hb1).trans (KeepsOthers.setCell _ _ _), rfl, HG.out, M2.res.put 0 _, M2.below.setCell (by simp) _⟩
  case done =>
    rintro D xs W hD rfl hM hK
    have hres := hM.res.put 0 (.bool true)
    have hK3 := others_kept (KeepsOthers.setCell W ⟨w.heap.size + 1, 0, none⟩ (.bool true)) hK
    have hDw : w.heap.size ≤ D := Nat.le_trans MM0.out.below.size hD
    have hT := hres.turned (grownBy_putObj' _ D (.deferred none)) (fun r e => by cases e; exact ⟨_, hK3, rfl⟩)
    have hT2 := Lib.hid (Below.turned (hM.below.setCell (p := ⟨w.heap.size + 1, 0, none⟩) (by simp) (.bool true)) (Nat.le_refl _) (grownBy_putObj' _ D (.deferred none)) (fun r e => by cases e; exact hDw))
    have hyes : Hid (Ros.may r = true) := Lib.hid (decide_eq_true ⟨HV.out, hM.good⟩)
    have HK3 := Lib.hid hK3
    have hc5 : ((W.setCell ⟨w.heap.size + 1, 0, none⟩ (.bool true)).putObj D (.deferred none)).cell? ⟨w.heap.size + 1, 0, none⟩ = some (.bool true) := hT.cell 0
    have u4 := hM.res.cell
    have v4 := hM.res.free
    clear hM hres hK3 hT hK
    go_wp2
    refine ⟨by simp, .inl ⟨_, _, rfl, run_takeDeferred HK3.out, ?_⟩⟩
    refine ⟨.bool true, ?_, by rw [hyes.out], hT2.out⟩
    simp [results, Tryz.f54, go_sem, hc5]
  case stop =>
    rintro D c' pre W hD ⟨rest, hpre⟩ ⟨rfl, h2, h3, h4⟩ hK
    have hno : Hid (Ros.may r = false) := Lib.hid (decide_eq_false fun h => h2 (Ros.good_front (m := rest) (by rw [← hpre]; exact h.2)))
    have hDw : w.heap.size ≤ D := Nat.le_trans MM0.out.below.size hD
    have hT := h3.turned (grownBy_putObj' _ D (.deferred none)) (fun r e => by cases e; exact ⟨_, hK, rfl⟩)
    have hT2 := Lib.hid (Below.turned h4 (Nat.le_refl _) (grownBy_putObj' _ D (.deferred none)) (fun r e => by cases e; exact hDw))
    have hc5 : (W.putObj D (.deferred none)).cell? ⟨w.heap.size + 1, 0, none⟩ = some (.bool false) := hT.cell 0
    have HK3 := Lib.hid hK
    clear h2 h3 h4 hK hpre hT
    refine wpIn_ret ?_
    refine ⟨by simp, .inl ⟨_, _, rfl, run_takeDeferred HK3.out, ?_⟩⟩
    refine ⟨.bool false, ?_, by rw [hno.out], hT2.out⟩
    simp [results, Tryz.f54, go_sem, hc5]
end Go.Proofs.YtkkhdaeihnbilaaGreat
namespace Go.Proofs.YtkkhdaeihnbilaaGreat
open Go.RowKit Go.Shelf
set_option linter.unusedVariables false

section
variable {P : Program} {ops : Array Oper} {rest : List Oper} {o : Oper} {a : Act} {w : World} {Q : Exit → Act → World → Prop} {dst : Option Tmp} {p v : Value} {t : TypeId} {d : TypeDesc} {x y : Operand}
/-- What the load of a whole block wants. -/
def LoadRow (P : Program) (ops : Array Oper) (Q : Exit → Act → World → Prop) (rest : List Oper) (dst : Option Tmp) (p : Value) (t : TypeId) (a : Act) (w : World) : Prop :=
  ∃ (B : Nat) (cs : Array Value), p = .pointer (some ⟨B, 0, none⟩) ∧ Box w B t cs ∧ (P.info? t).map (·.size) = some cs.size ∧ wpList P ops Q rest (a.put dst (.agg cs)) w
theorem LoadRow.mk {B : Nat} {cs : Array Value} (hp : p = .pointer (some ⟨B, 0, none⟩)) (hB : Box w B t cs) (hi : (P.info? t).map (·.size) = some cs.size) (h : wpList P ops Q rest (a.put dst (.agg cs)) w) : LoadRow P ops Q rest dst p t a w := ⟨B, cs, hp, hB, hi, h⟩
theorem row_load (hgd : o.guard = none) (ho : o.op = .load t x) (hu : P.underlying t = some d) (hd : d.isRow = true) (h : LoadRow P ops Q rest o.dst (a.eval x) t a w) : wpList P ops Q (o :: rest) a w := by
  obtain ⟨B, cs, hx, hB, hi, h⟩ := h
  exact wpList_load_blk hgd ho hx hB hu hd hi h
theorem row_load_g (hw : Region.wanted o (yielded ops a.tmps) = true) (ho : o.op = .load t x) (hu : P.underlying t = some d) (hd : d.isRow = true) (h : LoadRow P ops Q rest o.dst (a.eval x) t a w) : wpList P ops Q (o :: rest) a w := by
  obtain ⟨B, ⟨l⟩, hx, hB, hi, h⟩ := h
  exact wpList_load_part_g hw ho (f := 0) hx hB l (fun j v hv => by rw [Nat.zero_add]; simpa using hv) hu hd (by simpa using hi) h
/-- What the store of a whole block wants. -/
def StoreRow (P : Program) (ops : Array Oper) (Q : Exit → Act → World → Prop) (rest : List Oper) (dst : Option Tmp) (p v : Value) (t : TypeId) (a : Act) (w : World) : Prop :=
  ∃ (B : Nat) (cs old : Array Value), p = .pointer (some ⟨B, 0, none⟩) ∧ v = .agg cs ∧ Box w B t old ∧ (P.info? t).map (·.size) = some cs.size ∧ old.size = cs.size ∧ cs.all (·.oneCell') = true ∧ wpList P ops Q rest (a.put dst undef) (w.setRow B cs)
theorem StoreRow.mk {B : Nat} {cs old : Array Value} (hp : p = .pointer (some ⟨B, 0, none⟩)) (hv : v = .agg cs) (hB : Box w B t old) (hi : (P.info? t).map (·.size) = some cs.size) (hs : old.size = cs.size) (h1 : cs.all (·.oneCell') = true) (h : wpList P ops Q rest (a.put dst undef) (w.setRow B cs)) : StoreRow P ops Q rest dst p v t a w := ⟨B, cs, old, hp, hv, hB, hi, hs, h1, h⟩
theorem row_store (hgd : o.guard = none) (ho : o.op = .store t x y) (h : StoreRow P ops Q rest o.dst (a.eval x) (a.eval y) t a w) : wpList P ops Q (o :: rest) a w := by
  obtain ⟨B, cs, old, hx, hy, hB, hi, hs, h1, h⟩ := h
  exact wpList_store_blk hgd ho hx hy hB hi hs h1 h
end

theorem ros_info : (Tryz.prog.info? 33).map (·.size) = some 17 := by kernel_rfl
theorem ros_one (r : Ros.R) : (Ros.cells r).all (·.oneCell') = true := by
  refine Array.all_eq_true_iff_forall_mem.2 fun v hv => ?_
  obtain ⟨n, rfl⟩ := Ros.cells_ints r v (by simpa using hv)
  rfl
def rosZero : Ros.R := ⟨0, fun _ => 0, fun _ => 0⟩
theorem ros_zero : (Tryz.prog.info? 33).map (·.zero) = some (some (.agg (Ros.cells rosZero))) := by kernel_rfl
section
variable {ops : Array Oper} {rest : List Oper} {o : Oper} {a : Act} {w : World} {Q : Exit → Act → World → Prop}
theorem ros_alloc (hgd : o.guard = none) (ho : o.op = .alloc 33)
    (h : wpList Tryz.prog ops Q rest (a.put o.dst (.pointer (some ⟨w.heap.size, 0, none⟩))) (w.alloc (.cells (Ros.cells rosZero) 33))) : wpList Tryz.prog ops Q (o :: rest) a w :=
  wpList_alloc_z hgd ho ros_zero rfl h
theorem ros_store_new {x y : Operand} {v : World} {old : Array Value} {r : Ros.R} (hgd : o.guard = none) (ho : o.op = .store 33 x y) (hx : a.eval x = .pointer (some ⟨v.heap.size, 0, none⟩)) (hy : a.eval y = .agg (Ros.cells r))
    (hold : old.size = 17) (h : wpList Tryz.prog ops Q rest (a.put o.dst undef) (v.alloc (.cells (Ros.cells r) 33))) : wpList Tryz.prog ops Q (o :: rest) a (v.alloc (.cells old 33)) :=
  wpList_store_new hgd ho hx hy rfl rfl ros_info hold (ros_one _) h
end

theorem ros_load {ops : Array Oper} {rest : List Oper} {o : Oper} {a : Act} {w : World} {Q : Exit → Act → World → Prop} {x : Operand} (hgd : o.guard = none) (ho : o.op = .load 33 x) (h : LoadRow Tryz.prog ops Q rest o.dst (a.eval x) 33 a w) : wpList Tryz.prog ops Q (o :: rest) a w :=
  row_load hgd ho Tryz.underlying33 rfl h
theorem ros_load_g {ops : Array Oper} {rest : List Oper} {o : Oper} {a : Act} {w : World} {Q : Exit → Act → World → Prop} {x : Operand} (hw : Region.wanted o (yielded ops a.tmps) = true) (ho : o.op = .load 33 x) (h : LoadRow Tryz.prog ops Q rest o.dst (a.eval x) 33 a w) : wpList Tryz.prog ops Q (o :: rest) a w :=
  row_load_g hw ho Tryz.underlying33 rfl h
theorem ros_store {ops : Array Oper} {rest : List Oper} {o : Oper} {a : Act} {w : World} {Q : Exit → Act → World → Prop} {x y : Operand} (hgd : o.guard = none) (ho : o.op = .store 33 x y) (h : StoreRow Tryz.prog ops Q rest o.dst (a.eval x) (a.eval y) 33 a w) : wpList Tryz.prog ops Q (o :: rest) a w :=
  row_store hgd ho h

/-- What a going over of the seats knows. -/
structure Sit (B Bg : Nat) (w0 : World) (r : Ros.R) (W : World) : Prop where
  ros : Box W B 33 (Ros.cells r)
  sit : Box W Bg 95 #[.pointer (some ⟨B, 0, none⟩)]
  below : Below w0.heap.size w0 W
section
variable {B Bg : Nat} {w0 W W' : World} {r : Ros.R}
theorem Sit.turned {row : Option Nat} (h : Sit B Bg w0 r W) (hg : W.grownBy W' row) (hr : ∀ r, row = some r → w0.heap.size ≤ r ∧ ∃ o : Obj, W.heap[r]? = some o ∧ o.isCells = false) : Sit B Bg w0 r W' :=
  ⟨h.ros.turned hg fun r e => (hr r e).2, h.sit.turned hg fun r e => (hr r e).2, Below.turned h.below (Nat.le_refl _) hg fun r e => (hr r e).1⟩
theorem Sit.call (h : Sit B Bg w0 r W) (hb : Below W.heap.size W W') : Sit B Bg w0 r W' :=
  ⟨h.ros.below hb h.ros.lt, h.sit.below hb h.sit.lt, h.below.trans (hb.mono h.below.size)⟩
theorem Sit.drew (h : Sit B Bg w0 r W) : Sit B Bg w0 r W.drew := ⟨h.ros.drew, h.sit.drew, Below.drew h.below⟩
theorem Sit.far {p : Addr} {v : Value} {t : TypeId} {cs : Array Value} (h : Sit B Bg w0 r W) (hp : Box W p.block t cs) (h1 : 33 ≠ t) (h2 : 95 ≠ t) (hl : w0.heap.size ≤ p.block) : Sit B Bg w0 r (W.setCell p v) :=
  ⟨h.ros.far (fun e => Box.apart h.ros hp h1 e) _, h.sit.far (fun e => Box.apart h.sit hp h2 e) _, h.below.setCell hl _⟩
end
end Go.Proofs.YtkkhdaeihnbilaaGreat
namespace Go.Proofs.YtkkhdaeihnbilaaGreat
open Go.RowKit
set_option linter.unusedVariables false

theorem seat_in (a b c d : Int) (w : World) : (Op.equalIn 9998 30 (.agg #[.int .i64 a, .int .i64 b]) (.agg #[.int .i64 c, .int .i64 d])).run Tryz.prog w = .ok (a == c && b == d) w := by
  by_cases h1 : a = c
  · by_cases h2 : b = d
    · subst h1 h2; go_simp <;> simp
    · have h3 : (b == d) = false := by simpa using h2
      subst h1; go_simp <;> simp [h3, h2]
  · have h3 : (a == c) = false := by simpa using h1
    go_simp <;> simp [h3, h1]
theorem seat2_info : (Tryz.prog.info? 30).map (·.size) = some 2 := by kernel_rfl
theorem seatCells_list (r : Ros.R) (i : Nat) (hi : i < 8) : ((Ros.seatCells r).drop (i * 2)).take 2 = Ros.pair r i := by
  match i, hi with
  | 0, _ | 1, _ | 2, _ | 3, _ | 4, _ | 5, _ | 6, _ | 7, _ => rfl
theorem seat_part (r : Ros.R) (i : Nat) (hi : i < 8) (w : World) : (part 30 (Ros.seatCells r).toArray (i * 2)).run Tryz.prog w = .ok (.agg (Ros.pair r i).toArray) w := by
  have h := seatCells_list r i hi
  cases hq : Tryz.prog.info? 30 with
  | none => have := seat2_info; simp [hq] at this
  | some j =>
    have hs : j.size = 2 := by have := seat2_info; simpa [hq] using this
    simp [part, isAgg, sizeOf, typeInfo, hq, hs, run_underlying (Tryz.underlying30) w, h]
end Go.Proofs.YtkkhdaeihnbilaaGreat
namespace Go.Proofs.YtkkhdaeihnbilaaGreat
open Go.RowKit Go.Shelf
set_option linter.unusedVariables false
set_option linter.unusedSimpArgs false

set_option maxRecDepth 100000 in
set_option maxHeartbeats 8000000 in
theorem refros_may (r : Ros.R) (w : World) :
    Calls Tryz.prog 37 #[.agg (Ros.cells r)] w fun e w' => (∃ v, e = .returned (.bool v) ∧ (v = true ↔ Ros.Ok r)) ∧ Below w.heap.size w w' := by
  have hc : ∀ W : World, ∀ j, (W.alloc (.cells (Ros.cells r) 33)).cell? ⟨W.heap.size, j, none⟩ = (Ros.cells r)[j]? := fun W j => (Box.made W _ _).cell j
  have h0 := Ros.cells_0 r
  by_cases hv1 : r.version < 0
  · have d1 : decide (r.version < 0) = true := decide_eq_true hv1
    have hno := Lib.hid (show ¬ Ros.Ok r from fun h => by have := h.1; omega)
    clear hv1
    go_enter Tryz.func37, Tryz.ntmps37
    go_wp2
    go_ret
    exact ⟨by first | exact ⟨false, rfl, by simp; exact hno.out⟩ | exact .inl ⟨rfl, hno.out⟩, one_below _ _⟩
  have d1 : decide (r.version < 0) = false := decide_eq_false hv1
  by_cases hv2 : 1073741824 < r.version
  · have d2 : decide (1073741824 < r.version) = true := decide_eq_true hv2
    have hno := Lib.hid (show ¬ Ros.Ok r from fun h => by have := h.1; omega)
    clear hv1 hv2
    go_enter Tryz.func37, Tryz.ntmps37
    go_wp2
    go_ret
    exact ⟨by first | exact ⟨false, rfl, by simp; exact hno.out⟩ | exact .inl ⟨rfl, hno.out⟩, one_below _ _⟩
  have d2 : decide (1073741824 < r.version) = false := decide_eq_false hv2
  have HV := Lib.hid (show 0 ≤ r.version ∧ r.version ≤ 1073741824 from ⟨by omega, by omega⟩)
  clear hv1 hv2
  go_enter Tryz.func37, Tryz.ntmps37
  go_wp2
  go_loopw [3] (fun i wr => ∃ k : Nat, k ≤ 8 ∧ i = .int .i64 k ∧ Box wr w.heap.size 33 (Ros.cells r) ∧ Below w.heap.size w wr ∧ (∀ j, j < k → Ros.OkSeat r j) ∧ ∀ j i, j < i → i < k → r.peer j = -1 ∨ r.peer j ≠ r.peer i) (fun i _ => 8 - (intOf i).toNat)
  case atStart => exact ⟨0, by omega, rfl, Box.made _ _ _, one_below _ _, fun j hj => absurd hj (Nat.not_lt_zero j), fun j i _ hi => absurd hi (Nat.not_lt_zero i)⟩
  case round =>
    obtain ⟨k, hk, rfl, hB, hb, hall, hp⟩ := hrel
    have HALL := Lib.hid hall
    have HP := Lib.hid hp
    clear hall hp d1 d2 h0 hc
    by_cases hlt : k < 8
    · have hk8 : (k : Int) < 8 := by omega
      have rc := hB.cell
      have hlB := hB.lt
      have rp := Ros.cells_peer r k hlt
      have rg := Ros.cells_gen r k hlt
      have HS := Lib.hid (show Ros.Ok r → (0 ≤ r.gen k ∧ r.gen k ≤ 60000) ∧ (r.peer k = -1 ∨ ((0 ≤ r.peer k ∧ r.peer k < 12) ∧ 0 < r.gen k)) from fun h => h.seat k hlt)
      have HZ := Lib.hid (show (0 ≤ r.gen k ∧ r.gen k ≤ 60000) ∧ (r.peer k = -1 ∨ ((0 ≤ r.peer k ∧ r.peer k < 12) ∧ 0 < r.gen k)) → ∀ j, j < k + 1 → Ros.OkSeat r j from fun h j hj => by
        by_cases e : j = k
        · rw [e]; exact h
        · exact HALL.out j (by omega))
      obtain ⟨p, hpk⟩ : ∃ p, p = r.peer k := ⟨_, rfl⟩
      obtain ⟨g, hgk⟩ : ∃ g, g = r.gen k := ⟨_, rfl⟩
      rw [← hpk] at rp HS HZ
      rw [← hgk] at rg HS HZ
      have HPK := Lib.hid hpk
      have HB := Lib.hid hB
      have HBB := Lib.hid hb
      clear hpk hgk hB hb HALL
      by_cases q0 : p < -1
      · have f0 : decide (p < -1) = true := decide_eq_true q0
        have hno := Lib.hid (show ¬ Ros.Ok r from fun h => by have := HS.out h; omega)
        clear HS HZ q0
        go_wp2
        go_ret
        exact ⟨by first | exact ⟨false, rfl, by simp; exact hno.out⟩ | exact .inl ⟨rfl, hno.out⟩, HBB.out.alloc (Nat.le_of_lt hlB) _⟩
      have f0 : decide (p < -1) = false := decide_eq_false q0
      by_cases q1 : 12 ≤ p
      · have f1 : decide (12 ≤ p) = true := decide_eq_true q1
        have hno := Lib.hid (show ¬ Ros.Ok r from fun h => by have := HS.out h; omega)
        clear HS HZ q0 q1
        go_wp2
        go_ret
        exact ⟨by first | exact ⟨false, rfl, by simp; exact hno.out⟩ | exact .inl ⟨rfl, hno.out⟩, HBB.out.alloc (Nat.le_of_lt hlB) _⟩
      have f1 : decide (12 ≤ p) = false := decide_eq_false q1
      by_cases q2 : g < 0
      · have f2 : decide (g < 0) = true := decide_eq_true q2
        have hno := Lib.hid (show ¬ Ros.Ok r from fun h => by have := HS.out h; omega)
        clear HS HZ q0 q1 q2
        go_wp2
        go_ret
        exact ⟨by first | exact ⟨false, rfl, by simp; exact hno.out⟩ | exact .inl ⟨rfl, hno.out⟩, HBB.out.alloc (Nat.le_of_lt hlB) _⟩
      have f2 : decide (g < 0) = false := decide_eq_false q2
      by_cases q3 : 60000 < g
      · have f3 : decide (60000 < g) = true := decide_eq_true q3
        have hno := Lib.hid (show ¬ Ros.Ok r from fun h => by have := HS.out h; omega)
        clear HS HZ q0 q1 q2 q3
        go_wp2
        go_ret
        exact ⟨by first | exact ⟨false, rfl, by simp; exact hno.out⟩ | exact .inl ⟨rfl, hno.out⟩, HBB.out.alloc (Nat.le_of_lt hlB) _⟩
      have f3 : decide (60000 < g) = false := decide_eq_false q3
      by_cases q4 : 0 ≤ p
      · have f4 : decide (0 ≤ p) = true := decide_eq_true q4
        by_cases q5 : g < 1
        · have f5 : decide (g < 1) = true := decide_eq_true q5
          have hno := Lib.hid (show ¬ Ros.Ok r from fun h => by have := HS.out h; omega)
          clear HS HZ q0 q1 q2 q3 q4 q5
          go_wp2
          go_ret
          exact ⟨by first | exact ⟨false, rfl, by simp; exact hno.out⟩ | exact .inl ⟨rfl, hno.out⟩, HBB.out.alloc (Nat.le_of_lt hlB) _⟩
        have f5 : decide (g < 1) = false := decide_eq_false q5
        have hnew := Lib.hid (HZ.out (by omega))
        clear HS HZ q0 q1 q2 q3 q5
        go_wp2
        go_loopw [5] (fun i wr2 => ∃ m : Nat, m ≤ k ∧ i = .int .i64 m ∧ Box wr2 w.heap.size 33 (Ros.cells r) ∧ Box wr2 wr.heap.size 30 #[.int .i64 p, .int .i64 g] ∧ Below w.heap.size w wr2 ∧ ∀ j, j < m → r.peer j = -1 ∨ r.peer j ≠ p) (fun i _ => k - (intOf i).toNat)
        case atStart => exact ⟨0, by omega, rfl, HB.out.alloc _, Box.made _ _ _, HBB.out.alloc (Nat.le_of_lt hlB) _, fun j hj => absurd hj (Nat.not_lt_zero j)⟩
        case round =>
          obtain ⟨m, hm, rfl, hB2, hS2, hb2, hall2⟩ := hrel
          have HALL2 := Lib.hid hall2
          clear hall2 rc rp rg
          by_cases hmk : m < k
          · have hm8 : m < 8 := by omega
            have hm8' : (m : Int) < 8 := by omega
            have hmk' : (m : Int) < k := by omega
            have rc := hB2.cell
            have sc := hS2.cell
            have rp := Ros.cells_peer r m hm8
            have s0 : (#[.int .i64 p, .int .i64 g] : Array Value)[0]? = some (.int .i64 p) := rfl
            obtain ⟨q, hq⟩ : ∃ q, q = r.peer m := ⟨_, rfl⟩
            rw [← hq] at rp
            have HB2 := Lib.hid hB2
            have HS2 := Lib.hid hS2
            have HBB2 := Lib.hid hb2
            by_cases hqp : q = p
            · have hqe : (q == p) = true := by simpa using hqp
              have hno := Lib.hid (show ¬ Ros.Ok r from fun h => by
                have := (Ros.ok_iff.1 h).2.2 m k hmk hlt
                rw [← hq, ← HPK.out] at this
                omega)
              clear hq hqp hB2 hS2 hb2 q4
              go_upto_region 12 with fail
              go_quiet (fail)
              go_wp2
              go_ret
              exact ⟨by first | exact ⟨false, rfl, by simp; exact hno.out⟩ | exact .inl ⟨rfl, hno.out⟩, draws_below HBB2.out _⟩
            have hqe : (q == p) = false := by simpa using hqp
            have hn2 := Lib.hid (show ∀ j, j < m + 1 → r.peer j = -1 ∨ r.peer j ≠ p from fun j hj => by
              by_cases e : j = m
              · rw [e, ← hq]; exact .inr hqp
              · exact HALL2.out j (by omega))
            clear hq hB2 hS2 hb2 hqp q4
            go_upto_region 12 with fail
            go_quiet (fail)
            go_wp2
            go_roundw
            case rel => exact ⟨m + 1, by omega, by go_num, HB2.out.draws _, HS2.out.draws _, draws_below HBB2.out _, hn2.out⟩
            case measure => simp [intOf]; omega
          · have hmk' : ¬ (m : Int) < k := by omega
            have HB2 := Lib.hid hB2
            have HBB2 := Lib.hid hb2
            have hall3 := Lib.hid (show ∀ j i, j < i → i < k + 1 → r.peer j = -1 ∨ r.peer j ≠ r.peer i from fun j i hji hi => by
              by_cases e : i = k
              · rw [e, ← HPK.out]; exact HALL2.out j (by omega)
              · exact HP.out j i hji (by omega))
            clear hB2 hS2 hb2
            go_wp2
            go_roundw
            case rel => exact ⟨k + 1, by omega, by go_num, HB2.out, HBB2.out, hnew.out, hall3.out⟩
            case measure => simp [intOf]; omega
      · have f4 : decide (0 ≤ p) = false := decide_eq_false q4
        have hpm := Lib.hid (show p = -1 by omega)
        have hnew := Lib.hid (HZ.out (by omega))
        clear HS HZ q0 q1 q2 q3 
        go_wp2
        go_loopw [5] (fun i wr2 => ∃ m : Nat, m ≤ k ∧ i = .int .i64 m ∧ Box wr2 w.heap.size 33 (Ros.cells r) ∧ Box wr2 wr.heap.size 30 #[.int .i64 p, .int .i64 g] ∧ Below w.heap.size w wr2 ∧ ∀ j, j < m → r.peer j = -1 ∨ r.peer j ≠ p) (fun i _ => k - (intOf i).toNat)
        case atStart => exact ⟨0, by omega, rfl, HB.out.alloc _, Box.made _ _ _, HBB.out.alloc (Nat.le_of_lt hlB) _, fun j hj => absurd hj (Nat.not_lt_zero j)⟩
        case round =>
          obtain ⟨m, hm, rfl, hB2, hS2, hb2, hall2⟩ := hrel
          have HALL2 := Lib.hid hall2
          clear hall2 rc rp rg
          by_cases hmk : m < k
          · have hm8 : m < 8 := by omega
            have hm8' : (m : Int) < 8 := by omega
            have hmk' : (m : Int) < k := by omega
            have rc := hB2.cell
            have sc := hS2.cell
            have rp := Ros.cells_peer r m hm8
            have s0 : (#[.int .i64 p, .int .i64 g] : Array Value)[0]? = some (.int .i64 p) := rfl
            obtain ⟨q, hq⟩ : ∃ q, q = r.peer m := ⟨_, rfl⟩
            rw [← hq] at rp
            have HB2 := Lib.hid hB2
            have HS2 := Lib.hid hS2
            have HBB2 := Lib.hid hb2
            have hn2 := Lib.hid (show ∀ j, j < m + 1 → r.peer j = -1 ∨ r.peer j ≠ p from fun j hj => by
              by_cases e : j = m
              · rw [e, ← hq]; first | (by_cases e2 : q = -1; exact .inl e2; exact .inr (fun e3 => e2 (by have := hpm.out; omega)))
              · exact HALL2.out j (by omega))
            clear hq hB2 hS2 hb2 q4
            go_upto_region 12 with fail
            go_quiet (fail)
            go_wp2
            go_roundw
            case rel => exact ⟨m + 1, by omega, by go_num, HB2.out.draws _, HS2.out.draws _, draws_below HBB2.out _, hn2.out⟩
            case measure => simp [intOf]; omega
          · have hmk' : ¬ (m : Int) < k := by omega
            have HB2 := Lib.hid hB2
            have HBB2 := Lib.hid hb2
            have hall3 := Lib.hid (show ∀ j i, j < i → i < k + 1 → r.peer j = -1 ∨ r.peer j ≠ r.peer i from fun j i hji hi => by
              by_cases e : i = k
              · rw [e, ← HPK.out]; exact HALL2.out j (by omega)
              · exact HP.out j i hji (by omega))
            clear hB2 hS2 hb2
            go_wp2
            go_roundw
            case rel => exact ⟨k + 1, by omega, by go_num, HB2.out, HBB2.out, hnew.out, hall3.out⟩
            case measure => simp [intOf]; omega
    · have hk8 : ¬ (k : Int) < 8 := by omega
      have hyes := Lib.hid (show Ros.Ok r from Ros.ok_iff.2 ⟨HV.out, fun j hj => HALL.out j (by omega), fun j i hji hi => HP.out j i hji (by omega)⟩)
      have HBB := Lib.hid hb
      clear hB hb
      go_wp2
      go_ret
      exact ⟨by first | exact ⟨true, rfl, by simp; exact hyes.out⟩ | exact .inr ⟨rfl, hyes.out⟩, HBB.out⟩
end Go.Proofs.YtkkhdaeihnbilaaGreat
namespace Im
open Go
/-- A number's bytes, the least first. -/
def bytesOf : Nat → Int → List Int
  | 0, _ => []
  | n + 1, v => bytesOf n v ++ [v / 2 ^ (8 * n) % 256]
theorem bytesOf_len : ∀ (n : Nat) (v : Int), (bytesOf n v).length = n
  | 0, _ => rfl
  | n + 1, v => by unfold bytesOf; rw [List.length_append, bytesOf_len n v]; rfl
def u8s (l : List Int) : List Value := l.map fun x => .int .u8 x
theorem u8s_len (l : List Int) : (u8s l).length = l.length := by unfold u8s; simp
theorem u8s_append (l m : List Int) : u8s (l ++ m) = u8s l ++ u8s m := by unfold u8s; simp
theorem u8s_one (l : List Int) : ∀ u ∈ u8s l, u.oneCell' = true := by
  intro u hu
  obtain ⟨x, _, rfl⟩ := List.mem_map.1 hu
  rfl
end Im
namespace Go.Proofs.YtkkhdaeihnbilaaGreat
open Go.RowKit Go.Shelf
set_option linter.unusedVariables false

/-- From w to w' everything stays that lies below b, and everything else but block B and rows of bytes. -/
structure Wrote (b B : Nat) (w w' : World) : Prop where
  os : w'.os = w.os
  tape : w'.tape = w.tape
  output : w'.output = w.output
  size : w.heap.size ≤ w'.heap.size
  low : b ≤ B
  block : ∀ k, k < w.heap.size → (k < b ∨ k ≠ B ∧ ∀ cs, w.heap[k]? ≠ some (.cells cs 5 (0, 0))) → w'.heap[k]? = w.heap[k]?

section
variable {b B : Nat} {w w' w'' : World}
theorem Wrote.refl (h : b ≤ B) (w : World) : Wrote b B w w := ⟨rfl, rfl, rfl, Nat.le_refl _, h, fun _ _ _ => rfl⟩
theorem Wrote.trans (h : Wrote b B w w') (k : Wrote b B w' w'') : Wrote b B w w'' :=
  ⟨k.os.trans h.os, k.tape.trans h.tape, k.output.trans h.output, Nat.le_trans h.size k.size, h.low, fun i hi hc => by
    have e := h.block i hi hc
    rw [← e]
    refine k.block i (Nat.lt_of_lt_of_le hi h.size) ?_
    rcases hc with hc | ⟨h1, h2⟩
    · exact .inl hc
    · exact .inr ⟨h1, fun cs => by rw [e]; exact h2 cs⟩⟩
theorem Wrote.on {c : Nat} (h : Wrote b B w w') (hb : Below c w' w'') (hc : w'.heap.size ≤ c) : Wrote b B w w'' :=
  h.trans ⟨hb.os, hb.tape, hb.output, hb.size, h.low, fun i hi _ => hb.block i (by omega)⟩
theorem Wrote.call (h : Wrote b B w w') (hb : Below w'.heap.size w' w'') : Wrote b B w w'' := h.on hb (Nat.le_refl _)
theorem Wrote.alloc (h : Wrote b B w w') (o : Obj) : Wrote b B w (w'.alloc o) := h.call (one_below w' o)
theorem Wrote.drew (h : Wrote b B w w') : Wrote b B w w'.drew := ⟨h.os, h.tape, h.output, h.size, h.low, h.block⟩
theorem Wrote.put (h : Wrote b B w w') (i : Nat) (u : Value) : Wrote b B w (w'.setCell ⟨B, i, none⟩ u) := by
  have hg := (Below.refl 0 w').setCell (p := ⟨B, i, none⟩) (Nat.zero_le _) u
  refine h.trans ⟨hg.os, hg.tape, hg.output, hg.size, h.low, fun k hk hc => ?_⟩
  refine heap_setCell_other w' ⟨B, i, none⟩ k u ?_
  have := h.low
  show k ≠ B
  rcases hc with hc | hc
  · omega
  · exact hc.1
theorem Wrote.row {g : Nat} {cs0 : Array Value} (h : Wrote b B w w') (hg : Box w' g 5 cs0) (hbg : b ≤ g) (cs : Array Value) : Wrote b B w (w'.setRow g cs) := by
  have hz := Below.setRow' (g := g) (Below.refl 0 w') (Nat.zero_le _) cs
  refine h.trans ⟨hz.os, hz.tape, hz.output, hz.size, h.low, fun k hk hc => setRow_other w' g k cs ?_⟩
  rcases hc with hc | hc
  · omega
  · intro e; subst e; exact hc.2 _ hg.is
theorem Wrote.byte {g i : Nat} {u : Value} {cs0 : Array Value} (h : Wrote b B w w') (hg : Box w' g 5 cs0) (hbg : b ≤ g) : Wrote b B w (w'.setCell ⟨g, i, none⟩ u) := by
  have hz := (Below.refl 0 w').setCell (p := ⟨g, i, none⟩) (Nat.zero_le _) u
  refine h.trans ⟨hz.os, hz.tape, hz.output, hz.size, h.low, fun k hk hc => heap_setCell_other w' ⟨g, i, none⟩ k u ?_⟩
  show k ≠ g
  rcases hc with hc | hc
  · omega
  · intro e; subst e; exact hc.2 _ hg.is
theorem Wrote.grown {n : Nat} {v : Value} {xs : List Value} (h : Wrote b B w w') (ho : w'.ownsRow b 5 1 v n xs) (hg : w'.grownBy w'' v.ownBlock) : Wrote b B w w'' := by
  refine h.trans ⟨hg.os, hg.tape, hg.output, hg.size, h.low, fun k hk hc => hg.block k hk fun e => ?_⟩
  obtain ⟨_, ⟨rfl, _⟩ | ⟨g, cap, cur, rfl, hbg, hgg, _⟩⟩ := ho
  · cases e
  · have e' : k = g := by injection e
    subst e'
    rcases hc with hc | hc
    · omega
    · exact hc.2 _ hgg
theorem Wrote.grown' {n : Nat} {v : Value} {xs : List Value} {o : Obj} (h : Wrote b B w w') (ho : w'.ownsRow b 5 1 v n xs) (hg : (w'.alloc o).grownBy w'' v.ownBlock) : Wrote b B w w'' :=
  (h.alloc o).grown (ho.alloc o) hg
theorem Wrote.fresh (h : Wrote b B w w') {p : Addr} (hp : w.heap.size ≤ p.block) (u : Value) : Wrote b B w (w'.setCell p u) := by
  have hz := (Below.refl 0 w').setCell (p := p) (Nat.zero_le _) u
  exact ⟨hz.os.trans h.os, hz.tape.trans h.tape, hz.output.trans h.output, Nat.le_trans h.size hz.size, h.low, fun k hk hc => (heap_setCell_other w' p k u (by omega)).trans (h.block k hk hc)⟩
theorem Wrote.freshRow (h : Wrote b B w w') {g : Nat} (hp : w.heap.size ≤ g) (cs : Array Value) : Wrote b B w (w'.setRow g cs) := by
  have hz := Below.setRow' (g := g) (Below.refl 0 w') (Nat.zero_le _) cs
  exact ⟨hz.os.trans h.os, hz.tape.trans h.tape, hz.output.trans h.output, Nat.le_trans h.size hz.size, h.low, fun k hk hc => (setRow_other w' g k cs (by omega)).trans (h.block k hk hc)⟩
theorem Wrote.below (h : Wrote b B w w') : Below b w w' ∨ w.heap.size < b := by
  by_cases hs : w.heap.size < b
  · exact .inr hs
  · exact .inl ⟨h.os, h.tape, h.output, h.size, fun i hi => h.block i (by omega) (.inl hi)⟩
theorem Wrote.to (h : Wrote b B w w') (hs : b ≤ w.heap.size) : Below b w w' := ⟨h.os, h.tape, h.output, h.size, fun i hi => h.block i (by omega) (.inl hi)⟩
theorem Box.wrote {g : Nat} {t : TypeId} {cs : Array Value} (h : Box w g t cs) (k : Wrote b B w w') (hg : g ≠ B) (ht : t ≠ 5) : Box w' g t cs :=
  ⟨(k.block g h.lt (.inr ⟨hg, fun cs' e => by rw [h.is] at e; injection e with e; injection e with _ e _; exact ht e⟩)).trans h.is⟩
end


/-- What a writer writes to: the variable b in block Bb, b's bytes in a row of its own; the writer holds b's place in block Bp. -/
structure Wr (b Bb Bp : Nat) (bs : List Int) (W : World) : Prop where
  ptr : Box W Bp 115 #[.pointer (some ⟨Bb, 0, none⟩)]
  var : ∃ A c, Box W Bb 72 #[.slice A bs.length c] ∧ W.ownsRow b 5 1 (.slice A bs.length c) bs.length (Im.u8s bs)
section
variable {b Bb Bp : Nat} {bs : List Int} {W W' : World}
theorem Wr.call (h : Wr b Bb Bp bs W) (hb : Below W.heap.size W W') : Wr b Bb Bp bs W' := by
  obtain ⟨h1, A, c, h2, h3⟩ := h
  exact ⟨h1.below hb h1.lt, A, c, h2.below hb h2.lt, own_below h3 hb (Nat.le_refl _)⟩
theorem Wr.alloc (h : Wr b Bb Bp bs W) (o : Obj) : Wr b Bb Bp bs (W.alloc o) := h.call (one_below W o)
theorem Wr.ne (h : Wr b Bb Bp bs W) : Bp ≠ Bb := by
  obtain ⟨h1, A, c, h2, _⟩ := h
  exact Box.apart h1 h2 (by decide)
theorem Wr.off (h : Wr b Bb Bp bs W) {p : Addr} {t : TypeId} {cs : Array Value} (hp : Box W p.block t cs) (h1 : t ≠ 115) (h2 : t ≠ 72) (h3 : t ≠ 5) (u : Value) : Wr b Bb Bp bs (W.setCell p u) := by
  obtain ⟨k1, A, c, k2, k3⟩ := h
  exact ⟨k1.far (fun e => Box.apart k1 hp (fun e' => h1 e'.symm) e) u, A, c, k2.far (fun e => Box.apart k2 hp (fun e' => h2 e'.symm) e) u, ownsRow_setCell_other k3 (hp.unowned k3 (fun e => h3 e.symm)) u⟩
theorem Wr.offRow (h : Wr b Bb Bp bs W) {p : Nat} {t : TypeId} {cs : Array Value} (hp : Box W p t cs) (h1 : t ≠ 115) (h2 : t ≠ 72) (h3 : t ≠ 5) (cs' : Array Value) : Wr b Bb Bp bs (W.setRow p cs') := by
  obtain ⟨k1, A, c, k2, k3⟩ := h
  exact ⟨k1.row_far (fun e => Box.apart k1 hp (fun e' => h1 e'.symm) e) cs', A, c, k2.row_far (fun e => Box.apart k2 hp (fun e' => h2 e'.symm) e) cs', own_setRow k3 (hp.unowned k3 (fun e => h3 e.symm)) cs'⟩
end
end Go.Proofs.YtkkhdaeihnbilaaGreat
namespace Go.Proofs.YtkkhdaeihnbilaaGreat
open Go.RowKit Go.Shelf
set_option linter.unusedVariables false

theorem append_runs' {P : Program} (w : World) {t ty e : TypeId} {i : TypeInfo} {z : Value} {size bytes : Nat} (ht : P.underlying t = some (.slice e)) (hi : P.info? e = some i) (hz : i.zero = some z) (hs : i.size = size) (hby : i.bytes = bytes) (hzs : z.cells.size = size) (hsz : 0 < size)
    {base n : Nat} {v : Value} {xs : List Value} (ho : w.ownsRow base e size v n xs) {ad : Addr} {m c : Nat} {news : List Value} (hl : Lies w w.heap.size size (some ad) m news) (hm : m ≠ 0) (h1 : ∀ u ∈ news, u.oneCell' = true) (h63 : n + m ≤ maxLen) (hb : (n + m) * bytes ≤ 140737488355328) (hbase : base ≤ w.heap.size) :
    ∃ A' c' w', (Builtin.append_ #[t, t] ty #[v, .slice (some ad) m c]).run P w = .ok (.slice A' (n + m) c') w' ∧ w'.ownsRow base e size (.slice A' (n + m) c') (n + m) (xs ++ news) ∧ w.grownBy w' v.ownBlock := by
  obtain ⟨v', w', hr, h2, h3, _, _⟩ := run_append_own_at (P := P) w base t ty e i z size bytes ht hi hz hs hby hzs hsz v n xs ho ad m c news hl.len (fun j u hu => hl.cell ad rfl hm j u hu) h1 h63 hb hbase
  obtain ⟨A', c', rfl⟩ := owned_slice h2
  exact ⟨A', c', w', hr, h2, h3⟩
theorem exec_append' {P : Program} {o : Oper} {a : Act} {x y : Operand} {ts : Array TypeId} {W W' : World} {v1 v2 r : Value} (ho : o.op = .call { callee := .builtin .append, args := #[x, y], argTypes := ts }) (hx : a.eval x = v1) (hy : a.eval y = v2) (hr : (Builtin.append_ ts o.type #[v1, v2]).run P W = .ok r W') :
    (execOp a.eval o).run P W = .ok (.value r) W' := by
  unfold execOp
  simp only [ho, resolve, invoke, builtin, Sem.run_bind, Sem.run_pure, Result.andThen_ok, List.map_toArray, List.map_cons, List.map_nil, hx, hy, hr]
theorem u8_info : (Tryz.prog.info? 5).map (fun i => (i.zero, i.size, i.bytes)) = some (some (.int .u8 0), 1, 1) := by kernel_rfl
theorem u8_parts : ∃ i, Tryz.prog.info? 5 = some i ∧ i.zero = some (.int .u8 0) ∧ i.size = 1 ∧ i.bytes = 1 := by
  have h := u8_info
  cases hq : Tryz.prog.info? 5 with
  | none => rw [hq] at h; cases h
  | some i =>
    rw [hq] at h
    simp only [Option.map_some, Option.some.injEq, Prod.mk.injEq] at h
    exact ⟨i, rfl, h.1, h.2.1, h.2.2⟩
theorem lies_byte (w : World) (x : Int) : Lies (w.alloc (.cells #[.int .u8 x] 5)) (w.alloc (.cells #[.int .u8 x] 5)).heap.size 1 (some ⟨w.heap.size, 0, none⟩) 1 (Im.u8s [x]) := by
  refine ⟨rfl, fun _ => ⟨_, rfl, by simp⟩, fun ad e _ j u hu => ?_⟩
  injection e with e
  subst e
  have hadd : (⟨w.heap.size, 0, none⟩ : Addr).add j = ⟨w.heap.size, j, none⟩ := by unfold Addr.add; split <;> simp_all
  rw [hadd, (Box.made w _ _).cell j, ← hu]
  simp [Im.u8s]

set_option maxRecDepth 100000 in
set_option maxHeartbeats 4000000 in
theorem write_any (size : Nat) (v : Int) (bs : List Int) (b Bb Bp : Nat) (w : World) (hs : size ≤ 8) (hv : 0 ≤ v ∧ v ≤ 18446744073709551615) (hbB : b ≤ Bb) (h : Wr b Bb Bp bs w) (hl : bs.length + size ≤ 65536) :
    Calls Tryz.prog 117 #[.int .i64 size, .int .u64 v, .pointer (some ⟨Bp, 0, none⟩)] w fun e w' => e = .returned (.int .u64 v) ∧ Wr b Bb Bp (bs ++ Im.bytesOf size v) w' ∧ Wrote b Bb w w' := by
  have HH := Lib.hid h
  clear h
  go_enter Tryz.func117, Tryz.ntmps117
  go_wp2
  go_loopw [8] (fun i wr => ∃ k : Nat, k ≤ size ∧ i = .int .i64 k ∧ Wr b Bb Bp (bs ++ Im.bytesOf k v) wr ∧ Wrote b Bb w wr) (fun i _ => size - (intOf i).toNat)
  case atStart => exact ⟨0, by omega, rfl, by simpa [Im.bytesOf] using HH.out, Wrote.refl hbB w⟩
  case round =>
    obtain ⟨k, hk, rfl, hI, hK⟩ := hrel
    by_cases hlt : k < size
    · have hk8 : (k : Int) < size := by omega
      obtain ⟨A, c, hB, hO⟩ := hI.var
      have hP := hI.ptr
      have hlen : (bs ++ Im.bytesOf k v).length = bs.length + k := by rw [List.length_append, Im.bytesOf_len]
      rw [hlen] at hB hO
      generalize hn : bs.length + k = n at *
      have HI := Lib.hid hI
      have HK := Lib.hid hK
      have HP := Lib.hid hP
      have HB := Lib.hid hB
      have HO := Lib.hid hO
      clear hI hP hB hO hK
      have h8 : IntKind.i64.wrap (8 * (k : Int)) = 8 * k := by rw [IntKind.wrap_i64]; omega
      have hq : 0 ≤ v / 2 ^ (8 * k) ∧ v / 2 ^ (8 * k) ≤ 18446744073709551615 := by
        have hp : (0 : Int) < 2 ^ (8 * k) := Int.pow_pos (by decide)
        exact ⟨Int.ediv_nonneg hv.1 (Int.le_of_lt hp), Int.le_trans (Int.ediv_le_self _ hv.1) hv.2⟩
      obtain ⟨x, hx⟩ : ∃ x, x = v / 2 ^ (8 * k) % 256 := ⟨_, rfl⟩
      have hsn : bs ++ Im.bytesOf (k + 1) v = (bs ++ Im.bytesOf k v) ++ [x] := by rw [hx]; simp [Im.bytesOf]
      have hxw : IntKind.u8.wrap (v / 2 ^ (8 * (k : Int)).toNat) = x := by rw [show (8 * (k : Int)).toNat = 8 * k by omega, IntKind.wrap_u8, hx]
      have HSN := Lib.hid hsn
      clear hsn hx
      go_upto_region 4 with fail
      refine Rp.wp_region_lex (by kernel_rfl) [] (by kernel_rfl) (· = wr.drew) (fun W => Box W Bp 115 #[.pointer (some ⟨Bb, 0, none⟩)] ∧ Box W Bb 72 #[.slice A n c]) (fun _ => True) rfl (fun W hW => ⟨hW ▸ ⟨HP.out.drew, HB.out.drew⟩, trivial⟩) ?_
      repeat (first
        | (apply Rp.lex_free rfl rfl; focus (intro _; go_simp; first | done | rfl))
        | (apply Rp.lex_look rfl rfl rfl rfl; focus (intro W hW; obtain ⟨hW1, hW2⟩ := hW; have c0 := Box.cell hW1; have c1 := Box.cell hW2; clear hW1 hW2; go_simp; first | done | rfl)))
      obtain ⟨i0, hi0, hz0, hz1, hz2⟩ := u8_parts
      have szb : b ≤ wr.heap.size := Nat.le_trans hbB (Nat.le_of_lt HB.out.lt)
      obtain ⟨A2, c2, w2, hrun, own2, hg2⟩ := append_runs' (P := Tryz.prog) _ (ty := 72) Tryz.underlying72 hi0 hz0 hz1 hz2 rfl (by decide) ((HO.out.drew).alloc (.cells #[.int .u8 x] 5)) (c := 1) (lies_byte wr.drew x) (by decide) (Im.u8s_one _) (by unfold maxLen; omega) (by omega) (by simp; omega)
      have B2 := Lib.hid (grown_box HB.out.drew HO.out.drew (by decide) hg2)
      have P2 := Lib.hid (grown_box HP.out.drew HO.out.drew (by decide) hg2)
      have K2 := Lib.hid (HK.out.drew.grown' HO.out.drew hg2)
      have OW := Lib.hid own2
      have neP : Bp ≠ Bb := HI.out.ne
      clear own2 hg2
      refine Rp.lex_make rfl (W' := wr.drew.alloc (.cells #[.int .u8 x] 5)) (v := .slice (some ⟨wr.drew.heap.size, 0, none⟩) 1 1) ?_ ⟨⟨HP.out.drew.alloc _, HB.out.drew.alloc _⟩, trivial⟩ ?_
      focus (go_simp; first | done | rfl)
      refine Rp.lex_make rfl (W' := w2) (v := .slice A2 (n + 1) c2) (exec_append' (x := .tmp 14) (y := .tmp 20) (v1 := .slice A n c) (v2 := .slice (some ⟨wr.drew.heap.size, 0, none⟩) 1 1) rfl (by go_simp) (by go_simp) hrun) ⟨⟨P2.out, B2.out⟩, trivial⟩ ?_
      repeat (first
        | (apply Rp.lex_free rfl rfl; focus (intro _; go_simp; first | done | rfl))
        | (apply Rp.lex_look rfl rfl rfl rfl; focus (intro W hW; obtain ⟨hW1, hW2⟩ := hW; have c0 := Box.cell hW1; have c1 := Box.cell hW2; clear hW1 hW2; go_simp; first | done | rfl)))
      refine Rp.lex_store rfl rfl (C' := (· = w2.setCell ⟨Bb, 0, none⟩ (.slice A2 (n + 1) c2))) (D' := fun _ => True) (fun W hW => ⟨_, ?_, rfl⟩) (fun _ _ => ⟨trivial, trivial⟩) ?_
      focus (subst hW; have f2 := B2.out.free; have k2 := B2.out.cell; go_simp; first | done | rfl)
      refine Rp.lex_end fun W2 hW2 => ?_
      have ne2 := B2.out.unowned OW.out (by decide)
      have H3 : Wr b Bb Bp (bs ++ Im.bytesOf (k + 1) v) W2 := by
        subst hW2
        have hlen3 : ((bs ++ Im.bytesOf k v) ++ [x]).length = n + 1 := by rw [List.length_append, hlen]; rfl
        rw [HSN.out]
        refine ⟨P2.out.far (by show Bp ≠ Bb; exact neP) _, A2, c2, ?_, ?_⟩
        · rw [hlen3]; exact B2.out.put 0 _
        · rw [hlen3, Im.u8s_append]; exact ownsRow_setCell_other (a := ⟨Bb, 0, none⟩) OW.out ne2 _
      have K3 : Wrote b Bb w W2 := by subst hW2; exact K2.out.put _ _
      have H4 := Lib.hid H3
      have K4 := Lib.hid K3
      clear H3 K3 hW2 hrun ne2 hlen
      go_wp2
      go_roundw
      case rel => exact ⟨k + 1, by omega, by go_num, H4.out, K4.out⟩
      case measure => simp [intOf]; omega
    · have hk8 : ¬ (k : Int) < size := by omega
      obtain rfl : k = size := by omega
      have HI := Lib.hid hI
      have HK := Lib.hid hK
      clear hI hK
      go_wp2
      go_ret
      exact ⟨rfl, HI.out, HK.out⟩
end Go.Proofs.YtkkhdaeihnbilaaGreat
namespace Go.Proofs.YtkkhdaeihnbilaaGreat
open Go.RowKit Go.Shelf
set_option linter.unusedVariables false

theorem setCell_noop {w : World} {P o : Nat} {t : TypeId} {cs : Array Value} {u : Value} (h : Box w P t cs) (ho : cs[o]? = some u) (k : Nat) : (w.setCell ⟨P, o, none⟩ u).heap[k]? = w.heap[k]? := by
  by_cases e : k = P
  · subst e
    rw [(h.put o u).is, h.is]
    congr 2
    obtain ⟨hlt, he⟩ := Array.getElem?_eq_some_iff.1 ho
    apply Array.ext
    · simp
    · intro i h1 h2
      rw [Array.getElem_setIfInBounds]
      split
      · rename_i e; subst e; exact he.symm
      · rfl
  · exact heap_setCell_other w ⟨P, o, none⟩ k u e
section
variable {b Bb Bp : Nat} {bs : List Int} {w0 w : World}
theorem Wrote.noop {P o : Nat} {t : TypeId} {cs : Array Value} {u : Value} (h : Wrote b Bb w0 w) (hB : Box w P t cs) (ho : cs[o]? = some u) : Wrote b Bb w0 (w.setCell ⟨P, o, none⟩ u) := by
  have hz := (Below.refl 0 w).setCell (p := ⟨P, o, none⟩) (Nat.zero_le _) u
  exact ⟨hz.os.trans h.os, hz.tape.trans h.tape, hz.output.trans h.output, Nat.le_trans h.size hz.size, h.low, fun k hk hc => (setCell_noop hB ho k).trans (h.block k hk hc)⟩
/-- A block that is none of the writer's stays. -/
theorem Box.wrote' {g : Nat} {t : TypeId} {cs : Array Value} (h : Box w0 g t cs) (k : Wrote b Bb w0 w) (hv : ∃ A n c, Box w0 Bb 72 #[.slice A n c]) (h1 : t ≠ 72) (h2 : t ≠ 5) : Box w g t cs := by
  obtain ⟨A, n, c, hv⟩ := hv
  exact h.wrote k (Box.apart h hv h1) h2
theorem Wr.isvar (h : Wr b Bb Bp bs w) : ∃ A n c, Box w Bb 72 #[.slice A n c] := by
  obtain ⟨_, A, c, h, _⟩ := h
  exact ⟨A, _, c, h⟩
end

set_option maxRecDepth 100000 in
set_option maxHeartbeats 1000000 in
theorem layint_w (size : Nat) (z : Int) (hz : z = size) (x : Int) (P o : Nat) (t : TypeId) (cs : Array Value) (bs : List Int) (b Bb Bp : Nat) (w : World) (hs : size ≤ 8) (hx : -9223372036854775808 ≤ x ∧ x ≤ 9223372036854775807) (hbB : b ≤ Bb) (h : Wr b Bb Bp bs w) (hl : bs.length + size ≤ 65536) (hP : Box w P t cs) (ho : cs[o]? = some (.int .i64 x)) (h1 : t ≠ 72) (h2 : t ≠ 5) (h3 : t ≠ 115) :
    Calls Tryz.prog 112 #[.func (.func 117) #[] #[.pointer (some ⟨Bp, 0, none⟩)], .int .i64 z, .pointer (some ⟨P, o, none⟩)] w fun e w' => e = .returned (.tuple #[]) ∧ Wr b Bb Bp (bs ++ Im.bytesOf size (IntKind.u64.wrap x)) w' ∧ Wrote b Bb w w' := by
  subst hz
  have hwb : IntKind.i64.wrap (IntKind.u64.wrap x) = x := by rw [IntKind.wrap_i64, IntKind.wrap_u64]; omega
  have hvr : 0 ≤ IntKind.u64.wrap x ∧ IntKind.u64.wrap x ≤ 18446744073709551615 := by rw [IntKind.wrap_u64]; omega
  obtain ⟨v, hv⟩ : ∃ v, v = IntKind.u64.wrap x := ⟨_, rfl⟩
  rw [← hv] at hwb hvr ⊢
  have cw := Lib.hid (write_any size v bs b Bb Bp w hs hvr hbB h hl)
  have HH := Lib.hid h
  have HP := Lib.hid hP
  have hvv : IntKind.u64.wrap x = v := hv.symm
  clear hv
  have k0 := hP.cell o
  rw [ho] at k0
  have HO := Lib.hid ho
  clear h hP ho
  go_enter Tryz.func112, Tryz.ntmps112
  go_wp2_with (go_at_call 117; ((with_reducible refine (cw.out).mono ?_); rintro e w1 ⟨rfl, hI1, hK1⟩; have P1 := Lib.hid (HP.out.wrote' hK1 HH.out.isvar h1 h2); have I1 := Lib.hid hI1; have K1 := Lib.hid hK1; have k1 := P1.out.cell o; rw [HO.out] at k1; have f1 := P1.out.free o; clear hI1 hK1 k0))
  go_end0
  exact ⟨rfl, I1.out.off (p := ⟨P, o, none⟩) P1.out h3 h1 h2 _, K1.out.noop P1.out HO.out⟩

set_option maxRecDepth 100000 in
set_option maxHeartbeats 1000000 in
theorem layu64_w (size : Nat) (z : Int) (hz : z = size) (x : Int) (P o : Nat) (t : TypeId) (cs : Array Value) (bs : List Int) (b Bb Bp : Nat) (w : World) (hs : size ≤ 8) (hx : 0 ≤ x ∧ x ≤ 18446744073709551615) (hbB : b ≤ Bb) (h : Wr b Bb Bp bs w) (hl : bs.length + size ≤ 65536) (hP : Box w P t cs) (ho : cs[o]? = some (.int .u64 x)) (h1 : t ≠ 72) (h2 : t ≠ 5) (h3 : t ≠ 115) :
    Calls Tryz.prog 113 #[.func (.func 117) #[] #[.pointer (some ⟨Bp, 0, none⟩)], .int .i64 z, .pointer (some ⟨P, o, none⟩)] w fun e w' => e = .returned (.tuple #[]) ∧ Wr b Bb Bp (bs ++ Im.bytesOf size (x)) w' ∧ Wrote b Bb w w' := by
  subst hz
  have hvr := hx
  obtain ⟨v, hv⟩ : ∃ v, v = x := ⟨_, rfl⟩
  rw [← hv] at hvr ⊢
  have cw := Lib.hid (write_any size v bs b Bb Bp w hs hvr hbB h hl)
  have HH := Lib.hid h
  have HP := Lib.hid hP
  subst hv
  have k0 := hP.cell o
  rw [ho] at k0
  have HO := Lib.hid ho
  clear h hP ho
  go_enter Tryz.func113, Tryz.ntmps113
  go_wp2_with (go_at_call 117; ((with_reducible refine (cw.out).mono ?_); rintro e w1 ⟨rfl, hI1, hK1⟩; have P1 := Lib.hid (HP.out.wrote' hK1 HH.out.isvar h1 h2); have I1 := Lib.hid hI1; have K1 := Lib.hid hK1; have k1 := P1.out.cell o; rw [HO.out] at k1; have f1 := P1.out.free o; clear hI1 hK1 k0))
  go_end0
  exact ⟨rfl, I1.out.off (p := ⟨P, o, none⟩) P1.out h3 h1 h2 _, K1.out.noop P1.out HO.out⟩

set_option maxRecDepth 100000 in
set_option maxHeartbeats 1000000 in
theorem layi32_w (size : Nat) (z : Int) (hz : z = size) (x : Int) (P o : Nat) (t : TypeId) (cs : Array Value) (bs : List Int) (b Bb Bp : Nat) (w : World) (hs : size ≤ 8) (hx : -2147483648 ≤ x ∧ x ≤ 2147483647) (hbB : b ≤ Bb) (h : Wr b Bb Bp bs w) (hl : bs.length + size ≤ 65536) (hP : Box w P t cs) (ho : cs[o]? = some (.int .i32 x)) (h1 : t ≠ 72) (h2 : t ≠ 5) (h3 : t ≠ 115) :
    Calls Tryz.prog 145 #[.func (.func 117) #[] #[.pointer (some ⟨Bp, 0, none⟩)], .int .i64 z, .pointer (some ⟨P, o, none⟩)] w fun e w' => e = .returned (.tuple #[]) ∧ Wr b Bb Bp (bs ++ Im.bytesOf size (IntKind.u64.wrap x)) w' ∧ Wrote b Bb w w' := by
  subst hz
  have hwb : IntKind.i32.wrap (IntKind.u64.wrap x) = x := by rw [IntKind.wrap_i32, IntKind.wrap_u64]; omega
  have hvr : 0 ≤ IntKind.u64.wrap x ∧ IntKind.u64.wrap x ≤ 18446744073709551615 := by rw [IntKind.wrap_u64]; omega
  obtain ⟨v, hv⟩ : ∃ v, v = IntKind.u64.wrap x := ⟨_, rfl⟩
  rw [← hv] at hwb hvr ⊢
  have cw := Lib.hid (write_any size v bs b Bb Bp w hs hvr hbB h hl)
  have HH := Lib.hid h
  have HP := Lib.hid hP
  have hvv : IntKind.u64.wrap x = v := hv.symm
  clear hv
  have k0 := hP.cell o
  rw [ho] at k0
  have HO := Lib.hid ho
  clear h hP ho
  go_enter Tryz.func145, Tryz.ntmps145
  go_wp2_with (go_at_call 117; ((with_reducible refine (cw.out).mono ?_); rintro e w1 ⟨rfl, hI1, hK1⟩; have P1 := Lib.hid (HP.out.wrote' hK1 HH.out.isvar h1 h2); have I1 := Lib.hid hI1; have K1 := Lib.hid hK1; have k1 := P1.out.cell o; rw [HO.out] at k1; have f1 := P1.out.free o; clear hI1 hK1 k0))
  go_end0
  exact ⟨rfl, I1.out.off (p := ⟨P, o, none⟩) P1.out h3 h1 h2 _, K1.out.noop P1.out HO.out⟩
end Go.Proofs.YtkkhdaeihnbilaaGreat
namespace Go.Proofs.YtkkhdaeihnbilaaGreat
open Go.RowKit Go.Shelf
set_option linter.unusedVariables false
set_option linter.unusedSimpArgs false

theorem need_yes (s : ByteArray) (w : World) : Calls Tryz.prog 72 #[.bool true, .string s] w fun e w' => e = .returned (.tuple #[]) ∧ w = w' := by
  go_enter Tryz.func72, Tryz.ntmps72
  go_wp2
  go_end0
  exact ⟨rfl, rfl⟩

theorem need_no (s : ByteArray) (w : World) : Calls Tryz.prog 72 #[.bool false, .string s] w fun e w' => e = .panicked [{ v := .iface 9 (.string s), recovered := false }] ∧ w = w' := by
  go_enter Tryz.func72, Tryz.ntmps72
  go_wp2
  first | exact ⟨rfl, rfl, rfl⟩ | exact ⟨rfl, rfl⟩

theorem Wr.nil {b Bb Bp : Nat} {W : World} (h1 : Box W Bp 115 #[.pointer (some ⟨Bb, 0, none⟩)]) (h2 : Box W Bb 72 #[.slice none 0 0]) : Wr b Bb Bp [] W :=
  ⟨h1, none, 0, h2, World.ownsRow_nil _ _ _ _⟩

theorem writer_any (p : Addr) (w : World) : Calls Tryz.prog 75 #[.pointer (some p)] w fun e w' => e = .returned (.func (.func 117) #[] #[.pointer (some ⟨w.heap.size, 0, none⟩)]) ∧ w' = w.alloc (.cells #[.pointer (some p)] 115) := by
  have hmf : ∀ (fn : Fn) (first cap : Array Value) (w : World), (Instr.makeFunc fn first cap).run Tryz.prog w = .ok (.func fn first cap) w := fun _ _ _ _ => rfl
  go_enter Tryz.func75, Tryz.ntmps75
  go_wp2
  go_ret
  exact ⟨rfl, rfl⟩

/-- All blocks but B, b's variable and rows of bytes stay. -/
def Kb (B : Nat) (w w' : World) : Prop := ∀ g t cs, Box w g t cs → g ≠ B → t ≠ 72 → t ≠ 5 → Box w' g t cs
section
variable {B b Bb Bp : Nat} {bs : List Int} {w w' w'' : World}
theorem Kb.refl (w : World) : Kb B w w := fun _ _ _ h _ _ _ => h
theorem Kb.trans (h : Kb B w w') (k : Kb B w' w'') : Kb B w w'' := fun g t cs hg hne h1 h2 => k g t cs (h g t cs hg hne h1 h2) hne h1 h2
theorem Kb.call (h : Kb B w w') (hb : Below w'.heap.size w' w'') : Kb B w w'' := fun g t cs hg hne h1 h2 => (h g t cs hg hne h1 h2).below hb (h g t cs hg hne h1 h2).lt
theorem Kb.wrote (h : Kb B w w') (hW : Wrote b Bb w' w'') (hv : ∃ A n c, Box w' Bb 72 #[.slice A n c]) : Kb B w w'' := fun g t cs hg hne h1 h2 => (h g t cs hg hne h1 h2).wrote' hW hv h1 h2
theorem Kb.put (h : Kb B w w') (i : Nat) (u : Value) : Kb B w (w'.setCell ⟨B, i, none⟩ u) := fun g t cs hg hne h1 h2 => (h g t cs hg hne h1 h2).far (p := ⟨B, i, none⟩) hne u
theorem Kb.row (h : Kb B w w') {S : Nat} (hS : w.heap.size ≤ S) (cs' : Array Value) : Kb B w (w'.setRow S cs') := fun g t cs hg hne h1 h2 => (h g t cs hg hne h1 h2).row_far (by have := hg.lt; omega) cs'
end
end Go.Proofs.YtkkhdaeihnbilaaGreat
namespace Go.Proofs.YtkkhdaeihnbilaaGreat
open Go.RowKit Go.Shelf
set_option linter.unusedVariables false

def Im.flight (x : Nat → Int) : Nat → List Int
  | 0 => []
  | k + 1 => Im.flight x k ++ Im.bytesOf 4 (IntKind.u64.wrap (x k))
theorem Im.flight_len (x : Nat → Int) : ∀ k, (Im.flight x k).length = 4 * k
  | 0 => rfl
  | k + 1 => by show (Im.flight x k ++ _).length = _; rw [List.length_append, Im.flight_len x k, Im.bytesOf_len]; omega

set_option maxRecDepth 100000 in
set_option maxHeartbeats 2000000 in
theorem layflight_w (x : Nat → Int) (p : Nat → Nat) (P Bq : Nat) (t : TypeId) (cs : Array Value) (bs : List Int) (b Bb Bp : Nat) (w : World) (hx : ∀ k, k < 4 → -2147483648 ≤ x k ∧ x k ≤ 2147483647) (hbB : b ≤ Bb) (h : Wr b Bb Bp bs w) (hl : bs.length + 16 ≤ 65536) (hP : Box w P t cs) (ho : ∀ k, k < 4 → cs[p k]? = some (.int .i32 (x k))) (h1 : t ≠ 72) (h2 : t ≠ 5) (h3 : t ≠ 115)
    (hq : Box w Bq 166 #[.pointer (some ⟨P, p 0, none⟩), .pointer (some ⟨P, p 1, none⟩), .pointer (some ⟨P, p 2, none⟩), .pointer (some ⟨P, p 3, none⟩)]) (c : Nat) :
    Calls Tryz.prog 136 #[.func (.func 117) #[] #[.pointer (some ⟨Bp, 0, none⟩)], .slice (some ⟨Bq, 0, none⟩) 4 c] w fun e w' => e = .returned (.tuple #[]) ∧ Wr b Bb Bp (bs ++ Im.flight x 4) w' ∧ Wrote b Bb w w' := by
  have HH := Lib.hid h
  have HP := Lib.hid hP
  have HQ := Lib.hid hq
  clear h hP hq
  go_enter Tryz.func136, Tryz.ntmps136
  go_wp2
  go_loopw [8] (fun i wr => ∃ k : Nat, k ≤ 4 ∧ i = .int .i64 k ∧ Wr b Bb Bp (bs ++ Im.flight x k) wr ∧ Wrote b Bb w wr) (fun i _ => 4 - (intOf i).toNat)
  case atStart => exact ⟨0, by omega, rfl, by simpa [Im.flight] using HH.out, Wrote.refl hbB w⟩
  case round =>
    obtain ⟨k, hk, rfl, hI, hK⟩ := hrel
    by_cases hlt : k < 4
    · have hk8 : (k : Int) < 4 := by omega
      have P1 := HP.out.wrote' hK HH.out.isvar h1 h2
      have Q1 := HQ.out.wrote' hK HH.out.isvar (by decide) (by decide)
      have qc := Q1.cell k
      have hqk : (#[.pointer (some ⟨P, p 0, none⟩), .pointer (some ⟨P, p 1, none⟩), .pointer (some ⟨P, p 2, none⟩), .pointer (some ⟨P, p 3, none⟩)] : Array Value)[k]? = some (.pointer (some ⟨P, p k, none⟩)) := by
        match k, hlt with
        | 0, _ | 1, _ | 2, _ | 3, _ => rfl
      rw [hqk] at qc
      have cl := Lib.hid (layi32_w 4 4 rfl (x k) P (p k) t cs (bs ++ Im.flight x k) b Bb Bp wr (by decide) (hx k hlt) hbB hI (by rw [List.length_append, Im.flight_len]; omega) P1 (ho k hlt) h1 h2 h3)
      rw [List.append_assoc, show Im.flight x k ++ Im.bytesOf 4 (IntKind.u64.wrap (x k)) = Im.flight x (k + 1) from rfl] at cl
      have HK := Lib.hid hK
      clear hI hK P1 Q1 hqk
      go_wp2_with (go_at_call 145; ((with_reducible refine (cl.out).mono ?_); rintro e w1 ⟨rfl, hI1, hK1⟩; have I1 := Lib.hid hI1; have K1 := Lib.hid (HK.out.trans hK1); clear hI1 hK1 qc))
      go_roundw
      case rel => exact ⟨k + 1, by omega, by go_num, I1.out, K1.out⟩
      case measure => simp [intOf]; omega
    · have hk8 : ¬ (k : Int) < 4 := by omega
      obtain rfl : k = 4 := by omega
      have HI := Lib.hid hI
      have HK := Lib.hid hK
      clear hI hK
      go_wp2
      go_end0
      exact ⟨rfl, HI.out, HK.out⟩

set_option maxRecDepth 100000 in
set_option maxHeartbeats 2000000 in
theorem layseat_w (pe g : Int) (P o : Nat) (t : TypeId) (cs : Array Value) (bs : List Int) (b Bb Bp : Nat) (w : World) (hpe : -1 ≤ pe ∧ pe ≤ 60000) (hg : 0 ≤ g ∧ g ≤ 60000) (hbB : b ≤ Bb) (h : Wr b Bb Bp bs w) (hl : bs.length + 3 ≤ 65536) (hP : Box w P t cs) (ho : cs[o]? = some (.int .i64 pe)) (ho1 : cs[o + 1]? = some (.int .i64 g)) (h1 : t ≠ 72) (h2 : t ≠ 5) (h3 : t ≠ 115) :
    Calls Tryz.prog 116 #[.func (.func 117) #[] #[.pointer (some ⟨Bp, 0, none⟩)], .pointer (some ⟨P, o, none⟩)] w fun e w' => e = .returned (.tuple #[]) ∧ Wr b Bb Bp (bs ++ (Im.bytesOf 1 (pe + 1) ++ Im.bytesOf 2 g)) w' ∧ Wrote b Bb w w' := by
  have hw1 : IntKind.i64.wrap (pe + 1) = pe + 1 := by rw [IntKind.wrap_i64]; omega
  have hw2 : IntKind.u64.wrap (pe + 1) = pe + 1 := by rw [IntKind.wrap_u64]; omega
  have hw3 : IntKind.u64.wrap g = g := by rw [IntKind.wrap_u64]; omega
  have hw4 : IntKind.i64.wrap (pe + 1 - 1) = pe := by rw [IntKind.wrap_i64]; omega
  have k0 := hP.cell o
  rw [ho] at k0
  have HP := Lib.hid hP
  have HL := Lib.hid (Box.made w 3 #[.int .i64 (pe + 1)])
  have HPA := Lib.hid (hP.alloc (.cells #[.int .i64 (pe + 1)] 3))
  have HA := Lib.hid (h.alloc (.cells #[.int .i64 (pe + 1)] 3))
  have WA := Lib.hid ((Wrote.refl hbB w).alloc (.cells #[.int .i64 (pe + 1)] 3))
  have c1 := Lib.hid (layint_w 1 1 rfl (pe + 1) w.heap.size 0 3 #[.int .i64 (pe + 1)] bs b Bb Bp _ (by decide) (by omega) hbB HA.out (by omega) HL.out rfl (by decide) (by decide) (by decide))
  have c2 := fun X (hX : Wr b Bb Bp (bs ++ Im.bytesOf 1 (pe + 1)) X) (hB : Box X P t cs) => Lib.hid (layint_w 2 2 rfl g P (o + 1) t cs (bs ++ Im.bytesOf 1 (pe + 1)) b Bb Bp X (by decide) (by omega) hbB hX (by rw [List.length_append, Im.bytesOf_len]; omega) hB ho1 h1 h2 h3)
  rw [hw2] at c1
  rw [hw3] at c2
  have hvar := Lib.hid HA.out.isvar
  have HO := Lib.hid ho
  have ltP := hP.lt
  clear h hP ho ho1 hw2 hw3
  go_enter Tryz.func116, Tryz.ntmps116
  go_upto_region 3 with (go_at_call 112; ((with_reducible refine (c1.out).mono ?_); rintro e w1 ⟨rfl, hI1, hK1⟩; have L1 := HL.out.wrote' hK1 hvar.out (by decide) (by decide); have l1 := L1.cell 0; have P1 := Lib.hid (HPA.out.wrote' hK1 hvar.out h1 h2); have p1 := P1.out.cell o; rw [HO.out] at p1; have f1 := P1.out.free o; have I1 := Lib.hid hI1; have K1 := Lib.hid (WA.out.trans hK1); clear hI1 hK1 L1 k0))
  obtain ⟨U, hU⟩ : ∃ U, U = w1.setCell ⟨P, o, none⟩ (.int .i64 pe) := ⟨_, rfl⟩
  have IU : Wr b Bb Bp (bs ++ Im.bytesOf 1 (pe + 1)) U := by rw [hU]; exact I1.out.off (p := ⟨P, o, none⟩) P1.out h3 h1 h2 _
  have KU : Wrote b Bb w U := by rw [hU]; exact K1.out.noop P1.out HO.out
  have PU : Box U P t cs := ⟨by rw [hU, setCell_noop P1.out HO.out]; exact P1.out.is⟩
  rw [← hU]
  have c2 := c2 U IU PU
  have KU := Lib.hid KU
  clear hU IU PU I1 K1 P1 p1 f1 l1
  go_wp2_with (go_at_call 112; ((with_reducible refine (c2.out).mono ?_); rintro e w2 ⟨rfl, hI2, hK2⟩; have I2 := Lib.hid hI2; have K2 := Lib.hid (KU.out.trans hK2); clear hI2 hK2))
  go_end0
  exact ⟨rfl, by rw [← List.append_assoc]; exact I2.out, K2.out⟩
end Go.Proofs.YtkkhdaeihnbilaaGreat
namespace Go.Proofs.YtkkhdaeihnbilaaGreat
open Go.RowKit Go.Shelf
set_option linter.unusedVariables false

/-- The bytes of a ship. -/
def Im.ship (s : Gm.Ship) : List Int :=
  if s.on = true then Im.bytesOf 1 1 ++ (Im.flight (fun k => match k with | 0 => s.x | 1 => s.y | 2 => s.vx | _ => s.vy) 4 ++ (Im.bytesOf 1 s.cool ++ Im.bytesOf 4 s.score)) else Im.bytesOf 1 0

set_option maxRecDepth 100000 in
set_option maxHeartbeats 2000000 in
theorem layship_off (P o : Nat) (t : TypeId) (cs : Array Value) (bs : List Int) (b Bb Bp : Nat) (w : World) (hbB : b ≤ Bb) (h : Wr b Bb Bp bs w) (hl : bs.length + 1 ≤ 65536) (hP : Box w P t cs) (ho : cs[o]? = some (.bool false)) (h1 : t ≠ 72) (h2 : t ≠ 5) (h3 : t ≠ 115) :
    Calls Tryz.prog 114 #[.func (.func 117) #[] #[.pointer (some ⟨Bp, 0, none⟩)], .pointer (some ⟨P, o, none⟩)] w fun e w' => e = .returned (.tuple #[]) ∧ Wr b Bb Bp (bs ++ Im.bytesOf 1 0) w' ∧ Wrote b Bb w w' := by
  have k0 := hP.cell o
  rw [ho] at k0
  have ltP := hP.lt
  have HL := Lib.hid (Box.made w 3 #[.int .i64 0])
  have HPA := Lib.hid (hP.alloc (.cells #[.int .i64 0] 3))
  have HA := Lib.hid (h.alloc (.cells #[.int .i64 0] 3))
  have WA := Lib.hid ((Wrote.refl hbB w).alloc (.cells #[.int .i64 0] 3))
  have c1 := Lib.hid (layint_w 1 1 rfl 0 w.heap.size 0 3 #[.int .i64 0] bs b Bb Bp _ (by decide) (by omega) hbB HA.out (by omega) HL.out rfl (by decide) (by decide) (by decide))
  rw [show IntKind.u64.wrap 0 = 0 from rfl] at c1
  have hvar := Lib.hid HA.out.isvar
  have HO := Lib.hid ho
  clear h hP ho
  go_enter Tryz.func114, Tryz.ntmps114
  go_wp2_with (first | (go_at_call 72; ((with_reducible refine (need_yes _ _).mono ?_); rintro e wn ⟨rfl, rfl⟩)) | (go_at_call 112; ((with_reducible refine (c1.out).mono ?_); rintro e w1 ⟨rfl, hI1, hK1⟩; have L1 := HL.out.wrote' hK1 hvar.out (by decide) (by decide); have l1 := L1.cell 0; have P1 := Lib.hid (HPA.out.wrote' hK1 hvar.out h1 h2); have p1 := P1.out.cell o; rw [HO.out] at p1; have f1 := P1.out.free o; have I1 := Lib.hid hI1; have K1 := Lib.hid (WA.out.trans hK1); clear hI1 hK1 L1 k0)))
  refine bodyPost_ret (results_none rfl _ _ _) rfl ?_
  exact ⟨rfl, I1.out.off (p := ⟨P, o, none⟩) P1.out h3 h1 h2 _, K1.out.noop P1.out HO.out⟩

set_option maxRecDepth 100000 in
set_option maxHeartbeats 4000000 in
theorem layship_on (x y vx vy cool score : Int) (P o : Nat) (t : TypeId) (cs : Array Value) (bs : List Int) (b Bb Bp : Nat) (w : World) (hbB : b ≤ Bb) (h : Wr b Bb Bp bs w) (hl : bs.length + 22 ≤ 65536) (hP : Box w P t cs)
    (o0 : cs[o]? = some (.bool true)) (o1 : cs[o + 1]? = some (.int .i32 x)) (o2 : cs[o + 2]? = some (.int .i32 y)) (o3 : cs[o + 3]? = some (.int .i32 vx)) (o4 : cs[o + 4]? = some (.int .i32 vy)) (o5 : cs[o + 5]? = some (.int .i64 cool)) (o6 : cs[o + 6]? = some (.int .i64 score))
    (wx : -2147483648 ≤ x ∧ x ≤ 2147483647) (wy : -2147483648 ≤ y ∧ y ≤ 2147483647) (wvx : -2147483648 ≤ vx ∧ vx ≤ 2147483647) (wvy : -2147483648 ≤ vy ∧ vy ≤ 2147483647) (wc : 0 ≤ cool ∧ cool ≤ 10) (ws : 0 ≤ score ∧ score ≤ 1073741824) (h1 : t ≠ 72) (h2 : t ≠ 5) (h3 : t ≠ 115) :
    Calls Tryz.prog 114 #[.func (.func 117) #[] #[.pointer (some ⟨Bp, 0, none⟩)], .pointer (some ⟨P, o, none⟩)] w fun e w' => e = .returned (.tuple #[]) ∧ Wr b Bb Bp (bs ++ Im.ship ⟨true, x, y, vx, vy, cool, score⟩) w' ∧ Wrote b Bb w w' := by
  have k0 := hP.cell o
  rw [o0] at k0
  have ltP := hP.lt
  have HL := Lib.hid (Box.made w 3 #[.int .i64 1])
  have HPA := Lib.hid (hP.alloc (.cells #[.int .i64 1] 3))
  have HA := Lib.hid (h.alloc (.cells #[.int .i64 1] 3))
  have WA := Lib.hid ((Wrote.refl hbB w).alloc (.cells #[.int .i64 1] 3))
  have c1 := Lib.hid (layint_w 1 1 rfl 1 w.heap.size 0 3 #[.int .i64 1] bs b Bb Bp _ (by decide) (by omega) hbB HA.out (by omega) HL.out rfl (by decide) (by decide) (by decide))
  rw [show IntKind.u64.wrap 1 = 1 from rfl] at c1
  have hvar := Lib.hid HA.out.isvar
  have HO := Lib.hid o0
  clear h hP o0
  go_enter Tryz.func114, Tryz.ntmps114
  go_upto_region 6 with (first | (go_at_call 72; ((with_reducible refine (need_yes _ _).mono ?_); rintro e wn ⟨rfl, rfl⟩)) | (go_at_call 112; ((with_reducible refine (c1.out).mono ?_); rintro e w1 ⟨rfl, hI1, hK1⟩; have L1 := HL.out.wrote' hK1 hvar.out (by decide) (by decide); have l1 := L1.cell 0; have P1 := Lib.hid (HPA.out.wrote' hK1 hvar.out h1 h2); have p1 := P1.out.cell o; rw [HO.out] at p1; have f1 := P1.out.free o; have I1 := Lib.hid hI1; have K1 := Lib.hid (WA.out.trans hK1); clear hI1 hK1 L1 k0)))
  obtain ⟨U, hU⟩ : ∃ U, U = w1.setCell ⟨P, o, none⟩ (.bool true) := ⟨_, rfl⟩
  have IU : Wr b Bb Bp (bs ++ Im.bytesOf 1 1) U := by rw [hU]; exact I1.out.off (p := ⟨P, o, none⟩) P1.out h3 h1 h2 _
  have KU : Wrote b Bb w U := by rw [hU]; exact K1.out.noop P1.out HO.out
  have PU : Box U P t cs := ⟨by rw [hU, setCell_noop P1.out HO.out]; exact P1.out.is⟩
  rw [← hU]
  have u0 := PU.cell o
  rw [HO.out] at u0
  have IU := Lib.hid IU
  have KU := Lib.hid KU
  have PU := Lib.hid PU
  clear hU I1 K1 P1 p1 f1 l1 HA HL HPA WA hvar c1
  go_upto_region 7 with fail
  have cf := fun X (hX : Wr b Bb Bp (bs ++ Im.bytesOf 1 1) X) (hB : Box X P t cs) Bq hq => Lib.hid (layflight_w (fun k => match k with | 0 => x | 1 => y | 2 => vx | _ => vy) (fun k => o + 1 + k) P Bq t cs (bs ++ Im.bytesOf 1 1) b Bb Bp X (fun k hk => by
    match k, hk with
    | 0, _ => exact wx
    | 1, _ => exact wy
    | 2, _ => exact wvx
    | 3, _ => exact wvy) hbB hX (by rw [List.length_append, Im.bytesOf_len]; omega) hB (fun k hk => by
    match k, hk with
    | 0, _ => exact o1
    | 1, _ => exact o2
    | 2, _ => exact o3
    | 3, _ => exact o4) h1 h2 h3 hq 4)
  refine Rp.wp_region_lex (by kernel_rfl) [] (by kernel_rfl) (· = U.drew) (fun _ => True) (fun _ => True) rfl (fun W hW => ⟨trivial, trivial⟩) ?_
  repeat (first
    | (apply Rp.lex_free rfl rfl; focus (intro _; go_simp; first | done | rfl))
    | (apply Rp.lex_look rfl rfl rfl rfl; focus (intro W hW; clear hW; go_simp; first | done | rfl)))
  refine Rp.lex_make rfl (W' := U.drew.alloc (.cells #[.pointer (some ⟨P, o + 1, none⟩), .pointer (some ⟨P, o + 2, none⟩), .pointer (some ⟨P, o + 3, none⟩), .pointer (some ⟨P, o + 4, none⟩)] 166)) (v := .slice (some ⟨U.drew.heap.size, 0, none⟩) 4 4) ?_ ⟨trivial, trivial⟩ ?_
  focus (go_simp; first | done | rfl)
  refine Rp.lex_call (C' := fun Z => Wr b Bb Bp (bs ++ Im.bytesOf 1 1 ++ Im.flight (fun k => match k with | 0 => x | 1 => y | 2 => vx | _ => vy) 4) Z ∧ Wrote b Bb w Z ∧ Box Z P t cs) (v := .tuple #[]) (f := 136) (args := #[.func (.func 117) #[] #[.pointer (some ⟨Bp, 0, none⟩)], .slice (some ⟨U.drew.heap.size, 0, none⟩) 4 4]) rfl ?_ ?_ ?_ ?_
  · intro Z hZ; clear hZ; go_simp; first | done | rfl | exact ⟨rfl, rfl⟩
  · intro Z hZ
    subst hZ
    have hW := (IU.out.call (one_below' U)).alloc (.cells #[.pointer (some ⟨P, o + 1, none⟩), .pointer (some ⟨P, o + 2, none⟩), .pointer (some ⟨P, o + 3, none⟩), .pointer (some ⟨P, o + 4, none⟩)] 166)
    refine (cf _ hW (PU.out.drew.alloc _) U.drew.heap.size (Box.made _ _ _)).out.mono ?_
    rintro e Z2 ⟨rfl, hI2, hK2⟩
    exact ⟨rfl, hI2, (KU.out.drew.alloc _).trans hK2, (PU.out.drew.alloc _).wrote' hK2 hW.isvar h1 h2⟩
  · exact fun Z hZ => ⟨trivial, trivial⟩
  refine Rp.lex_end fun W3 hW3 => ?_
  obtain ⟨hI3, hK3, hP3⟩ := hW3
  have P3 := Lib.hid hP3
  have p3 := P3.out.cell
  have IV3 := Lib.hid hI3.isvar
  have K3 := Lib.hid hK3
  have hwc : IntKind.u64.wrap cool = cool := by rw [IntKind.wrap_u64]; omega
  have hws : IntKind.u64.wrap score = score := by rw [IntKind.wrap_u64]; omega
  have lf := Im.flight_len (fun k => match k with | 0 => x | 1 => y | 2 => vx | _ => vy) 4
  have c5 := Lib.hid (layint_w 1 1 rfl cool P (o + 5) t cs _ b Bb Bp W3 (by decide) (by omega) hbB hI3 (by rw [List.length_append, List.length_append, Im.bytesOf_len, lf]; omega) hP3 o5 h1 h2 h3)
  rw [hwc] at c5
  have c6 := fun X (hX : Wr b Bb Bp (bs ++ Im.bytesOf 1 1 ++ Im.flight (fun k => match k with | 0 => x | 1 => y | 2 => vx | _ => vy) 4 ++ Im.bytesOf 1 cool) X) (hB : Box X P t cs) => Lib.hid (layint_w 4 4 rfl score P (o + 6) t cs _ b Bb Bp X (by decide) (by omega) hbB hX (by rw [List.length_append, List.length_append, List.length_append, Im.bytesOf_len, Im.bytesOf_len, lf]; omega) hB o6 h1 h2 h3)
  rw [hws] at c6
  have hsh : Hid (bs ++ Im.bytesOf 1 1 ++ Im.flight (fun k => match k with | 0 => x | 1 => y | 2 => vx | _ => vy) 4 ++ Im.bytesOf 1 cool ++ Im.bytesOf 4 score = bs ++ Im.ship ⟨true, x, y, vx, vy, cool, score⟩) := Lib.hid (by simp [Im.ship])
  generalize Im.flight (fun k => match k with | 0 => x | 1 => y | 2 => vx | _ => vy) 4 = FL at *
  clear hI3 hK3 hP3 cf IU KU PU hwc hws lf u0 o1 o2 o3 o4 o5 o6
  go_wp2_with (first | (go_at_call 112; ((with_reducible refine (c5.out).mono ?_); rintro e w4 ⟨rfl, hI, hK⟩; have P4 := Lib.hid (P3.out.wrote' hK IV3.out h1 h2); have p4 := P4.out.cell; have IV4 := Lib.hid hI.isvar; have I4 := Lib.hid hI; have K4 := Lib.hid (K3.out.trans hK); clear hI hK)) | (go_at_call 112; ((with_reducible refine ((c6 _ I4.out P4.out).out).mono ?_); rintro e w5 ⟨rfl, hI, hK⟩; have P5 := Lib.hid (P4.out.wrote' hK IV4.out h1 h2); have p5 := P5.out.cell; have IV5 := Lib.hid hI.isvar; have I5 := Lib.hid hI; have K5 := Lib.hid (K4.out.trans hK); clear hI hK)))
  go_end0
  exact ⟨rfl, by rw [← hsh.out]; exact I5.out, K5.out⟩
end Go.Proofs.YtkkhdaeihnbilaaGreat
namespace Go.Proofs.YtkkhdaeihnbilaaGreat
open Go.RowKit Go.Shelf
set_option linter.unusedVariables false

def Im.shot (s : Gm.Shot) : List Int := Im.bytesOf 1 s.owner ++ (Im.flight (fun k => match k with | 0 => s.x | 1 => s.y | 2 => s.vx | _ => s.vy) 4 ++ Im.bytesOf 1 s.left)
def Im.shots (l : List Gm.Shot) : List Int := l.flatMap Im.shot
theorem Im.shot_len (s : Gm.Shot) : (Im.shot s).length = 18 := by unfold Im.shot; rw [List.length_append, List.length_append, Im.bytesOf_len, Im.bytesOf_len, Im.flight_len]
theorem Im.shots_len (l : List Gm.Shot) : (Im.shots l).length = 18 * l.length := by
  induction l with
  | nil => rfl
  | cons s l ih => unfold Im.shots at *; rw [List.flatMap_cons, List.length_append, ih, Im.shot_len, List.length_cons]; omega
theorem Im.shots_snoc (l : List Gm.Shot) (k : Nat) (h : k < l.length) : Im.shots (l.take (k + 1)) = Im.shots (l.take k) ++ Im.shot l[k] := by
  unfold Im.shots
  rw [List.take_succ_eq_append_getElem h, List.flatMap_append]
  simp
theorem shot_size : (Tryz.prog.info? 90).map (·.size) = some 6 := by kernel_rfl


set_option maxRecDepth 100000 in
set_option maxHeartbeats 4000000 in
theorem layshots_w (l : List Gm.Shot) (n : Nat) (A : Option Addr) (c B : Nat) (t : TypeId) (cs : Array Value) (bs : List Int) (b Bb Bp : Nat) (w : World) (hn : n = l.length) (hn32 : n ≤ 32) (hok : ∀ s ∈ l, Gm.okShot s) (hbB : b ≤ Bb) (hbP : b ≤ B) (hbw : b ≤ w.heap.size) (h : Wr b Bb Bp bs w) (hl : bs.length + 1 + 18 * 32 ≤ 65536) (hP : Box w B t cs)
    (ho : cs[58]? = some (.slice A n c)) (hL : Lies w b 6 A n (Gm.shotCells l)) (h1 : t ≠ 72) (h2 : t ≠ 5) (h3 : t ≠ 115) (h4 : t ≠ 90) :
    Calls Tryz.prog 115 #[.func (.func 117) #[] #[.pointer (some ⟨Bp, 0, none⟩)], .pointer (some ⟨B, 0, none⟩)] w fun e w' => e = .returned (.tuple #[]) ∧ Wr b Bb Bp (bs ++ (Im.bytesOf 1 n ++ Im.shots l)) w' ∧ Below b w w' ∧ Kb B w w' ∧ ∃ S, Box w' B t (cs.setIfInBounds 58 (.slice (some ⟨S, 0, none⟩) n n)) := by
  have k0 := hP.cell 58
  rw [ho] at k0
  have ltP := hP.lt
  have hwn : IntKind.u64.wrap (n : Int) = n := by rw [IntKind.wrap_u64]; omega
  have HL := Lib.hid (Box.made w 3 #[.int .i64 n])
  have HPA := Lib.hid (hP.alloc (.cells #[.int .i64 n] 3))
  have HA := Lib.hid (h.alloc (.cells #[.int .i64 n] 3))
  have WA := Lib.hid ((Wrote.refl hbB w).alloc (.cells #[.int .i64 n] 3))
  have KA := Lib.hid ((Kb.refl (B := B) w).call (one_below w (.cells #[.int .i64 n] 3)))
  have c1 := Lib.hid (layint_w 1 1 rfl n w.heap.size 0 3 #[.int .i64 n] bs b Bb Bp _ (by decide) (by omega) hbB HA.out (by omega) HL.out rfl (by decide) (by decide) (by decide))
  rw [hwn] at c1
  have hvar := Lib.hid HA.out.isvar
  have HO := Lib.hid ho
  have HLs := Lib.hid hL
  obtain ⟨i0, hi0, hz0, hz1, hz2⟩ := info_parts shot_info
  obtain ⟨Z, hZ⟩ : ∃ Z, Z = madeCells (Value.agg #[.int .i64 0, .int .i32 0, .int .i32 0, .int .i32 0, .int .i32 0, .int .i64 0]).cells (n * 6) := ⟨_, rfl⟩
  have hZs : Z.size = n * 6 := by rw [hZ, size_madeCells]
  have hmk : ∀ W : World, (Instr.makeSlice 26 (.int .i64 (n : Int)) (.int .i64 (n : Int))).run Tryz.prog W = .ok (.slice (some ⟨W.heap.size, 0, none⟩) n n) (W.alloc (.cells Z 90)) := fun W => by
    have := run_make (P := Tryz.prog) W 26 90 i0 _ Tryz.underlying26 hi0 hz0 .i64 .i64 n n (by omega) (Int.le_refl _) (by rw [hz2]; omega) (by omega)
    rw [this, hZ, hz1, Int.toNat_natCast]
  have hcp : ∀ W : World, Lies W W.heap.size 6 A n (Gm.shotCells l) → (Builtin.copy_ #[26, 26] 3 #[.slice (some ⟨W.heap.size, 0, none⟩) n n, .slice A n c]).run Tryz.prog (W.alloc (.cells Z 90)) = .ok (.int .i64 n) (W.alloc (.cells (Gm.shotCells l).toArray 90)) := fun W hW => by
    cases A with
    | none =>
      have hn0 : n = 0 := by
        by_cases h0 : n = 0
        · exact h0
        · obtain ⟨ad, e, _⟩ := hW.start h0
          cases e
      have hl0 : l = [] := List.eq_nil_of_length_eq_zero (by omega)
      have hz : Z = #[] := Array.eq_empty_of_size_eq_zero (by omega)
      have := run_copy_nought (P := Tryz.prog) (W.alloc (.cells Z 90)) 26 26 3 90 ⟨W.heap.size, 0, none⟩ n n c Tryz.underlying26 (by rw [Option.isSome_map]; rw [hi0]; rfl)
      rw [hn0] at this ⊢
      rw [hl0]
      rw [hz] at this ⊢
      simpa [goInt, Gm.shotCells] using this
    | some ad =>
      have hc : ∀ j v, (Gm.shotCells l)[j]? = some v → (W.alloc (.cells Z 90)).cell? (ad.add j) = some v := fun j v hv => by
        have hn0 : n ≠ 0 := fun e => by
          have := (List.getElem?_eq_some_iff.1 hv).1
          rw [Gm.shotCells_len] at this
          omega
        exact (hW.below (one_below W (.cells Z 90))).cell ad rfl hn0 j v hv
      have := run_copy_rows (P := Tryz.prog) (W.alloc (.cells Z 90)) 26 26 3 90 6 W.heap.size n n ad n c Z 90 (Gm.shotCells l) Tryz.underlying26 shot_size (Box.made W _ _).is (by rw [hW.len]; simp) hc (by rw [hW.len, hZs]) (shotCells_one l)
      rw [World.setRow_alloc_new] at this
      simpa [goInt] using this
  have NL := Lib.hid hn
  clear h hP ho hL hZ hn
  go_enter Tryz.func115, Tryz.ntmps115
  go_upto_region 2 with (go_at_call 112; ((with_reducible refine (c1.out).mono ?_); rintro e w1 ⟨rfl, hI1, hK1⟩; have L1 := HL.out.wrote' hK1 hvar.out (by decide) (by decide); have l1 := L1.cell 0; have P1 := Lib.hid (HPA.out.wrote' hK1 hvar.out h1 h2); have I1 := Lib.hid hI1; have K1 := Lib.hid (WA.out.trans hK1); have B1 := Lib.hid (KA.out.wrote hK1 hvar.out); clear hI1 hK1 L1 k0))
  have lw1 := (HLs.out.below (K1.out.to hbw))
  have hcpw := hcp w1 (lw1.wider (Nat.le_trans hbw K1.out.size))
  have p58 : ∀ o, (w1.alloc o).cell? ⟨B, 58, none⟩ = some (.slice A n c) := fun o => ((P1.out.alloc o).cell 58).trans HO.out
  have f58 : ∀ o, (w1.alloc o).frozen? ⟨B, 58, none⟩ = false := fun o => (P1.out.alloc o).free 58
  have sz1 : w.heap.size ≤ w1.heap.size := K1.out.size
  clear hcp lw1 HLs HL HPA HA WA KA c1
  go_upto_region 5 with fail
  obtain ⟨U, hU⟩ : ∃ U, U = (w1.alloc (.cells (Gm.shotCells l).toArray 90)).setCell ⟨B, 58, none⟩ (.slice (some ⟨w1.heap.size, 0, none⟩) n n) := ⟨_, rfl⟩
  have PU : Box U B t (cs.setIfInBounds 58 (.slice (some ⟨w1.heap.size, 0, none⟩) n n)) := by rw [hU]; exact (P1.out.alloc _).put 58 _
  have SU : Box U w1.heap.size 90 (Gm.shotCells l).toArray := by rw [hU]; exact (Box.made w1 _ _).far (by show _ ≠ B; have := P1.out.lt; omega) _
  have IU : Wr b Bb Bp (bs ++ Im.bytesOf 1 n) U := by rw [hU]; exact (I1.out.alloc _).off (p := ⟨B, 58, none⟩) (P1.out.alloc _) h3 h1 h2 _
  have BU : Below b w U := by rw [hU]; exact ((K1.out.to hbw).alloc (Nat.le_trans hbw sz1) _).setCell hbP _
  have KU : Kb B w U := by rw [hU]; exact (B1.out.call (one_below _ _)).put 58 _
  rw [← hU]
  generalize w1.heap.size = S at *
  have IU := Lib.hid IU
  have PU := Lib.hid PU
  have SU := Lib.hid SU
  have BU := Lib.hid BU
  have KU := Lib.hid KU
  have IVU := Lib.hid IU.out.isvar
  clear hU I1 K1 P1 B1 p58 f58 hcpw hmk l1 hvar HO
  go_wp2
  go_loopw [29] (fun i wr => ∃ k : Nat, k ≤ n ∧ i = .int .i64 k ∧ Wr b Bb Bp (bs ++ Im.bytesOf 1 n ++ Im.shots (l.take k)) wr ∧ Wrote b Bb U wr) (fun i _ => n - (intOf i).toNat)
  case atStart => exact ⟨0, by omega, rfl, by simpa [Im.shots] using IU.out, Wrote.refl hbB U⟩
  case round =>
    obtain ⟨k, hk, rfl, hI, hK⟩ := hrel
    by_cases hlt : k < n
    · have hk8 : (k : Int) < n := by omega
      have hkl : k < l.length := by have := NL.out; omega
      have ok := hok l[k] (List.getElem_mem hkl)
      have hsn := Im.shots_snoc l k hkl
      have lens : (bs ++ Im.bytesOf 1 n ++ Im.shots (l.take k)).length ≤ bs.length + 1 + 18 * k := by
        rw [List.length_append, List.length_append, Im.bytesOf_len, Im.shots_len]; have := List.length_take_le k l; omega
      have sc : ∀ j, j < 6 → (Gm.shotCells l).toArray[k * 6 + j]? = (l[k]).cells[j]? := fun j hj => by rw [List.getElem?_toArray]; exact Gm.shotCells_at l k j hkl hj
      generalize hs : l[k] = s at ok hsn sc
      obtain ⟨owner, x, y, vx, vy, left⟩ := s
      have s0 := sc 0 (by omega)
      have s1 := sc 1 (by omega)
      have s2 := sc 2 (by omega)
      have s3 := sc 3 (by omega)
      have s4 := sc 4 (by omega)
      have s5 := sc 5 (by omega)
      simp only [Gm.Shot.cells, List.getElem?_cons_zero, List.getElem?_cons_succ, Nat.add_zero] at s0 s1 s2 s3 s4 s5
      obtain ⟨w0, w1', ⟨w2, w2'⟩, ⟨w3, w3'⟩, ⟨w4, w4'⟩, ⟨w5, w5'⟩, w6, w6'⟩ := ok
      dsimp only at w0 w1' w2 w2' w3 w3' w4 w4' w5 w5' w6 w6'
      generalize hbs : bs ++ Im.bytesOf 1 n ++ Im.shots (l.take k) = bk at *
      have HSN := Lib.hid (show bs ++ Im.bytesOf 1 n ++ Im.shots (l.take (k + 1)) = bk ++ Im.bytesOf 1 owner ++ Im.flight (fun k => match k with | 0 => x | 1 => y | 2 => vx | _ => vy) 4 ++ Im.bytesOf 1 left by rw [hsn, ← List.append_assoc, hbs]; simp [Im.shot])
      have hwo : IntKind.u64.wrap owner = owner := by rw [IntKind.wrap_u64]; omega
      have hwl : IntKind.u64.wrap left = left := by rw [IntKind.wrap_u64]; omega
      have P2 := Lib.hid (SU.out.wrote' hK IVU.out (by decide) (by decide))
      have IV2 := Lib.hid hI.isvar
      have K2 := Lib.hid hK
      have c3 := Lib.hid (layint_w 1 1 rfl owner S (k * 6) 90 _ bk b Bb Bp wr (by decide) (by omega) hbB hI (by omega) P2.out s0 (by decide) (by decide) (by decide))
      rw [hwo] at c3
      have p2 := P2.out.cell
      clear hsn sc hs hbs hI hK hwo
      go_upto_region 10 with (go_at_call 112; ((with_reducible refine (c3.out).mono ?_); rintro e w3 ⟨rfl, hI, hK⟩; have P3 := Lib.hid (P2.out.wrote' hK IV2.out (by decide) (by decide)); have p3 := P3.out.cell; have IV3 := Lib.hid hI.isvar; have I3 := Lib.hid hI; have K3 := Lib.hid (K2.out.trans hK); clear hI hK))
      have lf := Im.flight_len (fun k => match k with | 0 => x | 1 => y | 2 => vx | _ => vy) 4
      have cf := fun X (hX : Wr b Bb Bp (bk ++ Im.bytesOf 1 owner) X) (hB : Box X S 90 (Gm.shotCells l).toArray) Bq hq => Lib.hid (layflight_w (fun k => match k with | 0 => x | 1 => y | 2 => vx | _ => vy) (fun j => k * 6 + 1 + j) S Bq 90 _ (bk ++ Im.bytesOf 1 owner) b Bb Bp X (fun k hk => by
        match k, hk with
        | 0, _ => exact (show -2147483648 ≤ x ∧ x ≤ 2147483647 by omega)
        | 1, _ => exact (show -2147483648 ≤ y ∧ y ≤ 2147483647 by omega)
        | 2, _ => exact (show -2147483648 ≤ vx ∧ vx ≤ 2147483647 by omega)
        | 3, _ => exact (show -2147483648 ≤ vy ∧ vy ≤ 2147483647 by omega)) hbB hX (by rw [List.length_append, Im.bytesOf_len]; omega) hB (fun k hk => by
        match k, hk with
        | 0, _ => exact s1
        | 1, _ => exact s2
        | 2, _ => exact s3
        | 3, _ => exact s4) (by decide) (by decide) (by decide) hq 4)
      refine Rp.wp_region_lex (by kernel_rfl) [] (by kernel_rfl) (· = w3.drew) (fun _ => True) (fun _ => True) rfl (fun W hW => ⟨trivial, trivial⟩) ?_
      repeat (first
        | (apply Rp.lex_free rfl rfl; focus (intro _; go_simp; first | done | rfl))
        | (apply Rp.lex_look rfl rfl rfl rfl; focus (intro W hW; clear hW; go_simp; first | done | rfl)))
      refine Rp.lex_make rfl (W' := w3.drew.alloc (.cells #[.pointer (some ⟨S, k * 6 + 1, none⟩), .pointer (some ⟨S, k * 6 + 2, none⟩), .pointer (some ⟨S, k * 6 + 3, none⟩), .pointer (some ⟨S, k * 6 + 4, none⟩)] 166)) (v := .slice (some ⟨w3.drew.heap.size, 0, none⟩) 4 4) ?_ ⟨trivial, trivial⟩ ?_
      focus (go_simp; first | done | rfl)
      refine Rp.lex_call (C' := fun Z => Wr b Bb Bp (bk ++ Im.bytesOf 1 owner ++ Im.flight (fun k => match k with | 0 => x | 1 => y | 2 => vx | _ => vy) 4) Z ∧ Wrote b Bb U Z ∧ Box Z S 90 (Gm.shotCells l).toArray) (v := .tuple #[]) (f := 136) (args := #[.func (.func 117) #[] #[.pointer (some ⟨Bp, 0, none⟩)], .slice (some ⟨w3.drew.heap.size, 0, none⟩) 4 4]) rfl ?_ ?_ ?_ ?_
      · intro Z hZ; clear hZ; go_simp; first | done | rfl | exact ⟨rfl, rfl⟩
      · intro Z hZ
        subst hZ
        have hW := (I3.out.call (one_below' w3)).alloc (.cells #[.pointer (some ⟨S, k * 6 + 1, none⟩), .pointer (some ⟨S, k * 6 + 2, none⟩), .pointer (some ⟨S, k * 6 + 3, none⟩), .pointer (some ⟨S, k * 6 + 4, none⟩)] 166)
        refine (cf _ hW (P3.out.drew.alloc _) w3.drew.heap.size (Box.made _ _ _)).out.mono ?_
        rintro e Z2 ⟨rfl, hI2, hK2⟩
        exact ⟨rfl, hI2, (K3.out.drew.alloc _).trans hK2, (P3.out.drew.alloc _).wrote' hK2 hW.isvar (by decide) (by decide)⟩
      · exact fun Z hZ => ⟨trivial, trivial⟩
      refine Rp.lex_end fun W4 hW4 => ?_
      obtain ⟨hI4, hK4, hP4⟩ := hW4
      have P4 := Lib.hid hP4
      have p4 := P4.out.cell
      have IV4 := Lib.hid hI4.isvar
      have K4 := Lib.hid hK4
      have c5 := Lib.hid (layint_w 1 1 rfl left S (k * 6 + 5) 90 _ _ b Bb Bp W4 (by decide) (by omega) hbB hI4 (by rw [List.length_append, List.length_append, Im.bytesOf_len, lf]; omega) hP4 s5 (by decide) (by decide) (by decide))
      rw [hwl] at c5
      generalize Im.flight (fun k => match k with | 0 => x | 1 => y | 2 => vx | _ => vy) 4 = FL at *
      clear hI4 hK4 hP4 cf lf hwl s0 s1 s2 s3 s4 s5 p3 p2 c3
      go_wp2_with (go_at_call 112; ((with_reducible refine (c5.out).mono ?_); rintro e w5 ⟨rfl, hI, hK⟩; have P5 := Lib.hid (P4.out.wrote' hK IV4.out (by decide) (by decide)); have p5 := P5.out.cell; have IV5 := Lib.hid hI.isvar; have I5 := Lib.hid hI; have K5 := Lib.hid (K4.out.trans hK); clear hI hK))
      go_roundw
      case rel => exact ⟨k + 1, by omega, by go_num, by rw [HSN.out]; exact I5.out, K5.out⟩
      case measure => simp [intOf]; omega
    · have hk8 : ¬ (k : Int) < n := by omega
      obtain rfl : k = n := by omega
      have ht : l.take k = l := List.take_of_length_le (by have := NL.out; omega)
      rw [ht] at hI
      have HI := Lib.hid hI
      have HK := Lib.hid hK
      clear hI hK
      go_wp2
      go_end0
      refine ⟨rfl, by rw [← List.append_assoc]; exact HI.out, BU.out.trans (HK.out.to (Nat.le_trans hbw BU.out.size)), KU.out.wrote HK.out IVU.out, S, PU.out.wrote' HK.out IVU.out h1 h2⟩
end Go.Proofs.YtkkhdaeihnbilaaGreat
