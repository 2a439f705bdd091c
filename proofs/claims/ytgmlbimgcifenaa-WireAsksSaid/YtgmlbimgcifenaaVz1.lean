/-
Several texts in one: Fl Kp Slm Yd Bz Mw Mv.
-/
import Derived.Laws.FloatArith
import Derived.Test.YtgmlbimgcifenaaRows
import Derived.WalkKit
import Derived.WalkSpells
import Derived.WalkLawsBesides
import Derived.Laws.Externs
import Derived.Laws.BitsAllLaws
import Derived.Lib.Hide
import Derived.LoopTactic
import Derived.Deep.QuietTactic
import Derived.BigQuiet
import Derived.Outline
import Derived.Laws.OwnMore
import Derived.Deep.Draws
import Derived.Laws.Rows
import Derived.Deep.MidRow
import Derived.Maps.AppendAt
import Derived.Deep.WholeRow
import Derived.Orders
import Derived.Tactics
import Derived.Tactics2
import Derived.KernelRfl
import Derived.StillTail
import Derived.Below
import Derived.RangeFuncNested
import Derived.RangeFuncBound
import Derived.RangeFuncCalls
import Derived.RangeFuncLeaves
import Derived.Shelf.Abstract
import Derived.Shelf.RegionOpen
import Derived.Laws.StructEq
import Derived.ChangeKeysEq
import Derived.Deep.CutRange
import Derived.Deep.CutBlock
import Derived.Deep.DeepCutAuto
import Derived.Deep.LoopGhost
import Derived.OwnWalkIn
import Derived.TacticsInMore
import Derived.LoopNIn
import Derived.LoopIn
import Derived.Laws.CopyOwn
import Derived.Laws.MakeOwn
import Derived.Defers
import Derived.Recover
import Derived.Laws.BytesArg
import Derived.Lib.Bytes
import Derived.Laws.ShiftsVarLaws
import Derived.RowKit
import GoSem.Claim
import Derived.ChangeShapes
import Derived.ProofKit
import Derived.OpenShut
import Derived.Carry
import Derived.Lib.SmallJoins
import Derived.ChangeOld
import Derived.ChangeArms
import Derived.Great.BuildSlice
import Derived.Laws.IdiomStrings
import Derived.Deep.RegionLaw
set_option maxRecDepth 100000
set_option maxHeartbeats 8000000
set_option linter.unusedVariables false
set_option linter.unusedSimpArgs false
theorem qh {p : Prop} (h : p) : Go.RowKit.Hid p := h
namespace Fl
open Ieee
def G (r : Nat) : Nat := if r / 2 ^ 52 = 0 then r else (2 ^ 52 + r % 2 ^ 52) * 2 ^ (r / 2 ^ 52 - 1)
theorem G_kept (e q : Nat) (h1 : q ≤ 2 ^ 53) (h2 : e = 0 ∨ 2 ^ 52 ≤ q) : G (e * 2 ^ 52 + q) = q * 2 ^ e := by
  unfold G
  by_cases c : q < 2 ^ 52
  · have e0 : e = 0 := by omega
    subst e0
    rw [if_pos (by omega)]
    simp
  · by_cases c2 : q < 2 ^ 53
    · have d : (e * 2 ^ 52 + q) / 2 ^ 52 = e + 1 := by omega
      have m : (e * 2 ^ 52 + q) % 2 ^ 52 = q - 2 ^ 52 := by omega
      rw [d, m, if_neg (by omega), show 2 ^ 52 + (q - 2 ^ 52) = q from by omega, show e + 1 - 1 = e from rfl]
    · have hq : q = 2 ^ 53 := by omega
      have d : (e * 2 ^ 52 + q) / 2 ^ 52 = e + 2 := by omega
      have m : (e * 2 ^ 52 + q) % 2 ^ 52 = 0 := by omega
      rw [d, m, if_neg (by omega), hq, show e + 2 - 1 = e + 1 from by omega, Nat.pow_succ 2 e]
      omega
theorem rep (r : Nat) : ∃ e q, r = e * 2 ^ 52 + q ∧ q < 2 ^ 53 ∧ (e = 0 ∨ 2 ^ 52 ≤ q) := by
  by_cases c : r < 2 ^ 52
  · exact ⟨0, r, by omega, by omega, Or.inl rfl⟩
  · exact ⟨r / 2 ^ 52 - 1, 2 ^ 52 + r % 2 ^ 52, by omega, by omega, Or.inr (by omega)⟩
theorem G_succ (r : Nat) : G r < G (r + 1) := by
  obtain ⟨e, q, rfl, h1, h2⟩ := rep r
  rw [G_kept e q (by omega) h2, Nat.add_assoc, G_kept e (q + 1) (by omega) (by omega)]
  exact Nat.mul_lt_mul_of_pos_right (by omega) (Nat.two_pow_pos e)
theorem G_lt {a b : Nat} (h : a < b) : G a < G b := by
  induction b with
  | zero => omega
  | succ b ih =>
    by_cases c : a = b
    · subst c; exact G_succ a
    · exact Nat.lt_trans (ih (by omega)) (G_succ b)
theorem G_le {a b : Nat} (h : a ≤ b) : G a ≤ G b := by
  by_cases c : a = b
  · subst c; exact Nat.le_refl _
  · exact Nat.le_of_lt (G_lt (by omega))
structure Near (v s r : Nat) : Prop where
  lo : ∀ p, r = p + 1 → (G p + G r) * 2 ^ s ≤ 2 * v ∧ ((G p + G r) * 2 ^ s = 2 * v → r % 2 = 0)
  hi : 2 * v ≤ (G r + G (r + 1)) * 2 ^ s ∧ (2 * v = (G r + G (r + 1)) * 2 ^ s → r % 2 = 0)
theorem Near.mono {v v' s r r' : Nat} (h : Near v s r) (h' : Near v' s r') (hv : v ≤ v') : r ≤ r' := by
  by_cases c : r ≤ r'
  · exact c
  · exfalso
    obtain ⟨p, rfl⟩ : ∃ p, r = p + 1 := ⟨r - 1, by omega⟩
    have a := h.lo p rfl
    have b := h'.hi
    have m : (G r' + G (r' + 1)) * 2 ^ s ≤ (G p + G (p + 1)) * 2 ^ s :=
      Nat.mul_le_mul_right _ (Nat.add_le_add (G_le (by omega)) (G_le (by omega)))
    have e1 := a.2 (by omega)
    have e2 := b.2 (by omega)
    have e3 : p ≠ r' := by omega
    have m' : (G r' + G (r' + 1)) * 2 ^ s < (G p + G (p + 1)) * 2 ^ s :=
      Nat.mul_lt_mul_of_pos_right (Nat.add_lt_add (G_lt (by omega)) (G_lt (by omega))) (Nat.two_pow_pos s)
    omega
theorem Near.exact (s r : Nat) : Near (G r * 2 ^ s) s r := by
  have hp := Nat.two_pow_pos s
  constructor
  · intro p hr
    subst hr
    have := Nat.mul_lt_mul_of_pos_right (G_succ p) hp
    rw [Nat.add_mul]
    omega
  · have := Nat.mul_lt_mul_of_pos_right (G_succ r) hp
    rw [Nat.add_mul]
    omega
def sgn (x : Nat) : Bool := x / 2 ^ 63 % 2 == 1
def rung (x : Nat) : Nat := x % 2 ^ 63
def Z (x : Nat) : Int := if sgn x then -(G (rung x) : Int) else G (rung x)
def U : Nat := 2 ^ 1074
end Fl
namespace Go.Proofs.Ytgmlbimgcifenaa
open Go.RowKit
theorem ret_bool {a b : Bool} (h : a = b) : Ending.returned (.bool a) = .returned (.bool b) := by rw [h]
def Kept (v w : World) : Prop := Below v.heap.size v w
theorem Kept.refl (w : World) : Kept w w := Below.refl _ _
theorem Kept.on {v w w' : World} (h : Kept v w) (h' : Below w.heap.size w w') : Kept v w' := Below.trans h (h'.mono (Below.size h))
end Go.Proofs.Ytgmlbimgcifenaa
namespace Slim
open Go Go.RowKit
structure On (a a' : Act) (t : Nat) (v : Value) : Prop where
  defers : a'.defers = a.defers
  size : a'.tmps.size = a.tmps.size
  here : a'.tmps[t]? = some v
  else_ : ∀ i, i ≠ t → a'.tmps[i]? = a.tmps[i]?
theorem On.put (a : Act) (t : Nat) (v : Value) (h : t < a.tmps.size) : On a (a.put (some t) v) t v :=
  ⟨rfl, by simp [Act.put], by simp [Act.put, h], fun i hi => by simp only [Act.put]; rw [Array.getElem?_setIfInBounds_ne (by omega)]⟩
theorem eval_tmp {a : Act} {t : Nat} {v : Value} (h : a.tmps[t]? = some v) : a.eval (.tmp t) = v := by
  show a.tmps.getD t undef = v
  rw [Array.getD_eq_getD_getElem?, h]; rfl
section
variable {P : Program} {ops : Array Oper} {Q : Exit → Act → World → Prop} {a : Act} {w w' : World} {rest : List Oper} {o : Oper} {t : Nat} {v : Value}
theorem wants {j d : Nat} {b c : Bool} (hg : o.guard = some (j, c)) (hj : (ops[j]?).bind (·.dst) = some d) (hd : a.tmps[d]? = some (.bool b)) : Region.wanted o (yielded ops a.tmps) = (b == c) := by
  unfold Region.wanted yielded
  rw [hg]
  simp only
  rw [hj, Option.bind_some, hd]
  cases b <;> cases c <;> rfl
theorem wants_un {j d : Nat} {c : Bool} (hg : o.guard = some (j, c)) (hj : (ops[j]?).bind (·.dst) = some d) (hd : a.tmps[d]? = some undef) : Region.wanted o (yielded ops a.tmps) = false := by
  unfold Region.wanted yielded
  rw [hg]
  simp only
  rw [hj, Option.bind_some, hd]
  rfl
theorem wants_all (hg : o.guard = none) : Region.wanted o (yielded ops a.tmps) = true := by unfold Region.wanted; rw [hg]
theorem val (hdst : o.dst = some t) (ht : t < a.tmps.size) (hw : Region.wanted o (yielded ops a.tmps) = true) (hrun : (execOp a.eval o).run P w = .ok (.value v) w') (h : ∀ a', On a a' t v → wpList P ops Q rest a' w') : wpList P ops Q (o :: rest) a w :=
  wpList_step fun K hK => by
    rw [if_pos hw]
    unfold Oper.wp
    rw [hrun, Oper.upon_value, hdst]
    exact hK _ _ (h _ (On.put a t v ht))
theorem no (hdst : o.dst = some t) (ht : t < a.tmps.size) (hw : Region.wanted o (yielded ops a.tmps) = false) (h : ∀ a', On a a' t undef → wpList P ops Q rest a' w) : wpList P ops Q (o :: rest) a w :=
  wpList_step fun K hK => by
    rw [if_neg (by rw [hw]; decide), hdst]
    exact hK _ _ (h _ (On.put a t undef ht))
theorem call {f : FuncId} {args : Array Value} (hdst : o.dst = some t) (ht : t < a.tmps.size) (hw : Region.wanted o (yielded ops a.tmps) = true) (hrun : (execOp a.eval o).run P w = .ok (.enter f args) w) (hc : Calls P f args w fun e w' => e = .returned v ∧ w = w')
    (h : ∀ a', On a a' t v → wpList P ops Q rest a' w) : wpList P ops Q (o :: rest) a w :=
  wpList_step fun K hK => by
    rw [if_pos hw]
    unfold Oper.wp
    rw [hrun, Oper.upon_enter, hdst]
    refine hc.mono fun e w1 he => ?_
    obtain ⟨rfl, rfl⟩ := he
    exact hK _ _ (h _ (On.put a t v ht))
theorem go_move {x : Operand} (ho : o.op = .move x) : (execOp a.eval o).run P w = .ok (.value (a.eval x)) w := by
  unfold execOp; simp only [ho]; rfl
theorem go_assign {x : Operand} (ho : o.op = .assign x) : (execOp a.eval o).run P w = .ok (.value (a.eval x)) w := by
  unfold execOp; simp only [ho]; rfl
theorem go_pick {c x y : Operand} {b : Bool} (ho : o.op = .pick c x y) (hc : a.eval c = .bool b) : (execOp a.eval o).run P w = .ok (.value (if b then a.eval x else a.eval y)) w := by
  unfold execOp
  simp only [ho, hc]
  cases b <;> rfl
theorem run_v {s : Sem Value} {v : Value} (h : s.run P w = .ok v w') : (do pure (Next.value (← s)) : Sem Next).run P w = .ok (.value v) w' := by
  rw [Sem.run_bind, h]; rfl
theorem go_load {ty : TypeId} {x : Operand} {v : Value} (ho : o.op = .load ty x) (h : (Instr.loadAt ty (a.eval x)).run P w = .ok v w) : (execOp a.eval o).run P w = .ok (.value v) w := by
  unfold execOp
  simp only [ho]
  exact run_v h
theorem go_bin {op : BinOp} {ty : TypeId} {x y : Operand} {yt : TypeId} {v : Value} (ho : o.op = .binOp op ty x y yt) (h : (do eqGuard op ty x y (a.eval x) (a.eval y); binOp op ty (a.eval x) (a.eval y) : Sem Value).run P w = .ok v w) : (execOp a.eval o).run P w = .ok (.value v) w := by
  unfold execOp
  simp only [ho]
  exact run_v h
end
end Slim
namespace Slim
open Go Go.RowKit
section
variable {P : Program} {ops : Array Oper} {Q : Exit → Act → World → Prop} {a : Act} {w w' : World} {rest : List Oper} {o : Oper}
theorem go_call2 {f : FuncId} {d : Nat} {c kv : Value} {at2 : Array TypeId} (ho : o.op = .call { callee := .value (.func f), args := #[.tmp d, .const c], argTypes := at2 }) (hk : a.eval (.tmp d) = kv) (hcf : (callFunc f #[kv, c]).run P w = .ok (.enter f #[kv, c]) w) : (execOp a.eval o).run P w = .ok (.enter f #[kv, c]) w := by
  unfold execOp
  simp only [ho, resolve, invoke, Sem.run_bind, List.map_toArray, List.map_cons, List.map_nil, hk, show a.eval (.func f) = .func (.func f) #[] #[] from rfl, show a.eval (.const c) = c from rfl, Deferred.ofValue, Sem.run_pure, Result.andThen_ok, Array.append_empty]
  exact hcf
theorem go_field {tm : TypeId} {x : Operand} {fld : Nat} {v : Value} (ho : o.op = .fieldAddr tm x fld) (h : (Instr.fieldAt tm (a.eval x) fld).run P w = .ok v w) : (execOp a.eval o).run P w = .ok (.value v) w := by
  unfold execOp
  simp only [ho]
  exact run_v h
theorem go_len {d : Nat} {xv lv : Value} {at3 : Array TypeId} {y : TypeId} {p p' : String} {e e' : Array Edge} {g g' : Option (Nat × Bool)} {t t' : Option Tmp} (hk : a.eval (.tmp d) = xv) (h : (execOp (fun _ => xv) { dst := t', op := Op.call { callee := Callee.builtin Builtin.len, args := #[Operand.tmp 0], argTypes := at3 }, type := y, pos := p', after := e', guard := g' }).run P w = .ok (.value lv) w) :
    (execOp a.eval { dst := t, op := Op.call { callee := Callee.builtin Builtin.len, args := #[Operand.tmp d], argTypes := at3 }, type := y, pos := p, after := e, guard := g }).run P w = .ok (.value lv) w := by
  rw [← h]
  unfold execOp
  simp only [resolve, List.map_toArray, List.map_cons, List.map_nil, hk]
theorem seg0 {s n j3 fld B : Nat} {f : FuncId} {c kv z xv : Value} {Wc X : Bool} {tm ty et et2 y1 y2 y3 y4 y5 y6 y7 y8 : TypeId} {p1 p2 p3 p4 p5 p6 p7 p8 : String} {e1 e2 e3 e4 e5 e6 e7 e8 : Array Edge} {at2 : Array TypeId} {na : Addr}
    (hs : 4 ≤ s) (hn : s + 8 ≤ n) (hsz : a.tmps.size = n) (hj3 : (ops[j3]?).bind (·.dst) = some (s + 2))
    (h1 : a.tmps[1]? = some (.pointer (some ⟨B, 0, none⟩))) (h3 : a.tmps[3]? = some kv)
    (hcf : (callFunc f #[kv, c]).run P w = .ok (.enter f #[kv, c]) w) (hc : Calls P f #[kv, c] w fun e w' => e = .returned (.bool Wc) ∧ w = w')
    (hf : (Instr.fieldAt tm (.pointer (some ⟨B, 0, none⟩)) fld).run P w = .ok (.pointer (some na)) w)
    (hl : (Instr.loadAt ty (.pointer (some na))).run P w = .ok xv w)
    (he : (do eqGuard .eql et (.tmp (s + 4)) (.const z) xv z; binOp .eql et xv z : Sem Value).run P w = .ok (.bool X) w)
    (h : ∀ a' : Act, a'.defers = a.defers → a'.tmps.size = n → a'.tmps[1]? = some (.pointer (some ⟨B, 0, none⟩)) → a'.tmps[3]? = some kv → a'.tmps[(s + 7)]? = some (.bool (Wc || X)) → wpList P ops Q rest a' w) :
    wpList P ops Q ({ dst := some s, op := Op.move (Operand.tmp 3), type := y1, pos := p1, after := e1, guard := none } :: { dst := some (s + 1), op := Op.call { callee := Callee.value (Operand.func f), args := #[Operand.tmp s, Operand.const c], argTypes := at2 }, type := y2, pos := p2, after := e2, guard := none } :: { dst := some (s + 2), op := Op.move (Operand.tmp (s + 1)), type := y3, pos := p3, after := e3, guard := none } :: { dst := some (s + 3), op := Op.fieldAddr tm (Operand.tmp 1) fld, type := y4, pos := p4, after := e4, guard := some (j3, false) } :: { dst := some (s + 4), op := Op.load ty (Operand.tmp (s + 3)), type := y5, pos := p5, after := e5, guard := some (j3, false) } :: { dst := some (s + 5), op := Op.binOp BinOp.eql et (Operand.tmp (s + 4)) (Operand.const z) et2, type := y6, pos := p6, after := e6, guard := some (j3, false) } :: { dst := some (s + 6), op := Op.pick (Operand.tmp (s + 2)) (Operand.const (Value.bool true)) (Operand.tmp (s + 5)), type := y7, pos := p7, after := e7, guard := none } :: { dst := some (s + 7), op := Op.move (Operand.tmp (s + 6)), type := y8, pos := p8, after := e8, guard := none } :: rest) a w := by
  cases Wc
  · refine val (t := s) (v := kv) rfl (by rw [hsz]; omega) (wants_all rfl) ((go_move rfl).trans (by rw [eval_tmp h3])) fun a1 o1 => ?_
    refine call (t := (s + 1)) (v := .bool false) (f := f) (args := #[kv, c]) rfl (by rw [o1.size, hsz]; omega) (wants_all rfl) (go_call2 rfl (eval_tmp o1.here) hcf) hc fun a2 o2 => ?_
    refine val (t := (s + 2)) (v := .bool false) rfl (by rw [o2.size, o1.size, hsz]; omega) (wants_all rfl) ((go_move rfl).trans (by rw [eval_tmp o2.here])) fun a3 o3 => ?_
    refine val (t := (s + 3)) (v := .pointer (some na)) rfl (by rw [o3.size, o2.size, o1.size, hsz]; omega) ((wants rfl hj3 o3.here).trans rfl) (go_field rfl (by rw [eval_tmp ((o3.else_ _ (by omega)).trans ((o2.else_ _ (by omega)).trans ((o1.else_ _ (by omega)).trans h1)))]; exact hf)) fun a4 o4 => ?_
    refine val (t := (s + 4)) (v := xv) rfl (by rw [o4.size, o3.size, o2.size, o1.size, hsz]; omega) ((wants rfl hj3 ((o4.else_ _ (by omega)).trans o3.here)).trans rfl) (go_load rfl (by rw [eval_tmp o4.here]; exact hl)) fun a5 o5 => ?_
    refine val (t := (s + 5)) (v := .bool X) rfl (by rw [o5.size, o4.size, o3.size, o2.size, o1.size, hsz]; omega) ((wants rfl hj3 ((o5.else_ _ (by omega)).trans ((o4.else_ _ (by omega)).trans o3.here))).trans rfl) (go_bin rfl (by rw [eval_tmp o5.here]; exact he)) fun a6 o6 => ?_
    refine val (t := (s + 6)) (v := .bool X) rfl (by rw [o6.size, o5.size, o4.size, o3.size, o2.size, o1.size, hsz]; omega) (wants_all rfl) ((go_pick rfl (eval_tmp ((o6.else_ _ (by omega)).trans ((o5.else_ _ (by omega)).trans ((o4.else_ _ (by omega)).trans o3.here))))).trans (by rw [if_neg (by decide), eval_tmp o6.here])) fun a7 o7 => ?_
    refine val (t := (s + 7)) (v := .bool X) rfl (by rw [o7.size, o6.size, o5.size, o4.size, o3.size, o2.size, o1.size, hsz]; omega) (wants_all rfl) ((go_move rfl).trans (by rw [eval_tmp o7.here])) fun a8 o8 => ?_
    exact h a8 ((o8.defers.trans (o7.defers.trans (o6.defers.trans (o5.defers.trans (o4.defers.trans (o3.defers.trans (o2.defers.trans o1.defers)))))))) (by rw [o8.size, o7.size, o6.size, o5.size, o4.size, o3.size, o2.size, o1.size, hsz]) ((o8.else_ _ (by omega)).trans ((o7.else_ _ (by omega)).trans ((o6.else_ _ (by omega)).trans ((o5.else_ _ (by omega)).trans ((o4.else_ _ (by omega)).trans ((o3.else_ _ (by omega)).trans ((o2.else_ _ (by omega)).trans ((o1.else_ _ (by omega)).trans h1)))))))) ((o8.else_ _ (by omega)).trans ((o7.else_ _ (by omega)).trans ((o6.else_ _ (by omega)).trans ((o5.else_ _ (by omega)).trans ((o4.else_ _ (by omega)).trans ((o3.else_ _ (by omega)).trans ((o2.else_ _ (by omega)).trans ((o1.else_ _ (by omega)).trans h3)))))))) o8.here
  · refine val (t := s) (v := kv) rfl (by rw [hsz]; omega) (wants_all rfl) ((go_move rfl).trans (by rw [eval_tmp h3])) fun a1 o1 => ?_
    refine call (t := (s + 1)) (v := .bool true) (f := f) (args := #[kv, c]) rfl (by rw [o1.size, hsz]; omega) (wants_all rfl) (go_call2 rfl (eval_tmp o1.here) hcf) hc fun a2 o2 => ?_
    refine val (t := (s + 2)) (v := .bool true) rfl (by rw [o2.size, o1.size, hsz]; omega) (wants_all rfl) ((go_move rfl).trans (by rw [eval_tmp o2.here])) fun a3 o3 => ?_
    refine no (t := (s + 3)) rfl (by rw [o3.size, o2.size, o1.size, hsz]; omega) ((wants rfl hj3 o3.here).trans rfl) fun a4 o4 => ?_
    refine no (t := (s + 4)) rfl (by rw [o4.size, o3.size, o2.size, o1.size, hsz]; omega) ((wants rfl hj3 ((o4.else_ _ (by omega)).trans o3.here)).trans rfl) fun a5 o5 => ?_
    refine no (t := (s + 5)) rfl (by rw [o5.size, o4.size, o3.size, o2.size, o1.size, hsz]; omega) ((wants rfl hj3 ((o5.else_ _ (by omega)).trans ((o4.else_ _ (by omega)).trans o3.here))).trans rfl) fun a6 o6 => ?_
    refine val (t := (s + 6)) (v := .bool true) rfl (by rw [o6.size, o5.size, o4.size, o3.size, o2.size, o1.size, hsz]; omega) (wants_all rfl) ((go_pick rfl (eval_tmp ((o6.else_ _ (by omega)).trans ((o5.else_ _ (by omega)).trans ((o4.else_ _ (by omega)).trans o3.here))))).trans rfl) fun a7 o7 => ?_
    refine val (t := (s + 7)) (v := .bool true) rfl (by rw [o7.size, o6.size, o5.size, o4.size, o3.size, o2.size, o1.size, hsz]; omega) (wants_all rfl) ((go_move rfl).trans (by rw [eval_tmp o7.here])) fun a8 o8 => ?_
    exact h a8 ((o8.defers.trans (o7.defers.trans (o6.defers.trans (o5.defers.trans (o4.defers.trans (o3.defers.trans (o2.defers.trans o1.defers)))))))) (by rw [o8.size, o7.size, o6.size, o5.size, o4.size, o3.size, o2.size, o1.size, hsz]) ((o8.else_ _ (by omega)).trans ((o7.else_ _ (by omega)).trans ((o6.else_ _ (by omega)).trans ((o5.else_ _ (by omega)).trans ((o4.else_ _ (by omega)).trans ((o3.else_ _ (by omega)).trans ((o2.else_ _ (by omega)).trans ((o1.else_ _ (by omega)).trans h1)))))))) ((o8.else_ _ (by omega)).trans ((o7.else_ _ (by omega)).trans ((o6.else_ _ (by omega)).trans ((o5.else_ _ (by omega)).trans ((o4.else_ _ (by omega)).trans ((o3.else_ _ (by omega)).trans ((o2.else_ _ (by omega)).trans ((o1.else_ _ (by omega)).trans h3)))))))) o8.here
theorem seg {s sp jp n j3 fld B : Nat} {f : FuncId} {c kv z xv : Value} {Wc X b : Bool} {tm ty et et2 y1 y2 y3 y4 y5 y6 y7 y8 y9 : TypeId} {p1 p2 p3 p4 p5 p6 p7 p8 p9 : String} {e1 e2 e3 e4 e5 e6 e7 e8 e9 : Array Edge} {at2 : Array TypeId} {na : Addr}
    (hs : 4 ≤ s) (hn : s + 9 ≤ n) (hsz : a.tmps.size = n) (hsp : sp + 1 = s) (hjp : (ops[jp]?).bind (·.dst) = some sp) (hb : a.tmps[sp]? = some (.bool b)) (hj3 : (ops[j3]?).bind (·.dst) = some (s + 2))
    (h1 : a.tmps[1]? = some (.pointer (some ⟨B, 0, none⟩))) (h3 : a.tmps[3]? = some kv)
    (hcf : (callFunc f #[kv, c]).run P w = .ok (.enter f #[kv, c]) w) (hc : Calls P f #[kv, c] w fun e w' => e = .returned (.bool Wc) ∧ w = w')
    (hf : (Instr.fieldAt tm (.pointer (some ⟨B, 0, none⟩)) fld).run P w = .ok (.pointer (some na)) w)
    (hl : (Instr.loadAt ty (.pointer (some na))).run P w = .ok xv w)
    (he : (do eqGuard .eql et (.tmp (s + 4)) (.const z) xv z; binOp .eql et xv z : Sem Value).run P w = .ok (.bool X) w)
    (h : ∀ a' : Act, a'.defers = a.defers → a'.tmps.size = n → a'.tmps[1]? = some (.pointer (some ⟨B, 0, none⟩)) → a'.tmps[3]? = some kv → a'.tmps[(s + 8)]? = some (.bool (b && (Wc || X))) → wpList P ops Q rest a' w) :
    wpList P ops Q ({ dst := some s, op := Op.move (Operand.tmp 3), type := y1, pos := p1, after := e1, guard := some (jp, true) } :: { dst := some (s + 1), op := Op.call { callee := Callee.value (Operand.func f), args := #[Operand.tmp s, Operand.const c], argTypes := at2 }, type := y2, pos := p2, after := e2, guard := some (jp, true) } :: { dst := some (s + 2), op := Op.move (Operand.tmp (s + 1)), type := y3, pos := p3, after := e3, guard := some (jp, true) } :: { dst := some (s + 3), op := Op.fieldAddr tm (Operand.tmp 1) fld, type := y4, pos := p4, after := e4, guard := some (j3, false) } :: { dst := some (s + 4), op := Op.load ty (Operand.tmp (s + 3)), type := y5, pos := p5, after := e5, guard := some (j3, false) } :: { dst := some (s + 5), op := Op.binOp BinOp.eql et (Operand.tmp (s + 4)) (Operand.const z) et2, type := y6, pos := p6, after := e6, guard := some (j3, false) } :: { dst := some (s + 6), op := Op.pick (Operand.tmp (s + 2)) (Operand.const (Value.bool true)) (Operand.tmp (s + 5)), type := y7, pos := p7, after := e7, guard := some (jp, true) } :: { dst := some (s + 7), op := Op.pick (Operand.tmp sp) (Operand.tmp (s + 6)) (Operand.const (Value.bool false)), type := y8, pos := p8, after := e8, guard := none } :: { dst := some (s + 8), op := Op.move (Operand.tmp (s + 7)), type := y9, pos := p9, after := e9, guard := none } :: rest) a w := by
  cases b
  · refine no (t := s) rfl (by rw [hsz]; omega) ((wants rfl hjp hb).trans rfl) fun a1 o1 => ?_
    refine no (t := (s + 1)) rfl (by rw [o1.size, hsz]; omega) ((wants rfl hjp ((o1.else_ _ (by omega)).trans hb)).trans rfl) fun a2 o2 => ?_
    refine no (t := (s + 2)) rfl (by rw [o2.size, o1.size, hsz]; omega) ((wants rfl hjp ((o2.else_ _ (by omega)).trans ((o1.else_ _ (by omega)).trans hb))).trans rfl) fun a3 o3 => ?_
    refine no (t := (s + 3)) rfl (by rw [o3.size, o2.size, o1.size, hsz]; omega) (wants_un rfl hj3 o3.here) fun a4 o4 => ?_
    refine no (t := (s + 4)) rfl (by rw [o4.size, o3.size, o2.size, o1.size, hsz]; omega) (wants_un rfl hj3 ((o4.else_ _ (by omega)).trans o3.here)) fun a5 o5 => ?_
    refine no (t := (s + 5)) rfl (by rw [o5.size, o4.size, o3.size, o2.size, o1.size, hsz]; omega) (wants_un rfl hj3 ((o5.else_ _ (by omega)).trans ((o4.else_ _ (by omega)).trans o3.here))) fun a6 o6 => ?_
    refine no (t := (s + 6)) rfl (by rw [o6.size, o5.size, o4.size, o3.size, o2.size, o1.size, hsz]; omega) ((wants rfl hjp ((o6.else_ _ (by omega)).trans ((o5.else_ _ (by omega)).trans ((o4.else_ _ (by omega)).trans ((o3.else_ _ (by omega)).trans ((o2.else_ _ (by omega)).trans ((o1.else_ _ (by omega)).trans hb))))))).trans rfl) fun a7 o7 => ?_
    refine val (t := (s + 7)) (v := .bool false) rfl (by rw [o7.size, o6.size, o5.size, o4.size, o3.size, o2.size, o1.size, hsz]; omega) (wants_all rfl) ((go_pick rfl (eval_tmp ((o7.else_ _ (by omega)).trans ((o6.else_ _ (by omega)).trans ((o5.else_ _ (by omega)).trans ((o4.else_ _ (by omega)).trans ((o3.else_ _ (by omega)).trans ((o2.else_ _ (by omega)).trans ((o1.else_ _ (by omega)).trans hb))))))))).trans rfl) fun a8 o8 => ?_
    refine val (t := (s + 8)) (v := .bool false) rfl (by rw [o8.size, o7.size, o6.size, o5.size, o4.size, o3.size, o2.size, o1.size, hsz]; omega) (wants_all rfl) ((go_move rfl).trans (by rw [eval_tmp o8.here])) fun a9 o9 => ?_
    exact h a9 ((o9.defers.trans (o8.defers.trans (o7.defers.trans (o6.defers.trans (o5.defers.trans (o4.defers.trans (o3.defers.trans (o2.defers.trans o1.defers))))))))) (by rw [o9.size, o8.size, o7.size, o6.size, o5.size, o4.size, o3.size, o2.size, o1.size, hsz]) ((o9.else_ _ (by omega)).trans ((o8.else_ _ (by omega)).trans ((o7.else_ _ (by omega)).trans ((o6.else_ _ (by omega)).trans ((o5.else_ _ (by omega)).trans ((o4.else_ _ (by omega)).trans ((o3.else_ _ (by omega)).trans ((o2.else_ _ (by omega)).trans ((o1.else_ _ (by omega)).trans h1))))))))) ((o9.else_ _ (by omega)).trans ((o8.else_ _ (by omega)).trans ((o7.else_ _ (by omega)).trans ((o6.else_ _ (by omega)).trans ((o5.else_ _ (by omega)).trans ((o4.else_ _ (by omega)).trans ((o3.else_ _ (by omega)).trans ((o2.else_ _ (by omega)).trans ((o1.else_ _ (by omega)).trans h3))))))))) o9.here
  · cases Wc
    · refine val (t := s) (v := kv) rfl (by rw [hsz]; omega) ((wants rfl hjp hb).trans rfl) ((go_move rfl).trans (by rw [eval_tmp h3])) fun a1 o1 => ?_
      refine call (t := (s + 1)) (v := .bool false) (f := f) (args := #[kv, c]) rfl (by rw [o1.size, hsz]; omega) ((wants rfl hjp ((o1.else_ _ (by omega)).trans hb)).trans rfl) (go_call2 rfl (eval_tmp o1.here) hcf) hc fun a2 o2 => ?_
      refine val (t := (s + 2)) (v := .bool false) rfl (by rw [o2.size, o1.size, hsz]; omega) ((wants rfl hjp ((o2.else_ _ (by omega)).trans ((o1.else_ _ (by omega)).trans hb))).trans rfl) ((go_move rfl).trans (by rw [eval_tmp o2.here])) fun a3 o3 => ?_
      refine val (t := (s + 3)) (v := .pointer (some na)) rfl (by rw [o3.size, o2.size, o1.size, hsz]; omega) ((wants rfl hj3 o3.here).trans rfl) (go_field rfl (by rw [eval_tmp ((o3.else_ _ (by omega)).trans ((o2.else_ _ (by omega)).trans ((o1.else_ _ (by omega)).trans h1)))]; exact hf)) fun a4 o4 => ?_
      refine val (t := (s + 4)) (v := xv) rfl (by rw [o4.size, o3.size, o2.size, o1.size, hsz]; omega) ((wants rfl hj3 ((o4.else_ _ (by omega)).trans o3.here)).trans rfl) (go_load rfl (by rw [eval_tmp o4.here]; exact hl)) fun a5 o5 => ?_
      refine val (t := (s + 5)) (v := .bool X) rfl (by rw [o5.size, o4.size, o3.size, o2.size, o1.size, hsz]; omega) ((wants rfl hj3 ((o5.else_ _ (by omega)).trans ((o4.else_ _ (by omega)).trans o3.here))).trans rfl) (go_bin rfl (by rw [eval_tmp o5.here]; exact he)) fun a6 o6 => ?_
      refine val (t := (s + 6)) (v := .bool X) rfl (by rw [o6.size, o5.size, o4.size, o3.size, o2.size, o1.size, hsz]; omega) ((wants rfl hjp ((o6.else_ _ (by omega)).trans ((o5.else_ _ (by omega)).trans ((o4.else_ _ (by omega)).trans ((o3.else_ _ (by omega)).trans ((o2.else_ _ (by omega)).trans ((o1.else_ _ (by omega)).trans hb))))))).trans rfl) ((go_pick rfl (eval_tmp ((o6.else_ _ (by omega)).trans ((o5.else_ _ (by omega)).trans ((o4.else_ _ (by omega)).trans o3.here))))).trans (by rw [if_neg (by decide), eval_tmp o6.here])) fun a7 o7 => ?_
      refine val (t := (s + 7)) (v := .bool X) rfl (by rw [o7.size, o6.size, o5.size, o4.size, o3.size, o2.size, o1.size, hsz]; omega) (wants_all rfl) ((go_pick rfl (eval_tmp ((o7.else_ _ (by omega)).trans ((o6.else_ _ (by omega)).trans ((o5.else_ _ (by omega)).trans ((o4.else_ _ (by omega)).trans ((o3.else_ _ (by omega)).trans ((o2.else_ _ (by omega)).trans ((o1.else_ _ (by omega)).trans hb))))))))).trans (by rw [if_pos rfl, eval_tmp o7.here])) fun a8 o8 => ?_
      refine val (t := (s + 8)) (v := .bool X) rfl (by rw [o8.size, o7.size, o6.size, o5.size, o4.size, o3.size, o2.size, o1.size, hsz]; omega) (wants_all rfl) ((go_move rfl).trans (by rw [eval_tmp o8.here])) fun a9 o9 => ?_
      exact h a9 ((o9.defers.trans (o8.defers.trans (o7.defers.trans (o6.defers.trans (o5.defers.trans (o4.defers.trans (o3.defers.trans (o2.defers.trans o1.defers))))))))) (by rw [o9.size, o8.size, o7.size, o6.size, o5.size, o4.size, o3.size, o2.size, o1.size, hsz]) ((o9.else_ _ (by omega)).trans ((o8.else_ _ (by omega)).trans ((o7.else_ _ (by omega)).trans ((o6.else_ _ (by omega)).trans ((o5.else_ _ (by omega)).trans ((o4.else_ _ (by omega)).trans ((o3.else_ _ (by omega)).trans ((o2.else_ _ (by omega)).trans ((o1.else_ _ (by omega)).trans h1))))))))) ((o9.else_ _ (by omega)).trans ((o8.else_ _ (by omega)).trans ((o7.else_ _ (by omega)).trans ((o6.else_ _ (by omega)).trans ((o5.else_ _ (by omega)).trans ((o4.else_ _ (by omega)).trans ((o3.else_ _ (by omega)).trans ((o2.else_ _ (by omega)).trans ((o1.else_ _ (by omega)).trans h3))))))))) o9.here
    · refine val (t := s) (v := kv) rfl (by rw [hsz]; omega) ((wants rfl hjp hb).trans rfl) ((go_move rfl).trans (by rw [eval_tmp h3])) fun a1 o1 => ?_
      refine call (t := (s + 1)) (v := .bool true) (f := f) (args := #[kv, c]) rfl (by rw [o1.size, hsz]; omega) ((wants rfl hjp ((o1.else_ _ (by omega)).trans hb)).trans rfl) (go_call2 rfl (eval_tmp o1.here) hcf) hc fun a2 o2 => ?_
      refine val (t := (s + 2)) (v := .bool true) rfl (by rw [o2.size, o1.size, hsz]; omega) ((wants rfl hjp ((o2.else_ _ (by omega)).trans ((o1.else_ _ (by omega)).trans hb))).trans rfl) ((go_move rfl).trans (by rw [eval_tmp o2.here])) fun a3 o3 => ?_
      refine no (t := (s + 3)) rfl (by rw [o3.size, o2.size, o1.size, hsz]; omega) ((wants rfl hj3 o3.here).trans rfl) fun a4 o4 => ?_
      refine no (t := (s + 4)) rfl (by rw [o4.size, o3.size, o2.size, o1.size, hsz]; omega) ((wants rfl hj3 ((o4.else_ _ (by omega)).trans o3.here)).trans rfl) fun a5 o5 => ?_
      refine no (t := (s + 5)) rfl (by rw [o5.size, o4.size, o3.size, o2.size, o1.size, hsz]; omega) ((wants rfl hj3 ((o5.else_ _ (by omega)).trans ((o4.else_ _ (by omega)).trans o3.here))).trans rfl) fun a6 o6 => ?_
      refine val (t := (s + 6)) (v := .bool true) rfl (by rw [o6.size, o5.size, o4.size, o3.size, o2.size, o1.size, hsz]; omega) ((wants rfl hjp ((o6.else_ _ (by omega)).trans ((o5.else_ _ (by omega)).trans ((o4.else_ _ (by omega)).trans ((o3.else_ _ (by omega)).trans ((o2.else_ _ (by omega)).trans ((o1.else_ _ (by omega)).trans hb))))))).trans rfl) ((go_pick rfl (eval_tmp ((o6.else_ _ (by omega)).trans ((o5.else_ _ (by omega)).trans ((o4.else_ _ (by omega)).trans o3.here))))).trans rfl) fun a7 o7 => ?_
      refine val (t := (s + 7)) (v := .bool true) rfl (by rw [o7.size, o6.size, o5.size, o4.size, o3.size, o2.size, o1.size, hsz]; omega) (wants_all rfl) ((go_pick rfl (eval_tmp ((o7.else_ _ (by omega)).trans ((o6.else_ _ (by omega)).trans ((o5.else_ _ (by omega)).trans ((o4.else_ _ (by omega)).trans ((o3.else_ _ (by omega)).trans ((o2.else_ _ (by omega)).trans ((o1.else_ _ (by omega)).trans hb))))))))).trans (by rw [if_pos rfl, eval_tmp o7.here])) fun a8 o8 => ?_
      refine val (t := (s + 8)) (v := .bool true) rfl (by rw [o8.size, o7.size, o6.size, o5.size, o4.size, o3.size, o2.size, o1.size, hsz]; omega) (wants_all rfl) ((go_move rfl).trans (by rw [eval_tmp o8.here])) fun a9 o9 => ?_
      exact h a9 ((o9.defers.trans (o8.defers.trans (o7.defers.trans (o6.defers.trans (o5.defers.trans (o4.defers.trans (o3.defers.trans (o2.defers.trans o1.defers))))))))) (by rw [o9.size, o8.size, o7.size, o6.size, o5.size, o4.size, o3.size, o2.size, o1.size, hsz]) ((o9.else_ _ (by omega)).trans ((o8.else_ _ (by omega)).trans ((o7.else_ _ (by omega)).trans ((o6.else_ _ (by omega)).trans ((o5.else_ _ (by omega)).trans ((o4.else_ _ (by omega)).trans ((o3.else_ _ (by omega)).trans ((o2.else_ _ (by omega)).trans ((o1.else_ _ (by omega)).trans h1))))))))) ((o9.else_ _ (by omega)).trans ((o8.else_ _ (by omega)).trans ((o7.else_ _ (by omega)).trans ((o6.else_ _ (by omega)).trans ((o5.else_ _ (by omega)).trans ((o4.else_ _ (by omega)).trans ((o3.else_ _ (by omega)).trans ((o2.else_ _ (by omega)).trans ((o1.else_ _ (by omega)).trans h3))))))))) o9.here
theorem segl {s sp jp n j3 fld B : Nat} {f : FuncId} {c kv z xv lv : Value} {Wc X b : Bool} {tm ty et et2 y1 y2 y3 y4 y5 y10 y6 y7 y8 y9 : TypeId} {p1 p2 p3 p4 p5 p10 p6 p7 p8 p9 : String} {e1 e2 e3 e4 e5 e10 e6 e7 e8 e9 : Array Edge} {at2 at3 : Array TypeId} {na : Addr}
    (hs : 4 ≤ s) (hn : s + 10 ≤ n) (hsz : a.tmps.size = n) (hsp : sp + 1 = s) (hjp : (ops[jp]?).bind (·.dst) = some sp) (hb : a.tmps[sp]? = some (.bool b)) (hj3 : (ops[j3]?).bind (·.dst) = some (s + 2))
    (h1 : a.tmps[1]? = some (.pointer (some ⟨B, 0, none⟩))) (h3 : a.tmps[3]? = some kv)
    (hcf : (callFunc f #[kv, c]).run P w = .ok (.enter f #[kv, c]) w) (hc : Calls P f #[kv, c] w fun e w' => e = .returned (.bool Wc) ∧ w = w')
    (hf : (Instr.fieldAt tm (.pointer (some ⟨B, 0, none⟩)) fld).run P w = .ok (.pointer (some na)) w)
    (hl : (Instr.loadAt ty (.pointer (some na))).run P w = .ok xv w)
    (hln : (execOp (fun _ => xv) { dst := none, op := Op.call { callee := Callee.builtin Builtin.len, args := #[Operand.tmp 0], argTypes := at3 }, type := y10, pos := "", after := #[], guard := none }).run P w = .ok (.value lv) w) (he : (do eqGuard .eql et (.tmp (s + 5)) (.const z) lv z; binOp .eql et lv z : Sem Value).run P w = .ok (.bool X) w)
    (h : ∀ a' : Act, a'.defers = a.defers → a'.tmps.size = n → a'.tmps[1]? = some (.pointer (some ⟨B, 0, none⟩)) → a'.tmps[3]? = some kv → a'.tmps[(s + 9)]? = some (.bool (b && (Wc || X))) → wpList P ops Q rest a' w) :
    wpList P ops Q ({ dst := some s, op := Op.move (Operand.tmp 3), type := y1, pos := p1, after := e1, guard := some (jp, true) } :: { dst := some (s + 1), op := Op.call { callee := Callee.value (Operand.func f), args := #[Operand.tmp s, Operand.const c], argTypes := at2 }, type := y2, pos := p2, after := e2, guard := some (jp, true) } :: { dst := some (s + 2), op := Op.move (Operand.tmp (s + 1)), type := y3, pos := p3, after := e3, guard := some (jp, true) } :: { dst := some (s + 3), op := Op.fieldAddr tm (Operand.tmp 1) fld, type := y4, pos := p4, after := e4, guard := some (j3, false) } :: { dst := some (s + 4), op := Op.load ty (Operand.tmp (s + 3)), type := y5, pos := p5, after := e5, guard := some (j3, false) } :: { dst := some (s + 5), op := Op.call { callee := Callee.builtin Builtin.len, args := #[Operand.tmp (s + 4)], argTypes := at3 }, type := y10, pos := p10, after := e10, guard := some (j3, false) } :: { dst := some (s + 6), op := Op.binOp BinOp.eql et (Operand.tmp (s + 5)) (Operand.const z) et2, type := y6, pos := p6, after := e6, guard := some (j3, false) } :: { dst := some (s + 7), op := Op.pick (Operand.tmp (s + 2)) (Operand.const (Value.bool true)) (Operand.tmp (s + 6)), type := y7, pos := p7, after := e7, guard := some (jp, true) } :: { dst := some (s + 8), op := Op.pick (Operand.tmp sp) (Operand.tmp (s + 7)) (Operand.const (Value.bool false)), type := y8, pos := p8, after := e8, guard := none } :: { dst := some (s + 9), op := Op.move (Operand.tmp (s + 8)), type := y9, pos := p9, after := e9, guard := none } :: rest) a w := by
  cases b
  · refine no (t := s) rfl (by rw [hsz]; omega) ((wants rfl hjp hb).trans rfl) fun a1 o1 => ?_
    refine no (t := (s + 1)) rfl (by rw [o1.size, hsz]; omega) ((wants rfl hjp ((o1.else_ _ (by omega)).trans hb)).trans rfl) fun a2 o2 => ?_
    refine no (t := (s + 2)) rfl (by rw [o2.size, o1.size, hsz]; omega) ((wants rfl hjp ((o2.else_ _ (by omega)).trans ((o1.else_ _ (by omega)).trans hb))).trans rfl) fun a3 o3 => ?_
    refine no (t := (s + 3)) rfl (by rw [o3.size, o2.size, o1.size, hsz]; omega) (wants_un rfl hj3 o3.here) fun a4 o4 => ?_
    refine no (t := (s + 4)) rfl (by rw [o4.size, o3.size, o2.size, o1.size, hsz]; omega) (wants_un rfl hj3 ((o4.else_ _ (by omega)).trans o3.here)) fun a5 o5 => ?_
    refine no (t := (s + 5)) rfl (by rw [o5.size, o4.size, o3.size, o2.size, o1.size, hsz]; omega) (wants_un rfl hj3 ((o5.else_ _ (by omega)).trans ((o4.else_ _ (by omega)).trans o3.here))) fun a6 o6 => ?_
    refine no (t := (s + 6)) rfl (by rw [o6.size, o5.size, o4.size, o3.size, o2.size, o1.size, hsz]; omega) (wants_un rfl hj3 ((o6.else_ _ (by omega)).trans ((o5.else_ _ (by omega)).trans ((o4.else_ _ (by omega)).trans o3.here)))) fun a7 o7 => ?_
    refine no (t := (s + 7)) rfl (by rw [o7.size, o6.size, o5.size, o4.size, o3.size, o2.size, o1.size, hsz]; omega) ((wants rfl hjp ((o7.else_ _ (by omega)).trans ((o6.else_ _ (by omega)).trans ((o5.else_ _ (by omega)).trans ((o4.else_ _ (by omega)).trans ((o3.else_ _ (by omega)).trans ((o2.else_ _ (by omega)).trans ((o1.else_ _ (by omega)).trans hb)))))))).trans rfl) fun a8 o8 => ?_
    refine val (t := (s + 8)) (v := .bool false) rfl (by rw [o8.size, o7.size, o6.size, o5.size, o4.size, o3.size, o2.size, o1.size, hsz]; omega) (wants_all rfl) ((go_pick rfl (eval_tmp ((o8.else_ _ (by omega)).trans ((o7.else_ _ (by omega)).trans ((o6.else_ _ (by omega)).trans ((o5.else_ _ (by omega)).trans ((o4.else_ _ (by omega)).trans ((o3.else_ _ (by omega)).trans ((o2.else_ _ (by omega)).trans ((o1.else_ _ (by omega)).trans hb)))))))))).trans rfl) fun a9 o9 => ?_
    refine val (t := (s + 9)) (v := .bool false) rfl (by rw [o9.size, o8.size, o7.size, o6.size, o5.size, o4.size, o3.size, o2.size, o1.size, hsz]; omega) (wants_all rfl) ((go_move rfl).trans (by rw [eval_tmp o9.here])) fun a10 o10 => ?_
    exact h a10 ((o10.defers.trans (o9.defers.trans (o8.defers.trans (o7.defers.trans (o6.defers.trans (o5.defers.trans (o4.defers.trans (o3.defers.trans (o2.defers.trans o1.defers)))))))))) (by rw [o10.size, o9.size, o8.size, o7.size, o6.size, o5.size, o4.size, o3.size, o2.size, o1.size, hsz]) ((o10.else_ _ (by omega)).trans ((o9.else_ _ (by omega)).trans ((o8.else_ _ (by omega)).trans ((o7.else_ _ (by omega)).trans ((o6.else_ _ (by omega)).trans ((o5.else_ _ (by omega)).trans ((o4.else_ _ (by omega)).trans ((o3.else_ _ (by omega)).trans ((o2.else_ _ (by omega)).trans ((o1.else_ _ (by omega)).trans h1)))))))))) ((o10.else_ _ (by omega)).trans ((o9.else_ _ (by omega)).trans ((o8.else_ _ (by omega)).trans ((o7.else_ _ (by omega)).trans ((o6.else_ _ (by omega)).trans ((o5.else_ _ (by omega)).trans ((o4.else_ _ (by omega)).trans ((o3.else_ _ (by omega)).trans ((o2.else_ _ (by omega)).trans ((o1.else_ _ (by omega)).trans h3)))))))))) o10.here
  · cases Wc
    · refine val (t := s) (v := kv) rfl (by rw [hsz]; omega) ((wants rfl hjp hb).trans rfl) ((go_move rfl).trans (by rw [eval_tmp h3])) fun a1 o1 => ?_
      refine call (t := (s + 1)) (v := .bool false) (f := f) (args := #[kv, c]) rfl (by rw [o1.size, hsz]; omega) ((wants rfl hjp ((o1.else_ _ (by omega)).trans hb)).trans rfl) (go_call2 rfl (eval_tmp o1.here) hcf) hc fun a2 o2 => ?_
      refine val (t := (s + 2)) (v := .bool false) rfl (by rw [o2.size, o1.size, hsz]; omega) ((wants rfl hjp ((o2.else_ _ (by omega)).trans ((o1.else_ _ (by omega)).trans hb))).trans rfl) ((go_move rfl).trans (by rw [eval_tmp o2.here])) fun a3 o3 => ?_
      refine val (t := (s + 3)) (v := .pointer (some na)) rfl (by rw [o3.size, o2.size, o1.size, hsz]; omega) ((wants rfl hj3 o3.here).trans rfl) (go_field rfl (by rw [eval_tmp ((o3.else_ _ (by omega)).trans ((o2.else_ _ (by omega)).trans ((o1.else_ _ (by omega)).trans h1)))]; exact hf)) fun a4 o4 => ?_
      refine val (t := (s + 4)) (v := xv) rfl (by rw [o4.size, o3.size, o2.size, o1.size, hsz]; omega) ((wants rfl hj3 ((o4.else_ _ (by omega)).trans o3.here)).trans rfl) (go_load rfl (by rw [eval_tmp o4.here]; exact hl)) fun a5 o5 => ?_
      refine val (t := (s + 5)) (v := lv) rfl (by rw [o5.size, o4.size, o3.size, o2.size, o1.size, hsz]; omega) ((wants rfl hj3 ((o5.else_ _ (by omega)).trans ((o4.else_ _ (by omega)).trans o3.here))).trans rfl) (go_len (eval_tmp o5.here) hln) fun a6 o6 => ?_
      refine val (t := (s + 6)) (v := .bool X) rfl (by rw [o6.size, o5.size, o4.size, o3.size, o2.size, o1.size, hsz]; omega) ((wants rfl hj3 ((o6.else_ _ (by omega)).trans ((o5.else_ _ (by omega)).trans ((o4.else_ _ (by omega)).trans o3.here)))).trans rfl) (go_bin rfl (by rw [eval_tmp o6.here]; exact he)) fun a7 o7 => ?_
      refine val (t := (s + 7)) (v := .bool X) rfl (by rw [o7.size, o6.size, o5.size, o4.size, o3.size, o2.size, o1.size, hsz]; omega) ((wants rfl hjp ((o7.else_ _ (by omega)).trans ((o6.else_ _ (by omega)).trans ((o5.else_ _ (by omega)).trans ((o4.else_ _ (by omega)).trans ((o3.else_ _ (by omega)).trans ((o2.else_ _ (by omega)).trans ((o1.else_ _ (by omega)).trans hb)))))))).trans rfl) ((go_pick rfl (eval_tmp ((o7.else_ _ (by omega)).trans ((o6.else_ _ (by omega)).trans ((o5.else_ _ (by omega)).trans ((o4.else_ _ (by omega)).trans o3.here)))))).trans (by rw [if_neg (by decide), eval_tmp o7.here])) fun a8 o8 => ?_
      refine val (t := (s + 8)) (v := .bool X) rfl (by rw [o8.size, o7.size, o6.size, o5.size, o4.size, o3.size, o2.size, o1.size, hsz]; omega) (wants_all rfl) ((go_pick rfl (eval_tmp ((o8.else_ _ (by omega)).trans ((o7.else_ _ (by omega)).trans ((o6.else_ _ (by omega)).trans ((o5.else_ _ (by omega)).trans ((o4.else_ _ (by omega)).trans ((o3.else_ _ (by omega)).trans ((o2.else_ _ (by omega)).trans ((o1.else_ _ (by omega)).trans hb)))))))))).trans (by rw [if_pos rfl, eval_tmp o8.here])) fun a9 o9 => ?_
      refine val (t := (s + 9)) (v := .bool X) rfl (by rw [o9.size, o8.size, o7.size, o6.size, o5.size, o4.size, o3.size, o2.size, o1.size, hsz]; omega) (wants_all rfl) ((go_move rfl).trans (by rw [eval_tmp o9.here])) fun a10 o10 => ?_
      exact h a10 ((o10.defers.trans (o9.defers.trans (o8.defers.trans (o7.defers.trans (o6.defers.trans (o5.defers.trans (o4.defers.trans (o3.defers.trans (o2.defers.trans o1.defers)))))))))) (by rw [o10.size, o9.size, o8.size, o7.size, o6.size, o5.size, o4.size, o3.size, o2.size, o1.size, hsz]) ((o10.else_ _ (by omega)).trans ((o9.else_ _ (by omega)).trans ((o8.else_ _ (by omega)).trans ((o7.else_ _ (by omega)).trans ((o6.else_ _ (by omega)).trans ((o5.else_ _ (by omega)).trans ((o4.else_ _ (by omega)).trans ((o3.else_ _ (by omega)).trans ((o2.else_ _ (by omega)).trans ((o1.else_ _ (by omega)).trans h1)))))))))) ((o10.else_ _ (by omega)).trans ((o9.else_ _ (by omega)).trans ((o8.else_ _ (by omega)).trans ((o7.else_ _ (by omega)).trans ((o6.else_ _ (by omega)).trans ((o5.else_ _ (by omega)).trans ((o4.else_ _ (by omega)).trans ((o3.else_ _ (by omega)).trans ((o2.else_ _ (by omega)).trans ((o1.else_ _ (by omega)).trans h3)))))))))) o10.here
    · refine val (t := s) (v := kv) rfl (by rw [hsz]; omega) ((wants rfl hjp hb).trans rfl) ((go_move rfl).trans (by rw [eval_tmp h3])) fun a1 o1 => ?_
      refine call (t := (s + 1)) (v := .bool true) (f := f) (args := #[kv, c]) rfl (by rw [o1.size, hsz]; omega) ((wants rfl hjp ((o1.else_ _ (by omega)).trans hb)).trans rfl) (go_call2 rfl (eval_tmp o1.here) hcf) hc fun a2 o2 => ?_
      refine val (t := (s + 2)) (v := .bool true) rfl (by rw [o2.size, o1.size, hsz]; omega) ((wants rfl hjp ((o2.else_ _ (by omega)).trans ((o1.else_ _ (by omega)).trans hb))).trans rfl) ((go_move rfl).trans (by rw [eval_tmp o2.here])) fun a3 o3 => ?_
      refine no (t := (s + 3)) rfl (by rw [o3.size, o2.size, o1.size, hsz]; omega) ((wants rfl hj3 o3.here).trans rfl) fun a4 o4 => ?_
      refine no (t := (s + 4)) rfl (by rw [o4.size, o3.size, o2.size, o1.size, hsz]; omega) ((wants rfl hj3 ((o4.else_ _ (by omega)).trans o3.here)).trans rfl) fun a5 o5 => ?_
      refine no (t := (s + 5)) rfl (by rw [o5.size, o4.size, o3.size, o2.size, o1.size, hsz]; omega) ((wants rfl hj3 ((o5.else_ _ (by omega)).trans ((o4.else_ _ (by omega)).trans o3.here))).trans rfl) fun a6 o6 => ?_
      refine no (t := (s + 6)) rfl (by rw [o6.size, o5.size, o4.size, o3.size, o2.size, o1.size, hsz]; omega) ((wants rfl hj3 ((o6.else_ _ (by omega)).trans ((o5.else_ _ (by omega)).trans ((o4.else_ _ (by omega)).trans o3.here)))).trans rfl) fun a7 o7 => ?_
      refine val (t := (s + 7)) (v := .bool true) rfl (by rw [o7.size, o6.size, o5.size, o4.size, o3.size, o2.size, o1.size, hsz]; omega) ((wants rfl hjp ((o7.else_ _ (by omega)).trans ((o6.else_ _ (by omega)).trans ((o5.else_ _ (by omega)).trans ((o4.else_ _ (by omega)).trans ((o3.else_ _ (by omega)).trans ((o2.else_ _ (by omega)).trans ((o1.else_ _ (by omega)).trans hb)))))))).trans rfl) ((go_pick rfl (eval_tmp ((o7.else_ _ (by omega)).trans ((o6.else_ _ (by omega)).trans ((o5.else_ _ (by omega)).trans ((o4.else_ _ (by omega)).trans o3.here)))))).trans rfl) fun a8 o8 => ?_
      refine val (t := (s + 8)) (v := .bool true) rfl (by rw [o8.size, o7.size, o6.size, o5.size, o4.size, o3.size, o2.size, o1.size, hsz]; omega) (wants_all rfl) ((go_pick rfl (eval_tmp ((o8.else_ _ (by omega)).trans ((o7.else_ _ (by omega)).trans ((o6.else_ _ (by omega)).trans ((o5.else_ _ (by omega)).trans ((o4.else_ _ (by omega)).trans ((o3.else_ _ (by omega)).trans ((o2.else_ _ (by omega)).trans ((o1.else_ _ (by omega)).trans hb)))))))))).trans (by rw [if_pos rfl, eval_tmp o8.here])) fun a9 o9 => ?_
      refine val (t := (s + 9)) (v := .bool true) rfl (by rw [o9.size, o8.size, o7.size, o6.size, o5.size, o4.size, o3.size, o2.size, o1.size, hsz]; omega) (wants_all rfl) ((go_move rfl).trans (by rw [eval_tmp o9.here])) fun a10 o10 => ?_
      exact h a10 ((o10.defers.trans (o9.defers.trans (o8.defers.trans (o7.defers.trans (o6.defers.trans (o5.defers.trans (o4.defers.trans (o3.defers.trans (o2.defers.trans o1.defers)))))))))) (by rw [o10.size, o9.size, o8.size, o7.size, o6.size, o5.size, o4.size, o3.size, o2.size, o1.size, hsz]) ((o10.else_ _ (by omega)).trans ((o9.else_ _ (by omega)).trans ((o8.else_ _ (by omega)).trans ((o7.else_ _ (by omega)).trans ((o6.else_ _ (by omega)).trans ((o5.else_ _ (by omega)).trans ((o4.else_ _ (by omega)).trans ((o3.else_ _ (by omega)).trans ((o2.else_ _ (by omega)).trans ((o1.else_ _ (by omega)).trans h1)))))))))) ((o10.else_ _ (by omega)).trans ((o9.else_ _ (by omega)).trans ((o8.else_ _ (by omega)).trans ((o7.else_ _ (by omega)).trans ((o6.else_ _ (by omega)).trans ((o5.else_ _ (by omega)).trans ((o4.else_ _ (by omega)).trans ((o3.else_ _ (by omega)).trans ((o2.else_ _ (by omega)).trans ((o1.else_ _ (by omega)).trans h3)))))))))) o10.here
theorem sege {s sp jp n j3 fld B : Nat} {f : FuncId} {c kv z xv lv : Value} {Wc X b : Bool} {tm ty et et2 y1 y2 y3 y4 y5 y10 y6 y7 y8 : TypeId} {p1 p2 p3 p4 p5 p10 p6 p7 p8 : String} {e1 e2 e3 e4 e5 e10 e6 e7 e8 : Array Edge} {at2 at3 : Array TypeId} {na : Addr}
    (hs : 4 ≤ s) (hn : s + 9 ≤ n) (hsz : a.tmps.size = n) (hsp : sp + 1 = s) (hjp : (ops[jp]?).bind (·.dst) = some sp) (hb : a.tmps[sp]? = some (.bool b)) (hj3 : (ops[j3]?).bind (·.dst) = some (s + 2))
    (h1 : a.tmps[1]? = some (.pointer (some ⟨B, 0, none⟩))) (h3 : a.tmps[3]? = some kv)
    (hcf : (callFunc f #[kv, c]).run P w = .ok (.enter f #[kv, c]) w) (hc : Calls P f #[kv, c] w fun e w' => e = .returned (.bool Wc) ∧ w = w')
    (hf : (Instr.fieldAt tm (.pointer (some ⟨B, 0, none⟩)) fld).run P w = .ok (.pointer (some na)) w)
    (hl : (Instr.loadAt ty (.pointer (some na))).run P w = .ok xv w)
    (hln : (execOp (fun _ => xv) { dst := none, op := Op.call { callee := Callee.builtin Builtin.len, args := #[Operand.tmp 0], argTypes := at3 }, type := y10, pos := "", after := #[], guard := none }).run P w = .ok (.value lv) w) (he : (do eqGuard .eql et (.tmp (s + 5)) (.const z) lv z; binOp .eql et lv z : Sem Value).run P w = .ok (.bool X) w)
    (h : ∀ a' : Act, a'.defers = a.defers → a'.tmps.size = n → a'.tmps[1]? = some (.pointer (some ⟨B, 0, none⟩)) → a'.tmps[3]? = some kv → a'.tmps[(s + 8)]? = some (.bool (b && (Wc || X))) → wpList P ops Q rest a' w) :
    wpList P ops Q ({ dst := some s, op := Op.move (Operand.tmp 3), type := y1, pos := p1, after := e1, guard := some (jp, true) } :: { dst := some (s + 1), op := Op.call { callee := Callee.value (Operand.func f), args := #[Operand.tmp s, Operand.const c], argTypes := at2 }, type := y2, pos := p2, after := e2, guard := some (jp, true) } :: { dst := some (s + 2), op := Op.move (Operand.tmp (s + 1)), type := y3, pos := p3, after := e3, guard := some (jp, true) } :: { dst := some (s + 3), op := Op.fieldAddr tm (Operand.tmp 1) fld, type := y4, pos := p4, after := e4, guard := some (j3, false) } :: { dst := some (s + 4), op := Op.load ty (Operand.tmp (s + 3)), type := y5, pos := p5, after := e5, guard := some (j3, false) } :: { dst := some (s + 5), op := Op.call { callee := Callee.builtin Builtin.len, args := #[Operand.tmp (s + 4)], argTypes := at3 }, type := y10, pos := p10, after := e10, guard := some (j3, false) } :: { dst := some (s + 6), op := Op.binOp BinOp.eql et (Operand.tmp (s + 5)) (Operand.const z) et2, type := y6, pos := p6, after := e6, guard := some (j3, false) } :: { dst := some (s + 7), op := Op.pick (Operand.tmp (s + 2)) (Operand.const (Value.bool true)) (Operand.tmp (s + 6)), type := y7, pos := p7, after := e7, guard := some (jp, true) } :: { dst := some (s + 8), op := Op.pick (Operand.tmp sp) (Operand.tmp (s + 7)) (Operand.const (Value.bool false)), type := y8, pos := p8, after := e8, guard := none } :: rest) a w := by
  cases b
  · refine no (t := s) rfl (by rw [hsz]; omega) ((wants rfl hjp hb).trans rfl) fun a1 o1 => ?_
    refine no (t := (s + 1)) rfl (by rw [o1.size, hsz]; omega) ((wants rfl hjp ((o1.else_ _ (by omega)).trans hb)).trans rfl) fun a2 o2 => ?_
    refine no (t := (s + 2)) rfl (by rw [o2.size, o1.size, hsz]; omega) ((wants rfl hjp ((o2.else_ _ (by omega)).trans ((o1.else_ _ (by omega)).trans hb))).trans rfl) fun a3 o3 => ?_
    refine no (t := (s + 3)) rfl (by rw [o3.size, o2.size, o1.size, hsz]; omega) (wants_un rfl hj3 o3.here) fun a4 o4 => ?_
    refine no (t := (s + 4)) rfl (by rw [o4.size, o3.size, o2.size, o1.size, hsz]; omega) (wants_un rfl hj3 ((o4.else_ _ (by omega)).trans o3.here)) fun a5 o5 => ?_
    refine no (t := (s + 5)) rfl (by rw [o5.size, o4.size, o3.size, o2.size, o1.size, hsz]; omega) (wants_un rfl hj3 ((o5.else_ _ (by omega)).trans ((o4.else_ _ (by omega)).trans o3.here))) fun a6 o6 => ?_
    refine no (t := (s + 6)) rfl (by rw [o6.size, o5.size, o4.size, o3.size, o2.size, o1.size, hsz]; omega) (wants_un rfl hj3 ((o6.else_ _ (by omega)).trans ((o5.else_ _ (by omega)).trans ((o4.else_ _ (by omega)).trans o3.here)))) fun a7 o7 => ?_
    refine no (t := (s + 7)) rfl (by rw [o7.size, o6.size, o5.size, o4.size, o3.size, o2.size, o1.size, hsz]; omega) ((wants rfl hjp ((o7.else_ _ (by omega)).trans ((o6.else_ _ (by omega)).trans ((o5.else_ _ (by omega)).trans ((o4.else_ _ (by omega)).trans ((o3.else_ _ (by omega)).trans ((o2.else_ _ (by omega)).trans ((o1.else_ _ (by omega)).trans hb)))))))).trans rfl) fun a8 o8 => ?_
    refine val (t := (s + 8)) (v := .bool false) rfl (by rw [o8.size, o7.size, o6.size, o5.size, o4.size, o3.size, o2.size, o1.size, hsz]; omega) (wants_all rfl) ((go_pick rfl (eval_tmp ((o8.else_ _ (by omega)).trans ((o7.else_ _ (by omega)).trans ((o6.else_ _ (by omega)).trans ((o5.else_ _ (by omega)).trans ((o4.else_ _ (by omega)).trans ((o3.else_ _ (by omega)).trans ((o2.else_ _ (by omega)).trans ((o1.else_ _ (by omega)).trans hb)))))))))).trans rfl) fun a9 o9 => ?_
    exact h a9 ((o9.defers.trans (o8.defers.trans (o7.defers.trans (o6.defers.trans (o5.defers.trans (o4.defers.trans (o3.defers.trans (o2.defers.trans o1.defers))))))))) (by rw [o9.size, o8.size, o7.size, o6.size, o5.size, o4.size, o3.size, o2.size, o1.size, hsz]) ((o9.else_ _ (by omega)).trans ((o8.else_ _ (by omega)).trans ((o7.else_ _ (by omega)).trans ((o6.else_ _ (by omega)).trans ((o5.else_ _ (by omega)).trans ((o4.else_ _ (by omega)).trans ((o3.else_ _ (by omega)).trans ((o2.else_ _ (by omega)).trans ((o1.else_ _ (by omega)).trans h1))))))))) ((o9.else_ _ (by omega)).trans ((o8.else_ _ (by omega)).trans ((o7.else_ _ (by omega)).trans ((o6.else_ _ (by omega)).trans ((o5.else_ _ (by omega)).trans ((o4.else_ _ (by omega)).trans ((o3.else_ _ (by omega)).trans ((o2.else_ _ (by omega)).trans ((o1.else_ _ (by omega)).trans h3))))))))) o9.here
  · cases Wc
    · refine val (t := s) (v := kv) rfl (by rw [hsz]; omega) ((wants rfl hjp hb).trans rfl) ((go_move rfl).trans (by rw [eval_tmp h3])) fun a1 o1 => ?_
      refine call (t := (s + 1)) (v := .bool false) (f := f) (args := #[kv, c]) rfl (by rw [o1.size, hsz]; omega) ((wants rfl hjp ((o1.else_ _ (by omega)).trans hb)).trans rfl) (go_call2 rfl (eval_tmp o1.here) hcf) hc fun a2 o2 => ?_
      refine val (t := (s + 2)) (v := .bool false) rfl (by rw [o2.size, o1.size, hsz]; omega) ((wants rfl hjp ((o2.else_ _ (by omega)).trans ((o1.else_ _ (by omega)).trans hb))).trans rfl) ((go_move rfl).trans (by rw [eval_tmp o2.here])) fun a3 o3 => ?_
      refine val (t := (s + 3)) (v := .pointer (some na)) rfl (by rw [o3.size, o2.size, o1.size, hsz]; omega) ((wants rfl hj3 o3.here).trans rfl) (go_field rfl (by rw [eval_tmp ((o3.else_ _ (by omega)).trans ((o2.else_ _ (by omega)).trans ((o1.else_ _ (by omega)).trans h1)))]; exact hf)) fun a4 o4 => ?_
      refine val (t := (s + 4)) (v := xv) rfl (by rw [o4.size, o3.size, o2.size, o1.size, hsz]; omega) ((wants rfl hj3 ((o4.else_ _ (by omega)).trans o3.here)).trans rfl) (go_load rfl (by rw [eval_tmp o4.here]; exact hl)) fun a5 o5 => ?_
      refine val (t := (s + 5)) (v := lv) rfl (by rw [o5.size, o4.size, o3.size, o2.size, o1.size, hsz]; omega) ((wants rfl hj3 ((o5.else_ _ (by omega)).trans ((o4.else_ _ (by omega)).trans o3.here))).trans rfl) (go_len (eval_tmp o5.here) hln) fun a6 o6 => ?_
      refine val (t := (s + 6)) (v := .bool X) rfl (by rw [o6.size, o5.size, o4.size, o3.size, o2.size, o1.size, hsz]; omega) ((wants rfl hj3 ((o6.else_ _ (by omega)).trans ((o5.else_ _ (by omega)).trans ((o4.else_ _ (by omega)).trans o3.here)))).trans rfl) (go_bin rfl (by rw [eval_tmp o6.here]; exact he)) fun a7 o7 => ?_
      refine val (t := (s + 7)) (v := .bool X) rfl (by rw [o7.size, o6.size, o5.size, o4.size, o3.size, o2.size, o1.size, hsz]; omega) ((wants rfl hjp ((o7.else_ _ (by omega)).trans ((o6.else_ _ (by omega)).trans ((o5.else_ _ (by omega)).trans ((o4.else_ _ (by omega)).trans ((o3.else_ _ (by omega)).trans ((o2.else_ _ (by omega)).trans ((o1.else_ _ (by omega)).trans hb)))))))).trans rfl) ((go_pick rfl (eval_tmp ((o7.else_ _ (by omega)).trans ((o6.else_ _ (by omega)).trans ((o5.else_ _ (by omega)).trans ((o4.else_ _ (by omega)).trans o3.here)))))).trans (by rw [if_neg (by decide), eval_tmp o7.here])) fun a8 o8 => ?_
      refine val (t := (s + 8)) (v := .bool X) rfl (by rw [o8.size, o7.size, o6.size, o5.size, o4.size, o3.size, o2.size, o1.size, hsz]; omega) (wants_all rfl) ((go_pick rfl (eval_tmp ((o8.else_ _ (by omega)).trans ((o7.else_ _ (by omega)).trans ((o6.else_ _ (by omega)).trans ((o5.else_ _ (by omega)).trans ((o4.else_ _ (by omega)).trans ((o3.else_ _ (by omega)).trans ((o2.else_ _ (by omega)).trans ((o1.else_ _ (by omega)).trans hb)))))))))).trans (by rw [if_pos rfl, eval_tmp o8.here])) fun a9 o9 => ?_
      exact h a9 ((o9.defers.trans (o8.defers.trans (o7.defers.trans (o6.defers.trans (o5.defers.trans (o4.defers.trans (o3.defers.trans (o2.defers.trans o1.defers))))))))) (by rw [o9.size, o8.size, o7.size, o6.size, o5.size, o4.size, o3.size, o2.size, o1.size, hsz]) ((o9.else_ _ (by omega)).trans ((o8.else_ _ (by omega)).trans ((o7.else_ _ (by omega)).trans ((o6.else_ _ (by omega)).trans ((o5.else_ _ (by omega)).trans ((o4.else_ _ (by omega)).trans ((o3.else_ _ (by omega)).trans ((o2.else_ _ (by omega)).trans ((o1.else_ _ (by omega)).trans h1))))))))) ((o9.else_ _ (by omega)).trans ((o8.else_ _ (by omega)).trans ((o7.else_ _ (by omega)).trans ((o6.else_ _ (by omega)).trans ((o5.else_ _ (by omega)).trans ((o4.else_ _ (by omega)).trans ((o3.else_ _ (by omega)).trans ((o2.else_ _ (by omega)).trans ((o1.else_ _ (by omega)).trans h3))))))))) o9.here
    · refine val (t := s) (v := kv) rfl (by rw [hsz]; omega) ((wants rfl hjp hb).trans rfl) ((go_move rfl).trans (by rw [eval_tmp h3])) fun a1 o1 => ?_
      refine call (t := (s + 1)) (v := .bool true) (f := f) (args := #[kv, c]) rfl (by rw [o1.size, hsz]; omega) ((wants rfl hjp ((o1.else_ _ (by omega)).trans hb)).trans rfl) (go_call2 rfl (eval_tmp o1.here) hcf) hc fun a2 o2 => ?_
      refine val (t := (s + 2)) (v := .bool true) rfl (by rw [o2.size, o1.size, hsz]; omega) ((wants rfl hjp ((o2.else_ _ (by omega)).trans ((o1.else_ _ (by omega)).trans hb))).trans rfl) ((go_move rfl).trans (by rw [eval_tmp o2.here])) fun a3 o3 => ?_
      refine no (t := (s + 3)) rfl (by rw [o3.size, o2.size, o1.size, hsz]; omega) ((wants rfl hj3 o3.here).trans rfl) fun a4 o4 => ?_
      refine no (t := (s + 4)) rfl (by rw [o4.size, o3.size, o2.size, o1.size, hsz]; omega) ((wants rfl hj3 ((o4.else_ _ (by omega)).trans o3.here)).trans rfl) fun a5 o5 => ?_
      refine no (t := (s + 5)) rfl (by rw [o5.size, o4.size, o3.size, o2.size, o1.size, hsz]; omega) ((wants rfl hj3 ((o5.else_ _ (by omega)).trans ((o4.else_ _ (by omega)).trans o3.here))).trans rfl) fun a6 o6 => ?_
      refine no (t := (s + 6)) rfl (by rw [o6.size, o5.size, o4.size, o3.size, o2.size, o1.size, hsz]; omega) ((wants rfl hj3 ((o6.else_ _ (by omega)).trans ((o5.else_ _ (by omega)).trans ((o4.else_ _ (by omega)).trans o3.here)))).trans rfl) fun a7 o7 => ?_
      refine val (t := (s + 7)) (v := .bool true) rfl (by rw [o7.size, o6.size, o5.size, o4.size, o3.size, o2.size, o1.size, hsz]; omega) ((wants rfl hjp ((o7.else_ _ (by omega)).trans ((o6.else_ _ (by omega)).trans ((o5.else_ _ (by omega)).trans ((o4.else_ _ (by omega)).trans ((o3.else_ _ (by omega)).trans ((o2.else_ _ (by omega)).trans ((o1.else_ _ (by omega)).trans hb)))))))).trans rfl) ((go_pick rfl (eval_tmp ((o7.else_ _ (by omega)).trans ((o6.else_ _ (by omega)).trans ((o5.else_ _ (by omega)).trans ((o4.else_ _ (by omega)).trans o3.here)))))).trans rfl) fun a8 o8 => ?_
      refine val (t := (s + 8)) (v := .bool true) rfl (by rw [o8.size, o7.size, o6.size, o5.size, o4.size, o3.size, o2.size, o1.size, hsz]; omega) (wants_all rfl) ((go_pick rfl (eval_tmp ((o8.else_ _ (by omega)).trans ((o7.else_ _ (by omega)).trans ((o6.else_ _ (by omega)).trans ((o5.else_ _ (by omega)).trans ((o4.else_ _ (by omega)).trans ((o3.else_ _ (by omega)).trans ((o2.else_ _ (by omega)).trans ((o1.else_ _ (by omega)).trans hb)))))))))).trans (by rw [if_pos rfl, eval_tmp o8.here])) fun a9 o9 => ?_
      exact h a9 ((o9.defers.trans (o8.defers.trans (o7.defers.trans (o6.defers.trans (o5.defers.trans (o4.defers.trans (o3.defers.trans (o2.defers.trans o1.defers))))))))) (by rw [o9.size, o8.size, o7.size, o6.size, o5.size, o4.size, o3.size, o2.size, o1.size, hsz]) ((o9.else_ _ (by omega)).trans ((o8.else_ _ (by omega)).trans ((o7.else_ _ (by omega)).trans ((o6.else_ _ (by omega)).trans ((o5.else_ _ (by omega)).trans ((o4.else_ _ (by omega)).trans ((o3.else_ _ (by omega)).trans ((o2.else_ _ (by omega)).trans ((o1.else_ _ (by omega)).trans h1))))))))) ((o9.else_ _ (by omega)).trans ((o8.else_ _ (by omega)).trans ((o7.else_ _ (by omega)).trans ((o6.else_ _ (by omega)).trans ((o5.else_ _ (by omega)).trans ((o4.else_ _ (by omega)).trans ((o3.else_ _ (by omega)).trans ((o2.else_ _ (by omega)).trans ((o1.else_ _ (by omega)).trans h3))))))))) o9.here
end
end Slim
namespace Go.Proofs.Ytgmlbimgcifenaa
open Go.RowKit
theorem draws_below {B : Nat} {a w : World} (h : Below B a w) (n : Nat) : Below B a (w.drewN n) := ⟨h.os, h.tape, h.output, h.size, h.block⟩
theorem one_below (w : World) (o1 : Obj) : Below w.heap.size w (w.alloc o1) := (Below.refl _ _).alloc (Nat.le_refl _) _
theorem two_below' (w : World) (o1 o2 : Obj) : Below w.heap.size w ((w.alloc o1).alloc o2) := ((Below.refl _ _).alloc (Nat.le_refl _) _).alloc (by simp) _
end Go.Proofs.Ytgmlbimgcifenaa
namespace Go.Proofs.Ytgmlbimgcifenaa
open Go.RowKit
theorem add_block (a : Addr) (n : Nat) : (a.add n).block = a.block := by
  by_cases h : n = 0
  · simp [Addr.add, h]
  · simp [Addr.add, h]
theorem add_twice (a : Addr) (i j : Nat) : (a.add i).add j = a.add (i + j) := by
  cases i with
  | zero => simp [Addr.add]
  | succ i =>
    cases j with
    | zero => simp [Addr.add]
    | succ j => simp [Addr.add]; omega
structure Lies (w : World) (B size : Nat) (A : Option Addr) (n : Nat) (xs : List Value) : Prop where
  len : xs.length = n * size
  start : n ≠ 0 → ∃ ad : Addr, A = some ad ∧ ad.block < B
  cell : ∀ ad, A = some ad → n ≠ 0 → ∀ j u, xs[j]? = some u → w.cell? (ad.add j) = some u
section
variable {w w' : World} {B B' size n : Nat} {A : Option Addr} {xs : List Value}
theorem Lies.empty : Lies w B size A 0 [] := ⟨by simp, fun h => absurd rfl h, fun _ _ h => absurd rfl h⟩
theorem Lies.wider (h : Lies w B size A n xs) (hB : B ≤ B') : Lies w B' size A n xs :=
  ⟨h.len, fun hn => let ⟨ad, e, hb⟩ := h.start hn; ⟨ad, e, Nat.lt_of_lt_of_le hb hB⟩, h.cell⟩
theorem Lies.stays (h : Lies w B size A n xs) (hk : ∀ b, b < B → w'.heap[b]? = w.heap[b]?) : Lies w' B size A n xs :=
  ⟨h.len, h.start, fun ad e hn j u hu => by
    obtain ⟨ad', e', hb⟩ := h.start hn
    obtain rfl : ad' = ad := by rw [e] at e'; injection e' with e'; exact e'.symm
    rw [World.cell?_of_block (w := w) (by rw [add_block]; exact hk _ hb)]
    exact h.cell _ e hn j u hu⟩
theorem Lies.below (h : Lies w B size A n xs) (hb : Below B w w') : Lies w' B size A n xs := h.stays hb.block
theorem Lies.owned {base : Nat} {e : TypeId} {c : Nat} (h : w.ownsRow base e size (.slice A n c) n xs) : Lies w w.heap.size size A n xs := by
  have ho := h
  obtain ⟨hl, h' | ⟨g, cap, cur, hv, hb, hg, _⟩⟩ := h
  · obtain ⟨_, rfl⟩ := h'
    exact ⟨hl, fun h => absurd rfl h, fun _ _ h => absurd rfl h⟩
  · have hA : A = some ⟨g, 0, none⟩ := by injection hv
    refine ⟨hl, fun _ => ⟨_, hA, (Array.getElem?_eq_some_iff.1 hg).1⟩, fun ad e _ j u hu => ?_⟩
    rw [hA] at e
    injection e with e
    subst e
    exact ho.cells (by rw [hA]; rfl) j u hu
end
structure Box (w : World) (g : Nat) (t : TypeId) (cs : Array Value) : Prop where
  is : w.heap[g]? = some (.cells cs t (0, 0))
section
variable {w w' : World} {g : Nat} {t : TypeId} {cs : Array Value}
theorem Box.lt (h : Box w g t cs) : g < w.heap.size := (Array.getElem?_eq_some_iff.1 h.is).1
theorem Box.cell (h : Box w g t cs) (i : Nat) : w.cell? ⟨g, i, none⟩ = cs[i]? := cell_of_row w g i cs t (0, 0) h.is
theorem Box.free (h : Box w g t cs) (i : Nat) : w.frozen? ⟨g, i, none⟩ = false := frozen_of_row w g i cs t h.is
theorem Box.made (w : World) (t : TypeId) (cs : Array Value) : Box (w.alloc (.cells cs t)) w.heap.size t cs := ⟨heap_alloc_new w _⟩
theorem Box.made_at {n : Nat} (w : World) (t : TypeId) (cs : Array Value) (h : n = w.heap.size) : Box (w.alloc (.cells cs t)) n t cs := by subst h; exact Box.made w t cs
theorem Box.drew (h : Box w g t cs) : Box w.drew g t cs := ⟨h.is⟩
theorem Box.draws (h : Box w g t cs) (n : Nat) : Box (w.drewN n) g t cs := ⟨h.is⟩
theorem Box.alloc (h : Box w g t cs) (o : Obj) : Box (w.alloc o) g t cs := ⟨(Below.heap_alloc w o g h.lt).trans h.is⟩
theorem Box.put (h : Box w g t cs) (i : Nat) (u : Value) : Box (w.setCell ⟨g, i, none⟩ u) g t (cs.setIfInBounds i u) := ⟨heap_setCell_same w g i cs t u h.is⟩
theorem Box.far (h : Box w g t cs) {p : Addr} (hp : g ≠ p.block) (u : Value) : Box (w.setCell p u) g t cs := ⟨(heap_setCell_other w p g u hp).trans h.is⟩
theorem Box.below {B : Nat} (h : Box w g t cs) (hb : Below B w w') (hg : g < B) : Box w' g t cs := ⟨(hb.block g hg).trans h.is⟩
theorem Box.grown {row : Option Nat} (h : Box w g t cs) (hb : w.grownBy w' row) (hg : row ≠ some g) : Box w' g t cs := ⟨(hb.block g h.lt (fun e => hg e.symm)).trans h.is⟩
theorem Box.apart {g' : Nat} {t' : TypeId} {cs' : Array Value} (h : Box w g t cs) (h' : Box w g' t' cs') (hne : t ≠ t') : g ≠ g' := fun e => by
  have h1 := h.is
  rw [e, h'.is] at h1
  injection h1 with h1
  injection h1 with _ ht _
  exact hne ht.symm
theorem Box.unowned {base : Nat} {e : TypeId} {size n : Nat} {v : Value} {xs : List Value} (h : Box w g t cs) (ho : w.ownsRow base e size v n xs) (hne : e ≠ t) : v.ownBlock ≠ some g := by
  obtain ⟨_, ⟨rfl, _⟩ | ⟨g', cap, cur, rfl, _, hg, _⟩⟩ := ho
  · intro h; cases h
  · intro he
    have e' : g' = g := by injection he
    exact Box.apart ⟨hg⟩ h hne e'
end
theorem append_nothing {P : Program} (w : World) {t ty e : TypeId} {i : TypeInfo} {size base : Nat} (ht : P.underlying t = some (.slice e)) (hi : P.info? e = some i) {v : Value} {n : Nat} {xs : List Value} (ho : w.ownsRow base e size v n xs) (c : Nat) :
    (Builtin.append_ #[t, t] ty #[v, .slice none 0 c]).run P w = .ok v w := by
  obtain ⟨_, ⟨rfl, rfl⟩ | ⟨g, cap, cur, rfl, _, _, hnc, _⟩⟩ := ho
  · simp [Builtin.append_, run_underlying ht, sizeOf, typeInfo, hi, Builtin.lenOf, Builtin.firstCells]
  · simp [Builtin.append_, run_underlying ht, sizeOf, typeInfo, hi, Builtin.lenOf, Builtin.firstCells, hnc, storeCells]
def Appends (P : Program) (e : TypeId) (size bytes : Nat) (ops : Array Oper) (Q : Exit → Act → World → Prop) (rest : List Oper) (dst : Option Tmp) (v q : Value) (a : Act) (w : World) : Prop :=
  ∃ (base n : Nat) (xs : List Value) (A : Option Addr) (m c : Nat) (news : List Value), q = .slice A m c ∧ w.ownsRow base e size v n xs ∧ Lies w w.heap.size size A m news ∧ (∀ u ∈ news, u.oneCell' = true) ∧
    n + m ≤ maxLen ∧ (n + m) * bytes ≤ 140737488355328 ∧ base ≤ w.heap.size ∧
    ∀ A' c' w', w'.ownsRow base e size (.slice A' (n + m) c') (n + m) (xs ++ news) → w.grownBy w' v.ownBlock → wpList P ops Q rest (a.put dst (.slice A' (n + m) c')) w'
theorem Appends.mk {P : Program} {e : TypeId} {size bytes : Nat} {ops : Array Oper} {Q : Exit → Act → World → Prop} {rest : List Oper} {dst : Option Tmp} {v q : Value} {a : Act} {w : World} {base n : Nat} {xs : List Value} {A : Option Addr} {m c : Nat} {news : List Value}
    (hq : q = .slice A m c) (ho : w.ownsRow base e size v n xs) (hl : Lies w w.heap.size size A m news) (h1 : ∀ u ∈ news, u.oneCell' = true) (h63 : n + m ≤ maxLen) (hb : (n + m) * bytes ≤ 140737488355328) (hbase : base ≤ w.heap.size)
    (h : ∀ A' c' w', w'.ownsRow base e size (.slice A' (n + m) c') (n + m) (xs ++ news) → w.grownBy w' v.ownBlock → wpList P ops Q rest (a.put dst (.slice A' (n + m) c')) w') : Appends P e size bytes ops Q rest dst v q a w :=
  ⟨base, n, xs, A, m, c, news, hq, ho, hl, h1, h63, hb, hbase, h⟩
theorem owned_slice {w : World} {base : Nat} {e : TypeId} {size n : Nat} {v : Value} {xs : List Value} (h : w.ownsRow base e size v n xs) : ∃ A c, v = .slice A n c := by
  obtain ⟨_, ⟨rfl, rfl⟩ | ⟨g, cap, cur, rfl, _⟩⟩ := h
  · exact ⟨_, _, rfl⟩
  · exact ⟨_, _, rfl⟩
theorem append_gate {P : Program} {ops : Array Oper} {rest : List Oper} {o : Oper} {a : Act} {w : World} {Q : Exit → Act → World → Prop} {t e : TypeId} {i : TypeInfo} {z : Value} {size bytes : Nat} {x y : Operand}
    (hgd : o.guard = none) (ho : o.op = .call { callee := .builtin .append, args := #[x, y], argTypes := #[t, t] }) (ht : P.underlying t = some (.slice e)) (hi : P.info? e = some i) (hz : i.zero = some z) (hs : i.size = size) (hby : i.bytes = bytes) (hzs : z.cells.size = size) (hsz : 0 < size)
    (h : Appends P e size bytes ops Q rest o.dst (a.eval x) (a.eval y) a w) : wpList P ops Q (o :: rest) a w := by
  obtain ⟨base, n, xs, A, m, c, news, hq, hown, hl, h1, h63, hb47, hbase, h⟩ := h
  have hrun : ∃ v' w', (Builtin.append_ #[t, t] o.type #[a.eval x, .slice A m c]).run P w = .ok v' w' ∧ w'.ownsRow base e size v' (n + m) (xs ++ news) ∧ w.grownBy w' (a.eval x).ownBlock := by
    cases A with
    | none =>
      have hm : m = 0 := by
        by_cases hm : m = 0
        · exact hm
        · obtain ⟨ad, he, _⟩ := hl.start hm
          cases he
      subst hm
      have hn : news = [] := List.eq_nil_of_length_eq_zero (by simpa using hl.len)
      subst hn
      exact ⟨_, w, append_nothing w ht hi hown c, by simpa using hown, World.grownBy.refl w _⟩
    | some ad =>
      have hcells : ∀ j u, news[j]? = some u → w.cell? (ad.add j) = some u := fun j u hu => by
        by_cases hm : m = 0
        · subst hm
          have hn : news = [] := List.eq_nil_of_length_eq_zero (by simpa using hl.len)
          subst hn
          simp at hu
        · exact hl.cell ad rfl hm j u hu
      obtain ⟨v', w', hr, h2, h3, _, _⟩ := run_append_own_at (P := P) w base t o.type e i z size bytes ht hi hz hs hby hzs hsz _ n xs hown ad m c news hl.len hcells h1 h63 hb47 hbase
      exact ⟨v', w', hr, h2, h3⟩
  obtain ⟨v', w', hr, h2, h3⟩ := hrun
  obtain ⟨A', c', rfl⟩ := owned_slice h2
  refine wpList_plain hgd fun _ hK => ?_
  unfold Oper.wp execOp
  simp only [ho, resolve, invoke, builtin, Sem.run_bind, Sem.run_pure, Result.andThen_ok, List.map_toArray, List.map_cons, List.map_nil, hq, hr]
  exact hK _ _ (h A' c' w' h2 h3)
end Go.Proofs.Ytgmlbimgcifenaa
namespace Go.Proofs.Ytgmlbimgcifenaa
open Go.RowKit
section
variable {P : Program} {ops : Array Oper} {rest : List Oper} {o : Oper} {a : Act} {w : World} {Q : Exit → Act → World → Prop}
theorem Box.range {g : Nat} {t : TypeId} {cs : Array Value} (h : Box w g t cs) (o : Nat) (l : List Value) (hl : ∀ j v, l[j]? = some v → cs[o + j]? = some v) : w.rangeAt g o l :=
  fun j v hv => (h.cell _).trans (hl j v hv)
theorem wpList_load_blk (hgd : o.guard = none) {ty : TypeId} {x : Operand} (ho : o.op = .load ty x) {g : Nat} (hx : a.eval x = .pointer (some ⟨g, 0, none⟩)) {t : TypeId} {cs : Array Value} (hg : Box w g t cs)
    {d : TypeDesc} (hu : P.underlying ty = some d) (hd : d.isRow = true) (hi : (P.info? ty).map (·.size) = some cs.size) (h : wpList P ops Q rest (a.put o.dst (.agg cs)) w) : wpList P ops Q (o :: rest) a w :=
  wpList_load_row hgd ty x ho g hx t cs (0, 0) d hg.is hu (by cases d <;> first | rfl | cases hd) hi h
theorem wpList_load_part (hgd : o.guard = none) {ty : TypeId} {x : Operand} (ho : o.op = .load ty x) {g f : Nat} (hx : a.eval x = .pointer (some ⟨g, f, none⟩)) {t : TypeId} {cs : Array Value} (hg : Box w g t cs)
    (l : List Value) (hl : ∀ j v, l[j]? = some v → cs[f + j]? = some v) {d : TypeDesc} (hu : P.underlying ty = some d) (hd : d.isRow = true) (hi : (P.info? ty).map (·.size) = some l.length)
    (h : wpList P ops Q rest (a.put o.dst (.agg l.toArray)) w) : wpList P ops Q (o :: rest) a w :=
  wpList_load_mid hgd ty x ho g f hx l d (hg.range f l hl) hu hd hi h
theorem wpList_load_part_g (hw : Region.wanted o (yielded ops a.tmps) = true) {ty : TypeId} {x : Operand} (ho : o.op = .load ty x) {g f : Nat} (hx : a.eval x = .pointer (some ⟨g, f, none⟩)) {t : TypeId} {cs : Array Value} (hg : Box w g t cs)
    (l : List Value) (hl : ∀ j v, l[j]? = some v → cs[f + j]? = some v) {d : TypeDesc} (hu : P.underlying ty = some d) (hd : d.isRow = true) (hi : (P.info? ty).map (·.size) = some l.length)
    (h : wpList P ops Q rest (a.put o.dst (.agg l.toArray)) w) : wpList P ops Q (o :: rest) a w :=
  wpList_step fun K hK => by
    rw [if_pos hw]
    exact wp_load_mid ty x ho g f hx l d (hg.range f l hl) hu hd hi (hK _ _ h)
theorem wpList_store_new (hgd : o.guard = none) {ty : TypeId} {x y : Operand} (ho : o.op = .store ty x y) {v : World} {g : Nat} (hx : a.eval x = .pointer (some ⟨g, 0, none⟩)) {cs old : Array Value} (hy : a.eval y = .agg cs) {t : TypeId}
    (hv : w = v.alloc (.cells old t)) (hg : g = v.heap.size) (hi : (P.info? ty).map (·.size) = some cs.size) (hold : old.size = cs.size) (h1 : cs.all (·.oneCell') = true)
    (h : wpList P ops Q rest (a.put o.dst undef) (v.alloc (.cells cs t))) : wpList P ops Q (o :: rest) a w := by
  subst hv hg
  refine wpList_store_row hgd ty x y ho v.heap.size cs hx hy t old (heap_alloc_new _ _) hi hold h1 ?_
  rw [World.setRow_alloc_new]
  exact h
theorem wpList_store_blk (hgd : o.guard = none) {ty : TypeId} {x y : Operand} (ho : o.op = .store ty x y) {g : Nat} (hx : a.eval x = .pointer (some ⟨g, 0, none⟩)) {cs old : Array Value} (hy : a.eval y = .agg cs) {t : TypeId}
    (hg : Box w g t old) (hi : (P.info? ty).map (·.size) = some cs.size) (hold : old.size = cs.size) (h1 : cs.all (·.oneCell') = true)
    (h : wpList P ops Q rest (a.put o.dst undef) (w.setRow g cs)) : wpList P ops Q (o :: rest) a w :=
  wpList_store_row hgd ty x y ho g cs hx hy t old hg.is hi hold h1 h
def StoreBlk (P : Program) (ops : Array Oper) (Q : Exit → Act → World → Prop) (rest : List Oper) (dst : Option Tmp) (p v : Value) (t : TypeId) (size : Nat) (a : Act) (w : World) : Prop :=
  ∃ (B : Nat) (cs old : Array Value), p = .pointer (some ⟨B, 0, none⟩) ∧ v = .agg cs ∧ Box w B t old ∧ cs.all (·.oneCell') = true ∧ cs.size = size ∧ old.size = size ∧ wpList P ops Q rest (a.put dst undef) (w.setRow B cs)
theorem StoreBlk.mk {dst : Option Tmp} {p v : Value} {t : TypeId} {size : Nat} {B : Nat} {cs old : Array Value} (hp : p = .pointer (some ⟨B, 0, none⟩)) (hv : v = .agg cs) (hB : Box w B t old) (h1 : cs.all (·.oneCell') = true) (hs : cs.size = size) (ho : old.size = size) (h : wpList P ops Q rest (a.put dst undef) (w.setRow B cs)) : StoreBlk P ops Q rest dst p v t size a w :=
  ⟨B, cs, old, hp, hv, hB, h1, hs, ho, h⟩
theorem blk_gate {t ty : TypeId} {size : Nat} {x y : Operand} (hgd : o.guard = none) (ho : o.op = .store ty x y) (hi : (P.info? ty).map (·.size) = some size) (h : StoreBlk P ops Q rest o.dst (a.eval x) (a.eval y) t size a w) : wpList P ops Q (o :: rest) a w := by
  obtain ⟨B, cs, old, hx, hy, hB, h1, hs, hold, h⟩ := h
  exact wpList_store_blk hgd ho hx hy hB (by rw [hi, hs]) (by rw [hold, hs]) h1 h
theorem wpList_alloc_z (hgd : o.guard = none) {t : TypeId} (ho : o.op = .alloc t) {z : Value} (hz : (P.info? t).map (·.zero) = some (some z)) {cs : Array Value} (hc : z.cells = cs)
    (h : wpList P ops Q rest (a.put o.dst (.pointer (some ⟨w.heap.size, 0, none⟩))) (w.alloc (.cells cs t))) : wpList P ops Q (o :: rest) a w :=
  wpList_plain hgd fun _ hK => by
    have hz' : (zeroValue t).run P w = .ok z w := by
      cases hq : P.info? t with
      | none => simp [hq] at hz
      | some i => simp [hq] at hz; simp [zeroValue, typeInfo, hq, hz]
    subst hc
    unfold Oper.wp execOp
    simp only [ho, Instr.alloc, Sem.run_bind, hz', Result.andThen_ok]
    exact hK _ _ h
theorem wpList_build_is (hgd : o.guard = none) {t : TypeId} {l : List (Nat × Operand)} (ho : o.op = .build t l.toArray) {vs : List (Nat × Value)} (hv : (l.map fun (i, x) => (i, a.eval x)) = vs) {cs : Array Value} (hb : P.built t vs = some cs)
    (h : wpList P ops Q rest (a.put o.dst (.agg cs)) w) : wpList P ops Q (o :: rest) a w := by
  have e : ((l.toArray.map fun (i, x) => (i, a.eval x)).toList) = vs := by rw [← hv]; simp
  exact wpList_build hgd t l.toArray ho (by rw [e, hb]; rfl) (by rw [e, hb]; exact h)
end
section
variable {w : World} {g g' : Nat} {t t' : TypeId} {cs cs' : Array Value}
theorem Box.row (h : Box w g t cs) (cs' : Array Value) : Box (w.setRow g cs') g t cs' := ⟨setRow_heap w g cs cs' t (0, 0) h.is⟩
theorem Box.row_far (h : Box w g t cs) (hne : g ≠ g') (cs' : Array Value) : Box (w.setRow g' cs') g t cs := ⟨(setRow_other w g' g cs' hne).trans h.is⟩
theorem Below.setRow' {B : Nat} {w0 : World} (hb : Below B w0 w) (hB : B ≤ g) (cs : Array Value) : Below B w0 (w.setRow g cs) :=
  ⟨hb.os, hb.tape, hb.output, by rw [setRow_size]; exact hb.size, fun i hi => (setRow_other w g i cs (by omega)).trans (hb.block i hi)⟩
end
end Go.Proofs.Ytgmlbimgcifenaa