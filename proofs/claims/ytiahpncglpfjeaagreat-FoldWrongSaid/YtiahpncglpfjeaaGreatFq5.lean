/-
Several texts in one: Tb Rp Qx Rt Tc Td Tk I4 Ia Ib.
-/
import Derived.Test.YtiahpncglpfjeaaGreatFq4
namespace Go.Proofs.YtiahpncglpfjeaaGreat
open Go.RowKit Go.Shelf
set_option linter.unusedVariables false
attribute [local go_sem] Oper.semAt_some
set_option maxHeartbeats 400000 in
theorem rospeer_any (i : Int) (w : World) :
    Calls Tryz.prog 83 #[.int .i64 i] w fun e w' => e = .returned (.bool (decide (0 ≤ i ∧ i < 12))) ∧ w = w' := by
  go_enter Tryz.func83, Tryz.ntmps83
  go_wp2
  all_goals
    go_ret
    exact ⟨ret_bool (by rw [Bool.eq_iff_iff]; simp; omega), rfl⟩
set_option maxHeartbeats 400000 in
theorem rosslot_any (i : Int) (w : World) :
    Calls Tryz.prog 48 #[.int .i64 i] w fun e w' => e = .returned (.bool (decide (0 ≤ i ∧ i < 8))) ∧ w = w' := by
  go_enter Tryz.func48, Tryz.ntmps48
  go_wp2
  all_goals
    go_ret
    exact ⟨ret_bool (by rw [Bool.eq_iff_iff]; simp; omega), rfl⟩
set_option maxHeartbeats 1000000 in
theorem mayseat_any (p g : Int) (w : World) :
    Calls Tryz.prog 92 #[.agg #[.int .i64 p, .int .i64 g]] w fun e w' => e = .returned (.bool (decide ((0 ≤ g ∧ g ≤ 60000) ∧ (p = -1 ∨ ((0 ≤ p ∧ p < 12) ∧ 0 < g))))) ∧ Below w.heap.size w w' := by
  have c1 := fun X => Lib.hid (rospeer_any p X)
  by_cases hg : g < 0
  · go_enter Tryz.func92, Tryz.ntmps92
    go_wp2
    go_ret
    exact ⟨ret_bool (by (try rw [Bool.eq_iff_iff]) <;> simp <;> omega), one_below _ _⟩
  by_cases hg2 : 60000 < g
  · go_enter Tryz.func92, Tryz.ntmps92
    go_wp2
    go_ret
    exact ⟨ret_bool (by (try rw [Bool.eq_iff_iff]) <;> simp <;> omega), one_below _ _⟩
  by_cases hp : p = -1
  · subst hp
    go_enter Tryz.func92, Tryz.ntmps92
    go_wp2
    go_ret
    exact ⟨ret_bool (by (try rw [Bool.eq_iff_iff]) <;> simp <;> omega), one_below _ _⟩
  have hpb : (p == -1) = false := by simpa using hp
  by_cases hq : 0 ≤ p ∧ p < 12
  · rw [decide_eq_true hq] at c1
    by_cases hg0 : 0 < g
    · go_enter Tryz.func92, Tryz.ntmps92
      go_wp2_with (go_at_call 83; ((with_reducible refine ((c1 _).out).mono ?_); rintro e w1 ⟨rfl, rfl⟩))
      go_ret
      exact ⟨ret_bool (by (try rw [Bool.eq_iff_iff]) <;> simp <;> omega), one_below _ _⟩
    · go_enter Tryz.func92, Tryz.ntmps92
      go_wp2_with (go_at_call 83; ((with_reducible refine ((c1 _).out).mono ?_); rintro e w1 ⟨rfl, rfl⟩))
      go_ret
      exact ⟨ret_bool (by (try rw [Bool.eq_iff_iff]) <;> simp <;> omega), one_below _ _⟩
  · rw [decide_eq_false hq] at c1
    have HQ := Lib.hid hq
    clear hq
    go_enter Tryz.func92, Tryz.ntmps92
    go_wp2_with (go_at_call 83; ((with_reducible refine ((c1 _).out).mono ?_); rintro e w1 ⟨rfl, rfl⟩))
    go_ret
    have hq := HQ.out
    exact ⟨ret_bool (by (try rw [Bool.eq_iff_iff]) <;> simp <;> omega), one_below _ _⟩

/-- The seats' going over is made. -/
theorem seats_any (B : Nat) (w : World) :
    Calls Tryz.prog 55 #[.pointer (some ⟨B, 0, none⟩)] w fun e w' => e = .returned (.func (.func 93) #[] #[.pointer (some ⟨w.heap.size, 0, none⟩)]) ∧ w' = w.alloc (.cells #[.pointer (some ⟨B, 0, none⟩)] 95) := by
  have hmf : ∀ (fn : Fn) (first cap : Array Value) (w : World), (Instr.makeFunc fn first cap).run Tryz.prog w = .ok (.func fn first cap) w := fun _ _ _ _ => rfl
  go_enter Tryz.func55, Tryz.ntmps55
  go_wp2
  go_ret
  exact ⟨rfl, rfl⟩

abbrev seatEnc (B : Nat) (x : Ros.Sl) : Array Value := #[.int .i64 x.1, .pointer (some ⟨B, 1 + x.1 * 2, none⟩)]
/-- What the going over reads between two rounds: where the roster lies. -/
def Sitting (B Bg : Nat) (W : World) : Prop := W.cell? ⟨Bg, 0, none⟩ = some (.pointer (some ⟨B, 0, none⟩))
theorem Sitting.below {B Bg : Nat} {w W : World} (h : Sitting B Bg w) (hb : Below w.heap.size w W) : Sitting B Bg W :=
  (World.cell?_of_block (hb.block _ (World.block_lt_of_cell? w _ h))).trans h
def SitKp (B Bg : Nat) (W W' : World) : Prop := Sitting B Bg W → Sitting B Bg W'
theorem sitkp_t {B Bg : Nat} {X Y Z : World} (h : SitKp B Bg X Y) (k : SitKp B Bg Y Z) : SitKp B Bg X Z := fun hx => k (h hx)
theorem sitkp_b {B Bg : Nat} {n : Nat} (W : World) (l : Nat) (o o' : Obj) (_ : n ≤ l) (h : W.heap[l]? = some o) (hc : o.isCells = false) (_ : o.isWalk = false) : SitKp B Bg W (W.putObj l o') := fun hf =>
  cell_kept hf (grownBy_putObj' W l o') (fun r e => by cases e; exact ⟨_, h, hc⟩)

set_option maxRecDepth 100000 in
set_option maxHeartbeats 4000000 in
theorem seats1_in (B Bg : Nat) (n l : Nat) (J Jx : List Ros.Sl → World → Prop)
    (hY : ∀ pre x W, J pre W → pre.length < 8 → YieldAt Fence.wide (n - 1) Tryz.prog l (seatEnc B x) W fun e W' =>
      (e = .returned (.bool true) ∧ J (pre ++ [x]) W' ∧ SitKp B Bg W W') ∨ (e = .returned (.bool false) ∧ Jx (pre ++ [x]) W'))
    (W : World) (hF : Sitting B Bg W) (h0 : J [] W) :
    CallsIn Fence.wide n Tryz.prog 93 #[.func (.yield l) #[] #[], .pointer (some ⟨Bg, 0, none⟩)] W fun e W' => (∃ v, e = .returned v) ∧
      ((∃ ys, ys = Ros.all8 ∧ J ys W') ∨ (∃ pre, (∃ rest, Ros.all8 = pre ++ rest) ∧ Jx pre W')) := by
  refine callsIn_of_wp Tryz.func93 rfl trivial ?_ rfl
  simp only [Tryz.ntmps93, List.size_toArray, List.length_cons, List.length_nil, Nat.reduceAdd, Nat.reduceSub, Array.replicate_succ, Array.replicate_zero, List.push_toArray, List.append_toArray, List.nil_append, List.cons_append]
  gi_wp2
  gi_loopw [4] (fun p wr => ∃ (i : Nat) (pre : List Ros.Sl), i ≤ 8 ∧ p = .int .i64 i ∧ Ros.all8 = pre ++ Ros.slots (8 - i) i ∧ Sitting B Bg wr ∧ J pre wr)
    (fun p _ => 8 - (intOf p).toNat)
  case atStart =>
    exact ⟨0, [], by omega, rfl, rfl, hF, h0⟩
  case round =>
    obtain ⟨i, pre, hi, rfl, hx, hf, hJs⟩ := hrel
    by_cases hlt : i < 8
    · have hi8 : (i : Int) < 8 := by omega
      have f0 : wr.cell? ⟨Bg, 0, none⟩ = some (.pointer (some ⟨B, 0, none⟩)) := hf
      rw [show 8 - i = (8 - (i + 1)) + 1 by omega, Ros.slots_yes hlt] at hx
      have hlen : pre.length < 8 := by
        have := Ros.slots_len 8 0; rw [show Ros.slots 8 0 = Ros.all8 from rfl, hx] at this; simp at this; omega
      obtain ⟨fn, tmps, assign, body, hy, hR⟩ := hY pre ⟨i, hlt⟩ wr hJs hlen
      dsimp only [seatEnc] at hy
      have HX := Lib.hid hx
      have HF := Lib.hid hf
      clear hx hf hJs hY
      gi_wp2
      refine ⟨fun h => (by cases h), hR.mono ?_⟩
      rintro e W3 (⟨rfl, hJ3, hk3⟩ | ⟨rfl, hJx3⟩)
      · gi_wp2
        go_roundw
        case rel => exact ⟨i + 1, pre ++ [⟨i, hlt⟩], by omega, by go_num, by rw [HX.out]; simp, hk3 HF.out, hJ3⟩
        case measure => simp [intOf]; omega
      · gi_wp2
        refine bodyPost_ret (results_none rfl _ _ _) rfl ?_
        exact ⟨⟨_, rfl⟩, .inr ⟨pre ++ [⟨i, hlt⟩], ⟨Ros.slots (8 - (i + 1)) (i + 1), by rw [HX.out]; simp⟩, hJx3⟩⟩
    · have hi8 : ¬ (i : Int) < 8 := by omega
      have hie : i = 8 := by omega
      subst hie
      have HX := Lib.hid (show Ros.all8 = pre by rw [hx]; simp [Ros.slots])
      clear hx
      gi_wp2
      go_end0
      have e := HX.out
      first
        | exact ⟨⟨_, rfl⟩, .inl ⟨pre, e.symm, hJs⟩⟩
        | exact ⟨⟨_, rfl⟩, .inl (by rw [e]; exact hJs)⟩

theorem seats1_stops (B Bg : Nat) (n : Nat) (w : World) (hF : Sitting B Bg w) :
    SeqStopsK Fence.wide n Tryz.prog 93 #[.pointer (some ⟨Bg, 0, none⟩)] (seatEnc B) (SitKp B Bg) (fun xs => xs = Ros.all8) (fun pre => ∃ rest, Ros.all8 = pre ++ rest) 8 w :=
  fun l J Jx W hW _ _ hY h0 => seats1_in B Bg n l J Jx hY W (hF.below hW) h0
end Go.Proofs.YtiahpncglpfjeaaGreat
namespace Rp
open Go

def isHard (o : Oper) : Bool := match o.op with | .store .. => true | _ => false
def isMake (o : Oper) : Bool := match o.op with | .buildSlice .. | .alloc .. => true | .call c => (match c.callee with | .builtin .append | .value _ => true | _ => false) | _ => false
def isStore (o : Oper) : Bool := isHard o || isMake o
/-- The world is looked at, and left as it is. -/
def isLook (o : Oper) : Bool := match o.op with | .load .. | .nilCheck .. => true | _ => false
/-- Nothing of the world is asked. -/
def isFree (o : Oper) : Bool := match o.op with | .fieldAddr .. | .indexAddr .. | .move .. | .assign .. | .pick .. | .extract .. | .binOp .. | .unOp .. | .build .. | .convert .. => true | _ => false

theorem store_free {o : Oper} (h : isStore o = true) : isFree o = false := by
  unfold isStore isHard isMake at h
  unfold isFree
  generalize o.op = x at h ⊢
  cases x <;> first | rfl | (exact absurd h (by decide)) | (simp at h)
theorem store_look {o : Oper} (h : isStore o = true) : isLook o = false := by
  unfold isStore isHard isMake at h
  unfold isLook
  generalize o.op = x at h ⊢
  cases x <;> first | rfl | (exact absurd h (by decide)) | (simp at h)

/-- What an operation leaves: the value v, a world of C. -/
def Gives (P : Program) (o : Oper) (a : Act) (w : World) (v : Value) (C : World → Prop) : Prop :=
  match (execOp a.eval o).run P w with
  | .ok (.value u) w1 => u = v ∧ C w1
  | .ok .skip w1 => undef = v ∧ C w1
  | .ok (.enter f args) w1 => Calls P f args w1 fun e w2 => e = .returned v ∧ C w2
  | _ => False

theorem Gives.wp {P : Program} {o : Oper} {a : Act} {w : World} {v : Value} {C : World → Prop} {K : Act → World → Prop} {Q : Exit → Act → World → Prop} (h : Gives P o a w v C) (hK : ∀ w', C w' → K (a.put o.dst v) w') : o.wp P a w K Q := by
  unfold Gives at h
  unfold Oper.wp
  generalize (execOp a.eval o).run P w = r at *
  cases r with
  | ok n w1 =>
    cases n <;> simp only [Oper.upon] at h ⊢
    case value u => obtain ⟨rfl, h⟩ := h; exact hK _ h
    case skip => obtain ⟨rfl, h⟩ := h; exact hK _ h
    case enter f args =>
      exact h.mono fun e w2 ⟨he, hw⟩ => by subst he; exact hK _ hw
  | halt x w1 => cases h
theorem Gives.congr {P : Program} {o : Oper} {a a' : Act} {w : World} {v : Value} {C : World → Prop} (h : Gives P o a w v C) (he : execOp a'.eval o = execOp a.eval o) : Gives P o a' w v C := by
  unfold Gives at *; rw [he]; exact h

/-- The walk in the order of the text: C is what is known of the world, D what is known of it till the next store, E what is known all the time; n is how many have been; the looks of st ask E alone. -/
def wpLex (P : Program) (st : List Nat) (E : World → Prop) (Q : Act → (World → Prop) → Prop) : List Oper → Nat → Act → (World → Prop) → (World → Prop) → Prop
  | [], _, a, C, _ => Q a C
  | o :: rest, n, a, C, D =>
    if isStore o then ∃ v C' D', (∀ w, C w → Gives P o a w v C') ∧ (isHard o = false → D' = D) ∧ (∀ w, C' w → D' w ∧ E w) ∧ wpLex P st E Q rest (n + 1) (a.put o.dst v) C' D'
    else if isFree o then ∃ v, (∀ w, Gives P o a w v (fun w' => w' = w)) ∧ wpLex P st E Q rest (n + 1) (a.put o.dst v) C D
    else if isLook o then ∃ v, (∀ w, (if st.contains n then E w else D w) → Gives P o a w v (fun w' => w' = w)) ∧ wpLex P st E Q rest (n + 1) (a.put o.dst v) C D
    else ∃ v, (∀ w, C w → Gives P o a w v C) ∧ wpLex P st E Q rest (n + 1) (a.put o.dst v) C D

/-- A run in the order of the text, written out. -/
structure Run (P : Program) (st : Nat → Bool) (E : World → Prop) (l : List Oper) (A : Nat → Act) (C D : Nat → World → Prop) (v : Nat → Value) : Prop where
  act : ∀ i o, l[i]? = some o → A (i + 1) = (A i).put o.dst (v i)
  store : ∀ i o, l[i]? = some o → isStore o = true → ∀ w, C i w → Gives P o (A i) w (v i) (C (i + 1))
  free : ∀ i o, l[i]? = some o → isStore o = false → isFree o = true → C (i + 1) = C i ∧ ∀ w, Gives P o (A i) w (v i) (fun w' => w' = w)
  look : ∀ i o, l[i]? = some o → isStore o = false → isFree o = false → isLook o = true → C (i + 1) = C i ∧ ∀ w, (if st i then E w else D i w) → Gives P o (A i) w (v i) (fun w' => w' = w)
  read : ∀ i o, l[i]? = some o → isStore o = false → isFree o = false → isLook o = false → C (i + 1) = C i ∧ ∀ w, C i w → Gives P o (A i) w (v i) (C i)
  soft : ∀ i o, l[i]? = some o → isHard o = false → D (i + 1) = D i
  held : ∀ i, i ≤ l.length → ∀ w, C i w → D i w ∧ E w

def consF {α : Type} (x : α) (f : Nat → α) : Nat → α
  | 0 => x
  | i + 1 => f i
theorem Run.cons {P : Program} {st : Nat → Bool} {E : World → Prop} {l : List Oper} {o : Oper} {a : Act} {C D C1 D1 : World → Prop} {u : Value} {A : Nat → Act} {Cs Ds : Nat → World → Prop} {v : Nat → Value} (hr : Run P (fun i => st (i + 1)) E l A Cs Ds v) (hA : A 0 = a.put o.dst u) (hC : Cs 0 = C1) (hD : Ds 0 = D1) (hCD : ∀ w, C w → D w ∧ E w)
    (h1 : isStore o = true → ∀ w, C w → Gives P o a w u C1) (h2 : isStore o = false → isFree o = true → C1 = C ∧ ∀ w, Gives P o a w u (fun w' => w' = w)) (h3 : isStore o = false → isFree o = false → isLook o = true → C1 = C ∧ ∀ w, (if st 0 then E w else D w) → Gives P o a w u (fun w' => w' = w))
    (h4 : isStore o = false → isFree o = false → isLook o = false → C1 = C ∧ ∀ w, C w → Gives P o a w u C) (h5 : isHard o = false → D1 = D) : Run P st E (o :: l) (consF a A) (consF C Cs) (consF D Ds) (consF u v) := by
  refine ⟨?_, ?_, ?_, ?_, ?_, ?_, ?_⟩
  · intro i o' ho'
    cases i with
    | zero => simp at ho'; subst ho'; exact hA
    | succ i => exact hr.act i o' (by simpa using ho')
  · intro i o' ho'
    cases i with
    | zero => simp at ho'; subst ho'; intro hs w hw; show Gives P o a w u (Cs 0); rw [hC]; exact h1 hs w hw
    | succ i => exact hr.store i o' (by simpa using ho')
  · intro i o' ho'
    cases i with
    | zero => simp at ho'; subst ho'; intro hs hf; exact ⟨hC.trans (h2 hs hf).1, (h2 hs hf).2⟩
    | succ i => exact hr.free i o' (by simpa using ho')
  · intro i o' ho'
    cases i with
    | zero => simp at ho'; subst ho'; intro hs hf hl; exact ⟨hC.trans (h3 hs hf hl).1, (h3 hs hf hl).2⟩
    | succ i => exact hr.look i o' (by simpa using ho')
  · intro i o' ho'
    cases i with
    | zero => simp at ho'; subst ho'; intro hs hf hl; exact ⟨hC.trans (h4 hs hf hl).1, (h4 hs hf hl).2⟩
    | succ i => exact hr.read i o' (by simpa using ho')
  · intro i o' ho'
    cases i with
    | zero => simp at ho'; subst ho'; intro hh; exact hD.trans (h5 hh)
    | succ i => exact hr.soft i o' (by simpa using ho')
  · intro i hi
    cases i with
    | zero => exact hCD
    | succ i => exact hr.held i (by simpa using hi)
theorem run_of_lex {P : Program} {st : List Nat} {E : World → Prop} {Q : Act → (World → Prop) → Prop} : ∀ (l : List Oper) (n : Nat) (a : Act) (C D : World → Prop), (∀ w, C w → D w ∧ E w) → wpLex P st E Q l n a C D →
    ∃ A Cs Ds v, Run P (fun i => st.contains (n + i)) E l A Cs Ds v ∧ A 0 = a ∧ Cs 0 = C ∧ Ds 0 = D ∧ Q (A l.length) (Cs l.length)
  | [], n, a, C, D, hCD, h => ⟨fun _ => a, fun _ => C, fun _ => D, fun _ => undef, ⟨fun i o h => by simp at h, fun i o h => by simp at h, fun i o h => by simp at h, fun i o h => by simp at h, fun i o h => by simp at h, fun i o h => by simp at h, fun i _ w hw => hCD w hw⟩, rfl, rfl, rfl, h⟩
  | o :: l, n, a, C, D, hCD, h => by
    unfold wpLex at h
    have shift : (fun i => st.contains (n + 1 + i)) = fun i => (fun j => st.contains (n + j)) (i + 1) := funext fun i => by
      show st.contains (n + 1 + i) = st.contains (n + (i + 1)); rw [show n + 1 + i = n + (i + 1) by omega]
    by_cases hs : isStore o = true
    · rw [if_pos hs] at h
      obtain ⟨u, C', D', h1, hd, hcd, h2⟩ := h
      obtain ⟨A, Cs, Ds, v, hr, hA, hC, hD, hQ⟩ := run_of_lex l (n + 1) _ C' D' hcd h2
      rw [shift] at hr
      exact ⟨_, _, _, _, Run.cons (st := fun j => st.contains (n + j)) hr hA hC hD hCD (fun _ => h1) (fun e => by rw [hs] at e; cases e) (fun e => by rw [hs] at e; cases e) (fun e => by rw [hs] at e; cases e) hd, rfl, rfl, rfl, hQ⟩
    · have hs0 : isStore o = false := by simpa using hs
      have hh0 : isHard o = false := by simp [isStore] at hs0; exact hs0.1
      rw [if_neg hs] at h
      by_cases hf : isFree o = true
      · rw [if_pos hf] at h
        obtain ⟨u, h1, h2⟩ := h
        obtain ⟨A, Cs, Ds, v, hr, hA, hC, hD, hQ⟩ := run_of_lex l (n + 1) _ C D hCD h2
        rw [shift] at hr
        exact ⟨_, _, _, _, Run.cons (st := fun j => st.contains (n + j)) hr hA hC hD hCD (fun e => absurd e hs) (fun _ _ => ⟨rfl, h1⟩) (fun _ e => by rw [hf] at e; cases e) (fun _ e => by rw [hf] at e; cases e) (fun _ => rfl), rfl, rfl, rfl, hQ⟩
      · rw [if_neg hf] at h
        by_cases hl : isLook o = true
        · rw [if_pos hl] at h
          obtain ⟨u, h1, h2⟩ := h
          obtain ⟨A, Cs, Ds, v, hr, hA, hC, hD, hQ⟩ := run_of_lex l (n + 1) _ C D hCD h2
          rw [shift] at hr
          exact ⟨_, _, _, _, Run.cons (st := fun j => st.contains (n + j)) hr hA hC hD hCD (fun e => absurd e hs) (fun _ e => absurd e hf) (fun _ _ _ => ⟨rfl, h1⟩) (fun _ _ e => by rw [hl] at e; cases e) (fun _ => rfl), rfl, rfl, rfl, hQ⟩
        · rw [if_neg hl] at h
          obtain ⟨u, h1, h2⟩ := h
          obtain ⟨A, Cs, Ds, v, hr, hA, hC, hD, hQ⟩ := run_of_lex l (n + 1) _ C D hCD h2
          rw [shift] at hr
          exact ⟨_, _, _, _, Run.cons (st := fun j => st.contains (n + j)) hr hA hC hD hCD (fun e => absurd e hs) (fun _ e => absurd e hf) (fun _ _ e => absurd e hl) (fun _ _ _ => ⟨rfl, h1⟩) (fun _ => rfl), rfl, rfl, rfl, hQ⟩

section
variable {l : List Oper} {v : Nat → Value} {a0 : Act}
structure Shape (l : List Oper) (v : Nat → Value) (a0 : Act) (S : Nat → Bool) (a : Act) : Prop where
  size : a.tmps.size = a0.tmps.size
  defers : a.defers = a0.defers
  done : ∀ j o t, l[j]? = some o → o.dst = some t → S j = true → a.tmps[t]? = if t < a0.tmps.size then some (v j) else none
  rest : ∀ t, (∀ j o, l[j]? = some o → o.dst = some t → S j = false) → a.tmps[t]? = a0.tmps[t]?

def Distinct (l : List Oper) : Prop := ∀ (i j : Nat) (oi oj : Oper) (t : Tmp), l[i]? = some oi → l[j]? = some oj → oi.dst = some t → oj.dst = some t → i = j

theorem Shape.start : Shape l v a0 (fun _ => false) a0 := ⟨rfl, rfl, fun _ _ _ _ _ h => (by cases h), fun _ _ => rfl⟩
theorem Shape.put {S : Nat → Bool} {a : Act} (hd : Distinct l) (h : Shape l v a0 S a) {i : Nat} {o : Oper} (ho : l[i]? = some o) : Shape l v a0 (fun j => S j || j == i) (a.put o.dst (v i)) := by
  cases hdst : o.dst with
  | none =>
    refine ⟨h.size, h.defers, fun j oj t hj ht hS => ?_, fun t ht => ?_⟩
    · simp only [Bool.or_eq_true, beq_iff_eq] at hS
      rcases hS with hS | rfl
      · exact h.done j oj t hj ht hS
      · rw [ho] at hj; injection hj with hj; subst hj; rw [hdst] at ht; cases ht
    · exact h.rest t fun j oj hj ht' => by have := ht j oj hj ht'; simp at this; exact this.1
  | some d =>
    refine ⟨by simp [Act.put, h.size], h.defers, fun j oj t hj ht hS => ?_, fun t ht => ?_⟩
    · simp only [Act.put, Array.getElem?_setIfInBounds]
      by_cases htd : d = t
      · subst htd
        have : j = i := hd j i oj o d hj ho ht hdst
        subst this
        rw [if_pos rfl, h.size]
      · rw [if_neg htd]
        simp only [Bool.or_eq_true, beq_iff_eq] at hS
        rcases hS with hS | rfl
        · exact h.done j oj t hj ht hS
        · rw [ho] at hj; injection hj with hj; subst hj; rw [hdst] at ht; injection ht with ht; exact absurd ht htd
    · have hne : d ≠ t := fun e => by subst e; have := ht i o ho hdst; simp at this
      simp only [Act.put, Array.getElem?_setIfInBounds, if_neg hne]
      exact h.rest t fun j oj hj ht' => by have := ht j oj hj ht'; simp at this; exact this.1
theorem Shape.same {S S' : Nat → Bool} {a a' : Act} (h : Shape l v a0 S a) (h' : Shape l v a0 S' a') {t : Nat} (hS : ∀ j o, l[j]? = some o → o.dst = some t → S j = S' j) : a.tmps[t]? = a'.tmps[t]? := by
  by_cases hx : ∃ j o, l[j]? = some o ∧ o.dst = some t ∧ S j = true
  · obtain ⟨j, o, hj, ht, hs⟩ := hx
    rw [h.done j o t hj ht hs, h'.done j o t hj ht (by rw [← hS j o hj ht]; exact hs)]
  · have hn : ∀ j o, l[j]? = some o → o.dst = some t → S j = false := fun j o hj ht => by
      cases hs : S j
      · rfl
      · exact absurd ⟨j, o, hj, ht, hs⟩ hx
    rw [h.rest t hn, h'.rest t fun j o hj ht => by rw [← hS j o hj ht]; exact hn j o hj ht]
theorem Shape.ext {S S' : Nat → Bool} {a a' : Act} (h : Shape l v a0 S a) (h' : Shape l v a0 S' a') (hS : ∀ j o, l[j]? = some o → S j = S' j) : a = a' := by
  have ht : a.tmps = a'.tmps := Array.ext_getElem? fun t => h.same h' fun j o hj _ => hS j o hj
  have hd : a.defers = a'.defers := h.defers.trans h'.defers.symm
  cases a; cases a'; simp_all
theorem Shape.congr {S S' : Nat → Bool} {a : Act} (h : Shape l v a0 S a) (hS : ∀ j o, l[j]? = some o → S j = S' j) : Shape l v a0 S' a :=
  ⟨h.size, h.defers, fun j o t hj ht hs => h.done j o t hj ht (by rw [hS j o hj]; exact hs), fun t ht => h.rest t fun j o hj hd => by rw [hS j o hj]; exact ht j o hj hd⟩
theorem Run.shape {P : Program} {st : Nat → Bool} {E : World → Prop} {A : Nat → Act} {C D : Nat → World → Prop} (hr : Run P st E l A C D v) (hd : Distinct l) : ∀ k, k ≤ l.length → Shape l v (A 0) (fun j => decide (j < k)) (A k)
  | 0, _ => Shape.start.congr fun j o _ => by simp
  | k + 1, hk => by
    have ho : l[k]? = some (l[k]'(by omega)) := List.getElem?_eq_getElem (by omega)
    rw [hr.act k _ ho]
    refine ((Run.shape hr hd k (by omega)).put hd ho).congr fun j o _ => ?_
    rw [Bool.eq_iff_iff]; simp; omega
end

/-- Does i wait for j? As the table says. -/
def tb (b : Array Nat) (i j : Nat) : Bool := (b.getD i 0).testBit j
def pairB (st : List Nat) (l : List Oper) (b : Array Nat) (i j : Nat) : Bool :=
  match l[i]?, l[j]? with
  | some oi, some oj =>
    (!(tb b i j) || oi.after.any fun e => Region.binds .any e && (e.on == j || tb b e.on j)) &&
    (i == j || ((match oi.dst, oj.dst with | some d, some d' => d != d' | _, _ => true) &&
      (match oj.dst with | some d => !(oi.looksAt l.toArray).contains d || (if j < i then tb b i j else tb b j i) | none => true) &&
      (!isStore oj || isFree oi || (isLook oi && (!isHard oj || st.contains i)) || (if j < i then tb b i j else tb b j i))))
  | _, _ => true
def oneB (l : List Oper) (i : Nat) : Bool :=
  match l[i]? with
  | some o => o.guard.isNone && !(isStore o && isFree o) && o.after.all fun e => !Region.binds .any e || decide (e.on < i)
  | none => true
def okB (st : List Nat) (l : List Oper) : Bool :=
  Region.noSelect l.toArray && ((List.range l.length).all fun i => oneB l i && (List.range l.length).all fun j => pairB st l (Region.before l.toArray) i j)

structure Ok (st : List Nat) (l : List Oper) (cl : Nat → Nat → Bool) : Prop where
  sel : Region.noSelect l.toArray = true
  guard : ∀ (i : Nat) (o : Oper), l[i]? = some o → o.guard = none
  down : ∀ (i : Nat) (o : Oper), l[i]? = some o → ∀ e ∈ o.after, Region.binds .any e = true → e.on < i
  cert : ∀ (i j : Nat) (o oj : Oper), l[i]? = some o → l[j]? = some oj → cl i j = true → ∃ e ∈ o.after, Region.binds .any e = true ∧ (e.on = j ∨ cl e.on j = true)
  dist : Distinct l
  looks : ∀ (i j : Nat) (oi oj : Oper) (t : Tmp), l[i]? = some oi → l[j]? = some oj → i ≠ j → oj.dst = some t → t ∈ oi.looksAt l.toArray → (if j < i then cl i j else cl j i) = true
  store : ∀ (i j : Nat) (oi oj : Oper), l[i]? = some oi → l[j]? = some oj → i ≠ j → isStore oj = true → isFree oi = false → (isLook oi && (!isHard oj || st.contains i)) = false → (if j < i then cl i j else cl j i) = true
theorem Ok.of (st : List Nat) (l : List Oper) (h : okB st l = true) : Ok st l (tb (Region.before l.toArray)) := by
  simp only [okB, Bool.and_eq_true] at h
  obtain ⟨h0, h⟩ := h
  have h1 : ∀ i o, l[i]? = some o → oneB l i = true ∧ ∀ j oj, l[j]? = some oj → pairB st l (Region.before l.toArray) i j = true := fun i o ho => by
    have hi : i < l.length := (List.getElem?_eq_some_iff.1 ho).1
    have := List.all_eq_true.1 h i (List.mem_range.2 hi)
    simp only [Bool.and_eq_true] at this
    exact ⟨this.1, fun j oj hj => List.all_eq_true.1 this.2 j (List.mem_range.2 (List.getElem?_eq_some_iff.1 hj).1)⟩
  have one : ∀ i o, l[i]? = some o → (o.guard.isNone = true ∧ (!(isStore o && isFree o)) = true) ∧ (o.after.all fun e => !Region.binds .any e || decide (e.on < i)) = true := fun i o ho => by
    have := (h1 i o ho).1
    simp only [oneB, ho, Bool.and_eq_true] at this
    exact this
  have two : ∀ i j oi oj, l[i]? = some oi → l[j]? = some oj →
      (!(tb (Region.before l.toArray) i j) || oi.after.any fun e => Region.binds .any e && (e.on == j || tb (Region.before l.toArray) e.on j)) = true ∧
      (i == j || ((match oi.dst, oj.dst with | some d, some d' => d != d' | _, _ => true) &&
      (match oj.dst with | some d => !(oi.looksAt l.toArray).contains d || (if j < i then tb (Region.before l.toArray) i j else tb (Region.before l.toArray) j i) | none => true) &&
      (!isStore oj || isFree oi || (isLook oi && (!isHard oj || st.contains i)) || (if j < i then tb (Region.before l.toArray) i j else tb (Region.before l.toArray) j i)))) = true := fun i j oi oj hi hj => by
    have := (h1 i oi hi).2 j oj hj
    simp only [pairB, hi, hj, Bool.and_eq_true] at this
    exact this
  refine ⟨h0, fun i o ho => by simpa using (one i o ho).1.1, fun i o ho e he hb => ?_, fun i j o oj hi hj hc => ?_, fun i j oi oj t hi hj hdi hdj => ?_, fun i j oi oj t hi hj hne hdj ht => ?_, fun i j oi oj hi hj hne hs hf hlk => ?_⟩
  · have := (Array.all_eq_true_iff_forall_mem.1 (one i o ho).2) e he
    simpa [hb] using this
  · have := (two i j o oj hi hj).1
    rw [hc] at this
    simp at this
    obtain ⟨k, hk, h1, h2⟩ := this
    exact ⟨o.after[k], Array.getElem_mem hk, h1, h2⟩
  · by_cases hij : i = j
    · exact hij
    · have := (two i j oi oj hi hj).2
      simp [hij, hdi, hdj] at this
  · have := (two i j oi oj hi hj).2
    simp only [Bool.or_eq_true, beq_iff_eq, Bool.and_eq_true, hne, false_or, hdj] at this
    have h2 := this.1.2
    rcases h2 with h2 | h2
    · simp at h2; exact absurd ht h2
    · exact h2
  · have := (two i j oi oj hi hj).2
    simp only [Bool.or_eq_true, beq_iff_eq, Bool.and_eq_true, hne, false_or] at this
    rcases this.2 with ((h2 | h2) | h2) | h2
    · simp [hs] at h2
    · rw [hf] at h2; cases h2
    · simp only [h2.1, Bool.true_and] at hlk; have h3' := h2.2; simp only [Bool.or_eq_false_iff] at hlk; rcases h3' with h3 | h3
      · rw [hlk.1] at h3; cases h3
      · rw [hlk.2] at h3; cases h3
    · exact h2

/-- How many have not been. -/
def unl (f : Nat → Bool) : Nat → Nat
  | 0 => 0
  | k + 1 => unl f k + (if f k then 0 else 1)
theorem unl_le (f : Nat → Bool) : ∀ n, unl f n ≤ n
  | 0 => Nat.le_refl _
  | n + 1 => by have := unl_le f n; unfold unl; split <;> omega
theorem unl_zero {f : Nat → Bool} : ∀ {n}, unl f n = 0 → ∀ i, i < n → f i = true
  | 0, _, i, h => absurd h (by omega)
  | n + 1, h, i, hi => by
    unfold unl at h
    by_cases hfn : f n = true
    · rw [if_pos hfn] at h
      by_cases hin : i = n
      · rw [hin]; exact hfn
      · exact unl_zero (n := n) (by omega) i (by omega)
    · rw [if_neg hfn] at h; omega
theorem unl_congr {f g : Nat → Bool} : ∀ {n}, (∀ i, i < n → f i = g i) → unl f n = unl g n
  | 0, _ => rfl
  | n + 1, h => by unfold unl; rw [unl_congr (n := n) fun i hi => h i (by omega), h n (by omega)]
theorem unl_set {f g : Nat → Bool} {i : Nat} (h0 : f i = false) (h1 : g i = true) (ho : ∀ j, j ≠ i → g j = f j) : ∀ {n}, i < n → unl g n + 1 = unl f n
  | 0, h => absurd h (by omega)
  | n + 1, h => by
    unfold unl
    by_cases hin : i = n
    · subst hin
      rw [unl_congr (n := i) fun j hj => ho j (by omega), h0, h1]; simp
    · have := unl_set h0 h1 ho (n := n) (by omega)
      rw [ho n (by omega)]; omega

structure Inv (l : List Oper) (v : Nat → Value) (a0 : Act) (C : Nat → World → Prop) (listed : Array Bool) (a : Act) (w : World) : Prop where
  size : listed.size = l.length
  closed : ∀ (i : Nat) (o : Oper), l[i]? = some o → listed.getD i false = true → ∀ e ∈ o.after, Region.binds .any e = true → listed.getD e.on false = true
  shape : Shape l v a0 (fun j => listed.getD j false) a
  world : ∀ i, i ≤ l.length → (∀ (j : Nat) (o : Oper), l[j]? = some o → isStore o = true → listed.getD j false = decide (j < i)) → C i w

section
variable {P : Program} {st : List Nat} {E : World → Prop} {l : List Oper} {A : Nat → Act} {C D : Nat → World → Prop} {v : Nat → Value} {cl : Nat → Nat → Bool} {listed : Array Bool} {a : Act} {w : World}
theorem Inv.down (ok : Ok st l cl) (h : Inv l v (A 0) C listed a w) : ∀ (n i j : Nat), i < n → (∃ o, l[i]? = some o) → (∃ o, l[j]? = some o) → cl i j = true → listed.getD i false = true → listed.getD j false = true
  | 0, _, _, hi, _, _, _, _ => absurd hi (by omega)
  | n + 1, i, j, hi, ⟨o, ho⟩, ⟨oj, hj⟩, hc, hl => by
    obtain ⟨e, he, hb, h'⟩ := ok.cert i j o oj ho hj hc
    have h1 := h.closed i o ho hl e he hb
    rcases h' with rfl | h'
    · exact h1
    · have hd := ok.down i o ho e he hb
      have hlt : i < l.length := (List.getElem?_eq_some_iff.1 ho).1
      exact Inv.down ok h n e.on j (by omega) ⟨_, List.getElem?_eq_getElem (show e.on < l.length by omega)⟩ ⟨oj, hj⟩ h' h1
/-- What stands between stores is one class. -/
theorem Run.between (hr : Run P (fun i => st.contains i) E l A C D v) {i : Nat} : ∀ (d k : Nat), k = i + d → k ≤ l.length → (∀ (j : Nat) (o : Oper), l[j]? = some o → isStore o = true → i ≤ j → j < k → False) → C k = C i
  | 0, k, hk, _, _ => by rw [hk]; rfl
  | d + 1, k, hk, hl, hn => by
    have ih := Run.between hr d (k - 1) (by omega) (by omega) (fun j o hj hs h1 h2 => hn j o hj hs h1 (by omega))
    have ho : l[k - 1]? = some (l[k - 1]'(by omega)) := List.getElem?_eq_getElem (by omega)
    have hs : isStore (l[k - 1]'(by omega)) = false := by
      cases h : isStore (l[k - 1]'(by omega))
      · rfl
      · exact (hn _ _ ho h (by omega) (by omega)).elim
    have e : k - 1 + 1 = k := by omega
    cases hf : isFree (l[k - 1]'(by omega))
    · cases hl : isLook (l[k - 1]'(by omega))
      · have := (hr.read _ _ ho hs hf hl).1; rw [e] at this; rw [this, ih]
      · have := (hr.look _ _ ho hs hf hl).1; rw [e] at this; rw [this, ih]
    · have := (hr.free _ _ ho hs hf).1; rw [e] at this; rw [this, ih]
theorem Run.one (hr : Run P (fun i => st.contains i) E l A C D v) {f : Nat → Bool} {i k : Nat} (hi : i ≤ l.length) (hk : k ≤ l.length) (h1 : ∀ (j : Nat) (o : Oper), l[j]? = some o → isStore o = true → f j = decide (j < i)) (h2 : ∀ (j : Nat) (o : Oper), l[j]? = some o → isStore o = true → f j = decide (j < k)) : C k = C i := by
  rcases Nat.le_total i k with h | h
  · exact hr.between (k - i) k (by omega) hk fun j o hj hs ha hb => by
      have e1 := h1 j o hj hs; have e2 := h2 j o hj hs
      rw [e1] at e2; simp at e2; omega
  · exact (hr.between (i - k) i (by omega) hi fun j o hj hs ha hb => by
      have e1 := h1 j o hj hs; have e2 := h2 j o hj hs
      rw [e1] at e2; simp at e2; omega).symm

theorem Run.steady (hr : Run P (fun i => st.contains i) E l A C D v) {i : Nat} : ∀ (d k : Nat), k = i + d → k ≤ l.length → (∀ (j : Nat) (o : Oper), l[j]? = some o → isHard o = true → i ≤ j → j < k → False) → D k = D i
  | 0, k, hk, _, _ => by rw [hk]; rfl
  | d + 1, k, hk, hl, hn => by
    have ih := Run.steady hr d (k - 1) (by omega) (by omega) (fun j o hj hs h1 h2 => hn j o hj hs h1 (by omega))
    have ho : l[k - 1]? = some (l[k - 1]'(by omega)) := List.getElem?_eq_getElem (by omega)
    have hs : isHard (l[k - 1]'(by omega)) = false := by
      cases h : isHard (l[k - 1]'(by omega))
      · rfl
      · exact (hn _ _ ho h (by omega) (by omega)).elim
    have e : k - 1 + 1 = k := by omega
    have := hr.soft _ _ ho hs; rw [e] at this; rw [this, ih]
/-- Of the acts the first so many have been. -/
theorem Inv.where_ (ok : Ok st l cl) (h : Inv l v (A 0) C listed a w) : ∃ k, k ≤ l.length ∧ ∀ (j : Nat) (o : Oper), l[j]? = some o → isStore o = true → listed.getD j false = decide (j < k) := by
  have key : ∀ n, n ≤ l.length → (∀ (j : Nat) (o : Oper), l[j]? = some o → isStore o = true → j < n → listed.getD j false = true) ∨ ∃ k, k < n ∧ ∃ o, l[k]? = some o ∧ isStore o = true ∧ listed.getD k false = false ∧ ∀ (j : Nat) (o : Oper), l[j]? = some o → isStore o = true → j < k → listed.getD j false = true := by
    intro n
    induction n with
    | zero => intro _; exact .inl fun j o _ _ hj => absurd hj (by omega)
    | succ n ih =>
      intro hn
      rcases ih (by omega) with h1 | ⟨k, hk, h1⟩
      · have ho : l[n]? = some (l[n]'(by omega)) := List.getElem?_eq_getElem (by omega)
        by_cases hs : isStore (l[n]'(by omega)) = true
        · cases hl : listed.getD n false
          · exact .inr ⟨n, by omega, _, ho, hs, hl, h1⟩
          · refine .inl fun j o hj hso hjn => ?_
            by_cases e : j = n
            · subst e; exact hl
            · exact h1 j o hj hso (by omega)
        · refine .inl fun j o hj hso hjn => ?_
          by_cases e : j = n
          · subst e; rw [ho] at hj; injection hj with hj; subst hj; exact absurd hso hs
          · exact h1 j o hj hso (by omega)
      · exact .inr ⟨k, by omega, h1⟩
  rcases key l.length (Nat.le_refl _) with h1 | ⟨k, hk, o, ho, hs, hl, h1⟩
  · refine ⟨l.length, Nat.le_refl _, fun j o hj hso => ?_⟩
    have := (List.getElem?_eq_some_iff.1 hj).1
    rw [h1 j o hj hso this]; simp [this]
  · refine ⟨k, by omega, fun j oj hj hsj => ?_⟩
    by_cases hjk : j < k
    · rw [h1 j oj hj hsj hjk]; simp [hjk]
    · by_cases e : j = k
      · subst e; rw [hl]; simp
      · have hf : isFree o = false := store_free hs
        have hlk : isLook o = false := store_look hs
        have hc := ok.store k j o oj ho hj (fun e' => e e'.symm) hsj hf (by simp [hlk])
        rw [if_neg (by omega)] at hc
        cases hlj : listed.getD j false
        · simp [hjk]
        · have := h.down ok l.length j k (List.getElem?_eq_some_iff.1 hj).1 ⟨oj, hj⟩ ⟨o, ho⟩ hc hlj
          rw [hl] at this; cases this
theorem Inv.step (hr : Run P (fun i => st.contains i) E l A C D v) (ok : Ok st l cl) (h : Inv l v (A 0) C listed a w) {Q : Exit → Act → World → Prop} {i : Nat} (hi : i ∈ Region.ready .any l.toArray listed) :
    wpOp P l.toArray Q i (fun a' w' => Inv l v (A 0) C (listed.setIfInBounds i true) a' w') a w := by
  obtain ⟨hun, o, ho', hdeps⟩ := mem_ready.1 hi
  have ho : l[i]? = some o := by simpa using ho'
  have hil : i < l.length := (List.getElem?_eq_some_iff.1 ho).1
  have his : i < listed.size := by rw [h.size]; exact hil
  have hun' : listed.getD i false = false := by simp [his] at hun ⊢; exact hun
  -- who is waited for has been; who waits has not
  have before : ∀ j oj, l[j]? = some oj → cl i j = true → listed.getD j false = true := fun j oj hj hc => by
    obtain ⟨e, he, hb, h'⟩ := ok.cert i j o oj ho hj hc
    have h1 := hdeps e he hb
    rcases h' with rfl | h'
    · exact h1
    · have hd := ok.down i o ho e he hb
      exact h.down ok l.length e.on j (by omega) ⟨_, List.getElem?_eq_getElem (show e.on < l.length by omega)⟩ ⟨oj, hj⟩ h' h1
  have behind : ∀ j oj, l[j]? = some oj → cl j i = true → listed.getD j false = false := fun j oj hj hc => by
    cases hl : listed.getD j false
    · rfl
    · have hjl : j < l.length := (List.getElem?_eq_some_iff.1 hj).1
      have := h.down ok l.length j i hjl ⟨oj, hj⟩ ⟨o, ho⟩ hc hl
      rw [hun'] at this; cases this
  have exec : execOp a.eval o = execOp (A i).eval o := execOp_congr o (fun cs b => Region.noSelect_spec ok.sel i o cs b ho') fun x hx => by
    cases x with
    | tmp t =>
      have ht : t ∈ o.looksAt l.toArray := List.mem_append_left _ (List.mem_filterMap.2 ⟨.tmp t, by simpa using hx, rfl⟩)
      have e := h.shape.same (hr.shape ok.dist i (by omega)) (t := t) fun j oj hj hd => by
        by_cases hji : j = i
        · subst hji; rw [hun']; simp
        · have hc := ok.looks i j o oj t ho hj (fun e => hji e.symm) hd ht
          by_cases hlt : j < i
          · rw [if_pos hlt] at hc; rw [before j oj hj hc]; simp [hlt]
          · rw [if_neg hlt] at hc; rw [behind j oj hj hc]; simp [hlt]
      simp only [Act.eval, Array.getD_eq_getD_getElem?, e]
    | const => rfl
    | global => rfl
    | func => rfl
  have hg := ok.guard i o ho
  have getset : ∀ j, (listed.setIfInBounds i true).getD j false = (listed.getD j false || j == i) := fun j => by
    by_cases hji : j = i
    · subst hji; simp [his]
    · rw [getD_set_ne false (fun e => hji e.symm)]; simp [hji]
  -- what is left of the invariant, whatever comes of the world
  have next : ∀ w', (∀ k, k ≤ l.length → (∀ (j : Nat) (oj : Oper), l[j]? = some oj → isStore oj = true → (listed.getD j false || j == i) = decide (j < k)) → C k w') → Inv l v (A 0) C (listed.setIfInBounds i true) (a.put o.dst (v i)) w' := fun w' hw => by
    refine ⟨by simp [h.size], fun j oj hj hl e he hb => ?_, (h.shape.put ok.dist ho).congr fun j oj hj => (getset j).symm, fun k hk hst => hw k hk fun j oj hj hs => by rw [← getset j]; exact hst j oj hj hs⟩
    rw [getset] at hl ⊢
    simp only [Bool.or_eq_true, beq_iff_eq] at hl ⊢
    rcases hl with hl | rfl
    · exact .inl (h.closed j oj hj hl e he hb)
    · rw [ho] at hj; injection hj with hj; subst hj; exact .inl (hdeps e he hb)
  unfold wpOp
  simp only [ho', Region.wanted, hg, if_true]
  refine .inl ?_
  cases hs : isStore o
  · cases hf : isFree o
    · cases hl : isLook o
      · -- a call
        have here : ∀ (j : Nat) (oj : Oper), l[j]? = some oj → isStore oj = true → listed.getD j false = decide (j < i) := fun j oj hj hsj => by
          have hji : j ≠ i := fun e => by subst e; rw [ho] at hj; injection hj with hj; subst hj; rw [hs] at hsj; cases hsj
          have hc := ok.store i j o oj ho hj (fun e => hji e.symm) hsj hf (by simp [hl])
          by_cases hlt : j < i
          · rw [if_pos hlt] at hc; rw [before j oj hj hc]; simp [hlt]
          · rw [if_neg hlt] at hc; rw [behind j oj hj hc]; simp [hlt]
        have hw := h.world i (by omega) here
        refine (((hr.read i o ho hs hf hl).2 w hw).congr exec).wp fun w' hw' => next w' fun k hk hst => ?_
        have hst' : ∀ (j : Nat) (oj : Oper), l[j]? = some oj → isStore oj = true → listed.getD j false = decide (j < k) := fun j oj hj hsj => by
          have hji : j ≠ i := fun e => by subst e; rw [ho] at hj; injection hj with hj; subst hj; rw [hs] at hsj; cases hsj
          have := hst j oj hj hsj; rw [show (j == i) = false from by simpa using hji, Bool.or_false] at this; exact this
        rw [hr.one (f := fun j => listed.getD j false) (by omega) hk here hst']; exact hw'
      · -- a look
        obtain ⟨k0, hk0, hat⟩ := h.where_ ok
        have hD : if st.contains i then E w else D i w := by
          have h00 := hr.held k0 hk0 w (h.world k0 hk0 hat)
          by_cases hst0 : st.contains i = true
          · rw [if_pos hst0]; exact h00.2
          rw [if_neg hst0]
          have h0 := h00.1
          have hst0 : st.contains i = false := by simpa using hst0
          have hard : ∀ (j : Nat) (oj : Oper), l[j]? = some oj → isHard oj = true → listed.getD j false = decide (j < i) ∧ j ≠ i := fun j oj hj hhj => by
            have hsj : isStore oj = true := by simp [isStore, hhj]
            have hji : j ≠ i := fun e => by subst e; rw [ho] at hj; injection hj with hj; subst hj; rw [hs] at hsj; cases hsj
            have hc := ok.store i j o oj ho hj (fun e => hji e.symm) hsj hf (by rw [hhj, hst0]; simp)
            by_cases hlt : j < i
            · rw [if_pos hlt] at hc; rw [before j oj hj hc]; simp [hlt, hji]
            · rw [if_neg hlt] at hc; rw [behind j oj hj hc]; simp [hlt, hji]
          have none : ∀ (j : Nat) (oj : Oper), l[j]? = some oj → isHard oj = true → decide (j < k0) = decide (j < i) := fun j oj hj hhj => by
            rw [← hat j oj hj (by simp [isStore, hhj])]; exact (hard j oj hj hhj).1
          rcases Nat.le_total i k0 with hle | hle
          · rw [hr.steady (i := i) (k0 - i) k0 (by omega) hk0 fun j oj hj hh h1 h2 => by
              have := none j oj hj hh; simp [h2] at this; omega] at h0
            exact h0
          · rw [← hr.steady (i := k0) (i - k0) i (by omega) (by omega) fun j oj hj hh h1 h2 => by
              have := none j oj hj hh; simp [h2] at this; omega] at h0
            exact h0
        refine (((hr.look i o ho hs hf hl).2 w hD).congr exec).wp fun w' hw' => next w' fun k hk hst => ?_
        subst hw'
        refine h.world k hk fun j oj hj hsj => ?_
        have hji : j ≠ i := fun e => by subst e; rw [ho] at hj; injection hj with hj; subst hj; rw [hs] at hsj; cases hsj
        have := hst j oj hj hsj; rw [show (j == i) = false from by simpa using hji, Bool.or_false] at this; exact this
    · -- nothing of the world
      refine (((hr.free i o ho hs hf).2 w).congr exec).wp fun w' hw' => next w' fun k hk hst => ?_
      subst hw'
      refine h.world k hk fun j oj hj hsj => ?_
      have hji : j ≠ i := fun e => by subst e; rw [ho] at hj; injection hj with hj; subst hj; rw [hs] at hsj; cases hsj
      have := hst j oj hj hsj; rw [show (j == i) = false from by simpa using hji, Bool.or_false] at this; exact this
  · -- a store
    have hf : isFree o = false := store_free hs
    have hlk : isLook o = false := store_look hs
    have here : ∀ (j : Nat) (oj : Oper), l[j]? = some oj → isStore oj = true → listed.getD j false = decide (j < i) := fun j oj hj hsj => by
      by_cases hji : j = i
      · subst hji; rw [hun']; simp
      · have hc := ok.store i j o oj ho hj (fun e => hji e.symm) hsj hf (by simp [hlk])
        by_cases hlt : j < i
        · rw [if_pos hlt] at hc; rw [before j oj hj hc]; simp [hlt]
        · rw [if_neg hlt] at hc; rw [behind j oj hj hc]; simp [hlt]
    have hw := h.world i (by omega) here
    have hgv := hr.store i o ho hs w hw
    refine (hgv.congr exec).wp fun w' hw' => next w' fun k hk hst => ?_
    have h1 : ∀ (j : Nat) (oj : Oper), l[j]? = some oj → isStore oj = true → (listed.getD j false || j == i) = decide (j < i + 1) := fun j oj hj hsj => by
      rw [here j oj hj hsj, Bool.eq_iff_iff]; simp; omega
    rw [hr.one (f := fun j => listed.getD j false || j == i) (by omega) hk h1 hst]; exact hw'

theorem Inv.all_ (hr : Run P (fun i => st.contains i) E l A C D v) (ok : Ok st l cl) {Q : Exit → Act → World → Prop} (hQ : ∀ w, C l.length w → Q .normal (A l.length) w) : ∀ (n : Nat) (listed : Array Bool) (a : Act) (w : World), Inv l v (A 0) C listed a w → unl (fun i => listed.getD i false) l.length ≤ n →
    wpAny P .any l.toArray Q n listed a w := by
  have last : ∀ (listed : Array Bool) (a : Act) (w : World), Inv l v (A 0) C listed a w → (∀ i, i < l.length → listed.getD i false = true) → Q .normal a w := fun listed a w h hall => by
    have e : a = A l.length := h.shape.ext (hr.shape ok.dist l.length (Nat.le_refl _)) fun j o hj => by
      have hjl : j < l.length := (List.getElem?_eq_some_iff.1 hj).1
      rw [hall j hjl]; simp [hjl]
    rw [e]
    exact hQ w (h.world l.length (Nat.le_refl _) fun j o hj _ => by
      have hjl : j < l.length := (List.getElem?_eq_some_iff.1 hj).1
      rw [hall j hjl]; simp [hjl])
  intro n
  induction n with
  | zero =>
    intro listed a w h hn
    have hall := unl_zero (f := fun i => listed.getD i false) (n := l.length) (by omega)
    refine ⟨?_, last listed a w h hall⟩
    cases hr' : Region.ready .any l.toArray listed with
    | nil => rfl
    | cons i is =>
      have hi : i ∈ Region.ready .any l.toArray listed := by rw [hr']; simp
      obtain ⟨hun, o, ho', _⟩ := mem_ready.1 hi
      have hil : i < l.length := by have := (Array.getElem?_eq_some_iff.1 ho').1; simpa using this
      have := hall i hil
      have his : i < listed.size := by rw [h.size]; exact hil
      simp [his] at hun this
      rw [this] at hun; cases hun
  | succ n ih =>
    intro listed a w h hn
    refine ⟨fun hr' => last listed a w h fun i hi => ?_, fun i hi => ?_⟩
    · induction i using Nat.strongRecOn with
      | _ i ihi =>
        cases hu : listed.getD i false
        · have ho : l[i]? = some (l[i]'hi) := List.getElem?_eq_getElem hi
          have : i ∈ Region.ready .any l.toArray listed := mem_ready.2 ⟨by
            have his : i < listed.size := by rw [h.size]; exact hi
            simp [his] at hu ⊢; exact hu, _, (by rw [List.getElem?_toArray]; exact ho), fun e he hb => by
            have hd := ok.down i _ ho e he hb
            exact ihi e.on hd (by omega)⟩
          rw [hr'] at this; cases this
        · rfl
    · refine wpOp_mono (fun a' w' h' => ih _ a' w' h' ?_) (h.step hr ok hi)
      obtain ⟨hun, o, ho', _⟩ := mem_ready.1 hi
      have hil : i < l.length := by have := (Array.getElem?_eq_some_iff.1 ho').1; simpa using this
      have his : i < listed.size := by rw [h.size]; exact hil
      have := unl_set (f := fun i => listed.getD i false) (g := fun j => (listed.setIfInBounds i true).getD j false) (i := i) (by simp [his] at hun ⊢; exact hun) (by simp [his]) (fun j hj => getD_set_ne false (fun e => hj e.symm)) hil
      omega

/-- **One walk serves every order.** -/
theorem any_of_lex {Q : Exit → Act → World → Prop} (hB : okB st l = true) (C0 D0 : World → Prop) (hC : C0 w.drew) (hCD : ∀ w, C0 w → D0 w ∧ E w)
    (h : wpLex P st E (fun a' C' => ∀ w', C' w' → Q .normal a' w') l 0 a C0 D0) : wpAny P .any l.toArray Q l.toArray.size (Array.replicate l.toArray.size false) a w.drew := by
  obtain ⟨A, Cs, Ds, v, hr, hA, hC0, hD0, hQ⟩ := run_of_lex l 0 a C0 D0 hCD h
  simp only [Nat.zero_add] at hr
  have ok := Ok.of st l hB
  have hinv : Inv l v (A 0) Cs (Array.replicate l.toArray.size false) a w.drew := by
    have hg : ∀ i, (Array.replicate l.length false).getD i false = false := fun i => by
      by_cases hi : i < l.length <;> simp [hi]
    refine ⟨by simp, fun i o ho hl => ?_, ?_, fun i hi hst => ?_⟩
    · simp only [List.size_toArray] at hl; rw [hg i] at hl; cases hl
    · rw [hA]; exact Shape.start.congr fun j o _ => by simp only [List.size_toArray]; rw [hg j]
    · have e : Cs i = Cs 0 := hr.between i i (by omega) hi fun j o hj hs h0 hlt => by
        have := hst j o hj hs
        simp only [List.size_toArray] at this
        rw [hg j] at this; simp at this; omega
      rw [e, hC0]; exact hC
  have := Inv.all_ hr ok (Q := Q) hQ l.toArray.size _ _ _ hinv (by have := unl_le (fun i => (Array.replicate l.toArray.size false).getD i false) l.length; simpa using this)
  exact this
end
theorem wp_region_lex {P : Program} {l : List Oper} {a : Act} {w : World} {id : Nat} {Q : Exit → Act → World → Prop} (hm : P.follows .mixedOrders = true) (st : List Nat) (hB : okB st l = true) (C0 D0 E : World → Prop) (hC : C0 w.drew) (hCD : ∀ w, C0 w → D0 w ∧ E w)
    (h : wpLex P st E (fun a' C' => ∀ w', C' w' → Q .normal a' w') l 0 a C0 D0) : (Code.region id l.toArray true).wp P Q a w :=
  wp_region_any hm (any_of_lex hB C0 D0 hC hCD h)

section
variable {P : Program} {st : List Nat} {E : World → Prop} {Q : Act → (World → Prop) → Prop} {o : Oper} {rest : List Oper} {n : Nat} {a : Act} {C D : World → Prop} {W : World}
theorem lex_free (hs : isStore o = false) (hf : isFree o = true) {v : Value} (hrun : ∀ w, (execOp a.eval o).run P w = .ok (.value v) w) (h : wpLex P st E Q rest (n + 1) (a.put o.dst v) C D) : wpLex P st E Q (o :: rest) n a C D := by
  unfold wpLex
  rw [if_neg (by simp [hs]), if_pos hf]
  exact ⟨v, fun w => by unfold Gives; rw [hrun w]; exact ⟨rfl, rfl⟩, h⟩
theorem lex_look (hs : isStore o = false) (hf : isFree o = false) (hl : isLook o = true) (hst : st.contains n = false) {v : Value} (hrun : ∀ w, D w → (execOp a.eval o).run P w = .ok (.value v) w) (h : wpLex P st E Q rest (n + 1) (a.put o.dst v) C D) : wpLex P st E Q (o :: rest) n a C D := by
  unfold wpLex
  rw [if_neg (by simp [hs]), if_neg (by simp [hf]), if_pos hl]
  exact ⟨v, fun w hw => by rw [if_neg (by rw [hst]; simp)] at hw; unfold Gives; rw [hrun w hw]; exact ⟨rfl, rfl⟩, h⟩
theorem lex_steady (hs : isStore o = false) (hf : isFree o = false) (hl : isLook o = true) (hst : st.contains n = true) {v : Value} (hrun : ∀ w, E w → (execOp a.eval o).run P w = .ok (.value v) w) (h : wpLex P st E Q rest (n + 1) (a.put o.dst v) C D) : wpLex P st E Q (o :: rest) n a C D := by
  unfold wpLex
  rw [if_neg (by simp [hs]), if_neg (by simp [hf]), if_pos hl]
  exact ⟨v, fun w hw => by rw [if_pos hst] at hw; unfold Gives; rw [hrun w hw]; exact ⟨rfl, rfl⟩, h⟩
/-- A function is called: it may leave another class. -/
theorem lex_call (hs : isStore o = true) {C' : World → Prop} {v : Value} {f : FuncId} {args : Array Value} (hrun : ∀ w, C w → (execOp a.eval o).run P w = .ok (.enter f args) w) (hc : ∀ w, C w → Calls P f args w fun e w' => e = .returned v ∧ C' w') (hD : ∀ w, C' w → D w ∧ E w) (h : wpLex P st E Q rest (n + 1) (a.put o.dst v) C' D) : wpLex P st E Q (o :: rest) n a C D := by
  unfold wpLex
  rw [if_pos hs]
  exact ⟨v, C', D, fun w hw => by unfold Gives; rw [hrun w hw]; exact hc w hw, fun _ => rfl, hD, h⟩
/-- Memory is made; the world is known. -/
theorem lex_make (hs : isStore o = true) {v : Value} {W' : World} (hrun : (execOp a.eval o).run P W = .ok (.value v) W') (hD : D W' ∧ E W') (h : wpLex P st E Q rest (n + 1) (a.put o.dst v) (· = W') D) : wpLex P st E Q (o :: rest) n a (· = W) D := by
  unfold wpLex
  rw [if_pos hs]
  exact ⟨v, (· = W'), D, fun w hw => by subst hw; unfold Gives; rw [hrun]; exact ⟨rfl, rfl⟩, fun _ => rfl, fun w hw => hw ▸ hD, h⟩
theorem lex_store (hs : isStore o = true) (hh : isHard o = true) {C' D' : World → Prop} (hrun : ∀ w, C w → ∃ W', (execOp a.eval o).run P w = .ok .skip W' ∧ C' W') (hD : ∀ w, C' w → D' w ∧ E w) (h : wpLex P st E Q rest (n + 1) (a.put o.dst undef) C' D') : wpLex P st E Q (o :: rest) n a C D := by
  unfold wpLex
  rw [if_pos hs]
  exact ⟨undef, C', D', fun w hw => by obtain ⟨W', h1, h2⟩ := hrun w hw; unfold Gives; rw [h1]; exact ⟨rfl, h2⟩, fun e => by (rw [hh] at e; cases e), hD, h⟩
theorem lex_end {Q : Exit → Act → World → Prop} (h : ∀ w', C w' → Q .normal a w') : wpLex P st E (fun a' C' => ∀ w', C' w' → Q .normal a' w') [] n a C D := h
end
end Rp
namespace Go
open Go.RowKit

/-- A world that came of W, with every block below B as it was. -/
structure Ext (B : Nat) (W : World) where
  w : World
  h : Below B W w

instance {B : Nat} {W : World} : Nonempty (Ext B W) := ⟨⟨W, Below.refl _ _⟩⟩

theorem Ext.cell {B : Nat} {W : World} (q : Ext B W) {b o : Nat} {v : Value} (hb : b < B) (hc : W.cell? ⟨b, o, none⟩ = some v) : q.w.cell? ⟨b, o, none⟩ = some v :=
  (q.h.cell (p := ⟨b, o, none⟩) hb).trans hc

theorem wp_region_ext {P : Program} {id : Nat} {Q : Exit → Act → World → Prop} {a : Act} {w : World} {l : List Oper} (B : Nat) (W : World) (hm : P.follows .mixedOrders = true) (hB : Region.lexB .any l.toArray = true) (hC : Below B W w)
    (h : wpQuiet P l.toArray (fun w' => ∃ q : Ext B W, w' = q.w) (fun a' => ∀ w', (∃ q : Ext B W, w' = q.w) → Q .normal a' w') l a) : (Code.region id l.toArray true).wp P Q a w :=
  wp_region_quiet (C := fun w' => ∃ q : Ext B W, w' = q.w) hm hB ⟨⟨_, hC.drew⟩, rfl⟩ (by simpa using h)

/-- A callee that may make memory. -/
theorem Calls.ext_of {P : Program} {f : FuncId} {args : Array Value} {B : Nat} {W : World} {q : Ext B W} {v : Value} (hB : B ≤ W.heap.size)
    (h : Calls P f args q.w fun e w' => e = .returned v ∧ Below q.w.heap.size q.w w') : Calls P f args q.w fun e w'' => e = .returned v ∧ ∃ q' : Ext B W, w'' = q'.w :=
  h.mono fun _ w' ⟨he, hb⟩ => ⟨he, ⟨w', q.h.trans (hb.mono (Nat.le_trans hB q.h.size))⟩, rfl⟩

end Go
namespace Rt
open Go Go.RowKit
set_option linter.unusedVariables false

def tame (o : Oper) : Bool := match o.op with | .defer .. => false | _ => true
theorem rows_in {n l : Nat} {P : Program} {row : String} {args : Array Value} {w : World} {R : Value → World → Prop} (h : Rows P row args w R) : RowsIn (Fence.wide.inRound l) n P row args w R :=
  fun c cs _ => let ⟨v, w', r, s⟩ := h c cs; ⟨v, w', r, stepsIn_wide.2 s⟩
theorem oper_in {n l : Nat} {P : Program} {o : Oper} {a : Act} {w : World} {K : Act → World → Prop} {Q : Exit → Act → World → Prop} (ht : tame o = true) (h : o.wp P a w K Q) : o.wpIn (Fence.wide.inRound l) n P a w K Q := by
  refine ⟨fun _ _ => trivial, ?_⟩
  rw [Oper.semAt_eq _ _ _ (fun c e => by unfold tame at ht; rw [e] at ht; cases ht)]
  unfold Oper.wp at h
  generalize (execOp a.eval o).run P w = r at *
  cases r with
  | ok x w' =>
    cases x <;> simp only [Oper.upon] at h <;> simp only [Oper.uponIn]
    case value => exact h
    case skip => exact h
    case defer => exact h
    case enter => exact ⟨fun e => (by cases e), (callsIn_wide.2 h).inRound l⟩
    case row => exact ⟨fun e => (by cases e), rows_in h⟩
  | halt x w' => cases x <;> simp only [Oper.upon] at h <;> simp only [Oper.uponIn] <;> exact h
theorem op_in {n l : Nat} {P : Program} {ops : Array Oper} {i : Nat} {a : Act} {w : World} {K : Act → World → Prop} {Q : Exit → Act → World → Prop} (ht : ops.all tame = true) (hQ : ¬ LetsOut Q) (h : wpOp P ops Q i K a w) : wpOpIn (Fence.wide.inRound l) n P ops Q i K a w := by
  unfold wpOp at h
  unfold wpOpIn
  split
  · rename_i e; simp only [e] at h; exact h
  · rename_i o e
    simp only [e] at h
    have hto : tame o = true := Array.all_eq_true_iff_forall_mem.1 ht o (Array.mem_of_getElem? e)
    split
    · rename_i hw
      simp only [hw, if_true] at h
      rcases h with h | h
      · exact oper_in hto h
      · exact absurd h.2 hQ
    · rename_i hw
      simp only [hw] at h
      exact ⟨fun _ _ => trivial, h⟩
theorem any_in {n l : Nat} {P : Program} {ops : Array Oper} {Q : Exit → Act → World → Prop} (ht : ops.all tame = true) (hQ : ¬ LetsOut Q) : ∀ (fuel : Nat) (listed : Array Bool) (a : Act) (w : World), wpAny P .any ops Q fuel listed a w → wpAnyIn (Fence.wide.inRound l) n P .any ops Q fuel listed a w
  | 0, _, _, _, h => h
  | fuel + 1, listed, a, w, h => ⟨h.1, fun i hi => wpOpIn_mono (fun a' w' h' => any_in ht hQ fuel _ a' w' h') (op_in ht hQ (h.2 i hi))⟩

theorem region_lex {n l id : Nat} {P : Program} {ops : List Oper} {a : Act} {w : World} {Q : Exit → Act → World → Prop} (hm : P.follows .mixedOrders = true) (ht : ops.toArray.all tame = true) (st : List Nat) (hB : Rp.okB st ops = true) (hQ : ¬ LetsOut Q) (C0 D0 E : World → Prop) (hC : C0 w.drew) (hCD : ∀ w, C0 w → D0 w ∧ E w)
    (h : Rp.wpLex P st E (fun a' C' => ∀ w', C' w' → Q .normal a' w') ops 0 a C0 D0) : (Code.region id ops.toArray true).wpIn (Fence.wide.inRound l) n P Q a w :=
  wpIn_region_any hm (any_in ht hQ _ _ _ _ (Rp.any_of_lex hB C0 D0 hC hCD h))
theorem region_ext {n l id : Nat} {P : Program} {ops : List Oper} {a : Act} {w : World} {Q : Exit → Act → World → Prop} (B : Nat) (W : World) (hm : P.follows .mixedOrders = true) (ht : ops.toArray.all tame = true) (hB : Region.lexB .any ops.toArray = true) (hQ : ¬ LetsOut Q) (hC : Below B W w)
    (h : wpQuiet P ops.toArray (fun w' => ∃ q : Ext B W, w' = q.w) (fun a' => ∀ w', (∃ q : Ext B W, w' = q.w) → Q .normal a' w') ops a) : (Code.region id ops.toArray true).wpIn (Fence.wide.inRound l) n P Q a w := by
  refine wpIn_region_any hm (any_in ht hQ _ _ _ _ ?_)
  simp only [Region.lexB, Bool.and_eq_true] at hB
  refine wpAny_of_quiet (C := fun w' => ∃ q : Ext B W, w' = q.w) (Q := fun a' => ∀ w', (∃ q : Ext B W, w' = q.w) → Q .normal a' w') (fun _ w' hw' h => h w' hw') _ _ _ _ ⟨⟨_, hC.drew⟩, rfl⟩ ?_
  have := wpAnyQ_lex (C := fun w' => ∃ q : Ext B W, w' = q.w) (md := .any) hB.1 ops.toArray.toList 0 (Array.replicate ops.toArray.size false) a (by simp) (by simpa using hB.2) (by simpa using h)
  simpa using this
end Rt
namespace Go.Proofs.YtiahpncglpfjeaaGreat
open Go.RowKit Go.Shelf
set_option linter.unusedVariables false
attribute [local go_sem] Oper.semAt_some
/-- What May knows on its way. -/
structure Maying (B Br Bh Bg : Nat) (w0 : World) (r : Ros.R) (pre : List Ros.Sl) (W : World) : Prop where
  ros : Box W B 33 (Ros.cells r)
  res : Box W Br 4 #[.bool false]
  has : Box W Bh 124 (Ros.hasCells (Ros.hasF r pre))
  sit : Box W Bg 95 #[.pointer (some ⟨B, 0, none⟩)]
  below : Below w0.heap.size w0 W
  good : Ros.Good r pre
theorem Below.turned {b : Nat} {w0 W W' : World} {row : Option Nat} (h : Below b w0 W) (hb : b ≤ w0.heap.size) (hg : W.grownBy W' row) (hr : ∀ r, row = some r → b ≤ r) : Below b w0 W' :=
  h.grown hg (Nat.le_trans hb h.size) fun k e => hr k e
theorem Maying.turned {B Br Bh Bg : Nat} {w0 : World} {r : Ros.R} {pre : List Ros.Sl} {W W' : World} {row : Option Nat} (h : Maying B Br Bh Bg w0 r pre W) (hg : W.grownBy W' row) (hr : ∀ r, row = some r → w0.heap.size ≤ r ∧ ∃ o : Obj, W.heap[r]? = some o ∧ o.isCells = false) : Maying B Br Bh Bg w0 r pre W' :=
  ⟨h.ros.turned hg fun r e => (hr r e).2, h.res.turned hg fun r e => (hr r e).2, h.has.turned hg fun r e => (hr r e).2, h.sit.turned hg fun r e => (hr r e).2, Below.turned h.below (Nat.le_refl _) hg fun r e => (hr r e).1, h.good⟩

theorem Maying.call {B Br Bh Bg : Nat} {w0 : World} {r : Ros.R} {pre : List Ros.Sl} {W W' : World} (h : Maying B Br Bh Bg w0 r pre W) (hb : Below W.heap.size W W') : Maying B Br Bh Bg w0 r pre W' :=
  ⟨h.ros.below hb h.ros.lt, h.res.below hb h.res.lt, h.has.below hb h.has.lt, h.sit.below hb h.sit.lt, h.below.trans (hb.mono h.below.size), h.good⟩

set_option maxRecDepth 100000 in
set_option maxHeartbeats 4000000 in
theorem rosmay_any (r : Ros.R) (w : World) :
    Calls Tryz.prog 54 #[.agg (Ros.cells r)] w fun e w' => e = .returned (.bool (Ros.may r)) ∧ Below w.heap.size w w' := by
  have B0 := Box.made w 33 (Ros.cells r)
  have hc : ∀ o j, ((w.alloc (.cells (Ros.cells r) 33)).alloc o).cell? ⟨w.heap.size, j, none⟩ = (Ros.cells r)[j]? := fun o j => (B0.alloc o).cell j
  have h0 := Ros.cells_0 r
  by_cases hv1 : r.version < 0
  · skip
    have hno : Ros.may r = false := decide_eq_false fun h => by have := h.1; omega
    have d1 : decide (r.version < 0) = true := decide_eq_true hv1
    rw [hno]
    have hres := (Box.made_at (n := w.heap.size + 1) (w.alloc (.cells (Ros.cells r) 33)) 4 #[.bool false] (by simp)).put 0 (.bool false)
    have hcr := hres.cell 0
    clear B0 hno hres
    go_enter Tryz.func54, Tryz.ntmps54
    go_wp2
    refine bodyPost_ret (v := .bool false) (by simp [results, Tryz.f54, go_sem] <;> exact hcr) rfl ?_
    exact ⟨rfl, two_below' w _ _⟩
  by_cases hv2 : 1073741824 < r.version
  · skip
    have hno : Ros.may r = false := decide_eq_false fun h => by have := h.1; omega
    have d1 : decide (r.version < 0) = false := decide_eq_false hv1
    have d2 : decide (1073741824 < r.version) = true := decide_eq_true hv2
    rw [hno]
    have hres := (Box.made_at (n := w.heap.size + 1) (w.alloc (.cells (Ros.cells r) 33)) 4 #[.bool false] (by simp)).put 0 (.bool false)
    have hcr := hres.cell 0
    clear B0 hno hres
    go_enter Tryz.func54, Tryz.ntmps54
    go_wp2
    refine bodyPost_ret (v := .bool false) (by simp [results, Tryz.f54, go_sem] <;> exact hcr) rfl ?_
    exact ⟨rfl, two_below' w _ _⟩
  have hver : 0 ≤ r.version ∧ r.version ≤ 1073741824 := by omega
  have d1 : decide (r.version < 0) = false := decide_eq_false hv1
  have d2 : decide (1073741824 < r.version) = false := decide_eq_false hv2
  have HV := Lib.hid hver
  have BB := Lib.hid B0
  clear hv1 hv2 hver
  refine (callsIn_wide (n := 10)).1 (callsIn_of_wp_marks Tryz.func54 rfl trivial (wpIn_wide.2 ?_) rfl)
  simp only [Tryz.ntmps54, List.size_toArray, List.length_cons, List.length_nil, Nat.reduceAdd, Nat.reduceSub, Array.replicate_succ, Array.replicate_zero, List.push_toArray, List.append_toArray, List.nil_append, List.cons_append]
  go_upto_block 0 with (go_at_call 55; ((with_reducible refine (seats_any _ _).mono ?_); rintro e w3 ⟨rfl, rfl⟩))
  have M0 : Maying w.heap.size (w.heap.size + 1) (w.heap.size + 1 + 1) (w.heap.size + 1 + 1 + 1) w r [] ((((w.alloc (.cells (Ros.cells r) 33)).alloc (.cells #[.bool false] 4)).alloc (.cells (Ros.hasCells fun _ => false) 124)).alloc (.cells #[.pointer (some ⟨w.heap.size, 0, none⟩)] 95)) :=
    ⟨((BB.out.alloc _).alloc _).alloc _, ((Box.made_at _ _ _ (by simp)).alloc _).alloc _, (Box.made_at _ _ _ (by simp)).alloc _, Box.made_at _ _ _ (by simp), ((((Below.refl _ _).alloc (Nat.le_refl _) _).alloc (by simp) _).alloc (by simp <;> omega) _).alloc (by simp <;> omega) _, Ros.good_nil r⟩
  simp only [Ros.hasCells] at M0
  generalize hW0 : ((((w.alloc (.cells (Ros.cells r) 33)).alloc (.cells #[.bool false] 4)).alloc _).alloc _) = W0 at M0 ⊢
  have MM0 := Lib.hid M0
  have hs0 : Sitting w.heap.size (w.heap.size + 1 + 1 + 1) W0 := M0.sit.cell 0
  clear hW0 M0 BB B0 hc h0 d1 d2
  refine (wpIn_wide (n := 10)).1 ?_
  refine wpIn_block ?_
  refine' wpIn_rangeFunc_ownF (n := 10) (w := W0) rfl (by omega) (gf := 93) (lb := #[.pointer (some ⟨w.heap.size + 1 + 1 + 1, 0, none⟩)]) rfl trivial (enters_of Tryz.func93 (by kernel_rfl) rfl)
    (seats1_stops w.heap.size (w.heap.size + 1 + 1 + 1) _ W0 hs0) sitkp_t (sitkp_b (n := W0.heap.size)) (Below.refl _ _) (fun _ => rfl)
    (fun pre W => Maying w.heap.size (w.heap.size + 1) (w.heap.size + 1 + 1) (w.heap.size + 1 + 1 + 1) w r pre W)
    (fun c pre W => c = .ret ∧ ¬ Ros.Good r pre ∧ Box W (w.heap.size + 1) 4 #[.bool false] ∧ Below w.heap.size w W)
    (fun pre W W' row h hgr hr => h.turned hgr (fun r e => ⟨Nat.le_trans MM0.out.below.size (hr r e).1, (hr r e).2⟩))
    (fun c pre W W' row h hgr hr => ⟨h.1, h.2.1, h.2.2.1.turned hgr (fun r e => (hr r e).2), Below.turned h.2.2.2 (Nat.le_refl _) hgr (fun r e => Nat.le_trans MM0.out.below.size (hr r e).1)⟩)
    MM0.out _ ?assign ?body ?done ?stop
  case assign =>
    intro l x W K hK
    gi_wp2
    exact hK
  case body =>
    rintro l pre ⟨k, hk⟩ W hM hlen
    have hk8 : (k : Int) < 8 := by omega
    have rc := hM.ros.cell
    have hl := hM.ros.lt
    have rp := Ros.cells_peer r k hk
    have rg := Ros.cells_gen r k hk
    have cs := fun X => Lib.hid (mayseat_any (r.peer k) (r.gen k) X)
    have HM := Lib.hid hM
    clear hM hlen
    by_cases hok : Ros.OkSeat r k
    · have hok' : (0 ≤ r.gen k ∧ r.gen k ≤ 60000) ∧ (r.peer k = -1 ∨ ((0 ≤ r.peer k ∧ r.peer k < 12) ∧ 0 < r.gen k)) := hok
      rw [decide_eq_true hok'] at cs
      have HOK := Lib.hid hok
      by_cases hp : r.peer k = -1
      · have HG : Hid (Ros.Good r (pre ++ [⟨k, hk⟩])) := Lib.hid (Ros.good_snoc.2 ⟨HM.out.good, hok, fun y hy => by rw [show r.peer (⟨k, hk⟩ : Ros.Sl).1 = -1 from hp]; omega⟩)
        have HF : Hid (Ros.hasF r (pre ++ [⟨k, hk⟩]) = Ros.hasF r pre) := Lib.hid (funext fun q => Ros.hasF_no (x := ⟨k, hk⟩) hp q)
        rw [hp] at rp cs
        generalize r.gen k = g at rg cs
        clear hok hok' hp
        gi_wp2_with (first | (gi_at_call 92; ((with_reducible refine (CallsIn.inRound l (callsIn_wide.2 (cs _).out)).mono ?_); rintro e v1 ⟨rfl, hb1⟩; have M1 := HM.out.call hb1; have s1 := M1.ros.cell; have s2 := M1.res.cell; have t2 := M1.res.free; have s3 := M1.has.cell; have t3 := M1.has.free; have l1 := M1.ros.lt; clear M1)) | (refine ⟨trivial, ?_⟩; gi_at_call 92; ((with_reducible refine (CallsIn.inRound l (callsIn_wide.2 (cs _).out)).mono ?_); rintro e v1 ⟨rfl, hb1⟩; have M1 := HM.out.call hb1; have s1 := M1.ros.cell; have s2 := M1.res.cell; have t2 := M1.res.free; have s3 := M1.has.cell; have t3 := M1.has.free; have l1 := M1.ros.lt; clear M1)))
        have M2 := HM.out.call hb1
        refine ⟨below_others hb1, fun h => h.below hb1, ?_⟩
        exact ⟨M2.ros, M2.res, by rw [HF.out]; exact M2.has, M2.sit, M2.below, HG.out⟩
      · obtain ⟨n, hn, hn12⟩ : ∃ n : Nat, r.peer k = n ∧ n < 12 := ⟨(r.peer k).toNat, by omega, by omega⟩
        have hne : ((n : Int) == -1) = false := by simp
        have hni : (n : Int) < 12 := by omega
        have ha := Ros.hasCells_at (Ros.hasF r pre) n hn12
        cases hh : Ros.hasF r pre n
        · rw [hh] at ha
          have HG : Hid (Ros.Good r (pre ++ [⟨k, hk⟩])) := Lib.hid (Ros.good_snoc.2 ⟨HM.out.good, hok, fun y hy => by rw [show r.peer (⟨k, hk⟩ : Ros.Sl).1 = n from hn]; exact .inr (Ros.hasF_iff.1 hh y hy)⟩)
          have HF : Hid (Ros.hasF r (pre ++ [⟨k, hk⟩]) = fun q => if q = n then true else Ros.hasF r pre q) := Lib.hid (funext fun q => Ros.hasF_yes (x := ⟨k, hk⟩) hn q)
          rw [hn] at rp cs
          generalize r.gen k = g at rg cs
          clear hok hok' hp hn hh
          gi_wp2_with (first | (gi_at_call 92; ((with_reducible refine (CallsIn.inRound l (callsIn_wide.2 (cs _).out)).mono ?_); rintro e v1 ⟨rfl, hb1⟩; have M1 := HM.out.call hb1; have s1 := M1.ros.cell; have s2 := M1.res.cell; have t2 := M1.res.free; have s3 := M1.has.cell; have t3 := M1.has.free; have l1 := M1.ros.lt; clear M1)) | (refine ⟨trivial, ?_⟩; gi_at_call 92; ((with_reducible refine (CallsIn.inRound l (callsIn_wide.2 (cs _).out)).mono ?_); rintro e v1 ⟨rfl, hb1⟩; have M1 := HM.out.call hb1; have s1 := M1.ros.cell; have s2 := M1.res.cell; have t2 := M1.res.free; have s3 := M1.has.cell; have t3 := M1.has.free; have l1 := M1.ros.lt; clear M1)))
          have M2 := HM.out.call hb1
          have hset := M2.has.put n (.bool true)
          rw [Ros.hasCells_set _ n hn12, ← HF.out] at hset
          refine ⟨(below_others hb1).trans (KeepsOthers.setCell _ _ _), fun h => (World.cell?_of_block (heap_setCell_other _ _ _ _ (by show w.heap.size + 1 + 1 + 1 ≠ w.heap.size + 1 + 1; omega))).trans (h.below hb1), ?_⟩
          exact ⟨M2.ros.far (by show _ ≠ _; simp; omega) _, M2.res.far (by show _ ≠ _; simp) _, hset, M2.sit.far (by show _ ≠ _; simp) _, M2.below.setCell (by simp; omega) _, HG.out⟩
        · rw [hh] at ha
          have HG : Hid (¬ Ros.Good r (pre ++ [⟨k, hk⟩])) := Lib.hid fun h => by
            have h3 := (Ros.good_snoc.1 h).2.2
            have : Ros.hasF r pre n = false := Ros.hasF_iff.2 fun y hy => by
              rcases h3 y hy with e | e
              · rw [e]; omega
              · rw [show r.peer (⟨k, hk⟩ : Ros.Sl).1 = n from hn] at e; exact e
            rw [this] at hh; cases hh
          rw [hn] at rp cs
          generalize r.gen k = g at rg cs
          clear hok hok' hp hn hh
          gi_wp2_with (first | (gi_at_call 92; ((with_reducible refine (CallsIn.inRound l (callsIn_wide.2 (cs _).out)).mono ?_); rintro e v1 ⟨rfl, hb1⟩; have M1 := HM.out.call hb1; have s1 := M1.ros.cell; have s2 := M1.res.cell; have t2 := M1.res.free; have s3 := M1.has.cell; have t3 := M1.has.free; have l1 := M1.ros.lt; clear M1)) | (refine ⟨trivial, ?_⟩; gi_at_call 92; ((with_reducible refine (CallsIn.inRound l (callsIn_wide.2 (cs _).out)).mono ?_); rintro e v1 ⟨rfl, hb1⟩; have M1 := HM.out.call hb1; have s1 := M1.ros.cell; have s2 := M1.res.cell; have t2 := M1.res.free; have s3 := M1.has.cell; have t3 := M1.has.free; have l1 := M1.ros.lt; clear M1)))
          have M2 := HM.out.call hb1
          exact ⟨(below_others hb1).trans (KeepsOthers.setCell _ _ _), rfl, HG.out, M2.res.put 0 _, M2.below.setCell (by simp) _⟩
    · have hok' : ¬ ((0 ≤ r.gen k ∧ r.gen k ≤ 60000) ∧ (r.peer k = -1 ∨ ((0 ≤ r.peer k ∧ r.peer k < 12) ∧ 0 < r.gen k))) := hok
      rw [decide_eq_false hok'] at cs
      have HG : Hid (¬ Ros.Good r (pre ++ [⟨k, hk⟩])) := Lib.hid fun h => hok (Ros.good_snoc.1 h).2.1
      generalize r.gen k = g at rg cs
      generalize r.peer k = p at rp cs
      clear hok hok'
      gi_wp2_with (first | (gi_at_call 92; ((with_reducible refine (CallsIn.inRound l (callsIn_wide.2 (cs _).out)).mono ?_); rintro e v1 ⟨rfl, hb1⟩; have M1 := HM.out.call hb1; have s1 := M1.ros.cell; have s2 := M1.res.cell; have t2 := M1.res.free; have s3 := M1.has.cell; have t3 := M1.has.free; have l1 := M1.ros.lt; clear M1)) | (refine ⟨trivial, ?_⟩; gi_at_call 92; ((with_reducible refine (CallsIn.inRound l (callsIn_wide.2 (cs _).out)).mono ?_); rintro e v1 ⟨rfl, hb1⟩; have M1 := HM.out.call hb1; have s1 := M1.ros.cell; have s2 := M1.res.cell; have t2 := M1.res.free; have s3 := M1.has.cell; have t3 := M1.has.free; have l1 := M1.ros.lt; clear M1)))
      have M2 := HM.out.call hb1
      exact ⟨(below_others hb1).trans (KeepsOthers.setCell _ _ _), rfl, HG.out, M2.res.put 0 _, M2.below.setCell (by simp) _⟩
  case done =>
    rintro D xs W hD rfl hM hK
    have hres := hM.res.put 0 (.bool true)
    have hK3 := others_kept (KeepsOthers.setCell W ⟨w.heap.size + 1, 0, none⟩ (.bool true)) hK
    have hDw : w.heap.size ≤ D := Nat.le_trans MM0.out.below.size hD
    have hT := hres.turned (grownBy_putObj' _ D (.deferred none)) (fun r e => by cases e; exact ⟨_, hK3, rfl⟩)
    have hT2 := Lib.hid (Below.turned (hM.below.setCell (p := ⟨w.heap.size + 1, 0, none⟩) (by simp) (.bool true)) (Nat.le_refl _) (grownBy_putObj' _ D (.deferred none)) (fun r e => by cases e; exact hDw))
    have hyes : Hid (Ros.may r = true) := Lib.hid (decide_eq_true ⟨HV.out, hM.good⟩)
    have HK3 := Lib.hid hK3
    have hc5 : ((W.setCell ⟨w.heap.size + 1, 0, none⟩ (.bool true)).putObj D (.deferred none)).cell? ⟨w.heap.size + 1, 0, none⟩ = some (.bool true) := hT.cell 0
    have u4 := hM.res.cell
    have v4 := hM.res.free
    clear hM hres hK3 hT hK
    go_wp2
    refine ⟨by simp, .inl ⟨_, _, rfl, run_takeDeferred HK3.out, ?_⟩⟩
    refine ⟨.bool true, ?_, by rw [hyes.out], hT2.out⟩
    simp [results, Tryz.f54, go_sem, hc5]
  case stop =>
    rintro D c' pre W hD ⟨rest, hpre⟩ ⟨rfl, h2, h3, h4⟩ hK
    have hno : Hid (Ros.may r = false) := Lib.hid (decide_eq_false fun h => h2 (Ros.good_front (m := rest) (by rw [← hpre]; exact h.2)))
    have hDw : w.heap.size ≤ D := Nat.le_trans MM0.out.below.size hD
    have hT := h3.turned (grownBy_putObj' _ D (.deferred none)) (fun r e => by cases e; exact ⟨_, hK, rfl⟩)
    have hT2 := Lib.hid (Below.turned h4 (Nat.le_refl _) (grownBy_putObj' _ D (.deferred none)) (fun r e => by cases e; exact hDw))
    have hc5 : (W.putObj D (.deferred none)).cell? ⟨w.heap.size + 1, 0, none⟩ = some (.bool false) := hT.cell 0
    have HK3 := Lib.hid hK
    clear h2 h3 h4 hK hpre hT
    refine wpIn_ret ?_
    refine ⟨by simp, .inl ⟨_, _, rfl, run_takeDeferred HK3.out, ?_⟩⟩
    refine ⟨.bool false, ?_, by rw [hno.out], hT2.out⟩
    simp [results, Tryz.f54, go_sem, hc5]
end Go.Proofs.YtiahpncglpfjeaaGreat
namespace Go.Proofs.YtiahpncglpfjeaaGreat
open Go.RowKit Go.Shelf
set_option linter.unusedVariables false

section
variable {P : Program} {ops : Array Oper} {rest : List Oper} {o : Oper} {a : Act} {w : World} {Q : Exit → Act → World → Prop} {dst : Option Tmp} {p v : Value} {t : TypeId} {d : TypeDesc} {x y : Operand}
/-- What the load of a whole block wants. -/
def LoadRow (P : Program) (ops : Array Oper) (Q : Exit → Act → World → Prop) (rest : List Oper) (dst : Option Tmp) (p : Value) (t : TypeId) (a : Act) (w : World) : Prop :=
  ∃ (B : Nat) (cs : Array Value), p = .pointer (some ⟨B, 0, none⟩) ∧ Box w B t cs ∧ (P.info? t).map (·.size) = some cs.size ∧ wpList P ops Q rest (a.put dst (.agg cs)) w
theorem LoadRow.mk {B : Nat} {cs : Array Value} (hp : p = .pointer (some ⟨B, 0, none⟩)) (hB : Box w B t cs) (hi : (P.info? t).map (·.size) = some cs.size) (h : wpList P ops Q rest (a.put dst (.agg cs)) w) : LoadRow P ops Q rest dst p t a w := ⟨B, cs, hp, hB, hi, h⟩
theorem row_load (hgd : o.guard = none) (ho : o.op = .load t x) (hu : P.underlying t = some d) (hd : d.isRow = true) (h : LoadRow P ops Q rest o.dst (a.eval x) t a w) : wpList P ops Q (o :: rest) a w := by
  obtain ⟨B, cs, hx, hB, hi, h⟩ := h
  exact wpList_load_blk hgd ho hx hB hu hd hi h
theorem row_load_g (hw : Region.wanted o (yielded ops a.tmps) = true) (ho : o.op = .load t x) (hu : P.underlying t = some d) (hd : d.isRow = true) (h : LoadRow P ops Q rest o.dst (a.eval x) t a w) : wpList P ops Q (o :: rest) a w := by
  obtain ⟨B, ⟨l⟩, hx, hB, hi, h⟩ := h
  exact wpList_load_part_g hw ho (f := 0) hx hB l (fun j v hv => by rw [Nat.zero_add]; simpa using hv) hu hd (by simpa using hi) h
/-- What the store of a whole block wants. -/
def StoreRow (P : Program) (ops : Array Oper) (Q : Exit → Act → World → Prop) (rest : List Oper) (dst : Option Tmp) (p v : Value) (t : TypeId) (a : Act) (w : World) : Prop :=
  ∃ (B : Nat) (cs old : Array Value), p = .pointer (some ⟨B, 0, none⟩) ∧ v = .agg cs ∧ Box w B t old ∧ (P.info? t).map (·.size) = some cs.size ∧ old.size = cs.size ∧ cs.all (·.oneCell') = true ∧ wpList P ops Q rest (a.put dst undef) (w.setRow B cs)
theorem StoreRow.mk {B : Nat} {cs old : Array Value} (hp : p = .pointer (some ⟨B, 0, none⟩)) (hv : v = .agg cs) (hB : Box w B t old) (hi : (P.info? t).map (·.size) = some cs.size) (hs : old.size = cs.size) (h1 : cs.all (·.oneCell') = true) (h : wpList P ops Q rest (a.put dst undef) (w.setRow B cs)) : StoreRow P ops Q rest dst p v t a w := ⟨B, cs, old, hp, hv, hB, hi, hs, h1, h⟩
theorem row_store (hgd : o.guard = none) (ho : o.op = .store t x y) (h : StoreRow P ops Q rest o.dst (a.eval x) (a.eval y) t a w) : wpList P ops Q (o :: rest) a w := by
  obtain ⟨B, cs, old, hx, hy, hB, hi, hs, h1, h⟩ := h
  exact wpList_store_blk hgd ho hx hy hB hi hs h1 h
end

theorem ros_info : (Tryz.prog.info? 33).map (·.size) = some 17 := by kernel_rfl
theorem ros_one (r : Ros.R) : (Ros.cells r).all (·.oneCell') = true := by
  refine Array.all_eq_true_iff_forall_mem.2 fun v hv => ?_
  obtain ⟨n, rfl⟩ := Ros.cells_ints r v (by simpa using hv)
  rfl
def rosZero : Ros.R := ⟨0, fun _ => 0, fun _ => 0⟩
theorem ros_zero : (Tryz.prog.info? 33).map (·.zero) = some (some (.agg (Ros.cells rosZero))) := by kernel_rfl
section
variable {ops : Array Oper} {rest : List Oper} {o : Oper} {a : Act} {w : World} {Q : Exit → Act → World → Prop}
theorem ros_alloc (hgd : o.guard = none) (ho : o.op = .alloc 33)
    (h : wpList Tryz.prog ops Q rest (a.put o.dst (.pointer (some ⟨w.heap.size, 0, none⟩))) (w.alloc (.cells (Ros.cells rosZero) 33))) : wpList Tryz.prog ops Q (o :: rest) a w :=
  wpList_alloc_z hgd ho ros_zero rfl h
theorem ros_store_new {x y : Operand} {v : World} {old : Array Value} {r : Ros.R} (hgd : o.guard = none) (ho : o.op = .store 33 x y) (hx : a.eval x = .pointer (some ⟨v.heap.size, 0, none⟩)) (hy : a.eval y = .agg (Ros.cells r))
    (hold : old.size = 17) (h : wpList Tryz.prog ops Q rest (a.put o.dst undef) (v.alloc (.cells (Ros.cells r) 33))) : wpList Tryz.prog ops Q (o :: rest) a (v.alloc (.cells old 33)) :=
  wpList_store_new hgd ho hx hy rfl rfl ros_info hold (ros_one _) h
end

theorem ros_load {ops : Array Oper} {rest : List Oper} {o : Oper} {a : Act} {w : World} {Q : Exit → Act → World → Prop} {x : Operand} (hgd : o.guard = none) (ho : o.op = .load 33 x) (h : LoadRow Tryz.prog ops Q rest o.dst (a.eval x) 33 a w) : wpList Tryz.prog ops Q (o :: rest) a w :=
  row_load hgd ho Tryz.underlying33 rfl h
theorem ros_load_g {ops : Array Oper} {rest : List Oper} {o : Oper} {a : Act} {w : World} {Q : Exit → Act → World → Prop} {x : Operand} (hw : Region.wanted o (yielded ops a.tmps) = true) (ho : o.op = .load 33 x) (h : LoadRow Tryz.prog ops Q rest o.dst (a.eval x) 33 a w) : wpList Tryz.prog ops Q (o :: rest) a w :=
  row_load_g hw ho Tryz.underlying33 rfl h
theorem ros_store {ops : Array Oper} {rest : List Oper} {o : Oper} {a : Act} {w : World} {Q : Exit → Act → World → Prop} {x y : Operand} (hgd : o.guard = none) (ho : o.op = .store 33 x y) (h : StoreRow Tryz.prog ops Q rest o.dst (a.eval x) (a.eval y) 33 a w) : wpList Tryz.prog ops Q (o :: rest) a w :=
  row_store hgd ho h

/-- What a going over of the seats knows. -/
structure Sit (B Bg : Nat) (w0 : World) (r : Ros.R) (W : World) : Prop where
  ros : Box W B 33 (Ros.cells r)
  sit : Box W Bg 95 #[.pointer (some ⟨B, 0, none⟩)]
  below : Below w0.heap.size w0 W
section
variable {B Bg : Nat} {w0 W W' : World} {r : Ros.R}
theorem Sit.turned {row : Option Nat} (h : Sit B Bg w0 r W) (hg : W.grownBy W' row) (hr : ∀ r, row = some r → w0.heap.size ≤ r ∧ ∃ o : Obj, W.heap[r]? = some o ∧ o.isCells = false) : Sit B Bg w0 r W' :=
  ⟨h.ros.turned hg fun r e => (hr r e).2, h.sit.turned hg fun r e => (hr r e).2, Below.turned h.below (Nat.le_refl _) hg fun r e => (hr r e).1⟩
theorem Sit.call (h : Sit B Bg w0 r W) (hb : Below W.heap.size W W') : Sit B Bg w0 r W' :=
  ⟨h.ros.below hb h.ros.lt, h.sit.below hb h.sit.lt, h.below.trans (hb.mono h.below.size)⟩
theorem Sit.drew (h : Sit B Bg w0 r W) : Sit B Bg w0 r W.drew := ⟨h.ros.drew, h.sit.drew, Below.drew h.below⟩
theorem Sit.far {p : Addr} {v : Value} {t : TypeId} {cs : Array Value} (h : Sit B Bg w0 r W) (hp : Box W p.block t cs) (h1 : 33 ≠ t) (h2 : 95 ≠ t) (hl : w0.heap.size ≤ p.block) : Sit B Bg w0 r (W.setCell p v) :=
  ⟨h.ros.far (fun e => Box.apart h.ros hp h1 e) _, h.sit.far (fun e => Box.apart h.sit hp h2 e) _, h.below.setCell hl _⟩
end
end Go.Proofs.YtiahpncglpfjeaaGreat
namespace Go.Proofs.YtiahpncglpfjeaaGreat
open Go.RowKit
set_option linter.unusedVariables false

theorem seat_in (a b c d : Int) (w : World) : (Op.equalIn 9998 30 (.agg #[.int .i64 a, .int .i64 b]) (.agg #[.int .i64 c, .int .i64 d])).run Tryz.prog w = .ok (a == c && b == d) w := by
  by_cases h1 : a = c
  · by_cases h2 : b = d
    · subst h1 h2; go_simp <;> simp
    · have h3 : (b == d) = false := by simpa using h2
      subst h1; go_simp <;> simp [h3, h2]
  · have h3 : (a == c) = false := by simpa using h1
    go_simp <;> simp [h3, h1]
theorem seat2_info : (Tryz.prog.info? 30).map (·.size) = some 2 := by kernel_rfl
theorem seatCells_list (r : Ros.R) (i : Nat) (hi : i < 8) : ((Ros.seatCells r).drop (i * 2)).take 2 = Ros.pair r i := by
  match i, hi with
  | 0, _ | 1, _ | 2, _ | 3, _ | 4, _ | 5, _ | 6, _ | 7, _ => rfl
theorem seat_part (r : Ros.R) (i : Nat) (hi : i < 8) (w : World) : (part 30 (Ros.seatCells r).toArray (i * 2)).run Tryz.prog w = .ok (.agg (Ros.pair r i).toArray) w := by
  have h := seatCells_list r i hi
  cases hq : Tryz.prog.info? 30 with
  | none => have := seat2_info; simp [hq] at this
  | some j =>
    have hs : j.size = 2 := by have := seat2_info; simpa [hq] using this
    simp [part, isAgg, sizeOf, typeInfo, hq, hs, run_underlying (Tryz.underlying30) w, h]
end Go.Proofs.YtiahpncglpfjeaaGreat
namespace Go.Proofs.YtiahpncglpfjeaaGreat
open Go.RowKit Go.Shelf
set_option linter.unusedVariables false
set_option linter.unusedSimpArgs false

set_option maxRecDepth 100000 in
set_option maxHeartbeats 8000000 in
theorem refros_may (r : Ros.R) (w : World) :
    Calls Tryz.prog 37 #[.agg (Ros.cells r)] w fun e w' => (∃ v, e = .returned (.bool v) ∧ (v = true ↔ Ros.Ok r)) ∧ Below w.heap.size w w' := by
  have hc : ∀ W : World, ∀ j, (W.alloc (.cells (Ros.cells r) 33)).cell? ⟨W.heap.size, j, none⟩ = (Ros.cells r)[j]? := fun W j => (Box.made W _ _).cell j
  have h0 := Ros.cells_0 r
  by_cases hv1 : r.version < 0
  · have d1 : decide (r.version < 0) = true := decide_eq_true hv1
    have hno := Lib.hid (show ¬ Ros.Ok r from fun h => by have := h.1; omega)
    clear hv1
    go_enter Tryz.func37, Tryz.ntmps37
    go_wp2
    go_ret
    exact ⟨by first | exact ⟨false, rfl, by simp; exact hno.out⟩ | exact .inl ⟨rfl, hno.out⟩, one_below _ _⟩
  have d1 : decide (r.version < 0) = false := decide_eq_false hv1
  by_cases hv2 : 1073741824 < r.version
  · have d2 : decide (1073741824 < r.version) = true := decide_eq_true hv2
    have hno := Lib.hid (show ¬ Ros.Ok r from fun h => by have := h.1; omega)
    clear hv1 hv2
    go_enter Tryz.func37, Tryz.ntmps37
    go_wp2
    go_ret
    exact ⟨by first | exact ⟨false, rfl, by simp; exact hno.out⟩ | exact .inl ⟨rfl, hno.out⟩, one_below _ _⟩
  have d2 : decide (1073741824 < r.version) = false := decide_eq_false hv2
  have HV := Lib.hid (show 0 ≤ r.version ∧ r.version ≤ 1073741824 from ⟨by omega, by omega⟩)
  clear hv1 hv2
  go_enter Tryz.func37, Tryz.ntmps37
  go_wp2
  go_loopw [3] (fun i wr => ∃ k : Nat, k ≤ 8 ∧ i = .int .i64 k ∧ Box wr w.heap.size 33 (Ros.cells r) ∧ Below w.heap.size w wr ∧ (∀ j, j < k → Ros.OkSeat r j) ∧ ∀ j i, j < i → i < k → r.peer j = -1 ∨ r.peer j ≠ r.peer i) (fun i _ => 8 - (intOf i).toNat)
  case atStart => exact ⟨0, by omega, rfl, Box.made _ _ _, one_below _ _, fun j hj => absurd hj (Nat.not_lt_zero j), fun j i _ hi => absurd hi (Nat.not_lt_zero i)⟩
  case round =>
    obtain ⟨k, hk, rfl, hB, hb, hall, hp⟩ := hrel
    have HALL := Lib.hid hall
    have HP := Lib.hid hp
    clear hall hp d1 d2 h0 hc
    by_cases hlt : k < 8
    · have hk8 : (k : Int) < 8 := by omega
      have rc := hB.cell
      have hlB := hB.lt
      have rp := Ros.cells_peer r k hlt
      have rg := Ros.cells_gen r k hlt
      have HS := Lib.hid (show Ros.Ok r → (0 ≤ r.gen k ∧ r.gen k ≤ 60000) ∧ (r.peer k = -1 ∨ ((0 ≤ r.peer k ∧ r.peer k < 12) ∧ 0 < r.gen k)) from fun h => h.seat k hlt)
      have HZ := Lib.hid (show (0 ≤ r.gen k ∧ r.gen k ≤ 60000) ∧ (r.peer k = -1 ∨ ((0 ≤ r.peer k ∧ r.peer k < 12) ∧ 0 < r.gen k)) → ∀ j, j < k + 1 → Ros.OkSeat r j from fun h j hj => by
        by_cases e : j = k
        · rw [e]; exact h
        · exact HALL.out j (by omega))
      obtain ⟨p, hpk⟩ : ∃ p, p = r.peer k := ⟨_, rfl⟩
      obtain ⟨g, hgk⟩ : ∃ g, g = r.gen k := ⟨_, rfl⟩
      rw [← hpk] at rp HS HZ
      rw [← hgk] at rg HS HZ
      have HPK := Lib.hid hpk
      have HB := Lib.hid hB
      have HBB := Lib.hid hb
      clear hpk hgk hB hb HALL
      by_cases q0 : p < -1
      · have f0 : decide (p < -1) = true := decide_eq_true q0
        have hno := Lib.hid (show ¬ Ros.Ok r from fun h => by have := HS.out h; omega)
        clear HS HZ q0
        go_wp2
        go_ret
        exact ⟨by first | exact ⟨false, rfl, by simp; exact hno.out⟩ | exact .inl ⟨rfl, hno.out⟩, HBB.out.alloc (Nat.le_of_lt hlB) _⟩
      have f0 : decide (p < -1) = false := decide_eq_false q0
      by_cases q1 : 12 ≤ p
      · have f1 : decide (12 ≤ p) = true := decide_eq_true q1
        have hno := Lib.hid (show ¬ Ros.Ok r from fun h => by have := HS.out h; omega)
        clear HS HZ q0 q1
        go_wp2
        go_ret
        exact ⟨by first | exact ⟨false, rfl, by simp; exact hno.out⟩ | exact .inl ⟨rfl, hno.out⟩, HBB.out.alloc (Nat.le_of_lt hlB) _⟩
      have f1 : decide (12 ≤ p) = false := decide_eq_false q1
      by_cases q2 : g < 0
      · have f2 : decide (g < 0) = true := decide_eq_true q2
        have hno := Lib.hid (show ¬ Ros.Ok r from fun h => by have := HS.out h; omega)
        clear HS HZ q0 q1 q2
        go_wp2
        go_ret
        exact ⟨by first | exact ⟨false, rfl, by simp; exact hno.out⟩ | exact .inl ⟨rfl, hno.out⟩, HBB.out.alloc (Nat.le_of_lt hlB) _⟩
      have f2 : decide (g < 0) = false := decide_eq_false q2
      by_cases q3 : 60000 < g
      · have f3 : decide (60000 < g) = true := decide_eq_true q3
        have hno := Lib.hid (show ¬ Ros.Ok r from fun h => by have := HS.out h; omega)
        clear HS HZ q0 q1 q2 q3
        go_wp2
        go_ret
        exact ⟨by first | exact ⟨false, rfl, by simp; exact hno.out⟩ | exact .inl ⟨rfl, hno.out⟩, HBB.out.alloc (Nat.le_of_lt hlB) _⟩
      have f3 : decide (60000 < g) = false := decide_eq_false q3
      by_cases q4 : 0 ≤ p
      · have f4 : decide (0 ≤ p) = true := decide_eq_true q4
        by_cases q5 : g < 1
        · have f5 : decide (g < 1) = true := decide_eq_true q5
          have hno := Lib.hid (show ¬ Ros.Ok r from fun h => by have := HS.out h; omega)
          clear HS HZ q0 q1 q2 q3 q4 q5
          go_wp2
          go_ret
          exact ⟨by first | exact ⟨false, rfl, by simp; exact hno.out⟩ | exact .inl ⟨rfl, hno.out⟩, HBB.out.alloc (Nat.le_of_lt hlB) _⟩
        have f5 : decide (g < 1) = false := decide_eq_false q5
        have hnew := Lib.hid (HZ.out (by omega))
        clear HS HZ q0 q1 q2 q3 q5
        go_wp2
        go_loopw [5] (fun i wr2 => ∃ m : Nat, m ≤ k ∧ i = .int .i64 m ∧ Box wr2 w.heap.size 33 (Ros.cells r) ∧ Box wr2 wr.heap.size 30 #[.int .i64 p, .int .i64 g] ∧ Below w.heap.size w wr2 ∧ ∀ j, j < m → r.peer j = -1 ∨ r.peer j ≠ p) (fun i _ => k - (intOf i).toNat)
        case atStart => exact ⟨0, by omega, rfl, HB.out.alloc _, Box.made _ _ _, HBB.out.alloc (Nat.le_of_lt hlB) _, fun j hj => absurd hj (Nat.not_lt_zero j)⟩
        case round =>
          obtain ⟨m, hm, rfl, hB2, hS2, hb2, hall2⟩ := hrel
          have HALL2 := Lib.hid hall2
          clear hall2 rc rp rg
          by_cases hmk : m < k
          · have hm8 : m < 8 := by omega
            have hm8' : (m : Int) < 8 := by omega
            have hmk' : (m : Int) < k := by omega
            have rc := hB2.cell
            have sc := hS2.cell
            have rp := Ros.cells_peer r m hm8
            have s0 : (#[.int .i64 p, .int .i64 g] : Array Value)[0]? = some (.int .i64 p) := rfl
            obtain ⟨q, hq⟩ : ∃ q, q = r.peer m := ⟨_, rfl⟩
            rw [← hq] at rp
            have HB2 := Lib.hid hB2
            have HS2 := Lib.hid hS2
            have HBB2 := Lib.hid hb2
            by_cases hqp : q = p
            · have hqe : (q == p) = true := by simpa using hqp
              have hno := Lib.hid (show ¬ Ros.Ok r from fun h => by
                have := (Ros.ok_iff.1 h).2.2 m k hmk hlt
                rw [← hq, ← HPK.out] at this
                omega)
              clear hq hqp hB2 hS2 hb2 q4
              go_upto_region 12 with fail
              go_quiet (fail)
              go_wp2
              go_ret
              exact ⟨by first | exact ⟨false, rfl, by simp; exact hno.out⟩ | exact .inl ⟨rfl, hno.out⟩, draws_below HBB2.out _⟩
            have hqe : (q == p) = false := by simpa using hqp
            have hn2 := Lib.hid (show ∀ j, j < m + 1 → r.peer j = -1 ∨ r.peer j ≠ p from fun j hj => by
              by_cases e : j = m
              · rw [e, ← hq]; exact .inr hqp
              · exact HALL2.out j (by omega))
            clear hq hB2 hS2 hb2 hqp q4
            go_upto_region 12 with fail
            go_quiet (fail)
            go_wp2
            go_roundw
            case rel => exact ⟨m + 1, by omega, by go_num, HB2.out.draws _, HS2.out.draws _, draws_below HBB2.out _, hn2.out⟩
            case measure => simp [intOf]; omega
          · have hmk' : ¬ (m : Int) < k := by omega
            have HB2 := Lib.hid hB2
            have HBB2 := Lib.hid hb2
            have hall3 := Lib.hid (show ∀ j i, j < i → i < k + 1 → r.peer j = -1 ∨ r.peer j ≠ r.peer i from fun j i hji hi => by
              by_cases e : i = k
              · rw [e, ← HPK.out]; exact HALL2.out j (by omega)
              · exact HP.out j i hji (by omega))
            clear hB2 hS2 hb2
            go_wp2
            go_roundw
            case rel => exact ⟨k + 1, by omega, by go_num, HB2.out, HBB2.out, hnew.out, hall3.out⟩
            case measure => simp [intOf]; omega
      · have f4 : decide (0 ≤ p) = false := decide_eq_false q4
        have hpm := Lib.hid (show p = -1 by omega)
        have hnew := Lib.hid (HZ.out (by omega))
        clear HS HZ q0 q1 q2 q3 
        go_wp2
        go_loopw [5] (fun i wr2 => ∃ m : Nat, m ≤ k ∧ i = .int .i64 m ∧ Box wr2 w.heap.size 33 (Ros.cells r) ∧ Box wr2 wr.heap.size 30 #[.int .i64 p, .int .i64 g] ∧ Below w.heap.size w wr2 ∧ ∀ j, j < m → r.peer j = -1 ∨ r.peer j ≠ p) (fun i _ => k - (intOf i).toNat)
        case atStart => exact ⟨0, by omega, rfl, HB.out.alloc _, Box.made _ _ _, HBB.out.alloc (Nat.le_of_lt hlB) _, fun j hj => absurd hj (Nat.not_lt_zero j)⟩
        case round =>
          obtain ⟨m, hm, rfl, hB2, hS2, hb2, hall2⟩ := hrel
          have HALL2 := Lib.hid hall2
          clear hall2 rc rp rg
          by_cases hmk : m < k
          · have hm8 : m < 8 := by omega
            have hm8' : (m : Int) < 8 := by omega
            have hmk' : (m : Int) < k := by omega
            have rc := hB2.cell
            have sc := hS2.cell
            have rp := Ros.cells_peer r m hm8
            have s0 : (#[.int .i64 p, .int .i64 g] : Array Value)[0]? = some (.int .i64 p) := rfl
            obtain ⟨q, hq⟩ : ∃ q, q = r.peer m := ⟨_, rfl⟩
            rw [← hq] at rp
            have HB2 := Lib.hid hB2
            have HS2 := Lib.hid hS2
            have HBB2 := Lib.hid hb2
            have hn2 := Lib.hid (show ∀ j, j < m + 1 → r.peer j = -1 ∨ r.peer j ≠ p from fun j hj => by
              by_cases e : j = m
              · rw [e, ← hq]; first | (by_cases e2 : q = -1; exact .inl e2; exact .inr (fun e3 => e2 (by have := hpm.out; omega)))
              · exact HALL2.out j (by omega))
            clear hq hB2 hS2 hb2 q4
            go_upto_region 12 with fail
            go_quiet (fail)
            go_wp2
            go_roundw
            case rel => exact ⟨m + 1, by omega, by go_num, HB2.out.draws _, HS2.out.draws _, draws_below HBB2.out _, hn2.out⟩
            case measure => simp [intOf]; omega
          · have hmk' : ¬ (m : Int) < k := by omega
            have HB2 := Lib.hid hB2
            have HBB2 := Lib.hid hb2
            have hall3 := Lib.hid (show ∀ j i, j < i → i < k + 1 → r.peer j = -1 ∨ r.peer j ≠ r.peer i from fun j i hji hi => by
              by_cases e : i = k
              · rw [e, ← HPK.out]; exact HALL2.out j (by omega)
              · exact HP.out j i hji (by omega))
            clear hB2 hS2 hb2
            go_wp2
            go_roundw
            case rel => exact ⟨k + 1, by omega, by go_num, HB2.out, HBB2.out, hnew.out, hall3.out⟩
            case measure => simp [intOf]; omega
    · have hk8 : ¬ (k : Int) < 8 := by omega
      have hyes := Lib.hid (show Ros.Ok r from Ros.ok_iff.2 ⟨HV.out, fun j hj => HALL.out j (by omega), fun j i hji hi => HP.out j i hji (by omega)⟩)
      have HBB := Lib.hid hb
      clear hB hb
      go_wp2
      go_ret
      exact ⟨by first | exact ⟨true, rfl, by simp; exact hyes.out⟩ | exact .inr ⟨rfl, hyes.out⟩, HBB.out⟩
end Go.Proofs.YtiahpncglpfjeaaGreat
namespace Im
open Go
/-- A number's bytes, the least first. -/
def bytesOf : Nat → Int → List Int
  | 0, _ => []
  | n + 1, v => bytesOf n v ++ [v / 2 ^ (8 * n) % 256]
theorem bytesOf_len : ∀ (n : Nat) (v : Int), (bytesOf n v).length = n
  | 0, _ => rfl
  | n + 1, v => by unfold bytesOf; rw [List.length_append, bytesOf_len n v]; rfl
def u8s (l : List Int) : List Value := l.map fun x => .int .u8 x
theorem u8s_len (l : List Int) : (u8s l).length = l.length := by unfold u8s; simp
theorem u8s_append (l m : List Int) : u8s (l ++ m) = u8s l ++ u8s m := by unfold u8s; simp
theorem u8s_one (l : List Int) : ∀ u ∈ u8s l, u.oneCell' = true := by
  intro u hu
  obtain ⟨x, _, rfl⟩ := List.mem_map.1 hu
  rfl
end Im
namespace Go.Proofs.YtiahpncglpfjeaaGreat
open Go.RowKit Go.Shelf
set_option linter.unusedVariables false

/-- From w to w' everything stays that lies below b, and everything else but block B and rows of bytes. -/
structure Wrote (b B : Nat) (w w' : World) : Prop where
  os : w'.os = w.os
  tape : w'.tape = w.tape
  output : w'.output = w.output
  size : w.heap.size ≤ w'.heap.size
  low : b ≤ B
  block : ∀ k, k < w.heap.size → (k < b ∨ k ≠ B ∧ ∀ cs, w.heap[k]? ≠ some (.cells cs 5 (0, 0))) → w'.heap[k]? = w.heap[k]?

section
variable {b B : Nat} {w w' w'' : World}
theorem Wrote.refl (h : b ≤ B) (w : World) : Wrote b B w w := ⟨rfl, rfl, rfl, Nat.le_refl _, h, fun _ _ _ => rfl⟩
theorem Wrote.trans (h : Wrote b B w w') (k : Wrote b B w' w'') : Wrote b B w w'' :=
  ⟨k.os.trans h.os, k.tape.trans h.tape, k.output.trans h.output, Nat.le_trans h.size k.size, h.low, fun i hi hc => by
    have e := h.block i hi hc
    rw [← e]
    refine k.block i (Nat.lt_of_lt_of_le hi h.size) ?_
    rcases hc with hc | ⟨h1, h2⟩
    · exact .inl hc
    · exact .inr ⟨h1, fun cs => by rw [e]; exact h2 cs⟩⟩
theorem Wrote.on {c : Nat} (h : Wrote b B w w') (hb : Below c w' w'') (hc : w'.heap.size ≤ c) : Wrote b B w w'' :=
  h.trans ⟨hb.os, hb.tape, hb.output, hb.size, h.low, fun i hi _ => hb.block i (by omega)⟩
theorem Wrote.call (h : Wrote b B w w') (hb : Below w'.heap.size w' w'') : Wrote b B w w'' := h.on hb (Nat.le_refl _)
theorem Wrote.alloc (h : Wrote b B w w') (o : Obj) : Wrote b B w (w'.alloc o) := h.call (one_below w' o)
theorem Wrote.drew (h : Wrote b B w w') : Wrote b B w w'.drew := ⟨h.os, h.tape, h.output, h.size, h.low, h.block⟩
theorem Wrote.put (h : Wrote b B w w') (i : Nat) (u : Value) : Wrote b B w (w'.setCell ⟨B, i, none⟩ u) := by
  have hg := (Below.refl 0 w').setCell (p := ⟨B, i, none⟩) (Nat.zero_le _) u
  refine h.trans ⟨hg.os, hg.tape, hg.output, hg.size, h.low, fun k hk hc => ?_⟩
  refine heap_setCell_other w' ⟨B, i, none⟩ k u ?_
  have := h.low
  show k ≠ B
  rcases hc with hc | hc
  · omega
  · exact hc.1
theorem Wrote.row {g : Nat} {cs0 : Array Value} (h : Wrote b B w w') (hg : Box w' g 5 cs0) (hbg : b ≤ g) (cs : Array Value) : Wrote b B w (w'.setRow g cs) := by
  have hz := Below.setRow' (g := g) (Below.refl 0 w') (Nat.zero_le _) cs
  refine h.trans ⟨hz.os, hz.tape, hz.output, hz.size, h.low, fun k hk hc => setRow_other w' g k cs ?_⟩
  rcases hc with hc | hc
  · omega
  · intro e; subst e; exact hc.2 _ hg.is
theorem Wrote.byte {g i : Nat} {u : Value} {cs0 : Array Value} (h : Wrote b B w w') (hg : Box w' g 5 cs0) (hbg : b ≤ g) : Wrote b B w (w'.setCell ⟨g, i, none⟩ u) := by
  have hz := (Below.refl 0 w').setCell (p := ⟨g, i, none⟩) (Nat.zero_le _) u
  refine h.trans ⟨hz.os, hz.tape, hz.output, hz.size, h.low, fun k hk hc => heap_setCell_other w' ⟨g, i, none⟩ k u ?_⟩
  show k ≠ g
  rcases hc with hc | hc
  · omega
  · intro e; subst e; exact hc.2 _ hg.is
theorem Wrote.grown {n : Nat} {v : Value} {xs : List Value} (h : Wrote b B w w') (ho : w'.ownsRow b 5 1 v n xs) (hg : w'.grownBy w'' v.ownBlock) : Wrote b B w w'' := by
  refine h.trans ⟨hg.os, hg.tape, hg.output, hg.size, h.low, fun k hk hc => hg.block k hk fun e => ?_⟩
  obtain ⟨_, ⟨rfl, _⟩ | ⟨g, cap, cur, rfl, hbg, hgg, _⟩⟩ := ho
  · cases e
  · have e' : k = g := by injection e
    subst e'
    rcases hc with hc | hc
    · omega
    · exact hc.2 _ hgg
theorem Wrote.grown' {n : Nat} {v : Value} {xs : List Value} {o : Obj} (h : Wrote b B w w') (ho : w'.ownsRow b 5 1 v n xs) (hg : (w'.alloc o).grownBy w'' v.ownBlock) : Wrote b B w w'' :=
  (h.alloc o).grown (ho.alloc o) hg
theorem Wrote.fresh (h : Wrote b B w w') {p : Addr} (hp : w.heap.size ≤ p.block) (u : Value) : Wrote b B w (w'.setCell p u) := by
  have hz := (Below.refl 0 w').setCell (p := p) (Nat.zero_le _) u
  exact ⟨hz.os.trans h.os, hz.tape.trans h.tape, hz.output.trans h.output, Nat.le_trans h.size hz.size, h.low, fun k hk hc => (heap_setCell_other w' p k u (by omega)).trans (h.block k hk hc)⟩
theorem Wrote.freshRow (h : Wrote b B w w') {g : Nat} (hp : w.heap.size ≤ g) (cs : Array Value) : Wrote b B w (w'.setRow g cs) := by
  have hz := Below.setRow' (g := g) (Below.refl 0 w') (Nat.zero_le _) cs
  exact ⟨hz.os.trans h.os, hz.tape.trans h.tape, hz.output.trans h.output, Nat.le_trans h.size hz.size, h.low, fun k hk hc => (setRow_other w' g k cs (by omega)).trans (h.block k hk hc)⟩
theorem Wrote.below (h : Wrote b B w w') : Below b w w' ∨ w.heap.size < b := by
  by_cases hs : w.heap.size < b
  · exact .inr hs
  · exact .inl ⟨h.os, h.tape, h.output, h.size, fun i hi => h.block i (by omega) (.inl hi)⟩
theorem Wrote.to (h : Wrote b B w w') (hs : b ≤ w.heap.size) : Below b w w' := ⟨h.os, h.tape, h.output, h.size, fun i hi => h.block i (by omega) (.inl hi)⟩
theorem Box.wrote {g : Nat} {t : TypeId} {cs : Array Value} (h : Box w g t cs) (k : Wrote b B w w') (hg : g ≠ B) (ht : t ≠ 5) : Box w' g t cs :=
  ⟨(k.block g h.lt (.inr ⟨hg, fun cs' e => by rw [h.is] at e; injection e with e; injection e with _ e _; exact ht e⟩)).trans h.is⟩
end


/-- What a writer writes to: the variable b in block Bb, b's bytes in a row of its own; the writer holds b's place in block Bp. -/
structure Wr (b Bb Bp : Nat) (bs : List Int) (W : World) : Prop where
  ptr : Box W Bp 115 #[.pointer (some ⟨Bb, 0, none⟩)]
  var : ∃ A c, Box W Bb 72 #[.slice A bs.length c] ∧ W.ownsRow b 5 1 (.slice A bs.length c) bs.length (Im.u8s bs)
section
variable {b Bb Bp : Nat} {bs : List Int} {W W' : World}
theorem Wr.call (h : Wr b Bb Bp bs W) (hb : Below W.heap.size W W') : Wr b Bb Bp bs W' := by
  obtain ⟨h1, A, c, h2, h3⟩ := h
  exact ⟨h1.below hb h1.lt, A, c, h2.below hb h2.lt, own_below h3 hb (Nat.le_refl _)⟩
theorem Wr.alloc (h : Wr b Bb Bp bs W) (o : Obj) : Wr b Bb Bp bs (W.alloc o) := h.call (one_below W o)
theorem Wr.ne (h : Wr b Bb Bp bs W) : Bp ≠ Bb := by
  obtain ⟨h1, A, c, h2, _⟩ := h
  exact Box.apart h1 h2 (by decide)
theorem Wr.off (h : Wr b Bb Bp bs W) {p : Addr} {t : TypeId} {cs : Array Value} (hp : Box W p.block t cs) (h1 : t ≠ 115) (h2 : t ≠ 72) (h3 : t ≠ 5) (u : Value) : Wr b Bb Bp bs (W.setCell p u) := by
  obtain ⟨k1, A, c, k2, k3⟩ := h
  exact ⟨k1.far (fun e => Box.apart k1 hp (fun e' => h1 e'.symm) e) u, A, c, k2.far (fun e => Box.apart k2 hp (fun e' => h2 e'.symm) e) u, ownsRow_setCell_other k3 (hp.unowned k3 (fun e => h3 e.symm)) u⟩
theorem Wr.offRow (h : Wr b Bb Bp bs W) {p : Nat} {t : TypeId} {cs : Array Value} (hp : Box W p t cs) (h1 : t ≠ 115) (h2 : t ≠ 72) (h3 : t ≠ 5) (cs' : Array Value) : Wr b Bb Bp bs (W.setRow p cs') := by
  obtain ⟨k1, A, c, k2, k3⟩ := h
  exact ⟨k1.row_far (fun e => Box.apart k1 hp (fun e' => h1 e'.symm) e) cs', A, c, k2.row_far (fun e => Box.apart k2 hp (fun e' => h2 e'.symm) e) cs', own_setRow k3 (hp.unowned k3 (fun e => h3 e.symm)) cs'⟩
end
end Go.Proofs.YtiahpncglpfjeaaGreat
namespace Go.Proofs.YtiahpncglpfjeaaGreat
open Go.RowKit Go.Shelf
set_option linter.unusedVariables false

theorem append_runs' {P : Program} (w : World) {t ty e : TypeId} {i : TypeInfo} {z : Value} {size bytes : Nat} (ht : P.underlying t = some (.slice e)) (hi : P.info? e = some i) (hz : i.zero = some z) (hs : i.size = size) (hby : i.bytes = bytes) (hzs : z.cells.size = size) (hsz : 0 < size)
    {base n : Nat} {v : Value} {xs : List Value} (ho : w.ownsRow base e size v n xs) {ad : Addr} {m c : Nat} {news : List Value} (hl : Lies w w.heap.size size (some ad) m news) (hm : m ≠ 0) (h1 : ∀ u ∈ news, u.oneCell' = true) (h63 : n + m ≤ maxLen) (hb : (n + m) * bytes ≤ 140737488355328) (hbase : base ≤ w.heap.size) :
    ∃ A' c' w', (Builtin.append_ #[t, t] ty #[v, .slice (some ad) m c]).run P w = .ok (.slice A' (n + m) c') w' ∧ w'.ownsRow base e size (.slice A' (n + m) c') (n + m) (xs ++ news) ∧ w.grownBy w' v.ownBlock := by
  obtain ⟨v', w', hr, h2, h3, _, _⟩ := run_append_own_at (P := P) w base t ty e i z size bytes ht hi hz hs hby hzs hsz v n xs ho ad m c news hl.len (fun j u hu => hl.cell ad rfl hm j u hu) h1 h63 hb hbase
  obtain ⟨A', c', rfl⟩ := owned_slice h2
  exact ⟨A', c', w', hr, h2, h3⟩
theorem exec_append' {P : Program} {o : Oper} {a : Act} {x y : Operand} {ts : Array TypeId} {W W' : World} {v1 v2 r : Value} (ho : o.op = .call { callee := .builtin .append, args := #[x, y], argTypes := ts }) (hx : a.eval x = v1) (hy : a.eval y = v2) (hr : (Builtin.append_ ts o.type #[v1, v2]).run P W = .ok r W') :
    (execOp a.eval o).run P W = .ok (.value r) W' := by
  unfold execOp
  simp only [ho, resolve, invoke, builtin, Sem.run_bind, Sem.run_pure, Result.andThen_ok, List.map_toArray, List.map_cons, List.map_nil, hx, hy, hr]
theorem u8_info : (Tryz.prog.info? 5).map (fun i => (i.zero, i.size, i.bytes)) = some (some (.int .u8 0), 1, 1) := by kernel_rfl
theorem u8_parts : ∃ i, Tryz.prog.info? 5 = some i ∧ i.zero = some (.int .u8 0) ∧ i.size = 1 ∧ i.bytes = 1 := by
  have h := u8_info
  cases hq : Tryz.prog.info? 5 with
  | none => rw [hq] at h; cases h
  | some i =>
    rw [hq] at h
    simp only [Option.map_some, Option.some.injEq, Prod.mk.injEq] at h
    exact ⟨i, rfl, h.1, h.2.1, h.2.2⟩
theorem lies_byte (w : World) (x : Int) : Lies (w.alloc (.cells #[.int .u8 x] 5)) (w.alloc (.cells #[.int .u8 x] 5)).heap.size 1 (some ⟨w.heap.size, 0, none⟩) 1 (Im.u8s [x]) := by
  refine ⟨rfl, fun _ => ⟨_, rfl, by simp⟩, fun ad e _ j u hu => ?_⟩
  injection e with e
  subst e
  have hadd : (⟨w.heap.size, 0, none⟩ : Addr).add j = ⟨w.heap.size, j, none⟩ := by unfold Addr.add; split <;> simp_all
  rw [hadd, (Box.made w _ _).cell j, ← hu]
  simp [Im.u8s]

set_option maxRecDepth 100000 in
set_option maxHeartbeats 4000000 in
theorem write_any (size : Nat) (v : Int) (bs : List Int) (b Bb Bp : Nat) (w : World) (hs : size ≤ 8) (hv : 0 ≤ v ∧ v ≤ 18446744073709551615) (hbB : b ≤ Bb) (h : Wr b Bb Bp bs w) (hl : bs.length + size ≤ 65536) :
    Calls Tryz.prog 118 #[.int .i64 size, .int .u64 v, .pointer (some ⟨Bp, 0, none⟩)] w fun e w' => e = .returned (.int .u64 v) ∧ Wr b Bb Bp (bs ++ Im.bytesOf size v) w' ∧ Wrote b Bb w w' := by
  have HH := Lib.hid h
  clear h
  go_enter Tryz.func118, Tryz.ntmps118
  go_wp2
  go_loopw [8] (fun i wr => ∃ k : Nat, k ≤ size ∧ i = .int .i64 k ∧ Wr b Bb Bp (bs ++ Im.bytesOf k v) wr ∧ Wrote b Bb w wr) (fun i _ => size - (intOf i).toNat)
  case atStart => exact ⟨0, by omega, rfl, by simpa [Im.bytesOf] using HH.out, Wrote.refl hbB w⟩
  case round =>
    obtain ⟨k, hk, rfl, hI, hK⟩ := hrel
    by_cases hlt : k < size
    · have hk8 : (k : Int) < size := by omega
      obtain ⟨A, c, hB, hO⟩ := hI.var
      have hP := hI.ptr
      have hlen : (bs ++ Im.bytesOf k v).length = bs.length + k := by rw [List.length_append, Im.bytesOf_len]
      rw [hlen] at hB hO
      generalize hn : bs.length + k = n at *
      have HI := Lib.hid hI
      have HK := Lib.hid hK
      have HP := Lib.hid hP
      have HB := Lib.hid hB
      have HO := Lib.hid hO
      clear hI hP hB hO hK
      have h8 : IntKind.i64.wrap (8 * (k : Int)) = 8 * k := by rw [IntKind.wrap_i64]; omega
      have hq : 0 ≤ v / 2 ^ (8 * k) ∧ v / 2 ^ (8 * k) ≤ 18446744073709551615 := by
        have hp : (0 : Int) < 2 ^ (8 * k) := Int.pow_pos (by decide)
        exact ⟨Int.ediv_nonneg hv.1 (Int.le_of_lt hp), Int.le_trans (Int.ediv_le_self _ hv.1) hv.2⟩
      obtain ⟨x, hx⟩ : ∃ x, x = v / 2 ^ (8 * k) % 256 := ⟨_, rfl⟩
      have hsn : bs ++ Im.bytesOf (k + 1) v = (bs ++ Im.bytesOf k v) ++ [x] := by rw [hx]; simp [Im.bytesOf]
      have hxw : IntKind.u8.wrap (v / 2 ^ (8 * (k : Int)).toNat) = x := by rw [show (8 * (k : Int)).toNat = 8 * k by omega, IntKind.wrap_u8, hx]
      have HSN := Lib.hid hsn
      clear hsn hx
      go_upto_region 4 with fail
      refine Rx.wp_region_lex0 (by kernel_rfl) [] (by kernel_rfl) (· = wr.drew) (fun W => Box W Bp 115 #[.pointer (some ⟨Bb, 0, none⟩)] ∧ Box W Bb 72 #[.slice A n c]) (fun _ => True) rfl (fun W hW => ⟨hW ▸ ⟨HP.out.drew, HB.out.drew⟩, trivial⟩) ?_
      repeat (first
        | (apply Rx.lex_free rfl rfl; focus (intro _; go_simp; first | done | rfl))
        | (apply Rx.lex_look rfl rfl rfl rfl; focus (intro W hW; obtain ⟨hW1, hW2⟩ := hW; have c0 := Box.cell hW1; have c1 := Box.cell hW2; clear hW1 hW2; go_simp; first | done | rfl)))
      obtain ⟨i0, hi0, hz0, hz1, hz2⟩ := u8_parts
      have szb : b ≤ wr.heap.size := Nat.le_trans hbB (Nat.le_of_lt HB.out.lt)
      obtain ⟨A2, c2, w2, hrun, own2, hg2⟩ := append_runs' (P := Tryz.prog) _ (ty := 72) Tryz.underlying72 hi0 hz0 hz1 hz2 rfl (by decide) ((HO.out.drew).alloc (.cells #[.int .u8 x] 5)) (c := 1) (lies_byte wr.drew x) (by decide) (Im.u8s_one _) (by unfold maxLen; omega) (by omega) (by simp; omega)
      have B2 := Lib.hid (grown_box HB.out.drew HO.out.drew (by decide) hg2)
      have P2 := Lib.hid (grown_box HP.out.drew HO.out.drew (by decide) hg2)
      have K2 := Lib.hid (HK.out.drew.grown' HO.out.drew hg2)
      have OW := Lib.hid own2
      have neP : Bp ≠ Bb := HI.out.ne
      clear own2 hg2
      refine Rx.lex_make rfl (W' := wr.drew.alloc (.cells #[.int .u8 x] 5)) (v := .slice (some ⟨wr.drew.heap.size, 0, none⟩) 1 1) ?_ ⟨⟨HP.out.drew.alloc _, HB.out.drew.alloc _⟩, trivial⟩ ?_
      focus (go_simp; first | done | rfl)
      refine Rx.lex_make rfl (W' := w2) (v := .slice A2 (n + 1) c2) (exec_append' (x := .tmp 14) (y := .tmp 20) (v1 := .slice A n c) (v2 := .slice (some ⟨wr.drew.heap.size, 0, none⟩) 1 1) rfl (by go_simp) (by go_simp) hrun) ⟨⟨P2.out, B2.out⟩, trivial⟩ ?_
      repeat (first
        | (apply Rx.lex_free rfl rfl; focus (intro _; go_simp; first | done | rfl))
        | (apply Rx.lex_look rfl rfl rfl rfl; focus (intro W hW; obtain ⟨hW1, hW2⟩ := hW; have c0 := Box.cell hW1; have c1 := Box.cell hW2; clear hW1 hW2; go_simp; first | done | rfl)))
      refine Rx.lex_store rfl rfl (C' := (· = w2.setCell ⟨Bb, 0, none⟩ (.slice A2 (n + 1) c2))) (D' := fun _ => True) (fun W hW => ⟨_, ?_, rfl⟩) (fun _ _ => ⟨trivial, trivial⟩) ?_
      focus (subst hW; have f2 := B2.out.free; have k2 := B2.out.cell; go_simp; first | done | rfl)
      refine Rx.lex_end fun W2 hW2 => ?_
      have ne2 := B2.out.unowned OW.out (by decide)
      have H3 : Wr b Bb Bp (bs ++ Im.bytesOf (k + 1) v) W2 := by
        subst hW2
        have hlen3 : ((bs ++ Im.bytesOf k v) ++ [x]).length = n + 1 := by rw [List.length_append, hlen]; rfl
        rw [HSN.out]
        refine ⟨P2.out.far (by show Bp ≠ Bb; exact neP) _, A2, c2, ?_, ?_⟩
        · rw [hlen3]; exact B2.out.put 0 _
        · rw [hlen3, Im.u8s_append]; exact ownsRow_setCell_other (a := ⟨Bb, 0, none⟩) OW.out ne2 _
      have K3 : Wrote b Bb w W2 := by subst hW2; exact K2.out.put _ _
      have H4 := Lib.hid H3
      have K4 := Lib.hid K3
      clear H3 K3 hW2 hrun ne2 hlen
      go_wp2
      go_roundw
      case rel => exact ⟨k + 1, by omega, by go_num, H4.out, K4.out⟩
      case measure => simp [intOf]; omega
    · have hk8 : ¬ (k : Int) < size := by omega
      obtain rfl : k = size := by omega
      have HI := Lib.hid hI
      have HK := Lib.hid hK
      clear hI hK
      go_wp2
      go_ret
      exact ⟨rfl, HI.out, HK.out⟩
end Go.Proofs.YtiahpncglpfjeaaGreat
