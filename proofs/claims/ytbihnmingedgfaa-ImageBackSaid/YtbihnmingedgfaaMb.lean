/-
Several texts in one: Rx Qb Qc Qd Qe Iz Iq Qf Qg Ds Iu It Ol Oc Oz Qh Bd Op Tj Iw.
-/
import Derived.Orders
import Derived.Tactics
import Derived.Tactics2
import Derived.KernelRfl
import Derived.Test.YtbihnmingedgfaaQa
import Derived.Test.YtbihnmingedgfaaI1
import Derived.Test.YtbihnmingedgfaaIl
import Derived.Test.YtbihnmingedgfaaIp
import Derived.Test.YtbihnmingedgfaaGr
import Derived.Test.YtbihnmingedgfaaEq
import Derived.Test.YtbihnmingedgfaaTk
import Derived.Test.YtbihnmingedgfaaIj
import Derived.BigQuiet
import Derived.Test.YtbihnmingedgfaaDp
import Derived.Laws.BytesArg
import Derived.Test.YtbihnmingedgfaaQx
import Derived.Test.YtbihnmingedgfaaOw
import Derived.Deep.MidRow
import Derived.Test.YtbihnmingedgfaaIa
import Derived.Test.YtbihnmingedgfaaNr
import GoSem.Claim
import Derived.RowKit
import Derived.ChangeShapes
import Derived.Test.YtbihnmingedgfaaMw
import Derived.ProofKit
import Derived.OpenShut
import Derived.Carry
import Derived.Lib.SmallJoins
import Derived.ChangeOld
import Derived.ChangeArms
import Derived.Test.YtbihnmingedgfaaTa
import Derived.Test.YtbihnmingedgfaaTd
import Derived.Test.YtbihnmingedgfaaIg
/-
As Rp, where a call may throw, too: X is what it leaves then. A region that draws its order, whose operations are addresses and numbers, looks, calls that leave a class of worlds, and acts (stores; what makes memory) that stand in one order among themselves and towards the calls, the stores also towards the looks: one walk in the order of the text serves every order.
-/




namespace Rx
open Go
/-- What a call that throws may leave. -/
abbrev Thr := List PanicEntry → World → Prop

def isHard (o : Oper) : Bool := match o.op with | .store .. => true | _ => false
def isMake (o : Oper) : Bool := match o.op with | .buildSlice .. | .alloc .. => true | .call c => (match c.callee with | .builtin .append | .value _ => true | _ => false) | _ => false
def isStore (o : Oper) : Bool := isHard o || isMake o
/-- The world is looked at, and left as it is. -/
def isLook (o : Oper) : Bool := match o.op with | .load .. | .nilCheck .. => true | _ => false
/-- Nothing of the world is asked. -/
def isFree (o : Oper) : Bool := match o.op with | .fieldAddr .. | .indexAddr .. | .move .. | .assign .. | .pick .. | .extract .. | .binOp .. | .unOp .. | .build .. | .convert .. => true | _ => false

theorem store_free {o : Oper} (h : isStore o = true) : isFree o = false := by
  unfold isStore isHard isMake at h
  unfold isFree
  generalize o.op = x at h ⊢
  cases x <;> first | rfl | (exact absurd h (by decide)) | (simp at h)
theorem store_look {o : Oper} (h : isStore o = true) : isLook o = false := by
  unfold isStore isHard isMake at h
  unfold isLook
  generalize o.op = x at h ⊢
  cases x <;> first | rfl | (exact absurd h (by decide)) | (simp at h)

/-- What an operation leaves: the value v, a world of C. -/
def Gives (P : Program) (X : Thr) (o : Oper) (a : Act) (w : World) (v : Value) (C : World → Prop) : Prop :=
  match (execOp a.eval o).run P w with
  | .ok (.value u) w1 => u = v ∧ C w1
  | .ok .skip w1 => undef = v ∧ C w1
  | .ok (.enter f args) w1 => Calls P f args w1 fun e w2 => (e = .returned v ∧ C w2) ∨ ∃ ch, e = .panicked ch ∧ X ch w2
  | _ => False

theorem Gives.wp {P : Program} {X : Thr} {o : Oper} {a : Act} {w : World} {v : Value} {C : World → Prop} {K : Act → World → Prop} {Q : Exit → Act → World → Prop} (h : Gives P X o a w v C) (hX : ∀ ch w', X ch w' → Q (.panic ch) a w') (hK : ∀ w', C w' → K (a.put o.dst v) w') : o.wp P a w K Q := by
  unfold Gives at h
  unfold Oper.wp
  generalize (execOp a.eval o).run P w = r at *
  cases r with
  | ok n w1 =>
    cases n <;> simp only [Oper.upon] at h ⊢
    case value u => obtain ⟨rfl, h⟩ := h; exact hK _ h
    case skip => obtain ⟨rfl, h⟩ := h; exact hK _ h
    case enter f args =>
      refine h.mono fun e w2 hq => ?_
      rcases hq with ⟨he, hw⟩ | ⟨ch, he, hw⟩
      · subst he; exact hK _ hw
      · subst he; exact hX _ _ hw
  | halt x w1 => cases h
theorem Gives.congr {P : Program} {X : Thr} {o : Oper} {a a' : Act} {w : World} {v : Value} {C : World → Prop} (h : Gives P X o a w v C) (he : execOp a'.eval o = execOp a.eval o) : Gives P X o a' w v C := by
  unfold Gives at *; rw [he]; exact h

/-- The walk in the order of the text: C is what is known of the world, D what is known of it till the next store, E what is known all the time; n is how many have been; the looks of st ask E alone. -/
def wpLex (P : Program) (X : Thr) (st : List Nat) (E : World → Prop) (Q : Act → (World → Prop) → Prop) : List Oper → Nat → Act → (World → Prop) → (World → Prop) → Prop
  | [], _, a, C, _ => Q a C
  | o :: rest, n, a, C, D =>
    if isStore o then ∃ v C' D', (∀ w, C w → Gives P X o a w v C') ∧ (isHard o = false → D' = D) ∧ (∀ w, C' w → D' w ∧ E w) ∧ wpLex P X st E Q rest (n + 1) (a.put o.dst v) C' D'
    else if isFree o then ∃ v, (∀ w, Gives P X o a w v (fun w' => w' = w)) ∧ wpLex P X st E Q rest (n + 1) (a.put o.dst v) C D
    else if isLook o then ∃ v, (∀ w, (if st.contains n then E w else D w) → Gives P X o a w v (fun w' => w' = w)) ∧ wpLex P X st E Q rest (n + 1) (a.put o.dst v) C D
    else ∃ v, (∀ w, C w → Gives P X o a w v C) ∧ wpLex P X st E Q rest (n + 1) (a.put o.dst v) C D

/-- A run in the order of the text, written out. -/
structure Run (P : Program) (X : Thr) (st : Nat → Bool) (E : World → Prop) (l : List Oper) (A : Nat → Act) (C D : Nat → World → Prop) (v : Nat → Value) : Prop where
  act : ∀ i o, l[i]? = some o → A (i + 1) = (A i).put o.dst (v i)
  store : ∀ i o, l[i]? = some o → isStore o = true → ∀ w, C i w → Gives P X o (A i) w (v i) (C (i + 1))
  free : ∀ i o, l[i]? = some o → isStore o = false → isFree o = true → C (i + 1) = C i ∧ ∀ w, Gives P X o (A i) w (v i) (fun w' => w' = w)
  look : ∀ i o, l[i]? = some o → isStore o = false → isFree o = false → isLook o = true → C (i + 1) = C i ∧ ∀ w, (if st i then E w else D i w) → Gives P X o (A i) w (v i) (fun w' => w' = w)
  read : ∀ i o, l[i]? = some o → isStore o = false → isFree o = false → isLook o = false → C (i + 1) = C i ∧ ∀ w, C i w → Gives P X o (A i) w (v i) (C i)
  soft : ∀ i o, l[i]? = some o → isHard o = false → D (i + 1) = D i
  held : ∀ i, i ≤ l.length → ∀ w, C i w → D i w ∧ E w

def consF {α : Type} (x : α) (f : Nat → α) : Nat → α
  | 0 => x
  | i + 1 => f i
theorem Run.cons {P : Program} {X : Thr} {st : Nat → Bool} {E : World → Prop} {l : List Oper} {o : Oper} {a : Act} {C D C1 D1 : World → Prop} {u : Value} {A : Nat → Act} {Cs Ds : Nat → World → Prop} {v : Nat → Value} (hr : Run P X (fun i => st (i + 1)) E l A Cs Ds v) (hA : A 0 = a.put o.dst u) (hC : Cs 0 = C1) (hD : Ds 0 = D1) (hCD : ∀ w, C w → D w ∧ E w)
    (h1 : isStore o = true → ∀ w, C w → Gives P X o a w u C1) (h2 : isStore o = false → isFree o = true → C1 = C ∧ ∀ w, Gives P X o a w u (fun w' => w' = w)) (h3 : isStore o = false → isFree o = false → isLook o = true → C1 = C ∧ ∀ w, (if st 0 then E w else D w) → Gives P X o a w u (fun w' => w' = w))
    (h4 : isStore o = false → isFree o = false → isLook o = false → C1 = C ∧ ∀ w, C w → Gives P X o a w u C) (h5 : isHard o = false → D1 = D) : Run P X st E (o :: l) (consF a A) (consF C Cs) (consF D Ds) (consF u v) := by
  refine ⟨?_, ?_, ?_, ?_, ?_, ?_, ?_⟩
  · intro i o' ho'
    cases i with
    | zero => simp at ho'; subst ho'; exact hA
    | succ i => exact hr.act i o' (by simpa using ho')
  · intro i o' ho'
    cases i with
    | zero => simp at ho'; subst ho'; intro hs w hw; show Gives P X o a w u (Cs 0); rw [hC]; exact h1 hs w hw
    | succ i => exact hr.store i o' (by simpa using ho')
  · intro i o' ho'
    cases i with
    | zero => simp at ho'; subst ho'; intro hs hf; exact ⟨hC.trans (h2 hs hf).1, (h2 hs hf).2⟩
    | succ i => exact hr.free i o' (by simpa using ho')
  · intro i o' ho'
    cases i with
    | zero => simp at ho'; subst ho'; intro hs hf hl; exact ⟨hC.trans (h3 hs hf hl).1, (h3 hs hf hl).2⟩
    | succ i => exact hr.look i o' (by simpa using ho')
  · intro i o' ho'
    cases i with
    | zero => simp at ho'; subst ho'; intro hs hf hl; exact ⟨hC.trans (h4 hs hf hl).1, (h4 hs hf hl).2⟩
    | succ i => exact hr.read i o' (by simpa using ho')
  · intro i o' ho'
    cases i with
    | zero => simp at ho'; subst ho'; intro hh; exact hD.trans (h5 hh)
    | succ i => exact hr.soft i o' (by simpa using ho')
  · intro i hi
    cases i with
    | zero => exact hCD
    | succ i => exact hr.held i (by simpa using hi)
theorem run_of_lex {P : Program} {X : Thr} {st : List Nat} {E : World → Prop} {Q : Act → (World → Prop) → Prop} : ∀ (l : List Oper) (n : Nat) (a : Act) (C D : World → Prop), (∀ w, C w → D w ∧ E w) → wpLex P X st E Q l n a C D →
    ∃ A Cs Ds v, Run P X (fun i => st.contains (n + i)) E l A Cs Ds v ∧ A 0 = a ∧ Cs 0 = C ∧ Ds 0 = D ∧ Q (A l.length) (Cs l.length)
  | [], n, a, C, D, hCD, h => ⟨fun _ => a, fun _ => C, fun _ => D, fun _ => undef, ⟨fun i o h => by simp at h, fun i o h => by simp at h, fun i o h => by simp at h, fun i o h => by simp at h, fun i o h => by simp at h, fun i o h => by simp at h, fun i _ w hw => hCD w hw⟩, rfl, rfl, rfl, h⟩
  | o :: l, n, a, C, D, hCD, h => by
    unfold wpLex at h
    have shift : (fun i => st.contains (n + 1 + i)) = fun i => (fun j => st.contains (n + j)) (i + 1) := funext fun i => by
      show st.contains (n + 1 + i) = st.contains (n + (i + 1)); rw [show n + 1 + i = n + (i + 1) by omega]
    by_cases hs : isStore o = true
    · rw [if_pos hs] at h
      obtain ⟨u, C', D', h1, hd, hcd, h2⟩ := h
      obtain ⟨A, Cs, Ds, v, hr, hA, hC, hD, hQ⟩ := run_of_lex l (n + 1) _ C' D' hcd h2
      rw [shift] at hr
      exact ⟨_, _, _, _, Run.cons (st := fun j => st.contains (n + j)) hr hA hC hD hCD (fun _ => h1) (fun e => by rw [hs] at e; cases e) (fun e => by rw [hs] at e; cases e) (fun e => by rw [hs] at e; cases e) hd, rfl, rfl, rfl, hQ⟩
    · have hs0 : isStore o = false := by simpa using hs
      have hh0 : isHard o = false := by simp [isStore] at hs0; exact hs0.1
      rw [if_neg hs] at h
      by_cases hf : isFree o = true
      · rw [if_pos hf] at h
        obtain ⟨u, h1, h2⟩ := h
        obtain ⟨A, Cs, Ds, v, hr, hA, hC, hD, hQ⟩ := run_of_lex l (n + 1) _ C D hCD h2
        rw [shift] at hr
        exact ⟨_, _, _, _, Run.cons (st := fun j => st.contains (n + j)) hr hA hC hD hCD (fun e => absurd e hs) (fun _ _ => ⟨rfl, h1⟩) (fun _ e => by rw [hf] at e; cases e) (fun _ e => by rw [hf] at e; cases e) (fun _ => rfl), rfl, rfl, rfl, hQ⟩
      · rw [if_neg hf] at h
        by_cases hl : isLook o = true
        · rw [if_pos hl] at h
          obtain ⟨u, h1, h2⟩ := h
          obtain ⟨A, Cs, Ds, v, hr, hA, hC, hD, hQ⟩ := run_of_lex l (n + 1) _ C D hCD h2
          rw [shift] at hr
          exact ⟨_, _, _, _, Run.cons (st := fun j => st.contains (n + j)) hr hA hC hD hCD (fun e => absurd e hs) (fun _ e => absurd e hf) (fun _ _ _ => ⟨rfl, h1⟩) (fun _ _ e => by rw [hl] at e; cases e) (fun _ => rfl), rfl, rfl, rfl, hQ⟩
        · rw [if_neg hl] at h
          obtain ⟨u, h1, h2⟩ := h
          obtain ⟨A, Cs, Ds, v, hr, hA, hC, hD, hQ⟩ := run_of_lex l (n + 1) _ C D hCD h2
          rw [shift] at hr
          exact ⟨_, _, _, _, Run.cons (st := fun j => st.contains (n + j)) hr hA hC hD hCD (fun e => absurd e hs) (fun _ e => absurd e hf) (fun _ _ e => absurd e hl) (fun _ _ _ => ⟨rfl, h1⟩) (fun _ => rfl), rfl, rfl, rfl, hQ⟩

/-! Frames: which operations have been. -/
section
variable {l : List Oper} {v : Nat → Value} {a0 : Act}
structure Shape (l : List Oper) (v : Nat → Value) (a0 : Act) (S : Nat → Bool) (a : Act) : Prop where
  size : a.tmps.size = a0.tmps.size
  defers : a.defers = a0.defers
  done : ∀ j o t, l[j]? = some o → o.dst = some t → S j = true → a.tmps[t]? = if t < a0.tmps.size then some (v j) else none
  rest : ∀ t, (∀ j o, l[j]? = some o → o.dst = some t → S j = false) → a.tmps[t]? = a0.tmps[t]?

def Distinct (l : List Oper) : Prop := ∀ (i j : Nat) (oi oj : Oper) (t : Tmp), l[i]? = some oi → l[j]? = some oj → oi.dst = some t → oj.dst = some t → i = j

theorem Shape.start : Shape l v a0 (fun _ => false) a0 := ⟨rfl, rfl, fun _ _ _ _ _ h => (by cases h), fun _ _ => rfl⟩
theorem Shape.put {S : Nat → Bool} {a : Act} (hd : Distinct l) (h : Shape l v a0 S a) {i : Nat} {o : Oper} (ho : l[i]? = some o) : Shape l v a0 (fun j => S j || j == i) (a.put o.dst (v i)) := by
  cases hdst : o.dst with
  | none =>
    refine ⟨h.size, h.defers, fun j oj t hj ht hS => ?_, fun t ht => ?_⟩
    · simp only [Bool.or_eq_true, beq_iff_eq] at hS
      rcases hS with hS | rfl
      · exact h.done j oj t hj ht hS
      · rw [ho] at hj; injection hj with hj; subst hj; rw [hdst] at ht; cases ht
    · exact h.rest t fun j oj hj ht' => by have := ht j oj hj ht'; simp at this; exact this.1
  | some d =>
    refine ⟨by simp [Act.put, h.size], h.defers, fun j oj t hj ht hS => ?_, fun t ht => ?_⟩
    · simp only [Act.put, Array.getElem?_setIfInBounds]
      by_cases htd : d = t
      · subst htd
        have : j = i := hd j i oj o d hj ho ht hdst
        subst this
        rw [if_pos rfl, h.size]
      · rw [if_neg htd]
        simp only [Bool.or_eq_true, beq_iff_eq] at hS
        rcases hS with hS | rfl
        · exact h.done j oj t hj ht hS
        · rw [ho] at hj; injection hj with hj; subst hj; rw [hdst] at ht; injection ht with ht; exact absurd ht htd
    · have hne : d ≠ t := fun e => by subst e; have := ht i o ho hdst; simp at this
      simp only [Act.put, Array.getElem?_setIfInBounds, if_neg hne]
      exact h.rest t fun j oj hj ht' => by have := ht j oj hj ht'; simp at this; exact this.1
theorem Shape.same {S S' : Nat → Bool} {a a' : Act} (h : Shape l v a0 S a) (h' : Shape l v a0 S' a') {t : Nat} (hS : ∀ j o, l[j]? = some o → o.dst = some t → S j = S' j) : a.tmps[t]? = a'.tmps[t]? := by
  by_cases hx : ∃ j o, l[j]? = some o ∧ o.dst = some t ∧ S j = true
  · obtain ⟨j, o, hj, ht, hs⟩ := hx
    rw [h.done j o t hj ht hs, h'.done j o t hj ht (by rw [← hS j o hj ht]; exact hs)]
  · have hn : ∀ j o, l[j]? = some o → o.dst = some t → S j = false := fun j o hj ht => by
      cases hs : S j
      · rfl
      · exact absurd ⟨j, o, hj, ht, hs⟩ hx
    rw [h.rest t hn, h'.rest t fun j o hj ht => by rw [← hS j o hj ht]; exact hn j o hj ht]
theorem Shape.ext {S S' : Nat → Bool} {a a' : Act} (h : Shape l v a0 S a) (h' : Shape l v a0 S' a') (hS : ∀ j o, l[j]? = some o → S j = S' j) : a = a' := by
  have ht : a.tmps = a'.tmps := Array.ext_getElem? fun t => h.same h' fun j o hj _ => hS j o hj
  have hd : a.defers = a'.defers := h.defers.trans h'.defers.symm
  cases a; cases a'; simp_all
theorem Shape.congr {S S' : Nat → Bool} {a : Act} (h : Shape l v a0 S a) (hS : ∀ j o, l[j]? = some o → S j = S' j) : Shape l v a0 S' a :=
  ⟨h.size, h.defers, fun j o t hj ht hs => h.done j o t hj ht (by rw [hS j o hj]; exact hs), fun t ht => h.rest t fun j o hj hd => by rw [hS j o hj]; exact ht j o hj hd⟩
theorem Run.shape {P : Program} {X : Thr} {st : Nat → Bool} {E : World → Prop} {A : Nat → Act} {C D : Nat → World → Prop} (hr : Run P X st E l A C D v) (hd : Distinct l) : ∀ k, k ≤ l.length → Shape l v (A 0) (fun j => decide (j < k)) (A k)
  | 0, _ => Shape.start.congr fun j o _ => by simp
  | k + 1, hk => by
    have ho : l[k]? = some (l[k]'(by omega)) := List.getElem?_eq_getElem (by omega)
    rw [hr.act k _ ho]
    refine ((Run.shape hr hd k (by omega)).put hd ho).congr fun j o _ => ?_
    rw [Bool.eq_iff_iff]; simp; omega
end

/-! The orders. -/
/-- Does i wait for j? As the table says. -/
def tb (b : Array Nat) (i j : Nat) : Bool := (b.getD i 0).testBit j
def pairB (st : List Nat) (l : List Oper) (b : Array Nat) (i j : Nat) : Bool :=
  match l[i]?, l[j]? with
  | some oi, some oj =>
    (!(tb b i j) || oi.after.any fun e => Region.binds .any e && (e.on == j || tb b e.on j)) &&
    (i == j || ((match oi.dst, oj.dst with | some d, some d' => d != d' | _, _ => true) &&
      (match oj.dst with | some d => !(oi.looksAt l.toArray).contains d || (if j < i then tb b i j else tb b j i) | none => true) &&
      (!isStore oj || isFree oi || (isLook oi && (!isHard oj || st.contains i)) || (if j < i then tb b i j else tb b j i))))
  | _, _ => true
def oneB (l : List Oper) (i : Nat) : Bool :=
  match l[i]? with
  | some o => o.guard.isNone && !(isStore o && isFree o) && o.after.all fun e => !Region.binds .any e || decide (e.on < i)
  | none => true
def okB (st : List Nat) (l : List Oper) : Bool :=
  Region.noSelect l.toArray && ((List.range l.length).all fun i => oneB l i && (List.range l.length).all fun j => pairB st l (Region.before l.toArray) i j)

structure Ok (st : List Nat) (l : List Oper) (cl : Nat → Nat → Bool) : Prop where
  sel : Region.noSelect l.toArray = true
  guard : ∀ (i : Nat) (o : Oper), l[i]? = some o → o.guard = none
  down : ∀ (i : Nat) (o : Oper), l[i]? = some o → ∀ e ∈ o.after, Region.binds .any e = true → e.on < i
  cert : ∀ (i j : Nat) (o oj : Oper), l[i]? = some o → l[j]? = some oj → cl i j = true → ∃ e ∈ o.after, Region.binds .any e = true ∧ (e.on = j ∨ cl e.on j = true)
  dist : Distinct l
  looks : ∀ (i j : Nat) (oi oj : Oper) (t : Tmp), l[i]? = some oi → l[j]? = some oj → i ≠ j → oj.dst = some t → t ∈ oi.looksAt l.toArray → (if j < i then cl i j else cl j i) = true
  store : ∀ (i j : Nat) (oi oj : Oper), l[i]? = some oi → l[j]? = some oj → i ≠ j → isStore oj = true → isFree oi = false → (isLook oi && (!isHard oj || st.contains i)) = false → (if j < i then cl i j else cl j i) = true
theorem Ok.of (st : List Nat) (l : List Oper) (h : okB st l = true) : Ok st l (tb (Region.before l.toArray)) := by
  simp only [okB, Bool.and_eq_true] at h
  obtain ⟨h0, h⟩ := h
  have h1 : ∀ i o, l[i]? = some o → oneB l i = true ∧ ∀ j oj, l[j]? = some oj → pairB st l (Region.before l.toArray) i j = true := fun i o ho => by
    have hi : i < l.length := (List.getElem?_eq_some_iff.1 ho).1
    have := List.all_eq_true.1 h i (List.mem_range.2 hi)
    simp only [Bool.and_eq_true] at this
    exact ⟨this.1, fun j oj hj => List.all_eq_true.1 this.2 j (List.mem_range.2 (List.getElem?_eq_some_iff.1 hj).1)⟩
  have one : ∀ i o, l[i]? = some o → (o.guard.isNone = true ∧ (!(isStore o && isFree o)) = true) ∧ (o.after.all fun e => !Region.binds .any e || decide (e.on < i)) = true := fun i o ho => by
    have := (h1 i o ho).1
    simp only [oneB, ho, Bool.and_eq_true] at this
    exact this
  have two : ∀ i j oi oj, l[i]? = some oi → l[j]? = some oj →
      (!(tb (Region.before l.toArray) i j) || oi.after.any fun e => Region.binds .any e && (e.on == j || tb (Region.before l.toArray) e.on j)) = true ∧
      (i == j || ((match oi.dst, oj.dst with | some d, some d' => d != d' | _, _ => true) &&
      (match oj.dst with | some d => !(oi.looksAt l.toArray).contains d || (if j < i then tb (Region.before l.toArray) i j else tb (Region.before l.toArray) j i) | none => true) &&
      (!isStore oj || isFree oi || (isLook oi && (!isHard oj || st.contains i)) || (if j < i then tb (Region.before l.toArray) i j else tb (Region.before l.toArray) j i)))) = true := fun i j oi oj hi hj => by
    have := (h1 i oi hi).2 j oj hj
    simp only [pairB, hi, hj, Bool.and_eq_true] at this
    exact this
  refine ⟨h0, fun i o ho => by simpa using (one i o ho).1.1, fun i o ho e he hb => ?_, fun i j o oj hi hj hc => ?_, fun i j oi oj t hi hj hdi hdj => ?_, fun i j oi oj t hi hj hne hdj ht => ?_, fun i j oi oj hi hj hne hs hf hlk => ?_⟩
  · have := (Array.all_eq_true_iff_forall_mem.1 (one i o ho).2) e he
    simpa [hb] using this
  · have := (two i j o oj hi hj).1
    rw [hc] at this
    simp at this
    obtain ⟨k, hk, h1, h2⟩ := this
    exact ⟨o.after[k], Array.getElem_mem hk, h1, h2⟩
  · by_cases hij : i = j
    · exact hij
    · have := (two i j oi oj hi hj).2
      simp [hij, hdi, hdj] at this
  · have := (two i j oi oj hi hj).2
    simp only [Bool.or_eq_true, beq_iff_eq, Bool.and_eq_true, hne, false_or, hdj] at this
    have h2 := this.1.2
    rcases h2 with h2 | h2
    · simp at h2; exact absurd ht h2
    · exact h2
  · have := (two i j oi oj hi hj).2
    simp only [Bool.or_eq_true, beq_iff_eq, Bool.and_eq_true, hne, false_or] at this
    rcases this.2 with ((h2 | h2) | h2) | h2
    · simp [hs] at h2
    · rw [hf] at h2; cases h2
    · simp only [h2.1, Bool.true_and] at hlk; have h3' := h2.2; simp only [Bool.or_eq_false_iff] at hlk; rcases h3' with h3 | h3
      · rw [hlk.1] at h3; cases h3
      · rw [hlk.2] at h3; cases h3
    · exact h2

/-- How many have not been. -/
def unl (f : Nat → Bool) : Nat → Nat
  | 0 => 0
  | k + 1 => unl f k + (if f k then 0 else 1)
theorem unl_le (f : Nat → Bool) : ∀ n, unl f n ≤ n
  | 0 => Nat.le_refl _
  | n + 1 => by have := unl_le f n; unfold unl; split <;> omega
theorem unl_zero {f : Nat → Bool} : ∀ {n}, unl f n = 0 → ∀ i, i < n → f i = true
  | 0, _, i, h => absurd h (by omega)
  | n + 1, h, i, hi => by
    unfold unl at h
    by_cases hfn : f n = true
    · rw [if_pos hfn] at h
      by_cases hin : i = n
      · rw [hin]; exact hfn
      · exact unl_zero (n := n) (by omega) i (by omega)
    · rw [if_neg hfn] at h; omega
theorem unl_congr {f g : Nat → Bool} : ∀ {n}, (∀ i, i < n → f i = g i) → unl f n = unl g n
  | 0, _ => rfl
  | n + 1, h => by unfold unl; rw [unl_congr (n := n) fun i hi => h i (by omega), h n (by omega)]
theorem unl_set {f g : Nat → Bool} {i : Nat} (h0 : f i = false) (h1 : g i = true) (ho : ∀ j, j ≠ i → g j = f j) : ∀ {n}, i < n → unl g n + 1 = unl f n
  | 0, h => absurd h (by omega)
  | n + 1, h => by
    unfold unl
    by_cases hin : i = n
    · subst hin
      rw [unl_congr (n := i) fun j hj => ho j (by omega), h0, h1]; simp
    · have := unl_set h0 h1 ho (n := n) (by omega)
      rw [ho n (by omega)]; omega

structure Inv (l : List Oper) (v : Nat → Value) (a0 : Act) (C : Nat → World → Prop) (listed : Array Bool) (a : Act) (w : World) : Prop where
  size : listed.size = l.length
  closed : ∀ (i : Nat) (o : Oper), l[i]? = some o → listed.getD i false = true → ∀ e ∈ o.after, Region.binds .any e = true → listed.getD e.on false = true
  shape : Shape l v a0 (fun j => listed.getD j false) a
  world : ∀ i, i ≤ l.length → (∀ (j : Nat) (o : Oper), l[j]? = some o → isStore o = true → listed.getD j false = decide (j < i)) → C i w

section
variable {P : Program} {X : Thr} {st : List Nat} {E : World → Prop} {l : List Oper} {A : Nat → Act} {C D : Nat → World → Prop} {v : Nat → Value} {cl : Nat → Nat → Bool} {listed : Array Bool} {a : Act} {w : World}
theorem Inv.down (ok : Ok st l cl) (h : Inv l v (A 0) C listed a w) : ∀ (n i j : Nat), i < n → (∃ o, l[i]? = some o) → (∃ o, l[j]? = some o) → cl i j = true → listed.getD i false = true → listed.getD j false = true
  | 0, _, _, hi, _, _, _, _ => absurd hi (by omega)
  | n + 1, i, j, hi, ⟨o, ho⟩, ⟨oj, hj⟩, hc, hl => by
    obtain ⟨e, he, hb, h'⟩ := ok.cert i j o oj ho hj hc
    have h1 := h.closed i o ho hl e he hb
    rcases h' with rfl | h'
    · exact h1
    · have hd := ok.down i o ho e he hb
      have hlt : i < l.length := (List.getElem?_eq_some_iff.1 ho).1
      exact Inv.down ok h n e.on j (by omega) ⟨_, List.getElem?_eq_getElem (show e.on < l.length by omega)⟩ ⟨oj, hj⟩ h' h1
/-- What stands between stores is one class. -/
theorem Run.between (hr : Run P X (fun i => st.contains i) E l A C D v) {i : Nat} : ∀ (d k : Nat), k = i + d → k ≤ l.length → (∀ (j : Nat) (o : Oper), l[j]? = some o → isStore o = true → i ≤ j → j < k → False) → C k = C i
  | 0, k, hk, _, _ => by rw [hk]; rfl
  | d + 1, k, hk, hl, hn => by
    have ih := Run.between hr d (k - 1) (by omega) (by omega) (fun j o hj hs h1 h2 => hn j o hj hs h1 (by omega))
    have ho : l[k - 1]? = some (l[k - 1]'(by omega)) := List.getElem?_eq_getElem (by omega)
    have hs : isStore (l[k - 1]'(by omega)) = false := by
      cases h : isStore (l[k - 1]'(by omega))
      · rfl
      · exact (hn _ _ ho h (by omega) (by omega)).elim
    have e : k - 1 + 1 = k := by omega
    cases hf : isFree (l[k - 1]'(by omega))
    · cases hl : isLook (l[k - 1]'(by omega))
      · have := (hr.read _ _ ho hs hf hl).1; rw [e] at this; rw [this, ih]
      · have := (hr.look _ _ ho hs hf hl).1; rw [e] at this; rw [this, ih]
    · have := (hr.free _ _ ho hs hf).1; rw [e] at this; rw [this, ih]
theorem Run.one (hr : Run P X (fun i => st.contains i) E l A C D v) {f : Nat → Bool} {i k : Nat} (hi : i ≤ l.length) (hk : k ≤ l.length) (h1 : ∀ (j : Nat) (o : Oper), l[j]? = some o → isStore o = true → f j = decide (j < i)) (h2 : ∀ (j : Nat) (o : Oper), l[j]? = some o → isStore o = true → f j = decide (j < k)) : C k = C i := by
  rcases Nat.le_total i k with h | h
  · exact hr.between (k - i) k (by omega) hk fun j o hj hs ha hb => by
      have e1 := h1 j o hj hs; have e2 := h2 j o hj hs
      rw [e1] at e2; simp at e2; omega
  · exact (hr.between (i - k) i (by omega) hi fun j o hj hs ha hb => by
      have e1 := h1 j o hj hs; have e2 := h2 j o hj hs
      rw [e1] at e2; simp at e2; omega).symm

theorem Run.steady (hr : Run P X (fun i => st.contains i) E l A C D v) {i : Nat} : ∀ (d k : Nat), k = i + d → k ≤ l.length → (∀ (j : Nat) (o : Oper), l[j]? = some o → isHard o = true → i ≤ j → j < k → False) → D k = D i
  | 0, k, hk, _, _ => by rw [hk]; rfl
  | d + 1, k, hk, hl, hn => by
    have ih := Run.steady hr d (k - 1) (by omega) (by omega) (fun j o hj hs h1 h2 => hn j o hj hs h1 (by omega))
    have ho : l[k - 1]? = some (l[k - 1]'(by omega)) := List.getElem?_eq_getElem (by omega)
    have hs : isHard (l[k - 1]'(by omega)) = false := by
      cases h : isHard (l[k - 1]'(by omega))
      · rfl
      · exact (hn _ _ ho h (by omega) (by omega)).elim
    have e : k - 1 + 1 = k := by omega
    have := hr.soft _ _ ho hs; rw [e] at this; rw [this, ih]
/-- Of the acts the first so many have been. -/
theorem Inv.where_ (ok : Ok st l cl) (h : Inv l v (A 0) C listed a w) : ∃ k, k ≤ l.length ∧ ∀ (j : Nat) (o : Oper), l[j]? = some o → isStore o = true → listed.getD j false = decide (j < k) := by
  have key : ∀ n, n ≤ l.length → (∀ (j : Nat) (o : Oper), l[j]? = some o → isStore o = true → j < n → listed.getD j false = true) ∨ ∃ k, k < n ∧ ∃ o, l[k]? = some o ∧ isStore o = true ∧ listed.getD k false = false ∧ ∀ (j : Nat) (o : Oper), l[j]? = some o → isStore o = true → j < k → listed.getD j false = true := by
    intro n
    induction n with
    | zero => intro _; exact .inl fun j o _ _ hj => absurd hj (by omega)
    | succ n ih =>
      intro hn
      rcases ih (by omega) with h1 | ⟨k, hk, h1⟩
      · have ho : l[n]? = some (l[n]'(by omega)) := List.getElem?_eq_getElem (by omega)
        by_cases hs : isStore (l[n]'(by omega)) = true
        · cases hl : listed.getD n false
          · exact .inr ⟨n, by omega, _, ho, hs, hl, h1⟩
          · refine .inl fun j o hj hso hjn => ?_
            by_cases e : j = n
            · subst e; exact hl
            · exact h1 j o hj hso (by omega)
        · refine .inl fun j o hj hso hjn => ?_
          by_cases e : j = n
          · subst e; rw [ho] at hj; injection hj with hj; subst hj; exact absurd hso hs
          · exact h1 j o hj hso (by omega)
      · exact .inr ⟨k, by omega, h1⟩
  rcases key l.length (Nat.le_refl _) with h1 | ⟨k, hk, o, ho, hs, hl, h1⟩
  · refine ⟨l.length, Nat.le_refl _, fun j o hj hso => ?_⟩
    have := (List.getElem?_eq_some_iff.1 hj).1
    rw [h1 j o hj hso this]; simp [this]
  · refine ⟨k, by omega, fun j oj hj hsj => ?_⟩
    by_cases hjk : j < k
    · rw [h1 j oj hj hsj hjk]; simp [hjk]
    · by_cases e : j = k
      · subst e; rw [hl]; simp
      · have hf : isFree o = false := store_free hs
        have hlk : isLook o = false := store_look hs
        have hc := ok.store k j o oj ho hj (fun e' => e e'.symm) hsj hf (by simp [hlk])
        rw [if_neg (by omega)] at hc
        cases hlj : listed.getD j false
        · simp [hjk]
        · have := h.down ok l.length j k (List.getElem?_eq_some_iff.1 hj).1 ⟨oj, hj⟩ ⟨o, ho⟩ hc hlj
          rw [hl] at this; cases this
theorem Inv.step (hr : Run P X (fun i => st.contains i) E l A C D v) (ok : Ok st l cl) (h : Inv l v (A 0) C listed a w) {Q : Exit → Act → World → Prop} (hX : ∀ a', a'.defers = (A 0).defers → ∀ ch w', X ch w' → Q (.panic ch) a' w') {i : Nat} (hi : i ∈ Region.ready .any l.toArray listed) :
    wpOp P l.toArray Q i (fun a' w' => Inv l v (A 0) C (listed.setIfInBounds i true) a' w') a w := by
  obtain ⟨hun, o, ho', hdeps⟩ := mem_ready.1 hi
  have ho : l[i]? = some o := by simpa using ho'
  have hil : i < l.length := (List.getElem?_eq_some_iff.1 ho).1
  have his : i < listed.size := by rw [h.size]; exact hil
  have hun' : listed.getD i false = false := by simp [his] at hun ⊢; exact hun
  -- who is waited for has been; who waits has not
  have before : ∀ j oj, l[j]? = some oj → cl i j = true → listed.getD j false = true := fun j oj hj hc => by
    obtain ⟨e, he, hb, h'⟩ := ok.cert i j o oj ho hj hc
    have h1 := hdeps e he hb
    rcases h' with rfl | h'
    · exact h1
    · have hd := ok.down i o ho e he hb
      exact h.down ok l.length e.on j (by omega) ⟨_, List.getElem?_eq_getElem (show e.on < l.length by omega)⟩ ⟨oj, hj⟩ h' h1
  have behind : ∀ j oj, l[j]? = some oj → cl j i = true → listed.getD j false = false := fun j oj hj hc => by
    cases hl : listed.getD j false
    · rfl
    · have hjl : j < l.length := (List.getElem?_eq_some_iff.1 hj).1
      have := h.down ok l.length j i hjl ⟨oj, hj⟩ ⟨o, ho⟩ hc hl
      rw [hun'] at this; cases this
  have exec : execOp a.eval o = execOp (A i).eval o := execOp_congr o (fun cs b => Region.noSelect_spec ok.sel i o cs b ho') fun x hx => by
    cases x with
    | tmp t =>
      have ht : t ∈ o.looksAt l.toArray := List.mem_append_left _ (List.mem_filterMap.2 ⟨.tmp t, by simpa using hx, rfl⟩)
      have e := h.shape.same (hr.shape ok.dist i (by omega)) (t := t) fun j oj hj hd => by
        by_cases hji : j = i
        · subst hji; rw [hun']; simp
        · have hc := ok.looks i j o oj t ho hj (fun e => hji e.symm) hd ht
          by_cases hlt : j < i
          · rw [if_pos hlt] at hc; rw [before j oj hj hc]; simp [hlt]
          · rw [if_neg hlt] at hc; rw [behind j oj hj hc]; simp [hlt]
      simp only [Act.eval, Array.getD_eq_getD_getElem?, e]
    | const => rfl
    | global => rfl
    | func => rfl
  have hg := ok.guard i o ho
  have getset : ∀ j, (listed.setIfInBounds i true).getD j false = (listed.getD j false || j == i) := fun j => by
    by_cases hji : j = i
    · subst hji; simp [his]
    · rw [getD_set_ne false (fun e => hji e.symm)]; simp [hji]
  -- what is left of the invariant, whatever comes of the world
  have next : ∀ w', (∀ k, k ≤ l.length → (∀ (j : Nat) (oj : Oper), l[j]? = some oj → isStore oj = true → (listed.getD j false || j == i) = decide (j < k)) → C k w') → Inv l v (A 0) C (listed.setIfInBounds i true) (a.put o.dst (v i)) w' := fun w' hw => by
    refine ⟨by simp [h.size], fun j oj hj hl e he hb => ?_, (h.shape.put ok.dist ho).congr fun j oj hj => (getset j).symm, fun k hk hst => hw k hk fun j oj hj hs => by rw [← getset j]; exact hst j oj hj hs⟩
    rw [getset] at hl ⊢
    simp only [Bool.or_eq_true, beq_iff_eq] at hl ⊢
    rcases hl with hl | rfl
    · exact .inl (h.closed j oj hj hl e he hb)
    · rw [ho] at hj; injection hj with hj; subst hj; exact .inl (hdeps e he hb)
  unfold wpOp
  simp only [ho', Region.wanted, hg, if_true]
  refine .inl ?_
  cases hs : isStore o
  · cases hf : isFree o
    · cases hl : isLook o
      · -- a call
        have here : ∀ (j : Nat) (oj : Oper), l[j]? = some oj → isStore oj = true → listed.getD j false = decide (j < i) := fun j oj hj hsj => by
          have hji : j ≠ i := fun e => by subst e; rw [ho] at hj; injection hj with hj; subst hj; rw [hs] at hsj; cases hsj
          have hc := ok.store i j o oj ho hj (fun e => hji e.symm) hsj hf (by simp [hl])
          by_cases hlt : j < i
          · rw [if_pos hlt] at hc; rw [before j oj hj hc]; simp [hlt]
          · rw [if_neg hlt] at hc; rw [behind j oj hj hc]; simp [hlt]
        have hw := h.world i (by omega) here
        refine (((hr.read i o ho hs hf hl).2 w hw).congr exec).wp (fun ch w' hq => hX _ h.shape.defers ch w' hq) fun w' hw' => next w' fun k hk hst => ?_
        have hst' : ∀ (j : Nat) (oj : Oper), l[j]? = some oj → isStore oj = true → listed.getD j false = decide (j < k) := fun j oj hj hsj => by
          have hji : j ≠ i := fun e => by subst e; rw [ho] at hj; injection hj with hj; subst hj; rw [hs] at hsj; cases hsj
          have := hst j oj hj hsj; rw [show (j == i) = false from by simpa using hji, Bool.or_false] at this; exact this
        rw [hr.one (f := fun j => listed.getD j false) (by omega) hk here hst']; exact hw'
      · -- a look
        obtain ⟨k0, hk0, hat⟩ := h.where_ ok
        have hD : if st.contains i then E w else D i w := by
          have h00 := hr.held k0 hk0 w (h.world k0 hk0 hat)
          by_cases hst0 : st.contains i = true
          · rw [if_pos hst0]; exact h00.2
          rw [if_neg hst0]
          have h0 := h00.1
          have hst0 : st.contains i = false := by simpa using hst0
          have hard : ∀ (j : Nat) (oj : Oper), l[j]? = some oj → isHard oj = true → listed.getD j false = decide (j < i) ∧ j ≠ i := fun j oj hj hhj => by
            have hsj : isStore oj = true := by simp [isStore, hhj]
            have hji : j ≠ i := fun e => by subst e; rw [ho] at hj; injection hj with hj; subst hj; rw [hs] at hsj; cases hsj
            have hc := ok.store i j o oj ho hj (fun e => hji e.symm) hsj hf (by rw [hhj, hst0]; simp)
            by_cases hlt : j < i
            · rw [if_pos hlt] at hc; rw [before j oj hj hc]; simp [hlt, hji]
            · rw [if_neg hlt] at hc; rw [behind j oj hj hc]; simp [hlt, hji]
          have none : ∀ (j : Nat) (oj : Oper), l[j]? = some oj → isHard oj = true → decide (j < k0) = decide (j < i) := fun j oj hj hhj => by
            rw [← hat j oj hj (by simp [isStore, hhj])]; exact (hard j oj hj hhj).1
          rcases Nat.le_total i k0 with hle | hle
          · rw [hr.steady (i := i) (k0 - i) k0 (by omega) hk0 fun j oj hj hh h1 h2 => by
              have := none j oj hj hh; simp [h2] at this; omega] at h0
            exact h0
          · rw [← hr.steady (i := k0) (i - k0) i (by omega) (by omega) fun j oj hj hh h1 h2 => by
              have := none j oj hj hh; simp [h2] at this; omega] at h0
            exact h0
        refine (((hr.look i o ho hs hf hl).2 w hD).congr exec).wp (fun ch w' hq => hX _ h.shape.defers ch w' hq) fun w' hw' => next w' fun k hk hst => ?_
        subst hw'
        refine h.world k hk fun j oj hj hsj => ?_
        have hji : j ≠ i := fun e => by subst e; rw [ho] at hj; injection hj with hj; subst hj; rw [hs] at hsj; cases hsj
        have := hst j oj hj hsj; rw [show (j == i) = false from by simpa using hji, Bool.or_false] at this; exact this
    · -- nothing of the world
      refine (((hr.free i o ho hs hf).2 w).congr exec).wp (fun ch w' hq => hX _ h.shape.defers ch w' hq) fun w' hw' => next w' fun k hk hst => ?_
      subst hw'
      refine h.world k hk fun j oj hj hsj => ?_
      have hji : j ≠ i := fun e => by subst e; rw [ho] at hj; injection hj with hj; subst hj; rw [hs] at hsj; cases hsj
      have := hst j oj hj hsj; rw [show (j == i) = false from by simpa using hji, Bool.or_false] at this; exact this
  · -- a store
    have hf : isFree o = false := store_free hs
    have hlk : isLook o = false := store_look hs
    have here : ∀ (j : Nat) (oj : Oper), l[j]? = some oj → isStore oj = true → listed.getD j false = decide (j < i) := fun j oj hj hsj => by
      by_cases hji : j = i
      · subst hji; rw [hun']; simp
      · have hc := ok.store i j o oj ho hj (fun e => hji e.symm) hsj hf (by simp [hlk])
        by_cases hlt : j < i
        · rw [if_pos hlt] at hc; rw [before j oj hj hc]; simp [hlt]
        · rw [if_neg hlt] at hc; rw [behind j oj hj hc]; simp [hlt]
    have hw := h.world i (by omega) here
    have hgv := hr.store i o ho hs w hw
    refine (hgv.congr exec).wp (fun ch w' hq => hX _ h.shape.defers ch w' hq) fun w' hw' => next w' fun k hk hst => ?_
    have h1 : ∀ (j : Nat) (oj : Oper), l[j]? = some oj → isStore oj = true → (listed.getD j false || j == i) = decide (j < i + 1) := fun j oj hj hsj => by
      rw [here j oj hj hsj, Bool.eq_iff_iff]; simp; omega
    rw [hr.one (f := fun j => listed.getD j false || j == i) (by omega) hk h1 hst]; exact hw'

theorem Inv.all_ (hr : Run P X (fun i => st.contains i) E l A C D v) (ok : Ok st l cl) {Q : Exit → Act → World → Prop} (hX : ∀ a', a'.defers = (A 0).defers → ∀ ch w', X ch w' → Q (.panic ch) a' w') (hQ : ∀ w, C l.length w → Q .normal (A l.length) w) : ∀ (n : Nat) (listed : Array Bool) (a : Act) (w : World), Inv l v (A 0) C listed a w → unl (fun i => listed.getD i false) l.length ≤ n →
    wpAny P .any l.toArray Q n listed a w := by
  have last : ∀ (listed : Array Bool) (a : Act) (w : World), Inv l v (A 0) C listed a w → (∀ i, i < l.length → listed.getD i false = true) → Q .normal a w := fun listed a w h hall => by
    have e : a = A l.length := h.shape.ext (hr.shape ok.dist l.length (Nat.le_refl _)) fun j o hj => by
      have hjl : j < l.length := (List.getElem?_eq_some_iff.1 hj).1
      rw [hall j hjl]; simp [hjl]
    rw [e]
    exact hQ w (h.world l.length (Nat.le_refl _) fun j o hj _ => by
      have hjl : j < l.length := (List.getElem?_eq_some_iff.1 hj).1
      rw [hall j hjl]; simp [hjl])
  intro n
  induction n with
  | zero =>
    intro listed a w h hn
    have hall := unl_zero (f := fun i => listed.getD i false) (n := l.length) (by omega)
    refine ⟨?_, last listed a w h hall⟩
    cases hr' : Region.ready .any l.toArray listed with
    | nil => rfl
    | cons i is =>
      have hi : i ∈ Region.ready .any l.toArray listed := by rw [hr']; simp
      obtain ⟨hun, o, ho', _⟩ := mem_ready.1 hi
      have hil : i < l.length := by have := (Array.getElem?_eq_some_iff.1 ho').1; simpa using this
      have := hall i hil
      have his : i < listed.size := by rw [h.size]; exact hil
      simp [his] at hun this
      rw [this] at hun; cases hun
  | succ n ih =>
    intro listed a w h hn
    refine ⟨fun hr' => last listed a w h fun i hi => ?_, fun i hi => ?_⟩
    · induction i using Nat.strongRecOn with
      | _ i ihi =>
        cases hu : listed.getD i false
        · have ho : l[i]? = some (l[i]'hi) := List.getElem?_eq_getElem hi
          have : i ∈ Region.ready .any l.toArray listed := mem_ready.2 ⟨by
            have his : i < listed.size := by rw [h.size]; exact hi
            simp [his] at hu ⊢; exact hu, _, (by rw [List.getElem?_toArray]; exact ho), fun e he hb => by
            have hd := ok.down i _ ho e he hb
            exact ihi e.on hd (by omega)⟩
          rw [hr'] at this; cases this
        · rfl
    · refine wpOp_mono (fun a' w' h' => ih _ a' w' h' ?_) (h.step hr ok hX hi)
      obtain ⟨hun, o, ho', _⟩ := mem_ready.1 hi
      have hil : i < l.length := by have := (Array.getElem?_eq_some_iff.1 ho').1; simpa using this
      have his : i < listed.size := by rw [h.size]; exact hil
      have := unl_set (f := fun i => listed.getD i false) (g := fun j => (listed.setIfInBounds i true).getD j false) (i := i) (by simp [his] at hun ⊢; exact hun) (by simp [his]) (fun j hj => getD_set_ne false (fun e => hj e.symm)) hil
      omega

/-- **One walk serves every order.** -/
theorem any_of_lex {Q : Exit → Act → World → Prop} (hX : ∀ a', a'.defers = a.defers → ∀ ch w', X ch w' → Q (.panic ch) a' w') (hB : okB st l = true) (C0 D0 : World → Prop) (hC : C0 w.drew) (hCD : ∀ w, C0 w → D0 w ∧ E w)
    (h : wpLex P X st E (fun a' C' => ∀ w', C' w' → Q .normal a' w') l 0 a C0 D0) : wpAny P .any l.toArray Q l.toArray.size (Array.replicate l.toArray.size false) a w.drew := by
  obtain ⟨A, Cs, Ds, v, hr, hA, hC0, hD0, hQ⟩ := run_of_lex l 0 a C0 D0 hCD h
  simp only [Nat.zero_add] at hr
  have ok := Ok.of st l hB
  have hinv : Inv l v (A 0) Cs (Array.replicate l.toArray.size false) a w.drew := by
    have hg : ∀ i, (Array.replicate l.length false).getD i false = false := fun i => by
      by_cases hi : i < l.length <;> simp [hi]
    refine ⟨by simp, fun i o ho hl => ?_, ?_, fun i hi hst => ?_⟩
    · simp only [List.size_toArray] at hl; rw [hg i] at hl; cases hl
    · rw [hA]; exact Shape.start.congr fun j o _ => by simp only [List.size_toArray]; rw [hg j]
    · have e : Cs i = Cs 0 := hr.between i i (by omega) hi fun j o hj hs h0 hlt => by
        have := hst j o hj hs
        simp only [List.size_toArray] at this
        rw [hg j] at this; simp at this; omega
      rw [e, hC0]; exact hC
  have := Inv.all_ hr ok (Q := Q) (by rw [hA]; exact hX) hQ l.toArray.size _ _ _ hinv (by have := unl_le (fun i => (Array.replicate l.toArray.size false).getD i false) l.length; simpa using this)
  exact this
end
theorem wp_region_lex {P : Program} {X : Thr} {l : List Oper} {a : Act} {w : World} {id : Nat} {Q : Exit → Act → World → Prop} (hm : P.follows .mixedOrders = true) (st : List Nat) (hB : okB st l = true) (C0 D0 E : World → Prop) (hC : C0 w.drew) (hCD : ∀ w, C0 w → D0 w ∧ E w) (hX : ∀ a', a'.defers = a.defers → ∀ ch w', X ch w' → Q (.panic ch) a' w')
    (h : wpLex P X st E (fun a' C' => ∀ w', C' w' → Q .normal a' w') l 0 a C0 D0) : (Code.region id l.toArray true).wp P Q a w :=
  wp_region_any hm (any_of_lex hX hB C0 D0 hC hCD h)

/-! The walk's steps. -/
section
variable {P : Program} {X : Thr} {st : List Nat} {E : World → Prop} {Q : Act → (World → Prop) → Prop} {o : Oper} {rest : List Oper} {n : Nat} {a : Act} {C D : World → Prop} {W : World}
theorem lex_free (hs : isStore o = false) (hf : isFree o = true) {v : Value} (hrun : ∀ w, (execOp a.eval o).run P w = .ok (.value v) w) (h : wpLex P X st E Q rest (n + 1) (a.put o.dst v) C D) : wpLex P X st E Q (o :: rest) n a C D := by
  unfold wpLex
  rw [if_neg (by simp [hs]), if_pos hf]
  exact ⟨v, fun w => by unfold Gives; rw [hrun w]; exact ⟨rfl, rfl⟩, h⟩
theorem lex_look (hs : isStore o = false) (hf : isFree o = false) (hl : isLook o = true) (hst : st.contains n = false) {v : Value} (hrun : ∀ w, D w → (execOp a.eval o).run P w = .ok (.value v) w) (h : wpLex P X st E Q rest (n + 1) (a.put o.dst v) C D) : wpLex P X st E Q (o :: rest) n a C D := by
  unfold wpLex
  rw [if_neg (by simp [hs]), if_neg (by simp [hf]), if_pos hl]
  exact ⟨v, fun w hw => by rw [if_neg (by rw [hst]; simp)] at hw; unfold Gives; rw [hrun w hw]; exact ⟨rfl, rfl⟩, h⟩
theorem lex_steady (hs : isStore o = false) (hf : isFree o = false) (hl : isLook o = true) (hst : st.contains n = true) {v : Value} (hrun : ∀ w, E w → (execOp a.eval o).run P w = .ok (.value v) w) (h : wpLex P X st E Q rest (n + 1) (a.put o.dst v) C D) : wpLex P X st E Q (o :: rest) n a C D := by
  unfold wpLex
  rw [if_neg (by simp [hs]), if_neg (by simp [hf]), if_pos hl]
  exact ⟨v, fun w hw => by rw [if_pos hst] at hw; unfold Gives; rw [hrun w hw]; exact ⟨rfl, rfl⟩, h⟩
/-- A function is called: it may leave another class. -/
theorem lex_call (hs : isStore o = true) {C' : World → Prop} {v : Value} {f : FuncId} {args : Array Value} (hrun : ∀ w, C w → (execOp a.eval o).run P w = .ok (.enter f args) w) (hc : ∀ w, C w → Calls P f args w fun e w' => (e = .returned v ∧ C' w') ∨ ∃ ch, e = .panicked ch ∧ X ch w') (hD : ∀ w, C' w → D w ∧ E w) (h : wpLex P X st E Q rest (n + 1) (a.put o.dst v) C' D) : wpLex P X st E Q (o :: rest) n a C D := by
  unfold wpLex
  rw [if_pos hs]
  exact ⟨v, C', D, fun w hw => by unfold Gives; rw [hrun w hw]; exact hc w hw, fun _ => rfl, hD, h⟩
/-- Memory is made; the world is known. -/
theorem lex_make (hs : isStore o = true) {v : Value} {W' : World} (hrun : (execOp a.eval o).run P W = .ok (.value v) W') (hD : D W' ∧ E W') (h : wpLex P X st E Q rest (n + 1) (a.put o.dst v) (· = W') D) : wpLex P X st E Q (o :: rest) n a (· = W) D := by
  unfold wpLex
  rw [if_pos hs]
  exact ⟨v, (· = W'), D, fun w hw => by subst hw; unfold Gives; rw [hrun]; exact ⟨rfl, rfl⟩, fun _ => rfl, fun w hw => hw ▸ hD, h⟩
theorem lex_store (hs : isStore o = true) (hh : isHard o = true) {C' D' : World → Prop} (hrun : ∀ w, C w → ∃ W', (execOp a.eval o).run P w = .ok .skip W' ∧ C' W') (hD : ∀ w, C' w → D' w ∧ E w) (h : wpLex P X st E Q rest (n + 1) (a.put o.dst undef) C' D') : wpLex P X st E Q (o :: rest) n a C D := by
  unfold wpLex
  rw [if_pos hs]
  exact ⟨undef, C', D', fun w hw => by obtain ⟨W', h1, h2⟩ := hrun w hw; unfold Gives; rw [h1]; exact ⟨rfl, h2⟩, fun e => by (rw [hh] at e; cases e), hD, h⟩
theorem lex_end {Q : Exit → Act → World → Prop} (h : ∀ w', C w' → Q .normal a w') : wpLex P X st E (fun a' C' => ∀ w', C' w' → Q .normal a' w') [] n a C D := h
end
end Rx

/-
The program's image: a flight, a seat, a ship are read, whatever bytes there are.
-/



namespace Go.Proofs.Ytbihnmingedgfaa
open Go.RowKit Go.Shelf
set_option linter.unusedVariables false
set_option linter.unusedSimpArgs false

theorem need_any (v : Bool) (s : ByteArray) (w : World) : Calls Try.prog 76 #[.bool v, .string s] w fun e w' => (v = true ∧ e = .returned (.tuple #[]) ∧ w = w') ∨ (v = false ∧ Pan e ∧ w = w') := by
  cases v
  · exact (need_no s w).mono fun e w' ⟨h1, h2⟩ => .inr ⟨rfl, ⟨s, h1⟩, h2⟩
  · exact (need_yes s w).mono fun e w' ⟨h1, h2⟩ => .inl ⟨rfl, h1, h2⟩

/-- What a layout leaves that reads into block P, told by a property. -/
def GotP {α : Type} (b Bb Bp P : Nat) (t : TypeId) (size : Nat) (r : Option (α × List Int)) (F : α → Array Value → Prop) (w : World) (e : Ending) (w' : World) : Prop :=
  (∃ v rest, r = some (v, rest) ∧ e = .returned (.tuple #[]) ∧ Rd b Bb Bp rest w' ∧ Rk b Bb P w w' ∧ ∃ cs', Box w' P t cs' ∧ F v cs') ∨ (r = none ∧ Pan e ∧ Rk b Bb P w w' ∧ ∃ cs', Box w' P t cs' ∧ cs'.size = size)
def Im.i32s (l : List Int) : List Value := l.map fun x => .int .i32 x

set_option maxRecDepth 100000 in
set_option maxHeartbeats 2000000 in
theorem layflight_any (P o Bq : Nat) (t : TypeId) (cs : Array Value) (bs : List Int) (b Bb Bp : Nat) (w : World) (hBy : Im.IsBytes bs) (hbB : b ≤ Bb) (hbP : b ≤ P) (hbw : b ≤ w.heap.size) (h : Rd b Bb Bp bs w) (hP : Box w P t cs) (ho : ∀ k, k < 4 → cs[o + k]? = some (.int .i32 0)) (h1 : t ≠ 54) (h2 : t ≠ 5) (h3 : t ≠ 120) (hPq : Bq ≠ P)
    (hq : Box w Bq 180 #[.pointer (some ⟨P, o + 0, none⟩), .pointer (some ⟨P, o + 1, none⟩), .pointer (some ⟨P, o + 2, none⟩), .pointer (some ⟨P, o + 3, none⟩)]) (c : Nat) :
    Calls Try.prog 153 #[.func (.func 130) #[] #[.pointer (some ⟨Bp, 0, none⟩)], .slice (some ⟨Bq, 0, none⟩) 4 c] w (GotP b Bb Bp P t cs.size (Im.decParts 4 [] bs) (fun l cs' => l.length = 4 ∧ cs'.size = cs.size ∧ Im.Patch cs o (Im.i32s l) cs') w) := by
  have HH := Lib.hid h
  have HP := Lib.hid hP
  have HQ := Lib.hid hq
  have HW := Lib.hid hbw
  have HY := Lib.hid hBy
  clear h hP hq hbw hBy
  go_enter Try.func153, Try.ntmps153
  go_wp2
  go_loopw [8] (fun i wr => ∃ (k : Nat) (l bs' : List Int), k ≤ 4 ∧ i = .int .i64 k ∧ l.length = k ∧ Im.IsBytes bs' ∧ Im.decParts 4 [] bs = Im.decParts (4 - k) l bs' ∧ Rd b Bb Bp bs' wr ∧ Rk b Bb P w wr ∧ ∃ cs', Box wr P t cs' ∧ cs'.size = cs.size ∧ Im.Patch cs o (Im.i32s l) cs') (fun i _ => 4 - (intOf i).toNat)
  case atStart => exact ⟨0, [], bs, by omega, rfl, rfl, HY.out, rfl, HH.out, Rk.refl _ _ _ _, cs, HP.out, rfl, Im.Patch.nil _ _⟩
  case round =>
    obtain ⟨k, l, bs', hk, rfl, hlen, hy, hdec, hI, hK, cs', hB, hsz, hpt⟩ := hrel
    by_cases hlt : k < 4
    · have hk8 : (k : Int) < 4 := by omega
      have Q1 := hK.kb _ _ _ HQ.out hPq (by decide) (by decide)
      have qc := Q1.cell k
      have hqk : (#[.pointer (some ⟨P, o + 0, none⟩), .pointer (some ⟨P, o + 1, none⟩), .pointer (some ⟨P, o + 2, none⟩), .pointer (some ⟨P, o + 3, none⟩)] : Array Value)[k]? = some (.pointer (some ⟨P, o + k, none⟩)) := by
        match k, hlt with
        | 0, _ | 1, _ | 2, _ | 3, _ => rfl
      rw [hqk] at qc
      rw [show 4 - k = (4 - (k + 1)) + 1 by omega] at hdec
      have il : (Im.i32s l).length = k := by unfold Im.i32s; rw [List.length_map, hlen]
      have hc0 : cs'[o + k]? = some (.int .i32 0) := (hpt.cell (.inr (by rw [il]; omega))).trans (ho k hlt)
      have cl := Lib.hid (part_i32 4 4 rfl 0 P (o + k) t cs' bs' b Bb Bp wr (by decide) hy hbB hbP (Nat.le_trans HW.out hK.below.size) hI hB hc0 h1 h2 h3)
      have HN := Lib.hid (show Im.decParts 4 [] bs = (Im.rdn 4 bs').bind fun q => Im.decParts (4 - (k + 1)) (l ++ [IntKind.i32.wrap q.1]) q.2 from hdec)
      have HPT := Lib.hid (fun v : Int => hpt.trans (Im.Patch.one (.int .i32 v) hc0) (by rw [il]))
      have HK := Lib.hid hK
      have HSZ := Lib.hid hsz
      have HLEN := Lib.hid hlen
      have HYY := Lib.hid hy
      clear hI hK hB Q1 hqk hpt hc0 hdec hsz il hlen hy
      go_wp2_with (go_at_call 161; ((with_reducible refine (cl.out).mono ?_); rintro e w1 (⟨y, r1, hr, rfl, hI1, hK1, hB1⟩ | ⟨hn, ⟨ss, rfl⟩, hK1, cs2, hB1, hs⟩); (all_goals first | (have R1 := Lib.hid hr; have I1 := Lib.hid hI1; have K1 := Lib.hid (HK.out.trans hK1); have B1 := Lib.hid hB1; clear hr hI1 hK1 hB1 qc) | (have N1 := Lib.hid hn; have F1 := Lib.hid (HK.out.trans hK1); have B1 := Lib.hid hB1; have S1 := Lib.hid hs; clear hn hK1 hB1 hs qc))))
      · go_roundw
        case rel => exact ⟨k + 1, l ++ [IntKind.i32.wrap y], r1, by omega, by go_num, by rw [List.length_append, HLEN.out]; rfl, (Im.rdn_inv HYY.out R1.out).2.2.2, by rw [HN.out, R1.out, Option.bind_some], I1.out, K1.out, _, B1.out, by simp [HSZ.out], by
          have := HPT.out (IntKind.i32.wrap y)
          unfold Im.i32s at this ⊢
          rw [List.map_append]
          exact this⟩
        case measure => simp [intOf]; omega
      · refine ⟨rfl, .inr ⟨?_, ⟨_, rfl⟩, F1.out, _, B1.out, S1.out.trans HSZ.out⟩⟩
        rw [HN.out, N1.out, Option.bind_none]
    · have hk8 : ¬ (k : Int) < 4 := by omega
      obtain rfl : k = 4 := by omega
      have HI := Lib.hid hI
      have HK := Lib.hid hK
      have HB := Lib.hid hB
      have HPT := Lib.hid (And.intro hlen (And.intro hsz hpt))
      have HD := Lib.hid hdec
      clear hI hK hB hpt hsz hlen hdec
      go_wp2
      go_end0
      exact .inl ⟨l, bs', HD.out, rfl, HI.out, HK.out, cs', HB.out, HPT.out⟩

set_option maxRecDepth 100000 in
set_option maxHeartbeats 2000000 in
theorem layseat_any (P o : Nat) (t : TypeId) (cs : Array Value) (bs : List Int) (b Bb Bp : Nat) (w : World) (hBy : Im.IsBytes bs) (hbB : b ≤ Bb) (hbP : b ≤ P) (hbw : b ≤ w.heap.size) (h : Rd b Bb Bp bs w) (hP : Box w P t cs) (ho : cs[o]? = some (.int .i64 0)) (ho1 : cs[o + 1]? = some (.int .i64 0)) (h1 : t ≠ 54) (h2 : t ≠ 5) (h3 : t ≠ 120) :
    Calls Try.prog 128 #[.func (.func 130) #[] #[.pointer (some ⟨Bp, 0, none⟩)], .pointer (some ⟨P, o, none⟩)] w (Got b Bb Bp P t cs.size (Im.decSeat bs) (fun q => (cs.setIfInBounds o (.int .i64 q.1)).setIfInBounds (o + 1) (.int .i64 q.2)) w) := by
  have k0 := hP.cell o
  rw [ho] at k0
  have ltP := hP.lt
  have HPA := Lib.hid (hP.alloc (.cells #[.int .i64 1] 3))
  have HKA := Lib.hid (Rk.alloc (w := w) (Bb := Bb) (P := P) hbw (.cells #[.int .i64 1] 3))
  have c1 := Lib.hid (part_int 1 1 rfl 1 w.heap.size 0 3 #[.int .i64 1] bs b Bb Bp _ (by decide) hBy hbB hbw (by simp <;> omega) (h.call (one_below w (.cells #[.int .i64 1] 3)) hbw) (Box.made w 3 #[.int .i64 1]) rfl (by decide) (by decide) (by decide))
  have e1 : ∀ v, (cs.setIfInBounds o v)[o + 1]? = some (.int .i64 0) := fun v => by rw [Array.getElem?_setIfInBounds_ne (by omega), ho1]
  have c2 := fun v bs' X hy hX1 hX2 hX3 => Lib.hid (part_int 2 2 rfl 0 P (o + 1) t (cs.setIfInBounds o v) bs' b Bb Bp X (by decide) hy hbB hbP hX1 hX2 hX3 (e1 v) h1 h2 h3)
  have HO := Lib.hid ho
  have HB := Lib.hid hbP
  have HW := Lib.hid hbw
  have HY := Lib.hid hBy
  have HD := Lib.hid (show Im.decSeat bs = (Im.rdn 1 bs).bind fun p => (Im.rdn 2 p.2).bind fun g => some ((p.1 - 1, g.1), g.2) from rfl)
  clear h hP ho ho1 e1 hBy
  go_enter Try.func128, Try.ntmps128
  go_upto_region 2 with (go_at_call 124; ((with_reducible refine (c1.out).mono ?_); rintro e w1 (⟨y, r1, hr, rfl, hI1, hK1, hL1⟩ | ⟨hn, ⟨ss, rfl⟩, hK1, cs2, hL1, hs⟩); (all_goals first | (have R1 := Lib.hid hr; have Y1 := Lib.hid (Im.rdn_inv HY.out hr); have l1 := hL1.cell 0; have P1 := Lib.hid (hK1.kb _ _ _ HPA.out (by omega) h1 h2); have p1 := P1.out.cell o; rw [HO.out] at p1; have f1 := P1.out.free o; have I1 := Lib.hid hI1; have K1 := Lib.hid (HKA.out.local hK1 (Nat.le_refl _)); clear hr hI1 hK1 hL1 k0 c1) | (have N1 := Lib.hid hn; have F1 := Lib.hid (HKA.out.local hK1 (Nat.le_refl _)); have G1 := Lib.hid (hK1.kb _ _ _ HPA.out (by omega) h1 h2); clear hn hK1 hL1 hs k0 c1))))
  rotate_left
  · refine ⟨rfl, .inr ⟨?_, ⟨_, rfl⟩, F1.out, _, G1.out, rfl⟩⟩
    rw [HD.out, N1.out, Option.bind_none]
  have hw4 : IntKind.i64.wrap (y - 1) = y - 1 := by have := Y1.out.2.1; have := Y1.out.2.2.1; rw [IntKind.wrap_i64]; omega
  simp only [List.getElem?_toArray, Array.setIfInBounds, List.size_toArray, List.length_cons, List.length_nil, Nat.zero_add, Nat.lt_add_one, dite_true, List.set_toArray, List.set_cons_zero, List.getElem?_cons_zero] at l1
  go_wp2_with (go_at_call 124; ((with_reducible refine ((c2 _ _ _ Y1.out.2.2.2 (Nat.le_trans HW.out (K1.out.put HB.out _ _).below.size) (I1.out.off (p := ⟨P, o, none⟩) P1.out h3 h1 HB.out _) (P1.out.put o _)).out).mono ?_); rintro e w2 (⟨y2, r2, hr, rfl, hI2, hK2, hL2⟩ | ⟨hn, ⟨ss, rfl⟩, hK2, cs2, hL2, hs⟩); (all_goals first | (have R2 := Lib.hid hr; have I2 := Lib.hid hI2; have P2 := Lib.hid hL2; have K2 := Lib.hid ((K1.out.put HB.out _ _).trans hK2); clear hr hI2 hK2 hL2) | (have N2 := Lib.hid hn; have F2 := Lib.hid ((K1.out.put HB.out _ _).trans hK2); have G2 := Lib.hid hL2; have S2 := Lib.hid hs; clear hn hK2 hL2 hs))))
  · go_end0
    exact .inl ⟨(y - 1, y2), r2, by rw [HD.out, R1.out, Option.bind_some, R2.out, Option.bind_some], rfl, I2.out, K2.out, P2.out⟩
  · refine ⟨rfl, .inr ⟨?_, ⟨_, rfl⟩, F2.out, _, G2.out, by rw [S2.out]; simp⟩⟩
    rw [HD.out, R1.out, Option.bind_some, N2.out, Option.bind_none]
end Go.Proofs.Ytbihnmingedgfaa

/-
The program's image: a ship is read, whatever bytes there are.
-/

namespace Go.Proofs.Ytbihnmingedgfaa
open Go.RowKit Go.Shelf
set_option linter.unusedVariables false
set_option linter.unusedSimpArgs false

theorem four_is {l : List Int} (h : l.length = 4) : ∃ a b c d, l = [a, b, c, d] := by
  match l, h with
  | [a, b, c, d], _ => exact ⟨a, b, c, d, rfl⟩

set_option maxRecDepth 100000 in
set_option maxHeartbeats 4000000 in
theorem layship_any (P o : Nat) (t : TypeId) (cs : Array Value) (bs : List Int) (b Bb Bp : Nat) (w : World) (hBy : Im.IsBytes bs) (hbB : b ≤ Bb) (hbP : b ≤ P) (hbw : b ≤ w.heap.size) (h : Rd b Bb Bp bs w) (hP : Box w P t cs)
    (o0 : cs[o]? = some (.bool false)) (oz : ∀ k, k < 4 → cs[o + 1 + k]? = some (.int .i32 0)) (o5 : cs[o + 5]? = some (.int .i64 0)) (o6 : cs[o + 6]? = some (.int .i64 0)) (h1 : t ≠ 54) (h2 : t ≠ 5) (h3 : t ≠ 120) :
    Calls Try.prog 126 #[.func (.func 130) #[] #[.pointer (some ⟨Bp, 0, none⟩)], .pointer (some ⟨P, o, none⟩)] w (GotP b Bb Bp P t cs.size (Im.decShip bs) (fun s cs' => cs'.size = cs.size ∧ Im.Patch cs o s.cells cs') w) := by
  have k0 := hP.cell o
  rw [o0] at k0
  have ltP := hP.lt
  have HPA := Lib.hid (hP.alloc (.cells #[.int .i64 0] 3))
  have HKA := Lib.hid (Rk.alloc (w := w) (Bb := Bb) (P := P) hbw (.cells #[.int .i64 0] 3))
  have c1 := Lib.hid (part_int 1 1 rfl 0 w.heap.size 0 3 #[.int .i64 0] bs b Bb Bp _ (by decide) hBy hbB hbw (by simp <;> omega) (h.call (one_below w (.cells #[.int .i64 0] 3)) hbw) (Box.made w 3 #[.int .i64 0]) rfl (by decide) (by decide) (by decide))
  have HO := Lib.hid o0
  have HB := Lib.hid hbP
  have HW := Lib.hid hbw
  have HY := Lib.hid hBy
  have HD := Lib.hid (show Im.decShip bs = (Im.rdn 1 bs).bind fun o => if o.1 = 0 then some (Gm.Ship.none, o.2) else if o.1 = 1 then (Im.decParts 4 [] o.2).bind fun f => (Im.rdn 1 f.2).bind fun c => (Im.rdn 4 c.2).bind fun s => some (⟨true, f.1.getD 0 0, f.1.getD 1 0, f.1.getD 2 0, f.1.getD 3 0, c.1, s.1⟩, s.2) else none from rfl)
  clear h hP hbw hBy
  go_enter Try.func126, Try.ntmps126
  go_upto_region 4 with (go_at_call 124; ((with_reducible refine (c1.out).mono ?_); rintro e w1 (⟨y, r1, hr, rfl, hI1, hK1, hL1⟩ | ⟨hn, ⟨ss, rfl⟩, hK1, cs2, hL1, hs⟩); (all_goals first | (have R1 := Lib.hid hr; have Y1 := Lib.hid (Im.rdn_inv HY.out hr); have l1 := hL1.cell 0; have P1 := Lib.hid (hK1.kb _ _ _ HPA.out (by omega) h1 h2); have p1 := P1.out.cell o; rw [HO.out] at p1; have f1 := P1.out.free o; have I1 := Lib.hid hI1; have K1 := Lib.hid (HKA.out.local hK1 (Nat.le_refl _)); clear hr hI1 hK1 hL1 k0 c1) | (have N1 := Lib.hid hn; have F1 := Lib.hid (HKA.out.local hK1 (Nat.le_refl _)); have G1 := Lib.hid (hK1.kb _ _ _ HPA.out (by omega) h1 h2); clear hn hK1 hL1 hs k0 c1))))
  rotate_left
  · refine ⟨rfl, .inr ⟨?_, ⟨_, rfl⟩, F1.out, _, G1.out, rfl⟩⟩
    rw [HD.out, N1.out, Option.bind_none]
  simp only [List.getElem?_toArray, Array.setIfInBounds, List.size_toArray, List.length_cons, List.length_nil, Nat.zero_add, Nat.lt_add_one, dite_true, List.set_toArray, List.set_cons_zero, List.getElem?_cons_zero] at l1
  by_cases hy0 : y = 0
  · subst hy0
    have hpt : Im.Patch cs o Gm.Ship.none.cells cs := by
      refine (Im.Patch.nil cs o).more Gm.Ship.none.cells fun i hi => ?_
      simp only [List.length_nil, Nat.add_zero]
      match i, hi with
      | 0, _ => exact o0
      | 1, _ => exact oz 0 (by omega)
      | 2, _ => exact oz 1 (by omega)
      | 3, _ => exact oz 2 (by omega)
      | 4, _ => exact oz 3 (by omega)
      | 5, _ => exact o5
      | 6, _ => exact o6
    have HPT := Lib.hid hpt
    clear hpt oz o5 o6
    go_wp2_with (go_at_call 76; ((with_reducible refine (need_yes _ _).mono ?_); rintro e wn ⟨rfl, rfl⟩))
    refine bodyPost_ret (results_none rfl _ _ _) rfl ?_
    refine .inl ⟨Gm.Ship.none, r1, by rw [HD.out, R1.out, Option.bind_some]; rfl, rfl, I1.out.off (p := ⟨P, o, none⟩) P1.out h3 h1 HB.out _, K1.out.put HB.out _ _, cs, ?_, rfl, HPT.out⟩
    have := P1.out.put o (.bool false)
    rwa [set_same HO.out] at this
  by_cases hy1 : y = 1
  rotate_left
  · have b0 : (y == 0) = false := by simpa using hy0
    have b1 : (y == 1) = false := by simpa using hy1
    have HN := Lib.hid (show Im.decShip bs = none by rw [HD.out, R1.out, Option.bind_some]; dsimp only; rw [if_neg hy0, if_neg hy1])
    clear hy0 hy1
    go_wp2_with (go_at_call 76; ((with_reducible refine (need_no _ _).mono ?_); rintro e wn ⟨rfl, rfl⟩))
    exact ⟨rfl, .inr ⟨HN.out, ⟨_, rfl⟩, K1.out, _, P1.out, rfl⟩⟩
  subst hy1
  have HD1 := Lib.hid (show Im.decShip bs = (Im.decParts 4 [] r1).bind fun f => (Im.rdn 1 f.2).bind fun c => (Im.rdn 4 c.2).bind fun s => some (⟨true, f.1.getD 0 0, f.1.getD 1 0, f.1.getD 2 0, f.1.getD 3 0, c.1, s.1⟩, s.2) by rw [HD.out, R1.out, Option.bind_some]; rfl)
  clear hy0
  go_upto_region 6 with (go_at_call 76; ((with_reducible refine (need_yes _ _).mono ?_); rintro e wn ⟨rfl, rfl⟩))
  obtain ⟨U, hU⟩ : ∃ U, U = w1.setCell ⟨P, o, none⟩ (.bool true) := ⟨_, rfl⟩
  have IU := Lib.hid (show Rd b Bb Bp _ U from hU ▸ I1.out.off (p := ⟨P, o, none⟩) P1.out h3 h1 HB.out (.bool true))
  have KU := Lib.hid (show Rk b Bb P w U from hU ▸ K1.out.put HB.out o (.bool true))
  have PU := Lib.hid (show Box U P t (cs.setIfInBounds o (.bool true)) from hU ▸ P1.out.put o (.bool true))
  rw [← hU]
  have T0 := Im.Patch.one (.bool true) o0
  have u0 := (PU.out.cell o).trans (T0.at 0 (by decide))
  simp only [List.getElem?_cons_zero] at u0
  have hc1 : ∀ k, k < 4 → (cs.setIfInBounds o (.bool true))[o + 1 + k]? = some (.int .i32 0) := fun k hk => (T0.cell (.inr (by show o + 1 ≤ o + 1 + k; omega))).trans (oz k hk)
  have cf := fun X hX1 hX2 hX3 Bq hne hq => Lib.hid (layflight_any P (o + 1) Bq t (cs.setIfInBounds o (.bool true)) r1 b Bb Bp X Y1.out.2.2.2 hbB hbP hX1 hX2 hX3 hc1 h1 h2 h3 hne hq 4)
  have HT0 := Lib.hid T0
  clear hU I1 K1 P1 p1 f1 l1 HPA HKA hc1 T0 oz o0
  go_upto_region 7 with fail
  refine Rx.wp_region_lex (X := fun ch Z => Im.decParts 4 [] r1 = none ∧ Pan (.panicked ch) ∧ Rk b Bb P w Z ∧ ∃ cs', Box Z P t cs' ∧ cs'.size = cs.size) (by kernel_rfl) [] (by kernel_rfl) (· = U.drew) (fun _ => True) (fun _ => True) rfl (fun W hW => ⟨trivial, trivial⟩) ?_ ?_
  · rintro a' ha' ch Z ⟨hn, ⟨ss, hp⟩, hK, cs', hB, hs⟩
    refine ⟨ha', .inr ⟨?_, ⟨ss, hp⟩, hK, cs', hB, hs⟩⟩
    rw [HD1.out, hn, Option.bind_none]
  repeat (first
    | (apply Rx.lex_free rfl rfl; focus (intro _; go_simp; first | done | rfl))
    | (apply Rx.lex_look rfl rfl rfl rfl; focus (intro W hW; clear hW; go_simp; first | done | rfl)))
  refine Rx.lex_make rfl (W' := U.drew.alloc (.cells #[.pointer (some ⟨P, o + 1, none⟩), .pointer (some ⟨P, o + 2, none⟩), .pointer (some ⟨P, o + 3, none⟩), .pointer (some ⟨P, o + 4, none⟩)] 180)) (v := .slice (some ⟨U.drew.heap.size, 0, none⟩) 4 4) ?_ ⟨trivial, trivial⟩ ?_
  focus (go_simp; first | done | rfl)
  refine Rx.lex_call (C' := fun Z => ∃ l r2, Im.decParts 4 [] r1 = some (l, r2) ∧ l.length = 4 ∧ Rd b Bb Bp r2 Z ∧ Rk b Bb P w Z ∧ ∃ cs', Box Z P t cs' ∧ cs'.size = cs.size ∧ Im.Patch cs o ([.bool true] ++ Im.i32s l) cs') (v := .tuple #[]) (f := 153) (args := #[.func (.func 130) #[] #[.pointer (some ⟨Bp, 0, none⟩)], .slice (some ⟨U.drew.heap.size, 0, none⟩) 4 4]) rfl ?_ ?_ ?_ ?_
  · intro Z hZ; clear hZ; go_simp; first | done | rfl | exact ⟨rfl, rfl⟩
  · intro Z hZ
    subst hZ
    have hs0 : b ≤ U.heap.size := Nat.le_trans HW.out KU.out.below.size
    have KA : Rk b Bb P w (U.drew.alloc (.cells #[.pointer (some ⟨P, o + 1, none⟩), .pointer (some ⟨P, o + 2, none⟩), .pointer (some ⟨P, o + 3, none⟩), .pointer (some ⟨P, o + 4, none⟩)] 180)) := KU.out.trans ⟨((one_below' U).mono hs0).trans ((one_below U.drew _).mono hs0), ((Kb.refl U).call (one_below' U)).call (one_below U.drew _)⟩
    have hW := (IU.out.call (one_below' U) hs0).call (one_below U.drew (.cells #[.pointer (some ⟨P, o + 1, none⟩), .pointer (some ⟨P, o + 2, none⟩), .pointer (some ⟨P, o + 3, none⟩), .pointer (some ⟨P, o + 4, none⟩)] 180)) hs0
    refine (cf _ (Nat.le_trans HW.out KA.below.size) hW (PU.out.drew.alloc _) U.drew.heap.size (by have := PU.out.drew.lt; omega) (Box.made _ _ _)).out.mono ?_
    rintro e Z2 (⟨l, r2, hd, rfl, hI2, hK2, cs', hB2, hl, hsz, hp2⟩ | ⟨hd, ⟨ss, rfl⟩, hK2, cs', hB2, hsz⟩)
    · exact .inl ⟨rfl, l, r2, hd, hl, hI2, KA.trans hK2, cs', hB2, by rw [hsz]; simp, HT0.out.trans hp2 rfl⟩
    · exact .inr ⟨_, rfl, hd, ⟨_, rfl⟩, KA.trans hK2, cs', hB2, by rw [hsz]; simp⟩
  · exact fun Z hZ => ⟨trivial, trivial⟩
  refine Rx.lex_end fun W3 hW3 => ?_
  obtain ⟨l, r2, hd3, hl3, hI3, hK3, cs3, hP3, hs3, hp3⟩ := hW3
  obtain ⟨xa, xb, xc, xd, rfl⟩ := four_is hl3
  obtain ⟨l'', _, _, hr2, Y3, _⟩ := Im.decParts_inv _ _ _ _ _ Y1.out.2.2.2 hd3
  have z5 : cs3[o + 5]? = some (.int .i64 0) := (hp3.cell (.inr (Nat.le_refl _))).trans o5
  have T5 := fun v : Int => hp3.trans (Im.Patch.one (.int .i64 v) z5) rfl
  have z6 : ∀ v : Int, (cs3.setIfInBounds (o + 5) (.int .i64 v))[o + 6]? = some (.int .i64 0) := fun v => ((T5 v).cell (.inr (Nat.le_refl _))).trans o6
  have T6 := Lib.hid (fun v u : Int => (T5 v).trans (Im.Patch.one (.int .i64 u) (z6 v)) rfl)
  have c5 := Lib.hid (part_int 1 1 rfl 0 P (o + 5) t cs3 r2 b Bb Bp W3 (by decide) Y3 hbB hbP (Nat.le_trans HW.out hK3.below.size) hI3 hP3 z5 h1 h2 h3)
  have c6 := fun v bs' X hy hX1 hX2 hX3 => Lib.hid (part_int 4 4 rfl 0 P (o + 6) t (cs3.setIfInBounds (o + 5) (.int .i64 v)) bs' b Bb Bp X (by decide) hy hbB hbP hX1 hX2 hX3 (z6 v) h1 h2 h3)
  have p3 := hP3.cell
  have K3 := Lib.hid hK3
  have Y3 := Lib.hid Y3
  have S3 := Lib.hid hs3
  have D3 := Lib.hid hd3
  clear hI3 hK3 hP3 cf IU KU PU u0 o5 o6 hp3 z5 T5 z6 HT0 hr2 hd3 hs3
  go_wp2_with (go_at_call 124; first | ((with_reducible refine (c5.out).mono ?_); rintro e w4 (⟨y4, r4, hr, rfl, hI, hK, hB⟩ | ⟨hn, ⟨ss, rfl⟩, hK, cs2, hB, hs⟩); (all_goals first | (have R4 := Lib.hid hr; have Y4 := Lib.hid (Im.rdn_inv Y3.out hr).2.2.2; have P4 := Lib.hid hB; have I4 := Lib.hid hI; have K4 := Lib.hid (K3.out.trans hK); clear hr hI hK hB c5) | (have N4 := Lib.hid hn; have F4 := Lib.hid (K3.out.trans hK); have G4 := Lib.hid hB; have S4 := Lib.hid hs; clear hn hK hB hs c5))) | ((with_reducible refine ((c6 _ _ _ Y4.out (Nat.le_trans HW.out K4.out.below.size) I4.out P4.out).out).mono ?_); rintro e w5 (⟨y5, r5, hr, rfl, hI, hK, hB⟩ | ⟨hn, ⟨ss, rfl⟩, hK, cs2, hB, hs⟩); (all_goals first | (have R5 := Lib.hid hr; have P5 := Lib.hid hB; have I5 := Lib.hid hI; have K5 := Lib.hid (K4.out.trans hK); clear hr hI hK hB) | (have N5 := Lib.hid hn; have F5 := Lib.hid (K4.out.trans hK); have G5 := Lib.hid hB; have S5 := Lib.hid hs; clear hn hK hB hs))))
  · go_end0
    refine .inl ⟨⟨true, xa, xb, xc, xd, y4, y5⟩, r5, ?_, rfl, I5.out, K5.out, _, P5.out, by simp [S3.out], T6.out y4 y5⟩
    rw [HD1.out, D3.out, Option.bind_some, R4.out, Option.bind_some, R5.out, Option.bind_some]
    rfl
  · refine ⟨rfl, .inr ⟨?_, ⟨_, rfl⟩, F5.out, _, G5.out, by rw [S5.out]; simp [S3.out]⟩⟩
    rw [HD1.out, D3.out, Option.bind_some, R4.out, Option.bind_some, N5.out, Option.bind_none]
  · refine ⟨rfl, .inr ⟨?_, ⟨_, rfl⟩, F4.out, _, G4.out, by rw [S4.out]; simp [S3.out]⟩⟩
    rw [HD1.out, D3.out, Option.bind_some, N4.out, Option.bind_none]
end Go.Proofs.Ytbihnmingedgfaa

/-
The program's image: the shots are read, whatever bytes there are.
-/

namespace Go.Proofs.Ytbihnmingedgfaa
open Go.RowKit Go.Shelf
set_option linter.unusedVariables false
set_option linter.unusedSimpArgs false

/-- What is left where a row of shots is read into cell 58 of block B. -/
def GotRow (b Bb Bp B : Nat) (t : TypeId) (cs : Array Value) (bs : List Int) (w : World) (e : Ending) (w' : World) : Prop :=
  (∃ l rest S, Im.decRow bs = some (l, rest) ∧ e = .returned (.tuple #[]) ∧ Rd b Bb Bp rest w' ∧ Rk b Bb B w w' ∧ Box w' B t (cs.setIfInBounds 58 (.slice (some ⟨S, 0, none⟩) l.length l.length)) ∧ Box w' S 108 (Gm.shotCells l).toArray) ∨
  (Im.decRow bs = none ∧ Pan e ∧ Rk b Bb B w w' ∧ ∃ cs', Box w' B t cs' ∧ cs'.size = cs.size)
theorem shotCells_app (l : List Gm.Shot) (s : Gm.Shot) : Gm.shotCells (l ++ [s]) = Gm.shotCells l ++ s.cells := by
  unfold Gm.shotCells; rw [List.flatMap_append]; simp

set_option maxRecDepth 100000 in
set_option maxHeartbeats 8000000 in
theorem layshots_any (B : Nat) (t : TypeId) (cs : Array Value) (bs : List Int) (b Bb Bp : Nat) (w : World) (hBy : Im.IsBytes bs) (hbB : b ≤ Bb) (hbP : b ≤ B) (hbw : b ≤ w.heap.size) (h : Rd b Bb Bp bs w) (hP : Box w B t cs)
    (ho : cs[58]? = some (.slice none 0 0)) (h1 : t ≠ 54) (h2 : t ≠ 5) (h3 : t ≠ 120) (h4 : t ≠ 108) :
    Calls Try.prog 127 #[.func (.func 130) #[] #[.pointer (some ⟨Bp, 0, none⟩)], .pointer (some ⟨B, 0, none⟩)] w (GotRow b Bb Bp B t cs bs w) := by
  have k0 := hP.cell 58
  rw [ho] at k0
  have ltP := hP.lt
  have HPA := Lib.hid (hP.alloc (.cells #[.int .i64 0] 3))
  have HKA := Lib.hid (Rk.alloc (w := w) (Bb := Bb) (P := B) hbw (.cells #[.int .i64 0] 3))
  have c1 := Lib.hid (part_int 1 1 rfl 0 w.heap.size 0 3 #[.int .i64 0] bs b Bb Bp _ (by decide) hBy hbB hbw (by simp <;> omega) (h.call (one_below w (.cells #[.int .i64 0] 3)) hbw) (Box.made w 3 #[.int .i64 0]) rfl (by decide) (by decide) (by decide))
  obtain ⟨i0, hi0, hz0, hz1, hz2⟩ := info_parts shot_info
  have hZa : ∀ n : Nat, ∃ Z : Array Value, Z = madeCells (Value.agg #[.int .i64 0, .int .i32 0, .int .i32 0, .int .i32 0, .int .i32 0, .int .i64 0]).cells (n * 6) ∧ Z.size = n * 6 ∧ ∀ k j, k < n → j < 6 → Z[k * 6 + j]? = (#[.int .i64 0, .int .i32 0, .int .i32 0, .int .i32 0, .int .i32 0, .int .i64 0] : Array Value)[j]? := fun n => by
    refine ⟨_, rfl, by rw [size_madeCells], fun k j hk hj => ?_⟩
    rw [made_at _ _ _ (by omega)]
    have e : (k * 6 + j) % (Value.agg #[.int .i64 0, .int .i32 0, .int .i32 0, .int .i32 0, .int .i32 0, .int .i64 0]).cells.size = j := by
      show (k * 6 + j) % 6 = j
      omega
    rw [e]
    match j, hj with
    | 0, _ | 1, _ | 2, _ | 3, _ | 4, _ | 5, _ => rfl
  have hmk : ∀ n : Nat, n < 256 → ∀ W : World, (Instr.makeSlice 28 (.int .i64 (n : Int)) (.int .i64 (n : Int))).run Try.prog W = .ok (.slice (some ⟨W.heap.size, 0, none⟩) n n) (W.alloc (.cells (madeCells (Value.agg #[.int .i64 0, .int .i32 0, .int .i32 0, .int .i32 0, .int .i32 0, .int .i64 0]).cells (n * 6)) 108)) := fun n hn W => by
    have := run_make (P := Try.prog) W 28 108 i0 _ Try.underlying28 hi0 hz0 .i64 .i64 n n (by omega) (Int.le_refl _) (by rw [hz2]; omega) (by omega)
    rw [this, hz1, Int.toNat_natCast]
  have hcp : ∀ (n : Nat) (Z : Array Value) (W : World), (Builtin.copy_ #[28, 28] 3 #[.slice (some ⟨W.heap.size, 0, none⟩) n n, .slice none 0 0]).run Try.prog (W.alloc (.cells Z 108)) = .ok (.int .i64 0) (W.alloc (.cells Z 108)) := fun n Z W => by
    have := run_copy_nought (P := Try.prog) (W.alloc (.cells Z 108)) 28 28 3 108 ⟨W.heap.size, 0, none⟩ n n 0 Try.underlying28 (by rw [Option.isSome_map]; rw [hi0]; rfl)
    simpa [goInt] using this
  have HO := Lib.hid ho
  have HB := Lib.hid hbP
  have HW := Lib.hid hbw
  have HY := Lib.hid hBy
  clear h hP ho hBy
  go_enter Try.func127, Try.ntmps127
  go_upto_region 2 with (go_at_call 124; ((with_reducible refine (c1.out).mono ?_); rintro r w1 (⟨m, r1, hr, rfl, hI, hK, hB1⟩ | ⟨hn, ⟨ss, rfl⟩, hK, cs', hB1, hs⟩); (all_goals first | (have R1 := Lib.hid hr; have Y1 := Lib.hid (Im.rdn_inv HY.out hr); have l1 := hB1.cell 0; have P1 := Lib.hid (hK.kb _ _ _ HPA.out (by omega) h1 h2); have I1 := Lib.hid hI; have K1 := Lib.hid (HKA.out.local hK (Nat.le_refl _)); clear hr hI hK hB1 c1 k0) | (have N1 := Lib.hid hn; have F1 := Lib.hid (HKA.out.local hK (Nat.le_refl _)); have G1 := Lib.hid (hK.kb _ _ _ HPA.out (by omega) h1 h2); clear hn hK hB1 hs c1 k0))))
  rotate_left
  · refine ⟨rfl, .inr ⟨?_, ⟨_, rfl⟩, F1.out, _, G1.out, rfl⟩⟩
    unfold Im.decRow
    rw [N1.out, Option.bind_none]
  obtain ⟨n, hmn⟩ : ∃ n : Nat, m = n := ⟨m.toNat, by have := Y1.out.2.1; omega⟩
  subst hmn
  have hn256 : n < 256 := by have := Y1.out.2.2.1; omega
  have HDE := Lib.hid (show Im.decRow bs = Im.decShots n [] r1 by unfold Im.decRow; rw [R1.out, Option.bind_some, Int.toNat_natCast])
  simp only [List.getElem?_toArray, Array.setIfInBounds, List.size_toArray, List.length_cons, List.length_nil, Nat.zero_add, Nat.lt_add_one, dite_true, List.set_toArray, List.set_cons_zero, List.getElem?_cons_zero] at l1
  obtain ⟨Z, hZ, hZs, hZc⟩ := hZa n
  have hmkn := hmk n hn256
  rw [← hZ] at hmkn
  have hcpw := hcp n Z w1
  have p58 : ∀ o, (w1.alloc o).cell? ⟨B, 58, none⟩ = some (.slice none 0 0) := fun o => ((P1.out.alloc o).cell 58).trans HO.out
  have f58 : ∀ o, (w1.alloc o).frozen? ⟨B, 58, none⟩ = false := fun o => (P1.out.alloc o).free 58
  have s1 := Nat.le_trans HW.out K1.out.below.size
  have sz1 := K1.out.below.size
  have HZS := Lib.hid hZs
  have HZC := Lib.hid hZc
  clear hcp HPA HKA hmk hZ hZa hZs hZc
  go_upto_region 5 with fail
  obtain ⟨U, hU⟩ : ∃ U, U = (w1.alloc (.cells Z 108)).setCell ⟨B, 58, none⟩ (.slice (some ⟨w1.heap.size, 0, none⟩) n n) := ⟨_, rfl⟩
  have PU := Lib.hid (show Box U B t (cs.setIfInBounds 58 (.slice (some ⟨w1.heap.size, 0, none⟩) n n)) by (rw [hU]; exact (P1.out.alloc _).put 58 _))
  have SU := Lib.hid (show Box U w1.heap.size 108 Z by (rw [hU]; exact (Box.made w1 _ _).far (by show _ ≠ B; have := P1.out.lt; omega) _))
  have IU := Lib.hid (show Rd b Bb Bp r1 U by (rw [hU]; exact (I1.out.call (one_below w1 _) s1).off (p := ⟨B, 58, none⟩) (P1.out.alloc _) h3 h1 HB.out _))
  have KU := Lib.hid (show Rk b Bb B w U by (rw [hU]; exact (K1.out.trans (Rk.alloc (w := w1) (Bb := Bb) (P := B) s1 _)).put HB.out 58 _))
  have hSB : Hid (w1.heap.size ≠ B) := Lib.hid (by have := P1.out.lt; omega)
  have hSw : Hid (b ≤ w1.heap.size) := Lib.hid s1
  have hSz : Hid (w.heap.size ≤ w1.heap.size) := Lib.hid sz1
  rw [← hU]
  generalize w1.heap.size = S at *
  clear hU I1 K1 P1 p58 f58 hcpw hmkn l1 s1 sz1
  have hbU : b ≤ U.heap.size := Nat.le_trans HW.out KU.out.below.size
  go_wp2
  go_loopw [29] (fun i wr => ∃ (k : Nat) (l : List Gm.Shot) (bs' : List Int), k ≤ n ∧ i = .int .i64 k ∧ l.length = k ∧ Im.IsBytes bs' ∧ Im.decShots n [] r1 = Im.decShots (n - k) l bs' ∧ Rd b Bb Bp bs' wr ∧ Rk b Bb S U wr ∧ ∃ cs', Box wr S 108 cs' ∧ cs'.size = n * 6 ∧ Im.Patch Z 0 (Gm.shotCells l) cs') (fun i _ => n - (intOf i).toNat)
  case atStart => exact ⟨0, [], r1, by omega, rfl, rfl, Y1.out.2.2.2, rfl, IU.out, Rk.refl _ _ _ _, Z, SU.out, HZS.out, Im.Patch.nil _ _⟩
  case round =>
    obtain ⟨k, l, bs', hk, rfl, hlen, hy, hdec, hI, hK, cs', hB, hsz, hpt⟩ := hrel
    by_cases hlt : k < n
    · have hk8 : (k : Int) < n := by omega
      rw [show n - k = (n - (k + 1)) + 1 by omega] at hdec
      have hlen6 : (Gm.shotCells l).length = k * 6 := by rw [Gm.shotCells_len, hlen]
      have zc : ∀ j, j < 6 → cs'[k * 6 + j]? = (#[.int .i64 0, .int .i32 0, .int .i32 0, .int .i32 0, .int .i32 0, .int .i64 0] : Array Value)[j]? := fun j hj => (hpt.cell (.inr (by rw [hlen6]; omega))).trans (HZC.out k j hlt hj)
      have HNX := Lib.hid (show Im.decShots n [] r1 = (Im.decShot bs').bind fun q => Im.decShots (n - (k + 1)) (l ++ [q.1]) q.2 from hdec)
      have HDV := Lib.hid (show Im.decShot bs' = (Im.rdn 1 bs').bind fun o => (Im.decParts 4 [] o.2).bind fun f => (Im.rdn 1 f.2).bind fun t => some (⟨o.1, f.1.getD 0 0, f.1.getD 1 0, f.1.getD 2 0, f.1.getD 3 0, t.1⟩, t.2) from rfl)
      have z0 := zc 0 (by omega)
      have T0 := fun v : Int => hpt.trans (Im.Patch.one (.int .i64 v) z0) (by rw [hlen6]; omega)
      have len0 : ∀ v : Int, (Gm.shotCells l ++ [Value.int .i64 v]).length = k * 6 + 1 := fun v => by rw [List.length_append, hlen6]; rfl
      have zf : ∀ (v : Int) j, j < 4 → (cs'.setIfInBounds (k * 6 + 0) (.int .i64 v))[k * 6 + 1 + j]? = some (.int .i32 0) := fun v j hj => by
        rw [Array.getElem?_setIfInBounds_ne (by omega), Nat.add_assoc, zc (1 + j) (by omega)]
        match j, hj with
        | 0, _ | 1, _ | 2, _ | 3, _ => rfl
      have z5 : ∀ v : Int, (cs'.setIfInBounds (k * 6 + 0) (.int .i64 v))[k * 6 + 5]? = some (.int .i64 0) := fun v => by
        rw [Array.getElem?_setIfInBounds_ne (by omega), zc 5 (by omega)]
        rfl
      have p2 := hB.cell
      have K2 := Lib.hid hK
      have hwy : b ≤ wr.heap.size := Nat.le_trans hbU hK.below.size
      have c3 := Lib.hid (part_int 1 1 rfl 0 S (k * 6) 108 cs' bs' b Bb Bp wr (by decide) hy hbB hSw.out hwy hI hB z0 (by decide) (by decide) (by decide))
      have LT := Lib.hid hB.lt
      have YY := Lib.hid hy
      have HSZ := Lib.hid hsz
      have HLEN := Lib.hid hlen
      have T00 := Lib.hid T0
      have L00 := Lib.hid len0
      have ZF := Lib.hid zf
      have Z5 := Lib.hid z5
      clear hI hK hdec zc hpt z0 hB hy hlen hsz hlen6 T0 len0 zf z5 hwy
      go_upto_region 10 with (go_at_call 124; ((with_reducible refine (c3.out).mono ?_); rintro e w3 (⟨y3, r3, hr, rfl, hI, hK, hB⟩ | ⟨hn, ⟨ss, rfl⟩, hK, cs2, hB, hs⟩); (all_goals first | (have R3 := Lib.hid hr; have Y3 := Lib.hid (Im.rdn_inv YY.out hr).2.2.2; have P3 := Lib.hid hB; have p3 := P3.out.cell; have I3 := Lib.hid hI; have K3 := Lib.hid (K2.out.trans hK); clear hr hI hK hB) | (have N3 := Lib.hid hn; have F3 := Lib.hid (K2.out.trans hK); clear hn hK hB hs))))
      rotate_left
      · refine ⟨rfl, .inr ⟨?_, ⟨_, rfl⟩, KU.out.local F3.out hSz.out, _, F3.out.kb _ _ _ PU.out hSB.out.symm h1 h2, by simp⟩⟩
        rw [HDE.out, HNX.out, HDV.out, N3.out, Option.bind_none, Option.bind_none]
      have zf := ZF.out y3
      have cf := fun X hX1 hX2 (hX3 : Box X S 108 (cs'.setIfInBounds (k * 6) (.int .i64 y3))) Bq hne hq => Lib.hid (layflight_any S (k * 6 + 1) Bq 108 (cs'.setIfInBounds (k * 6) (.int .i64 y3)) r3 b Bb Bp X Y3.out hbB hSw.out hX1 hX2 hX3 zf (by decide) (by decide) (by decide) hne hq 4)
      refine Rx.wp_region_lex (X := fun ch Z' => Im.decParts 4 [] r3 = none ∧ Pan (.panicked ch) ∧ Rk b Bb S U Z') (by kernel_rfl) [] (by kernel_rfl) (· = w3.drew) (fun _ => True) (fun _ => True) rfl (fun W hW => ⟨trivial, trivial⟩) ?_ ?_
      · rintro a' ha' ch Z' ⟨hn, ⟨ss, hp⟩, hK⟩
        refine ⟨ha', .inr ⟨?_, ⟨ss, hp⟩, KU.out.local hK hSz.out, _, hK.kb _ _ _ PU.out hSB.out.symm h1 h2, by simp⟩⟩
        rw [HDE.out, HNX.out, HDV.out, R3.out, Option.bind_some, hn, Option.bind_none, Option.bind_none]
      repeat (first
        | (apply Rx.lex_free rfl rfl; focus (intro _; go_simp; first | done | rfl))
        | (apply Rx.lex_look rfl rfl rfl rfl; focus (intro W hW; clear hW; go_simp; first | done | rfl)))
      refine Rx.lex_make rfl (W' := w3.drew.alloc (.cells #[.pointer (some ⟨S, k * 6 + 1, none⟩), .pointer (some ⟨S, k * 6 + 2, none⟩), .pointer (some ⟨S, k * 6 + 3, none⟩), .pointer (some ⟨S, k * 6 + 4, none⟩)] 180)) (v := .slice (some ⟨w3.drew.heap.size, 0, none⟩) 4 4) ?_ ⟨trivial, trivial⟩ ?_
      focus (go_simp; first | done | rfl)
      refine Rx.lex_call (C' := fun Z' => ∃ fl r4, Im.decParts 4 [] r3 = some (fl, r4) ∧ fl.length = 4 ∧ Rd b Bb Bp r4 Z' ∧ Rk b Bb S U Z' ∧ ∃ cf', Box Z' S 108 cf' ∧ cf'.size = n * 6 ∧ Im.Patch (cs'.setIfInBounds (k * 6) (.int .i64 y3)) (k * 6 + 1) (Im.i32s fl) cf') (v := .tuple #[]) (f := 153) (args := #[.func (.func 130) #[] #[.pointer (some ⟨Bp, 0, none⟩)], .slice (some ⟨w3.drew.heap.size, 0, none⟩) 4 4]) rfl ?_ ?_ ?_ ?_
      · intro Z' hZ'; clear hZ'; go_simp; first | done | rfl | exact ⟨rfl, rfl⟩
      · intro Z' hZ'
        subst hZ'
        have hs0 : b ≤ w3.heap.size := Nat.le_trans hbU K3.out.below.size
        have KA : Rk b Bb S U (w3.drew.alloc (.cells #[.pointer (some ⟨S, k * 6 + 1, none⟩), .pointer (some ⟨S, k * 6 + 2, none⟩), .pointer (some ⟨S, k * 6 + 3, none⟩), .pointer (some ⟨S, k * 6 + 4, none⟩)] 180)) := K3.out.trans ⟨((one_below' w3).mono hs0).trans ((one_below w3.drew _).mono hs0), ((Kb.refl w3).call (one_below' w3)).call (one_below w3.drew _)⟩
        have hW := (I3.out.call (one_below' w3) hs0).call (one_below w3.drew (.cells #[.pointer (some ⟨S, k * 6 + 1, none⟩), .pointer (some ⟨S, k * 6 + 2, none⟩), .pointer (some ⟨S, k * 6 + 3, none⟩), .pointer (some ⟨S, k * 6 + 4, none⟩)] 180)) hs0
        refine (cf _ (Nat.le_trans hbU KA.below.size) hW (P3.out.drew.alloc _) w3.drew.heap.size (by have := P3.out.drew.lt; omega) (Box.made _ _ _)).out.mono ?_
        rintro e Z2 (⟨fl, r4, hd, rfl, hI2, hK2, cf', hB2, hl, hsz, hp2⟩ | ⟨hd, ⟨ss, rfl⟩, hK2, cf', hB2, hsz⟩)
        · exact .inl ⟨rfl, fl, r4, hd, hl, hI2, KA.trans hK2, cf', hB2, by rw [hsz]; simp [HSZ.out], hp2⟩
        · exact .inr ⟨_, rfl, hd, ⟨_, rfl⟩, KA.trans hK2⟩
      · exact fun Z' hZ' => ⟨trivial, trivial⟩
      refine Rx.lex_end fun W4 hW4 => ?_
      obtain ⟨fl, r4, hd4, hl4, hI4, hK4, c4, hP4, hs4, hp4⟩ := hW4
      obtain ⟨_, _, _, _, Y4, _⟩ := Im.decParts_inv _ _ _ _ _ Y3.out hd4
      obtain ⟨xa, xb, xc, xd, rfl⟩ := four_is hl4
      have T4 := (T00.out y3).trans hp4 (by rw [L00.out]; omega)
      have len4 : (Gm.shotCells l ++ [Value.int .i64 y3] ++ Im.i32s [xa, xb, xc, xd]).length = k * 6 + 5 := by rw [List.length_append, L00.out]; rfl
      have z5' : c4[k * 6 + 5]? = some (.int .i64 0) := (hp4.cell (.inr (Nat.le_refl _))).trans (Z5.out y3)
      have T5 := fun v : Int => T4.trans (Im.Patch.one (.int .i64 v) z5') (by rw [len4]; omega)
      have HT5 := Lib.hid (fun v : Int => show Im.Patch Z 0 (Gm.shotCells (l ++ [⟨y3, xa, xb, xc, xd, v⟩])) (c4.setIfInBounds (k * 6 + 5) (.int .i64 v)) by
        have e := T5 v
        rw [shotCells_app]
        have e2 : Gm.shotCells l ++ [Value.int .i64 y3] ++ Im.i32s [xa, xb, xc, xd] ++ [Value.int .i64 v] = Gm.shotCells l ++ Gm.Shot.cells ⟨y3, xa, xb, xc, xd, v⟩ := by
          simp [Im.i32s, Gm.Shot.cells]
        rw [e2] at e
        exact e)
      have c5 := Lib.hid (part_int 1 1 rfl 0 S (k * 6 + 5) 108 c4 r4 b Bb Bp W4 (by decide) Y4 hbB hSw.out (Nat.le_trans hbU hK4.below.size) hI4 hP4 z5' (by decide) (by decide) (by decide))
      have p4 := hP4.cell
      have K4 := Lib.hid hK4
      have YY4 := Lib.hid Y4
      have D4 := Lib.hid hd4
      have S4 := Lib.hid hs4
      clear hI4 hK4 hP4 cf zf z5' T4 T5 len4 hp4 p3 p2 c3 hd4 hs4
      go_wp2_with (go_at_call 124; ((with_reducible refine (c5.out).mono ?_); rintro e w5 (⟨y5, r5, hr, rfl, hI, hK, hB⟩ | ⟨hn, ⟨ss, rfl⟩, hK, cs2, hB, hs⟩); (all_goals first | (have R5 := Lib.hid hr; have P5 := Lib.hid hB; have I5 := Lib.hid hI; have K5 := Lib.hid (K4.out.trans hK); clear hr hI hK hB) | (have N5 := Lib.hid hn; have F5 := Lib.hid (K4.out.trans hK); clear hn hK hB hs))))
      · go_roundw
        case rel =>
          refine ⟨k + 1, l ++ [⟨y3, xa, xb, xc, xd, y5⟩], r5, by omega, by go_num, by rw [List.length_append, HLEN.out]; rfl, (Im.rdn_inv YY4.out R5.out).2.2.2, ?_, I5.out, K5.out, _, P5.out, by simp [S4.out], HT5.out y5⟩
          rw [HNX.out, HDV.out, R3.out, Option.bind_some, D4.out, Option.bind_some, R5.out, Option.bind_some, Option.bind_some]
          rfl
        case measure => simp [intOf]; omega
      · refine ⟨rfl, .inr ⟨?_, ⟨_, rfl⟩, KU.out.local F5.out hSz.out, _, F5.out.kb _ _ _ PU.out hSB.out.symm h1 h2, by simp⟩⟩
        rw [HDE.out, HNX.out, HDV.out, R3.out, Option.bind_some, D4.out, Option.bind_some, N5.out, Option.bind_none, Option.bind_none]
    · have hk8 : ¬ (k : Int) < n := by omega
      obtain rfl : k = n := by omega
      rw [Nat.sub_self] at hdec
      have hcs := patch_all hpt (by rw [HZS.out, Gm.shotCells_len, hlen])
      rw [hcs] at hB
      have HI := Lib.hid hI
      have HK := Lib.hid hK
      have HBX := Lib.hid hB
      have HDX := Lib.hid hdec
      have HL := Lib.hid hlen
      clear hI hK hB hdec hlen hpt hcs
      go_wp2
      go_end0
      refine .inl ⟨l, bs', S, by rw [HDE.out, HDX.out]; rfl, rfl, HI.out, KU.out.local HK.out hSz.out, ?_, HBX.out⟩
      rw [HL.out]
      exact HK.out.kb _ _ _ PU.out hSB.out.symm h1 h2
end Go.Proofs.Ytbihnmingedgfaa

/-
The program's image: a whole state is read, whatever bytes there are.
-/

namespace Go.Proofs.Ytbihnmingedgfaa
open Go.RowKit Go.Shelf
set_option linter.unusedVariables false
set_option linter.unusedSimpArgs false

theorem patch_unique {cs a b : Array Value} {o : Nat} {l : List Value} (h : Im.Patch cs o l a) (k : Im.Patch cs o l b) : a = b := Array.ext_getElem? fun j => (h j).trans (k j).symm
theorem Im.patch_ship (g : Gm.G) (s : Value) (r : Ros.R) (k : Nat) (hk : k < 8) (t : Gm.Ship) : Im.Patch (Im.cells g s r) (2 + k * 7) t.cells (Im.cells { g with ship := Gm.upd g.ship k t } s r) := by
  have e : ∀ (cs : Array Value) (i : Nat) (v : Value), i < 59 → cs.size = 59 → (cs ++ Ros.cells r).setIfInBounds i v = cs.setIfInBounds i v ++ Ros.cells r := fun cs i v hi hc => by rw [Array.setIfInBounds_append, if_pos (by omega)]
  have c := fun j hj => Im.cells_ship g s r k j hk hj
  have c0 := c 0 (by omega)
  have c1 := c 1 (by omega)
  have c2 := c 2 (by omega)
  have c3 := c 3 (by omega)
  have c4 := c 4 (by omega)
  have c5 := c 5 (by omega)
  have c6 := c 6 (by omega)
  simp only [Gm.Ship.cells, List.getElem?_cons_zero, List.getElem?_cons_succ, Nat.add_zero] at c0 c1 c2 c3 c4 c5 c6
  have T0 := Im.Patch.one (.bool t.on) c0
  have T1 := T0.trans (Im.Patch.one (o := 2 + k * 7 + 1) (.int .i32 t.x) ((T0.cell (.inr (Nat.le_refl _))).trans c1)) rfl
  have T2 := T1.trans (Im.Patch.one (o := 2 + k * 7 + 2) (.int .i32 t.y) ((T1.cell (.inr (Nat.le_refl _))).trans c2)) rfl
  have T3 := T2.trans (Im.Patch.one (o := 2 + k * 7 + 3) (.int .i32 t.vx) ((T2.cell (.inr (Nat.le_refl _))).trans c3)) rfl
  have T4 := T3.trans (Im.Patch.one (o := 2 + k * 7 + 4) (.int .i32 t.vy) ((T3.cell (.inr (Nat.le_refl _))).trans c4)) rfl
  have T5 := T4.trans (Im.Patch.one (o := 2 + k * 7 + 5) (.int .i64 t.cool) ((T4.cell (.inr (Nat.le_refl _))).trans c5)) rfl
  have T6 := T5.trans (Im.Patch.one (o := 2 + k * 7 + 6) (.int .i64 t.score) ((T5.cell (.inr (Nat.le_refl _))).trans c6)) rfl
  unfold Im.cells at T6 ⊢
  rw [e _ _ _ (by omega) (by simp [Gm.cells_size]), e _ _ _ (by omega) (by simp [Gm.cells_size]), e _ _ _ (by omega) (by simp [Gm.cells_size]), e _ _ _ (by omega) (by simp [Gm.cells_size]), e _ _ _ (by omega) (by simp [Gm.cells_size]), e _ _ _ (by omega) (by simp [Gm.cells_size]), e _ _ _ (by omega) (by simp [Gm.cells_size]), set7 g s k hk t] at T6
  exact T6
theorem Im.cells_seat' (g : Gm.G) (s : Value) (q : Ros.R) (k : Nat) (hk : k < 8) (p n : Int) : ((Im.cells g s q).setIfInBounds (60 + k * 2) (.int .i64 p)).setIfInBounds (60 + k * 2 + 1) (.int .i64 n) = Im.cells g s (Im.setSeat q k p n) := by
  rw [show 60 + k * 2 = 59 + (1 + k * 2) by omega, Im.cells_set_r, Ros.cells_setp _ k hk]
  rw [show 59 + (1 + k * 2) + 1 = 59 + (1 + k * 2 + 1) by omega]
  have := Im.cells_set_r g s { q with peer := Ros.upd q.peer k p } (1 + k * 2 + 1) (.int .i64 n)
  unfold Im.cells at this ⊢
  rw [this, Ros.cells_setg _ k hk]
  rfl
def GotIm (b Bb Bp B : Nat) (bs : List Int) (w : World) (e : Ending) (w' : World) : Prop :=
  (∃ g r rest S, Im.dec bs = some ((g, r), rest) ∧ e = .returned (.tuple #[]) ∧ Rd b Bb Bp rest w' ∧ Rk b Bb B w w' ∧ Box w' B 53 (Im.cells g (.slice (some ⟨S, 0, none⟩) g.shots.length g.shots.length) r) ∧ Box w' S 108 (Gm.shotCells g.shots).toArray) ∨
  (Im.dec bs = none ∧ Pan e ∧ Rk b Bb B w w' ∧ ∃ cs', Box w' B 53 cs' ∧ cs'.size = 76)

set_option maxRecDepth 100000 in
set_option maxHeartbeats 8000000 in
theorem laystate_any (Z : Array Value) (hZ : Z = Im.cells Im.G0 (.slice none 0 0) Im.R0) (B : Nat) (bs : List Int) (b Bb Bp : Nat) (w : World) (hBy : Im.IsBytes bs) (hbB : b ≤ Bb) (hbP : b ≤ B) (hbw : b ≤ w.heap.size) (h : Rd b Bb Bp bs w) (hP : Box w B 53 Z) :
    Calls Try.prog 78 #[.func (.func 130) #[] #[.pointer (some ⟨Bp, 0, none⟩)], .pointer (some ⟨B, 0, none⟩)] w (GotIm b Bb Bp B bs w) := by
  have zs : Z.size = 76 := by rw [hZ]; exact Im.cells_size _ _ _
  have z0 : Z[0]? = some (.int .i64 0) := by rw [hZ]; exact (Im.cells_g _ _ _ 0 (by omega)).trans (Gm.cells_0 _ _)
  have z1 : ∀ v, (Z.setIfInBounds 0 v)[1]? = some (.int .u64 0) := fun v => by rw [Array.getElem?_setIfInBounds_ne (by omega), hZ]; exact (Im.cells_g _ _ _ 1 (by omega)).trans (Gm.cells_1 _ _)
  have z2 : ∀ f d : Int, (Z.setIfInBounds 0 (.int .i64 f)).setIfInBounds 1 (.int .u64 d) = Im.cells ⟨f, d, Im.ships0, []⟩ (.slice none 0 0) Im.R0 := fun f d => by rw [hZ, Im.cells_frame, Im.cells_dice]; rfl
  have c1 := Lib.hid (part_int 4 4 rfl 0 B 0 53 Z bs b Bb Bp w (by decide) hBy hbB hbP hbw h hP z0 (by decide) (by decide) (by decide))
  have c2 := fun v bs' X hy hX1 hX2 hX3 => Lib.hid (part_u64 8 8 rfl 0 B 1 53 (Z.setIfInBounds 0 v) bs' b Bb Bp X (by decide) hy hbB hbP hX1 hX2 hX3 (z1 v) (by decide) (by decide) (by decide))
  have HW := Lib.hid hbw
  have HY := Lib.hid hBy
  have HZ2 := Lib.hid z2
  have HZS := Lib.hid zs
  have ltP := hP.lt
  have HD := Lib.hid (show Im.dec bs = (Im.rdn 4 bs).bind fun f => (Im.rdn 8 f.2).bind fun d => (Im.decShips 0 8 Im.ships0 d.2).bind fun s => (Im.decRow s.2).bind fun l => (Im.rdn 4 l.2).bind fun v => (Im.decSeats 0 8 { Im.R0 with version := v.1 } v.2).bind fun r => some ((⟨f.1, d.1, s.1, l.1⟩, r.1), r.2) from rfl)
  clear h hP hbw hBy hZ z0 z1 z2 zs
  go_enter Try.func78, Try.ntmps78
  go_upto_region 2 with (first | (go_at_call 124; ((with_reducible refine (c1.out).mono ?_); rintro e w1 (⟨f, r1, hr, rfl, hI, hK, hB⟩ | ⟨hn, ⟨ss, rfl⟩, hK, cs2, hB, hs⟩); (all_goals first | (have R1 := Lib.hid hr; have Y1 := Lib.hid (Im.rdn_inv HY.out hr).2.2.2; have P1 := Lib.hid hB; have I1 := Lib.hid hI; have K1 := Lib.hid hK; clear hr hI hK hB c1) | (have N1 := Lib.hid hn; have F1 := Lib.hid hK; have G1 := Lib.hid hB; have S1 := Lib.hid hs; clear hn hK hB hs c1)))) | (go_at_call 125; ((with_reducible refine ((c2 _ _ _ Y1.out (Nat.le_trans HW.out K1.out.below.size) I1.out P1.out).out).mono ?_); rintro e w2 (⟨d, r2, hr, rfl, hI, hK, hB⟩ | ⟨hn, ⟨ss, rfl⟩, hK, cs2, hB, hs⟩); (all_goals first | (have R2 := Lib.hid hr; have Y2 := Lib.hid (Im.rdn_inv Y1.out hr).2.2.2; (have e2 := HZ2.out f d); have P2 := Lib.hid (e2 ▸ hB : Box w2 B 53 (Im.cells ⟨f, d, Im.ships0, []⟩ (.slice none 0 0) Im.R0)); clear e2; have I2 := Lib.hid hI; have K2 := Lib.hid (K1.out.trans hK); clear hr hI hK hB c2) | (have N2 := Lib.hid hn; have F2 := Lib.hid (K1.out.trans hK); have G2 := Lib.hid hB; have S2 := Lib.hid hs; clear hn hK hB hs c2)))))
  rotate_left
  iterate 2
    · first
        | (refine ⟨rfl, .inr ⟨?_, ⟨_, rfl⟩, F2.out, _, G2.out, by rw [S2.out]; simp [HZS.out]⟩⟩
           rw [HD.out, R1.out, Option.bind_some, N2.out, Option.bind_none])
        | (refine ⟨rfl, .inr ⟨?_, ⟨_, rfl⟩, F1.out, _, G1.out, by rw [S1.out]; simp [HZS.out]⟩⟩
           rw [HD.out, N1.out, Option.bind_none])
  have HD2 := Lib.hid (show Im.dec bs = (Im.decShips 0 8 Im.ships0 r2).bind fun s => (Im.decRow s.2).bind fun l => (Im.rdn 4 l.2).bind fun v => (Im.decSeats 0 8 { Im.R0 with version := v.1 } v.2).bind fun r => some ((⟨f, d, s.1, l.1⟩, r.1), r.2) by rw [HD.out, R1.out, Option.bind_some, R2.out, Option.bind_some])
  skip
  go_wp2
  go_loopw [18] (fun i wr => ∃ (k : Nat) (s : Nat → Gm.Ship) (bs' : List Int), k ≤ 8 ∧ i = .int .i64 k ∧ Im.IsBytes bs' ∧ Im.decShips 0 8 Im.ships0 r2 = Im.decShips k (8 - k) s bs' ∧ (∀ j, k ≤ j → s j = Gm.Ship.none) ∧ Rd b Bb Bp bs' wr ∧ Rk b Bb B w wr ∧ Box wr B 53 (Im.cells ⟨f, d, s, []⟩ (.slice none 0 0) Im.R0)) (fun i _ => 8 - (intOf i).toNat)
  case atStart => exact ⟨0, Im.ships0, r2, by omega, rfl, Y2.out, rfl, fun _ _ => rfl, I2.out, K2.out, P2.out⟩
  case round =>
    obtain ⟨k, s, bs', hk, rfl, hy, hdec, hz, hI, hK, hB⟩ := hrel
    clear I1 P1 K1 I2 P2 K2
    by_cases hlt : k < 8
    · have hk8 : (k : Int) < 8 := by omega
      rw [show 8 - k = (8 - (k + 1)) + 1 by omega] at hdec
      have hsk := hz k (Nat.le_refl _)
      have hcell := fun j hj => Im.cells_ship ⟨f, d, s, []⟩ (.slice none 0 0) Im.R0 k j hlt hj
      have hp := fun t => Lib.hid (Im.patch_ship ⟨f, d, s, []⟩ (.slice none 0 0) Im.R0 k hlt t)
      have hsize := Im.cells_size ⟨f, d, s, []⟩ (.slice none 0 0) Im.R0
      rw [show Gm.G.ship ⟨f, d, s, []⟩ k = Gm.Ship.none from hsk] at hcell
      have HN := Lib.hid (show Im.decShips 0 8 Im.ships0 r2 = (Im.decShip bs').bind fun q => Im.decShips (k + 1) (8 - (k + 1)) (Gm.upd s k q.1) q.2 from hdec)
      obtain ⟨C, hC⟩ : ∃ C, C = Im.cells ⟨f, d, s, []⟩ (.slice none 0 0) Im.R0 := ⟨_, rfl⟩
      rw [← hC] at hB hcell hsize
      simp only [← hC] at hp
      have c3 := Lib.hid (layship_any B (2 + k * 7) 53 C bs' b Bb Bp wr hy hbB hbP (Nat.le_trans HW.out hK.below.size) hI hB (hcell 0 (by omega)) (fun j hj => by
        have := hcell (1 + j) (by omega)
        rw [← Nat.add_assoc] at this
        rw [this]
        match j, hj with
        | 0, _ | 1, _ | 2, _ | 3, _ => rfl) (hcell 5 (by omega)) (hcell 6 (by omega)) (by decide) (by decide) (by decide))
      have HK := Lib.hid hK
      have YY := Lib.hid hy
      have HZN := Lib.hid hz
      have HSZ := Lib.hid hsize
      clear hI hK hB hcell hdec hy hz hsk hC hsize
      go_wp2_with (go_at_call 126; ((with_reducible refine (c3.out).mono ?_); rintro e w4 (⟨v, r4, hr, rfl, hI, hK, cs', hB, hsz, hpt⟩ | ⟨hn, ⟨ss, rfl⟩, hK, cs', hB, hs⟩); (all_goals first | (have R4 := Lib.hid hr; have I4 := Lib.hid hI; have K4 := Lib.hid (HK.out.trans hK); rw [patch_unique hpt (hp v).out] at hB; have P4 := Lib.hid hB; clear hr hI hK hB hsz hpt) | (have N4 := Lib.hid hn; have F4 := Lib.hid (HK.out.trans hK); have G4 := Lib.hid hB; have S4 := Lib.hid hs; clear hn hK hB hs))))
      · go_roundw
        case rel => exact ⟨k + 1, Gm.upd s k v, r4, by omega, by go_num, (Im.decShip_inv YY.out R4.out).2.1, by rw [HN.out, R4.out, Option.bind_some], fun j hj => by rw [Gm.upd_other _ _ (by omega)]; exact HZN.out j (by omega), I4.out, K4.out, P4.out⟩
        case measure => simp [intOf]; omega
      · refine ⟨rfl, .inr ⟨?_, ⟨_, rfl⟩, F4.out, _, G4.out, by rw [S4.out, HSZ.out]⟩⟩
        rw [HD2.out, HN.out, N4.out, Option.bind_none, Option.bind_none]
    · have hk8 : ¬ (k : Int) < 8 := by omega
      obtain rfl : k = 8 := by omega
      have HD3 := Lib.hid (show Im.dec bs = (Im.decRow bs').bind fun l => (Im.rdn 4 l.2).bind fun v => (Im.decSeats 0 8 { Im.R0 with version := v.1 } v.2).bind fun r => some ((⟨f, d, s, l.1⟩, r.1), r.2) by rw [HD2.out, hdec]; rfl)
      have c5 := Lib.hid (layshots_any B 53 _ bs' b Bb Bp wr hy hbB hbP (Nat.le_trans HW.out hK.below.size) hI hB ((Im.cells_g _ _ _ 58 (by omega)).trans (Gm.cells_58 _ _)) (by decide) (by decide) (by decide) (by decide))
      have hset := fun l : List Gm.Shot => fun S => Lib.hid (show (Im.cells ⟨f, d, s, []⟩ (.slice none 0 0) Im.R0).setIfInBounds 58 (.slice (some ⟨S, 0, none⟩) l.length l.length) = Im.cells ⟨f, d, s, l⟩ (.slice (some ⟨S, 0, none⟩) l.length l.length) Im.R0 by rw [Im.cells_shots']; rfl)
      have hsize := Lib.hid (Im.cells_size ⟨f, d, s, []⟩ (.slice none 0 0) Im.R0)
      have HK := Lib.hid hK
      have YY := Lib.hid hy
      clear hI hK hB hdec hy hz
      go_upto_region 8 with (go_at_call 127; ((with_reducible refine (c5.out).mono ?_); rintro e w6 (⟨l, r6, S, hr, rfl, hI, hK, hB, hS⟩ | ⟨hn, ⟨ss, rfl⟩, hK, cs', hB, hs⟩); (all_goals first | (have R6 := Lib.hid hr; rw [(hset l S).out] at hB; have I6 := Lib.hid hI; have P6 := Lib.hid hB; have S6 := Lib.hid hS; have K6 := Lib.hid (HK.out.trans hK); clear hr hI hK hB hS) | (have N6 := Lib.hid hn; have F6 := Lib.hid (HK.out.trans hK); have G6 := Lib.hid hB; have Z6 := Lib.hid hs; clear hn hK hB hs))))
      rotate_left
      · refine ⟨rfl, .inr ⟨?_, ⟨_, rfl⟩, F6.out, _, G6.out, by rw [Z6.out, hsize.out]⟩⟩
        rw [HD3.out, N6.out, Option.bind_none]
      have hY6 : Hid (Im.IsBytes r6) := Lib.hid (by
        have hr := R6.out
        unfold Im.decRow at hr
        obtain ⟨⟨n, b4⟩, h5, he⟩ := Option.bind_eq_some_iff.1 hr
        obtain ⟨_, _, _, _, h6, _⟩ := Im.decShots_inv _ _ _ _ _ (Im.rdn_inv YY.out h5).2.2.2 he
        exact h6)
      have HD4 := Lib.hid (show Im.dec bs = (Im.rdn 4 r6).bind fun v => (Im.decSeats 0 8 { Im.R0 with version := v.1 } v.2).bind fun r => some ((⟨f, d, s, l⟩, r.1), r.2) by rw [HD3.out, R6.out, Option.bind_some])
      have hne6 : Hid (S ≠ B) := Lib.hid (Box.apart S6.out P6.out (by decide))
      obtain ⟨g, hg⟩ : ∃ g : Gm.G, g = ⟨f, d, s, l⟩ := ⟨_, rfl⟩
      have HL := Lib.hid (show g.shots = l by rw [hg])
      rw [← hg] at P6 HD4
      have e59 : ∀ sl, (Im.cells g sl Im.R0)[59]? = some (.int .i64 0) := fun sl => (Im.cells_r _ _ _ 0).trans (Ros.cells_0 _)
      have c7 := Lib.hid (part_int 4 4 rfl 0 B 59 53 _ r6 b Bb Bp w6 (by decide) hY6.out hbB hbP (Nat.le_trans HW.out K6.out.below.size) I6.out P6.out (e59 _) (by decide) (by decide) (by decide))
      have hsv := fun sl v => Lib.hid (Im.cells_version g sl Im.R0 v)
      have hsz2 := fun sl r => Lib.hid (Im.cells_size g sl r)
      clear e59 c5 hset hg HD HD2 HD3
      go_upto_region 9 with (go_at_call 124; ((with_reducible refine (c7.out).mono ?_); rintro e w7 (⟨v, r7, hr, rfl, hI, hK, hB⟩ | ⟨hn, ⟨ss, rfl⟩, hK, cs2, hB, hs⟩); (all_goals first | (have R7 := Lib.hid hr; have Y7 := Lib.hid (Im.rdn_inv hY6.out hr).2.2.2; have P7 := Lib.hid ((hsv _ v).out ▸ hB : Box w7 B 53 (Im.cells g (.slice (some ⟨S, 0, none⟩) l.length l.length) { Im.R0 with version := v })); have I7 := Lib.hid hI; have K7 := Lib.hid (K6.out.trans hK); have S7 := Lib.hid (hK.kb _ _ _ S6.out hne6.out (by decide) (by decide)); clear hr hI hK hB) | (have N7 := Lib.hid hn; have F7 := Lib.hid (K6.out.trans hK); have G7 := Lib.hid hB; have Z7 := Lib.hid hs; clear hn hK hB hs))))
      rotate_left
      · refine ⟨rfl, .inr ⟨?_, ⟨_, rfl⟩, F7.out, _, G7.out, by rw [Z7.out, (hsz2 _ _).out]⟩⟩
        rw [HD4.out, N7.out, Option.bind_none]
      have HD5 := Lib.hid (show Im.dec bs = (Im.decSeats 0 8 { Im.R0 with version := v } r7).bind fun r => some ((g, r.1), r.2) by rw [HD4.out, R7.out, Option.bind_some])
      clear c7
      go_wp2
      go_loopw [41] (fun i wx => ∃ (k : Nat) (q : Ros.R) (bs' : List Int), k ≤ 8 ∧ i = .int .i64 k ∧ Im.IsBytes bs' ∧ Im.decSeats 0 8 { Im.R0 with version := v } r7 = Im.decSeats k (8 - k) q bs' ∧ (∀ j, k ≤ j → q.peer j = 0 ∧ q.gen j = 0) ∧ Rd b Bb Bp bs' wx ∧ Rk b Bb B w wx ∧ Box wx B 53 (Im.cells g (.slice (some ⟨S, 0, none⟩) l.length l.length) q) ∧ Box wx S 108 (Gm.shotCells l).toArray) (fun i _ => 8 - (intOf i).toNat)
      case atStart => exact ⟨0, { Im.R0 with version := v }, r7, by omega, rfl, Y7.out, rfl, fun _ _ => ⟨rfl, rfl⟩, I7.out, K7.out, P7.out, S7.out⟩
      case round =>
        obtain ⟨k, q, bs', hk, rfl, hy, hdec, hz, hI, hK, hB, hS⟩ := hrel
        clear I7 P7 K7 S7 I6 P6 K6 S6
        by_cases hlt : k < 8
        · have hk8 : (k : Int) < 8 := by omega
          rw [show 8 - k = (8 - (k + 1)) + 1 by omega] at hdec
          have hzk := hz k (Nat.le_refl _)
          have ep : ∀ sl, (Im.cells g sl q)[60 + k * 2]? = some (.int .i64 0) := fun sl => by rw [Im.cells_peer _ _ _ k hlt, hzk.1]
          have eg : ∀ sl, (Im.cells g sl q)[60 + k * 2 + 1]? = some (.int .i64 0) := fun sl => by rw [Im.cells_gen _ _ _ k hlt, hzk.2]
          have c8 := Lib.hid (layseat_any B (60 + k * 2) 53 _ bs' b Bb Bp wr hy hbB hbP (Nat.le_trans HW.out hK.below.size) hI hB (ep _) (eg _) (by decide) (by decide) (by decide))
          have hset := fun sl p n => Lib.hid (Im.cells_seat' g sl q k hlt p n)
          have HN := Lib.hid (show Im.decSeats 0 8 { Im.R0 with version := v } r7 = (Im.decSeat bs').bind fun x => Im.decSeats (k + 1) (8 - (k + 1)) (Im.setSeat q k x.1.1 x.1.2) x.2 from hdec)
          have HK := Lib.hid hK
          have YY := Lib.hid hy
          have HZN := Lib.hid hz
          have HS := Lib.hid hS
          clear hI hK hB ep eg hdec hy hz hzk hS
          go_wp2_with (go_at_call 128; ((with_reducible refine (c8.out).mono ?_); rintro e w9 (⟨⟨p, n⟩, r9, hr, rfl, hI, hK, hB⟩ | ⟨hn, ⟨ss, rfl⟩, hK, cs2, hB, hs⟩); (all_goals first | (have R9 := Lib.hid hr; have I9 := Lib.hid hI; have K9 := Lib.hid (HK.out.trans hK); have P9 := Lib.hid ((hset _ p n).out ▸ hB : Box w9 B 53 (Im.cells g (.slice (some ⟨S, 0, none⟩) l.length l.length) (Im.setSeat q k p n))); have S9 := Lib.hid (hK.kb _ _ _ HS.out hne6.out (by decide) (by decide)); clear hr hI hK hB) | (have N9 := Lib.hid hn; have F9 := Lib.hid (HK.out.trans hK); have G9 := Lib.hid hB; have Z9 := Lib.hid hs; clear hn hK hB hs))))
          · go_roundw
            case rel => exact ⟨k + 1, Im.setSeat q k p n, r9, by omega, by go_num, (Im.decSeat_inv YY.out R9.out).2, by rw [HN.out, R9.out, Option.bind_some], fun j hj => by
              have e3 : (Im.setSeat q k p n).peer j = q.peer j := Ros.upd_other _ _ (by omega)
              have e4 : (Im.setSeat q k p n).gen j = q.gen j := Ros.upd_other _ _ (by omega)
              rw [e3, e4]
              exact HZN.out j (by omega), I9.out, K9.out, P9.out, S9.out⟩
            case measure => simp [intOf]; omega
          · refine ⟨rfl, .inr ⟨?_, ⟨_, rfl⟩, F9.out, _, G9.out, by rw [Z9.out, (hsz2 _ _).out]⟩⟩
            rw [HD5.out, HN.out, N9.out, Option.bind_none, Option.bind_none]
        · have hk8 : ¬ (k : Int) < 8 := by omega
          obtain rfl : k = 8 := by omega
          have HI := Lib.hid hI
          have HK := Lib.hid hK
          have HBB := Lib.hid hB
          have HS := Lib.hid hS
          have HE := Lib.hid (show Im.dec bs = some ((g, q), bs') by rw [HD5.out, hdec]; rfl)
          clear hI hK hB hdec hS
          go_wp2
          go_end0
          exact .inl ⟨g, q, bs', S, HE.out, rfl, HI.out, HK.out, by rw [HL.out]; exact HBB.out, by rw [HL.out]; exact HS.out⟩
end Go.Proofs.Ytbihnmingedgfaa

/-
Put, with the room of its bytes; what several results are.
-/

namespace Go.Proofs.Ytbihnmingedgfaa
open Go.RowKit Go.Shelf
set_option linter.unusedVariables false
set_option linter.unusedSimpArgs false

theorem put_made (g : Gm.G) (r : Ros.R) (A : Option Addr) (n c : Nat) (w : World) (hok : Im.Ok g r) (hd : 0 ≤ g.dice ∧ g.dice ≤ 18446744073709551615) (hn : n = g.shots.length) (hr : Lies w w.heap.size 6 A n (Gm.shotCells g.shots)) :
    Calls Try.prog 29 #[.agg (Im.cells g (.slice A n c) r)] w fun e w' => ∃ A' c', e = .returned (.tuple #[.slice A' (Im.put g r).length c', .int .i64 0]) ∧ (Im.put g r).length ≤ c' ∧ Lies w' w'.heap.size 1 A' (Im.put g r).length (Im.u8s (Im.put g r)) ∧ Below w.heap.size w w' := by
  have hmf : ∀ (fn : Fn) (first cap : Array Value) (w : World), (Instr.makeFunc fn first cap).run Try.prog w = .ok (.func fn first cap) w := fun _ _ _ _ => rfl
  have hn32 : g.shots.length ≤ 32 := hok.1.2.2.1
  have hlen := Im.put_le g r hn32
  have P1 := Lib.hid (((Box.made w 53 (Im.cells g (.slice A n c) r)).alloc (.cells #[.slice none 0 0] 54)).alloc (.cells #[.int .i64 0] 3))
  have B1 := Lib.hid ((Box.made_at (n := w.heap.size + 1) (w.alloc (.cells (Im.cells g (.slice A n c) r) 53)) 54 #[.slice none 0 0] (by simp)).alloc (.cells #[.int .i64 0] 3))
  have C1 := Lib.hid (Box.made_at (n := w.heap.size + 1 + 1) ((w.alloc (.cells (Im.cells g (.slice A n c) r) 53)).alloc (.cells #[.slice none 0 0] 54)) 3 #[.int .i64 0] (by simp))
  have K1 := Lib.hid ((((Below.refl w.heap.size w).alloc (Nat.le_refl _) (.cells (Im.cells g (.slice A n c) r) 53)).alloc (by simp) (.cells #[.slice none 0 0] 54)).alloc (by simp <;> omega) (.cells #[.int .i64 0] 3))
  have hr1 := (hr.below K1.out).wider K1.out.size
  have hr0 := hr.below K1.out
  have cm := fun X hX => Lib.hid (immay_any g r A n c X ⟨by have := hok.1.1; have := hok.1.2.1; unfold Gm.i64; omega, hd, fun i hi => (hok.1.2.2.2.1 i hi).ty, fun i hi => (hok.1.2.2.2.2 i hi).ty⟩ hn (by rw [hn]; unfold maxLen; omega) hX)
  have cl := fun Bp X h1 h2 h3 h4 => Lib.hid (laystate_w g r n A c w.heap.size [] w.heap.size (w.heap.size + 1) Bp X hn hok.1 hd hok.2.1 (Nat.le_succ _) (Nat.le_refl _) h1 h2 (by simp) h3 h4)
  have HR := Lib.hid hr1
  have H0 := Lib.hid hr0
  have HN := Lib.hid hok
  have HD := Lib.hid hd
  have HL := Lib.hid hlen
  clear hr hr1 hr0 hn hok hd hn32 hlen
  go_enter_defers Try.func29, Try.ntmps29
  go_wp2_with (first | ((with_reducible refine im_load_state rfl rfl ?_); apply LoadIm.mk rfl; (focus (with_reducible exact P1.out)); dsimp only) | (go_at_call 77; ((with_reducible refine ((cm _ HR.out).out).mono ?_); rintro e w1 ⟨⟨v, rfl, hv⟩, hb⟩; obtain rfl : v = true := hv.2 HN.out; have P2 := Lib.hid (P1.out.below hb P1.out.lt); have C2 := Lib.hid (C1.out.below hb C1.out.lt); have B2 := Lib.hid (B1.out.below hb B1.out.lt); have K2 := Lib.hid (K1.out.trans (hb.mono K1.out.size)); have H2 := Lib.hid (H0.out.below (hb.mono K1.out.size)); clear hb hv)) | (go_at_call 76; ((with_reducible refine (need_yes _ _).mono ?_); rintro e w2 ⟨rfl, rfl⟩)) | (go_at_call 79; ((with_reducible refine (writer_any _ _).mono ?_); rintro e w3 ⟨rfl, rfl⟩)) | (go_at_call 78; ((with_reducible refine ((cl _ _ (K2.out.alloc K2.out.size _).size (Wr.nil (Box.made _ _ _) (B2.out.alloc _)) (P2.out.alloc _) (H2.out.below ((one_below _ _).mono K2.out.size))).out).mono ?_); rintro e w3 ⟨rfl, hI, hb, hk⟩; rw [List.nil_append] at hI; have C3 := Lib.hid (hk _ _ _ (C2.out.alloc _) (by omega) (by decide) (by decide)); have K3 := Lib.hid ((K2.out.alloc K2.out.size _).trans hb); obtain ⟨h1, A', c', hB, ho⟩ := hI; have B3 := Lib.hid hB; have O3 := Lib.hid ho; have b3 := hB.cell 0; have f3 := hB.free 0; have c3 := (C3.out.far (p := ⟨w.heap.size + 1, 0, none⟩) (show w.heap.size + 1 + 1 ≠ w.heap.size + 1 by omega) (.slice A' (Im.put g r).length c')).cell 0; have g3 := (C3.out.far (p := ⟨w.heap.size + 1, 0, none⟩) (show w.heap.size + 1 + 1 ≠ w.heap.size + 1 by omega) (.slice A' (Im.put g r).length c')).free 0; clear h1 hB ho hb hk)))
  have ne : w.heap.size + 1 ≠ w.heap.size + 1 + 1 := by omega
  have B4 := (B3.out.put 0 (.slice A' (Im.put g r).length c')).far (p := ⟨w.heap.size + 1 + 1, 0, none⟩) ne (.int .i64 0)
  have C4 := (C3.out.far (p := ⟨w.heap.size + 1, 0, none⟩) (fun e => ne e.symm) (.slice A' (Im.put g r).length c')).put 0 (.int .i64 0)
  have K4 := (K3.out.setCell (p := ⟨w.heap.size + 1, 0, none⟩) (Nat.le_succ _) (.slice A' (Im.put g r).length c')).setCell (p := ⟨w.heap.size + 1 + 1, 0, none⟩) (by show w.heap.size ≤ w.heap.size + 1 + 1; omega) (.int .i64 0)
  have O4 := Lies.owned (ownsRow_setCell_other (a := ⟨w.heap.size + 1 + 1, 0, none⟩) (ownsRow_setCell_other (a := ⟨w.heap.size + 1, 0, none⟩) O3.out (B3.out.unowned O3.out (by decide)) (.slice A' (Im.put g r).length c')) ((C3.out.far (p := ⟨w.heap.size + 1, 0, none⟩) (fun e => ne e.symm) (.slice A' (Im.put g r).length c')).unowned (ownsRow_setCell_other (a := ⟨w.heap.size + 1, 0, none⟩) O3.out (B3.out.unowned O3.out (by decide)) (.slice A' (Im.put g r).length c')) (by decide)) (.int .i64 0))
  have b4 := B4.cell 0
  have c4 := C4.cell 0
  simp at b4 c4
  refine leaves_cons (f := 75) (args := #[.pointer (some ⟨w.heap.size + 1, 0, none⟩), .pointer (some ⟨w.heap.size + 1 + 1, 0, none⟩)]) (by simp) (by simp [go_sem]) ?_
  refine (catch_idle_put _ _ _).mono ?_
  rintro e u' w'' ⟨rfl, rfl, rfl⟩
  simp [Leaves, settle, results, Try.results29, go_sem, b4, c4]
  exact ⟨A', c', by first | rfl | exact ⟨rfl, rfl⟩ | simp, own_cap O3.out, O4.wider (by simp), K4⟩
end Go.Proofs.Ytbihnmingedgfaa

/-
Get where nothing can be read.
-/


namespace Go.Proofs.Ytbihnmingedgfaa
open Go.RowKit Go.Shelf
set_option linter.unusedVariables false
set_option linter.unusedSimpArgs false

namespace Im
def zero : Array Value := cells G0 (.slice none 0 0) R0
theorem zero_size : zero.size = 76 := cells_size _ _ _
end Im
theorem state_zero : (Try.prog.info? 53).map (·.zero) = some (some (.agg Im.zero)) := by kernel_rfl
theorem alloc_state {ops : Array Oper} {Q : Exit → Act → World → Prop} {o : Oper} {rest : List Oper} {a : Act} {w : World} (hgd : o.guard = none) (ho : o.op = .alloc 53)
    (h : wpList Try.prog ops Q rest (a.put o.dst (.pointer (some ⟨w.heap.size, 0, none⟩))) (w.alloc (.cells Im.zero 53))) : wpList Try.prog ops Q (o :: rest) a w :=
  wpList_alloc_z hgd ho state_zero rfl h
theorem state_built : Try.prog.built 53 [] = some Im.zero := by kernel_rfl
theorem ros_cells_one (r : Ros.R) : (Ros.cells r).all (·.oneCell') = true := by
  rw [Array.all_eq_true']
  intro x hx
  obtain ⟨n, rfl⟩ := Ros.cells_ints r x (by simpa using hx)
  rfl
theorem im_cells_one (g : Gm.G) (s : Value) (r : Ros.R) (hs : s.oneCell' = true) : (Im.cells g s r).all (·.oneCell') = true := by
  unfold Im.cells
  rw [Array.all_append, cells_one g s hs, ros_cells_one r]
  rfl
theorem zero_one : Im.zero.all (·.oneCell') = true := im_cells_one _ _ _ rfl

set_option maxHeartbeats 1000000 in
theorem catch_get (B Bc : Nat) (u : TypeId) (pv : Value) (older : List PanicEntry) (w : World) (Z : Array Value) (hZ : Z.size = 76) (hb : Box w B 53 Z) (y : Int) (hc : Box w Bc 3 #[.int .i64 y]) :
    CallsD Try.prog 83 #[.pointer (some ⟨B, 0, none⟩), .pointer (some ⟨Bc, 0, none⟩)] (.panicking ({ v := .iface u pv, recovered := false } :: older)) w fun e u' w' =>
      e = .returned (.tuple #[]) ∧ u' = .panicking ({ v := .iface u pv, recovered := true } :: older) ∧ w' = (w.setRow B Im.zero).setCell ⟨Bc, 0, none⟩ (.int .i64 2) := by
  have ne : B ≠ Bc := Box.apart hb hc (by decide)
  have HB := Lib.hid hb
  have HC := Lib.hid (hc.row_far (fun e => ne e.symm) Im.zero)
  have c2 := HC.out.cell 0
  have f2 := HC.out.free 0
  have HZ := Lib.hid hZ
  clear hb hc hZ
  refine callsD_of_wpS Try.func83 rfl fun c₀ cs hu => ?_
  apply wpS_seq
  apply wpS_region
  simp [wpOpsS, go_sem, recoverD, hu, Try.ntmps83, Exit.thenS]
  refine wpS_cond (t := true) (by simp [Act.eval, Array.replicate]) ?_
  simp only [if_true]
  refine wpS_of_wp ?_
  go_wp2_with (first | (refine wpList_build_is rfl (t := 53) (l := []) (vs := []) rfl rfl state_built ?_) | ((with_reducible refine blk_gate (t := 53) rfl rfl state_info ?_); apply StoreBlk.mk rfl rfl HB.out zero_one Im.zero_size HZ.out))
  simp [bodyPostS, results, Try.results83]

theorem catch_idle_get (p q : Addr) (w : World) :
    CallsD Try.prog 83 #[.pointer (some p), .pointer (some q)] .returning w fun e u' w' => e = .returned (.tuple #[]) ∧ u' = .returning ∧ w' = w := by
  refine callsD_of_wpS Try.func83 rfl fun c₀ cs hu => ?_
  apply wpS_seq
  apply wpS_region
  simp [wpOpsS, go_sem, recoverD, hu, Try.ntmps83, Exit.thenS]
  refine wpS_cond (t := false) (by simp [Act.eval, Array.replicate]) ?_
  simp only [Bool.false_eq_true, if_false]
  refine wpS_of_wp (wp_skip ?_)
  cases c₀
  simp_all [bodyPostS, results, Try.results83]

theorem read_no (z v0 : Int) (hz : 1 ≤ z) (A : Option Addr) (c Bb Bp : Nat) (w : World) (hp : Box w Bp 120 #[.pointer (some ⟨Bb, 0, none⟩)]) (hb : Box w Bb 54 #[.slice A 0 c]) :
    Calls Try.prog 130 #[.int .i64 z, .int .u64 v0, .pointer (some ⟨Bp, 0, none⟩)] w fun e w' => (∃ s, e = .panicked [{ v := .iface 9 (.string s), recovered := false }]) ∧ w = w' := by
  have b0 := hb.cell 0
  have p0 := hp.cell 0
  have hz0 : ¬ z ≤ 0 := by omega
  clear hb hp
  go_enter Try.func130, Try.ntmps130
  go_wp2_with (go_at_call 76; ((with_reducible refine (need_no _ _).mono ?_); rintro e w2 ⟨rfl, rfl⟩))
  first | exact ⟨rfl, ⟨_, rfl⟩, rfl⟩ | exact ⟨⟨_, rfl⟩, rfl⟩

theorem layint_no (z x : Int) (hz : 1 ≤ z) (A : Option Addr) (c Bb Bp P o : Nat) (t : TypeId) (cs : Array Value) (w : World) (hp : Box w Bp 120 #[.pointer (some ⟨Bb, 0, none⟩)]) (hb : Box w Bb 54 #[.slice A 0 c]) (hP : Box w P t cs) (ho : cs[o]? = some (.int .i64 x)) :
    Calls Try.prog 124 #[.func (.func 130) #[] #[.pointer (some ⟨Bp, 0, none⟩)], .int .i64 z, .pointer (some ⟨P, o, none⟩)] w fun e w' => (∃ s, e = .panicked [{ v := .iface 9 (.string s), recovered := false }]) ∧ w = w' := by
  have k0 := hP.cell o
  rw [ho] at k0
  have cr := fun v0 => Lib.hid (read_no z v0 hz A c Bb Bp w hp hb)
  clear hp hb hP ho hz
  go_enter Try.func124, Try.ntmps124
  go_wp2_with (go_at_call 130; ((with_reducible refine ((cr _).out).mono ?_); rintro e w2 ⟨⟨s, rfl⟩, rfl⟩))
  first | exact ⟨rfl, ⟨_, rfl⟩, rfl⟩ | exact ⟨⟨_, rfl⟩, rfl⟩

theorem laystate_no (A : Option Addr) (c Bb Bp P : Nat) (g : Gm.G) (s : Value) (r : Ros.R) (w : World) (hp : Box w Bp 120 #[.pointer (some ⟨Bb, 0, none⟩)]) (hb : Box w Bb 54 #[.slice A 0 c]) (hP : Box w P 53 (Im.cells g s r)) :
    Calls Try.prog 78 #[.func (.func 130) #[] #[.pointer (some ⟨Bp, 0, none⟩)], .pointer (some ⟨P, 0, none⟩)] w fun e w' => (∃ s, e = .panicked [{ v := .iface 9 (.string s), recovered := false }]) ∧ w = w' := by
  have c1 := Lib.hid (layint_no 4 g.frame (by decide) A c Bb Bp P 0 53 _ w hp hb hP ((Im.cells_g _ _ _ 0 (by omega)).trans (Gm.cells_0 _ _)))
  have ltP := hP.lt
  clear hp hb hP
  go_enter Try.func78, Try.ntmps78
  go_wp2_with (go_at_call 124; ((with_reducible refine (c1.out).mono ?_); rintro e w2 ⟨⟨s, rfl⟩, rfl⟩))
  first | exact ⟨rfl, ⟨_, rfl⟩, rfl⟩ | exact ⟨⟨_, rfl⟩, rfl⟩

set_option maxHeartbeats 1000000 in
/-- Nothing is got out of no bytes. -/
theorem get_nil (w : World) : Calls Try.prog 32 #[.slice none 0 0] w fun e w' => e = .returned (.tuple #[.agg Im.zero, .int .i64 2]) ∧ Below w.heap.size w w' := by
  have hmf : ∀ (fn : Fn) (first cap : Array Value) (w : World), (Instr.makeFunc fn first cap).run Try.prog w = .ok (.func fn first cap) w := fun _ _ _ _ => rfl
  have V1 := Lib.hid (((Box.made w 54 #[.slice none 0 0]).alloc (.cells Im.zero 53)).alloc (.cells #[.int .i64 0] 3))
  have B1 := Lib.hid ((Box.made_at (n := w.heap.size + 1) (w.alloc (.cells #[.slice none 0 0] 54)) 53 Im.zero (by simp)).alloc (.cells #[.int .i64 0] 3))
  have C1 := Lib.hid (Box.made_at (n := w.heap.size + 1 + 1) ((w.alloc (.cells #[.slice none 0 0] 54)).alloc (.cells Im.zero 53)) 3 #[.int .i64 0] (by simp))
  have K1 := Lib.hid ((((Below.refl w.heap.size w).alloc (Nat.le_refl _) (.cells #[.slice none 0 0] 54)).alloc (by simp) (.cells Im.zero 53)).alloc (by simp <;> omega) (.cells #[.int .i64 0] 3))
  go_enter_defers Try.func32, Try.ntmps32
  go_wp2_with (first | (with_reducible refine alloc_state rfl rfl ?_) | (go_at_call 84; ((with_reducible refine (reader_any _ _).mono ?_); rintro e w3 ⟨rfl, rfl⟩)) | (go_at_call 78; ((with_reducible refine (laystate_no none 0 w.heap.size (w.heap.size + 1 + 1 + 1) (w.heap.size + 1) Im.G0 (.slice none 0 0) Im.R0 _ (Box.made_at _ _ _ (by simp)) (V1.out.alloc _) (B1.out.alloc _)).mono ?_); rintro e w4 ⟨⟨s, rfl⟩, rfl⟩)))
  have ne : w.heap.size + 1 ≠ w.heap.size + 1 + 1 := by omega
  have B2 := Lib.hid (B1.out.alloc (.cells #[.pointer (some ⟨w.heap.size, 0, none⟩)] 120))
  have C2 := Lib.hid (C1.out.alloc (.cells #[.pointer (some ⟨w.heap.size, 0, none⟩)] 120))
  have K2 := Lib.hid (K1.out.alloc K1.out.size (.cells #[.pointer (some ⟨w.heap.size, 0, none⟩)] 120))
  have B4 := (B2.out.row Im.zero).far (p := ⟨w.heap.size + 1 + 1, 0, none⟩) ne (.int .i64 2)
  have C4 := (C2.out.row_far (fun e => ne e.symm) Im.zero).put 0 (.int .i64 2)
  have K4 := (Below.setRow' (g := w.heap.size + 1) K2.out (Nat.le_succ _) Im.zero).setCell (p := ⟨w.heap.size + 1 + 1, 0, none⟩) (by show w.heap.size ≤ w.heap.size + 1 + 1; omega) (.int .i64 2)
  refine leaves_cons (f := 83) (args := #[.pointer (some ⟨w.heap.size + 1, 0, none⟩), .pointer (some ⟨w.heap.size + 1 + 1, 0, none⟩)]) (by simp) (by simp [go_sem]) ?_
  refine (catch_get (w.heap.size + 1) (w.heap.size + 1 + 1) _ _ [] _ Im.zero Im.zero_size B2.out _ C2.out).mono ?_
  rintro e u' w'' ⟨rfl, rfl, rfl⟩
  have hr := fun (tmps : Array Value) h1 h2 => results_cells2 (fn := Try.f32) (p := 2) (q := 3) rfl tmps _ (w.heap.size + 1) (w.heap.size + 1 + 1) 53 Im.zero _ 2 h1 h2 B4 (by simpa using C4) Try.underlying53 rfl (by rw [Im.zero_size]; exact state_info)
  show Leaves Try.prog _ _ _ [] .returning _
  exact ⟨_, hr _ rfl rfl, rfl, K4⟩

set_option maxHeartbeats 1000000 in
/-- What Put wrote of a state without ships and shots is got again. -/
theorem get_bare (f d : Int) (r : Ros.R) (A : Option Addr) (n c : Nat) (w : World) (hf : 0 ≤ f ∧ f ≤ 1048576) (hd : 0 ≤ d ∧ d ≤ 18446744073709551615) (hok : Im.Ok (Im.bare f d) r) (hn : n = (Im.put (Im.bare f d) r).length) (hc : n ≤ c) (hL : Lies w w.heap.size 1 A n (Im.u8s (Im.put (Im.bare f d) r))) :
    Calls Try.prog 32 #[.slice A n c] w fun e w' => (∃ S, e = .returned (.tuple #[.agg (Im.cells (Im.bare f d) (.slice (some ⟨S, 0, none⟩) 0 0) r), .int .i64 0])) ∧ Below w.heap.size w w' := by
  have hmf : ∀ (fn : Fn) (first cap : Array Value) (w : World), (Instr.makeFunc fn first cap).run Try.prog w = .ok (.func fn first cap) w := fun _ _ _ _ => rfl
  have V1 := Lib.hid (((Box.made w 54 #[.slice A n c]).alloc (.cells Im.zero 53)).alloc (.cells #[.int .i64 0] 3))
  have B1 := Lib.hid ((Box.made_at (n := w.heap.size + 1) (w.alloc (.cells #[.slice A n c] 54)) 53 Im.zero (by simp)).alloc (.cells #[.int .i64 0] 3))
  have C1 := Lib.hid (Box.made_at (n := w.heap.size + 1 + 1) ((w.alloc (.cells #[.slice A n c] 54)).alloc (.cells Im.zero 53)) 3 #[.int .i64 0] (by simp))
  have K1 := Lib.hid ((((Below.refl w.heap.size w).alloc (Nat.le_refl _) (.cells #[.slice A n c] 54)).alloc (by simp) (.cells Im.zero 53)).alloc (by simp <;> omega) (.cells #[.int .i64 0] 3))
  have B2 := Lib.hid (B1.out.alloc (.cells #[.pointer (some ⟨w.heap.size, 0, none⟩)] 120))
  have C2 := Lib.hid (C1.out.alloc (.cells #[.pointer (some ⟨w.heap.size, 0, none⟩)] 120))
  have V2 := Lib.hid (V1.out.alloc (.cells #[.pointer (some ⟨w.heap.size, 0, none⟩)] 120))
  have K2 := Lib.hid (K1.out.alloc K1.out.size (.cells #[.pointer (some ⟨w.heap.size, 0, none⟩)] 120))
  have P2 := Box.made_at (n := w.heap.size + 1 + 1 + 1) (((w.alloc (.cells #[.slice A n c] 54)).alloc (.cells Im.zero 53)).alloc (.cells #[.int .i64 0] 3)) 120 #[.pointer (some ⟨w.heap.size, 0, none⟩)] (by simp)
  have L2 := hL.below K2.out
  have e : n = (Im.put (Im.bare f d) r ++ []).length := by rw [List.append_nil]; exact hn
  have RD : Rd w.heap.size w.heap.size (w.heap.size + 1 + 1 + 1) (Im.put (Im.bare f d) r ++ []) _ := ⟨P2, A, c, by rw [← e]; exact V2.out, by rw [← e]; exact hc, by rw [← e, List.append_nil]; exact L2⟩
  have cl := Lib.hid (laystate_bare_r f d r [] (w.heap.size + 1) w.heap.size w.heap.size _ _ hf hd hok.2.1 (Nat.le_refl _) (Nat.le_succ _) K2.out.size RD B2.out)
  have hty : Gm.ty (Im.bare f d) := ⟨by show Gm.i64 f; unfold Gm.i64; omega, hd, fun i hi => (hok.1.2.2.2.1 i hi).ty, fun i hi => absurd hi (Nat.not_lt_zero _)⟩
  have cm := fun S X => Lib.hid (immay_any (Im.bare f d) r (some ⟨S, 0, none⟩) 0 0 X hty rfl (Nat.zero_le _) Lies.empty)
  clear hty
  have HOK := Lib.hid hok
  clear hn hL L2 e RD hok P2
  go_enter_defers Try.func32, Try.ntmps32
  go_upto_region 3 with (first | (with_reducible refine alloc_state rfl rfl ?_) | (go_at_call 84; ((with_reducible refine (reader_any _ _).mono ?_); rintro e w3 ⟨rfl, rfl⟩)) | (go_at_call 78; ((with_reducible refine (cl.out).mono ?_); rintro e w4 ⟨rfl, hI, hK, S, hB⟩; obtain ⟨_, A4, c4, hV, _, _⟩ := hI; have v4 := hV.cell 0; have B4 := Lib.hid hB; have C4 := Lib.hid (hK.kb _ _ _ C2.out (by omega) (by decide) (by decide)); have K4 := Lib.hid (K2.out.trans hK.below); clear hV hB hK)))
  have c5 := cm S
  clear cl cm V1 B1 C1 K1 B2 C2 V2 K2
  go_wp2_with (first | (go_at_call 76; ((with_reducible refine (need_yes _ _).mono ?_); rintro e wn ⟨rfl, rfl⟩)) | (go_at_call 77; ((with_reducible refine ((c5 _).out).mono ?_); rintro e w5 ⟨⟨v, rfl, hv⟩, hb⟩; obtain rfl : v = true := hv.2 HOK.out; have B5 := Lib.hid (B4.out.below hb B4.out.lt); have C5 := Lib.hid (C4.out.below hb C4.out.lt); have K5 := Lib.hid (K4.out.trans (hb.mono K4.out.size)); have C6 := Lib.hid (C5.out.row_far (show w.heap.size + 1 + 1 ≠ w.heap.size + 1 by omega) (Im.cells (Im.bare f d) (.slice (some ⟨S, 0, none⟩) 0 0) r)); have c6 := C6.out.cell 0; have f6 := C6.out.free 0; clear hb hv)) | ((with_reducible refine im_load_state rfl rfl ?_); apply LoadIm.mk rfl; (focus first | (with_reducible exact B4.out) | (with_reducible exact B5.out)); dsimp only) | ((with_reducible refine blk_gate (t := 53) rfl rfl state_info ?_); apply StoreBlk.mk rfl rfl B5.out (im_cells_one _ _ _ rfl) (Im.cells_size _ _ _) (Im.cells_size _ _ _)))
  have ne : w.heap.size + 1 ≠ w.heap.size + 1 + 1 := by omega
  have B7 := (B5.out.row (Im.cells (Im.bare f d) (.slice (some ⟨S, 0, none⟩) 0 0) r)).far (p := ⟨w.heap.size + 1 + 1, 0, none⟩) ne (.int .i64 0)
  have C7 := C6.out.put 0 (.int .i64 0)
  have K7 := (Below.setRow' (g := w.heap.size + 1) K5.out (Nat.le_succ _) (Im.cells (Im.bare f d) (.slice (some ⟨S, 0, none⟩) 0 0) r)).setCell (p := ⟨w.heap.size + 1 + 1, 0, none⟩) (by show w.heap.size ≤ w.heap.size + 1 + 1; omega) (.int .i64 0)
  refine leaves_cons (f := 83) (args := #[.pointer (some ⟨w.heap.size + 1, 0, none⟩), .pointer (some ⟨w.heap.size + 1 + 1, 0, none⟩)]) (by simp) (by simp [go_sem]) ?_
  refine (catch_idle_get _ _ _).mono ?_
  rintro e u' w'' ⟨rfl, rfl, rfl⟩
  have hr := fun (tmps : Array Value) h1 h2 => results_cells2 (fn := Try.f32) (p := 2) (q := 3) rfl tmps _ (w.heap.size + 1) (w.heap.size + 1 + 1) 53 (Im.cells (Im.bare f d) (.slice (some ⟨S, 0, none⟩) 0 0) r) _ 0 h1 h2 B7 (by simpa using C7) Try.underlying53 rfl (by rw [Im.cells_size]; exact state_info)
  show Leaves Try.prog _ _ _ [] .returning _
  exact ⟨_, hr _ rfl rfl, ⟨S, rfl⟩, K7⟩
end Go.Proofs.Ytbihnmingedgfaa

/-
The program's image: Get of whatever bytes.
-/


namespace Go.Proofs.Ytbihnmingedgfaa
open Go.RowKit Go.Shelf
set_option linter.unusedVariables false
set_option linter.unusedSimpArgs false

theorem Im.get_no {bs : List Int} (h : Im.dec bs = none) : Im.get bs = none := by unfold Im.get; rw [h]; rfl
theorem Im.get_left {bs rest : List Int} {g : Gm.G} {q : Ros.R} (h : Im.dec bs = some ((g, q), rest)) (hn : ¬ (rest = [] ∧ Im.Ok g q)) : Im.get bs = none := by unfold Im.get; rw [h, Option.bind_some, if_neg hn]
theorem Im.get_all {bs rest : List Int} {g : Gm.G} {q : Ros.R} (h : Im.dec bs = some ((g, q), rest)) (hn : rest = [] ∧ Im.Ok g q) : Im.get bs = some (g, q) := by unfold Im.get; rw [h, Option.bind_some, if_pos hn]
theorem lies_boxed {W : World} {S n size : Nat} {t : TypeId} {xs : List Value} (h : Box W S t xs.toArray) (hl : xs.length = n * size) : Lies W W.heap.size size (some ⟨S, 0, none⟩) n xs :=
  ⟨hl, fun _ => ⟨_, rfl, h.lt⟩, fun ad e _ j u hj => by
    injection e with e
    subst e
    have hadd : (⟨S, 0, none⟩ : Addr).add j = ⟨S, j, none⟩ := by unfold Addr.add; split <;> simp_all
    rw [hadd, h.cell j, ← hj]
    simp⟩

/-- What Get says of bytes. -/
def SaysIm (bs : List Int) (w : World) (r : Ending) (w' : World) : Prop :=
  (∃ g q S, Im.get bs = some (g, q) ∧ r = .returned (.tuple #[.agg (Im.cells g (.slice (some ⟨S, 0, none⟩) g.shots.length g.shots.length) q), .int .i64 0]) ∧ Box w' S 108 (Gm.shotCells g.shots).toArray ∧ Below w.heap.size w w') ∨
  (Im.get bs = none ∧ r = .returned (.tuple #[.agg Im.zero, .int .i64 2]) ∧ Below w.heap.size w w')

set_option maxRecDepth 100000 in
set_option maxHeartbeats 4000000 in
theorem imget_any (bs : List Int) (A : Option Addr) (n c : Nat) (w : World) (hn : n = bs.length) (hc : n ≤ c) (hBy : Im.IsBytes bs) (hL : Lies w w.heap.size 1 A n (Im.u8s bs)) :
    Calls Try.prog 32 #[.slice A n c] w (SaysIm bs w) := by
  have hmf : ∀ (fn : Fn) (first cap : Array Value) (w : World), (Instr.makeFunc fn first cap).run Try.prog w = .ok (.func fn first cap) w := fun _ _ _ _ => rfl
  have V1 := Lib.hid (((Box.made w 54 #[.slice A n c]).alloc (.cells Im.zero 53)).alloc (.cells #[.int .i64 0] 3))
  have B1 := Lib.hid ((Box.made_at (n := w.heap.size + 1) (w.alloc (.cells #[.slice A n c] 54)) 53 Im.zero (by simp)).alloc (.cells #[.int .i64 0] 3))
  have C1 := Lib.hid (Box.made_at (n := w.heap.size + 1 + 1) ((w.alloc (.cells #[.slice A n c] 54)).alloc (.cells Im.zero 53)) 3 #[.int .i64 0] (by simp))
  have K1 := Lib.hid ((((Below.refl w.heap.size w).alloc (Nat.le_refl _) (.cells #[.slice A n c] 54)).alloc (by simp) (.cells Im.zero 53)).alloc (by simp <;> omega) (.cells #[.int .i64 0] 3))
  have B2 := Lib.hid (B1.out.alloc (.cells #[.pointer (some ⟨w.heap.size, 0, none⟩)] 120))
  have C2 := Lib.hid (C1.out.alloc (.cells #[.pointer (some ⟨w.heap.size, 0, none⟩)] 120))
  have V2 := Lib.hid (V1.out.alloc (.cells #[.pointer (some ⟨w.heap.size, 0, none⟩)] 120))
  have K2 := Lib.hid (K1.out.alloc K1.out.size (.cells #[.pointer (some ⟨w.heap.size, 0, none⟩)] 120))
  have P2 := Box.made_at (n := w.heap.size + 1 + 1 + 1) (((w.alloc (.cells #[.slice A n c] 54)).alloc (.cells Im.zero 53)).alloc (.cells #[.int .i64 0] 3)) 120 #[.pointer (some ⟨w.heap.size, 0, none⟩)] (by simp)
  have L2 := hL.below K2.out
  have RD : Rd w.heap.size w.heap.size (w.heap.size + 1 + 1 + 1) bs _ := ⟨P2, A, c, by rw [← hn]; exact V2.out, by rw [← hn]; exact hc, by rw [← hn]; exact L2⟩
  have cl := Lib.hid (laystate_any Im.zero rfl (w.heap.size + 1) bs w.heap.size w.heap.size _ _ hBy (Nat.le_refl _) (Nat.le_succ _) K2.out.size RD B2.out)
  have HY := Lib.hid hBy
  clear hn hL L2 RD P2 hBy
  go_enter_defers Try.func32, Try.ntmps32
  go_upto_region 3 with (first | (with_reducible refine alloc_state rfl rfl ?_) | (go_at_call 84; ((with_reducible refine (reader_any _ _).mono ?_); rintro e w3 ⟨rfl, rfl⟩)) | (go_at_call 78; ((with_reducible refine (cl.out).mono ?_); rintro r w4 (⟨g, q, rest, S, hr, rfl, hI, hK, hB, hE⟩ | ⟨hn, ⟨ss, rfl⟩, hK, cs', hB, hs⟩); (all_goals first | (obtain ⟨_, A4, c4, hV, _, _⟩ := hI; have R4 := Lib.hid hr; have v4 := hV.cell 0; have B4 := Lib.hid hB; have E4 := Lib.hid hE; have C4 := Lib.hid (hK.kb _ _ _ C2.out (by omega) (by decide) (by decide)); have K4 := Lib.hid (K2.out.trans hK.below); clear hr hV hB hK hE cl) | (have N4 := Lib.hid hn; have B4 := Lib.hid hB; have S4 := Lib.hid hs; have C4 := Lib.hid (hK.kb _ _ _ C2.out (by omega) (by decide) (by decide)); have K4 := Lib.hid (K2.out.trans hK.below); clear hn hB hK hs cl)))))
  rotate_left
  · refine leaves_cons (f := 83) (args := #[.pointer (some ⟨w.heap.size + 1, 0, none⟩), .pointer (some ⟨w.heap.size + 1 + 1, 0, none⟩)]) (by simp) (by simp [go_sem]) ?_
    refine (catch_get (w.heap.size + 1) (w.heap.size + 1 + 1) _ _ [] _ _ S4.out B4.out _ C4.out).mono ?_
    rintro r u' w'' ⟨rfl, rfl, rfl⟩
    have B8 := (B4.out.row Im.zero).far (p := ⟨w.heap.size + 1 + 1, 0, none⟩) (show w.heap.size + 1 ≠ w.heap.size + 1 + 1 by omega) (.int .i64 2)
    have C8 := (C4.out.row_far (show w.heap.size + 1 + 1 ≠ w.heap.size + 1 by omega) Im.zero).put 0 (.int .i64 2)
    have K8 := (Below.setRow' (g := w.heap.size + 1) K4.out (Nat.le_succ _) Im.zero).setCell (p := ⟨w.heap.size + 1 + 1, 0, none⟩) (by show w.heap.size ≤ w.heap.size + 1 + 1; omega) (.int .i64 2)
    have hr := fun (tmps : Array Value) h1 h2 => results_cells2 (fn := Try.f32) (p := 2) (q := 3) rfl tmps _ (w.heap.size + 1) (w.heap.size + 1 + 1) 53 Im.zero _ 2 h1 h2 B8 (by simpa using C8) Try.underlying53 rfl (by rw [Im.zero_size]; exact state_info)
    show Leaves Try.prog _ _ _ [] .returning _
    exact ⟨_, hr _ rfl rfl, .inr ⟨Im.get_no N4.out, rfl, K8⟩⟩
  have HDI := Lib.hid (Im.dec_inv HY.out R4.out)
  have ltS := E4.out.lt
  clear V1 B1 C1 K1 B2 C2 V2 K2
  cases hrest : rest with
  | cons x xs =>
    have HNE := Lib.hid (show ¬ (rest = [] ∧ Im.Ok g q) from fun h => by rw [hrest] at h; cases h.1)
    have hl0 : ((rest.length : Int) == 0) = false := by rw [hrest]; simp; omega
    generalize rest.length = m at *
    clear hrest
    go_wp2_with (go_at_call 76; ((with_reducible refine (need_no _ _).mono ?_); rintro r wn ⟨rfl, rfl⟩))
    refine leaves_cons (f := 83) (args := #[.pointer (some ⟨w.heap.size + 1, 0, none⟩), .pointer (some ⟨w.heap.size + 1 + 1, 0, none⟩)]) (by simp) (by simp [go_sem]) ?_
    refine (catch_get (w.heap.size + 1) (w.heap.size + 1 + 1) _ _ [] _ _ (Im.cells_size _ _ _) B4.out _ C4.out).mono ?_
    rintro r u' w'' ⟨rfl, rfl, rfl⟩
    have B8 := (B4.out.row Im.zero).far (p := ⟨w.heap.size + 1 + 1, 0, none⟩) (show w.heap.size + 1 ≠ w.heap.size + 1 + 1 by omega) (.int .i64 2)
    have C8 := (C4.out.row_far (show w.heap.size + 1 + 1 ≠ w.heap.size + 1 by omega) Im.zero).put 0 (.int .i64 2)
    have K8 := (Below.setRow' (g := w.heap.size + 1) K4.out (Nat.le_succ _) Im.zero).setCell (p := ⟨w.heap.size + 1 + 1, 0, none⟩) (by show w.heap.size ≤ w.heap.size + 1 + 1; omega) (.int .i64 2)
    have hr := fun (tmps : Array Value) h1 h2 => results_cells2 (fn := Try.f32) (p := 2) (q := 3) rfl tmps _ (w.heap.size + 1) (w.heap.size + 1 + 1) 53 Im.zero _ 2 h1 h2 B8 (by simpa using C8) Try.underlying53 rfl (by rw [Im.zero_size]; exact state_info)
    show Leaves Try.prog _ _ _ [] .returning _
    exact ⟨_, hr _ rfl rfl, .inr ⟨Im.get_left R4.out HNE.out, rfl, K8⟩⟩
  | nil =>
    rw [hrest] at v4
    have HNE := Lib.hid hrest
    clear hrest
    have cm := fun X hX => Lib.hid (immay_any g q (some ⟨S, 0, none⟩) g.shots.length g.shots.length X HDI.out.2.1 rfl (by have := HDI.out.2.2; unfold maxLen; omega) hX)
    have L4 := fun X (hX : Below w4.heap.size w4 X) => (lies_boxed (E4.out.below hX E4.out.lt) (Gm.shotCells_len _) : Lies X X.heap.size 6 (some ⟨S, 0, none⟩) g.shots.length (Gm.shotCells g.shots))
    have cmw := cm w4 (L4 w4 (Below.refl _ _))
    go_upto_region 5 with (first | (go_at_call 76; first | ((with_reducible refine (need_yes _ _).mono ?_); rintro r wn ⟨rfl, rfl⟩) | ((with_reducible refine (need_any _ _ _).mono ?_); rintro r wn (⟨hz, rfl, rfl⟩ | ⟨hz, ⟨ss, rfl⟩, rfl⟩))) | ((with_reducible refine im_load_state rfl rfl ?_); apply LoadIm.mk rfl; (focus (with_reducible exact B4.out)); dsimp only) | (go_at_call 77; ((with_reducible refine (cmw.out).mono ?_); rintro r w5 ⟨⟨v, rfl, hv⟩, hb⟩; have HV := Lib.hid hv; have B5 := Lib.hid (B4.out.below hb B4.out.lt); have C5 := Lib.hid (C4.out.below hb C4.out.lt); have E5 := Lib.hid (E4.out.below hb E4.out.lt); have K5 := Lib.hid (K4.out.trans (hb.mono K4.out.size)); clear hb hv)))
    rotate_left
    · have HNO := Lib.hid (show ¬ (rest = [] ∧ Im.Ok g q) from fun h => by have := HV.out.2 h.2; rw [hz] at this; cases this)
      refine leaves_cons (f := 83) (args := #[.pointer (some ⟨w.heap.size + 1, 0, none⟩), .pointer (some ⟨w.heap.size + 1 + 1, 0, none⟩)]) (by simp) (by simp [go_sem]) ?_
      refine (catch_get (w.heap.size + 1) (w.heap.size + 1 + 1) _ _ [] _ _ (Im.cells_size _ _ _) B5.out _ C5.out).mono ?_
      rintro r u' w'' ⟨rfl, rfl, rfl⟩
      have B8 := (B5.out.row Im.zero).far (p := ⟨w.heap.size + 1 + 1, 0, none⟩) (show w.heap.size + 1 ≠ w.heap.size + 1 + 1 by omega) (.int .i64 2)
      have C8 := (C5.out.row_far (show w.heap.size + 1 + 1 ≠ w.heap.size + 1 by omega) Im.zero).put 0 (.int .i64 2)
      have K8 := (Below.setRow' (g := w.heap.size + 1) K5.out (Nat.le_succ _) Im.zero).setCell (p := ⟨w.heap.size + 1 + 1, 0, none⟩) (by show w.heap.size ≤ w.heap.size + 1 + 1; omega) (.int .i64 2)
      have hr := fun (tmps : Array Value) h1 h2 => results_cells2 (fn := Try.f32) (p := 2) (q := 3) rfl tmps _ (w.heap.size + 1) (w.heap.size + 1 + 1) 53 Im.zero _ 2 h1 h2 B8 (by simpa using C8) Try.underlying53 rfl (by rw [Im.zero_size]; exact state_info)
      show Leaves Try.prog _ _ _ [] .returning _
      exact ⟨_, hr _ rfl rfl, .inr ⟨Im.get_left R4.out HNO.out, rfl, K8⟩⟩
    have HYES := Lib.hid (show rest = [] ∧ Im.Ok g q from ⟨HNE.out, HV.out.1 hz⟩)
    clear cm cmw
    have C6 := Lib.hid (C5.out.row_far (show w.heap.size + 1 + 1 ≠ w.heap.size + 1 by omega) (Im.cells g (.slice (some ⟨S, 0, none⟩) g.shots.length g.shots.length) q))
    have c6 := C6.out.cell 0
    have f6 := C6.out.free 0
    go_wp2_with (first | ((with_reducible refine im_load_state rfl rfl ?_); apply LoadIm.mk rfl; (focus (with_reducible exact B5.out)); dsimp only) | ((with_reducible refine blk_gate (t := 53) rfl rfl state_info ?_); apply StoreBlk.mk rfl rfl B5.out (im_cells_one _ _ _ rfl) (Im.cells_size _ _ _) (Im.cells_size _ _ _)))
    have ne : w.heap.size + 1 ≠ w.heap.size + 1 + 1 := by omega
    have B7 := (B5.out.row (Im.cells g (.slice (some ⟨S, 0, none⟩) g.shots.length g.shots.length) q)).far (p := ⟨w.heap.size + 1 + 1, 0, none⟩) ne (.int .i64 0)
    have C7 := C6.out.put 0 (.int .i64 0)
    have E7 := (E5.out.row_far (Box.apart E5.out B5.out (by decide)) (Im.cells g (.slice (some ⟨S, 0, none⟩) g.shots.length g.shots.length) q)).far (p := ⟨w.heap.size + 1 + 1, 0, none⟩) (Box.apart E5.out C5.out (by decide)) (.int .i64 0)
    have K7 := (Below.setRow' (g := w.heap.size + 1) K5.out (Nat.le_succ _) (Im.cells g (.slice (some ⟨S, 0, none⟩) g.shots.length g.shots.length) q)).setCell (p := ⟨w.heap.size + 1 + 1, 0, none⟩) (by show w.heap.size ≤ w.heap.size + 1 + 1; omega) (.int .i64 0)
    refine leaves_cons (f := 83) (args := #[.pointer (some ⟨w.heap.size + 1, 0, none⟩), .pointer (some ⟨w.heap.size + 1 + 1, 0, none⟩)]) (by simp) (by simp [go_sem]) ?_
    refine (catch_idle_get _ _ _).mono ?_
    rintro r u' w'' ⟨rfl, rfl, rfl⟩
    have hr := fun (tmps : Array Value) h1 h2 => results_cells2 (fn := Try.f32) (p := 2) (q := 3) rfl tmps _ (w.heap.size + 1) (w.heap.size + 1 + 1) 53 (Im.cells g (.slice (some ⟨S, 0, none⟩) g.shots.length g.shots.length) q) _ 0 h1 h2 B7 (by simpa using C7) Try.underlying53 rfl (by rw [Im.cells_size]; exact state_info)
    show Leaves Try.prog _ _ _ [] .returning _
    exact ⟨_, hr _ rfl rfl, .inl ⟨g, q, S, Im.get_all R4.out HYES.out, rfl, E7, K7⟩⟩
end Go.Proofs.Ytbihnmingedgfaa

/-
The document's answer: two games, two states in all parts.
-/





namespace Go.Proofs.Ytbihnmingedgfaa
open Go.RowKit Go.Shelf
set_option linter.unusedVariables false
set_option linter.unusedSimpArgs false

set_option maxHeartbeats 1000000 in
theorem shot_eq' (s t : Gm.Shot) (w : World) : (Op.equalIn 10000 108 (.agg s.cells.toArray) (.agg t.cells.toArray)).run Try.prog w = .ok (s.eqB t) w := by
  obtain ⟨a1, a2, a3, a4, a5, a6⟩ := s
  obtain ⟨b1, b2, b3, b4, b5, b6⟩ := t
  have h := ifs7 w (a1 == b1) (a2 == b2) (a3 == b3) (a4 == b4) (a5 == b5) (a6 == b6) true
  simp only [beq_iff_eq, Bool.and_true] at h
  simp only [Gm.Shot.cells]
  go_simp
  have e : (if True then Result.ok true w else Result.ok false w) = (Result.ok true w : Result Bool) := if_pos trivial
  rw [e] at h
  exact h
theorem shot_neq (s t : Gm.Shot) (w : World) : (binOp .neq 108 (.agg s.cells.toArray) (.agg t.cells.toArray)).run Try.prog w = .ok (.bool (!s.eqB t)) w := by
  simp only [binOp]
  simp [Op.equal, Op.maxDepth, shot_eq']
theorem ships_info' : (Try.prog.info? 27).map (·.size) = some 56 := by kernel_rfl
theorem ships_lie' (g : Gm.G) (v : Value) : ∀ j u, (Gm.shipCells g.ship)[j]? = some u → (Gm.cells g v)[2 + j]? = some u := fun j u hu => by
  have hj : j < 56 := by have := (List.getElem?_eq_some_iff.1 hu).1; rwa [Gm.shipCells_len] at this
  rw [Gm.cells_shipj _ _ _ hj]; exact hu

/-! Rosters. -/
def Ros.seatsEq (r q : Ros.R) : Bool := (List.range 8).all fun i => (r.peer i == q.peer i && r.gen i == q.gen i)
theorem Ros.seatsEq_iff {r q : Ros.R} : Ros.seatsEq r q = true ↔ ∀ k, k < 8 → r.peer k = q.peer k ∧ r.gen k = q.gen k := by
  unfold Ros.seatsEq; rw [List.all_eq_true]
  exact ⟨fun h i hi => by simpa using h i (by simpa using hi), fun h i hi => by simpa using h i (by simpa using hi)⟩
theorem seats_in2 (r q : Ros.R) (w : World) : (Op.equalIn 9999 49 (.agg (Ros.seatCells r).toArray) (.agg (Ros.seatCells q).toArray)).run Try.prog w = .ok (Ros.seatsEq r q) w := by
  cases hq : Try.prog.info? 48 with
  | none => have := seat2_info; simp [hq] at this
  | some j =>
    have hs : Try.prog.cellsOf 48 = 2 := by kernel_rfl
    rw [run_equalIn_array w 9998 _ _ Try.underlying49 hq, hs]
    rw [run_eqItems_all w 9998 _ 2 _ _ (fun i => .agg (Ros.pair r i).toArray) (fun i => .agg (Ros.pair q i).toArray) (fun i => (r.peer i == q.peer i && r.gen i == q.gen i)) (List.range 8)
      (fun i hi => ⟨seat_part r i (by simpa using hi) w, seat_part q i (by simpa using hi) w, by rw [show (Ros.pair r i).toArray = #[.int .i64 (r.peer i), .int .i64 (r.gen i)] from rfl, show (Ros.pair q i).toArray = #[.int .i64 (q.peer i), .int .i64 (q.gen i)] from rfl, seat_in]⟩)]
    rfl
set_option maxRecDepth 100000 in
set_option maxHeartbeats 4000000 in
theorem ros_eql (r q : Ros.R) (w : World) : (binOp .eql 51 (.agg (Ros.cells r)) (.agg (Ros.cells q))).run Try.prog w = .ok (.bool (r.version == q.version && Ros.seatsEq r q)) w := by
  have hs := seats_in2 r q
  generalize Ros.seatsEq r q = B at *
  simp only [Ros.cells, Ros.seatCells, Ros.pair, List.cons_append, List.nil_append] at hs ⊢
  generalize r.version = v
  generalize q.version = u
  generalize r.peer 0 = rp0 at *
  generalize r.peer 1 = rp1 at *
  generalize r.peer 2 = rp2 at *
  generalize r.peer 3 = rp3 at *
  generalize r.peer 4 = rp4 at *
  generalize r.peer 5 = rp5 at *
  generalize r.peer 6 = rp6 at *
  generalize r.peer 7 = rp7 at *
  generalize r.gen 0 = rg0 at *
  generalize r.gen 1 = rg1 at *
  generalize r.gen 2 = rg2 at *
  generalize r.gen 3 = rg3 at *
  generalize r.gen 4 = rg4 at *
  generalize r.gen 5 = rg5 at *
  generalize r.gen 6 = rg6 at *
  generalize r.gen 7 = rg7 at *
  generalize q.peer 0 = qp0 at *
  generalize q.peer 1 = qp1 at *
  generalize q.peer 2 = qp2 at *
  generalize q.peer 3 = qp3 at *
  generalize q.peer 4 = qp4 at *
  generalize q.peer 5 = qp5 at *
  generalize q.peer 6 = qp6 at *
  generalize q.peer 7 = qp7 at *
  generalize q.gen 0 = qg0 at *
  generalize q.gen 1 = qg1 at *
  generalize q.gen 2 = qg2 at *
  generalize q.gen 3 = qg3 at *
  generalize q.gen 4 = qg4 at *
  generalize q.gen 5 = qg5 at *
  generalize q.gen 6 = qg6 at *
  generalize q.gen 7 = qg7 at *
  by_cases e : v = u
  · subst e
    go_simp
    all_goals (cases B <;> simp)
  · have e2 : (v == u) = false := by simpa using e
    go_simp
    all_goals simp [e, e2]

/-! Games. -/
set_option maxRecDepth 100000 in
set_option maxHeartbeats 8000000 in
theorem refsame_any (g h : Gm.G) (A B : Option Addr) (n m c d : Nat) (w : World) (hn : n = g.shots.length) (hm : m = h.shots.length) (hr : Lies w w.heap.size 6 A n (Gm.shotCells g.shots)) (hq : Lies w w.heap.size 6 B m (Gm.shotCells h.shots))
    (n63 : n ≤ maxLen) (m63 : m ≤ maxLen) :
    Calls Try.prog 21 #[.agg (Gm.cells g (.slice A n c)), .agg (Gm.cells h (.slice B m d))] w fun e w' => (∃ v, e = .returned (.bool v) ∧ (v = true ↔ Gm.Eq g h)) ∧ Below w.heap.size w w' := by
  have n64 : (n : Int) ≤ 9223372036854775807 := by unfold maxLen at n63; omega
  have m64 : (m : Int) ≤ 9223372036854775807 := by unfold maxLen at m63; omega
  have hN : Hid (n = g.shots.length) := Lib.hid hn
  have hM : Hid (m = h.shots.length) := Lib.hid hm
  have b1 : Box ((w.alloc (.cells (Gm.cells g (.slice A n c)) 30)).alloc (.cells (Gm.cells h (.slice B m d)) 30)) w.heap.size 30 (Gm.cells g (.slice A n c)) := (Box.made _ _ _).alloc _
  have b2 : Box ((w.alloc (.cells (Gm.cells g (.slice A n c)) 30)).alloc (.cells (Gm.cells h (.slice B m d)) 30)) (w.heap.size + 1) 30 (Gm.cells h (.slice B m d)) := Box.made_at _ _ _ (by simp)
  have ne : ∀ W, (binOp .neq 27 (.agg (Gm.shipCells g.ship).toArray) (.agg (Gm.shipCells h.ship).toArray)).run Try.prog W = .ok (.bool (!Gm.shipsEq g.ship h.ship)) W := fun W => ships_neq _ _ W
  have g0 := Gm.cells_0 g (.slice A n c)
  have g1 := Gm.cells_1 g (.slice A n c)
  have g58 := Gm.cells_58 g (.slice A n c)
  have h0 := Gm.cells_0 h (.slice B m d)
  have h1 := Gm.cells_1 h (.slice B m d)
  have h58 := Gm.cells_58 h (.slice B m d)
  have hB1 := Lib.hid b1
  have hB2 := Lib.hid b2
  have HE := Lib.hid (show Gm.Eq g h → g.frame = h.frame ∧ g.dice = h.dice ∧ Gm.shipsEq g.ship h.ship = true ∧ g.shots = h.shots from fun e => ⟨e.1, e.2.1, Gm.shipsEq_iff.2 e.2.2.1, e.2.2.2⟩)
  have HI := Lib.hid (show g.frame = h.frame ∧ g.dice = h.dice ∧ Gm.shipsEq g.ship h.ship = true ∧ g.shots = h.shots → Gm.Eq g h from fun e => ⟨e.1, e.2.1, Gm.shipsEq_iff.1 e.2.2.1, e.2.2.2⟩)
  generalize Gm.shipsEq g.ship h.ship = SE at *
  clear b1 b2 hn hm n63 m63
  by_cases e1 : g.frame = h.frame
  rotate_left
  · have x1 : (g.frame != h.frame) = true := by simpa using e1
    have hno := Lib.hid (show ¬ Gm.Eq g h from fun e => e1 (HE.out e).1)
    clear e1 hr hq
    have k1 := hB1.out.cell
    have k2 := hB2.out.cell
    go_enter Try.func21, Try.ntmps21
    go_wp2_with (first | (refine wpList_load_part_g (by first | rfl | kernel_rfl | simp [Region.wanted, yielded]) (ty := 27) rfl rfl hB1.out _ (ships_lie' _ _) Try.underlying27 rfl ships_info' ?_) | (refine wpList_load_part_g (by first | rfl | kernel_rfl | simp [Region.wanted, yielded]) (ty := 27) rfl rfl hB2.out _ (ships_lie' _ _) Try.underlying27 rfl ships_info' ?_))
    go_ret
    exact ⟨by first | exact ⟨false, rfl, by simp; exact hno.out⟩ | exact .inl ⟨rfl, hno.out⟩, two_below' _ _ _⟩
  have x1 : (g.frame != h.frame) = false := by simpa using e1
  by_cases e2 : g.dice = h.dice
  rotate_left
  · have x2 : (g.dice != h.dice) = true := by simpa using e2
    have hno := Lib.hid (show ¬ Gm.Eq g h from fun e => e2 (HE.out e).2.1)
    clear e1 e2 hr hq
    have k1 := hB1.out.cell
    have k2 := hB2.out.cell
    go_enter Try.func21, Try.ntmps21
    go_wp2_with (first | (refine wpList_load_part_g (by first | rfl | kernel_rfl | simp [Region.wanted, yielded]) (ty := 27) rfl rfl hB1.out _ (ships_lie' _ _) Try.underlying27 rfl ships_info' ?_) | (refine wpList_load_part_g (by first | rfl | kernel_rfl | simp [Region.wanted, yielded]) (ty := 27) rfl rfl hB2.out _ (ships_lie' _ _) Try.underlying27 rfl ships_info' ?_))
    go_ret
    exact ⟨by first | exact ⟨false, rfl, by simp; exact hno.out⟩ | exact .inl ⟨rfl, hno.out⟩, two_below' _ _ _⟩
  have x2 : (g.dice != h.dice) = false := by simpa using e2
  cases SE
  · have hno := Lib.hid (show ¬ Gm.Eq g h from fun e => by have := (HE.out e).2.2.1; cases this)
    clear e1 e2 hr hq
    have k1 := hB1.out.cell
    have k2 := hB2.out.cell
    go_enter Try.func21, Try.ntmps21
    go_wp2_with (first | (refine wpList_load_part_g (by first | rfl | kernel_rfl | simp [Region.wanted, yielded]) (ty := 27) rfl rfl hB1.out _ (ships_lie' _ _) Try.underlying27 rfl ships_info' ?_) | (refine wpList_load_part_g (by first | rfl | kernel_rfl | simp [Region.wanted, yielded]) (ty := 27) rfl rfl hB2.out _ (ships_lie' _ _) Try.underlying27 rfl ships_info' ?_))
    go_ret
    exact ⟨by first | exact ⟨false, rfl, by simp; exact hno.out⟩ | exact .inl ⟨rfl, hno.out⟩, two_below' _ _ _⟩
  by_cases e3 : n = m
  rotate_left
  · have x3 : ((n : Int) != (m : Int)) = true := by simp; omega
    have hno := Lib.hid (show ¬ Gm.Eq g h from fun e => by have h4 := (HE.out e).2.2.2; have := hN.out; have := hM.out; rw [h4] at *; omega)
    clear e1 e2 e3 hr hq
    have k1 := hB1.out.cell
    have k2 := hB2.out.cell
    go_enter Try.func21, Try.ntmps21
    go_wp2_with (first | (refine wpList_load_part_g (by first | rfl | kernel_rfl | simp [Region.wanted, yielded]) (ty := 27) rfl rfl hB1.out _ (ships_lie' _ _) Try.underlying27 rfl ships_info' ?_) | (refine wpList_load_part_g (by first | rfl | kernel_rfl | simp [Region.wanted, yielded]) (ty := 27) rfl rfl hB2.out _ (ships_lie' _ _) Try.underlying27 rfl ships_info' ?_))
    go_ret
    exact ⟨by first | exact ⟨false, rfl, by simp; exact hno.out⟩ | exact .inl ⟨rfl, hno.out⟩, two_below' _ _ _⟩
  subst e3
  have HF := Lib.hid (And.intro e1 e2)
  clear e1 e2
  have k1 := hB1.out.cell
  have k2 := hB2.out.cell
  go_enter Try.func21, Try.ntmps21
  go_wp2_with (first | (refine wpList_load_part_g (by first | rfl | kernel_rfl | simp [Region.wanted, yielded]) (ty := 27) rfl rfl hB1.out _ (ships_lie' _ _) Try.underlying27 rfl ships_info' ?_) | (refine wpList_load_part_g (by first | rfl | kernel_rfl | simp [Region.wanted, yielded]) (ty := 27) rfl rfl hB2.out _ (ships_lie' _ _) Try.underlying27 rfl ships_info' ?_))
  go_loopw [5] (fun i wr => ∃ k : Nat, k ≤ n ∧ i = .int .i64 k ∧ Box wr w.heap.size 30 (Gm.cells g (.slice A n c)) ∧ Box wr (w.heap.size + 1) 30 (Gm.cells h (.slice B n d)) ∧ Below w.heap.size w wr ∧ ∀ j, j < k → g.shots[j]? = h.shots[j]?) (fun i _ => n - (intOf i).toNat)
  case atStart => exact ⟨0, by omega, rfl, hB1.out, hB2.out, two_below' _ _ _, fun j hj => absurd hj (Nat.not_lt_zero j)⟩
  case round =>
    obtain ⟨k, hk, rfl, hB, hC, hb, hall⟩ := hrel
    have HALL := Lib.hid hall
    have hcr := hB.cell
    have hds := hC.cell
    clear hall
    by_cases hlt : k < n
    · have hkg : k < g.shots.length := by have := hN.out; omega
      have hkh : k < h.shots.length := by have := hM.out; omega
      obtain ⟨ad, rfl, hbl, a0, a1, a2, a3, a4, a5⟩ := shots_at (hr.below hb) hN.out k hkg
      obtain ⟨bd, rfl, hbm, c0, c1, c2, c3, c4, c5⟩ := shots_at (hq.below hb) hM.out k hkh
      have HS := Lib.hid (show Gm.Eq g h → g.shots[k]'hkg = h.shots[k]'hkh from fun e => by
        have h4 := (HE.out e).2.2.2
        simp only [h4])
      have HT := Lib.hid (show g.shots[k]'hkg = h.shots[k]'hkh → ∀ j, j < k + 1 → g.shots[j]? = h.shots[j]? from fun e j hj => by
        by_cases ej : j = k
        · subst ej
          rw [List.getElem?_eq_getElem hkg, List.getElem?_eq_getElem hkh, e]
        · exact HALL.out j (by omega))
      have hsn := fun W => shot_neq (g.shots[k]'hkg) (h.shots[k]'hkh) W
      have hiff := @Gm.Shot.eqB_iff (g.shots[k]'hkg) (h.shots[k]'hkh)
      generalize g.shots[k]'hkg = s at a0 a1 a2 a3 a4 a5 HS HT hsn hiff
      generalize h.shots[k]'hkh = t at c0 c1 c2 c3 c4 c5 HS HT hsn hiff
      obtain ⟨owner, x, y, vx, vy, left⟩ := s
      obtain ⟨owner2, p, q, vp, vq, left2⟩ := t
      dsimp only at a0 a1 a2 a3 a4 a5 c0 c1 c2 c3 c4 c5
      simp only [Gm.Shot.cells] at hsn
      have hk8 : (k : Int) < n := by omega
      have HB := Lib.hid hB
      have HC := Lib.hid hC
      have HBB := Lib.hid hb
      clear hr hq ne hB1 hB2 g0 g1 h0 h1 x1 x2 hB hC hb
      cases hse : Gm.Shot.eqB ⟨owner, x, y, vx, vy, left⟩ ⟨owner2, p, q, vp, vq, left2⟩
      · rw [hse] at hsn hiff
        have hno := Lib.hid (show ¬ Gm.Eq g h from fun e => by have := hiff.2 (HS.out e); cases this)
        clear hse hiff
        go_upto_region 6 with fail
        go_quiet (fail)
        go_wp2
        go_ret
        exact ⟨by first | exact ⟨false, rfl, by simp; exact hno.out⟩ | exact .inl ⟨rfl, hno.out⟩, draws_below HBB.out _⟩
      · rw [hse] at hsn hiff
        have hn2 := Lib.hid (HT.out (hiff.1 rfl))
        clear hse hiff
        go_upto_region 6 with fail
        go_quiet (fail)
        go_wp2
        go_roundw
        case rel => exact ⟨k + 1, by omega, by go_num, HB.out.draws _, HC.out.draws _, draws_below HBB.out _, hn2.out⟩
        case measure => simp [intOf]; omega
    · have hk8 : ¬ (k : Int) < n := by omega
      have hyes := Lib.hid (show Gm.Eq g h from HI.out ⟨HF.out.1, HF.out.2, trivial, List.ext_getElem? fun j => by
        by_cases hj : j < n
        · exact HALL.out j (by omega)
        · rw [List.getElem?_eq_none (by have := hN.out; omega), List.getElem?_eq_none (by have := hM.out; omega)]⟩)
      have HBB := Lib.hid hb
      clear hr hq ne hB1 hB2 g0 g1 h0 h1 x1 x2 hB hC hb
      go_wp2
      go_ret
      exact ⟨by first | exact ⟨true, rfl, by simp; exact hyes.out⟩ | exact .inr ⟨rfl, hyes.out⟩, HBB.out⟩

set_option maxRecDepth 100000 in
set_option maxHeartbeats 4000000 in
theorem refsamest_any (g h : Gm.G) (r q : Ros.R) (A B : Option Addr) (n m c d : Nat) (w : World) (hn : n = g.shots.length) (hm : m = h.shots.length) (hr : Lies w w.heap.size 6 A n (Gm.shotCells g.shots)) (hq : Lies w w.heap.size 6 B m (Gm.shotCells h.shots))
    (n63 : n ≤ maxLen) (m63 : m ≤ maxLen) :
    Calls Try.prog 34 #[.agg (Im.cells g (.slice A n c) r), .agg (Im.cells h (.slice B m d) q)] w fun e w' => (∃ v, e = .returned (.bool v) ∧ (v = true ↔ (Gm.Eq g h ∧ r.version = q.version ∧ ∀ k, k < 8 → r.peer k = q.peer k ∧ r.gen k = q.gen k))) ∧ Below w.heap.size w w' := by
  have P0 := Lib.hid ((Box.made w 53 (Im.cells g (.slice A n c) r)).alloc (.cells (Im.cells h (.slice B m d) q) 53))
  have Q0 := Lib.hid (Box.made_at (n := w.heap.size + 1) (w.alloc (.cells (Im.cells g (.slice A n c) r) 53)) 53 (Im.cells h (.slice B m d) q) (by simp))
  have K0 := Lib.hid (two_below' w (.cells (Im.cells g (.slice A n c) r) 53) (.cells (Im.cells h (.slice B m d) q) 53))
  have cg := Lib.hid (refsame_any g h A B n m c d _ hn hm ((hr.below K0.out).wider K0.out.size) ((hq.below K0.out).wider K0.out.size) n63 m63)
  have he := fun W => ros_eql r q W
  have HI := Lib.hid (show (r.version == q.version && Ros.seatsEq r q) = true ↔ (r.version = q.version ∧ ∀ k, k < 8 → r.peer k = q.peer k ∧ r.gen k = q.gen k) by rw [Bool.and_eq_true, Ros.seatsEq_iff]; simp)
  generalize (r.version == q.version && Ros.seatsEq r q) = E at he HI
  clear hr hq hn hm
  go_enter Try.func34, Try.ntmps34
  go_wp2_with (first | ((with_reducible refine im_load_game rfl rfl ?_); apply LoadIm.mk rfl; (focus first | (with_reducible exact P0.out) | (with_reducible exact Q0.out)); dsimp only) | ((with_reducible refine im_load_ros_g ?_ rfl ?_); (focus first | rfl | kernel_rfl | simp [Region.wanted, yielded]); apply LoadIm.mk rfl; (focus first | (with_reducible exact P1.out) | (with_reducible exact Q1.out)); dsimp only) | (go_at_call 21; ((with_reducible refine (cg.out).mono ?_); rintro e w1 ⟨⟨v, rfl, hv⟩, hb⟩; have P1 := Lib.hid (P0.out.below hb P0.out.lt); have Q1 := Lib.hid (Q0.out.below hb Q0.out.lt); have K1 := Lib.hid (K0.out.trans (hb.mono K0.out.size)); have HV := Lib.hid hv; clear hb hv; cases v)))
  all_goals
    go_ret
    first
      | exact ⟨⟨false, rfl, by simp only [Bool.false_eq_true, false_iff]; exact fun x => by have := HV.out.2 x.1; simp at this⟩, K1.out⟩
      | exact ⟨⟨E, rfl, HI.out.trans ⟨fun x => ⟨HV.out.1 (by first | trivial | rfl), x⟩, fun x => x.2⟩⟩, K1.out⟩
      | exact ⟨by simp; exact fun x => absurd (HV.out.2 x) (by simp), K1.out⟩
      | exact ⟨by simp; exact HI.out.trans ⟨fun x => ⟨HV.out.1 (by first | trivial | rfl), x⟩, fun x => x.2⟩, K1.out⟩
      | trace_state
end Go.Proofs.Ytbihnmingedgfaa

/-
The contracts of package dice, and of the document's: what a text begins with.
-/

namespace Go.Proofs.Ytbihnmingedgfaa
open Go.RowKit
set_option linter.unusedVariables false

theorem take_snoc (s : ByteArray) (k : Nat) (h : k < s.size) : s.data.toList.take (k + 1) = s.data.toList.take k ++ [s[k]] := by
  rw [List.take_succ_eq_append_getElem (by simpa using h)]; rfl

theorem mix_wraps (h c : Int) (wh : 0 ≤ h ∧ h ≤ 18446744073709551615) (wc : 0 ≤ c ∧ c ≤ 255) : IntKind.u64.wrap (bits .xor .u64 h c * 1099511628211) = Dn.mix h c := by
  rw [u64_xor h c wh.1 (Int.lt_of_le_of_lt wh.2 (by decide)) wc.1 (Int.lt_of_le_of_lt wc.2 (by decide)), wrap_u64']; rfl

set_option maxHeartbeats 400000 in
theorem refseed_any (s : ByteArray) (w : World) (hs : s.size ≤ maxLen) :
    Calls Try.prog 36 #[.string s] w fun e w' => e = .returned (.int .u64 (Dn.seed s.data.toList)) ∧ w = w' := by
  unfold maxLen at hs
  go_enter Try.func36, Try.ntmps36
  go_wp2
  go_loop [3, 4] (fun n i => ∃ k : Nat, k ≤ s.size ∧ i = .int .i64 k ∧ n = .int .u64 (Dn.seed (s.data.toList.take k))) (fun _ i => s.size - (intOf i).toNat)
  case atStart => exact ⟨0, Nat.zero_le _, rfl, rfl⟩
  case round =>
    obtain ⟨k, hk, rfl, rfl⟩ := hrel
    by_cases hlt : k < s.size
    · have hb := Dn.seed_bd (s.data.toList.take k)
      have hc : (s[k].toNat : Int) ≤ 255 := by have := s[k].toNat_lt; omega
      have hm := mix_wraps (Dn.seed (s.data.toList.take k)) (s[k].toNat : Int) hb (by omega)
      have HS : Hid (Dn.seed (s.data.toList.take (k + 1)) = Dn.mix (Dn.seed (s.data.toList.take k)) (s[k].toNat : Int)) := Lib.hid (by rw [take_snoc s k hlt, Dn.seed_snoc])
      go_wp2
      all_goals
        go_round
        case rel => exact ⟨k + 1, by omega, by go_num, by rw [HS.out]⟩
        case measure => simp [intOf]; omega
    · go_wp2
      go_ret
      exact ⟨ret_int (by rw [List.take_of_length_le (by simp; omega)]), rfl⟩

theorem bytes_cell (s : ByteArray) (cap k : Nat) (hk : k < s.size) : (bytesRow s cap)[k]? = some (.int .u8 (s[k].toNat : Int)) := by
  unfold bytesRow
  rw [Array.getElem?_append_left (by simpa using hk), Array.getElem?_map]
  rw [Array.getElem?_eq_getElem (by simpa using hk)]
  rfl

set_option maxHeartbeats 400000 in
theorem wheel_any (d b p : Int) (w : World) :
    Calls Try.prog 104 #[.int .u64 d, .int .u64 b, .int .u64 p] w fun e w' =>
      e = .returned (.func (.func 141) #[] #[.pointer (some ⟨w.heap.size, 0, none⟩), .pointer (some ⟨w.heap.size + 1, 0, none⟩), .pointer (some ⟨w.heap.size + 2, 0, none⟩)]) ∧
      w' = ((w.alloc (.cells #[.int .u64 d] 24)).alloc (.cells #[.int .u64 b] 24)).alloc (.cells #[.int .u64 p] 24) := by
  have hmf : ∀ (fn : Fn) (first cap : Array Value) (w : World), (Instr.makeFunc fn first cap).run Try.prog w = .ok (.func fn first cap) w := fun _ _ _ _ => rfl
  go_enter Try.func104, Try.ntmps104
  go_wp2
  go_ret
  exact ⟨rfl, rfl⟩

set_option maxHeartbeats 400000 in
theorem turn_seed (d c : Int) (wd : 0 ≤ d ∧ d ≤ 18446744073709551615) (wc : 0 ≤ c ∧ c ≤ 255) (B : Nat) (w : World)
    (h0 : w.heap[B]? = some (.cells #[.int .u64 d] 24 (0, 0))) (h1 : w.heap[B + 1]? = some (.cells #[.int .u64 1099511628211] 24 (0, 0))) (h2 : w.heap[B + 2]? = some (.cells #[.int .u64 0] 24 (0, 0))) :
    Calls Try.prog 141 #[.int .u64 c, .pointer (some ⟨B, 0, none⟩), .pointer (some ⟨B + 1, 0, none⟩), .pointer (some ⟨B + 2, 0, none⟩)] w fun e w' =>
      e = .returned (.int .u64 (Dn.mix d c)) ∧ w' = w.setCell ⟨B, 0, none⟩ (.int .u64 (Dn.mix d c)) := by
  have c0 := cell_of_one h0
  have c1 := cell_of_one h1
  have c2 := cell_of_one h2
  have f0 := free_of_one h0
  have hm := mix_wraps d c wd wc
  have hb := Dn.mix_bd d c
  clear h0 h1 h2
  go_enter Try.func141, Try.ntmps141
  go_wp2
  go_ret
  exact ⟨rfl, rfl⟩

/-- What a round of Seed finds. -/
def Seeding (s : ByteArray) (B : Nat) (w wr : World) (H : Int) : Prop :=
  wr.heap[B]? = some (.cells #[.int .u64 H] 24 (0, 0)) ∧ wr.heap[B + 1]? = some (.cells #[.int .u64 1099511628211] 24 (0, 0)) ∧ wr.heap[B + 2]? = some (.cells #[.int .u64 0] 24 (0, 0)) ∧
  (∀ k (h : k < s.size), wr.cell? ⟨B + 1 + 1 + 1, k, none⟩ = some (.int .u8 (s[k].toNat : Int))) ∧ Below B w wr
theorem Seeding.on {s : ByteArray} {B : Nat} {w wr : World} {H : Int} (h : Seeding s B w wr H) (H' : Int) : Seeding s B w (wr.setCell ⟨B, 0, none⟩ (.int .u64 H')) H' := by
  obtain ⟨h0, h1, h2, hc, hb⟩ := h
  refine ⟨one_setCell h0, (Below.heap_setCell _ _ _ _ (by simp)).trans h1, (Below.heap_setCell _ _ _ _ (by simp)).trans h2, fun k hk => ?_, hb.setCell (Nat.le_refl _) _⟩
  rw [World.cell?_of_block (w := wr) (Below.heap_setCell _ _ _ _ (show B + 1 + 1 + 1 ≠ B by omega))]
  exact hc k hk
theorem at_new (w : World) (o : Obj) (i : Nat) (h : i = w.heap.size) : (w.alloc o).heap[i]? = some o := by subst h; exact heap_alloc_new w o
theorem Seeding.start (s : ByteArray) (w : World) (cap : Nat) (q : Nat × Nat) (H : Int) :
    Seeding s w.heap.size w (((((w.alloc (.cells #[.int .u64 H] 24)).alloc (.cells #[.int .u64 1099511628211] 24)).alloc (.cells #[.int .u64 0] 24)).alloc (.cells (bytesRow s cap) 5 q)).drew) H := by
  refine ⟨?_, ?_, ?_, fun k hk => ?_, ((((((Below.refl _ _).alloc (Nat.le_refl _) _).alloc (by simp) _).alloc (by simp; omega) _).alloc (by simp; omega) _)).drew⟩
  · exact (heap_alloc_old _ _ (by simp; omega)).trans ((heap_alloc_old _ _ (by simp; omega)).trans ((heap_alloc_old _ _ (by simp)).trans (at_new _ _ _ rfl)))
  · exact (heap_alloc_old _ _ (by simp)).trans ((heap_alloc_old _ _ (by simp)).trans (at_new _ _ _ (by simp)))
  · exact (heap_alloc_old _ _ (by simp)).trans (at_new _ _ _ (by simp))
  · have h3 := at_new (((w.alloc (.cells #[.int .u64 H] 24)).alloc (.cells #[.int .u64 1099511628211] 24)).alloc (.cells #[.int .u64 0] 24)) (.cells (bytesRow s cap) 5 q) (w.heap.size + 1 + 1 + 1) (by simp)
    have h4 := bytes_cell s cap k hk
    generalize (((w.alloc (.cells #[.int .u64 H] 24)).alloc (.cells #[.int .u64 1099511628211] 24)).alloc (.cells #[.int .u64 0] 24)).alloc (.cells (bytesRow s cap) 5 q) = W at *
    show W.cell? _ = _
    simp [World.cell?, h3, h4]

set_option maxHeartbeats 400000 in
theorem seed_any (s : ByteArray) (w : World) (hs : s.size ≤ maxLen) :
    Calls Try.prog 52 #[.string s] w fun e w' => e = .returned (.int .u64 (Dn.seed s.data.toList)) ∧ Below w.heap.size w w' := by
  unfold maxLen at hs
  have kc := fun (w : World) => run_bytes_of_string (P := Try.prog) w 9 54 5 s Try.underlying9 Try.underlying54 Try.underlying5
  have hst := fun cap q => Lib.hid (Seeding.start s w cap q 14695981039346656037)
  go_enter Try.func52, Try.ntmps52
  go_wp2_with (go_at_call 104; refine (wheel_any _ _ _ _).mono ?_; rintro e w' ⟨rfl, rfl⟩)
  go_loopw [4, 11] (fun h i wr => ∃ k : Nat, k ≤ s.size ∧ i = .int .i64 k ∧ h = .int .u64 (Dn.seed (s.data.toList.take k)) ∧ Seeding s w.heap.size w wr (Dn.seed (s.data.toList.take k))) (fun _ i _ => s.size - (intOf i).toNat)
  case atStart => exact ⟨0, Nat.zero_le _, rfl, rfl, (hst _ _).out⟩
  case round =>
    obtain ⟨k, hk, rfl, rfl, hS⟩ := hrel
    by_cases hlt : k < s.size
    · obtain ⟨c, hc⟩ : ∃ c : Int, c = (s[k].toNat : Int) := ⟨_, rfl⟩
      have hcell := hS.2.2.2.1 k hlt
      rw [← hc] at hcell
      have wc : 0 ≤ c ∧ c ≤ 255 := by have := s[k].toNat_lt; omega
      have HS : Hid (Dn.seed (s.data.toList.take (k + 1)) = Dn.mix (Dn.seed (s.data.toList.take k)) c) := Lib.hid (by rw [take_snoc s k hlt, Dn.seed_snoc, hc])
      have ct := Lib.hid (turn_seed (Dn.seed (s.data.toList.take k)) c (Dn.seed_bd _) wc w.heap.size wr hS.1 hS.2.1 hS.2.2.1)
      have HN := Lib.hid (hS.on (Dn.mix (Dn.seed (s.data.toList.take k)) c))
      clear hS hc kc hst
      go_wp2_with (go_at_call 141; refine (ct.out).mono ?_; rintro e w' ⟨rfl, rfl⟩)
      all_goals
        go_roundw
        case rel => exact ⟨k + 1, by omega, by go_num, by rw [HS.out], by rw [HS.out]; exact HN.out⟩
        case measure => simp [intOf]; omega
    · have hb := hS.2.2.2.2
      clear hS kc hst
      go_wp2
      go_ret
      exact ⟨ret_int (by rw [List.take_of_length_le (by simp; omega)]), hb⟩
end Go.Proofs.Ytbihnmingedgfaa

/-
The document's Start; sums.
-/



namespace Go.Proofs.Ytbihnmingedgfaa
open Go.RowKit Go.Shelf
set_option linter.unusedVariables false
set_option linter.unusedSimpArgs false

def Im.r (k : Nat) : Ros.R := ⟨0, fun i => if i < k then -1 else 0, fun _ => 0⟩
theorem Im.r_put (k : Nat) (hk : k < 8) : (Ros.cells (Im.r k)).setIfInBounds (1 + k * 2) (.int .i64 (-1)) = Ros.cells (Im.r (k + 1)) := by
  rw [Ros.cells_setp _ k hk]
  refine Ros.cells_congr rfl (fun i hi => ?_) (fun i hi => rfl)
  show Ros.upd (Im.r k).peer k (-1) i = if i < k + 1 then -1 else 0
  unfold Ros.upd Im.r
  by_cases e : i = k
  · subst e; simp
  · rw [if_neg e]
    dsimp only
    by_cases h : i < k
    · rw [if_pos h, if_pos (by omega)]
    · rw [if_neg h, if_neg (by omega)]
theorem Im.r_8 : Ros.cells (Im.r 8) = Ros.cells Ros.new := rfl
theorem Im.r_0 : Ros.cells rosZero = Ros.cells (Im.r 0) := rfl

set_option maxHeartbeats 1000000 in
theorem refros_any (w : World) : Calls Try.prog 122 #[] w fun e w' => e = .returned (.agg (Ros.cells Ros.new)) ∧ Below w.heap.size w w' := by
  have P0 := Lib.hid ((Box.made w 51 (Ros.cells rosZero)).alloc (.cells (Ros.cells rosZero) 51))
  have P1 := Lib.hid (Box.made_at (n := w.heap.size + 1) (w.alloc (.cells (Ros.cells rosZero) 51)) 51 (Ros.cells (Im.r 0)) (by simp))
  have K1 := Lib.hid (((Below.refl w.heap.size w).alloc (Nat.le_refl _) (.cells (Ros.cells rosZero) 51)).alloc (by simp) (.cells (Ros.cells rosZero) 51))
  go_enter Try.func122, Try.ntmps122
  go_wp2_with (with_reducible refine ros_alloc rfl rfl ?_)
  go_loopw [2] (fun i wr => ∃ k : Nat, k ≤ 8 ∧ i = .int .i64 k ∧ Box wr (w.heap.size + 1) 51 (Ros.cells (Im.r k)) ∧ Box wr w.heap.size 51 (Ros.cells rosZero) ∧ Below w.heap.size w wr) (fun i _ => 8 - (intOf i).toNat)
  case atStart => exact ⟨0, by omega, rfl, P1.out, P0.out, K1.out⟩
  case round =>
    obtain ⟨k, hk, rfl, hB, hZ, hK⟩ := hrel
    clear P0 P1 K1
    by_cases hlt : k < 8
    · have hk8 : (k : Int) < 8 := by omega
      have c0 := (hB.cell (1 + k * 2)).trans (Ros.cells_peer (Im.r k) k hlt)
      have f0 := hB.free (1 + k * 2)
      have hp := hB.put (1 + k * 2) (.int .i64 (-1))
      rw [Im.r_put k hlt] at hp
      have HB := Lib.hid hp
      have HZ := Lib.hid (hZ.far (p := ⟨w.heap.size + 1, 1 + k * 2, none⟩) (show w.heap.size ≠ w.heap.size + 1 by omega) (.int .i64 (-1)))
      have HK := Lib.hid (hK.setCell (p := ⟨w.heap.size + 1, 1 + k * 2, none⟩) (Nat.le_succ _) (.int .i64 (-1)))
      clear hB hZ hK hp
      go_wp2
      go_roundw
      case rel => exact ⟨k + 1, by omega, by go_num, HB.out, HZ.out, HK.out⟩
      case measure => simp [intOf]; omega
    · have hk8 : ¬ (k : Int) < 8 := by omega
      obtain rfl : k = 8 := by omega
      rw [Im.r_8] at hB
      have HB := Lib.hid hB
      have HZ := Lib.hid hZ
      have HK := Lib.hid hK
      clear hB hZ hK
      go_wp2_with (first | ((with_reducible refine ros_load rfl rfl ?_); apply LoadRow.mk rfl; (focus (with_reducible exact HB.out)); (focus (exact ros_info))) | ((with_reducible refine ros_store rfl rfl ?_); apply StoreRow.mk rfl rfl; (focus (with_reducible exact HZ.out)); (focus (exact ros_info)); (focus rfl); (focus (exact ros_one _))))
      refine bodyPost_ret (v := .agg (Ros.cells Ros.new)) ?_ ?_ ?_
      · exact results_cell_row rfl _ _ _ _ (Ros.cells Ros.new) (0, 0) _ rfl (HZ.out.row (Ros.cells Ros.new)).is Try.underlying51 rfl ros_info
      · rfl
      · exact ⟨rfl, Below.setRow' HK.out (Nat.le_refl _) (Ros.cells Ros.new)⟩

set_option maxRecDepth 100000 in
theorem refnew7_any (s : ByteArray) (w : World) (hs : s.size ≤ maxLen) :
    Calls Try.prog 16 #[.string s] w fun e w' => e = .returned (.agg (Gm.cells (Gm.new (Dn.seed s.data.toList)) (.slice none 0 0))) ∧ Below w.heap.size w w' := by
  have c1 := fun X => Lib.hid (refseed_any s X hs)
  have hr := Lib.hid (rfl : Try.f16.results = _)
  go_enter Try.func16, Try.ntmps16
  go_wp2_with (first | (go_at_call 36; ((with_reducible refine ((c1 _).out).mono ?_); rintro e w' ⟨rfl, rfl⟩)) | (refine wpList_alloc_z rfl (t := 30) rfl game_zero rfl ?_) | (refine wpList_build_is rfl (t := 30) (vs := [(1, .int .u64 (Dn.seed s.data.toList))]) rfl rfl (built_new _) ?_) | (refine wpList_store_new rfl (ty := 30) rfl rfl rfl rfl rfl game_info rfl (cells_one _ _ rfl) ?_))
  refine bodyPost_ret (v := .agg (Gm.cells (Gm.new (Dn.seed s.data.toList)) (.slice none 0 0))) ?_ ?_ ?_
  · exact results_cell_row rfl _ _ _ _ (Gm.cells (Gm.new (Dn.seed s.data.toList)) (.slice none 0 0)) (0, 0) _ rfl (Box.made _ _ _).is Try.underlying30 rfl game_info
  · rfl
  · exact ⟨rfl, one_below _ _⟩

theorem state_built2 (g : Gm.G) (s : Value) (r : Ros.R) : Try.prog.built 53 [(0, .agg (Gm.cells g s)), (1, .agg (Ros.cells r))] = some (Im.cells g s r) := by kernel_rfl

set_option maxHeartbeats 1000000 in
theorem start_any (s : ByteArray) (w : World) (hs : s.size ≤ maxLen) :
    Calls Try.prog 74 #[.string s] w fun e w' => e = .returned (.agg (Im.cells (Gm.new (Dn.seed s.data.toList)) (.slice none 0 0) Ros.new)) ∧ Below w.heap.size w w' := by
  have P1 := Lib.hid (Box.made w 53 Im.zero)
  have K1 := Lib.hid (one_below w (.cells Im.zero 53))
  have c1 := fun X => Lib.hid (refnew7_any s X hs)
  have c2 := fun X => Lib.hid (refros_any X)
  go_enter Try.func74, Try.ntmps74
  go_wp2_with (first | (with_reducible refine alloc_state rfl rfl ?_) | (go_at_call 16; ((with_reducible refine ((c1 _).out).mono ?_); rintro e w2 ⟨rfl, hb⟩; have P2 := Lib.hid (P1.out.below hb P1.out.lt); have K2 := Lib.hid (K1.out.trans (hb.mono K1.out.size)); clear hb)) | (go_at_call 122; ((with_reducible refine ((c2 _).out).mono ?_); rintro e w3 ⟨rfl, hb⟩; have P3 := Lib.hid (P2.out.below hb P2.out.lt); have K3 := Lib.hid (K2.out.trans (hb.mono K2.out.size)); clear hb)) | (refine wpList_build_is rfl (t := 53) (vs := [(0, .agg (Gm.cells (Gm.new (Dn.seed s.data.toList)) (.slice none 0 0))), (1, .agg (Ros.cells Ros.new))]) rfl rfl (state_built2 _ _ _) ?_) | ((with_reducible refine blk_gate (t := 53) rfl rfl state_info ?_); apply StoreBlk.mk rfl rfl P3.out (im_cells_one _ _ _ rfl) (Im.cells_size _ _ _) Im.zero_size))
  refine bodyPost_ret (v := .agg (Im.cells (Gm.new (Dn.seed s.data.toList)) (.slice none 0 0) Ros.new)) ?_ ?_ ?_
  · exact results_cell_row rfl _ _ _ _ (Im.cells (Gm.new (Dn.seed s.data.toList)) (.slice none 0 0) Ros.new) (0, 0) _ rfl (P3.out.row _).is Try.underlying53 rfl (by rw [Im.cells_size]; exact state_info)
  · rfl
  · exact ⟨rfl, Below.setRow' K3.out (Nat.le_refl _) _⟩

theorem sum_nil (w : World) : Calls Try.prog 35 #[.slice none 0 0] w fun e w' => e = .returned (.int .u64 14695981039346656037) ∧ Below w.heap.size w w' := by
  have hcv := fun (w : World) => run_convert_bytes_nil (P := Try.prog) (w := w) 54 5 Try.underlying54 Try.underlying5 0 0 9 Try.underlying9
  have cs := fun X => Lib.hid (seed_any ByteArray.empty X (Nat.zero_le _))
  rw [show Dn.seed ByteArray.empty.data.toList = 14695981039346656037 from rfl] at cs
  go_enter Try.func35, Try.ntmps35
  go_wp2_with (go_at_call 52; ((with_reducible refine ((cs _).out).mono ?_); rintro e w1 ⟨rfl, hb⟩))
  go_ret
  exact ⟨rfl, hb⟩

theorem of_no (g : Gm.G) (r : Ros.R) (A : Option Addr) (n c : Nat) (w : World) (hno : ¬ Im.Ok g r) (hty : Gm.ty g) (hn : n = g.shots.length) (hn63 : n ≤ maxLen) (hr : Lies w w.heap.size 6 A n (Gm.shotCells g.shots)) :
    Calls Try.prog 37 #[.agg (Im.cells g (.slice A n c) r)] w fun e w' => e = .returned (.int .u64 0) ∧ Below w.heap.size w w' := by
  have P0 := Lib.hid (Box.made w 53 (Im.cells g (.slice A n c) r))
  have K0 := Lib.hid (one_below w (.cells (Im.cells g (.slice A n c) r) 53))
  have cp := Lib.hid (put_no g r A n c _ hno hty hn hn63 ((hr.below K0.out).wider K0.out.size))
  clear hr hn hno hty
  go_enter Try.func37, Try.ntmps37
  go_wp2_with (first | ((with_reducible refine im_load_state rfl rfl ?_); apply LoadIm.mk rfl; (focus (with_reducible exact P0.out)); dsimp only) | (go_at_call 29; ((with_reducible refine (cp.out).mono ?_); rintro e w1 ⟨rfl, hb⟩; have K1 := Lib.hid (K0.out.trans (hb.mono K0.out.size)); clear hb)))
  go_ret
  exact ⟨rfl, K1.out⟩
end Go.Proofs.Ytbihnmingedgfaa

/-
The statements' own question of images.
-/


namespace Go.Proofs.Ytbihnmingedgfaa
open Go.RowKit Go.Shelf
set_option linter.unusedVariables false
set_option linter.unusedSimpArgs false

section
variable {ops : Array Oper} {Q : Exit → Act → World → Prop} {o : Oper} {rest : List Oper} {a : Act} {w : World} {x y : Operand}
theorem im_load_state_g (hw : Region.wanted o (yielded ops a.tmps) = true) (ho : o.op = .load 53 x) (h : LoadIm ops Q rest o.dst (a.eval x) 0 (fun g s r => Im.cells g s r) a w) : wpList Try.prog ops Q (o :: rest) a w := by
  obtain ⟨B, g, s, r, hx, hB, h⟩ := h
  refine wpList_load_part_g hw ho hx hB (Im.cells g s r).toList (fun j v hv => ?_) Try.underlying53 rfl (by rw [Array.length_toList, Im.cells_size]; exact state_info) (by rw [Array.toArray_toList]; exact h)
  rw [Nat.zero_add]
  simpa using hv
theorem state_store_new {v : World} {old : Array Value} {g : Gm.G} {s : Value} {r : Ros.R} (hgd : o.guard = none) (ho : o.op = .store 53 x y) (hx : a.eval x = .pointer (some ⟨v.heap.size, 0, none⟩)) (hy : a.eval y = .agg (Im.cells g s r))
    (hold : old.size = 76) (hs : s.oneCell' = true) (h : wpList Try.prog ops Q rest (a.put o.dst undef) (v.alloc (.cells (Im.cells g s r) 53))) : wpList Try.prog ops Q (o :: rest) a (v.alloc (.cells old 53)) :=
  wpList_store_new hgd ho hx hy rfl rfl (by rw [Im.cells_size]; exact state_info) (by rw [Im.cells_size]; exact hold) (im_cells_one _ _ _ hs) h
theorem state_store_zero {v : World} {old : Array Value} (hgd : o.guard = none) (ho : o.op = .store 53 x y) (hx : a.eval x = .pointer (some ⟨v.heap.size, 0, none⟩)) (hy : a.eval y = .agg Im.zero)
    (hold : old.size = 76) (h : wpList Try.prog ops Q rest (a.put o.dst undef) (v.alloc (.cells Im.zero 53))) : wpList Try.prog ops Q (o :: rest) a (v.alloc (.cells old 53)) :=
  wpList_store_new hgd ho hx hy rfl rfl (by rw [Im.zero_size]; exact state_info) (by rw [Im.zero_size]; exact hold) zero_one h
end

theorem quiet_state {B0 : Nat} {W : World} {o : Oper} {a : Act} {K : Act → Prop} {B : Nat} {g : Gm.G} {s : Value} {r : Ros.R} {x : Operand} (ho : o.op = .load 53 x) (hx : a.eval x = .pointer (some ⟨B, 0, none⟩)) (hB : ∀ q : Ext B0 W, Box q.w B 53 (Im.cells g s r)) (h : K (a.put o.dst (.agg (Im.cells g s r)))) :
    o.quiet Try.prog a (fun w' => ∃ q : Ext B0 W, w' = q.w) K :=
  ⟨_, fun w hw => by obtain ⟨q, e⟩ := hw; subst e; unfold Oper.quietAt; rw [exec_load_blk ho hx (hB q) Try.underlying53 rfl (by rw [Im.cells_size]; exact state_info)]; exact ⟨rfl, rfl⟩, h⟩

theorem im_okShip_none : Gm.okShip Gm.Ship.none := ⟨.inr rfl, by unfold Gm.inF Gm.Ship.none; decide, by unfold Gm.inF Gm.Ship.none; decide, by unfold Gm.slow Gm.Ship.none; decide, by unfold Gm.slow Gm.Ship.none; decide, by decide, by decide, by decide, by decide⟩
def Im.bad (d : Int) : Gm.G := { Im.bare 0 d with ship := Gm.upd (fun _ => Gm.Ship.none) 0 { Gm.Ship.none with on := true } }
theorem Im.bad_cells (d : Int) (s : Value) (r : Ros.R) : (Im.cells (Im.bare 0 d) s r).setIfInBounds 2 (.bool true) = Im.cells (Im.bad d) s r := by
  rw [Im.cells_set_g _ _ _ _ (by omega)]
  rfl
theorem Im.bad_no (d : Int) : ¬ Im.Ok (Im.bad d) Ros.new := fun h => absurd (h.2.2 0 (by omega)) (by show ¬ (true = decide ((0 : Int) ≤ -1)); decide)
theorem Im.bad_ty (d : Int) (hd : 0 ≤ d ∧ d ≤ 18446744073709551615) : Gm.ty (Im.bad d) := ⟨by show Gm.i64 0; unfold Gm.i64; omega, hd, fun i hi => by
  show Gm.tyShip (Gm.upd (fun _ => Gm.Ship.none) 0 { Gm.Ship.none with on := true } i)
  unfold Gm.upd
  by_cases e : i = 0
  · rw [if_pos e]; unfold Gm.tyShip Gm.i32 Gm.i64; decide
  · rw [if_neg e]; show Gm.tyShip Gm.Ship.none; unfold Gm.tyShip Gm.i32 Gm.i64; decide, fun i hi => absurd hi (Nat.not_lt_zero _)⟩
theorem Im.fresh_ok (d : Int) : Im.Ok (Im.bare 0 d) Ros.new := ⟨⟨by show (0 : Int) ≤ 0; decide, by show (0 : Int) ≤ 1048576; decide, by show 0 ≤ 32; decide, fun _ _ => im_okShip_none, fun i h => absurd h (Nat.not_lt_zero _)⟩, by decide +kernel, fun k _ => rfl⟩
theorem Im.fresh_len (d : Int) : (Im.put (Im.bare 0 d) Ros.new).length = 49 := by rfl

set_option maxRecDepth 100000 in
set_option maxHeartbeats 400000 in
theorem told7_any (w : World) :
    Calls Try.prog 28 #[] w fun e w' => e = .returned (.bool true) ∧ Below w.heap.size w w' := by
  have hd : 0 ≤ Dn.seed [97] ∧ Dn.seed [97] ≤ 18446744073709551615 := Dn.seed_bd _
  have cst := fun X => Lib.hid (start_any ⟨#[97]⟩ X (by decide))
  have csd := fun X => Lib.hid (refseed_any ⟨#[97]⟩ X (by decide))
  generalize Dn.seed [97] = d at hd cst csd
  rw [show Gm.new d = Im.bare 0 d from rfl] at cst
  have hok := Im.fresh_ok d
  have cpt := fun X => Lib.hid (put_made (Im.bare 0 d) Ros.new none 0 0 X hok hd rfl Lies.empty)
  have cget := fun A c X hc hL => Lib.hid (get_bare 0 d Ros.new A 49 c X (by decide) hd hok (Im.fresh_len d).symm hc hL)
  rw [Im.fresh_len] at cpt
  have cgn : ∀ X, Hid (Calls Try.prog 32 #[.slice none 0 0] X fun e w' => e = .returned (.tuple #[.agg (Im.cells Im.G0 (.slice none 0 0) Im.R0), .int .i64 2]) ∧ Below X.heap.size X w') := fun X => Lib.hid (get_nil X)
  generalize Im.G0 = z0 at cgn
  generalize Im.R0 = zr at cgn
  have cpn := fun X => Lib.hid (put_no (Im.bad d) Ros.new none 0 0 X (Im.bad_no d) (Im.bad_ty d hd) rfl (Nat.zero_le _) Lies.empty)
  have cof := fun X => Lib.hid (of_no (Im.bad d) Ros.new none 0 0 X (Im.bad_no d) (Im.bad_ty d hd) rfl (Nat.zero_le _) Lies.empty)
  have csm := fun X => Lib.hid (sum_nil X)
  have hset := Im.bad_cells d (.slice none 0 0) Ros.new
  have zon : ∀ s r, (Im.cells (Im.bare 0 d) s r)[2]? = some (.bool false) := fun s r => (Im.cells_ship (Im.bare 0 d) s r 0 0 (by omega) (by omega)).trans rfl
  have zdice : ∀ s r, (Im.cells (Im.bare 0 d) s r)[1]? = some (.int .u64 d) := fun s r => (Im.cells_g (Im.bare 0 d) s r 1 (by omega)).trans (Gm.cells_1 _ _)
  have zpeer : ∀ (s : Value) (_ : Unit), (Im.cells (Im.bare 0 d) s Ros.new)[66]? = some (.int .i64 (-1)) := fun s _ => (Im.cells_peer (Im.bare 0 d) s Ros.new 3 (by omega)).trans rfl
  have HS := Lib.hid hset
  generalize Im.bad d = g1 at *
  generalize Im.put (Im.bare 0 d) Ros.new = bs at *
  generalize Im.bare 0 d = g0 at *
  generalize Ros.new = r0 at *
  clear hd hok hset
  go_enter Try.func28, Try.ntmps28
  go_wp2_with (first | ((with_reducible refine im_load_state rfl rfl ?_); apply LoadIm.mk rfl; (focus (with_reducible exact T1.out)); dsimp only) | ((with_reducible refine im_load_state rfl rfl ?_); apply LoadIm.mk rfl; (focus (with_reducible exact T5.out)); dsimp only) | (with_reducible refine alloc_state rfl rfl ?_) | ((with_reducible refine state_store_new rfl rfl rfl rfl Im.zero_size rfl ?_)) | (go_at_call 74; ((with_reducible refine ((cst _).out).mono ?_); rintro e w1 ⟨rfl, hb⟩; have T1 := Lib.hid (Box.made w1 53 (Im.cells g0 (.slice none 0 0) r0)); have K1 := Lib.hid (hb.alloc hb.size (.cells (Im.cells g0 (.slice none 0 0) r0) 53)); have K1w := Lib.hid hb.size; clear hb)) | (go_at_call 29; ((with_reducible refine ((cpt _).out).mono ?_); rintro e w2 ⟨A2, c2, rfl, hc2, hL2, hb⟩; have T2 := Lib.hid (T1.out.below hb T1.out.lt); have K2 := Lib.hid (K1.out.trans (hb.mono K1.out.size)); have L2 := Lib.hid hL2; have C2 := Lib.hid hc2; have cg := cget A2 c2 _ C2.out L2.out; clear hc2 hL2 hb)) | (go_at_call 32; ((with_reducible refine (cg.out).mono ?_); rintro e w3 ⟨⟨S, rfl⟩, hb⟩; have T3 := Lib.hid ((T2.out.below hb T2.out.lt).alloc (.cells (Im.cells g0 (.slice (some ⟨S, 0, none⟩) 0 0) r0) 53)); have K3 := Lib.hid ((K2.out.trans (hb.mono K2.out.size)).alloc (Nat.le_trans K2.out.size hb.size) (.cells (Im.cells g0 (.slice (some ⟨S, 0, none⟩) 0 0) r0) 53)); have G3 := Lib.hid (Box.made w3 53 (Im.cells g0 (.slice (some ⟨S, 0, none⟩) 0 0) r0)); have l3 := Nat.lt_of_lt_of_le T2.out.lt hb.size; clear hb cg)) | (go_at_call 32; ((with_reducible refine ((cgn _).out).mono ?_); rintro e w4 ⟨rfl, hb⟩; have T4 := Lib.hid ((T3.out.below hb T3.out.lt).alloc (.cells (Im.cells z0 (.slice none 0 0) zr) 53)); have K4 := Lib.hid ((K3.out.trans (hb.mono K3.out.size)).alloc (Nat.le_trans K3.out.size hb.size) (.cells (Im.cells z0 (.slice none 0 0) zr) 53)); have G4 := Lib.hid ((G3.out.below hb G3.out.lt).alloc (.cells (Im.cells z0 (.slice none 0 0) zr) 53)); have t4 := (T4.out.cell 2).trans (zon _ _); have f4 := T4.out.free 2; have T5 := Lib.hid (show Box _ w1.heap.size 53 (Im.cells g1 (.slice none 0 0) r0) by (have h5 := T4.out.put 2 (.bool true)); rw [HS.out] at h5; exact h5); have K5 := Lib.hid (K4.out.setCell (p := ⟨w1.heap.size, 2, none⟩) (K1w.out) (.bool true)); have G5 := Lib.hid (G4.out.far (p := ⟨w1.heap.size, 2, none⟩) (show w3.heap.size ≠ w1.heap.size by omega) (.bool true)); clear hb)) | (go_at_call 29; ((with_reducible refine ((cpn _).out).mono ?_); rintro e w6 ⟨rfl, hb⟩; have T6 := Lib.hid (T5.out.below hb T5.out.lt); have G6 := Lib.hid (G5.out.below hb G5.out.lt); have K6 := Lib.hid (K5.out.trans (hb.mono K5.out.size)); have g6 := (G6.out.cell 1).trans (zdice _ _); have h6 := (G6.out.cell 66).trans (zpeer _ ()); clear hb)) | (go_at_call 36; ((with_reducible refine ((csd _).out).mono ?_); rintro e ws ⟨rfl, rfl⟩; skip)) | ((with_reducible refine im_load_state_g ?_ rfl ?_); (focus first | rfl | kernel_rfl | simp [Region.wanted, yielded]); apply LoadIm.mk rfl; (focus (with_reducible exact T6.out)); dsimp only) | (go_at_call 37; ((with_reducible refine ((cof _).out).mono ?_); rintro e w7 ⟨rfl, hb⟩; have K7 := Lib.hid (K6.out.trans (hb.mono K6.out.size)); clear hb)) | (go_at_call 35; ((with_reducible refine ((csm _).out).mono ?_); rintro e w8 ⟨rfl, hb⟩; have K8 := Lib.hid (K7.out.trans (hb.mono K7.out.size)); clear hb)))
  have z1 : ∀ q : Ext w6.heap.size w6, q.w.cell? ⟨w3.heap.size, 1, none⟩ = some (.int .u64 d) := fun q => q.cell G6.out.lt g6
  have z2 : ∀ q : Ext w6.heap.size w6, q.w.cell? ⟨w3.heap.size, 66, none⟩ = some (.int .i64 (-1)) := fun q => q.cell G6.out.lt h6
  have ZT := Lib.hid (fun q : Ext w6.heap.size w6 => T6.out.below q.h T6.out.lt)
  clear g6 h6 T5 K5 G5 T1 T2 T3 T4 K1 K2 K3 K4 G3 G4 L2 C2 t4 f4 l3 K1w cst cpt cget cgn cpn HS zon zdice zpeer
  refine wp_region_ext w6.heap.size w6 (by kernel_rfl) (by kernel_rfl) (Below.refl _ _) ?_
  repeat (first | (go_big_quiet_want; refine quiet_state rfl rfl ZT.out ?_; simp only [Act.put, List.setIfInBounds_toArray, List.set_cons_succ, List.set_cons_zero]; go_big_quiet_on) | go_big_quiet_step ((first | (go_at_call 36; with_reducible exact Calls.ext_same (csd _).out) | (go_at_call 37; with_reducible exact Calls.ext_of (Nat.le_refl _) (cof _).out) | (go_at_call 35; with_reducible exact Calls.ext_of (Nat.le_refl _) (csm _).out))))
  refine wpQuiet_nil ?_
  intro _ hw'
  obtain ⟨q, hw''⟩ := hw'
  subst hw''
  have KQ := Lib.hid (K6.out.trans (q.h.mono K6.out.size))
  go_wp2
  go_ret
  exact ⟨rfl, KQ.out⟩
end Go.Proofs.Ytbihnmingedgfaa

/-
A struct that lies anywhere is loaded whole.
-/


namespace Go.Proofs.Ytbihnmingedgfaa
open Go.RowKit
set_option linter.unusedVariables false

section
variable {P : Program} {ops : Array Oper} {rest : List Oper} {o : Oper} {a : Act} {w : World} {Q : Exit → Act → World → Prop}
theorem run_loadVar_any (w : World) (ad : Addr) (ty : TypeId) (cs : List Value) (d : TypeDesc) (hc : ∀ j v, cs[j]? = some v → w.cell? (ad.add j) = some v)
    (hu : P.underlying ty = some d) (hd : d.isRow = true) (hi : (P.info? ty).map (·.size) = some cs.length) :
    (loadVar ty ad).run P w = .ok (.agg cs.toArray) w := by
  have hl : (loadCells ad cs.length).run P w = .ok cs.toArray w := run_loadCells_list (P := P) w ad cs hc
  cases hq : P.info? ty with
  | none => simp [hq] at hi
  | some i =>
    have hs : i.size = cs.length := by simpa [hq] using hi
    have hagg : (isAgg ty).run P w = .ok true w := by
      unfold isAgg
      rw [Sem.run_bind, run_underlying hu w]
      cases d <;> simp_all
    simp [loadVar, Sem.run_bind, hagg, sizeOf, typeInfo, hq, hs, hl]
/-- What the load of a struct at an address wants. -/
def LoadAt (P : Program) (ops : Array Oper) (Q : Exit → Act → World → Prop) (rest : List Oper) (dst : Option Tmp) (p : Value) (size : Nat) (a : Act) (w : World) : Prop :=
  ∃ (ad : Addr) (cs : List Value), p = .pointer (some ad) ∧ (∀ j v, cs[j]? = some v → w.cell? (ad.add j) = some v) ∧ cs.length = size ∧ wpList P ops Q rest (a.put dst (.agg cs.toArray)) w
theorem LoadAt.mk {dst : Option Tmp} {p : Value} {size : Nat} {ad : Addr} {cs : List Value} (hp : p = .pointer (some ad)) (hc : ∀ j v, cs[j]? = some v → w.cell? (ad.add j) = some v) (hs : cs.length = size) (h : wpList P ops Q rest (a.put dst (.agg cs.toArray)) w) : LoadAt P ops Q rest dst p size a w := ⟨ad, cs, hp, hc, hs, h⟩
theorem load_at_gate {ty : TypeId} {x : Operand} {size : Nat} {d : TypeDesc} (hgd : o.guard = none) (ho : o.op = .load ty x) (hu : P.underlying ty = some d) (hd : d.isRow = true) (hi : (P.info? ty).map (·.size) = some size) (h : LoadAt P ops Q rest o.dst (a.eval x) size a w) : wpList P ops Q (o :: rest) a w := by
  obtain ⟨ad, cs, hx, hc, hs, h⟩ := h
  refine wpList_plain hgd fun _ hK => ?_
  unfold Oper.wp execOp
  simp only [ho, hx, Instr.loadAt, Instr.sureAddr, Sem.run_bind, Sem.run_pure, Result.andThen_ok, run_loadVar_any w ad ty cs d hc hu hd (by rw [hi, hs])]
  exact hK _ _ h
theorem load_at_gate_g {ty : TypeId} {x : Operand} {size : Nat} {d : TypeDesc} (hw : Region.wanted o (yielded ops a.tmps) = true) (ho : o.op = .load ty x) (hu : P.underlying ty = some d) (hd : d.isRow = true) (hi : (P.info? ty).map (·.size) = some size) (h : LoadAt P ops Q rest o.dst (a.eval x) size a w) : wpList P ops Q (o :: rest) a w := by
  obtain ⟨ad, cs, hx, hc, hs, h⟩ := h
  refine wpList_step fun K hK => ?_
  rw [if_pos hw]
  unfold Oper.wp execOp
  simp only [ho, hx, Instr.loadAt, Instr.sureAddr, Sem.run_bind, Sem.run_pure, Result.andThen_ok, run_loadVar_any w ad ty cs d hc hu hd (by rw [hi, hs])]
  exact hK _ _ h
theorem exec_load_any {x : Operand} {ty : TypeId} {ad : Addr} {cs : List Value} {d : TypeDesc} (ho : o.op = .load ty x) (hx : a.eval x = .pointer (some ad)) (hc : ∀ j v, cs[j]? = some v → w.cell? (ad.add j) = some v) (hu : P.underlying ty = some d) (hd : d.isRow = true) (hi : (P.info? ty).map (·.size) = some cs.length) :
    (execOp a.eval o).run P w = .ok (.value (.agg cs.toArray)) w := by
  unfold execOp
  simp only [ho, hx, Instr.loadAt, Instr.sureAddr, Sem.run_bind, Sem.run_pure, Result.andThen_ok, run_loadVar_any w ad ty cs d hc hu hd hi]
end
/-- The first n of a slice. -/
theorem run_slice_to {P : Program} {t e : TypeId} {sz : Nat} (a : Option Addr) (len cap n : Nat) (hu : P.underlying t = some (.slice e)) (hs : (P.info? e).map (·.size) = some sz) (h : n ≤ cap) (w : World) :
    (Instr.slice t (.slice a len cap) none (some (.int .i64 (n : Int))) none).run P w = .ok (.slice a n cap) w := by
  have h0 : (0 : Int) ≤ n := by omega
  have h1 : (n : Int) ≤ cap := by omega
  cases hq : P.info? e with
  | none => simp [hq] at hs
  | some i =>
    have ea : (if cap = 0 then a else a.map fun x => x.add 0) = a := by
      split
      · rfl
      · cases a
        · rfl
        · simp [Addr.add]
    simp [Instr.slice, run_underlying hu, Instr.sliceBounds, Instr.sliceBound, asIntOf, sizeOf, typeInfo, hq, h, Addr.add]
end Go.Proofs.Ytbihnmingedgfaa

/-
Bytes turned into a string.
-/


namespace Go.Proofs.Ytbihnmingedgfaa
open Go.RowKit Go.Shelf
set_option linter.unusedVariables false
set_option linter.unusedSimpArgs false

theorem conv_bytes (l : List Int) (m : Nat) (A : Option Addr) (c : Nat) (w : World) (B : Nat) (hm : l.length = m) (hL : Lies w B 1 A m (Im.u8s l)) :
    (convert 54 9 (.slice A m c)).run Try.prog w = .ok (.string (strOfNums l)) w := by
  cases A with
  | none =>
    have hm0 : m = 0 := by
      by_cases h0 : m = 0
      · exact h0
      · obtain ⟨ad, e, _⟩ := hL.start h0
        cases e
    have hl0 : l = [] := List.eq_nil_of_length_eq_zero (by omega)
    subst hl0
    exact run_convert_bytes_nil (P := Try.prog) (w := w) 54 5 Try.underlying54 Try.underlying5 m c 9 Try.underlying9
  | some ad =>
    have hl : (loadCells ad m).run Try.prog w = .ok (l.map (Value.int .u8)).toArray w := by
      have := run_loadCells_list (P := Try.prog) w ad (l.map (Value.int .u8)) (fun j v hj => hL.cell ad rfl (fun h0 => by
        have := (List.getElem?_eq_some_iff.1 hj).1
        rw [List.length_map] at this
        omega) j v hj)
      simpa [hm] using this
    rw [run_convert_bytes_string w 54 9 5 _ m c Try.underlying54 Try.underlying5 Try.underlying9, run_bytesToString w _ m c l hl, foldl_push_bytes]
    simp [strOfNums, ByteArray.empty, ByteArray.emptyWithCapacity]
    rfl

end Go.Proofs.Ytbihnmingedgfaa

/-
Bytes turned, rows of bytes that are owned.
-/



namespace By
open Go
theorem xor_nat (a b : Nat) (ha : a < 256) (hb : b < 256) : bits .xor .u8 (a : Int) (b : Int) = ((a ^^^ b : Nat) : Int) := by
  have hx : a ^^^ b < 2 ^ 8 := Nat.xor_lt_two_pow (by omega) (by omega)
  show IntKind.u8.wrap ((BitVec.ofInt 8 (a : Int) ^^^ BitVec.ofInt 8 (b : Int)).toNat : Int) = _
  rw [BitVec.toNat_xor, BitVec.toNat_ofInt, BitVec.toNat_ofInt, IntKind.wrap_u8]
  rw [show ((a : Int) % ((2 ^ 8 : Nat) : Int)).toNat = a from by omega, show ((b : Int) % ((2 ^ 8 : Nat) : Int)).toNat = b from by omega]
  omega
theorem xor_turn {x c : Int} (hx : 0 ≤ x ∧ x ≤ 255) (hc : 0 ≤ c ∧ c ≤ 255) : ∃ v : Int, bits .xor .u8 x c = v ∧ (0 ≤ v ∧ v ≤ 255) ∧ (v = x ↔ c = 0) := by
  obtain ⟨a, rfl⟩ := Int.eq_ofNat_of_zero_le hx.1
  obtain ⟨b, rfl⟩ := Int.eq_ofNat_of_zero_le hc.1
  have h := xor_nat a b (by omega) (by omega)
  have hlt : a ^^^ b < 2 ^ 8 := Nat.xor_lt_two_pow (by omega) (by omega)
  refine ⟨_, h, by omega, ⟨fun e => ?_, fun e => ?_⟩⟩
  · have e' : a ^^^ b = a := by exact_mod_cast e
    have e2 : a ^^^ (a ^^^ b) = a ^^^ a := by rw [e']
    rw [← Nat.xor_assoc, Nat.xor_self, Nat.zero_xor] at e2
    omega
  · have : b = 0 := by omega
    subst this
    rw [Nat.xor_zero]
theorem set_bytes {l : List Int} (h : Im.IsBytes l) (k : Nat) {v : Int} (hv : 0 ≤ v ∧ v ≤ 255) : Im.IsBytes (l.set k v) := fun x hx => by
  rcases List.mem_or_eq_of_mem_set hx with hx | rfl
  · exact h x hx
  · exact hv
theorem set_same_iff {l : List Int} {k : Nat} (hk : k < l.length) (v : Int) : l.set k v = l ↔ v = l[k] := by
  constructor
  · intro h
    have := congrArg (fun m => m[k]?) h
    simp [hk] at this
    exact this
  · rintro rfl
    exact List.set_getElem_self hk
end By
namespace Go.Proofs.Ytbihnmingedgfaa
open Go.RowKit Go.Shelf
set_option linter.unusedVariables false
set_option linter.unusedSimpArgs false

theorem u8_size : (Try.prog.info? 5).map (·.size) = some 1 := by kernel_rfl
theorem below_grown {B : Nat} {w0 w w' : World} {row : Option Nat} (h : Below B w0 w) (hg : w.grownBy w' row) (hr : ∀ r, row = some r → B ≤ r) (hB : B ≤ w0.heap.size) : Below B w0 w' :=
  ⟨hg.os.trans h.os, hg.tape.trans h.tape, hg.output.trans h.output, Nat.le_trans h.size hg.size, fun i hi => (hg.block i (Nat.lt_of_lt_of_le hi (Nat.le_trans hB h.size)) (fun e => by have := hr i e.symm; omega)).trans (h.block i hi)⟩
theorem Lies.grown {w w' : World} {B size n : Nat} {A : Option Addr} {xs : List Value} {row : Option Nat} (h : Lies w B size A n xs) (hg : w.grownBy w' row) (hr : ∀ r, row = some r → B ≤ r) (hB : B ≤ w.heap.size) : Lies w' B size A n xs :=
  h.stays fun b hb => hg.block b (Nat.lt_of_lt_of_le hb hB) (fun e => by have := hr b e.symm; omega)

theorem Lies.take1 {w : World} {B n : Nat} {A : Option Addr} {bs : List Int} (h : Lies w B 1 A n (Im.u8s bs)) (k : Nat) (hk : k ≤ n) : Lies w B 1 A k (Im.u8s (bs.take k)) := by
  have hl := h.len
  rw [Im.u8s_len] at hl
  refine ⟨by rw [Im.u8s_len, List.length_take]; omega, fun h0 => h.start (by omega), fun ad e h0 j u hu => h.cell ad e (by omega) j u ?_⟩
  have e1 : Im.u8s (bs.take k) = (Im.u8s bs).take k := by unfold Im.u8s; rw [List.map_take]
  rw [e1, List.getElem?_take] at hu
  split at hu
  · exact hu
  · cases hu
theorem own_box {w : World} {base m c : Nat} {A : Option Addr} {bs : List Int} (h : w.ownsRow base 5 1 (.slice A m c) m (Im.u8s bs)) (hm : m ≠ 0) : ∃ g cur, A = some ⟨g, 0, none⟩ ∧ base ≤ g ∧ m ≤ c ∧ Box w g 5 cur ∧ ∀ (j : Nat) (x : Int), bs[j]? = some x → cur[j]? = some (Value.int .u8 x) := by
  obtain ⟨hl, ⟨_, h0⟩ | ⟨g, cap, cur, hv, hbg, hg, hnc, _, _, htake⟩⟩ := h
  · exact absurd h0 hm
  · injection hv with hA _ hc
    subst hc
    refine ⟨g, cur, hA, hbg, hnc, ⟨hg⟩, fun j x hj => ?_⟩
    have hlt : j < bs.length := (List.getElem?_eq_some_iff.1 hj).1
    have h1 : (Im.u8s bs)[j]? = some (Value.int .u8 x) := by unfold Im.u8s; rw [List.getElem?_map, hj]; rfl
    rw [← htake, List.getElem?_take] at h1
    split at h1
    · simpa using h1
    · cases h1
theorem Box.lies {w : World} {g m : Nat} {cur : Array Value} {bs : List Int} (h : Box w g 5 cur) (hm : bs.length = m) (hc : ∀ (j : Nat) (x : Int), bs[j]? = some x → cur[j]? = some (Value.int .u8 x)) : Lies w w.heap.size 1 (some ⟨g, 0, none⟩) m (Im.u8s bs) := by
  refine ⟨by rw [Im.u8s_len]; omega, fun _ => ⟨_, rfl, h.lt⟩, fun ad e h0 j u hu => ?_⟩
  injection e with e
  subst e
  have hadd : (⟨g, 0, none⟩ : Addr).add j = ⟨g, j, none⟩ := by unfold Addr.add; split <;> simp_all
  unfold Im.u8s at hu
  rw [List.getElem?_map] at hu
  cases hj : bs[j]? with
  | none => rw [hj] at hu; cases hu
  | some x =>
    rw [hj] at hu
    injection hu with hu
    subst hu
    rw [hadd, h.cell j]
    exact hc j x hj
theorem own_ge {w : World} {base : Nat} {e : TypeId} {size n : Nat} {v : Value} {xs : List Value} (h : w.ownsRow base e size v n xs) : ∀ r, v.ownBlock = some r → base ≤ r := fun r hr => by
  obtain ⟨_, ⟨rfl, _⟩ | ⟨g, cap, cur, rfl, hbg, _⟩⟩ := h
  · cases hr
  · have e' : g = r := by injection hr
    omega
theorem Box.over {w w' : World} {g B : Nat} {t : TypeId} {cs : Array Value} {row : Option Nat} (h : Box w g t cs) (hg : w.grownBy w' row) (hr : ∀ r, row = some r → B ≤ r) (hlt : g < B) : Box w' g t cs :=
  h.grown hg (fun e => by have := hr g e; omega)
end Go.Proofs.Ytbihnmingedgfaa

/-
ImageBack: a state comes back from its bytes; cut off, or with a byte behind, or turned.
-/




namespace Go.Proofs.Ytbihnmingedgfaa
open Go.RowKit Go.Shelf
set_option linter.unusedVariables false
set_option linter.unusedSimpArgs false

/-- What is got out of other bytes is another state. -/
theorem Im.other {g y : Gm.G} {r yr : Ros.R} (hok : Im.Ok g r) (hd : 0 ≤ g.dice ∧ g.dice ≤ 18446744073709551615) {t : List Int} (hB : Im.IsBytes t) (h : Im.get t = some (y, yr)) : Im.Like g r y yr ↔ t = Im.put g r := by
  obtain ⟨h1, h2, h3⟩ := Im.get_some hB h
  constructor
  · intro hl; rw [← h3]; exact (Im.put_like hl).symm
  · intro ht
    obtain ⟨g', r', h4, h5⟩ := Im.get_put hok hd
    rw [← ht, h] at h4
    injection h4 with h4
    injection h4 with e1 e2
    subst e1 e2
    exact h5
theorem imget_yes (g : Gm.G) (r : Ros.R) (hok : Im.Ok g r) (hd : 0 ≤ g.dice ∧ g.dice ≤ 18446744073709551615) (A : Option Addr) (n c : Nat) (w : World) (hn : n = (Im.put g r).length) (hc : n ≤ c) (hL : Lies w w.heap.size 1 A n (Im.u8s (Im.put g r))) :
    Calls Try.prog 32 #[.slice A n c] w fun r' w' => ∃ g1 r1 S, Im.Like g r g1 r1 ∧ Im.get (Im.put g r) = some (g1, r1) ∧ r' = .returned (.tuple #[.agg (Im.cells g1 (.slice (some ⟨S, 0, none⟩) g1.shots.length g1.shots.length) r1), .int .i64 0]) ∧ Box w' S 108 (Gm.shotCells g1.shots).toArray ∧ Below w.heap.size w w' := by
  refine (imget_any (Im.put g r) A n c w hn hc (Im.put_bytes g r) hL).mono fun r' w' h => ?_
  obtain ⟨g1, r1, h1, h2⟩ := Im.get_put hok hd
  rcases h with ⟨g2, r2, S, hg, h3⟩ | ⟨hg, _⟩
  · rw [h1] at hg
    injection hg with hg
    injection hg with e1 e2
    subst e1 e2
    exact ⟨g1, r1, S, h2, h1, h3⟩
  · rw [h1] at hg; cases hg
theorem imget_no (z0 : Gm.G) (zr : Ros.R) (hz : Im.zero = Im.cells z0 (.slice none 0 0) zr) (bs : List Int) (hg : Im.get bs = none) (A : Option Addr) (n c : Nat) (w : World) (hn : n = bs.length) (hc : n ≤ c) (hBy : Im.IsBytes bs) (hL : Lies w w.heap.size 1 A n (Im.u8s bs)) :
    Calls Try.prog 32 #[.slice A n c] w fun r w' => r = .returned (.tuple #[.agg (Im.cells z0 (.slice none 0 0) zr), .int .i64 2]) ∧ Below w.heap.size w w' := by
  refine (imget_any bs A n c w hn hc hBy hL).mono fun r w' h => ?_
  rcases h with ⟨g1, r1, S, h1, h3⟩ | ⟨_, h3⟩
  · rw [hg] at h1; cases h1
  · rw [← hz]; exact h3
theorem imget_say (z0 : Gm.G) (zr : Ros.R) (hz : Im.zero = Im.cells z0 (.slice none 0 0) zr) (bs : List Int) (A : Option Addr) (n c : Nat) (w : World) (hn : n = bs.length) (hc : n ≤ c) (hBy : Im.IsBytes bs) (hL : Lies w w.heap.size 1 A n (Im.u8s bs)) :
    Calls Try.prog 32 #[.slice A n c] w fun r' w' => (∃ y yr S2, Im.get bs = some (y, yr) ∧ r' = .returned (.tuple #[.agg (Im.cells y (.slice (some ⟨S2, 0, none⟩) y.shots.length y.shots.length) yr), .int .i64 0]) ∧ Box w' S2 108 (Gm.shotCells y.shots).toArray ∧ Below w.heap.size w w') ∨ (Im.get bs = none ∧ r' = .returned (.tuple #[.agg (Im.cells z0 (.slice none 0 0) zr), .int .i64 2]) ∧ Below w.heap.size w w') := by
  refine (imget_any bs A n c w hn hc hBy hL).mono fun r w' h => ?_
  rcases h with h | h
  · exact .inl h
  · rw [← hz]; exact .inr h

set_option maxRecDepth 100000 in
set_option maxHeartbeats 8000000 in
theorem back7_law (g : Gm.G) (r : Ros.R) (A : Option Addr) (n c : Nat) (at0 cb : Int) (w : World) (hty : Gm.ty g) (hn : n = g.shots.length) (hn63 : n ≤ maxLen) (hr : Lies w w.heap.size 6 A n (Gm.shotCells g.shots)) (hat : -9223372036854775808 ≤ at0 ∧ at0 ≤ 9223372036854775807) (hcb : 0 ≤ cb ∧ cb ≤ 255) :
    Calls Try.prog 6 #[.agg (Im.cells g (.slice A n c) r), .int .i64 at0, .int .u8 cb] w fun e w' => e = .returned (.bool true) ∧ Below w.heap.size w w' := by
  have P0 := Lib.hid (Box.made w 53 (Im.cells g (.slice A n c) r))
  have K0 := Lib.hid (one_below w (.cells (Im.cells g (.slice A n c) r) 53))
  have hr0 := (hr.below K0.out).wider K0.out.size
  have ct := fun X => Lib.hid (told7_any X)
  by_cases hok : Im.Ok g r
  rotate_left
  · have cp := Lib.hid (put_no g r A n c _ hok hty hn hn63 hr0)
    clear hr hr0 hty hok hn
    go_enter Try.func6, Try.ntmps6
    go_wp2_with (first | ((with_reducible refine im_load_state rfl rfl ?_); apply LoadIm.mk rfl; (focus (with_reducible exact P0.out)); dsimp only) | (go_at_call 29; ((with_reducible refine (cp.out).mono ?_); rintro r' w1 ⟨rfl, hb⟩; have K1 := Lib.hid (K0.out.trans (hb.mono K0.out.size)); clear hb)) | (go_at_call 28; ((with_reducible refine ((ct _).out).mono ?_); rintro r' w2 ⟨rfl, hb⟩; have K2 := Lib.hid (K1.out.trans (hb.mono K1.out.size)); clear hb)))
    go_ret
    exact ⟨rfl, K2.out⟩
  have hd := hty.2.1
  obtain ⟨z0, zr, hz⟩ : ∃ z0 zr, Im.zero = Im.cells z0 (.slice none 0 0) zr := ⟨Im.G0, Im.R0, rfl⟩
  have cp := Lib.hid (put_made g r A n c _ hok hd hn hr0)
  have cg0 := fun A' c' X hc hL => Lib.hid (imget_yes g r hok hd A' (Im.put g r).length c' X rfl hc hL)
  have cg1 := fun A' c' X hc hL => Lib.hid (imget_no z0 zr hz (Im.put g r ++ [cb]) (Im.get_app hok hd (by simp)) A' ((Im.put g r).length + 1) c' X (by simp) hc ((Im.put_bytes g r).app fun x hx => by obtain rfl := List.mem_singleton.1 hx; exact hcb) hL)
  have cg2 := fun k (hk : k < (Im.put g r).length) A' c' X hc hL => Lib.hid (imget_no z0 zr hz ((Im.put g r).take k) (Im.get_cut hok hd hk) A' k c' X (by rw [List.length_take]; omega) hc ((Im.put_bytes g r).take k) hL)
  have hle := Im.put_le g r hok.1.2.2.1
  have hoth := fun t y yr (hB : Im.IsBytes t) h => Im.other hok hd (t := t) (y := y) (yr := yr) hB h
  have hyes := Im.get_put hok hd
  have hby := Im.put_bytes g r
  have h4 : 4 ≤ (Im.put g r).length := by
    have e : (Im.put g r).length = 4 + (Im.put g r).length - 4 := by
      unfold Im.put; rw [List.length_append, Im.bytesOf_len]; omega
    unfold Im.put at *; rw [List.length_append, Im.bytesOf_len]; omega
  have H0 := Lib.hid hr
  have HZ := Lib.hid hz
  have HNN := Lib.hid hn
  have N63 := Lib.hid hn63
  generalize Im.put g r = bs at *
  obtain ⟨m, hm⟩ : ∃ m, m = bs.length := ⟨_, rfl⟩
  rw [← hm] at cp cg0 cg1 cg2 hle h4
  have HM := Lib.hid hm
  have HOTH := Lib.hid hoth
  have HYES := Lib.hid hyes
  have HBY := Lib.hid hby
  have HD := Lib.hid hd
  clear hr hr0 hty hok hn63 hm hoth hyes hby hz hn hd
  go_enter Try.func6, Try.ntmps6
  go_upto_region 5 with (first | ((with_reducible refine im_load_state rfl rfl ?_); apply LoadIm.mk rfl; (focus (with_reducible exact P0.out)); dsimp only) | (with_reducible refine alloc_state rfl rfl ?_) | (with_reducible refine state_store_new rfl rfl rfl rfl Im.zero_size rfl ?_) | (go_at_call 29; ((with_reducible refine (cp.out).mono ?_); rintro r' w1 ⟨A1, c1, rfl, hc1, hL1, hb⟩; have P1 := Lib.hid (P0.out.below hb P0.out.lt); have K1 := Lib.hid (K0.out.trans (hb.mono K0.out.size)); have L1 := Lib.hid hL1; have C1 := Lib.hid hc1; have g0 := cg0 A1 c1 _ hc1 hL1; clear hb cp cg0 hc1 hL1)) | (go_at_call 32; ((with_reducible refine (g0.out).mono ?_); rintro r' w2 ⟨g1, r1, S1, hlk, hgt, rfl, hE, hb⟩; have P2 := Lib.hid ((P1.out.below hb P1.out.lt).alloc (.cells (Im.cells g1 (.slice (some ⟨S1, 0, none⟩) g1.shots.length g1.shots.length) r1) 53)); have K2 := Lib.hid ((K1.out.trans (hb.mono K1.out.size)).alloc (Nat.le_trans K1.out.size hb.size) (.cells (Im.cells g1 (.slice (some ⟨S1, 0, none⟩) g1.shots.length g1.shots.length) r1) 53)); have G2 := Lib.hid (Box.made w2 53 (Im.cells g1 (.slice (some ⟨S1, 0, none⟩) g1.shots.length g1.shots.length) r1)); have E2 := Lib.hid (hE.alloc (.cells (Im.cells g1 (.slice (some ⟨S1, 0, none⟩) g1.shots.length g1.shots.length) r1) 53)); have L2 := Lib.hid (((L1.out.below hb).wider hb.size).below (one_below w2 (.cells (Im.cells g1 (.slice (some ⟨S1, 0, none⟩) g1.shots.length g1.shots.length) r1) 53))); have l2 := Nat.lt_of_lt_of_le P1.out.lt hb.size; have s2 := hE.lt; have HLK := Lib.hid hlk; have F1 := Lib.hid (show g1.shots.length ≤ maxLen by (have e4 := hlk.1.2.2.2); rw [← e4, ← HNN.out]; exact N63.out); clear hb g0 hE hgt hlk)))
  generalize hV2 : w2.alloc (.cells (Im.cells g1 (.slice (some ⟨S1, 0, none⟩) g1.shots.length g1.shots.length) r1) 53) = V2 at *
  have VS := Lib.hid (show V2.heap.size = w2.heap.size + 1 by rw [← hV2]; simp)
  obtain ⟨i0, hi0, hz0, hz1, hz2⟩ := u8_parts
  have hI := Lib.hid hi0
  have hZ := Lib.hid hz0
  have hS := Lib.hid hz1
  have hY := Lib.hid hz2
  have own0 := Lib.hid (World.ownsRow_lit (base := V2.heap.size) (e := 5) (size := 1) V2 #[] 0 (Nat.le_refl _) (Nat.zero_le _) rfl)
  have M2 := Lib.hid ((L2.out.below ((one_below V2 (.cells #[] 5)).mono (by have := VS.out; omega))).wider (show w2.heap.size ≤ (V2.alloc (.cells #[] 5)).heap.size by have := VS.out; simp; omega))
  have csm := fun X hX1 hX2 => Lib.hid (show Calls Try.prog 34 #[.agg (Im.cells g (.slice A n c) r), .agg (Im.cells g1 (.slice (some ⟨S1, 0, none⟩) g1.shots.length g1.shots.length) r1)] X fun r' w' => r' = .returned (.bool true) ∧ Below X.heap.size X w' from
    (refsamest_any g g1 r r1 A (some ⟨S1, 0, none⟩) n g1.shots.length c g1.shots.length X HNN.out rfl hX1 hX2 N63.out F1.out).mono fun r' w' ⟨⟨v, h1, h2⟩, h3⟩ => by
      obtain rfl : v = true := h2.2 HLK.out
      exact ⟨h1, h3⟩)
  have hwn : IntKind.i64.wrap ((m : Int) + 1) = m + 1 := by rw [IntKind.wrap_i64]; omega
  have hwm : IntKind.u64.wrap ((m : Int) + 1) = m + 1 := by rw [IntKind.wrap_u64]; omega
  have u0 : 0 ≤ IntKind.u64.wrap at0 := by rw [IntKind.wrap_u64]; omega
  have u1 : IntKind.u64.wrap at0 ≤ 18446744073709551615 := by rw [IntKind.wrap_u64]; omega
  clear hi0 hz0 hz1 hz2 hV2
  go_upto_region 6 with fail
  obtain ⟨kk, hkk, hkm⟩ : ∃ kk : Nat, RowKit.wrap64 (IntKind.u64.wrap at0 % ((m : Int) + 1)) = kk ∧ kk < m + 1 := by
    have h0 : 0 ≤ IntKind.u64.wrap at0 % ((m : Int) + 1) := Int.emod_nonneg _ (by omega)
    have h1 : IntKind.u64.wrap at0 % ((m : Int) + 1) < m + 1 := Int.emod_lt_of_pos _ (by omega)
    refine ⟨(IntKind.u64.wrap at0 % ((m : Int) + 1)).toNat, ?_, by omega⟩
    rw [IntWalk.wrap64_in _ (by omega)]; omega
  rw [hkk]
  clear hkk hwn hwm u0 u1
  go_upto_region 7 with (first | ((with_reducible refine append_gate (x := .tmp 43) (y := .tmp 44) (t := 54) (e := 5) (size := 1) (bytes := 1) rfl rfl Try.underlying54 hI.out hZ.out hS.out hY.out rfl (by decide) ?_); refine Appends.mk (base := V2.heap.size) (n := 0) (xs := []) rfl own0.out M2.out (Im.u8s_one _) (by unfold maxLen; omega) (by have := VS.out; omega) (by simp) ?_; intro A3 c3 w3 own3 hg3; simp only [Nat.zero_add, List.nil_append] at own3 ⊢; have OW3 := Lib.hid own3; have P3 := Lib.hid ((P2.out.alloc _).over hg3 (B := V2.heap.size) (own_ge own0.out) (by have := VS.out; omega)); have G3 := Lib.hid ((G2.out.alloc _).over hg3 (B := V2.heap.size) (own_ge own0.out) (by have := VS.out; omega)); have E3 := Lib.hid ((E2.out.alloc _).over hg3 (B := V2.heap.size) (own_ge own0.out) (by have := VS.out; omega)); have L3 := Lib.hid ((L2.out.below ((one_below V2 (.cells #[] 5)).mono (by have := VS.out; omega))).grown hg3 (fun r hr => Nat.le_trans (by have := VS.out; omega) (own_ge own0.out r hr)) (by have := VS.out; simp; omega)); have K3 := Lib.hid (below_grown (K2.out.alloc K2.out.size _) hg3 (fun r hr => Nat.le_trans (by have := VS.out; omega) (own_ge own0.out r hr)) (Nat.le_refl _)); have sz3 : V2.heap.size ≤ w3.heap.size := Nat.le_trans (by simp) hg3.size; clear own3 hg3) | ((with_reducible refine append_gate (x := .tmp 45) (y := .tmp 47) (t := 54) (e := 5) (size := 1) (bytes := 1) rfl rfl Try.underlying54 hI.out hZ.out hS.out hY.out rfl (by decide) ?_); refine Appends.mk (base := V2.heap.size) (n := m) (xs := Im.u8s bs) (m := 1) (news := Im.u8s [cb]) rfl (OW3.out.alloc _) (lies_byte w3 cb) (Im.u8s_one _) (by unfold maxLen; omega) (by have := VS.out; omega) (by have := VS.out; simp; omega) ?_; intro A4 c4 w4 own4 hg4; rw [← Im.u8s_append] at own4; have P4 := Lib.hid ((P3.out.alloc _).over hg4 (B := V2.heap.size) (own_ge OW3.out) (by have := VS.out; omega)); have G4 := Lib.hid ((G3.out.alloc _).over hg4 (B := V2.heap.size) (own_ge OW3.out) (by have := VS.out; omega)); have E4 := Lib.hid ((E3.out.alloc _).over hg4 (B := V2.heap.size) (own_ge OW3.out) (by have := VS.out; omega)); have L4 := Lib.hid ((L3.out.below ((one_below w3 _).mono (by have := VS.out; omega))).grown hg4 (fun r hr => Nat.le_trans (by have := VS.out; omega) (own_ge OW3.out r hr)) (by have := VS.out; simp; omega)); have K4 := Lib.hid (below_grown (K3.out.alloc K3.out.size _) hg4 (fun r hr => Nat.le_trans (by have := VS.out; omega) (own_ge OW3.out r hr)) (Nat.le_refl _)); have sz4 : w3.heap.size ≤ w4.heap.size := Nat.le_trans (by simp) hg4.size; have g4 := cg1 A4 c4 w4 (own_cap own4) (Lies.owned own4); clear own4 hg4) | (with_reducible refine alloc_state rfl rfl ?_) | (with_reducible refine state_store_new rfl rfl rfl rfl Im.zero_size rfl ?_) | (go_at_call 32; ((with_reducible refine (g4.out).mono ?_); rintro r' w5 ⟨rfl, hb⟩; have P5 := Lib.hid ((P4.out.below hb P4.out.lt).alloc (.cells (Im.cells z0 (.slice none 0 0) zr) 53)); have K5 := Lib.hid ((K4.out.trans (hb.mono K4.out.size)).alloc (Nat.le_trans K4.out.size hb.size) (.cells (Im.cells z0 (.slice none 0 0) zr) 53)); have G5 := Lib.hid ((G4.out.below hb G4.out.lt).alloc (.cells (Im.cells z0 (.slice none 0 0) zr) 53)); have E5 := Lib.hid ((E4.out.below hb E4.out.lt).alloc (.cells (Im.cells z0 (.slice none 0 0) zr) 53)); have L5 := Lib.hid (L4.out.below ((hb.mono (by have := VS.out; omega)).trans ((one_below w5 (.cells (Im.cells z0 (.slice none 0 0) zr) 53)).mono (Nat.le_trans (by have := VS.out; omega) hb.size)))); have sz5 := hb.size; clear hb g4)))
  have c5 := csm _ ((H0.out.below K5.out).wider K5.out.size) (lies_boxed E5.out (Gm.shotCells_len _))
  go_upto_region 9 with (first | ((with_reducible refine im_load_state_g ?_ rfl ?_); (focus first | rfl | kernel_rfl | simp [Region.wanted, yielded]); apply LoadIm.mk rfl; (focus first | (with_reducible exact G5.out) | (with_reducible exact P5.out)); dsimp only) | (go_at_call 34; ((with_reducible refine (c5.out).mono ?_); rintro r' w6 ⟨rfl, hb⟩; have P6 := Lib.hid (P5.out.below hb P5.out.lt); have K6 := Lib.hid (K5.out.trans (hb.mono K5.out.size)); have sz6 := hb.size; have L6 := Lib.hid (L5.out.below (hb.mono (by have := VS.out; simp at sz5 ⊢; omega))); clear hb c5)))
  by_cases hkq : kk = m
  · subst hkq
    clear hkm
    go_wp2_with (go_at_call 28; ((with_reducible refine ((ct _).out).mono ?_); rintro r' w7 ⟨rfl, hb⟩; have K7 := Lib.hid (K6.out.trans (hb.mono K6.out.size)); clear hb))
    go_ret
    exact ⟨rfl, K7.out⟩
  have hkm2 : kk < m := by omega
  have hkne : ((kk : Int) == (m : Int)) = false := by simp; omega
  have hsl := fun W => run_slice_to (P := Try.prog) (t := 54) A1 m c1 kk Try.underlying54 u8_size (by have := C1.out; omega) W
  have g6 := cg2 kk hkm2 A1 c1 w6 (by have := C1.out; omega) ((L6.out.take1 kk (by omega)).wider (by have := VS.out; simp at sz6 sz5 ⊢; omega))
  have hkl : kk < bs.length := by have := HM.out; omega
  have hbk := HBY.out bs[kk] (List.getElem_mem hkl)
  have hset := fun v => By.set_same_iff hkl v
  have hat' : bs[kk]? = some bs[kk] := List.getElem?_eq_getElem hkl
  generalize bs[kk] = xk at hbk hset hat'
  obtain ⟨v, hxor, hv, hvc⟩ := By.xor_turn hbk hcb
  have HVC := Lib.hid ((hset v).trans hvc)
  have HAT := Lib.hid hat'
  have HTB := Lib.hid (By.set_bytes HBY.out kk hv)
  have HTL := Lib.hid (show (bs.set kk v).length = m by rw [List.length_set]; exact HM.out.symm)
  clear hvc hset hat' hbk hkq hkm
  go_upto_region 12 with (first | (with_reducible refine alloc_state rfl rfl ?_) | (with_reducible refine state_store_new rfl rfl rfl rfl Im.zero_size rfl ?_) | (go_at_call 32; ((with_reducible refine (g6.out).mono ?_); rintro r' w7 ⟨rfl, hb⟩; have P7 := Lib.hid ((P6.out.below hb P6.out.lt).alloc (.cells (Im.cells z0 (.slice none 0 0) zr) 53)); have K7 := Lib.hid ((K6.out.trans (hb.mono K6.out.size)).alloc (Nat.le_trans K6.out.size hb.size) (.cells (Im.cells z0 (.slice none 0 0) zr) 53)); have sz7 := hb.size; have L7 := Lib.hid ((L6.out.below (hb.mono (by have := VS.out; simp at sz6 sz5 ⊢; omega))).below ((one_below w7 (.cells (Im.cells z0 (.slice none 0 0) zr) 53)).mono (by have := VS.out; simp at sz6 sz5 ⊢; omega))); clear hb g6)))
  generalize hV7 : w7.alloc (.cells (Im.cells z0 (.slice none 0 0) zr) 53) = V7 at *
  have VS7 := Lib.hid (show V7.heap.size = w7.heap.size + 1 by rw [← hV7]; simp)
  have own7 := Lib.hid (World.ownsRow_lit (base := V7.heap.size) (e := 5) (size := 1) V7 #[] 0 (Nat.le_refl _) (Nat.zero_le _) rfl)
  have BIG := Lib.hid (show w2.heap.size ≤ V7.heap.size by have := VS.out; have := VS7.out; simp at sz6; omega)
  have M7 := Lib.hid ((L7.out.below ((one_below V7 (.cells #[] 5)).mono BIG.out)).wider (show w2.heap.size ≤ (V7.alloc (.cells #[] 5)).heap.size by have := BIG.out; simp; omega))
  clear hV7
  go_upto_region 14 with ((with_reducible refine append_gate (x := .tmp 76) (y := .tmp 77) (t := 54) (e := 5) (size := 1) (bytes := 1) rfl rfl Try.underlying54 hI.out hZ.out hS.out hY.out rfl (by decide) ?_); refine Appends.mk (base := V7.heap.size) (n := 0) (xs := []) rfl own7.out M7.out (Im.u8s_one _) (by unfold maxLen; omega) (by omega) (by simp) ?_; intro A8 c8 w8 own8 hg8; simp only [Nat.zero_add, List.nil_append] at own8 ⊢; have P8 := Lib.hid ((P7.out.alloc _).over hg8 (B := V7.heap.size) (own_ge own7.out) (by have := BIG.out; omega)); have K8 := Lib.hid (below_grown (K7.out.alloc K7.out.size _) hg8 (fun r hr => Nat.le_trans (by have := BIG.out; omega) (own_ge own7.out r hr)) (Nat.le_refl _)); obtain ⟨gg, cur, hA8, hgb, hmc, hB8, hcur⟩ := own_box own8 (by omega); subst hA8; have T8 := Lib.hid hB8; have HCUR := Lib.hid hcur; have t8 := (hB8.cell kk).trans (hcur kk _ HAT.out); have f8 := hB8.free kk; clear own8 hg8 hB8 hcur)
  have hgw : w.heap.size < gg := by have := BIG.out; omega
  have P9 := Lib.hid (P8.out.far (p := ⟨gg, kk, none⟩) (show w.heap.size ≠ gg by omega) (.int .u8 v))
  have K9 := Lib.hid (K8.out.setCell (p := ⟨gg, kk, none⟩) (show w.heap.size ≤ gg by omega) (.int .u8 v))
  have T9 := Lib.hid (T8.out.put kk (.int .u8 v))
  have HC9 := Lib.hid (show ∀ (j : Nat) (x : Int), (bs.set kk v)[j]? = some x → (cur.setIfInBounds kk (.int .u8 v))[j]? = some (Value.int .u8 x) from fun j x hj => by
    by_cases e : kk = j
    · subst e
      have hlt : kk < cur.size := (Array.getElem?_eq_some_iff.1 (HCUR.out kk _ HAT.out)).1
      rw [List.getElem?_set_self (by have := HM.out; omega)] at hj
      injection hj with hj
      subst hj
      rw [Array.getElem?_setIfInBounds_self, if_pos hlt]
    · rw [List.getElem?_set_ne e] at hj
      rw [Array.getElem?_setIfInBounds_ne e]
      exact HCUR.out j x hj)
  have g9 := Lib.hid (imget_say z0 zr HZ.out (bs.set kk v) (some ⟨gg, 0, none⟩) m c8 _ HTL.out.symm hmc HTB.out (T9.out.lies HTL.out HC9.out))
  clear t8 f8 P8 K8 T8 HCUR
  generalize hW9 : w8.setCell ⟨gg, kk, none⟩ (.int .u8 v) = W9 at *
  clear hW9
  go_upto_region 15 with (first | (with_reducible refine alloc_state rfl rfl ?_) | (with_reducible refine state_store_new rfl rfl rfl rfl Im.zero_size rfl ?_) | (go_at_call 32; ((with_reducible refine (g9.out).mono ?_); rintro r' w10 (⟨y, yr, S2, hgt, rfl, hE, hb⟩ | ⟨hgt, rfl, hb⟩); (all_goals first | (have G10 := Lib.hid (Box.made w10 53 (Im.cells y (.slice (some ⟨S2, 0, none⟩) y.shots.length y.shots.length) yr)); have E10 := Lib.hid (hE.alloc (.cells (Im.cells y (.slice (some ⟨S2, 0, none⟩) y.shots.length y.shots.length) yr) 53)); have P10 := Lib.hid ((P9.out.below hb P9.out.lt).alloc (.cells (Im.cells y (.slice (some ⟨S2, 0, none⟩) y.shots.length y.shots.length) yr) 53)); have T10 := Lib.hid ((T9.out.below hb T9.out.lt).alloc (.cells (Im.cells y (.slice (some ⟨S2, 0, none⟩) y.shots.length y.shots.length) yr) 53)); have K10 := Lib.hid ((K9.out.trans (hb.mono K9.out.size)).alloc (Nat.le_trans K9.out.size hb.size) (.cells (Im.cells y (.slice (some ⟨S2, 0, none⟩) y.shots.length y.shots.length) yr) 53)); have HG := Lib.hid hgt; clear hb hE hgt g9) | (have K10 := Lib.hid ((K9.out.trans (hb.mono K9.out.size)).alloc (Nat.le_trans K9.out.size hb.size) (.cells (Im.cells z0 (.slice none 0 0) zr) 53)); have HG := Lib.hid hgt; clear hb hgt g9)))))
  · obtain ⟨yok, yty, yput⟩ := Im.get_some HTB.out HG.out
    have yf := yok.1.2.2.1
    have hlk := (HOTH.out (bs.set kk v) y yr HTB.out HG.out).trans HVC.out
    have cp2 := fun X hX => Lib.hid (put_made y yr (some ⟨S2, 0, none⟩) y.shots.length y.shots.length X yok yty.2.1 rfl hX)
    rw [yput, HTL.out] at cp2
    have csm2 := fun X h1 h2 => Lib.hid (refsamest_any g y r yr A (some ⟨S2, 0, none⟩) n y.shots.length c y.shots.length X HNN.out rfl h1 h2 N63.out (by unfold maxLen; omega))
    have hcv := Lib.hid (fun A' c' X B hL => conv_bytes (bs.set kk v) m A' c' X B HTL.out hL)
    have c10 := cp2 _ (lies_boxed E10.out (Gm.shotCells_len _))
    have HLK2 := Lib.hid hlk
    clear cp2 yok yty yput hlk cg1 cg2 csm own7 M7 P9 K9 T9 P7 K7 L7 hxor
    go_upto_region 20 with (first | ((with_reducible refine im_load_state rfl rfl ?_); apply LoadIm.mk rfl; (focus (with_reducible exact G10.out)); dsimp only) | (go_at_call 29; ((with_reducible refine (c10.out).mono ?_); rintro r' w11 ⟨A11, c11, rfl, _, hL11, hb⟩; have L11 := Lib.hid hL11; have G11 := Lib.hid (G10.out.below hb G10.out.lt); have P11 := Lib.hid (P10.out.below hb P10.out.lt); have T11 := Lib.hid (T10.out.below hb T10.out.lt); have E11 := Lib.hid (E10.out.below hb E10.out.lt); have K11 := Lib.hid (K10.out.trans (hb.mono K10.out.size)); clear hb hL11 c10)))
    by_cases hzc : cb = 0
    · have hlb := Lib.hid (HLK2.out.2 hzc)
      subst hzc
      go_wp2_with (first | (go_at_call 28; ((with_reducible refine ((ct _).out).mono ?_); rintro r' w12 ⟨rfl, hb⟩; have v1 := hcv.out A11 c11 w12 _ (L11.out.below hb); have T12 := T11.out.below hb T11.out.lt; have v2 := hcv.out (some ⟨gg, 0, none⟩) c8 w12 _ (T12.lies HTL.out HC9.out); have G12 := Lib.hid (G11.out.below hb G11.out.lt); have P12 := Lib.hid (P11.out.below hb P11.out.lt); have E12 := Lib.hid (E11.out.below hb E11.out.lt); have K12 := Lib.hid (K11.out.trans (hb.mono K11.out.size)); have s12 := csm2 w12 ((H0.out.below K12.out).wider K12.out.size) (lies_boxed E12.out (Gm.shotCells_len _)); clear hb T12)) | ((with_reducible refine im_load_state_g ?_ rfl ?_); (focus first | rfl | kernel_rfl | simp [Region.wanted, yielded]); apply LoadIm.mk rfl; (focus first | (with_reducible exact G12.out) | (with_reducible exact P12.out)); dsimp only) | (go_at_call 34; ((with_reducible refine (s12.out).mono ?_); rintro r' w13 ⟨⟨vv, rfl, hvv⟩, hb⟩; obtain rfl : vv = true := hvv.2 hlb.out; have K13 := Lib.hid (K12.out.trans (hb.mono K12.out.size)); clear hb hvv)))
      go_ret
      exact ⟨rfl, K13.out⟩
    · have hlb := Lib.hid (show ¬ Im.Like g r y yr from fun h => hzc (HLK2.out.1 h))
      have hcz : (cb == 0) = false := by simpa using hzc
      clear hzc
      go_wp2_with (first | (go_at_call 28; ((with_reducible refine ((ct _).out).mono ?_); rintro r' w12 ⟨rfl, hb⟩; have v1 := hcv.out A11 c11 w12 _ (L11.out.below hb); have T12 := T11.out.below hb T11.out.lt; have v2 := hcv.out (some ⟨gg, 0, none⟩) c8 w12 _ (T12.lies HTL.out HC9.out); have G12 := Lib.hid (G11.out.below hb G11.out.lt); have P12 := Lib.hid (P11.out.below hb P11.out.lt); have E12 := Lib.hid (E11.out.below hb E11.out.lt); have K12 := Lib.hid (K11.out.trans (hb.mono K11.out.size)); have s12 := csm2 w12 ((H0.out.below K12.out).wider K12.out.size) (lies_boxed E12.out (Gm.shotCells_len _)); clear hb T12)) | ((with_reducible refine im_load_state_g ?_ rfl ?_); (focus first | rfl | kernel_rfl | simp [Region.wanted, yielded]); apply LoadIm.mk rfl; (focus first | (with_reducible exact G12.out) | (with_reducible exact P12.out)); dsimp only) | (go_at_call 34; ((with_reducible refine (s12.out).mono ?_); rintro r' w13 ⟨⟨vv, rfl, hvv⟩, hb⟩; obtain rfl : vv = false := (by cases vv <;> first | rfl | exact absurd (hvv.1 rfl) hlb.out); have K13 := Lib.hid (K12.out.trans (hb.mono K12.out.size)); clear hb hvv)))
      go_ret
      exact ⟨rfl, K13.out⟩
  · have hcne : (cb != 0) = true := by
      have hne : cb ≠ 0 := fun e => by
        obtain ⟨g', r', h1, _⟩ := HYES.out
        have := HG.out
        rw [HVC.out.2 e, h1] at this
        cases this
      simpa using hne
    go_wp2_with (go_at_call 28; ((with_reducible refine ((ct _).out).mono ?_); rintro r' w11 ⟨rfl, hb⟩; have K11 := Lib.hid (K10.out.trans (hb.mono K10.out.size)); clear hb))
    go_ret
    exact ⟨rfl, K11.out⟩
end Go.Proofs.Ytbihnmingedgfaa

/-
What a literal's fitting its kind says of the number; a field of an integer kind read as data.
-/



namespace Bd
open Go
theorem i8 {a : Int} (h : (Lit.int .i8 a).wf = true) : -128 ≤ a ∧ a ≤ 127 := by
  simpa [Lit.wf, IntKind.min, IntKind.max, IntKind.signed, IntKind.bits] using h
theorem i16 {a : Int} (h : (Lit.int .i16 a).wf = true) : -32768 ≤ a ∧ a ≤ 32767 := by
  simpa [Lit.wf, IntKind.min, IntKind.max, IntKind.signed, IntKind.bits] using h
theorem i32 {a : Int} (h : (Lit.int .i32 a).wf = true) : -2147483648 ≤ a ∧ a ≤ 2147483647 := by
  simpa [Lit.wf, IntKind.min, IntKind.max, IntKind.signed, IntKind.bits] using h
theorem i64 {a : Int} (h : (Lit.int .i64 a).wf = true) : -9223372036854775808 ≤ a ∧ a ≤ 9223372036854775807 := by
  simpa [Lit.wf, IntKind.min, IntKind.max, IntKind.signed, IntKind.bits] using h
theorem u8 {a : Int} (h : (Lit.int .u8 a).wf = true) : 0 ≤ a ∧ a ≤ 255 := by
  simpa [Lit.wf, IntKind.min, IntKind.max, IntKind.signed, IntKind.bits] using h
theorem u16 {a : Int} (h : (Lit.int .u16 a).wf = true) : 0 ≤ a ∧ a ≤ 65535 := by
  simpa [Lit.wf, IntKind.min, IntKind.max, IntKind.signed, IntKind.bits] using h
theorem u32 {a : Int} (h : (Lit.int .u32 a).wf = true) : 0 ≤ a ∧ a ≤ 4294967295 := by
  simpa [Lit.wf, IntKind.min, IntKind.max, IntKind.signed, IntKind.bits] using h
theorem u64 {a : Int} (h : (Lit.int .u64 a).wf = true) : 0 ≤ a ∧ a ≤ 18446744073709551615 := by
  simpa [Lit.wf, IntKind.min, IntKind.max, IntKind.signed, IntKind.bits] using h
theorem f64 {b : Nat} (h : (Lit.float .f64 b).wf = true) : b < 2 ^ 64 := by
  simpa [Lit.wf] using h
theorem fld {H : Type} {enc : TypeId × Value → H} {P : Program} {w : World} {base : Nat} {spare : Nat → Bool} {held : Bool} {t : TypeId} {k : IntKind} {n : Int} (ht : P.underlying t = some (.int k)) (hw : (Lit.int k n).wf = true) :
    ∃ m, DataW.trod enc P w base spare held m t [.int k n] = some (.lit (.int k n), []) := ⟨1, by simp [DataW.trod, ht, hw]⟩
end Bd

/-
What came in, opened: a list of whatever lies in so many cells each.
-/








namespace Go.Proofs.Ytbihnmingedgfaa
open Go.ChangeShapes Go.WideShapes Go.ChangeAt Go.RowKit Go.Joins Go.ChangeMaps Go.Deep
set_option linter.unusedVariables false

theorem cells?_cell' {w : World} {base : Nat} {a : Addr} {n : Nat} {cs : List Value} (h : w.cells? base a n = some cs) : cs.length = n ∧ ∀ j, j < n → w.cell? (a.add j) = cs[j]? := by
  unfold World.cells? at h
  split at h
  · have hl := mapM_some_length h
    refine ⟨by simpa using hl, fun j hj => ?_⟩
    have := mapM_some_get h j j (by simp [hj])
    rw [this]
  · cases h
theorem cells_one_of' {v x : Value} (h : ∀ cs, v ≠ .agg cs) (hv : v.cells.toList = [x]) : v = x := by
  cases v <;> first | exact absurd rfl (h _) | simpa [Value.cells] using hv
section
variable {α : Type} {cells : α → List Value} {c : Nat}
theorem flat_len (hc : ∀ a, (cells a).length = c) (l : List α) : (l.flatMap cells).length = l.length * c := by
  induction l with
  | nil => simp
  | cons s l ih => rw [List.flatMap_cons, List.length_append, ih, List.length_cons, hc, Nat.succ_mul]; omega
theorem flat_at (hc : ∀ a, (cells a).length = c) (l : List α) (k j : Nat) (hk : k < l.length) (hj : j < c) : (l.flatMap cells)[k * c + j]? = (cells l[k])[j]? := by
  induction l generalizing k with
  | nil => simp at hk
  | cons s l ih =>
    rw [List.flatMap_cons]
    match k with
    | 0 => rw [List.getElem?_append_left (by rw [hc]; omega)]; simp
    | k + 1 =>
      rw [List.getElem?_append_right (by rw [hc, Nat.succ_mul]; omega)]
      have := ih k (by simpa using hk)
      rw [show (k + 1) * c + j - (cells s).length = k * c + j from by rw [hc, Nat.succ_mul]; omega, this]
      simp
end
section
variable {H : Type} {enc : TypeId × Value → H} {w : World} {base : Nat} {spare : Nat → Bool} {held : Bool}
set_option maxRecDepth 100000 in
theorem open_slice_c {α : Type} {t e : TypeId} (cells : α → List Value) (c : Nat) (ty : α → Prop) (z : α) (hu : Try.prog.underlying t = some (.slice e)) (hce : Try.prog.cellsOf e = c) (hc0 : 0 < c) (hlen : ∀ a, (cells a).length = c)
    (hel : ∀ {base : Nat} {spare : Nat → Bool} {held : Bool} {fuel : Nat} {l : List Value} {y : DataW H × List MemPlace}, l.length = c → DataW.trod enc Try.prog w base spare held fuel e l = some y → ∃ q : α, l = cells q ∧ ty q)
    {v : Value} {d : DataW H} {p : List MemPlace} (hag : ∀ cs, v ≠ .agg cs) (h : DataW.Trod enc Try.prog w base spare held t v d p) : ∃ (A : Option Addr) (cc : Nat) (l : List α), v = .slice A l.length cc ∧ (∀ x ∈ l, ty x) ∧ l.length ≤ maxLen ∧ Lies w w.heap.size c A l.length (l.flatMap cells) ∧ l.length ≤ cc := by
  obtain ⟨fuel, hf⟩ := h
  rcases DataW.trod_slice hu hf with ⟨hv, _⟩ | ⟨a, len, cap, elems, rest, n, rfl, hv, _, _, hlc, hcm, hlen', hel', _, _⟩
  · have ev : v = .slice none 0 0 := cells_one_of' hag hv
    exact ⟨none, 0, [], ev, fun x hx => (by cases hx), Nat.zero_le _, Lies.empty, Nat.le_refl _⟩
  · have ev : v = .slice (some a) len cap := cells_one_of' hag hv
    simp only [hce] at hel'
    have key : ∀ i, i < len → ∃ q : α, w.cells? base (a.add (i * c)) c = some (cells q) ∧ ty q := by
      intro i hi
      obtain ⟨y, hy⟩ : ∃ y, elems[i]? = some y := ⟨elems[i]'(by omega), List.getElem?_eq_getElem (by omega)⟩
      have h := hel' i hi
      rw [hy, Option.bind_eq_some_iff] at h
      obtain ⟨cs, hcs, ht⟩ := h
      have hl := (cells?_cell' hcs).1
      obtain ⟨q, h1, h2⟩ := hel hl ht
      exact ⟨q, by rw [hcs, h1], h2⟩
    have hch : ∃ ps : Nat → α, ∀ i, i < len → (w.cells? base (a.add (i * c)) c = some (cells (ps i)) ∧ ty (ps i)) :=
      ⟨fun i => if h : i < len then (key i h).choose else z, fun i hi => by dsimp only; rw [dif_pos hi]; exact (key i hi).choose_spec⟩
    obtain ⟨ps, hps⟩ := hch
    have ll : ((List.range len).map ps).length = len := by simp
    have lf : (((List.range len).map ps).flatMap cells).length = len * c := by rw [flat_len hlen, ll]
    refine ⟨some a, cap, (List.range len).map ps, by rw [ll]; exact ev, fun x hx => ?_, by rw [ll]; omega, ⟨?_, fun h0 => ?_, fun ad e h0 j u hu => ?_⟩, by rw [ll]; exact hlc⟩
    · obtain ⟨i, hi, rfl⟩ := List.mem_map.1 hx
      exact (hps i (by simpa using hi)).2
    · rw [lf, ll]
    · rw [ll] at h0
      exact ⟨a, rfl, by have := World.cells?_block (hps 0 (by omega)).1 hc0; simpa [Addr.add] using this⟩
    · injection e with e
      subst e
      have hjl : j < len * c := by have := (List.getElem?_eq_some_iff.1 hu).1; rwa [lf] at this
      have hjc : j / c < len := (Nat.div_lt_iff_lt_mul hc0).2 hjl
      have hjm : j % c < c := Nat.mod_lt _ hc0
      have hjj : j / c * c + j % c = j := by rw [Nat.mul_comm]; exact Nat.div_add_mod j c
      have hq := (cells?_cell' (hps (j / c) hjc).1).2 (j % c) hjm
      rw [add_twice, hjj] at hq
      rw [hq, ← hu]
      have := flat_at hlen ((List.range len).map ps) (j / c) (j % c) (by rw [ll]; exact hjc) hjm
      rw [hjj] at this
      rw [this]
      simp
/-- A list of whole numbers. -/
theorem open_slice {α : Type} {t e : TypeId} (cells : α → List Value) (c : Nat) (ty : α → Prop) (z : α) (hu : Try.prog.underlying t = some (.slice e)) (hce : Try.prog.cellsOf e = c) (hc0 : 0 < c) (hlen : ∀ a, (cells a).length = c)
    (hel : ∀ {base : Nat} {spare : Nat → Bool} {held : Bool} {fuel : Nat} {l : List Value} {y : DataW H × List MemPlace}, l.length = c → DataW.trod enc Try.prog w base spare held fuel e l = some y → ∃ q : α, l = cells q ∧ ty q)
    {v : Value} {d : DataW H} {p : List MemPlace} (hag : ∀ cs, v ≠ .agg cs) (h : DataW.Trod enc Try.prog w base spare held t v d p) : ∃ (A : Option Addr) (cc : Nat) (l : List α), v = .slice A l.length cc ∧ (∀ x ∈ l, ty x) ∧ l.length ≤ maxLen ∧ Lies w w.heap.size c A l.length (l.flatMap cells) := by
  obtain ⟨A, cc, l, h1, h2, h3, h4, _⟩ := open_slice_c cells c ty z hu hce hc0 hlen hel hag h
  exact ⟨A, cc, l, h1, h2, h3, h4⟩

theorem open_list {t e : TypeId} {k : IntKind} (hu : Try.prog.underlying t = some (.slice e)) (he : Try.prog.underlying e = some (.int k)) (hce : Try.prog.cellsOf e = 1) {v : Value} {d : DataW H} {p : List MemPlace} (hag : ∀ cs, v ≠ .agg cs) (h : DataW.Trod enc Try.prog w base spare held t v d p) :
    ∃ (A : Option Addr) (cc : Nat) (l : List Int), v = .slice A l.length cc ∧ (∀ x ∈ l, (Lit.int k x).wf = true) ∧ l.length ≤ maxLen ∧ Lies w w.heap.size 1 A l.length (l.flatMap fun x => [.int k x]) :=
  open_slice (fun x : Int => [Value.int k x]) 1 (fun x => (Lit.int k x).wf = true) 0 hu hce (by decide) (fun _ => rfl) (fun hl ht => by
    obtain ⟨x, e, _, w⟩ := DataW.trod_int he ht
    exact ⟨x, e, w⟩) hag h
end
end Go.Proofs.Ytbihnmingedgfaa

/-
A roster that came in: opened.
-/



namespace Go.Proofs.Ytbihnmingedgfaa
open Go.ChangeShapes Go.WideShapes Go.ChangeAt Go.RowKit Go.Joins Go.ChangeMaps Go.Deep
set_option linter.unusedVariables false

def Ros.ty (r : Ros.R) : Prop := (-9223372036854775808 ≤ r.version ∧ r.version ≤ 9223372036854775807) ∧ ∀ k, k < 8 → (-9223372036854775808 ≤ r.peer k ∧ r.peer k ≤ 9223372036854775807) ∧ (-9223372036854775808 ≤ r.gen k ∧ r.gen k ≤ 9223372036854775807)
theorem cut16 {α : Type} (l : List α) (h : l.length = 16) : l = (l.drop (0 * 2)).take 2 ++ ((l.drop (1 * 2)).take 2 ++ ((l.drop (2 * 2)).take 2 ++ ((l.drop (3 * 2)).take 2 ++ ((l.drop (4 * 2)).take 2 ++ ((l.drop (5 * 2)).take 2 ++ ((l.drop (6 * 2)).take 2 ++ ((l.drop (7 * 2)).take 2))))))) := by
  match l, h with
  | [a0, a1, a2, a3, a4, a5, a6, a7, a8, a9, a10, a11, a12, a13, a14, a15], _ => rfl
section
variable {H : Type} {enc : TypeId × Value → H} {w : World} {base : Nat} {spare : Nat → Bool} {held : Bool}
theorem trod_seat {fuel : Nat} {a b : Value} {y : DataW H × List MemPlace} (h : DataW.trod enc Try.prog w base spare held fuel 48 [a, b] = some y) : ∃ p g : Int, [a, b] = [.int .i64 p, .int .i64 g] ∧ ((-9223372036854775808 ≤ p ∧ p ≤ 9223372036854775807) ∧ (-9223372036854775808 ≤ g ∧ g ≤ 9223372036854775807)) ∧ y.2 = [] := by
  obtain ⟨y0, y1, n, hx, _, h0, h1⟩ := trod_struct2 Try.underlying48 h
  obtain ⟨x0, e0, rfl, w0⟩ := DataW.trod_int Try.underlying3 h0
  obtain ⟨x1, e1, rfl, w1⟩ := DataW.trod_int Try.underlying3 h1
  have c8 : Try.prog.cellsOf 3 = 1 := by kernel_rfl
  simp [c8] at e0 e1
  subst e0 e1
  exact ⟨x0, x1, rfl, ⟨Bd.i64 w0, Bd.i64 w1⟩, by rw [hx]; rfl⟩
set_option maxRecDepth 100000 in
theorem trod_seats {fuel : Nat} {l : List Value} {y : DataW H × List MemPlace} (hl : l.length = 16) (h : DataW.trod enc Try.prog w base spare held fuel 49 l = some y) :
    ∃ f g : Nat → Int, (∀ v, l = Ros.seatCells ⟨v, f, g⟩) ∧ (∀ k, k < 8 → (-9223372036854775808 ≤ f k ∧ f k ≤ 9223372036854775807) ∧ (-9223372036854775808 ≤ g k ∧ g k ≤ 9223372036854775807)) ∧ y.2 = [] := by
  obtain ⟨xs, m, rfl, hx, _, hn, he⟩ := DataW.trod_array Try.underlying49 h
  have c2 : Try.prog.cellsOf 48 = 2 := by kernel_rfl
  simp only [c2] at he
  have key : ∀ i, i < 8 → ∃ q : Int × Int, (l.drop (i * 2)).take 2 = [.int .i64 q.1, .int .i64 q.2] ∧ ((-9223372036854775808 ≤ q.1 ∧ q.1 ≤ 9223372036854775807) ∧ (-9223372036854775808 ≤ q.2 ∧ q.2 ≤ 9223372036854775807)) ∧ ∀ y, xs[i]? = some y → y.2 = [] := by
    intro i hi
    have hlen : ((l.drop (i * 2)).take 2).length = 2 := by simp; omega
    obtain ⟨y, hy⟩ : ∃ y, xs[i]? = some y := ⟨xs[i]'(by omega), List.getElem?_eq_getElem (by omega)⟩
    have h : DataW.trod enc Try.prog w base spare held m 48 ((l.drop (i * 2)).take 2) = xs[i]? := he i hi
    rw [hy] at h
    match hq : (l.drop (i * 2)).take 2, hlen with
    | [a, b], _ =>
      rw [hq] at h
      obtain ⟨p, g, h1, h2, h3⟩ := trod_seat h
      exact ⟨(p, g), h1, h2, fun z hz => by rw [hy] at hz; cases hz; exact h3⟩
  have hch : ∃ ps : Nat → Int × Int, ∀ i, i < 8 → ((l.drop (i * 2)).take 2 = [.int .i64 (ps i).1, .int .i64 (ps i).2] ∧ ((-9223372036854775808 ≤ (ps i).1 ∧ (ps i).1 ≤ 9223372036854775807) ∧ (-9223372036854775808 ≤ (ps i).2 ∧ (ps i).2 ≤ 9223372036854775807)) ∧ ∀ y, xs[i]? = some y → y.2 = []) :=
    ⟨fun i => if h : i < 8 then (key i h).choose else (0, 0), fun i hi => by dsimp only; rw [dif_pos hi]; exact (key i hi).choose_spec⟩
  obtain ⟨ps, hps⟩ := hch
  refine ⟨fun k => (ps k).1, fun k => (ps k).2, fun v => ?_, fun i hi => (hps i hi).2.1, ?_⟩
  · rw [cut16 l hl]
    unfold Ros.seatCells Ros.pair
    rw [(hps 0 (by decide)).1, (hps 1 (by decide)).1, (hps 2 (by decide)).1, (hps 3 (by decide)).1, (hps 4 (by decide)).1, (hps 5 (by decide)).1, (hps 6 (by decide)).1, (hps 7 (by decide)).1]
  · rw [hx]
    apply List.flatMap_eq_nil_iff.2
    intro y hy
    obtain ⟨i, hi, rfl⟩ := List.getElem_of_mem hy
    exact (hps i (by omega)).2.2 _ (List.getElem?_eq_getElem hi)
set_option maxRecDepth 100000 in
theorem trod_ros {fuel : Nat} {l : List Value} {y : DataW H × List MemPlace} (hl : l.length = 17) (h : DataW.trod enc Try.prog w base spare held fuel 51 l = some y) : ∃ r : Ros.R, l.toArray = Ros.cells r ∧ Ros.ty r ∧ y.2 = [] := by
  obtain ⟨y0, y1, n, hx, _, h0, h1⟩ := trod_struct2 Try.underlying51 h
  obtain ⟨x0, e0, rfl, w0⟩ := DataW.trod_int Try.underlying3 h0
  have c8 : Try.prog.cellsOf 3 = 1 := by kernel_rfl
  have c16 : Try.prog.cellsOf 49 = 16 := by kernel_rfl
  simp only [c16] at h1
  obtain ⟨f, g, h2, h3, h4⟩ := trod_seats (by simp; omega) h1
  simp only [c8] at e0
  refine ⟨⟨x0, f, g⟩, ?_, ⟨Bd.i64 w0, h3⟩, by rw [hx, h4]; rfl⟩
  match l, hl with
  | a :: t, hl =>
    have ht : t = Ros.seatCells ⟨x0, f, g⟩ := by
      rw [← h2 x0]
      have : t.length = 16 := by simpa using hl
      simp [List.take_of_length_le, this]
    simp at e0
    subst e0
    rw [ht]; rfl
set_option maxRecDepth 100000 in
theorem open_ros {b0 : Nat} {v : Value} {d : DataW H} {p : List MemPlace} (hv : Value.okWide Try.prog w .any b0 51 v) (h : DataW.Trod enc Try.prog w base spare held 51 v d p) : ∃ r : Ros.R, v = .agg (Ros.cells r) ∧ Ros.ty r ∧ p = [] := by
  obtain ⟨cs, rfl, hsz, _⟩ : ∃ cs, v = .agg cs ∧ cs.size = Try.prog.cellsOf 51 ∧ Row.okWide Try.prog w .any b0 51 cs := by
    simpa [Value.okWide, Try.underlying51] using hv
  rw [show Try.prog.cellsOf 51 = 17 from by kernel_rfl] at hsz
  obtain ⟨l⟩ := cs
  obtain ⟨fuel, hf⟩ := h
  have hf' : DataW.trod enc Try.prog w base spare held fuel 51 l = some (d, p) := hf
  obtain ⟨r, h1, h2, h3⟩ := trod_ros (by simpa using hsz) hf'
  exact ⟨r, by rw [← h1], h2, h3⟩
end
end Go.Proofs.Ytbihnmingedgfaa

/-
A State that came in: opened.
-/



namespace Go.Proofs.Ytbihnmingedgfaa
open Go.ChangeShapes Go.WideShapes Go.ChangeAt Go.RowKit Go.Joins Go.ChangeMaps Go.Deep
set_option linter.unusedVariables false

theorem cut_at {α : Type} (l : List α) (a b : Nat) : l.drop a = (l.drop a).take b ++ l.drop (a + b) := by
  have := (List.take_append_drop b (l.drop a)).symm
  rwa [List.drop_drop] at this
theorem cut_end {α : Type} (l : List α) (a b : Nat) (h : l.length = a + b) : l.drop a = (l.drop a).take b := by
  rw [List.take_of_length_le (by simp; omega)]
section
variable {H : Type} {enc : TypeId × Value → H} {w : World} {base : Nat} {spare : Nat → Bool} {held : Bool}
set_option maxRecDepth 100000 in
theorem trod_ship {fuel : Nat} {l : List Value} {y : DataW H × List MemPlace} (hl : l.length = 7) (h : DataW.trod enc Try.prog w base spare held fuel 26 l = some y) : ∃ s : Gm.Ship, l = s.cells ∧ Gm.tyShip s := by
  obtain ⟨xs, n, _, _, _, hlen, hf⟩ := DataW.trod_struct Try.underlying26 h
  have cb : Try.prog.cellsOf 4 = 1 := by kernel_rfl
  have c32 : Try.prog.cellsOf 21 = 1 := by kernel_rfl
  have ci : Try.prog.cellsOf 3 = 1 := by kernel_rfl
  match l, hl, xs, hlen with
  | [a0, a1, a2, a3, a4, a5, a6], _, [y0, y1, y2, y3, y4, y5, y6], _ =>
    obtain ⟨x0, e0, _⟩ := DataW.trod_bool Try.underlying4 (hf 0 _ rfl)
    obtain ⟨x1, e1, _, w1⟩ := DataW.trod_int Try.underlying21 (hf 1 _ rfl)
    obtain ⟨x2, e2, _, w2⟩ := DataW.trod_int Try.underlying21 (hf 2 _ rfl)
    obtain ⟨x3, e3, _, w3⟩ := DataW.trod_int Try.underlying21 (hf 3 _ rfl)
    obtain ⟨x4, e4, _, w4⟩ := DataW.trod_int Try.underlying21 (hf 4 _ rfl)
    obtain ⟨x5, e5, _, w5⟩ := DataW.trod_int Try.underlying3 (hf 5 _ rfl)
    obtain ⟨x6, e6, _, w6⟩ := DataW.trod_int Try.underlying3 (hf 6 _ rfl)
    simp [cb, c32, ci] at e0 e1 e2 e3 e4 e5 e6
    subst e0 e1 e2 e3 e4 e5 e6
    exact ⟨⟨x0, x1, x2, x3, x4, x5, x6⟩, rfl, Bd.i32 w1, Bd.i32 w2, Bd.i32 w3, Bd.i32 w4, Bd.i64 w5, Bd.i64 w6⟩
set_option maxRecDepth 100000 in
theorem trod_shot {base : Nat} {spare : Nat → Bool} {held : Bool} {fuel : Nat} {l : List Value} {y : DataW H × List MemPlace} (hl : l.length = 6) (h : DataW.trod enc Try.prog w base spare held fuel 108 l = some y) : ∃ s : Gm.Shot, l = s.cells ∧ Gm.tyShot s := by
  obtain ⟨xs, n, _, _, _, hlen, hf⟩ := DataW.trod_struct Try.underlying108 h
  have c32 : Try.prog.cellsOf 21 = 1 := by kernel_rfl
  have ci : Try.prog.cellsOf 3 = 1 := by kernel_rfl
  match l, hl, xs, hlen with
  | [a0, a1, a2, a3, a4, a5], _, [y0, y1, y2, y3, y4, y5], _ =>
    obtain ⟨x0, e0, _, w0⟩ := DataW.trod_int Try.underlying3 (hf 0 _ rfl)
    obtain ⟨x1, e1, _, w1⟩ := DataW.trod_int Try.underlying21 (hf 1 _ rfl)
    obtain ⟨x2, e2, _, w2⟩ := DataW.trod_int Try.underlying21 (hf 2 _ rfl)
    obtain ⟨x3, e3, _, w3⟩ := DataW.trod_int Try.underlying21 (hf 3 _ rfl)
    obtain ⟨x4, e4, _, w4⟩ := DataW.trod_int Try.underlying21 (hf 4 _ rfl)
    obtain ⟨x5, e5, _, w5⟩ := DataW.trod_int Try.underlying3 (hf 5 _ rfl)
    simp [c32, ci] at e0 e1 e2 e3 e4 e5
    subst e0 e1 e2 e3 e4 e5
    exact ⟨⟨x0, x1, x2, x3, x4, x5⟩, rfl, Bd.i64 w0, Bd.i32 w1, Bd.i32 w2, Bd.i32 w3, Bd.i32 w4, Bd.i64 w5⟩
set_option maxRecDepth 100000 in
theorem trod_ships {fuel : Nat} {l : List Value} {y : DataW H × List MemPlace} (hl : l.length = 56) (h : DataW.trod enc Try.prog w base spare held fuel 27 l = some y) :
    ∃ f : Nat → Gm.Ship, l = Gm.shipCells f ∧ ∀ k, k < 8 → Gm.tyShip (f k) := by
  obtain ⟨xs, m, _, _, _, hn, he⟩ := DataW.trod_array Try.underlying27 h
  have c7 : Try.prog.cellsOf 26 = 7 := by kernel_rfl
  simp only [c7] at he
  have key : ∀ i, i < 8 → ∃ s : Gm.Ship, (l.drop (i * 7)).take 7 = s.cells ∧ Gm.tyShip s := by
    intro i hi
    have hlen : ((l.drop (i * 7)).take 7).length = 7 := by simp; omega
    obtain ⟨y, hy⟩ : ∃ y, xs[i]? = some y := ⟨xs[i]'(by omega), List.getElem?_eq_getElem (by omega)⟩
    have h := he i hi
    rw [hy] at h
    exact trod_ship hlen h
  have hch : ∃ ps : Nat → Gm.Ship, ∀ i, i < 8 → ((l.drop (i * 7)).take 7 = (ps i).cells ∧ Gm.tyShip (ps i)) :=
    ⟨fun i => if h : i < 8 then (key i h).choose else Gm.Ship.none, fun i hi => by dsimp only; rw [dif_pos hi]; exact (key i hi).choose_spec⟩
  obtain ⟨ps, hps⟩ := hch
  refine ⟨ps, ?_, fun i hi => (hps i hi).2⟩
  have q7 : l.drop (7 * 7) = (ps 7).cells := (cut_end l (7 * 7) 7 (by omega)).trans (hps 7 (by omega)).1
  have q6 : l.drop (6 * 7) = (ps 6).cells ++ (ps 7).cells := by rw [← q7, ← (hps 6 (by omega)).1]; exact cut_at l (6 * 7) 7
  have q5 : l.drop (5 * 7) = (ps 5).cells ++ ((ps 6).cells ++ (ps 7).cells) := by rw [← q6, ← (hps 5 (by omega)).1]; exact cut_at l (5 * 7) 7
  have q4 : l.drop (4 * 7) = (ps 4).cells ++ ((ps 5).cells ++ ((ps 6).cells ++ (ps 7).cells)) := by rw [← q5, ← (hps 4 (by omega)).1]; exact cut_at l (4 * 7) 7
  have q3 : l.drop (3 * 7) = (ps 3).cells ++ ((ps 4).cells ++ ((ps 5).cells ++ ((ps 6).cells ++ (ps 7).cells))) := by rw [← q4, ← (hps 3 (by omega)).1]; exact cut_at l (3 * 7) 7
  have q2 : l.drop (2 * 7) = (ps 2).cells ++ ((ps 3).cells ++ ((ps 4).cells ++ ((ps 5).cells ++ ((ps 6).cells ++ (ps 7).cells)))) := by rw [← q3, ← (hps 2 (by omega)).1]; exact cut_at l (2 * 7) 7
  have q1 : l.drop (1 * 7) = (ps 1).cells ++ ((ps 2).cells ++ ((ps 3).cells ++ ((ps 4).cells ++ ((ps 5).cells ++ ((ps 6).cells ++ (ps 7).cells))))) := by rw [← q2, ← (hps 1 (by omega)).1]; exact cut_at l (1 * 7) 7
  have q0 : l.drop (0 * 7) = (ps 0).cells ++ ((ps 1).cells ++ ((ps 2).cells ++ ((ps 3).cells ++ ((ps 4).cells ++ ((ps 5).cells ++ ((ps 6).cells ++ (ps 7).cells)))))) := by rw [← q1, ← (hps 0 (by omega)).1]; exact cut_at l (0 * 7) 7
  exact q0
set_option maxRecDepth 100000 in
theorem trod_game {fuel : Nat} {l : List Value} {y : DataW H × List MemPlace} (hl : l.length = 59) (h : DataW.trod enc Try.prog w base spare held fuel 30 l = some y) :
    ∃ (g : Gm.G) (A : Option Addr) (c : Nat), l.toArray = Gm.cells g (.slice A g.shots.length c) ∧ Gm.ty g ∧ g.shots.length ≤ maxLen ∧ Lies w w.heap.size 6 A g.shots.length (Gm.shotCells g.shots) := by
  obtain ⟨y0, y1, y2, y3, n, _, _, h0, h1, h2, h3⟩ := trod_struct4 Try.underlying30 h
  have ci : Try.prog.cellsOf 3 = 1 := by kernel_rfl
  have cu : Try.prog.cellsOf 24 = 1 := by kernel_rfl
  have cs8 : Try.prog.cellsOf 27 = 56 := by kernel_rfl
  have csl : Try.prog.cellsOf 28 = 1 := by kernel_rfl
  have c6 : Try.prog.cellsOf 108 = 6 := by kernel_rfl
  obtain ⟨x0, e0, _, w0⟩ := DataW.trod_int Try.underlying3 h0
  obtain ⟨x1, e1, _, w1⟩ := DataW.trod_int Try.underlying24 h1
  simp only [cs8] at h2
  obtain ⟨f, e2, hty⟩ := trod_ships (by simp; omega) h2
  simp only [csl] at h3
  have hlen3 : ((l.drop 58).take 1).length = 1 := by simp; omega
  obtain ⟨u, hu⟩ : ∃ u, (l.drop 58).take 1 = [u] := by
    match hq : (l.drop 58).take 1, hlen3 with
    | [u], _ => exact ⟨u, rfl⟩
  have h3' : DataW.trod enc Try.prog w base spare held n 28 [u] = some y3 := by rw [← hu]; exact h3
  have hsl : ∃ a m k, u = .slice a m k := by
    rcases DataW.trod_slice Try.underlying28 h3' with ⟨hv, _⟩ | ⟨a, len, cap, elems, rest, k, _, hv, _⟩
    · injection hv with hv; exact ⟨_, _, _, hv⟩
    · injection hv with hv; exact ⟨_, _, _, hv⟩
  obtain ⟨a, m, k, rfl⟩ := hsl
  obtain ⟨A, c, shots, ev, ht, hm, hL⟩ := open_slice (enc := enc) (w := w) (base := base) (spare := spare) (held := held) Gm.Shot.cells 6 Gm.tyShot ⟨0, 0, 0, 0, 0, 0⟩ Try.underlying28 c6 (by decide) (fun _ => rfl) (fun hl ht => trod_shot hl ht) (v := .slice a m k) (d := y3.1) (p := y3.2) (fun cs e => by cases e) ⟨n, h3'⟩
  refine ⟨⟨x0, x1, f, shots⟩, A, c, ?_, ⟨Bd.i64 w0, by have := Bd.u64 w1; omega, hty, fun i hi => ht _ (List.getElem_mem hi)⟩, hm, hL⟩
  have e0' : (l.drop 0).take 1 = [Value.int .i64 x0] := by rw [← e0, ci]
  have e1' : (l.drop 1).take 1 = [Value.int .u64 x1] := by rw [← e1, cu]
  have e2' : (l.drop 2).take 56 = Gm.shipCells f := e2
  have q3 : l.drop 58 = [Value.slice A shots.length c] := by rw [← ev, ← hu]; exact cut_end l 58 1 (by omega)
  have q2 : l.drop 2 = Gm.shipCells f ++ [Value.slice A shots.length c] := by rw [← q3, ← e2']; exact cut_at l 2 56
  have q1 : l.drop 1 = [Value.int .u64 x1] ++ (Gm.shipCells f ++ [Value.slice A shots.length c]) := by rw [← q2, ← e1']; exact cut_at l 1 1
  have q0 : l.drop 0 = [Value.int .i64 x0] ++ ([Value.int .u64 x1] ++ (Gm.shipCells f ++ [Value.slice A shots.length c])) := by rw [← q1, ← e0']; exact cut_at l 0 1
  have ql : l = [Value.int .i64 x0] ++ ([Value.int .u64 x1] ++ (Gm.shipCells f ++ [Value.slice A shots.length c])) := q0
  rw [ql]
  rfl
set_option maxRecDepth 100000 in
theorem open_state {b0 : Nat} {v : Value} {d : DataW H} {p : List MemPlace} (hv : Value.okWide Try.prog w .any b0 53 v) (h : DataW.Trod enc Try.prog w base spare held 53 v d p) :
    ∃ (A : Option Addr) (c : Nat) (g : Gm.G) (r : Ros.R), v = .agg (Im.cells g (.slice A g.shots.length c) r) ∧ Gm.ty g ∧ g.shots.length ≤ maxLen ∧ Lies w w.heap.size 6 A g.shots.length (Gm.shotCells g.shots) := by
  obtain ⟨cs, rfl, hsz, _⟩ : ∃ cs, v = .agg cs ∧ cs.size = Try.prog.cellsOf 53 ∧ Row.okWide Try.prog w .any b0 53 cs := by
    simpa [Value.okWide, Try.underlying53] using hv
  rw [show Try.prog.cellsOf 53 = 76 from by kernel_rfl] at hsz
  obtain ⟨l⟩ := cs
  have hl : l.length = 76 := by simpa using hsz
  obtain ⟨fuel, hf⟩ := h
  have hf' : DataW.trod enc Try.prog w base spare held fuel 53 l = some (d, p) := hf
  obtain ⟨y0, y1, n, _, _, h0, h1⟩ := trod_struct2 Try.underlying53 hf'
  have cg : Try.prog.cellsOf 30 = 59 := by kernel_rfl
  have cr : Try.prog.cellsOf 51 = 17 := by kernel_rfl
  simp only [cg] at h0
  simp only [cr] at h1
  obtain ⟨g, A, c, e0, hg, hm, hL⟩ := trod_game (by simp; omega) h0
  obtain ⟨r, e1, _, _⟩ := trod_ros (by simp; omega) h1
  refine ⟨A, c, g, r, ?_, hg, hm, hL⟩
  have q1 : l.drop 59 = (l.drop 59).take 17 := cut_end l 59 17 (by omega)
  have q0 : l.drop 0 = (l.drop 0).take 59 ++ l.drop 59 := cut_at l 0 59
  have e0' : ((l.drop 0).take 59).toArray = Gm.cells g (.slice A g.shots.length c) := e0
  have e1' : ((l.drop 59).take 17).toArray = Ros.cells r := e1
  have ql : l.toArray = Im.cells g (.slice A g.shots.length c) r := by
    unfold Im.cells
    rw [← e0', ← e1', ← q1]
    have := congrArg List.toArray q0
    simp at this ⊢
  exact congrArg Value.agg ql
end
end Go.Proofs.Ytbihnmingedgfaa
