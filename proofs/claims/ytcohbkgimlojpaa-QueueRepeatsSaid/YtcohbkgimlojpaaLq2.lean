/-
Several texts in one: Ry Onl Qub Quc Qx Qud Quf Qug Kl.
-/
import Derived.Test.YtcohbkgimlojpaaLq1
namespace Ry
open Go

def isHard (o : Oper) : Bool := match o.op with | .store .. => true | _ => false
def isMake (o : Oper) : Bool := match o.op with | .buildSlice .. | .alloc .. => true | .call c => (match c.callee with | .builtin .append | .value _ => true | _ => false) | _ => false
def isStore (o : Oper) : Bool := isHard o || isMake o
/-- The world is looked at, and left as it is. -/
def isLook (o : Oper) : Bool := match o.op with | .load .. | .nilCheck .. => true | _ => false
/-- Nothing of the world is asked. -/
def isFree (o : Oper) : Bool := match o.op with | .fieldAddr .. | .indexAddr .. | .move .. | .assign .. | .pick .. | .extract .. | .binOp .. | .unOp .. | .build .. | .convert .. | .slice .. => true | _ => false

theorem store_free {o : Oper} (h : isStore o = true) : isFree o = false := by
  unfold isStore isHard isMake at h
  unfold isFree
  generalize o.op = x at h ⊢
  cases x <;> first | rfl | (exact absurd h (by decide)) | (simp at h)
theorem store_look {o : Oper} (h : isStore o = true) : isLook o = false := by
  unfold isStore isHard isMake at h
  unfold isLook
  generalize o.op = x at h ⊢
  cases x <;> first | rfl | (exact absurd h (by decide)) | (simp at h)

/-- What an operation leaves: the value v, a world of C. -/
def Gives (P : Program) (o : Oper) (a : Act) (w : World) (v : Value) (C : World → Prop) : Prop :=
  match (execOp a.eval o).run P w with
  | .ok (.value u) w1 => u = v ∧ C w1
  | .ok .skip w1 => undef = v ∧ C w1
  | .ok (.enter f args) w1 => Calls P f args w1 fun e w2 => e = .returned v ∧ C w2
  | _ => False

theorem Gives.wp {P : Program} {o : Oper} {a : Act} {w : World} {v : Value} {C : World → Prop} {K : Act → World → Prop} {Q : Exit → Act → World → Prop} (h : Gives P o a w v C) (hK : ∀ w', C w' → K (a.put o.dst v) w') : o.wp P a w K Q := by
  unfold Gives at h
  unfold Oper.wp
  generalize (execOp a.eval o).run P w = r at *
  cases r with
  | ok n w1 =>
    cases n <;> simp only [Oper.upon] at h ⊢
    case value u => obtain ⟨rfl, h⟩ := h; exact hK _ h
    case skip => obtain ⟨rfl, h⟩ := h; exact hK _ h
    case enter f args =>
      exact h.mono fun e w2 ⟨he, hw⟩ => by subst he; exact hK _ hw
  | halt x w1 => cases h
theorem Gives.congr {P : Program} {o : Oper} {a a' : Act} {w : World} {v : Value} {C : World → Prop} (h : Gives P o a w v C) (he : execOp a'.eval o = execOp a.eval o) : Gives P o a' w v C := by
  unfold Gives at *; rw [he]; exact h

/-- The walk in the order of the text: C is what is known of the world, D what is known of it till the next store, E what is known all the time; n is how many have been; the looks of st ask E alone. -/
def wpLex (P : Program) (st : List Nat) (E : World → Prop) (Q : Act → (World → Prop) → Prop) : List Oper → Nat → Act → (World → Prop) → (World → Prop) → Prop
  | [], _, a, C, _ => Q a C
  | o :: rest, n, a, C, D =>
    if isStore o then ∃ v C' D', (∀ w, C w → Gives P o a w v C') ∧ (isHard o = false → D' = D) ∧ (∀ w, C' w → D' w ∧ E w) ∧ wpLex P st E Q rest (n + 1) (a.put o.dst v) C' D'
    else if isFree o then ∃ v, (∀ w, Gives P o a w v (fun w' => w' = w)) ∧ wpLex P st E Q rest (n + 1) (a.put o.dst v) C D
    else if isLook o then ∃ v, (∀ w, (if st.contains n then E w else D w) → Gives P o a w v (fun w' => w' = w)) ∧ wpLex P st E Q rest (n + 1) (a.put o.dst v) C D
    else ∃ v, (∀ w, C w → Gives P o a w v C) ∧ wpLex P st E Q rest (n + 1) (a.put o.dst v) C D

/-- A run in the order of the text, written out. -/
structure Run (P : Program) (st : Nat → Bool) (E : World → Prop) (l : List Oper) (A : Nat → Act) (C D : Nat → World → Prop) (v : Nat → Value) : Prop where
  act : ∀ i o, l[i]? = some o → A (i + 1) = (A i).put o.dst (v i)
  store : ∀ i o, l[i]? = some o → isStore o = true → ∀ w, C i w → Gives P o (A i) w (v i) (C (i + 1))
  free : ∀ i o, l[i]? = some o → isStore o = false → isFree o = true → C (i + 1) = C i ∧ ∀ w, Gives P o (A i) w (v i) (fun w' => w' = w)
  look : ∀ i o, l[i]? = some o → isStore o = false → isFree o = false → isLook o = true → C (i + 1) = C i ∧ ∀ w, (if st i then E w else D i w) → Gives P o (A i) w (v i) (fun w' => w' = w)
  read : ∀ i o, l[i]? = some o → isStore o = false → isFree o = false → isLook o = false → C (i + 1) = C i ∧ ∀ w, C i w → Gives P o (A i) w (v i) (C i)
  soft : ∀ i o, l[i]? = some o → isHard o = false → D (i + 1) = D i
  held : ∀ i, i ≤ l.length → ∀ w, C i w → D i w ∧ E w

def consF {α : Type} (x : α) (f : Nat → α) : Nat → α
  | 0 => x
  | i + 1 => f i
theorem Run.cons {P : Program} {st : Nat → Bool} {E : World → Prop} {l : List Oper} {o : Oper} {a : Act} {C D C1 D1 : World → Prop} {u : Value} {A : Nat → Act} {Cs Ds : Nat → World → Prop} {v : Nat → Value} (hr : Run P (fun i => st (i + 1)) E l A Cs Ds v) (hA : A 0 = a.put o.dst u) (hC : Cs 0 = C1) (hD : Ds 0 = D1) (hCD : ∀ w, C w → D w ∧ E w)
    (h1 : isStore o = true → ∀ w, C w → Gives P o a w u C1) (h2 : isStore o = false → isFree o = true → C1 = C ∧ ∀ w, Gives P o a w u (fun w' => w' = w)) (h3 : isStore o = false → isFree o = false → isLook o = true → C1 = C ∧ ∀ w, (if st 0 then E w else D w) → Gives P o a w u (fun w' => w' = w))
    (h4 : isStore o = false → isFree o = false → isLook o = false → C1 = C ∧ ∀ w, C w → Gives P o a w u C) (h5 : isHard o = false → D1 = D) : Run P st E (o :: l) (consF a A) (consF C Cs) (consF D Ds) (consF u v) := by
  refine ⟨?_, ?_, ?_, ?_, ?_, ?_, ?_⟩
  · intro i o' ho'
    cases i with
    | zero => simp at ho'; subst ho'; exact hA
    | succ i => exact hr.act i o' (by simpa using ho')
  · intro i o' ho'
    cases i with
    | zero => simp at ho'; subst ho'; intro hs w hw; show Gives P o a w u (Cs 0); rw [hC]; exact h1 hs w hw
    | succ i => exact hr.store i o' (by simpa using ho')
  · intro i o' ho'
    cases i with
    | zero => simp at ho'; subst ho'; intro hs hf; exact ⟨hC.trans (h2 hs hf).1, (h2 hs hf).2⟩
    | succ i => exact hr.free i o' (by simpa using ho')
  · intro i o' ho'
    cases i with
    | zero => simp at ho'; subst ho'; intro hs hf hl; exact ⟨hC.trans (h3 hs hf hl).1, (h3 hs hf hl).2⟩
    | succ i => exact hr.look i o' (by simpa using ho')
  · intro i o' ho'
    cases i with
    | zero => simp at ho'; subst ho'; intro hs hf hl; exact ⟨hC.trans (h4 hs hf hl).1, (h4 hs hf hl).2⟩
    | succ i => exact hr.read i o' (by simpa using ho')
  · intro i o' ho'
    cases i with
    | zero => simp at ho'; subst ho'; intro hh; exact hD.trans (h5 hh)
    | succ i => exact hr.soft i o' (by simpa using ho')
  · intro i hi
    cases i with
    | zero => exact hCD
    | succ i => exact hr.held i (by simpa using hi)
theorem run_of_lex {P : Program} {st : List Nat} {E : World → Prop} {Q : Act → (World → Prop) → Prop} : ∀ (l : List Oper) (n : Nat) (a : Act) (C D : World → Prop), (∀ w, C w → D w ∧ E w) → wpLex P st E Q l n a C D →
    ∃ A Cs Ds v, Run P (fun i => st.contains (n + i)) E l A Cs Ds v ∧ A 0 = a ∧ Cs 0 = C ∧ Ds 0 = D ∧ Q (A l.length) (Cs l.length)
  | [], n, a, C, D, hCD, h => ⟨fun _ => a, fun _ => C, fun _ => D, fun _ => undef, ⟨fun i o h => by simp at h, fun i o h => by simp at h, fun i o h => by simp at h, fun i o h => by simp at h, fun i o h => by simp at h, fun i o h => by simp at h, fun i _ w hw => hCD w hw⟩, rfl, rfl, rfl, h⟩
  | o :: l, n, a, C, D, hCD, h => by
    unfold wpLex at h
    have shift : (fun i => st.contains (n + 1 + i)) = fun i => (fun j => st.contains (n + j)) (i + 1) := funext fun i => by
      show st.contains (n + 1 + i) = st.contains (n + (i + 1)); rw [show n + 1 + i = n + (i + 1) by omega]
    by_cases hs : isStore o = true
    · rw [if_pos hs] at h
      obtain ⟨u, C', D', h1, hd, hcd, h2⟩ := h
      obtain ⟨A, Cs, Ds, v, hr, hA, hC, hD, hQ⟩ := run_of_lex l (n + 1) _ C' D' hcd h2
      rw [shift] at hr
      exact ⟨_, _, _, _, Run.cons (st := fun j => st.contains (n + j)) hr hA hC hD hCD (fun _ => h1) (fun e => by rw [hs] at e; cases e) (fun e => by rw [hs] at e; cases e) (fun e => by rw [hs] at e; cases e) hd, rfl, rfl, rfl, hQ⟩
    · have hs0 : isStore o = false := by simpa using hs
      have hh0 : isHard o = false := by simp [isStore] at hs0; exact hs0.1
      rw [if_neg hs] at h
      by_cases hf : isFree o = true
      · rw [if_pos hf] at h
        obtain ⟨u, h1, h2⟩ := h
        obtain ⟨A, Cs, Ds, v, hr, hA, hC, hD, hQ⟩ := run_of_lex l (n + 1) _ C D hCD h2
        rw [shift] at hr
        exact ⟨_, _, _, _, Run.cons (st := fun j => st.contains (n + j)) hr hA hC hD hCD (fun e => absurd e hs) (fun _ _ => ⟨rfl, h1⟩) (fun _ e => by rw [hf] at e; cases e) (fun _ e => by rw [hf] at e; cases e) (fun _ => rfl), rfl, rfl, rfl, hQ⟩
      · rw [if_neg hf] at h
        by_cases hl : isLook o = true
        · rw [if_pos hl] at h
          obtain ⟨u, h1, h2⟩ := h
          obtain ⟨A, Cs, Ds, v, hr, hA, hC, hD, hQ⟩ := run_of_lex l (n + 1) _ C D hCD h2
          rw [shift] at hr
          exact ⟨_, _, _, _, Run.cons (st := fun j => st.contains (n + j)) hr hA hC hD hCD (fun e => absurd e hs) (fun _ e => absurd e hf) (fun _ _ _ => ⟨rfl, h1⟩) (fun _ _ e => by rw [hl] at e; cases e) (fun _ => rfl), rfl, rfl, rfl, hQ⟩
        · rw [if_neg hl] at h
          obtain ⟨u, h1, h2⟩ := h
          obtain ⟨A, Cs, Ds, v, hr, hA, hC, hD, hQ⟩ := run_of_lex l (n + 1) _ C D hCD h2
          rw [shift] at hr
          exact ⟨_, _, _, _, Run.cons (st := fun j => st.contains (n + j)) hr hA hC hD hCD (fun e => absurd e hs) (fun _ e => absurd e hf) (fun _ _ e => absurd e hl) (fun _ _ _ => ⟨rfl, h1⟩) (fun _ => rfl), rfl, rfl, rfl, hQ⟩

section
variable {l : List Oper} {v : Nat → Value} {a0 : Act}
structure Shape (l : List Oper) (v : Nat → Value) (a0 : Act) (S : Nat → Bool) (a : Act) : Prop where
  size : a.tmps.size = a0.tmps.size
  defers : a.defers = a0.defers
  done : ∀ j o t, l[j]? = some o → o.dst = some t → S j = true → a.tmps[t]? = if t < a0.tmps.size then some (v j) else none
  rest : ∀ t, (∀ j o, l[j]? = some o → o.dst = some t → S j = false) → a.tmps[t]? = a0.tmps[t]?

def Distinct (l : List Oper) : Prop := ∀ (i j : Nat) (oi oj : Oper) (t : Tmp), l[i]? = some oi → l[j]? = some oj → oi.dst = some t → oj.dst = some t → i = j

theorem Shape.start : Shape l v a0 (fun _ => false) a0 := ⟨rfl, rfl, fun _ _ _ _ _ h => (by cases h), fun _ _ => rfl⟩
theorem Shape.put {S : Nat → Bool} {a : Act} (hd : Distinct l) (h : Shape l v a0 S a) {i : Nat} {o : Oper} (ho : l[i]? = some o) : Shape l v a0 (fun j => S j || j == i) (a.put o.dst (v i)) := by
  cases hdst : o.dst with
  | none =>
    refine ⟨h.size, h.defers, fun j oj t hj ht hS => ?_, fun t ht => ?_⟩
    · simp only [Bool.or_eq_true, beq_iff_eq] at hS
      rcases hS with hS | rfl
      · exact h.done j oj t hj ht hS
      · rw [ho] at hj; injection hj with hj; subst hj; rw [hdst] at ht; cases ht
    · exact h.rest t fun j oj hj ht' => by have := ht j oj hj ht'; simp at this; exact this.1
  | some d =>
    refine ⟨by simp [Act.put, h.size], h.defers, fun j oj t hj ht hS => ?_, fun t ht => ?_⟩
    · simp only [Act.put, Array.getElem?_setIfInBounds]
      by_cases htd : d = t
      · subst htd
        have : j = i := hd j i oj o d hj ho ht hdst
        subst this
        rw [if_pos rfl, h.size]
      · rw [if_neg htd]
        simp only [Bool.or_eq_true, beq_iff_eq] at hS
        rcases hS with hS | rfl
        · exact h.done j oj t hj ht hS
        · rw [ho] at hj; injection hj with hj; subst hj; rw [hdst] at ht; injection ht with ht; exact absurd ht htd
    · have hne : d ≠ t := fun e => by subst e; have := ht i o ho hdst; simp at this
      simp only [Act.put, Array.getElem?_setIfInBounds, if_neg hne]
      exact h.rest t fun j oj hj ht' => by have := ht j oj hj ht'; simp at this; exact this.1
theorem Shape.same {S S' : Nat → Bool} {a a' : Act} (h : Shape l v a0 S a) (h' : Shape l v a0 S' a') {t : Nat} (hS : ∀ j o, l[j]? = some o → o.dst = some t → S j = S' j) : a.tmps[t]? = a'.tmps[t]? := by
  by_cases hx : ∃ j o, l[j]? = some o ∧ o.dst = some t ∧ S j = true
  · obtain ⟨j, o, hj, ht, hs⟩ := hx
    rw [h.done j o t hj ht hs, h'.done j o t hj ht (by rw [← hS j o hj ht]; exact hs)]
  · have hn : ∀ j o, l[j]? = some o → o.dst = some t → S j = false := fun j o hj ht => by
      cases hs : S j
      · rfl
      · exact absurd ⟨j, o, hj, ht, hs⟩ hx
    rw [h.rest t hn, h'.rest t fun j o hj ht => by rw [← hS j o hj ht]; exact hn j o hj ht]
theorem Shape.ext {S S' : Nat → Bool} {a a' : Act} (h : Shape l v a0 S a) (h' : Shape l v a0 S' a') (hS : ∀ j o, l[j]? = some o → S j = S' j) : a = a' := by
  have ht : a.tmps = a'.tmps := Array.ext_getElem? fun t => h.same h' fun j o hj _ => hS j o hj
  have hd : a.defers = a'.defers := h.defers.trans h'.defers.symm
  cases a; cases a'; simp_all
theorem Shape.congr {S S' : Nat → Bool} {a : Act} (h : Shape l v a0 S a) (hS : ∀ j o, l[j]? = some o → S j = S' j) : Shape l v a0 S' a :=
  ⟨h.size, h.defers, fun j o t hj ht hs => h.done j o t hj ht (by rw [hS j o hj]; exact hs), fun t ht => h.rest t fun j o hj hd => by rw [hS j o hj]; exact ht j o hj hd⟩
theorem Run.shape {P : Program} {st : Nat → Bool} {E : World → Prop} {A : Nat → Act} {C D : Nat → World → Prop} (hr : Run P st E l A C D v) (hd : Distinct l) : ∀ k, k ≤ l.length → Shape l v (A 0) (fun j => decide (j < k)) (A k)
  | 0, _ => Shape.start.congr fun j o _ => by simp
  | k + 1, hk => by
    have ho : l[k]? = some (l[k]'(by omega)) := List.getElem?_eq_getElem (by omega)
    rw [hr.act k _ ho]
    refine ((Run.shape hr hd k (by omega)).put hd ho).congr fun j o _ => ?_
    rw [Bool.eq_iff_iff]; simp; omega
end

/-- Does i wait for j? As the table says. -/
def tb (b : Array Nat) (i j : Nat) : Bool := (b.getD i 0).testBit j
def pairB (st : List Nat) (l : List Oper) (b : Array Nat) (i j : Nat) : Bool :=
  match l[i]?, l[j]? with
  | some oi, some oj =>
    (!(tb b i j) || oi.after.any fun e => Region.binds .any e && (e.on == j || tb b e.on j)) &&
    (i == j || ((match oi.dst, oj.dst with | some d, some d' => d != d' | _, _ => true) &&
      (match oj.dst with | some d => !(oi.looksAt l.toArray).contains d || (if j < i then tb b i j else tb b j i) | none => true) &&
      (!isStore oj || isFree oi || (isLook oi && (!isHard oj || st.contains i)) || (if j < i then tb b i j else tb b j i))))
  | _, _ => true
def oneB (l : List Oper) (i : Nat) : Bool :=
  match l[i]? with
  | some o => o.guard.isNone && !(isStore o && isFree o) && o.after.all fun e => !Region.binds .any e || decide (e.on < i)
  | none => true
def okB (st : List Nat) (l : List Oper) : Bool :=
  Region.noSelect l.toArray && ((List.range l.length).all fun i => oneB l i && (List.range l.length).all fun j => pairB st l (Region.before l.toArray) i j)

structure Ok (st : List Nat) (l : List Oper) (cl : Nat → Nat → Bool) : Prop where
  sel : Region.noSelect l.toArray = true
  guard : ∀ (i : Nat) (o : Oper), l[i]? = some o → o.guard = none
  down : ∀ (i : Nat) (o : Oper), l[i]? = some o → ∀ e ∈ o.after, Region.binds .any e = true → e.on < i
  cert : ∀ (i j : Nat) (o oj : Oper), l[i]? = some o → l[j]? = some oj → cl i j = true → ∃ e ∈ o.after, Region.binds .any e = true ∧ (e.on = j ∨ cl e.on j = true)
  dist : Distinct l
  looks : ∀ (i j : Nat) (oi oj : Oper) (t : Tmp), l[i]? = some oi → l[j]? = some oj → i ≠ j → oj.dst = some t → t ∈ oi.looksAt l.toArray → (if j < i then cl i j else cl j i) = true
  store : ∀ (i j : Nat) (oi oj : Oper), l[i]? = some oi → l[j]? = some oj → i ≠ j → isStore oj = true → isFree oi = false → (isLook oi && (!isHard oj || st.contains i)) = false → (if j < i then cl i j else cl j i) = true
theorem Ok.of (st : List Nat) (l : List Oper) (h : okB st l = true) : Ok st l (tb (Region.before l.toArray)) := by
  simp only [okB, Bool.and_eq_true] at h
  obtain ⟨h0, h⟩ := h
  have h1 : ∀ i o, l[i]? = some o → oneB l i = true ∧ ∀ j oj, l[j]? = some oj → pairB st l (Region.before l.toArray) i j = true := fun i o ho => by
    have hi : i < l.length := (List.getElem?_eq_some_iff.1 ho).1
    have := List.all_eq_true.1 h i (List.mem_range.2 hi)
    simp only [Bool.and_eq_true] at this
    exact ⟨this.1, fun j oj hj => List.all_eq_true.1 this.2 j (List.mem_range.2 (List.getElem?_eq_some_iff.1 hj).1)⟩
  have one : ∀ i o, l[i]? = some o → (o.guard.isNone = true ∧ (!(isStore o && isFree o)) = true) ∧ (o.after.all fun e => !Region.binds .any e || decide (e.on < i)) = true := fun i o ho => by
    have := (h1 i o ho).1
    simp only [oneB, ho, Bool.and_eq_true] at this
    exact this
  have two : ∀ i j oi oj, l[i]? = some oi → l[j]? = some oj →
      (!(tb (Region.before l.toArray) i j) || oi.after.any fun e => Region.binds .any e && (e.on == j || tb (Region.before l.toArray) e.on j)) = true ∧
      (i == j || ((match oi.dst, oj.dst with | some d, some d' => d != d' | _, _ => true) &&
      (match oj.dst with | some d => !(oi.looksAt l.toArray).contains d || (if j < i then tb (Region.before l.toArray) i j else tb (Region.before l.toArray) j i) | none => true) &&
      (!isStore oj || isFree oi || (isLook oi && (!isHard oj || st.contains i)) || (if j < i then tb (Region.before l.toArray) i j else tb (Region.before l.toArray) j i)))) = true := fun i j oi oj hi hj => by
    have := (h1 i oi hi).2 j oj hj
    simp only [pairB, hi, hj, Bool.and_eq_true] at this
    exact this
  refine ⟨h0, fun i o ho => by simpa using (one i o ho).1.1, fun i o ho e he hb => ?_, fun i j o oj hi hj hc => ?_, fun i j oi oj t hi hj hdi hdj => ?_, fun i j oi oj t hi hj hne hdj ht => ?_, fun i j oi oj hi hj hne hs hf hlk => ?_⟩
  · have := (Array.all_eq_true_iff_forall_mem.1 (one i o ho).2) e he
    simpa [hb] using this
  · have := (two i j o oj hi hj).1
    rw [hc] at this
    simp at this
    obtain ⟨k, hk, h1, h2⟩ := this
    exact ⟨o.after[k], Array.getElem_mem hk, h1, h2⟩
  · by_cases hij : i = j
    · exact hij
    · have := (two i j oi oj hi hj).2
      simp [hij, hdi, hdj] at this
  · have := (two i j oi oj hi hj).2
    simp only [Bool.or_eq_true, beq_iff_eq, Bool.and_eq_true, hne, false_or, hdj] at this
    have h2 := this.1.2
    rcases h2 with h2 | h2
    · simp at h2; exact absurd ht h2
    · exact h2
  · have := (two i j oi oj hi hj).2
    simp only [Bool.or_eq_true, beq_iff_eq, Bool.and_eq_true, hne, false_or] at this
    rcases this.2 with ((h2 | h2) | h2) | h2
    · simp [hs] at h2
    · rw [hf] at h2; cases h2
    · simp only [h2.1, Bool.true_and] at hlk; have h3' := h2.2; simp only [Bool.or_eq_false_iff] at hlk; rcases h3' with h3 | h3
      · rw [hlk.1] at h3; cases h3
      · rw [hlk.2] at h3; cases h3
    · exact h2

/-- How many have not been. -/
def unl (f : Nat → Bool) : Nat → Nat
  | 0 => 0
  | k + 1 => unl f k + (if f k then 0 else 1)
theorem unl_le (f : Nat → Bool) : ∀ n, unl f n ≤ n
  | 0 => Nat.le_refl _
  | n + 1 => by have := unl_le f n; unfold unl; split <;> omega
theorem unl_zero {f : Nat → Bool} : ∀ {n}, unl f n = 0 → ∀ i, i < n → f i = true
  | 0, _, i, h => absurd h (by omega)
  | n + 1, h, i, hi => by
    unfold unl at h
    by_cases hfn : f n = true
    · rw [if_pos hfn] at h
      by_cases hin : i = n
      · rw [hin]; exact hfn
      · exact unl_zero (n := n) (by omega) i (by omega)
    · rw [if_neg hfn] at h; omega
theorem unl_congr {f g : Nat → Bool} : ∀ {n}, (∀ i, i < n → f i = g i) → unl f n = unl g n
  | 0, _ => rfl
  | n + 1, h => by unfold unl; rw [unl_congr (n := n) fun i hi => h i (by omega), h n (by omega)]
theorem unl_set {f g : Nat → Bool} {i : Nat} (h0 : f i = false) (h1 : g i = true) (ho : ∀ j, j ≠ i → g j = f j) : ∀ {n}, i < n → unl g n + 1 = unl f n
  | 0, h => absurd h (by omega)
  | n + 1, h => by
    unfold unl
    by_cases hin : i = n
    · subst hin
      rw [unl_congr (n := i) fun j hj => ho j (by omega), h0, h1]; simp
    · have := unl_set h0 h1 ho (n := n) (by omega)
      rw [ho n (by omega)]; omega

structure Inv (l : List Oper) (v : Nat → Value) (a0 : Act) (C : Nat → World → Prop) (listed : Array Bool) (a : Act) (w : World) : Prop where
  size : listed.size = l.length
  closed : ∀ (i : Nat) (o : Oper), l[i]? = some o → listed.getD i false = true → ∀ e ∈ o.after, Region.binds .any e = true → listed.getD e.on false = true
  shape : Shape l v a0 (fun j => listed.getD j false) a
  world : ∀ i, i ≤ l.length → (∀ (j : Nat) (o : Oper), l[j]? = some o → isStore o = true → listed.getD j false = decide (j < i)) → C i w

section
variable {P : Program} {st : List Nat} {E : World → Prop} {l : List Oper} {A : Nat → Act} {C D : Nat → World → Prop} {v : Nat → Value} {cl : Nat → Nat → Bool} {listed : Array Bool} {a : Act} {w : World}
theorem Inv.down (ok : Ok st l cl) (h : Inv l v (A 0) C listed a w) : ∀ (n i j : Nat), i < n → (∃ o, l[i]? = some o) → (∃ o, l[j]? = some o) → cl i j = true → listed.getD i false = true → listed.getD j false = true
  | 0, _, _, hi, _, _, _, _ => absurd hi (by omega)
  | n + 1, i, j, hi, ⟨o, ho⟩, ⟨oj, hj⟩, hc, hl => by
    obtain ⟨e, he, hb, h'⟩ := ok.cert i j o oj ho hj hc
    have h1 := h.closed i o ho hl e he hb
    rcases h' with rfl | h'
    · exact h1
    · have hd := ok.down i o ho e he hb
      have hlt : i < l.length := (List.getElem?_eq_some_iff.1 ho).1
      exact Inv.down ok h n e.on j (by omega) ⟨_, List.getElem?_eq_getElem (show e.on < l.length by omega)⟩ ⟨oj, hj⟩ h' h1
/-- What stands between stores is one class. -/
theorem Run.between (hr : Run P (fun i => st.contains i) E l A C D v) {i : Nat} : ∀ (d k : Nat), k = i + d → k ≤ l.length → (∀ (j : Nat) (o : Oper), l[j]? = some o → isStore o = true → i ≤ j → j < k → False) → C k = C i
  | 0, k, hk, _, _ => by rw [hk]; rfl
  | d + 1, k, hk, hl, hn => by
    have ih := Run.between hr d (k - 1) (by omega) (by omega) (fun j o hj hs h1 h2 => hn j o hj hs h1 (by omega))
    have ho : l[k - 1]? = some (l[k - 1]'(by omega)) := List.getElem?_eq_getElem (by omega)
    have hs : isStore (l[k - 1]'(by omega)) = false := by
      cases h : isStore (l[k - 1]'(by omega))
      · rfl
      · exact (hn _ _ ho h (by omega) (by omega)).elim
    have e : k - 1 + 1 = k := by omega
    cases hf : isFree (l[k - 1]'(by omega))
    · cases hl : isLook (l[k - 1]'(by omega))
      · have := (hr.read _ _ ho hs hf hl).1; rw [e] at this; rw [this, ih]
      · have := (hr.look _ _ ho hs hf hl).1; rw [e] at this; rw [this, ih]
    · have := (hr.free _ _ ho hs hf).1; rw [e] at this; rw [this, ih]
theorem Run.one (hr : Run P (fun i => st.contains i) E l A C D v) {f : Nat → Bool} {i k : Nat} (hi : i ≤ l.length) (hk : k ≤ l.length) (h1 : ∀ (j : Nat) (o : Oper), l[j]? = some o → isStore o = true → f j = decide (j < i)) (h2 : ∀ (j : Nat) (o : Oper), l[j]? = some o → isStore o = true → f j = decide (j < k)) : C k = C i := by
  rcases Nat.le_total i k with h | h
  · exact hr.between (k - i) k (by omega) hk fun j o hj hs ha hb => by
      have e1 := h1 j o hj hs; have e2 := h2 j o hj hs
      rw [e1] at e2; simp at e2; omega
  · exact (hr.between (i - k) i (by omega) hi fun j o hj hs ha hb => by
      have e1 := h1 j o hj hs; have e2 := h2 j o hj hs
      rw [e1] at e2; simp at e2; omega).symm

theorem Run.steady (hr : Run P (fun i => st.contains i) E l A C D v) {i : Nat} : ∀ (d k : Nat), k = i + d → k ≤ l.length → (∀ (j : Nat) (o : Oper), l[j]? = some o → isHard o = true → i ≤ j → j < k → False) → D k = D i
  | 0, k, hk, _, _ => by rw [hk]; rfl
  | d + 1, k, hk, hl, hn => by
    have ih := Run.steady hr d (k - 1) (by omega) (by omega) (fun j o hj hs h1 h2 => hn j o hj hs h1 (by omega))
    have ho : l[k - 1]? = some (l[k - 1]'(by omega)) := List.getElem?_eq_getElem (by omega)
    have hs : isHard (l[k - 1]'(by omega)) = false := by
      cases h : isHard (l[k - 1]'(by omega))
      · rfl
      · exact (hn _ _ ho h (by omega) (by omega)).elim
    have e : k - 1 + 1 = k := by omega
    have := hr.soft _ _ ho hs; rw [e] at this; rw [this, ih]
/-- Of the acts the first so many have been. -/
theorem Inv.where_ (ok : Ok st l cl) (h : Inv l v (A 0) C listed a w) : ∃ k, k ≤ l.length ∧ ∀ (j : Nat) (o : Oper), l[j]? = some o → isStore o = true → listed.getD j false = decide (j < k) := by
  have key : ∀ n, n ≤ l.length → (∀ (j : Nat) (o : Oper), l[j]? = some o → isStore o = true → j < n → listed.getD j false = true) ∨ ∃ k, k < n ∧ ∃ o, l[k]? = some o ∧ isStore o = true ∧ listed.getD k false = false ∧ ∀ (j : Nat) (o : Oper), l[j]? = some o → isStore o = true → j < k → listed.getD j false = true := by
    intro n
    induction n with
    | zero => intro _; exact .inl fun j o _ _ hj => absurd hj (by omega)
    | succ n ih =>
      intro hn
      rcases ih (by omega) with h1 | ⟨k, hk, h1⟩
      · have ho : l[n]? = some (l[n]'(by omega)) := List.getElem?_eq_getElem (by omega)
        by_cases hs : isStore (l[n]'(by omega)) = true
        · cases hl : listed.getD n false
          · exact .inr ⟨n, by omega, _, ho, hs, hl, h1⟩
          · refine .inl fun j o hj hso hjn => ?_
            by_cases e : j = n
            · subst e; exact hl
            · exact h1 j o hj hso (by omega)
        · refine .inl fun j o hj hso hjn => ?_
          by_cases e : j = n
          · subst e; rw [ho] at hj; injection hj with hj; subst hj; exact absurd hso hs
          · exact h1 j o hj hso (by omega)
      · exact .inr ⟨k, by omega, h1⟩
  rcases key l.length (Nat.le_refl _) with h1 | ⟨k, hk, o, ho, hs, hl, h1⟩
  · refine ⟨l.length, Nat.le_refl _, fun j o hj hso => ?_⟩
    have := (List.getElem?_eq_some_iff.1 hj).1
    rw [h1 j o hj hso this]; simp [this]
  · refine ⟨k, by omega, fun j oj hj hsj => ?_⟩
    by_cases hjk : j < k
    · rw [h1 j oj hj hsj hjk]; simp [hjk]
    · by_cases e : j = k
      · subst e; rw [hl]; simp
      · have hf : isFree o = false := store_free hs
        have hlk : isLook o = false := store_look hs
        have hc := ok.store k j o oj ho hj (fun e' => e e'.symm) hsj hf (by simp [hlk])
        rw [if_neg (by omega)] at hc
        cases hlj : listed.getD j false
        · simp [hjk]
        · have := h.down ok l.length j k (List.getElem?_eq_some_iff.1 hj).1 ⟨oj, hj⟩ ⟨o, ho⟩ hc hlj
          rw [hl] at this; cases this
theorem Inv.step (hr : Run P (fun i => st.contains i) E l A C D v) (ok : Ok st l cl) (h : Inv l v (A 0) C listed a w) {Q : Exit → Act → World → Prop} {i : Nat} (hi : i ∈ Region.ready .any l.toArray listed) :
    wpOp P l.toArray Q i (fun a' w' => Inv l v (A 0) C (listed.setIfInBounds i true) a' w') a w := by
  obtain ⟨hun, o, ho', hdeps⟩ := mem_ready.1 hi
  have ho : l[i]? = some o := by simpa using ho'
  have hil : i < l.length := (List.getElem?_eq_some_iff.1 ho).1
  have his : i < listed.size := by rw [h.size]; exact hil
  have hun' : listed.getD i false = false := by simp [his] at hun ⊢; exact hun
  -- who is waited for has been; who waits has not
  have before : ∀ j oj, l[j]? = some oj → cl i j = true → listed.getD j false = true := fun j oj hj hc => by
    obtain ⟨e, he, hb, h'⟩ := ok.cert i j o oj ho hj hc
    have h1 := hdeps e he hb
    rcases h' with rfl | h'
    · exact h1
    · have hd := ok.down i o ho e he hb
      exact h.down ok l.length e.on j (by omega) ⟨_, List.getElem?_eq_getElem (show e.on < l.length by omega)⟩ ⟨oj, hj⟩ h' h1
  have behind : ∀ j oj, l[j]? = some oj → cl j i = true → listed.getD j false = false := fun j oj hj hc => by
    cases hl : listed.getD j false
    · rfl
    · have hjl : j < l.length := (List.getElem?_eq_some_iff.1 hj).1
      have := h.down ok l.length j i hjl ⟨oj, hj⟩ ⟨o, ho⟩ hc hl
      rw [hun'] at this; cases this
  have exec : execOp a.eval o = execOp (A i).eval o := execOp_congr o (fun cs b => Region.noSelect_spec ok.sel i o cs b ho') fun x hx => by
    cases x with
    | tmp t =>
      have ht : t ∈ o.looksAt l.toArray := List.mem_append_left _ (List.mem_filterMap.2 ⟨.tmp t, by simpa using hx, rfl⟩)
      have e := h.shape.same (hr.shape ok.dist i (by omega)) (t := t) fun j oj hj hd => by
        by_cases hji : j = i
        · subst hji; rw [hun']; simp
        · have hc := ok.looks i j o oj t ho hj (fun e => hji e.symm) hd ht
          by_cases hlt : j < i
          · rw [if_pos hlt] at hc; rw [before j oj hj hc]; simp [hlt]
          · rw [if_neg hlt] at hc; rw [behind j oj hj hc]; simp [hlt]
      simp only [Act.eval, Array.getD_eq_getD_getElem?, e]
    | const => rfl
    | global => rfl
    | func => rfl
  have hg := ok.guard i o ho
  have getset : ∀ j, (listed.setIfInBounds i true).getD j false = (listed.getD j false || j == i) := fun j => by
    by_cases hji : j = i
    · subst hji; simp [his]
    · rw [getD_set_ne false (fun e => hji e.symm)]; simp [hji]
  -- what is left of the invariant, whatever comes of the world
  have next : ∀ w', (∀ k, k ≤ l.length → (∀ (j : Nat) (oj : Oper), l[j]? = some oj → isStore oj = true → (listed.getD j false || j == i) = decide (j < k)) → C k w') → Inv l v (A 0) C (listed.setIfInBounds i true) (a.put o.dst (v i)) w' := fun w' hw => by
    refine ⟨by simp [h.size], fun j oj hj hl e he hb => ?_, (h.shape.put ok.dist ho).congr fun j oj hj => (getset j).symm, fun k hk hst => hw k hk fun j oj hj hs => by rw [← getset j]; exact hst j oj hj hs⟩
    rw [getset] at hl ⊢
    simp only [Bool.or_eq_true, beq_iff_eq] at hl ⊢
    rcases hl with hl | rfl
    · exact .inl (h.closed j oj hj hl e he hb)
    · rw [ho] at hj; injection hj with hj; subst hj; exact .inl (hdeps e he hb)
  unfold wpOp
  simp only [ho', Region.wanted, hg, if_true]
  refine .inl ?_
  cases hs : isStore o
  · cases hf : isFree o
    · cases hl : isLook o
      · -- a call
        have here : ∀ (j : Nat) (oj : Oper), l[j]? = some oj → isStore oj = true → listed.getD j false = decide (j < i) := fun j oj hj hsj => by
          have hji : j ≠ i := fun e => by subst e; rw [ho] at hj; injection hj with hj; subst hj; rw [hs] at hsj; cases hsj
          have hc := ok.store i j o oj ho hj (fun e => hji e.symm) hsj hf (by simp [hl])
          by_cases hlt : j < i
          · rw [if_pos hlt] at hc; rw [before j oj hj hc]; simp [hlt]
          · rw [if_neg hlt] at hc; rw [behind j oj hj hc]; simp [hlt]
        have hw := h.world i (by omega) here
        refine (((hr.read i o ho hs hf hl).2 w hw).congr exec).wp fun w' hw' => next w' fun k hk hst => ?_
        have hst' : ∀ (j : Nat) (oj : Oper), l[j]? = some oj → isStore oj = true → listed.getD j false = decide (j < k) := fun j oj hj hsj => by
          have hji : j ≠ i := fun e => by subst e; rw [ho] at hj; injection hj with hj; subst hj; rw [hs] at hsj; cases hsj
          have := hst j oj hj hsj; rw [show (j == i) = false from by simpa using hji, Bool.or_false] at this; exact this
        rw [hr.one (f := fun j => listed.getD j false) (by omega) hk here hst']; exact hw'
      · -- a look
        obtain ⟨k0, hk0, hat⟩ := h.where_ ok
        have hD : if st.contains i then E w else D i w := by
          have h00 := hr.held k0 hk0 w (h.world k0 hk0 hat)
          by_cases hst0 : st.contains i = true
          · rw [if_pos hst0]; exact h00.2
          rw [if_neg hst0]
          have h0 := h00.1
          have hst0 : st.contains i = false := by simpa using hst0
          have hard : ∀ (j : Nat) (oj : Oper), l[j]? = some oj → isHard oj = true → listed.getD j false = decide (j < i) ∧ j ≠ i := fun j oj hj hhj => by
            have hsj : isStore oj = true := by simp [isStore, hhj]
            have hji : j ≠ i := fun e => by subst e; rw [ho] at hj; injection hj with hj; subst hj; rw [hs] at hsj; cases hsj
            have hc := ok.store i j o oj ho hj (fun e => hji e.symm) hsj hf (by rw [hhj, hst0]; simp)
            by_cases hlt : j < i
            · rw [if_pos hlt] at hc; rw [before j oj hj hc]; simp [hlt, hji]
            · rw [if_neg hlt] at hc; rw [behind j oj hj hc]; simp [hlt, hji]
          have none : ∀ (j : Nat) (oj : Oper), l[j]? = some oj → isHard oj = true → decide (j < k0) = decide (j < i) := fun j oj hj hhj => by
            rw [← hat j oj hj (by simp [isStore, hhj])]; exact (hard j oj hj hhj).1
          rcases Nat.le_total i k0 with hle | hle
          · rw [hr.steady (i := i) (k0 - i) k0 (by omega) hk0 fun j oj hj hh h1 h2 => by
              have := none j oj hj hh; simp [h2] at this; omega] at h0
            exact h0
          · rw [← hr.steady (i := k0) (i - k0) i (by omega) (by omega) fun j oj hj hh h1 h2 => by
              have := none j oj hj hh; simp [h2] at this; omega] at h0
            exact h0
        refine (((hr.look i o ho hs hf hl).2 w hD).congr exec).wp fun w' hw' => next w' fun k hk hst => ?_
        subst hw'
        refine h.world k hk fun j oj hj hsj => ?_
        have hji : j ≠ i := fun e => by subst e; rw [ho] at hj; injection hj with hj; subst hj; rw [hs] at hsj; cases hsj
        have := hst j oj hj hsj; rw [show (j == i) = false from by simpa using hji, Bool.or_false] at this; exact this
    · -- nothing of the world
      refine (((hr.free i o ho hs hf).2 w).congr exec).wp fun w' hw' => next w' fun k hk hst => ?_
      subst hw'
      refine h.world k hk fun j oj hj hsj => ?_
      have hji : j ≠ i := fun e => by subst e; rw [ho] at hj; injection hj with hj; subst hj; rw [hs] at hsj; cases hsj
      have := hst j oj hj hsj; rw [show (j == i) = false from by simpa using hji, Bool.or_false] at this; exact this
  · -- a store
    have hf : isFree o = false := store_free hs
    have hlk : isLook o = false := store_look hs
    have here : ∀ (j : Nat) (oj : Oper), l[j]? = some oj → isStore oj = true → listed.getD j false = decide (j < i) := fun j oj hj hsj => by
      by_cases hji : j = i
      · subst hji; rw [hun']; simp
      · have hc := ok.store i j o oj ho hj (fun e => hji e.symm) hsj hf (by simp [hlk])
        by_cases hlt : j < i
        · rw [if_pos hlt] at hc; rw [before j oj hj hc]; simp [hlt]
        · rw [if_neg hlt] at hc; rw [behind j oj hj hc]; simp [hlt]
    have hw := h.world i (by omega) here
    have hgv := hr.store i o ho hs w hw
    refine (hgv.congr exec).wp fun w' hw' => next w' fun k hk hst => ?_
    have h1 : ∀ (j : Nat) (oj : Oper), l[j]? = some oj → isStore oj = true → (listed.getD j false || j == i) = decide (j < i + 1) := fun j oj hj hsj => by
      rw [here j oj hj hsj, Bool.eq_iff_iff]; simp; omega
    rw [hr.one (f := fun j => listed.getD j false || j == i) (by omega) hk h1 hst]; exact hw'

theorem Inv.all_ (hr : Run P (fun i => st.contains i) E l A C D v) (ok : Ok st l cl) {Q : Exit → Act → World → Prop} (hQ : ∀ w, C l.length w → Q .normal (A l.length) w) : ∀ (n : Nat) (listed : Array Bool) (a : Act) (w : World), Inv l v (A 0) C listed a w → unl (fun i => listed.getD i false) l.length ≤ n →
    wpAny P .any l.toArray Q n listed a w := by
  have last : ∀ (listed : Array Bool) (a : Act) (w : World), Inv l v (A 0) C listed a w → (∀ i, i < l.length → listed.getD i false = true) → Q .normal a w := fun listed a w h hall => by
    have e : a = A l.length := h.shape.ext (hr.shape ok.dist l.length (Nat.le_refl _)) fun j o hj => by
      have hjl : j < l.length := (List.getElem?_eq_some_iff.1 hj).1
      rw [hall j hjl]; simp [hjl]
    rw [e]
    exact hQ w (h.world l.length (Nat.le_refl _) fun j o hj _ => by
      have hjl : j < l.length := (List.getElem?_eq_some_iff.1 hj).1
      rw [hall j hjl]; simp [hjl])
  intro n
  induction n with
  | zero =>
    intro listed a w h hn
    have hall := unl_zero (f := fun i => listed.getD i false) (n := l.length) (by omega)
    refine ⟨?_, last listed a w h hall⟩
    cases hr' : Region.ready .any l.toArray listed with
    | nil => rfl
    | cons i is =>
      have hi : i ∈ Region.ready .any l.toArray listed := by rw [hr']; simp
      obtain ⟨hun, o, ho', _⟩ := mem_ready.1 hi
      have hil : i < l.length := by have := (Array.getElem?_eq_some_iff.1 ho').1; simpa using this
      have := hall i hil
      have his : i < listed.size := by rw [h.size]; exact hil
      simp [his] at hun this
      rw [this] at hun; cases hun
  | succ n ih =>
    intro listed a w h hn
    refine ⟨fun hr' => last listed a w h fun i hi => ?_, fun i hi => ?_⟩
    · induction i using Nat.strongRecOn with
      | _ i ihi =>
        cases hu : listed.getD i false
        · have ho : l[i]? = some (l[i]'hi) := List.getElem?_eq_getElem hi
          have : i ∈ Region.ready .any l.toArray listed := mem_ready.2 ⟨by
            have his : i < listed.size := by rw [h.size]; exact hi
            simp [his] at hu ⊢; exact hu, _, (by rw [List.getElem?_toArray]; exact ho), fun e he hb => by
            have hd := ok.down i _ ho e he hb
            exact ihi e.on hd (by omega)⟩
          rw [hr'] at this; cases this
        · rfl
    · refine wpOp_mono (fun a' w' h' => ih _ a' w' h' ?_) (h.step hr ok hi)
      obtain ⟨hun, o, ho', _⟩ := mem_ready.1 hi
      have hil : i < l.length := by have := (Array.getElem?_eq_some_iff.1 ho').1; simpa using this
      have his : i < listed.size := by rw [h.size]; exact hil
      have := unl_set (f := fun i => listed.getD i false) (g := fun j => (listed.setIfInBounds i true).getD j false) (i := i) (by simp [his] at hun ⊢; exact hun) (by simp [his]) (fun j hj => getD_set_ne false (fun e => hj e.symm)) hil
      omega

/-- **One walk serves every order.** -/
theorem any_of_lex {Q : Exit → Act → World → Prop} (hB : okB st l = true) (C0 D0 : World → Prop) (hC : C0 w.drew) (hCD : ∀ w, C0 w → D0 w ∧ E w)
    (h : wpLex P st E (fun a' C' => ∀ w', C' w' → Q .normal a' w') l 0 a C0 D0) : wpAny P .any l.toArray Q l.toArray.size (Array.replicate l.toArray.size false) a w.drew := by
  obtain ⟨A, Cs, Ds, v, hr, hA, hC0, hD0, hQ⟩ := run_of_lex l 0 a C0 D0 hCD h
  simp only [Nat.zero_add] at hr
  have ok := Ok.of st l hB
  have hinv : Inv l v (A 0) Cs (Array.replicate l.toArray.size false) a w.drew := by
    have hg : ∀ i, (Array.replicate l.length false).getD i false = false := fun i => by
      by_cases hi : i < l.length <;> simp [hi]
    refine ⟨by simp, fun i o ho hl => ?_, ?_, fun i hi hst => ?_⟩
    · simp only [List.size_toArray] at hl; rw [hg i] at hl; cases hl
    · rw [hA]; exact Shape.start.congr fun j o _ => by simp only [List.size_toArray]; rw [hg j]
    · have e : Cs i = Cs 0 := hr.between i i (by omega) hi fun j o hj hs h0 hlt => by
        have := hst j o hj hs
        simp only [List.size_toArray] at this
        rw [hg j] at this; simp at this; omega
      rw [e, hC0]; exact hC
  have := Inv.all_ hr ok (Q := Q) hQ l.toArray.size _ _ _ hinv (by have := unl_le (fun i => (Array.replicate l.toArray.size false).getD i false) l.length; simpa using this)
  exact this
end
theorem wp_region_lex {P : Program} {l : List Oper} {a : Act} {w : World} {id : Nat} {Q : Exit → Act → World → Prop} (hm : P.follows .mixedOrders = true) (st : List Nat) (hB : okB st l = true) (C0 D0 E : World → Prop) (hC : C0 w.drew) (hCD : ∀ w, C0 w → D0 w ∧ E w)
    (h : wpLex P st E (fun a' C' => ∀ w', C' w' → Q .normal a' w') l 0 a C0 D0) : (Code.region id l.toArray true).wp P Q a w :=
  wp_region_any hm (any_of_lex hB C0 D0 hC hCD h)

section
variable {P : Program} {st : List Nat} {E : World → Prop} {Q : Act → (World → Prop) → Prop} {o : Oper} {rest : List Oper} {n : Nat} {a : Act} {C D : World → Prop} {W : World}
theorem lex_free (hs : isStore o = false) (hf : isFree o = true) {v : Value} (hrun : ∀ w, (execOp a.eval o).run P w = .ok (.value v) w) (h : wpLex P st E Q rest (n + 1) (a.put o.dst v) C D) : wpLex P st E Q (o :: rest) n a C D := by
  unfold wpLex
  rw [if_neg (by simp [hs]), if_pos hf]
  exact ⟨v, fun w => by unfold Gives; rw [hrun w]; exact ⟨rfl, rfl⟩, h⟩
theorem lex_look (hs : isStore o = false) (hf : isFree o = false) (hl : isLook o = true) (hst : st.contains n = false) {v : Value} (hrun : ∀ w, D w → (execOp a.eval o).run P w = .ok (.value v) w) (h : wpLex P st E Q rest (n + 1) (a.put o.dst v) C D) : wpLex P st E Q (o :: rest) n a C D := by
  unfold wpLex
  rw [if_neg (by simp [hs]), if_neg (by simp [hf]), if_pos hl]
  exact ⟨v, fun w hw => by rw [if_neg (by rw [hst]; simp)] at hw; unfold Gives; rw [hrun w hw]; exact ⟨rfl, rfl⟩, h⟩
theorem lex_steady (hs : isStore o = false) (hf : isFree o = false) (hl : isLook o = true) (hst : st.contains n = true) {v : Value} (hrun : ∀ w, E w → (execOp a.eval o).run P w = .ok (.value v) w) (h : wpLex P st E Q rest (n + 1) (a.put o.dst v) C D) : wpLex P st E Q (o :: rest) n a C D := by
  unfold wpLex
  rw [if_neg (by simp [hs]), if_neg (by simp [hf]), if_pos hl]
  exact ⟨v, fun w hw => by rw [if_pos hst] at hw; unfold Gives; rw [hrun w hw]; exact ⟨rfl, rfl⟩, h⟩
theorem lex_store (hs : isStore o = true) (hh : isHard o = true) {C' D' : World → Prop} (hrun : ∀ w, C w → ∃ W', (execOp a.eval o).run P w = .ok .skip W' ∧ C' W') (hD : ∀ w, C' w → D' w ∧ E w) (h : wpLex P st E Q rest (n + 1) (a.put o.dst undef) C' D') : wpLex P st E Q (o :: rest) n a C D := by
  unfold wpLex
  rw [if_pos hs]
  exact ⟨undef, C', D', fun w hw => by obtain ⟨W', h1, h2⟩ := hrun w hw; unfold Gives; rw [h1]; exact ⟨rfl, h2⟩, fun e => by (rw [hh] at e; cases e), hD, h⟩
theorem lex_end {Q : Exit → Act → World → Prop} (h : ∀ w', C w' → Q .normal a w') : wpLex P st E (fun a' C' => ∀ w', C' w' → Q .normal a' w') [] n a C D := h
end
end Ry
namespace Go.Proofs.Ytcohbkgimlojpaa
open Go.RowKit
set_option linter.unusedVariables false
/-- All that was there stays, but block B. -/
structure Only (B : Nat) (w w' : World) : Prop where
  os : w'.os = w.os
  tape : w'.tape = w.tape
  output : w'.output = w.output
  size : w.heap.size ≤ w'.heap.size
  block : ∀ k, k < w.heap.size → k ≠ B → w'.heap[k]? = w.heap[k]?
section
variable {B : Nat} {w w' w'' : World}
theorem Only.refl (B : Nat) (w : World) : Only B w w := ⟨rfl, rfl, rfl, Nat.le_refl _, fun _ _ _ => rfl⟩
theorem Only.trans (h : Only B w w') (h' : Only B w' w'') : Only B w w'' :=
  ⟨h'.os.trans h.os, h'.tape.trans h.tape, h'.output.trans h.output, Nat.le_trans h.size h'.size, fun k hk hB => (h'.block k (Nat.lt_of_lt_of_le hk h.size) hB).trans (h.block k hk hB)⟩
theorem Only.of_below (h : Below w.heap.size w w') : Only B w w' := ⟨h.os, h.tape, h.output, h.size, fun k hk _ => h.block k hk⟩
theorem Only.set (w : World) (i : Nat) (u : Value) : Only B w (w.setCell ⟨B, i, none⟩ u) := by
  have h := (Below.refl B w).setCell (p := ⟨B, i, none⟩) (Nat.le_refl _) u
  exact ⟨h.os, h.tape, h.output, h.size, fun k hk hB => Below.heap_setCell w _ u k hB⟩
theorem Only.below {n : Nat} (h : Only B w w') (hn : n ≤ B) (hs : n ≤ w.heap.size) : Below n w w' := ⟨h.os, h.tape, h.output, h.size, fun k hk => h.block k (by omega) (by omega)⟩
theorem Only.box {g : Nat} {t : TypeId} {cs : Array Value} (h : Only B w w') (hb : Box w g t cs) (hg : g ≠ B) : Box w' g t cs := ⟨(h.block g hb.lt hg).trans hb.is⟩
end
end Go.Proofs.Ytcohbkgimlojpaa
namespace Qu
open Go Go.RowKit
/-- n cells, each told by its place. -/
def arr (n : Nat) (f : Nat → Value) : Array Value := Array.ofFn fun i : Fin n => f i.val
theorem arr_size (n : Nat) (f : Nat → Value) : (arr n f).size = n := Array.size_ofFn
theorem arr_get {n : Nat} {f : Nat → Value} {i : Nat} (h : i < n) : (arr n f)[i]? = some (f i) := by
  unfold arr
  rw [Array.getElem?_ofFn, dif_pos h]
theorem arr_congr {n : Nat} {f g : Nat → Value} (h : ∀ i, i < n → f i = g i) : arr n f = arr n g := by
  refine Array.ext_getElem? fun i => ?_
  by_cases hi : i < n
  · rw [arr_get hi, arr_get hi, h i hi]
  · rw [Array.getElem?_eq_none (by rw [arr_size]; omega), Array.getElem?_eq_none (by rw [arr_size]; omega)]
theorem arr_put {n : Nat} {f : Nat → Value} {k : Nat} {v : Value} : (arr n f).setIfInBounds k v = arr n (upd f k v) := by
  refine Array.ext_getElem? fun i => ?_
  by_cases hi : i < n
  · rw [arr_get hi]
    by_cases hik : k = i
    · subst hik
      rw [Array.getElem?_setIfInBounds_self_of_lt (by rw [arr_size]; exact hi), upd_same]
    · rw [Array.getElem?_setIfInBounds_ne hik, arr_get hi, upd_other _ _ (Ne.symm hik)]
  · rw [Array.getElem?_eq_none (by rw [Array.size_setIfInBounds, arr_size]; omega), Array.getElem?_eq_none (by rw [arr_size]; omega)]
def inCells (i : Gm.In) : Array Value := #[.int .i8 i.x, .int .i8 i.y, .int .u8 i.b]
/-- The so-manyth cell of an input. -/
def inAt (i : Gm.In) (c : Nat) : Value := if c = 0 then .int .i8 i.x else if c = 1 then .int .i8 i.y else .int .u8 i.b
def none_ : Gm.In := ⟨0, 0, 0⟩
/-- The document's queue, cell by cell. -/
def qf (m : M) : Nat → Value := fun i =>
  if i = 0 then .int .i64 m.from_
  else if i < 4 then inAt m.last (i - 1)
  else if i < 68 then .bool (m.known (i - 4)).isSome
  else inAt ((m.known ((i - 68) / 3)).getD none_) ((i - 68) % 3)
theorem qf_0 (m : M) : qf m 0 = .int .i64 m.from_ := rfl
theorem qf_1 (m : M) : qf m 1 = .int .i8 m.last.x := rfl
theorem qf_2 (m : M) : qf m 2 = .int .i8 m.last.y := rfl
theorem qf_3 (m : M) : qf m 3 = .int .u8 m.last.b := rfl
theorem qf_has (m : M) {k : Nat} (hk : k < 64) : qf m (4 + k) = .bool (m.known k).isSome := by
  unfold qf
  rw [if_neg (by omega), if_neg (by omega), if_pos (by omega), show 4 + k - 4 = k by omega]
theorem qf_in (m : M) (k c : Nat) (hc : c < 3) : qf m (68 + k * 3 + c) = inAt ((m.known k).getD none_) c := by
  unfold qf
  rw [if_neg (by omega), if_neg (by omega), if_neg (by omega), show (68 + k * 3 + c - 68) / 3 = k by omega, show (68 + k * 3 + c - 68) % 3 = c by omega]
end Qu
namespace Go.Proofs.Ytcohbkgimlojpaa
open Go.RowKit
set_option linter.unusedVariables false
set_option linter.unusedSimpArgs false
section
variable {w : World} {B n : Nat} {t : TypeId} {f : Nat → Value}
theorem arr_cell (h : Box w B t (Qu.arr n f)) {i : Nat} (hi : i < n) : w.cell? ⟨B, i, none⟩ = some (f i) := (h.cell i).trans (Qu.arr_get hi)
theorem arr_store (h : Box w B t (Qu.arr n f)) {i : Nat} (hi : i < n) (v : Value) : Box (w.setCell ⟨B, i, none⟩ v) B t (Qu.arr n (Qu.upd f i v)) := by
  rw [← Qu.arr_put]
  exact h.put i v
end
/-- The document's queue lies there. -/
abbrev RefQ (B : Nat) (m : Qu.M) (X : World) : Prop := Box X B 37 (Qu.arr 260 (Qu.qf m))
theorem q_built (f x y b : Int) : Try.prog.built 37 [(0, .int .i64 f), (1, .agg #[.int .i8 x, .int .i8 y, .int .u8 b])] = some (Qu.arr 260 (Qu.qf (Qu.new f ⟨x, y, b⟩))) := by kernel_rfl
theorem in_info : (Try.prog.info? 24).map (·.size) = some (#[Value.int .i8 0, .int .i8 0, .int .u8 0] : Array Value).size := by kernel_rfl
theorem two_belowQ (w : World) (o o' : Obj) : Below w.heap.size w ((w.alloc o).alloc o') := (one_below w o).trans ((one_below _ _).mono (by simp))
set_option maxHeartbeats 1000000 in
theorem refqnew_any (f : Int) (i : Gm.In) (X : World) :
    Calls Try.prog 8 #[.int .i64 f, .agg (Qu.inCells i)] X fun e X' => ∃ B, e = .returned (.pointer (some ⟨B, 0, none⟩)) ∧ RefQ B (Qu.new f i) X' ∧ Below X.heap.size X X' ∧ X.heap.size ≤ B := by
  obtain ⟨x, y, b⟩ := i
  have hbu := q_built f x y b
  have R := Lib.hid (show RefQ (X.heap.size + 1) (Qu.new f ⟨x, y, b⟩) ((X.alloc (.cells #[.int .i8 x, .int .i8 y, .int .u8 b] 24)).alloc (.cells (Qu.arr 260 (Qu.qf (Qu.new f ⟨x, y, b⟩))) 37)) from Box.made_at _ _ _ (by simp))
  have K := Lib.hid (two_belowQ X (.cells #[.int .i8 x, .int .i8 y, .int .u8 b] 24) (.cells (Qu.arr 260 (Qu.qf (Qu.new f ⟨x, y, b⟩))) 37))
  unfold Qu.inCells
  dsimp only
  generalize Qu.arr 260 (Qu.qf (Qu.new f ⟨x, y, b⟩)) = CS at *
  go_enter Try.func8, Try.ntmps8
  go_wp2_with (refine wpList_build_is rfl (t := 37) (vs := [(0, .int .i64 f), (1, .agg #[.int .i8 x, .int .i8 y, .int .u8 b])]) rfl rfl hbu ?_)
  go_ret
  exact ⟨X.heap.size + 1, rfl, R.out, K.out, by omega⟩
set_option maxHeartbeats 1000000 in
theorem refqknown_any (B n : Nat) (m : Qu.M) (hn : Qu.Run m n) (X : World) (h : RefQ B m X) :
    Calls Try.prog 18 #[.pointer (some ⟨B, 0, none⟩)] X fun e X' => e = .returned (.int .i64 n) ∧ X = X' := by
  have HB := Lib.hid h
  have HN := Lib.hid hn
  clear h hn
  go_enter Try.func18, Try.ntmps18
  go_wp2_with fail
  go_loopw [3] (fun i wr => ∃ k : Nat, k ≤ n ∧ i = .int .i64 k ∧ X = wr) (fun i _ => n - (intOf i).toNat)
  case atStart => exact ⟨0, Nat.zero_le _, rfl, rfl⟩
  case round =>
    obtain ⟨k, hk, rfl, rfl⟩ := hrel
    have hn64 := HN.out.1
    by_cases hlt : k < n
    · have h64 : (k : Int) < 64 := by omega
      have kh : X.cell? ⟨B, 4 + k, none⟩ = some (.bool true) := by
        rw [arr_cell HB.out (by omega), Qu.qf_has m (by omega), HN.out.2.1 k hlt]
      go_wp2_with fail
      go_roundw
      case rel => exact ⟨k + 1, by omega, by go_num, by first | rfl | trivial⟩
      case measure => simp [intOf]; omega
    · obtain rfl : k = n := by omega
      by_cases hk64 : k < 64
      · have h64 : (k : Int) < 64 := by omega
        have kh : X.cell? ⟨B, 4 + k, none⟩ = some (.bool false) := by
          rw [arr_cell HB.out (by omega), Qu.qf_has m (by omega), HN.out.2.2 hk64]; rfl
        go_wp2_with fail
        go_ret
        first | exact ⟨rfl, rfl⟩ | exact ⟨rfl, trivial⟩
      · have h64 : ¬ (k : Int) < 64 := by omega
        go_wp2_with fail
        go_ret
        first | exact ⟨rfl, rfl⟩ | exact ⟨rfl, trivial⟩
theorem gap_u64 (f t : Int) (hf : -9223372036854775808 ≤ f ∧ f ≤ 9223372036854775807) (ht : -9223372036854775808 ≤ t ∧ t ≤ 9223372036854775807) (h : t ≤ f) :
    IntKind.u64.wrap (IntKind.u64.wrap f - IntKind.u64.wrap t) = f - t := by
  rw [IntKind.wrap_u64, IntKind.wrap_u64, IntKind.wrap_u64]
  omega
end Go.Proofs.Ytcohbkgimlojpaa
namespace Go.Proofs.Ytcohbkgimlojpaa
open Go.RowKit
set_option linter.unusedVariables false
set_option linter.unusedSimpArgs false
/-- Three cells of an input's block are rewritten. -/
theorem in_stored {w : World} {P : Nat} {a b c : Value} (h : Box w P 24 #[a, b, c]) (i : Gm.In) :
    Box (((w.setCell ⟨P, 0, none⟩ (.int .i8 i.x)).setCell ⟨P, 1, none⟩ (.int .i8 i.y)).setCell ⟨P, 2, none⟩ (.int .u8 i.b)) P 24 (Qu.inCells i) := ((h.put 0 _).put 1 _).put 2 _
theorem below_in3 {b P : Nat} {w w' : World} (h : Below b w w') (hb : b ≤ P) (u v x : Value) : Below b w (((w'.setCell ⟨P, 0, none⟩ u).setCell ⟨P, 1, none⟩ v).setCell ⟨P, 2, none⟩ x) :=
  ((h.setCell (p := ⟨P, 0, none⟩) hb u).setCell (p := ⟨P, 1, none⟩) hb v).setCell (p := ⟨P, 2, none⟩) hb x
theorem in_far3 {w : World} {P g : Nat} {t : TypeId} {cs : Array Value} (h : Box w g t cs) (hg : g ≠ P) (u v x : Value) : Box (((w.setCell ⟨P, 0, none⟩ u).setCell ⟨P, 1, none⟩ v).setCell ⟨P, 2, none⟩ x) g t cs :=
  ((h.far (p := ⟨P, 0, none⟩) hg u).far (p := ⟨P, 1, none⟩) hg v).far (p := ⟨P, 2, none⟩) hg x
set_option maxRecDepth 100000 in
set_option maxHeartbeats 4000000 in
theorem refqat_any (B : Nat) (m : Qu.M) (f : Int) (hf : -9223372036854775808 ≤ f ∧ f ≤ 9223372036854775807) (hft : -9223372036854775808 ≤ m.from_ ∧ m.from_ ≤ 9223372036854775807) (X : World) (h : RefQ B m X) :
    Calls Try.prog 15 #[.pointer (some ⟨B, 0, none⟩), .int .i64 f] X fun e X' => e = .returned (.tuple #[.agg (Qu.inCells (Qu.at_ m f).1), .bool (Qu.at_ m f).2]) ∧ Below X.heap.size X X' := by
  have HB := Lib.hid h
  obtain ⟨X2, hX2⟩ : ∃ X2, X2 = ((X.alloc (.cells #[.int .i8 0, .int .i8 0, .int .u8 0] 24)).alloc (.cells #[.int .i8 m.last.x, .int .i8 m.last.y, .int .u8 m.last.b] 24)) := ⟨_, rfl⟩
  have b2 := Lib.hid (show Below X.heap.size X X2 by rw [hX2]; exact two_belowQ X _ _)
  have p0 := Lib.hid (show Box X2 X.heap.size 24 #[.int .i8 0, .int .i8 0, .int .u8 0] by rw [hX2]; exact (Box.made X _ _).alloc _)
  have p1 := Lib.hid (show Box X2 (X.heap.size + 1) 24 (Qu.inCells m.last) by rw [hX2]; exact Box.made_at _ _ _ (by simp))
  have k1 := arr_cell h (show 1 < 260 by decide)
  have k2 := arr_cell h (show 2 < 260 by decide)
  have k3 := arr_cell h (show 3 < 260 by decide)
  rw [Qu.qf_1] at k1
  rw [Qu.qf_2] at k2
  rw [Qu.qf_3] at k3
  clear h
  have hlt := HB.out.lt
  go_enter Try.func15, Try.ntmps15
  go_upto_region 2 with fail
  rw [← hX2]
  have HX2 := Lib.hid hX2
  clear k1 k2 k3 hX2
  obtain ⟨lx, hlx⟩ : ∃ lx, lx = (m.last.x) := ⟨_, rfl⟩
  obtain ⟨ly, hly⟩ : ∃ ly, ly = (m.last.y) := ⟨_, rfl⟩
  obtain ⟨lb, hlb⟩ : ∃ lb, lb = (m.last.b) := ⟨_, rfl⟩
  rw [← hlx, ← hly, ← hlb]
  clear hlx hly hlb
  have BX := Lib.hid hlt
  clear hlt
  by_cases hlow : f < m.from_
  · have HA := Lib.hid (show Qu.at_ m f = (m.last, false) from if_pos hlow)
    have kf : X2.cell? ⟨B, 0, none⟩ = some (.int .i64 m.from_) := by
      have := arr_cell (HB.out.below b2.out BX.out) (show 0 < 260 by decide)
      rwa [Qu.qf_0] at this
    have hlow' : ¬ m.from_ ≤ f := by omega
    generalize m.from_ = t at *
    have q0 : X2.cell? ⟨X.heap.size + 1, 0, none⟩ = some (.int .i8 m.last.x) := p1.out.cell 0
    have q1 : X2.cell? ⟨X.heap.size + 1, 1, none⟩ = some (.int .i8 m.last.y) := p1.out.cell 1
    have q2 : X2.cell? ⟨X.heap.size + 1, 2, none⟩ = some (.int .u8 m.last.b) := p1.out.cell 2
    have r0 : X2.cell? ⟨X.heap.size, 0, none⟩ = some (.int .i8 0) := p0.out.cell 0
    have r1 : X2.cell? ⟨X.heap.size, 1, none⟩ = some (.int .i8 0) := p0.out.cell 1
    have r2 : X2.cell? ⟨X.heap.size, 2, none⟩ = some (.int .u8 0) := p0.out.cell 2
    have fr := p0.out.free
    have lr := p0.out.lt
    have E := Lib.hid (in_stored p0.out m.last)
    have K := Lib.hid (below_in3 b2.out (Nat.le_refl _) (.int .i8 m.last.x) (.int .i8 m.last.y) (.int .u8 m.last.b))
    go_wp2_with fail
    go_loopw [7, 8, 9] (fun s7 s8 _ wr => s7 = .bool false ∧ s8 = .int .i64 0 ∧ X2 = wr) (fun _ _ _ _ => 0)
    case atStart => exact ⟨rfl, rfl, rfl⟩
    case round =>
      obtain ⟨rfl, rfl, rfl⟩ := hrel
      go_wp2_with fail
      refine bodyPost_ret (v := .tuple #[.agg (Qu.inCells m.last), .bool false]) ?_ ?_ ?_
      · exact results_cell_tmp (p := 4) (q := 5) rfl _ _ _ _ (Qu.inCells m.last) _ rfl E.out Try.underlying24 rfl in_info
      · rfl
      · exact ⟨by rw [HA.out], K.out⟩
  · obtain ⟨d, hd⟩ : ∃ d : Nat, f - m.from_ = d := ⟨(f - m.from_).toNat, by omega⟩
    have HA := Lib.hid (show Qu.at_ m f = Qu.atN m d 64 by unfold Qu.at_; rw [if_neg hlow, hd]; rfl)
    have hge : m.from_ ≤ f := by omega
    have hgap := gap_u64 f m.from_ hf hft hge
    rw [hd] at hgap
    clear hlow hd hf hft
    go_wp2_with fail
    go_loopw [7, 8, 9] (fun s7 s8 _ wr => ∃ k : Nat, k ≤ 64 ∧ s8 = .int .i64 k ∧ s7 = .bool (Qu.atN m d k).2 ∧ Box wr (X.heap.size + 1) 24 (Qu.inCells (Qu.atN m d k).1) ∧ Box wr X.heap.size 24 #[.int .i8 0, .int .i8 0, .int .u8 0] ∧ Below X.heap.size X wr) (fun _ i _ _ => 64 - (intOf i).toNat)
    case atStart => exact ⟨0, Nat.zero_le _, rfl, rfl, p1.out, p0.out, b2.out⟩
    case round =>
      obtain ⟨k, hk, rfl, rfl, h1, h0, hW⟩ := hrel
      have H1 := Lib.hid h1
      have H0 := Lib.hid h0
      have HW := Lib.hid hW
      have BW := Lib.hid (HB.out.below hW BX.out)
      have kf : wr.cell? ⟨B, 0, none⟩ = some (.int .i64 m.from_) := by
        have := arr_cell BW.out (show 0 < 260 by decide)
        rwa [Qu.qf_0] at this
      clear h1 h0 hW
      by_cases hlt : k < 64
      · have h64 : (k : Int) < 64 := by omega
        have hkw : IntKind.u64.wrap (k : Int) = k := by rw [IntKind.wrap_u64]; omega
        have kh : wr.cell? ⟨B, 4 + k, none⟩ = some (.bool (m.known k).isSome) := by
          rw [arr_cell BW.out (by omega), Qu.qf_has m hlt]
        cases hkn : m.known k with
        | none =>
          rw [hkn] at kh
          have kh : wr.cell? ⟨B, 4 + k, none⟩ = some (.bool false) := kh
          have HN := Lib.hid (Qu.atN_succ_none (d := d) hkn)
          clear hkn
          generalize m.from_ = t at *
          go_wp2_with fail
          go_roundw
          case rel => exact ⟨k + 1, by omega, by go_num, by rw [HN.out], by rw [HN.out]; exact H1.out, H0.out, HW.out⟩
          case measure => simp [intOf]; omega
        | some v =>
          rw [hkn] at kh
          have kh : wr.cell? ⟨B, 4 + k, none⟩ = some (.bool true) := kh
          by_cases hkd : k ≤ d
          · have hkdi : (k : Int) ≤ (d : Int) := by omega
            have HN := Lib.hid (Qu.atN_succ_some hkn hkd)
            have heq : ((d : Int) == (k : Int)) = decide (d = k) := by
              by_cases h : d = k
              · rw [decide_eq_true h, h]; exact beq_self_eq_true _
              · rw [decide_eq_false h]; exact beq_eq_false_iff_ne.2 (by omega)
            have i0 : wr.cell? ⟨B, 68 + k * 3, none⟩ = some (.int .i8 v.x) := by
              have := arr_cell BW.out (show 68 + k * 3 + 0 < 260 by omega)
              rwa [Qu.qf_in m k 0 (by decide), hkn] at this
            have i1 : wr.cell? ⟨B, 68 + k * 3 + 1, none⟩ = some (.int .i8 v.y) := by
              have := arr_cell BW.out (show 68 + k * 3 + 1 < 260 by omega)
              rwa [Qu.qf_in m k 1 (by decide), hkn] at this
            have i2 : wr.cell? ⟨B, 68 + k * 3 + 2, none⟩ = some (.int .u8 v.b) := by
              have := arr_cell BW.out (show 68 + k * 3 + 2 < 260 by omega)
              rwa [Qu.qf_in m k 2 (by decide), hkn] at this
            have q0 : wr.cell? ⟨X.heap.size + 1, 0, none⟩ = some (.int .i8 (Qu.atN m d k).1.x) := H1.out.cell 0
            have q1 : wr.cell? ⟨X.heap.size + 1, 1, none⟩ = some (.int .i8 (Qu.atN m d k).1.y) := H1.out.cell 1
            have q2 : wr.cell? ⟨X.heap.size + 1, 2, none⟩ = some (.int .u8 (Qu.atN m d k).1.b) := H1.out.cell 2
            have fr := H1.out.free
            have lr := H1.out.lt
            have E := Lib.hid (in_stored H1.out v)
            have G := Lib.hid (in_far3 (P := X.heap.size + 1) H0.out (by omega) (.int .i8 v.x) (.int .i8 v.y) (.int .u8 v.b))
            have K := Lib.hid (below_in3 (P := X.heap.size + 1) HW.out (by omega) (.int .i8 v.x) (.int .i8 v.y) (.int .u8 v.b))
            clear hkn hkd
            generalize m.from_ = t at *
            generalize (Qu.atN m d k).1.x = ax at *
            generalize (Qu.atN m d k).1.y = ay at *
            generalize (Qu.atN m d k).1.b = ab at *
            go_wp2_with fail
            go_roundw
            case rel => exact ⟨k + 1, by omega, by go_num, by rw [HN.out], by rw [HN.out]; exact E.out, G.out, K.out⟩
            case measure => simp [intOf]; omega
          · have hkdi : ¬ (k : Int) ≤ (d : Int) := by omega
            have HN := Lib.hid (Qu.atN_succ_far (m := m) hkd)
            clear hkn hkd
            generalize m.from_ = t at *
            go_wp2_with fail
            go_roundw
            case rel => exact ⟨k + 1, by omega, by go_num, by rw [HN.out], by rw [HN.out]; exact H1.out, H0.out, HW.out⟩
            case measure => simp [intOf]; omega
      · obtain rfl : k = 64 := by omega
        have h64 : ¬ ((64 : Nat) : Int) < 64 := by omega
        generalize Qu.atN m d 64 = r at *
        have q0 : wr.cell? ⟨X.heap.size + 1, 0, none⟩ = some (.int .i8 r.1.x) := H1.out.cell 0
        have q1 : wr.cell? ⟨X.heap.size + 1, 1, none⟩ = some (.int .i8 r.1.y) := H1.out.cell 1
        have q2 : wr.cell? ⟨X.heap.size + 1, 2, none⟩ = some (.int .u8 r.1.b) := H1.out.cell 2
        have r0 : wr.cell? ⟨X.heap.size, 0, none⟩ = some (.int .i8 0) := H0.out.cell 0
        have r1 : wr.cell? ⟨X.heap.size, 1, none⟩ = some (.int .i8 0) := H0.out.cell 1
        have r2 : wr.cell? ⟨X.heap.size, 2, none⟩ = some (.int .u8 0) := H0.out.cell 2
        have fr := H0.out.free
        have lr := H0.out.lt
        have E := Lib.hid (in_stored H0.out r.1)
        have K := Lib.hid (below_in3 HW.out (Nat.le_refl _) (.int .i8 r.1.x) (.int .i8 r.1.y) (.int .u8 r.1.b))
        go_wp2_with fail
        refine bodyPost_ret (v := .tuple #[.agg (Qu.inCells r.1), .bool r.2]) ?_ ?_ ?_
        · exact results_cell_tmp (p := 4) (q := 5) rfl _ _ _ _ (Qu.inCells r.1) _ rfl E.out Try.underlying24 rfl in_info
        · rfl
        · exact ⟨by rw [HA.out], K.out⟩
end Go.Proofs.Ytcohbkgimlojpaa
namespace Go
open Go.RowKit

/-- A world that came of W, with every block below B as it was. -/
structure Ext (B : Nat) (W : World) where
  w : World
  h : Below B W w

instance {B : Nat} {W : World} : Nonempty (Ext B W) := ⟨⟨W, Below.refl _ _⟩⟩

theorem Ext.cell {B : Nat} {W : World} (q : Ext B W) {b o : Nat} {v : Value} (hb : b < B) (hc : W.cell? ⟨b, o, none⟩ = some v) : q.w.cell? ⟨b, o, none⟩ = some v :=
  (q.h.cell (p := ⟨b, o, none⟩) hb).trans hc

theorem wp_region_ext {P : Program} {id : Nat} {Q : Exit → Act → World → Prop} {a : Act} {w : World} {l : List Oper} (B : Nat) (W : World) (hm : P.follows .mixedOrders = true) (hB : Region.lexB .any l.toArray = true) (hC : Below B W w)
    (h : wpQuiet P l.toArray (fun w' => ∃ q : Ext B W, w' = q.w) (fun a' => ∀ w', (∃ q : Ext B W, w' = q.w) → Q .normal a' w') l a) : (Code.region id l.toArray true).wp P Q a w :=
  wp_region_quiet (C := fun w' => ∃ q : Ext B W, w' = q.w) hm hB ⟨⟨_, hC.drew⟩, rfl⟩ (by simpa using h)

/-- A callee that may make memory. -/
theorem Calls.ext_of {P : Program} {f : FuncId} {args : Array Value} {B : Nat} {W : World} {q : Ext B W} {v : Value} (hB : B ≤ W.heap.size)
    (h : Calls P f args q.w fun e w' => e = .returned v ∧ Below q.w.heap.size q.w w') : Calls P f args q.w fun e w'' => e = .returned v ∧ ∃ q' : Ext B W, w'' = q'.w :=
  h.mono fun _ w' ⟨he, hb⟩ => ⟨he, ⟨w', q.h.trans (hb.mono (Nat.le_trans hB q.h.size))⟩, rfl⟩

end Go
namespace Qu
open Go Go.RowKit
theorem inB_is (i : Gm.In) : inB i = decide (-127 ≤ i.x ∧ -127 ≤ i.y) := rfl
/-- Put, cell by cell. -/
theorem qf_put (m : M) (d : Nat) (i : Gm.In) (hd : d < 64) (k : Nat) : upd (upd (upd (upd (qf m) (4 + d) (.bool true)) (68 + d * 3) (.int .i8 i.x)) (68 + d * 3 + 1) (.int .i8 i.y)) (68 + d * 3 + 2) (.int .u8 i.b) k = qf { m with known := upd m.known d (some i) } k := by
  by_cases h0 : k = 4 + d
  · rw [h0, upd_other _ _ (by omega), upd_other _ _ (by omega), upd_other _ _ (by omega), upd_same, qf_has _ hd]
    show _ = Value.bool (upd m.known d (some i) d).isSome
    rw [upd_same]; rfl
  · by_cases h1 : k = 68 + d * 3
    · rw [h1, upd_other _ _ (by omega), upd_other _ _ (by omega), upd_same]
      have := qf_in { m with known := upd m.known d (some i) } d 0 (by decide)
      rw [Nat.add_zero] at this
      rw [this]
      show _ = inAt ((upd m.known d (some i) d).getD none_) 0
      rw [upd_same]; rfl
    · by_cases h2 : k = 68 + d * 3 + 1
      · rw [h2, upd_other _ _ (by omega), upd_same, qf_in _ d 1 (by decide)]
        show _ = inAt ((upd m.known d (some i) d).getD none_) 1
        rw [upd_same]; rfl
      · by_cases h3 : k = 68 + d * 3 + 2
        · rw [h3, upd_same, qf_in _ d 2 (by decide)]
          show _ = inAt ((upd m.known d (some i) d).getD none_) 2
          rw [upd_same]; rfl
        · rw [upd_other _ _ h3, upd_other _ _ h2, upd_other _ _ h1, upd_other _ _ h0]
          unfold qf
          split
          · rfl
          · split
            · rfl
            · split
              · show _ = Value.bool (upd m.known d (some i) (k - 4)).isSome
                rw [upd_other _ _ (show k - 4 ≠ d by omega)]
              · show _ = inAt ((upd m.known d (some i) ((k - 68) / 3)).getD none_) ((k - 68) % 3)
                rw [upd_other _ _ (show (k - 68) / 3 ≠ d by omega)]
end Qu
namespace Go.Proofs.Ytcohbkgimlojpaa
open Go.RowKit
set_option linter.unusedVariables false
set_option linter.unusedSimpArgs false

set_option maxRecDepth 100000 in
set_option maxHeartbeats 4000000 in
theorem refqput_not (B : Nat) (m : Qu.M) (f : Int) (i : Gm.In) (hi : Gm.tyIn i) (hf : -9223372036854775808 ≤ f ∧ f ≤ 9223372036854775807) (hft : -9223372036854775808 ≤ m.from_ ∧ m.from_ ≤ 9223372036854775807) (hb : Qu.inB i = false) (X : World) (h : RefQ B m X) :
    Calls Try.prog 11 #[.pointer (some ⟨B, 0, none⟩), .int .i64 f, .agg (Qu.inCells i)] X fun e X' => e = .returned (.bool false) ∧ Below X.heap.size X X' := by
  have HB := Lib.hid h
  have cm := fun X => Lib.hid (refmayin_q i.x i.y i.b X hi.1.1 hi.2.1.1)
  rw [← Qu.inB_is] at cm
  rw [hb] at cm
  obtain ⟨x, y, b⟩ := i
  unfold Qu.inCells
  dsimp only at *
  obtain ⟨X1, hX1⟩ : ∃ X1, X1 = X.alloc (.cells #[.int .i8 x, .int .i8 y, .int .u8 b] 24) := ⟨_, rfl⟩
  have K1 := Lib.hid (show Below X.heap.size X X1 by rw [hX1]; exact one_below X _)
  have P1 := Lib.hid (show Box X1 X.heap.size 24 #[.int .i8 x, .int .i8 y, .int .u8 b] by rw [hX1]; exact Box.made X _ _)
  have B1 := Lib.hid (HB.out.below K1.out HB.out.lt)
  have z0 : ∀ q : Ext X1.heap.size X1, q.w.cell? ⟨X.heap.size, 0, none⟩ = some (.int .i8 x) := fun q => q.cell P1.out.lt (P1.out.cell 0)
  have z1 : ∀ q : Ext X1.heap.size X1, q.w.cell? ⟨X.heap.size, 1, none⟩ = some (.int .i8 y) := fun q => q.cell P1.out.lt (P1.out.cell 1)
  have z2 : ∀ q : Ext X1.heap.size X1, q.w.cell? ⟨X.heap.size, 2, none⟩ = some (.int .u8 b) := fun q => q.cell P1.out.lt (P1.out.cell 2)
  have zf : ∀ q : Ext X1.heap.size X1, q.w.cell? ⟨B, 0, none⟩ = some (.int .i64 m.from_) := fun q => q.cell B1.out.lt ((arr_cell B1.out (show 0 < 260 by decide)).trans (by rw [Qu.qf_0]))
  clear h hi hf hft
  generalize hmt : m.from_ = t at *
  have HMT := Lib.hid hmt
  clear hmt
  go_enter Try.func11, Try.ntmps11
  go_upto_region 1 with fail
  rw [← hX1]
  clear hX1
  refine wp_region_ext X1.heap.size X1 (by kernel_rfl) (by kernel_rfl) (Below.refl _ _) ?_
  repeat (go_big_quiet_step (first | (go_at_call 22; with_reducible exact Calls.ext_of (Nat.le_refl _) (cm _).out) | fail))
  refine wpQuiet_nil ?_
  intro _ hw'
  obtain ⟨q5, hw''⟩ := hw'
  subst hw''
  have R5 := Lib.hid (K1.out.trans (q5.h.mono K1.out.size))
  clear z0 z1 z2 zf cm
  go_wp2_with fail
  go_ret
  exact ⟨rfl, R5.out⟩

set_option maxRecDepth 100000 in
set_option maxHeartbeats 4000000 in
theorem refqput_low (B : Nat) (m : Qu.M) (f : Int) (i : Gm.In) (hi : Gm.tyIn i) (hf : -9223372036854775808 ≤ f ∧ f ≤ 9223372036854775807) (hft : -9223372036854775808 ≤ m.from_ ∧ m.from_ ≤ 9223372036854775807) (hb : Qu.inB i = true) (hlow : f < m.from_) (X : World) (h : RefQ B m X) :
    Calls Try.prog 11 #[.pointer (some ⟨B, 0, none⟩), .int .i64 f, .agg (Qu.inCells i)] X fun e X' => e = .returned (.bool false) ∧ Below X.heap.size X X' := by
  have HB := Lib.hid h
  have cm := fun X => Lib.hid (refmayin_q i.x i.y i.b X hi.1.1 hi.2.1.1)
  rw [← Qu.inB_is] at cm
  rw [hb] at cm
  obtain ⟨x, y, b⟩ := i
  unfold Qu.inCells
  dsimp only at *
  obtain ⟨X1, hX1⟩ : ∃ X1, X1 = X.alloc (.cells #[.int .i8 x, .int .i8 y, .int .u8 b] 24) := ⟨_, rfl⟩
  have K1 := Lib.hid (show Below X.heap.size X X1 by rw [hX1]; exact one_below X _)
  have P1 := Lib.hid (show Box X1 X.heap.size 24 #[.int .i8 x, .int .i8 y, .int .u8 b] by rw [hX1]; exact Box.made X _ _)
  have B1 := Lib.hid (HB.out.below K1.out HB.out.lt)
  have z0 : ∀ q : Ext X1.heap.size X1, q.w.cell? ⟨X.heap.size, 0, none⟩ = some (.int .i8 x) := fun q => q.cell P1.out.lt (P1.out.cell 0)
  have z1 : ∀ q : Ext X1.heap.size X1, q.w.cell? ⟨X.heap.size, 1, none⟩ = some (.int .i8 y) := fun q => q.cell P1.out.lt (P1.out.cell 1)
  have z2 : ∀ q : Ext X1.heap.size X1, q.w.cell? ⟨X.heap.size, 2, none⟩ = some (.int .u8 b) := fun q => q.cell P1.out.lt (P1.out.cell 2)
  have zf : ∀ q : Ext X1.heap.size X1, q.w.cell? ⟨B, 0, none⟩ = some (.int .i64 m.from_) := fun q => q.cell B1.out.lt ((arr_cell B1.out (show 0 < 260 by decide)).trans (by rw [Qu.qf_0]))
  clear h hi hf hft
  generalize hmt : m.from_ = t at *
  have HMT := Lib.hid hmt
  clear hmt
  go_enter Try.func11, Try.ntmps11
  go_upto_region 1 with fail
  rw [← hX1]
  clear hX1
  refine wp_region_ext X1.heap.size X1 (by kernel_rfl) (by kernel_rfl) (Below.refl _ _) ?_
  repeat (go_big_quiet_step (first | (go_at_call 22; with_reducible exact Calls.ext_of (Nat.le_refl _) (cm _).out) | fail))
  refine wpQuiet_nil ?_
  intro _ hw'
  obtain ⟨q5, hw''⟩ := hw'
  subst hw''
  have R5 := Lib.hid (K1.out.trans (q5.h.mono K1.out.size))
  clear z0 z1 z2 zf cm
  go_wp2_with fail
  go_ret
  exact ⟨rfl, R5.out⟩

set_option maxRecDepth 100000 in
set_option maxHeartbeats 4000000 in
theorem refqput_far (B : Nat) (m : Qu.M) (f : Int) (i : Gm.In) (hi : Gm.tyIn i) (hf : -9223372036854775808 ≤ f ∧ f ≤ 9223372036854775807) (hft : -9223372036854775808 ≤ m.from_ ∧ m.from_ ≤ 9223372036854775807) (hb : Qu.inB i = true) (hge : m.from_ ≤ f) (hfar : 63 < f - m.from_) (X : World) (h : RefQ B m X) :
    Calls Try.prog 11 #[.pointer (some ⟨B, 0, none⟩), .int .i64 f, .agg (Qu.inCells i)] X fun e X' => e = .returned (.bool false) ∧ Below X.heap.size X X' := by
  have HB := Lib.hid h
  have cm := fun X => Lib.hid (refmayin_q i.x i.y i.b X hi.1.1 hi.2.1.1)
  rw [← Qu.inB_is] at cm
  rw [hb] at cm
  have hgap := gap_u64 f m.from_ hf hft hge
  have hnl : ¬ f < m.from_ := by omega
  obtain ⟨gp, hgp⟩ : ∃ gp, f - m.from_ = gp := ⟨_, rfl⟩
  rw [hgp] at hgap hfar
  clear hgp
  obtain ⟨x, y, b⟩ := i
  unfold Qu.inCells
  dsimp only at *
  obtain ⟨X1, hX1⟩ : ∃ X1, X1 = X.alloc (.cells #[.int .i8 x, .int .i8 y, .int .u8 b] 24) := ⟨_, rfl⟩
  have K1 := Lib.hid (show Below X.heap.size X X1 by rw [hX1]; exact one_below X _)
  have P1 := Lib.hid (show Box X1 X.heap.size 24 #[.int .i8 x, .int .i8 y, .int .u8 b] by rw [hX1]; exact Box.made X _ _)
  have B1 := Lib.hid (HB.out.below K1.out HB.out.lt)
  have z0 : ∀ q : Ext X1.heap.size X1, q.w.cell? ⟨X.heap.size, 0, none⟩ = some (.int .i8 x) := fun q => q.cell P1.out.lt (P1.out.cell 0)
  have z1 : ∀ q : Ext X1.heap.size X1, q.w.cell? ⟨X.heap.size, 1, none⟩ = some (.int .i8 y) := fun q => q.cell P1.out.lt (P1.out.cell 1)
  have z2 : ∀ q : Ext X1.heap.size X1, q.w.cell? ⟨X.heap.size, 2, none⟩ = some (.int .u8 b) := fun q => q.cell P1.out.lt (P1.out.cell 2)
  have zf : ∀ q : Ext X1.heap.size X1, q.w.cell? ⟨B, 0, none⟩ = some (.int .i64 m.from_) := fun q => q.cell B1.out.lt ((arr_cell B1.out (show 0 < 260 by decide)).trans (by rw [Qu.qf_0]))
  clear h hi hf hft
  generalize hmt : m.from_ = t at *
  have HMT := Lib.hid hmt
  clear hmt
  go_enter Try.func11, Try.ntmps11
  go_upto_region 1 with fail
  rw [← hX1]
  clear hX1
  refine wp_region_ext X1.heap.size X1 (by kernel_rfl) (by kernel_rfl) (Below.refl _ _) ?_
  repeat (go_big_quiet_step (first | (go_at_call 22; with_reducible exact Calls.ext_of (Nat.le_refl _) (cm _).out) | fail))
  refine wpQuiet_nil ?_
  intro _ hw'
  obtain ⟨q5, hw''⟩ := hw'
  subst hw''
  have R5 := Lib.hid (K1.out.trans (q5.h.mono K1.out.size))
  clear z0 z1 z2 zf cm
  go_wp2_with fail
  go_ret
  exact ⟨rfl, R5.out⟩

set_option maxRecDepth 100000 in
set_option maxHeartbeats 4000000 in
theorem refqput_known (B : Nat) (m : Qu.M) (f : Int) (i : Gm.In) (hi : Gm.tyIn i) (hf : -9223372036854775808 ≤ f ∧ f ≤ 9223372036854775807) (hft : -9223372036854775808 ≤ m.from_ ∧ m.from_ ≤ 9223372036854775807) (d : Nat) (hb : Qu.inB i = true) (hd : f - m.from_ = d) (h64 : d < 64) (hk : (m.known d).isSome = true) (X : World) (h : RefQ B m X) :
    Calls Try.prog 11 #[.pointer (some ⟨B, 0, none⟩), .int .i64 f, .agg (Qu.inCells i)] X fun e X' => e = .returned (.bool false) ∧ Below X.heap.size X X' := by
  have HB := Lib.hid h
  have cm := fun X => Lib.hid (refmayin_q i.x i.y i.b X hi.1.1 hi.2.1.1)
  rw [← Qu.inB_is] at cm
  rw [hb] at cm
  have hge : m.from_ ≤ f := by omega
  have hgap := gap_u64 f m.from_ hf hft hge
  have hnl : ¬ f < m.from_ := by omega
  have hw1 : IntKind.i64.wrap (f - m.from_) = (d : Int) := by rw [IntKind.wrap_i64]; omega
  have hw2 : wrap64 (f - m.from_) = (d : Int) := IntWalk.wrap64_in _ (by omega) |>.trans hd
  rw [hd] at hgap
  have hnf : ¬ (63 : Int) < (d : Int) := by omega
  have hd0 : (0 : Int) ≤ (d : Int) := by omega
  have hd64 : (d : Int) < 64 := by omega
  obtain ⟨x, y, b⟩ := i
  unfold Qu.inCells
  dsimp only at *
  obtain ⟨X1, hX1⟩ : ∃ X1, X1 = X.alloc (.cells #[.int .i8 x, .int .i8 y, .int .u8 b] 24) := ⟨_, rfl⟩
  have K1 := Lib.hid (show Below X.heap.size X X1 by rw [hX1]; exact one_below X _)
  have P1 := Lib.hid (show Box X1 X.heap.size 24 #[.int .i8 x, .int .i8 y, .int .u8 b] by rw [hX1]; exact Box.made X _ _)
  have B1 := Lib.hid (HB.out.below K1.out HB.out.lt)
  have z0 : ∀ q : Ext X1.heap.size X1, q.w.cell? ⟨X.heap.size, 0, none⟩ = some (.int .i8 x) := fun q => q.cell P1.out.lt (P1.out.cell 0)
  have z1 : ∀ q : Ext X1.heap.size X1, q.w.cell? ⟨X.heap.size, 1, none⟩ = some (.int .i8 y) := fun q => q.cell P1.out.lt (P1.out.cell 1)
  have z2 : ∀ q : Ext X1.heap.size X1, q.w.cell? ⟨X.heap.size, 2, none⟩ = some (.int .u8 b) := fun q => q.cell P1.out.lt (P1.out.cell 2)
  have zf : ∀ q : Ext X1.heap.size X1, q.w.cell? ⟨B, 0, none⟩ = some (.int .i64 m.from_) := fun q => q.cell B1.out.lt ((arr_cell B1.out (show 0 < 260 by decide)).trans (by rw [Qu.qf_0]))
  have zh : ∀ q : Ext X1.heap.size X1, q.w.cell? ⟨B, 4 + d, none⟩ = some (.bool true) := fun q => q.cell B1.out.lt ((arr_cell B1.out (by omega)).trans (by rw [Qu.qf_has m h64, hk]))
  clear hd hge hk
  clear h hi hf hft
  generalize hmt : m.from_ = t at *
  have HMT := Lib.hid hmt
  clear hmt
  go_enter Try.func11, Try.ntmps11
  go_upto_region 1 with fail
  rw [← hX1]
  clear hX1
  refine wp_region_ext X1.heap.size X1 (by kernel_rfl) (by kernel_rfl) (Below.refl _ _) ?_
  repeat (go_big_quiet_step (first | (go_at_call 22; with_reducible exact Calls.ext_of (Nat.le_refl _) (cm _).out) | fail))
  refine wpQuiet_nil ?_
  intro _ hw'
  obtain ⟨q5, hw''⟩ := hw'
  subst hw''
  have R5 := Lib.hid (K1.out.trans (q5.h.mono K1.out.size))
  clear z0 z1 z2 zf zh cm
  go_wp2_with fail
  go_ret
  exact ⟨rfl, R5.out⟩

end Go.Proofs.Ytcohbkgimlojpaa
namespace Go.Proofs.Ytcohbkgimlojpaa
open Go.RowKit
set_option linter.unusedVariables false
set_option linter.unusedSimpArgs false
/-- What Put reads while it writes. -/
def QE (B P : Nat) (t x y b : Int) (W : World) : Prop := (∃ g, Box W B 37 (Qu.arr 260 g) ∧ g 0 = .int .i64 t) ∧ Box W P 24 #[.int .i8 x, .int .i8 y, .int .u8 b]

set_option maxRecDepth 100000 in
set_option maxHeartbeats 4000000 in
theorem refqput_good (B : Nat) (m : Qu.M) (f : Int) (i : Gm.In) (hi : Gm.tyIn i) (hf : -9223372036854775808 ≤ f ∧ f ≤ 9223372036854775807) (hft : -9223372036854775808 ≤ m.from_ ∧ m.from_ ≤ 9223372036854775807) (d : Nat) (hb : Qu.inB i = true) (hd : f - m.from_ = d) (h64 : d < 64) (hk : m.known d = none) (X : World) (h : RefQ B m X) :
    Calls Try.prog 11 #[.pointer (some ⟨B, 0, none⟩), .int .i64 f, .agg (Qu.inCells i)] X fun e X' => e = .returned (.bool true) ∧ RefQ B { m with known := Qu.upd m.known d (some i) } X' ∧ Only B X X' := by
  have HB := Lib.hid h
  have cm := fun X => Lib.hid (refmayin_q i.x i.y i.b X hi.1.1 hi.2.1.1)
  rw [← Qu.inB_is] at cm
  rw [hb] at cm
  have hge : m.from_ ≤ f := by omega
  have hgap := gap_u64 f m.from_ hf hft hge
  have hnl : ¬ f < m.from_ := by omega
  have hw1 : IntKind.i64.wrap (f - m.from_) = (d : Int) := by rw [IntKind.wrap_i64]; omega
  have hw2 : wrap64 (f - m.from_) = (d : Int) := IntWalk.wrap64_in _ (by omega) |>.trans hd
  rw [hd] at hgap
  have hnf : ¬ (63 : Int) < (d : Int) := by omega
  have hd0 : (0 : Int) ≤ (d : Int) := by omega
  have hd64 : (d : Int) < 64 := by omega
  obtain ⟨x, y, b⟩ := i
  unfold Qu.inCells
  dsimp only at *
  obtain ⟨X1, hX1⟩ : ∃ X1, X1 = X.alloc (.cells #[.int .i8 x, .int .i8 y, .int .u8 b] 24) := ⟨_, rfl⟩
  have K1 := Lib.hid (show Below X.heap.size X X1 by rw [hX1]; exact one_below X _)
  have P1 := Lib.hid (show Box X1 X.heap.size 24 #[.int .i8 x, .int .i8 y, .int .u8 b] by rw [hX1]; exact Box.made X _ _)
  have B1 := Lib.hid (HB.out.below K1.out HB.out.lt)
  have z0 : ∀ q : Ext X1.heap.size X1, q.w.cell? ⟨X.heap.size, 0, none⟩ = some (.int .i8 x) := fun q => q.cell P1.out.lt (P1.out.cell 0)
  have z1 : ∀ q : Ext X1.heap.size X1, q.w.cell? ⟨X.heap.size, 1, none⟩ = some (.int .i8 y) := fun q => q.cell P1.out.lt (P1.out.cell 1)
  have z2 : ∀ q : Ext X1.heap.size X1, q.w.cell? ⟨X.heap.size, 2, none⟩ = some (.int .u8 b) := fun q => q.cell P1.out.lt (P1.out.cell 2)
  have zf : ∀ q : Ext X1.heap.size X1, q.w.cell? ⟨B, 0, none⟩ = some (.int .i64 m.from_) := fun q => q.cell B1.out.lt ((arr_cell B1.out (show 0 < 260 by decide)).trans (by rw [Qu.qf_0]))
  have zh : ∀ q : Ext X1.heap.size X1, q.w.cell? ⟨B, 4 + d, none⟩ = some (.bool false) := fun q => q.cell B1.out.lt ((arr_cell B1.out (by omega)).trans (by rw [Qu.qf_has m h64, hk]; rfl))
  have F0 : Qu.qf m 0 = .int .i64 m.from_ := Qu.qf_0 m
  clear hd hge hk
  clear h hi hf hft
  generalize hmt : m.from_ = t at *
  have HMT := Lib.hid hmt
  clear hmt
  go_enter Try.func11, Try.ntmps11
  go_upto_region 1 with fail
  rw [← hX1]
  clear hX1
  refine wp_region_ext X1.heap.size X1 (by kernel_rfl) (by kernel_rfl) (Below.refl _ _) ?_
  repeat (go_big_quiet_step (first | (go_at_call 22; with_reducible exact Calls.ext_of (Nat.le_refl _) (cm _).out) | fail))
  refine wpQuiet_nil ?_
  intro _ hw'
  obtain ⟨q5, hw''⟩ := hw'
  subst hw''
  have B5 := Lib.hid (B1.out.below q5.h B1.out.lt)
  have P5 := Lib.hid (P1.out.below q5.h P1.out.lt)
  have K5 := Lib.hid (K1.out.trans (q5.h.mono K1.out.size))
  clear z0 z1 z2 zf zh cm
  generalize q5.w = W5 at *
  clear q5
  obtain ⟨P, hP⟩ : ∃ P, P = X.heap.size := ⟨_, rfl⟩
  rw [← hP] at P5
  have hPB : P ≠ B := by have := HB.out.lt; omega
  have HE := Lib.hid (show ∀ W : World, QE B P t x y b W → W.cell? ⟨B, 0, none⟩ = some (.int .i64 t) ∧ W.cell? ⟨P, 0, none⟩ = some (.int .i8 x) ∧ W.cell? ⟨P, 1, none⟩ = some (.int .i8 y) ∧ W.cell? ⟨P, 2, none⟩ = some (.int .u8 b) from fun W hW => by
    obtain ⟨⟨g, hg, h0⟩, hp⟩ := hW
    exact ⟨(arr_cell hg (by decide)).trans (by rw [h0]), hp.cell 0, hp.cell 1, hp.cell 2⟩)
  have e0 : QE B P t x y b W5.drew := ⟨⟨_, B5.out.drew, F0⟩, P5.out.drew⟩
  have s1 := arr_store B5.out.drew (show 4 + d < 260 by omega) (.bool true)
  have e1 : QE B P t x y b (W5.drew.setCell ⟨B, 4 + d, none⟩ (.bool true)) := ⟨⟨_, s1, by rw [Qu.upd_other _ _ (by omega)]; exact F0⟩, P5.out.drew.far (p := ⟨B, 4 + d, none⟩) hPB _⟩
  have s2 := arr_store s1 (show 68 + d * 3 < 260 by omega) (.int .i8 x)
  have s3 := arr_store s2 (show 68 + d * 3 + 1 < 260 by omega) (.int .i8 y)
  have s4 := arr_store s3 (show 68 + d * 3 + 2 < 260 by omega) (.int .u8 b)
  have e4 : QE B P t x y b ((((W5.drew.setCell ⟨B, 4 + d, none⟩ (.bool true)).setCell ⟨B, 68 + d * 3, none⟩ (.int .i8 x)).setCell ⟨B, 68 + d * 3 + 1, none⟩ (.int .i8 y)).setCell ⟨B, 68 + d * 3 + 2, none⟩ (.int .u8 b)) := ⟨⟨_, s4, by rw [Qu.upd_other _ _ (by omega), Qu.upd_other _ _ (by omega), Qu.upd_other _ _ (by omega), Qu.upd_other _ _ (by omega)]; exact F0⟩, ((((P5.out.drew.far (p := ⟨B, 4 + d, none⟩) hPB _).far (p := ⟨B, 68 + d * 3, none⟩) hPB _).far (p := ⟨B, 68 + d * 3 + 1, none⟩) hPB _).far (p := ⟨B, 68 + d * 3 + 2, none⟩) hPB _)⟩
  have S0 := Lib.hid B5.out.drew
  have S1 := Lib.hid s1
  have E0 := Lib.hid e0
  have E1 := Lib.hid e1
  have E4 := Lib.hid e4
  have S4 := Lib.hid s4
  have KB := Lib.hid (show Only B X ((((W5.drew.setCell ⟨B, 4 + d, none⟩ (.bool true)).setCell ⟨B, 68 + d * 3, none⟩ (.int .i8 x)).setCell ⟨B, 68 + d * 3 + 1, none⟩ (.int .i8 y)).setCell ⟨B, 68 + d * 3 + 2, none⟩ (.int .u8 b)) from
    ((((Only.of_below K5.out.drew).trans (Only.set _ _ _)).trans (Only.set _ _ _)).trans (Only.set _ _ _)).trans (Only.set _ _ _))
  clear s1 s2 s3 s4 e0 e1 e4 B5 P5 K5
  go_upto_region 3 with fail
  rw [← hP]
  clear hP
  refine Ry.wp_region_lex (by kernel_rfl) [3, 5, 10, 12, 14, 15, 19] (by kernel_rfl) (· = W5.drew) (fun _ => True) (QE B P t x y b) rfl (fun W hW => ⟨trivial, hW ▸ E0.out⟩) ?_
  repeat (first
    | (apply Ry.lex_free rfl rfl; focus (intro _; go_simp; first | done | rfl))
    | (apply Ry.lex_steady rfl rfl rfl rfl; focus (intro W hW; obtain ⟨l0, l1, l2, l3⟩ := HE.out W hW; clear hW; go_simp; first | done | rfl)))
  refine Ry.lex_store rfl rfl (C' := (· = W5.drew.setCell ⟨B, 4 + d, none⟩ (.bool true))) (D' := fun _ => True) (fun W hW => ⟨_, ?_, rfl⟩) (fun W hW => ⟨trivial, hW ▸ E1.out⟩) ?_
  focus (subst hW; have f2 := S0.out.free (4 + d); have k2 := arr_cell S0.out (show 4 + d < 260 by omega); generalize Qu.qf m (4 + d) = old at *; go_simp; first | done | rfl)
  repeat (first
    | (apply Ry.lex_free rfl rfl; focus (intro _; go_simp; first | done | rfl))
    | (apply Ry.lex_steady rfl rfl rfl rfl; focus (intro W hW; obtain ⟨l0, l1, l2, l3⟩ := HE.out W hW; clear hW; go_simp; first | done | rfl)))
  refine Ry.lex_store rfl rfl (C' := (· = (((W5.drew.setCell ⟨B, 4 + d, none⟩ (.bool true)).setCell ⟨B, 68 + d * 3, none⟩ (.int .i8 x)).setCell ⟨B, 68 + d * 3 + 1, none⟩ (.int .i8 y)).setCell ⟨B, 68 + d * 3 + 2, none⟩ (.int .u8 b))) (D' := fun _ => True) (fun W hW => ⟨_, ?_, rfl⟩) (fun W hW => ⟨trivial, hW ▸ E4.out⟩) ?_
  focus (subst hW; have fr := S1.out.free; have lr := S1.out.lt; have k2 := arr_cell S1.out (show 68 + d * 3 < 260 by omega); have k3 := arr_cell S1.out (show 68 + d * 3 + 1 < 260 by omega); have k4 := arr_cell S1.out (show 68 + d * 3 + 2 < 260 by omega); generalize Qu.upd (Qu.qf m) (4 + d) (.bool true) (68 + d * 3) = o1 at *; generalize Qu.upd (Qu.qf m) (4 + d) (.bool true) (68 + d * 3 + 1) = o2 at *; generalize Qu.upd (Qu.qf m) (4 + d) (.bool true) (68 + d * 3 + 2) = o3 at *; generalize W5.drew.setCell ⟨B, 4 + d, none⟩ (.bool true) = W6 at *; go_simp; first | done | rfl)
  refine Ry.lex_end fun W2 hW2 => ?_
  simp only [Act.put, List.setIfInBounds_toArray, List.set_cons_succ, List.set_cons_zero]
  subst hW2
  have HQ := Lib.hid (show RefQ B ⟨t, m.last, Qu.upd m.known d (some ⟨x, y, b⟩)⟩ ((((W5.drew.setCell ⟨B, 4 + d, none⟩ (.bool true)).setCell ⟨B, 68 + d * 3, none⟩ (.int .i8 x)).setCell ⟨B, 68 + d * 3 + 1, none⟩ (.int .i8 y)).setCell ⟨B, 68 + d * 3 + 2, none⟩ (.int .u8 b)) from by
    rw [← HMT.out]
    have e := Qu.arr_congr (n := 260) (fun k _ => Qu.qf_put m d ⟨x, y, b⟩ h64 k)
    have s := S4.out
    rw [e] at s
    exact s)
  clear S0 S1 S4 E0 E1 E4 HE
  generalize (((W5.drew.setCell ⟨B, 4 + d, none⟩ (.bool true)).setCell ⟨B, 68 + d * 3, none⟩ (.int .i8 x)).setCell ⟨B, 68 + d * 3 + 1, none⟩ (.int .i8 y)).setCell ⟨B, 68 + d * 3 + 2, none⟩ (.int .u8 b) = W9 at *
  go_wp2_with fail
  go_ret
  exact ⟨rfl, HQ.out, KB.out⟩

/-- All the ways. -/
theorem refqput_any (B : Nat) (m : Qu.M) (f : Int) (i : Gm.In) (hi : Gm.tyIn i) (hf : -9223372036854775808 ≤ f ∧ f ≤ 9223372036854775807) (hft : -9223372036854775808 ≤ m.from_ ∧ m.from_ ≤ 9223372036854775807) (X : World) (h : RefQ B m X) :
    Calls Try.prog 11 #[.pointer (some ⟨B, 0, none⟩), .int .i64 f, .agg (Qu.inCells i)] X fun e X' => e = .returned (.bool (Qu.putOk m f i)) ∧ RefQ B (Qu.put m f i) X' ∧ Only B X X' := by
  have no : Qu.putOk m f i = false → Calls Try.prog 11 #[.pointer (some ⟨B, 0, none⟩), .int .i64 f, .agg (Qu.inCells i)] X (fun e X' => e = .returned (.bool false) ∧ Below X.heap.size X X') → Calls Try.prog 11 #[.pointer (some ⟨B, 0, none⟩), .int .i64 f, .agg (Qu.inCells i)] X fun e X' => e = .returned (.bool (Qu.putOk m f i)) ∧ RefQ B (Qu.put m f i) X' ∧ Only B X X' := fun hp hc => by
    refine hc.mono fun e X' => ?_
    rintro ⟨rfl, hb⟩
    refine ⟨by rw [hp], ?_, Only.of_below hb⟩
    unfold Qu.put
    rw [hp]
    exact h.below hb h.lt
  cases hb : Qu.inB i
  · exact no (by unfold Qu.putOk; rw [hb]; rfl) (refqput_not B m f i hi hf hft hb X h)
  · by_cases hlow : f < m.from_
    · exact no (by unfold Qu.putOk; rw [hb, decide_eq_false (by omega)]; rfl) (refqput_low B m f i hi hf hft hb hlow X h)
    · by_cases hfar : 63 < f - m.from_
      · exact no (by unfold Qu.putOk; rw [hb, decide_eq_false (by omega)]; rfl) (refqput_far B m f i hi hf hft hb (by omega) hfar X h)
      · obtain ⟨d, hd⟩ : ∃ d : Nat, f - m.from_ = d := ⟨(f - m.from_).toNat, by omega⟩
        have hdn : (f - m.from_).toNat = d := by omega
        have h64 : d < 64 := by omega
        have hpo : Qu.putOk m f i = (m.known d).isNone := by unfold Qu.putOk; rw [hb, decide_eq_true (by omega), hdn]; rfl
        cases hk : m.known d with
        | some v => exact no (by rw [hpo, hk]; rfl) (refqput_known B m f i hi hf hft d hb hd h64 (by rw [hk]; rfl) X h)
        | none =>
          have hp : Qu.putOk m f i = true := by rw [hpo, hk]; rfl
          rw [hp]
          unfold Qu.put
          rw [if_pos hp, hdn]
          exact refqput_good B m f i hi hf hft d hb hd h64 hk X h
end Go.Proofs.Ytcohbkgimlojpaa
namespace Qu
open Go Go.RowKit
/-- Four cells of a place are rewritten. -/
theorem qf_upd (m : M) (d : Nat) (o : Option Gm.In) (hd : d < 64) (k : Nat) : upd (upd (upd (upd (qf m) (4 + d) (.bool o.isSome)) (68 + d * 3) (.int .i8 (o.getD none_).x)) (68 + d * 3 + 1) (.int .i8 (o.getD none_).y)) (68 + d * 3 + 2) (.int .u8 (o.getD none_).b) k = qf { m with known := upd m.known d o } k := by
  by_cases h0 : k = 4 + d
  · rw [h0, upd_other _ _ (by omega), upd_other _ _ (by omega), upd_other _ _ (by omega), upd_same, qf_has _ hd]
    show _ = Value.bool (upd m.known d o d).isSome
    rw [upd_same]
  · by_cases h1 : k = 68 + d * 3
    · rw [h1, upd_other _ _ (by omega), upd_other _ _ (by omega), upd_same]
      have := qf_in { m with known := upd m.known d o } d 0 (by decide)
      rw [Nat.add_zero] at this
      rw [this]
      show _ = inAt ((upd m.known d o d).getD none_) 0
      rw [upd_same]; rfl
    · by_cases h2 : k = 68 + d * 3 + 1
      · rw [h2, upd_other _ _ (by omega), upd_same, qf_in _ d 1 (by decide)]
        show _ = inAt ((upd m.known d o d).getD none_) 1
        rw [upd_same]; rfl
      · by_cases h3 : k = 68 + d * 3 + 2
        · rw [h3, upd_same, qf_in _ d 2 (by decide)]
          show _ = inAt ((upd m.known d o d).getD none_) 2
          rw [upd_same]; rfl
        · rw [upd_other _ _ h3, upd_other _ _ h2, upd_other _ _ h1, upd_other _ _ h0]
          unfold qf
          split
          · rfl
          · split
            · rfl
            · split
              · show _ = Value.bool (upd m.known d o (k - 4)).isSome
                rw [upd_other _ _ (show k - 4 ≠ d by omega)]
              · show _ = inAt ((upd m.known d o ((k - 68) / 3)).getD none_) ((k - 68) % 3)
                rw [upd_other _ _ (show (k - 68) / 3 ≠ d by omega)]
/-- Done, so far. -/
def mid (m : M) (i : Gm.In) (k : Nat) : M := ⟨m.from_ + 1, i, fun j => if j < k then m.known (j + 1) else m.known j⟩
theorem mid_next (m : M) (i : Gm.In) (k : Nat) : { mid m i k with known := upd (mid m i k).known k (m.known (k + 1)) } = mid m i (k + 1) := by
  refine congrArg (M.mk (m.from_ + 1) i) (funext fun j => ?_)
  show (if j = k then _ else (if j < k then _ else _)) = _
  by_cases hj : j = k
  · rw [if_pos hj, if_pos (by omega), hj]
  · rw [if_neg hj]
    by_cases h : j < k
    · rw [if_pos h, if_pos (by omega)]
    · rw [if_neg h, if_neg (by omega)]
theorem mid_end (m : M) (i : Gm.In) (hk : ∀ j, 64 ≤ j → m.known j = none) : { mid m i 63 with known := upd (mid m i 63).known 63 none } = done m i := by
  refine congrArg (M.mk (m.from_ + 1) i) (funext fun j => ?_)
  show (if j = 63 then _ else (if j < 63 then _ else _)) = _
  by_cases hj : j = 63
  · rw [if_pos hj, if_neg (by omega)]
  · rw [if_neg hj]
    by_cases h : j < 63
    · rw [if_pos h, if_pos h]
    · rw [if_neg h, if_neg h, hk j (by omega)]
theorem mid_at (m : M) (i : Gm.In) (k : Nat) : (mid m i k).known (k + 1) = m.known (k + 1) := by
  show (if k + 1 < k then _ else _) = _
  rw [if_neg (by omega)]
/-- The cells ahead of the loop. -/
theorem qf_mid0 (m : M) (i : Gm.In) (k : Nat) : upd (upd (upd (upd (qf m) 0 (.int .i64 (m.from_ + 1))) 1 (.int .i8 i.x)) 2 (.int .i8 i.y)) 3 (.int .u8 i.b) k = qf (mid m i 0) k := by
  by_cases h3 : k = 3
  · rw [h3, upd_same]; rfl
  · by_cases h2 : k = 2
    · rw [h2, upd_other _ _ (by omega), upd_same]; rfl
    · by_cases h1 : k = 1
      · rw [h1, upd_other _ _ (by omega), upd_other _ _ (by omega), upd_same]; rfl
      · by_cases h0 : k = 0
        · rw [h0, upd_other _ _ (by omega), upd_other _ _ (by omega), upd_other _ _ (by omega), upd_same]; rfl
        · rw [upd_other _ _ h3, upd_other _ _ h2, upd_other _ _ h1, upd_other _ _ h0]
          unfold qf
          have h4 : ¬ k < 4 := by omega
          rw [if_neg h0, if_neg h4, if_neg h0, if_neg h4]
          have e : (mid m i 0).known = m.known := by
            funext j
            show (if j < 0 then m.known (j + 1) else m.known j) = _
            rw [if_neg (by omega)]
          rw [e]
end Qu
namespace Go.Proofs.Ytcohbkgimlojpaa
open Go.RowKit
set_option linter.unusedVariables false
set_option linter.unusedSimpArgs false
/-- What a round of Done reads while it writes. -/
def QD (B n : Nat) (h : Bool) (v : Gm.In) (W : World) : Prop := ∃ g, Box W B 37 (Qu.arr 260 g) ∧ g (4 + n) = .bool h ∧ g (68 + n * 3) = .int .i8 v.x ∧ g (68 + n * 3 + 1) = .int .i8 v.y ∧ g (68 + n * 3 + 2) = .int .u8 v.b
theorem QD.cells {B n : Nat} {h : Bool} {v : Gm.In} {W : World} (hk : n < 64) (q : QD B n h v W) : W.cell? ⟨B, 4 + n, none⟩ = some (.bool h) ∧ W.cell? ⟨B, 68 + n * 3, none⟩ = some (.int .i8 v.x) ∧ W.cell? ⟨B, 68 + n * 3 + 1, none⟩ = some (.int .i8 v.y) ∧ W.cell? ⟨B, 68 + n * 3 + 2, none⟩ = some (.int .u8 v.b) := by
  obtain ⟨g, hg, h0, h1, h2, h3⟩ := q
  exact ⟨(arr_cell hg (by omega)).trans (by rw [h0]), (arr_cell hg (by omega)).trans (by rw [h1]), (arr_cell hg (by omega)).trans (by rw [h2]), (arr_cell hg (by omega)).trans (by rw [h3])⟩
theorem QD.put {B n : Nat} {h : Bool} {v : Gm.In} {W : World} (q : QD B n h v W) {j : Nat} (hj : j < 260) (hj1 : j ≠ 4 + n) (hj2 : j < 68 + n * 3 ∨ 68 + n * 3 + 2 < j) (u : Value) : QD B n h v (W.setCell ⟨B, j, none⟩ u) := by
  obtain ⟨g, hg, h0, h1, h2, h3⟩ := q
  exact ⟨_, arr_store hg hj u, by rw [Qu.upd_other _ _ (Ne.symm hj1)]; exact h0, by rw [Qu.upd_other _ _ (by omega)]; exact h1, by rw [Qu.upd_other _ _ (by omega)]; exact h2, by rw [Qu.upd_other _ _ (by omega)]; exact h3⟩

set_option maxRecDepth 100000 in
set_option maxHeartbeats 4000000 in
theorem refqdone_any (B : Nat) (m : Qu.M) (i : Gm.In) (hm : ∀ j, 64 ≤ j → m.known j = none) (hft : -9223372036854775808 ≤ m.from_ ∧ m.from_ < 9223372036854775807) (X : World) (h : RefQ B m X) :
    Calls Try.prog 13 #[.pointer (some ⟨B, 0, none⟩), .agg (Qu.inCells i)] X fun e X' => e = .returned (.tuple #[]) ∧ RefQ B (Qu.done m i) X' ∧ Only B X X' := by
  have HB := Lib.hid h
  have HM := Lib.hid hm
  obtain ⟨x, hx⟩ : ∃ x, x = i.x := ⟨_, rfl⟩
  obtain ⟨y, hy⟩ : ∃ y, y = i.y := ⟨_, rfl⟩
  obtain ⟨b, hb⟩ : ∃ b, b = i.b := ⟨_, rfl⟩
  obtain ⟨X1, hX1⟩ : ∃ X1, X1 = X.alloc (.cells #[.int .i8 x, .int .i8 y, .int .u8 b] 24) := ⟨_, rfl⟩
  have K1 := Lib.hid (show Below X.heap.size X X1 by rw [hX1]; exact one_below X _)
  have P1 := Lib.hid (show Box X1 X.heap.size 24 #[.int .i8 x, .int .i8 y, .int .u8 b] by rw [hX1]; exact Box.made X _ _)
  have B1 := Lib.hid (HB.out.below K1.out HB.out.lt)
  have hPB : X.heap.size ≠ B := by have := HB.out.lt; omega
  -- the stores ahead of the loop
  have s1 := arr_store B1.out (show 0 < 260 by decide) (.int .i64 (m.from_ + 1))
  have s2 := arr_store s1 (show 1 < 260 by decide) (.int .i8 x)
  have s3 := arr_store s2 (show 2 < 260 by decide) (.int .i8 y)
  have s4 := arr_store s3 (show 3 < 260 by decide) (.int .u8 b)
  have P2 := Lib.hid (P1.out.far (p := ⟨B, 0, none⟩) hPB (.int .i64 (m.from_ + 1)))
  have O4 := Lib.hid (show Only B X ((((X1.setCell ⟨B, 0, none⟩ (.int .i64 (m.from_ + 1))).setCell ⟨B, 1, none⟩ (.int .i8 x)).setCell ⟨B, 2, none⟩ (.int .i8 y)).setCell ⟨B, 3, none⟩ (.int .u8 b)) from
    ((((Only.of_below K1.out).trans (Only.set _ _ _)).trans (Only.set _ _ _)).trans (Only.set _ _ _)).trans (Only.set _ _ _))
  have B4 := Lib.hid (show RefQ B (Qu.mid m i 0) ((((X1.setCell ⟨B, 0, none⟩ (.int .i64 (m.from_ + 1))).setCell ⟨B, 1, none⟩ (.int .i8 x)).setCell ⟨B, 2, none⟩ (.int .i8 y)).setCell ⟨B, 3, none⟩ (.int .u8 b)) from by
    have e := Qu.arr_congr (n := 260) (fun k _ => Qu.qf_mid0 m i k)
    rw [← hx, ← hy, ← hb] at e
    rw [e] at s4
    exact s4)
  have S1 := Lib.hid s1
  clear s1 s2 s3 s4
  have kf : X1.cell? ⟨B, 0, none⟩ = some (.int .i64 m.from_) := (arr_cell B1.out (show 0 < 260 by decide)).trans (by rw [Qu.qf_0])
  have f1 := B1.out.free
  have l1 := B1.out.lt
  obtain ⟨t, ht⟩ : ∃ t, t = m.from_ := ⟨_, rfl⟩
  obtain ⟨t1, ht1⟩ : ∃ t1, t1 = m.from_ + 1 := ⟨_, rfl⟩
  have hw1 : IntKind.i64.wrap (t + 1) = t1 := by rw [IntKind.wrap_i64, ht, ht1]; omega
  have hw2 : wrap64 (t + 1) = t1 := by rw [ht, ht1]; exact IntWalk.wrap64_in _ (by omega)
  rw [← ht1] at S1 P2 O4 B4
  rw [← ht] at kf
  unfold Qu.inCells
  rw [← hx, ← hy, ← hb]
  clear h hm hft ht ht1 hx hy hb
  go_enter Try.func13, Try.ntmps13
  go_upto_region 1 with fail
  rw [← hX1]
  clear hX1
  go_upto_region 2 with fail
  clear kf f1 l1
  obtain ⟨W1, hW1⟩ : ∃ W1, W1 = X1.setCell ⟨B, 0, none⟩ (.int .i64 t1) := ⟨_, rfl⟩
  rw [← hW1] at S1 P2 O4 B4 ⊢
  clear hW1
  have p0 : W1.cell? ⟨X.heap.size, 0, none⟩ = some (.int .i8 x) := P2.out.cell 0
  have p1 : W1.cell? ⟨X.heap.size, 1, none⟩ = some (.int .i8 y) := P2.out.cell 1
  have p2 : W1.cell? ⟨X.heap.size, 2, none⟩ = some (.int .u8 b) := P2.out.cell 2
  have k1 := arr_cell S1.out (show 1 < 260 by decide)
  have k2 := arr_cell S1.out (show 2 < 260 by decide)
  have k3 := arr_cell S1.out (show 3 < 260 by decide)
  generalize Qu.upd (Qu.qf m) 0 (.int .i64 t1) 1 = o1 at k1
  generalize Qu.upd (Qu.qf m) 0 (.int .i64 t1) 2 = o2 at k2
  generalize Qu.upd (Qu.qf m) 0 (.int .i64 t1) 3 = o3 at k3
  have f1 := S1.out.free
  have l1 := S1.out.lt
  go_upto_region 3 with fail
  clear p0 p1 p2 k1 k2 k3 f1 l1 S1 P2
  generalize ((W1.setCell ⟨B, 1, none⟩ (.int .i8 x)).setCell ⟨B, 2, none⟩ (.int .i8 y)).setCell ⟨B, 3, none⟩ (.int .u8 b) = W4 at *
  go_wp2_with fail
  go_loopw [4] (fun s wr => ∃ k : Nat, k ≤ 63 ∧ s = .int .i64 k ∧ RefQ B (Qu.mid m i k) wr ∧ Only B X wr) (fun s _ => 63 - (intOf s).toNat)
  case atStart => exact ⟨0, Nat.zero_le _, rfl, B4.out, O4.out⟩
  case round =>
    obtain ⟨k, hk, rfl, hB, hO⟩ := hrel
    have HBk := Lib.hid hB
    have HOk := Lib.hid hO
    clear hB hO B4 O4
    by_cases hlt : k < 63
    · have h63 : (k : Int) < 63 := by omega
      obtain ⟨o, ho⟩ : ∃ o, o = m.known (k + 1) := ⟨_, rfl⟩
      obtain ⟨n, hn⟩ : ∃ n, n = k + 1 := ⟨_, rfl⟩
      have hkn : IntKind.i64.wrap ((k : Int) + 1) = (n : Int) := by rw [IntKind.wrap_i64, hn]; omega
      have hn0 : (0 : Int) ≤ (n : Int) := by omega
      have hn64 : (n : Int) < 64 := by omega
      have hk0 : (0 : Int) ≤ (k : Int) := by omega
      have hk64 : (k : Int) < 64 := by omega
      have hnl : n < 64 := by omega
      have HNk := Lib.hid hn
      have HN := Lib.hid (Qu.mid_next m i k)
      have q0 : QD B n o.isSome (o.getD Qu.none_) wr := ⟨_, HBk.out, by rw [hn, Qu.qf_has _ (by omega), Qu.mid_at, ho], by
        have := Qu.qf_in (Qu.mid m i k) (k + 1) 0 (by decide)
        rw [Nat.add_zero, Qu.mid_at, ← ho, ← hn] at this
        exact this, by rw [hn, Qu.qf_in _ (k + 1) 1 (by decide), Qu.mid_at, ho]; rfl, by rw [hn, Qu.qf_in _ (k + 1) 2 (by decide), Qu.mid_at, ho]; rfl⟩
      have hup := Lib.hid (Qu.qf_upd (Qu.mid m i k) k o (by omega))
      rw [← ho] at HN
      clear ho
      generalize o.getD Qu.none_ = v at *
      generalize o.isSome = hs at *
      generalize Qu.mid m i k = mk at *
      obtain ⟨vx, hvx⟩ : ∃ vx, vx = v.x := ⟨_, rfl⟩
      obtain ⟨vy, hvy⟩ : ∃ vy, vy = v.y := ⟨_, rfl⟩
      obtain ⟨vb, hvb⟩ : ∃ vb, vb = v.b := ⟨_, rfl⟩
      rw [← hvx, ← hvy, ← hvb] at hup
      have HE := Lib.hid (show ∀ W : World, QD B n hs v W → W.cell? ⟨B, 4 + n, none⟩ = some (.bool hs) ∧ W.cell? ⟨B, 68 + n * 3, none⟩ = some (.int .i8 vx) ∧ W.cell? ⟨B, 68 + n * 3 + 1, none⟩ = some (.int .i8 vy) ∧ W.cell? ⟨B, 68 + n * 3 + 2, none⟩ = some (.int .u8 vb) from fun W hW => by
        have := hW.cells hnl
        rw [← hvx, ← hvy, ← hvb] at this
        exact this)
      clear hvx hvy hvb
      have e0 : QD B n hs v wr.drew := by obtain ⟨g, hg, r⟩ := q0; exact ⟨g, hg.drew, r⟩
      have s1 := arr_store HBk.out.drew (show 4 + k < 260 by omega) (.bool hs)
      have s2 := arr_store s1 (show 68 + k * 3 < 260 by omega) (.int .i8 vx)
      have s3 := arr_store s2 (show 68 + k * 3 + 1 < 260 by omega) (.int .i8 vy)
      have s4 := arr_store s3 (show 68 + k * 3 + 2 < 260 by omega) (.int .u8 vb)
      have e1 : QD B n hs v (wr.drew.setCell ⟨B, 4 + k, none⟩ (.bool hs)) := e0.put (by omega) (by omega) (by omega) _
      have e4 : QD B n hs v ((((wr.drew.setCell ⟨B, 4 + k, none⟩ (.bool hs)).setCell ⟨B, 68 + k * 3, none⟩ (.int .i8 vx)).setCell ⟨B, 68 + k * 3 + 1, none⟩ (.int .i8 vy)).setCell ⟨B, 68 + k * 3 + 2, none⟩ (.int .u8 vb)) := ((e1.put (by omega) (by omega) (by omega) _).put (by omega) (by omega) (by omega) _).put (by omega) (by omega) (by omega) _
      have S0 := Lib.hid HBk.out.drew
      have S1 := Lib.hid s1
      have S4 := Lib.hid s4
      have E0 := Lib.hid e0
      have E1 := Lib.hid e1
      have E4 := Lib.hid e4
      have KB := Lib.hid (show Only B X ((((wr.drew.setCell ⟨B, 4 + k, none⟩ (.bool hs)).setCell ⟨B, 68 + k * 3, none⟩ (.int .i8 vx)).setCell ⟨B, 68 + k * 3 + 1, none⟩ (.int .i8 vy)).setCell ⟨B, 68 + k * 3 + 2, none⟩ (.int .u8 vb)) from
        ((((HOk.out.trans (Only.of_below ((Below.refl _ _).drew))).trans (Only.set _ _ _)).trans (Only.set _ _ _)).trans (Only.set _ _ _)).trans (Only.set _ _ _))
      clear s1 s2 s3 s4 e0 e1 e4 q0 hn
      go_upto_region 6 with fail
      refine Ry.wp_region_lex (by kernel_rfl) [7, 10, 14, 17, 18, 22] (by kernel_rfl) (· = wr.drew) (fun _ => True) (QD B n hs v) rfl (fun W hW => ⟨trivial, hW ▸ E0.out⟩) ?_
      repeat (first
        | (apply Ry.lex_free rfl rfl; focus (intro _; go_simp; first | done | rfl))
        | (apply Ry.lex_steady rfl rfl rfl rfl; focus (intro W hW; obtain ⟨l0, l1, l2, l3⟩ := HE.out W hW; clear hW; go_simp; first | done | rfl)))
      refine Ry.lex_store rfl rfl (C' := (· = wr.drew.setCell ⟨B, 4 + k, none⟩ (.bool hs))) (D' := fun _ => True) (fun W hW => ⟨_, ?_, rfl⟩) (fun W hW => ⟨trivial, hW ▸ E1.out⟩) ?_
      focus (subst hW; have f2 := S0.out.free (4 + k); have k2 := arr_cell S0.out (show 4 + k < 260 by omega); generalize Qu.qf mk (4 + k) = old at *; go_simp; first | done | rfl)
      repeat (first
        | (apply Ry.lex_free rfl rfl; focus (intro _; go_simp; first | done | rfl))
        | (apply Ry.lex_steady rfl rfl rfl rfl; focus (intro W hW; obtain ⟨l0, l1, l2, l3⟩ := HE.out W hW; clear hW; go_simp; first | done | rfl)))
      refine Ry.lex_store rfl rfl (C' := (· = (((wr.drew.setCell ⟨B, 4 + k, none⟩ (.bool hs)).setCell ⟨B, 68 + k * 3, none⟩ (.int .i8 vx)).setCell ⟨B, 68 + k * 3 + 1, none⟩ (.int .i8 vy)).setCell ⟨B, 68 + k * 3 + 2, none⟩ (.int .u8 vb))) (D' := fun _ => True) (fun W hW => ⟨_, ?_, rfl⟩) (fun W hW => ⟨trivial, hW ▸ E4.out⟩) ?_
      focus (subst hW; have fr := S1.out.free; have lr := S1.out.lt; have k2 := arr_cell S1.out (show 68 + k * 3 < 260 by omega); have k3 := arr_cell S1.out (show 68 + k * 3 + 1 < 260 by omega); have k4 := arr_cell S1.out (show 68 + k * 3 + 2 < 260 by omega); generalize Qu.upd (Qu.qf mk) (4 + k) (.bool hs) (68 + k * 3) = o1 at *; generalize Qu.upd (Qu.qf mk) (4 + k) (.bool hs) (68 + k * 3 + 1) = o2 at *; generalize Qu.upd (Qu.qf mk) (4 + k) (.bool hs) (68 + k * 3 + 2) = o3 at *; generalize wr.drew.setCell ⟨B, 4 + k, none⟩ (.bool hs) = W6 at *; go_simp; first | done | rfl)
      refine Ry.lex_end fun W2 hW2 => ?_
      simp only [Act.put, List.setIfInBounds_toArray, List.set_cons_succ, List.set_cons_zero]
      subst hW2
      have HQ := Lib.hid (show RefQ B { mk with known := Qu.upd mk.known k o } ((((wr.drew.setCell ⟨B, 4 + k, none⟩ (.bool hs)).setCell ⟨B, 68 + k * 3, none⟩ (.int .i8 vx)).setCell ⟨B, 68 + k * 3 + 1, none⟩ (.int .i8 vy)).setCell ⟨B, 68 + k * 3 + 2, none⟩ (.int .u8 vb)) from by
        have e := Qu.arr_congr (n := 260) (fun j _ => hup.out j)
        have s := S4.out
        rw [e] at s
        exact s)
      rw [HN.out] at HQ
      clear S0 S1 S4 E0 E1 E4 HE hup HN HBk HOk
      generalize (((wr.drew.setCell ⟨B, 4 + k, none⟩ (.bool hs)).setCell ⟨B, 68 + k * 3, none⟩ (.int .i8 vx)).setCell ⟨B, 68 + k * 3 + 1, none⟩ (.int .i8 vy)).setCell ⟨B, 68 + k * 3 + 2, none⟩ (.int .u8 vb) = W9 at *
      go_wp2_with fail
      go_roundw
      case rel => exact ⟨n, by have := HNk.out; omega, rfl, by rw [HNk.out]; exact HQ.out, KB.out⟩
      case measure => have := HNk.out; simp [intOf]; omega
    · obtain rfl : k = 63 := by omega
      have h63 : ¬ ((63 : Nat) : Int) < 63 := by omega
      have HN := Lib.hid (Qu.mid_end m i HM.out)
      have hup := Lib.hid (Qu.qf_upd (Qu.mid m i 63) 63 none (by omega))
      generalize Qu.mid m i 63 = mk at *
      have s1 := arr_store HBk.out.drew (show 67 < 260 by omega) (.bool false)
      have s2 := arr_store s1 (show 257 < 260 by omega) (.int .i8 0)
      have s3 := arr_store s2 (show 258 < 260 by omega) (.int .i8 0)
      have s4 := arr_store s3 (show 259 < 260 by omega) (.int .u8 0)
      have S0 := Lib.hid HBk.out.drew
      have S1 := Lib.hid s1
      have S4 := Lib.hid s4
      have KB := Lib.hid (show Only B X ((((wr.drew.setCell ⟨B, 67, none⟩ (.bool false)).setCell ⟨B, 257, none⟩ (.int .i8 0)).setCell ⟨B, 258, none⟩ (.int .i8 0)).setCell ⟨B, 259, none⟩ (.int .u8 0)) from
        ((((HOk.out.trans (Only.of_below ((Below.refl _ _).drew))).trans (Only.set _ _ _)).trans (Only.set _ _ _)).trans (Only.set _ _ _)).trans (Only.set _ _ _))
      clear s1 s2 s3 s4
      go_upto_region 7 with fail
      refine Ry.wp_region_lex (by kernel_rfl) [3, 7] (by kernel_rfl) (· = wr.drew) (fun _ => True) (fun _ => True) rfl (fun W hW => ⟨trivial, trivial⟩) ?_
      repeat (first
        | (apply Ry.lex_free rfl rfl; focus (intro _; go_simp; first | done | rfl))
        | (apply Ry.lex_steady rfl rfl rfl rfl; focus (intro W hW; clear hW; go_simp; first | done | rfl)))
      refine Ry.lex_store rfl rfl (C' := (· = wr.drew.setCell ⟨B, 67, none⟩ (.bool false))) (D' := fun _ => True) (fun W hW => ⟨_, ?_, rfl⟩) (fun W hW => ⟨trivial, trivial⟩) ?_
      focus (subst hW; have f2 := S0.out.free 67; have k2 := arr_cell S0.out (show 67 < 260 by omega); generalize Qu.qf mk 67 = old at *; go_simp; first | done | rfl)
      repeat (first
        | (apply Ry.lex_free rfl rfl; focus (intro _; go_simp; first | done | rfl))
        | (apply Ry.lex_steady rfl rfl rfl rfl; focus (intro W hW; clear hW; go_simp; first | done | rfl)))
      refine Ry.lex_store rfl rfl (C' := (· = (((wr.drew.setCell ⟨B, 67, none⟩ (.bool false)).setCell ⟨B, 257, none⟩ (.int .i8 0)).setCell ⟨B, 258, none⟩ (.int .i8 0)).setCell ⟨B, 259, none⟩ (.int .u8 0))) (D' := fun _ => True) (fun W hW => ⟨_, ?_, rfl⟩) (fun W hW => ⟨trivial, trivial⟩) ?_
      focus (subst hW; have fr := S1.out.free; have lr := S1.out.lt; have k2 := arr_cell S1.out (show 257 < 260 by omega); have k3 := arr_cell S1.out (show 258 < 260 by omega); have k4 := arr_cell S1.out (show 259 < 260 by omega); generalize Qu.upd (Qu.qf mk) 67 (.bool false) 257 = o1 at *; generalize Qu.upd (Qu.qf mk) 67 (.bool false) 258 = o2 at *; generalize Qu.upd (Qu.qf mk) 67 (.bool false) 259 = o3 at *; generalize wr.drew.setCell ⟨B, 67, none⟩ (.bool false) = W6 at *; go_simp; first | done | rfl)
      refine Ry.lex_end fun W2 hW2 => ?_
      simp only [Act.put, List.setIfInBounds_toArray, List.set_cons_succ, List.set_cons_zero]
      subst hW2
      have HQ := Lib.hid (show RefQ B { mk with known := Qu.upd mk.known 63 none } ((((wr.drew.setCell ⟨B, 67, none⟩ (.bool false)).setCell ⟨B, 257, none⟩ (.int .i8 0)).setCell ⟨B, 258, none⟩ (.int .i8 0)).setCell ⟨B, 259, none⟩ (.int .u8 0)) from by
        have e := Qu.arr_congr (n := 260) (fun j _ => hup.out j)
        have s := S4.out
        have e' : Qu.arr 260 (Qu.upd (Qu.upd (Qu.upd (Qu.upd (Qu.qf mk) 67 (.bool false)) 257 (.int .i8 0)) 258 (.int .i8 0)) 259 (.int .u8 0)) = Qu.arr 260 (Qu.qf { mk with known := Qu.upd mk.known 63 none }) := e
        rw [e'] at s
        exact s)
      rw [HN.out] at HQ
      clear S0 S1 S4 hup HN HBk HOk
      generalize (((wr.drew.setCell ⟨B, 67, none⟩ (.bool false)).setCell ⟨B, 257, none⟩ (.int .i8 0)).setCell ⟨B, 258, none⟩ (.int .i8 0)).setCell ⟨B, 259, none⟩ (.int .u8 0) = W9 at *
      go_wp2_with fail
      go_end0
      exact ⟨rfl, HQ.out, KB.out⟩
end Go.Proofs.Ytcohbkgimlojpaa
namespace Go.Proofs.Ytcohbkgimlojpaa
open Go.RowKit
set_option linter.unusedVariables false
set_option linter.unusedSimpArgs false
/-- What is changed: these blocks alone. -/
structure KeepL (F : Nat → Prop) (X X' : World) : Prop where
  os : X'.os = X.os
  tape : X'.tape = X.tape
  output : X'.output = X.output
  size : X.heap.size ≤ X'.heap.size
  block : ∀ k, k < X.heap.size → ¬ F k → X'.heap[k]? = X.heap[k]?
section
variable {F F' : Nat → Prop} {X X' X'' : World}
theorem KeepL.refl (F : Nat → Prop) (X : World) : KeepL F X X := ⟨rfl, rfl, rfl, Nat.le_refl _, fun _ _ _ => rfl⟩
theorem KeepL.trans (h : KeepL F X X') (k : KeepL F' X' X'') (hs : ∀ j, F' j → F j ∨ X.heap.size ≤ j) : KeepL F X X'' :=
  ⟨k.os.trans h.os, k.tape.trans h.tape, k.output.trans h.output, Nat.le_trans h.size k.size, fun j hj hn => (k.block j (Nat.lt_of_lt_of_le hj h.size) fun hf => (hs j hf).elim hn (by omega)).trans (h.block j hj hn)⟩
theorem KeepL.call (h : KeepL F X X') (hb : Below X'.heap.size X' X'') : KeepL F X X'' := h.trans (F' := F) ⟨hb.os, hb.tape, hb.output, hb.size, fun k hk _ => hb.block k hk⟩ (fun j hf => .inl hf)
theorem KeepL.put {B : Nat} (h : KeepL F X X') (hF : F B ∨ X.heap.size ≤ B) (i : Nat) (u : Value) : KeepL F X (X'.setCell ⟨B, i, none⟩ u) := by
  have hz := (Below.refl 0 X').setCell (p := ⟨B, i, none⟩) (Nat.zero_le _) u
  refine h.trans (F' := fun k => k = B) ⟨hz.os, hz.tape, hz.output, hz.size, fun k hk hne => heap_setCell_other X' ⟨B, i, none⟩ k u hne⟩ (fun j hj => ?_)
  subst hj
  exact hF
theorem KeepL.below {b : Nat} (h : KeepL F X X') (hF : ∀ k, F k → b ≤ k) (hb : b ≤ X.heap.size) : Below b X X' := ⟨h.os, h.tape, h.output, h.size, fun k hk => h.block k (by omega) fun hf => by have := hF k hf; omega⟩
end
end Go.Proofs.Ytcohbkgimlojpaa
