/-
Several texts in one: Ry Ie If Im In Nr En Ed Bd Op Ec Ee Zb Zsh.
-/
import Derived.Test.YtmiopphcfdlneaaGreatCx2
set_option maxRecDepth 100000
set_option maxHeartbeats 8000000
set_option linter.unusedVariables false
set_option linter.unusedSimpArgs false
namespace Ry
open Go
def qbl (o : Oper) : Bool := match o.op with | .store .. => true | _ => false
def qgY (o : Oper) : Bool := match o.op with | .buildSlice .. | .alloc .. => true | .call c => (match c.callee with | .builtin .append | .value _ => true | _ => false) | _ => false
def qag (o : Oper) : Bool := qbl o || qgY o
def qbj (o : Oper) : Bool := match o.op with | .load .. | .nilCheck .. => true | _ => false
def qaG (o : Oper) : Bool := match o.op with | .fieldAddr .. | .indexAddr .. | .move .. | .assign .. | .pick .. | .extract .. | .binOp .. | .unOp .. | .build .. | .convert .. | .slice .. => true | _ => false
theorem qdm {o : Oper} (h : qag o = true) : qaG o = false := by
 unfold qag qbl qgY at h
 unfold qaG
 generalize o.op = x at h ⊢
 cases x <;> first | rfl | (exact absurd h (by decide)) | (simp at h)
theorem qdl {o : Oper} (h : qag o = true) : qbj o = false := by
 unfold qag qbl qgY at h
 unfold qbj
 generalize o.op = x at h ⊢
 cases x <;> first | rfl | (exact absurd h (by decide)) | (simp at h)
def Gives (P : Program) (o : Oper) (a : Act) (w : World) (v : Value) (C : World -> Prop) : Prop :=
 match (execOp a.eval o).run P w with
 | .ok (.value u) w1 => u = v /\ C w1
 | .ok .skip w1 => undef = v /\ C w1
 | .ok (.enter f args) w1 => Calls P f args w1 fun e w2 => e = .returned v /\ C w2
 | _ => False
theorem Gives.wp {P : Program} {o : Oper} {a : Act} {w : World} {v : Value} {C : World -> Prop} {K : Act -> World -> Prop} {Q : Exit -> Act -> World -> Prop} (h : Gives P o a w v C) (hK : ∀ w', C w' -> K (a.put o.dst v) w') : o.wp P a w K Q := by
 unfold Gives at h
 unfold Oper.wp
 generalize (execOp a.eval o).run P w = r at *
 cases r with
 | ok n w1 =>
  cases n <;> simp only [Oper.upon] at h ⊢
  case value u => obtain ⟨rfl, h⟩ := h; exact hK _ h
  case skip => obtain ⟨rfl, h⟩ := h; exact hK _ h
  case enter f args =>
   exact h.mono fun e w2 ⟨he, hw⟩ => by subst he; exact hK _ hw
 | halt x w1 => cases h
theorem Gives.congr {P : Program} {o : Oper} {a a' : Act} {w : World} {v : Value} {C : World -> Prop} (h : Gives P o a w v C) (he : execOp a'.eval o = execOp a.eval o) : Gives P o a' w v C := by
 unfold Gives at *; rw [he]; exact h
def qaR (P : Program) (st : List Nat) (E : World -> Prop) (Q : Act -> (World -> Prop) -> Prop) : List Oper -> Nat -> Act -> (World -> Prop) -> (World -> Prop) -> Prop
 | [], _, a, C, _ => Q a C
 | o :: rest, n, a, C, D =>
  if qag o then ∃ v C' D', (∀ w, C w -> Gives P o a w v C') /\ (qbl o = false -> D' = D) /\ (∀ w, C' w -> D' w /\ E w) /\ qaR P st E Q rest (n + 1) (a.put o.dst v) C' D'
  else if qaG o then ∃ v, (∀ w, Gives P o a w v (fun w' => w' = w)) /\ qaR P st E Q rest (n + 1) (a.put o.dst v) C D
  else if qbj o then ∃ v, (∀ w, (if st.contains n then E w else D w) -> Gives P o a w v (fun w' => w' = w)) /\ qaR P st E Q rest (n + 1) (a.put o.dst v) C D
  else ∃ v, (∀ w, C w -> Gives P o a w v C) /\ qaR P st E Q rest (n + 1) (a.put o.dst v) C D
structure Run (P : Program) (st : Nat -> Bool) (E : World -> Prop) (l : List Oper) (A : Nat -> Act) (C D : Nat -> World -> Prop) (v : Nat -> Value) : Prop where
 act : ∀ i o, l[i]? = some o -> A (i + 1) = (A i).put o.dst (v i)
 store : ∀ i o, l[i]? = some o -> qag o = true -> ∀ w, C i w -> Gives P o (A i) w (v i) (C (i + 1))
 free : ∀ i o, l[i]? = some o -> qag o = false -> qaG o = true -> C (i + 1) = C i /\ ∀ w, Gives P o (A i) w (v i) (fun w' => w' = w)
 look : ∀ i o, l[i]? = some o -> qag o = false -> qaG o = false -> qbj o = true -> C (i + 1) = C i /\ ∀ w, (if st i then E w else D i w) -> Gives P o (A i) w (v i) (fun w' => w' = w)
 read : ∀ i o, l[i]? = some o -> qag o = false -> qaG o = false -> qbj o = false -> C (i + 1) = C i /\ ∀ w, C i w -> Gives P o (A i) w (v i) (C i)
 soft : ∀ i o, l[i]? = some o -> qbl o = false -> D (i + 1) = D i
 held : ∀ i, i <= l.length -> ∀ w, C i w -> D i w /\ E w
def qdf {α : Type} (x : α) (f : Nat -> α) : Nat -> α
 | 0 => x
 | i + 1 => f i
theorem Run.cons {P : Program} {st : Nat -> Bool} {E : World -> Prop} {l : List Oper} {o : Oper} {a : Act} {C D C1 D1 : World -> Prop} {u : Value} {A : Nat -> Act} {Cs Ds : Nat -> World -> Prop} {v : Nat -> Value} (hr : Run P (fun i => st (i + 1)) E l A Cs Ds v) (hA : A 0 = a.put o.dst u) (hC : Cs 0 = C1) (hD : Ds 0 = D1) (hCD : ∀ w, C w -> D w /\ E w)
 (h1 : qag o = true -> ∀ w, C w -> Gives P o a w u C1) (h2 : qag o = false -> qaG o = true -> C1 = C /\ ∀ w, Gives P o a w u (fun w' => w' = w)) (h3 : qag o = false -> qaG o = false -> qbj o = true -> C1 = C /\ ∀ w, (if st 0 then E w else D w) -> Gives P o a w u (fun w' => w' = w))
 (h4 : qag o = false -> qaG o = false -> qbj o = false -> C1 = C /\ ∀ w, C w -> Gives P o a w u C) (h5 : qbl o = false -> D1 = D) : Run P st E (o :: l) (qdf a A) (qdf C Cs) (qdf D Ds) (qdf u v) := by
 refine ⟨?_, ?_, ?_, ?_, ?_, ?_, ?_⟩
 · intro i o' ho'
   cases i with
   | zero => simp at ho'; subst ho'; exact hA
   | succ i => exact hr.act i o' (by simpa using ho')
 · intro i o' ho'
   cases i with
   | zero => simp at ho'; subst ho'; intro hs w hw; show Gives P o a w u (Cs 0); rw [hC]; exact h1 hs w hw
   | succ i => exact hr.store i o' (by simpa using ho')
 · intro i o' ho'
   cases i with
   | zero => simp at ho'; subst ho'; intro hs hf; exact ⟨hC.trans (h2 hs hf).1, (h2 hs hf).2⟩
   | succ i => exact hr.free i o' (by simpa using ho')
 · intro i o' ho'
   cases i with
   | zero => simp at ho'; subst ho'; intro hs hf hl; exact ⟨hC.trans (h3 hs hf hl).1, (h3 hs hf hl).2⟩
   | succ i => exact hr.look i o' (by simpa using ho')
 · intro i o' ho'
   cases i with
   | zero => simp at ho'; subst ho'; intro hs hf hl; exact ⟨hC.trans (h4 hs hf hl).1, (h4 hs hf hl).2⟩
   | succ i => exact hr.read i o' (by simpa using ho')
 · intro i o' ho'
   cases i with
   | zero => simp at ho'; subst ho'; intro hh; exact hD.trans (h5 hh)
   | succ i => exact hr.soft i o' (by simpa using ho')
 · intro i hi
   cases i with
   | zero => exact hCD
   | succ i => exact hr.held i (by simpa using hi)
theorem qba {P : Program} {st : List Nat} {E : World -> Prop} {Q : Act -> (World -> Prop) -> Prop} : ∀ (l : List Oper) (n : Nat) (a : Act) (C D : World -> Prop), (∀ w, C w -> D w /\ E w) -> qaR P st E Q l n a C D ->
 ∃ A Cs Ds v, Run P (fun i => st.contains (n + i)) E l A Cs Ds v /\ A 0 = a /\ Cs 0 = C /\ Ds 0 = D /\ Q (A l.length) (Cs l.length)
 | [], n, a, C, D, hCD, h => ⟨fun _ => a, fun _ => C, fun _ => D, fun _ => undef, ⟨fun i o h => by simp at h, fun i o h => by simp at h, fun i o h => by simp at h, fun i o h => by simp at h, fun i o h => by simp at h, fun i o h => by simp at h, fun i _ w hw => hCD w hw⟩, rfl, rfl, rfl, h⟩
 | o :: l, n, a, C, D, hCD, h => by
  unfold qaR at h
  have shift : (fun i => st.contains (n + 1 + i)) = fun i => (fun j => st.contains (n + j)) (i + 1) := funext fun i => by
   show st.contains (n + 1 + i) = st.contains (n + (i + 1)); rw [show n + 1 + i = n + (i + 1) by omega]
  by_cases hs : qag o = true
  · rw [if_pos hs] at h
    obtain ⟨u, C', D', h1, hd, hcd, h2⟩ := h
    obtain ⟨A, Cs, Ds, v, hr, hA, hC, hD, hQ⟩ := qba l (n + 1) _ C' D' hcd h2
    rw [shift] at hr
    exact ⟨_, _, _, _, Run.cons (st := fun j => st.contains (n + j)) hr hA hC hD hCD (fun _ => h1) (fun e => by rw [hs] at e; cases e) (fun e => by rw [hs] at e; cases e) (fun e => by rw [hs] at e; cases e) hd, rfl, rfl, rfl, hQ⟩
  · have hs0 : qag o = false := by simpa using hs
    have hh0 : qbl o = false := by simp [qag] at hs0; exact hs0.1
    rw [if_neg hs] at h
    by_cases hf : qaG o = true
    · rw [if_pos hf] at h
      obtain ⟨u, h1, h2⟩ := h
      obtain ⟨A, Cs, Ds, v, hr, hA, hC, hD, hQ⟩ := qba l (n + 1) _ C D hCD h2
      rw [shift] at hr
      exact ⟨_, _, _, _, Run.cons (st := fun j => st.contains (n + j)) hr hA hC hD hCD (fun e => absurd e hs) (fun _ _ => ⟨rfl, h1⟩) (fun _ e => by rw [hf] at e; cases e) (fun _ e => by rw [hf] at e; cases e) (fun _ => rfl), rfl, rfl, rfl, hQ⟩
    · rw [if_neg hf] at h
      by_cases hl : qbj o = true
      · rw [if_pos hl] at h
        obtain ⟨u, h1, h2⟩ := h
        obtain ⟨A, Cs, Ds, v, hr, hA, hC, hD, hQ⟩ := qba l (n + 1) _ C D hCD h2
        rw [shift] at hr
        exact ⟨_, _, _, _, Run.cons (st := fun j => st.contains (n + j)) hr hA hC hD hCD (fun e => absurd e hs) (fun _ e => absurd e hf) (fun _ _ _ => ⟨rfl, h1⟩) (fun _ _ e => by rw [hl] at e; cases e) (fun _ => rfl), rfl, rfl, rfl, hQ⟩
      · rw [if_neg hl] at h
        obtain ⟨u, h1, h2⟩ := h
        obtain ⟨A, Cs, Ds, v, hr, hA, hC, hD, hQ⟩ := qba l (n + 1) _ C D hCD h2
        rw [shift] at hr
        exact ⟨_, _, _, _, Run.cons (st := fun j => st.contains (n + j)) hr hA hC hD hCD (fun e => absurd e hs) (fun _ e => absurd e hf) (fun _ _ e => absurd e hl) (fun _ _ _ => ⟨rfl, h1⟩) (fun _ => rfl), rfl, rfl, rfl, hQ⟩
section
variable {l : List Oper} {v : Nat -> Value} {a0 : Act}
structure Shape (l : List Oper) (v : Nat -> Value) (a0 : Act) (S : Nat -> Bool) (a : Act) : Prop where
 size : a.tmps.size = a0.tmps.size
 defers : a.defers = a0.defers
 done : ∀ j o t, l[j]? = some o -> o.dst = some t -> S j = true -> a.tmps[t]? = if t < a0.tmps.size then some (v j) else none
 rest : ∀ t, (∀ j o, l[j]? = some o -> o.dst = some t -> S j = false) -> a.tmps[t]? = a0.tmps[t]?
def qb2 (l : List Oper) : Prop := ∀ (i j : Nat) (oi oj : Oper) (t : Tmp), l[i]? = some oi -> l[j]? = some oj -> oi.dst = some t -> oj.dst = some t -> i = j
theorem Shape.start : Shape l v a0 (fun _ => false) a0 := ⟨rfl, rfl, fun _ _ _ _ _ h => (by cases h), fun _ _ => rfl⟩
theorem Shape.put {S : Nat -> Bool} {a : Act} (hd : qb2 l) (h : Shape l v a0 S a) {i : Nat} {o : Oper} (ho : l[i]? = some o) : Shape l v a0 (fun j => S j || j == i) (a.put o.dst (v i)) := by
 cases hdst : o.dst with
 | none =>
  refine ⟨h.size, h.defers, fun j oj t hj ht hS => ?_, fun t ht => ?_⟩
  · simp only [Bool.or_eq_true, beq_iff_eq] at hS
    rcases hS with hS | rfl
    · exact h.done j oj t hj ht hS
    · rw [ho] at hj; injection hj with hj; subst hj; rw [hdst] at ht; cases ht
  · exact h.rest t fun j oj hj ht' => by have := ht j oj hj ht'; simp at this; exact this.1
 | some d =>
  refine ⟨by simp [Act.put, h.size], h.defers, fun j oj t hj ht hS => ?_, fun t ht => ?_⟩
  · simp only [Act.put, Array.getElem?_setIfInBounds]
    by_cases htd : d = t
    · subst htd
      have : j = i := hd j i oj o d hj ho ht hdst
      subst this
      rw [if_pos rfl, h.size]
    · rw [if_neg htd]
      simp only [Bool.or_eq_true, beq_iff_eq] at hS
      rcases hS with hS | rfl
      · exact h.done j oj t hj ht hS
      · rw [ho] at hj; injection hj with hj; subst hj; rw [hdst] at ht; injection ht with ht; exact absurd ht htd
  · have hne : d ≠ t := fun e => by subst e; have := ht i o ho hdst; simp at this
    simp only [Act.put, Array.getElem?_setIfInBounds, if_neg hne]
    exact h.rest t fun j oj hj ht' => by have := ht j oj hj ht'; simp at this; exact this.1
theorem Shape.same {S S' : Nat -> Bool} {a a' : Act} (h : Shape l v a0 S a) (h' : Shape l v a0 S' a') {t : Nat} (hS : ∀ j o, l[j]? = some o -> o.dst = some t -> S j = S' j) : a.tmps[t]? = a'.tmps[t]? := by
 by_cases hx : ∃ j o, l[j]? = some o /\ o.dst = some t /\ S j = true
 · obtain ⟨j, o, hj, ht, hs⟩ := hx
   rw [h.done j o t hj ht hs, h'.done j o t hj ht (by rw [<- hS j o hj ht]; exact hs)]
 · have hn : ∀ j o, l[j]? = some o -> o.dst = some t -> S j = false := fun j o hj ht => by
    cases hs : S j
    · rfl
    · exact absurd ⟨j, o, hj, ht, hs⟩ hx
   rw [h.rest t hn, h'.rest t fun j o hj ht => by rw [<- hS j o hj ht]; exact hn j o hj ht]
theorem Shape.ext {S S' : Nat -> Bool} {a a' : Act} (h : Shape l v a0 S a) (h' : Shape l v a0 S' a') (hS : ∀ j o, l[j]? = some o -> S j = S' j) : a = a' := by
 have ht : a.tmps = a'.tmps := Array.ext_getElem? fun t => h.same h' fun j o hj _ => hS j o hj
 have hd : a.defers = a'.defers := h.defers.trans h'.defers.symm
 cases a; cases a'; simp_all
theorem Shape.congr {S S' : Nat -> Bool} {a : Act} (h : Shape l v a0 S a) (hS : ∀ j o, l[j]? = some o -> S j = S' j) : Shape l v a0 S' a :=
 ⟨h.size, h.defers, fun j o t hj ht hs => h.done j o t hj ht (by rw [hS j o hj]; exact hs), fun t ht => h.rest t fun j o hj hd => by rw [hS j o hj]; exact ht j o hj hd⟩
theorem Run.shape {P : Program} {st : Nat -> Bool} {E : World -> Prop} {A : Nat -> Act} {C D : Nat -> World -> Prop} (hr : Run P st E l A C D v) (hd : qb2 l) : ∀ k, k <= l.length -> Shape l v (A 0) (fun j => decide (j < k)) (A k)
 | 0, _ => Shape.start.congr fun j o _ => by simp
 | k + 1, hk => by
  have ho : l[k]? = some (l[k]'(by omega)) := List.getElem?_eq_getElem (by omega)
  rw [hr.act k _ ho]
  refine ((Run.shape hr hd k (by omega)).put hd ho).congr fun j o _ => ?_
  rw [Bool.eq_iff_iff]; simp; omega
end
def tb (b : Array Nat) (i j : Nat) : Bool := (b.getD i 0).testBit j
def qgO (st : List Nat) (l : List Oper) (b : Array Nat) (i j : Nat) : Bool :=
 match l[i]?, l[j]? with
 | some oi, some oj =>
  (!(tb b i j) || oi.after.any fun e => Region.binds .any e && (e.on == j || tb b e.on j)) &&
  (i == j || ((match oi.dst, oj.dst with | some d, some d' => d != d' | _, _ => true) &&
   (match oj.dst with | some d => !(oi.looksAt l.toArray).contains d || (if j < i then tb b i j else tb b j i) | none => true) &&
   (!qag oj || qaG oi || (qbj oi && (!qbl oj || st.contains i)) || (if j < i then tb b i j else tb b j i))))
 | _, _ => true
def oneB (l : List Oper) (i : Nat) : Bool :=
 match l[i]? with
 | some o => o.guard.isNone && !(qag o && qaG o) && o.after.all fun e => !Region.binds .any e || decide (e.on < i)
 | none => true
def okB (st : List Nat) (l : List Oper) : Bool :=
 Region.noSelect l.toArray && ((List.range l.length).all fun i => oneB l i && (List.range l.length).all fun j => qgO st l (Region.before l.toArray) i j)
structure Ok (st : List Nat) (l : List Oper) (cl : Nat -> Nat -> Bool) : Prop where
 sel : Region.noSelect l.toArray = true
 guard : ∀ (i : Nat) (o : Oper), l[i]? = some o -> o.guard = none
 down : ∀ (i : Nat) (o : Oper), l[i]? = some o -> ∀ e ∈ o.after, Region.binds .any e = true -> e.on < i
 cert : ∀ (i j : Nat) (o oj : Oper), l[i]? = some o -> l[j]? = some oj -> cl i j = true -> ∃ e ∈ o.after, Region.binds .any e = true /\ (e.on = j \/ cl e.on j = true)
 dist : qb2 l
 looks : ∀ (i j : Nat) (oi oj : Oper) (t : Tmp), l[i]? = some oi -> l[j]? = some oj -> i ≠ j -> oj.dst = some t -> t ∈ oi.looksAt l.toArray -> (if j < i then cl i j else cl j i) = true
 store : ∀ (i j : Nat) (oi oj : Oper), l[i]? = some oi -> l[j]? = some oj -> i ≠ j -> qag oj = true -> qaG oi = false -> (qbj oi && (!qbl oj || st.contains i)) = false -> (if j < i then cl i j else cl j i) = true
theorem Ok.of (st : List Nat) (l : List Oper) (h : okB st l = true) : Ok st l (tb (Region.before l.toArray)) := by
 simp only [okB, Bool.and_eq_true] at h
 obtain ⟨h0, h⟩ := h
 have h1 : ∀ i o, l[i]? = some o -> oneB l i = true /\ ∀ j oj, l[j]? = some oj -> qgO st l (Region.before l.toArray) i j = true := fun i o ho => by
  have hi : i < l.length := (List.getElem?_eq_some_iff.1 ho).1
  have := List.all_eq_true.1 h i (List.mem_range.2 hi)
  simp only [Bool.and_eq_true] at this
  exact ⟨this.1, fun j oj hj => List.all_eq_true.1 this.2 j (List.mem_range.2 (List.getElem?_eq_some_iff.1 hj).1)⟩
 have one : ∀ i o, l[i]? = some o -> (o.guard.isNone = true /\ (!(qag o && qaG o)) = true) /\ (o.after.all fun e => !Region.binds .any e || decide (e.on < i)) = true := fun i o ho => by
  have := (h1 i o ho).1
  simp only [oneB, ho, Bool.and_eq_true] at this
  exact this
 have two : ∀ i j oi oj, l[i]? = some oi -> l[j]? = some oj ->
  (!(tb (Region.before l.toArray) i j) || oi.after.any fun e => Region.binds .any e && (e.on == j || tb (Region.before l.toArray) e.on j)) = true /\
  (i == j || ((match oi.dst, oj.dst with | some d, some d' => d != d' | _, _ => true) &&
  (match oj.dst with | some d => !(oi.looksAt l.toArray).contains d || (if j < i then tb (Region.before l.toArray) i j else tb (Region.before l.toArray) j i) | none => true) &&
  (!qag oj || qaG oi || (qbj oi && (!qbl oj || st.contains i)) || (if j < i then tb (Region.before l.toArray) i j else tb (Region.before l.toArray) j i)))) = true := fun i j oi oj hi hj => by
  have := (h1 i oi hi).2 j oj hj
  simp only [qgO, hi, hj, Bool.and_eq_true] at this
  exact this
 refine ⟨h0, fun i o ho => by simpa using (one i o ho).1.1, fun i o ho e he hb => ?_, fun i j o oj hi hj hc => ?_, fun i j oi oj t hi hj hdi hdj => ?_, fun i j oi oj t hi hj hne hdj ht => ?_, fun i j oi oj hi hj hne hs hf hlk => ?_⟩
 · have := (Array.all_eq_true_iff_forall_mem.1 (one i o ho).2) e he
   simpa [hb] using this
 · have := (two i j o oj hi hj).1
   rw [hc] at this
   simp at this
   obtain ⟨k, hk, h1, h2⟩ := this
   exact ⟨o.after[k], Array.getElem_mem hk, h1, h2⟩
 · by_cases hij : i = j
   · exact hij
   · have := (two i j oi oj hi hj).2
     simp [hij, hdi, hdj] at this
 · have := (two i j oi oj hi hj).2
   simp only [Bool.or_eq_true, beq_iff_eq, Bool.and_eq_true, hne, false_or, hdj] at this
   have h2 := this.1.2
   rcases h2 with h2 | h2
   · simp at h2; exact absurd ht h2
   · exact h2
 · have := (two i j oi oj hi hj).2
   simp only [Bool.or_eq_true, beq_iff_eq, Bool.and_eq_true, hne, false_or] at this
   rcases this.2 with ((h2 | h2) | h2) | h2
   · simp [hs] at h2
   · rw [hf] at h2; cases h2
   · simp only [h2.1, Bool.true_and] at hlk; have h3' := h2.2; simp only [Bool.or_eq_false_iff] at hlk; rcases h3' with h3 | h3
     · rw [hlk.1] at h3; cases h3
     · rw [hlk.2] at h3; cases h3
   · exact h2
def unl (f : Nat -> Bool) : Nat -> Nat
 | 0 => 0
 | k + 1 => unl f k + (if f k then 0 else 1)
theorem qfA (f : Nat -> Bool) : ∀ n, unl f n <= n
 | 0 => Nat.le_refl _
 | n + 1 => by have := qfA f n; unfold unl; split <;> omega
theorem qcx {f : Nat -> Bool} : ∀ {n}, unl f n = 0 -> ∀ i, i < n -> f i = true
 | 0, _, i, h => absurd h (by omega)
 | n + 1, h, i, hi => by
  unfold unl at h
  by_cases hfn : f n = true
  · rw [if_pos hfn] at h
    by_cases hin : i = n
    · rw [hin]; exact hfn
    · exact qcx (n := n) (by omega) i (by omega)
  · rw [if_neg hfn] at h; omega
theorem qcB {f g : Nat -> Bool} : ∀ {n}, (∀ i, i < n -> f i = g i) -> unl f n = unl g n
 | 0, _ => rfl
 | n + 1, h => by unfold unl; rw [qcB (n := n) fun i hi => h i (by omega), h n (by omega)]
theorem qde {f g : Nat -> Bool} {i : Nat} (h0 : f i = false) (h1 : g i = true) (ho : ∀ j, j ≠ i -> g j = f j) : ∀ {n}, i < n -> unl g n + 1 = unl f n
 | 0, h => absurd h (by omega)
 | n + 1, h => by
  unfold unl
  by_cases hin : i = n
  · subst hin
    rw [qcB (n := i) fun j hj => ho j (by omega), h0, h1]; simp
  · have := qde h0 h1 ho (n := n) (by omega)
    rw [ho n (by omega)]; omega
structure Inv (l : List Oper) (v : Nat -> Value) (a0 : Act) (C : Nat -> World -> Prop) (listed : Array Bool) (a : Act) (w : World) : Prop where
 size : listed.size = l.length
 closed : ∀ (i : Nat) (o : Oper), l[i]? = some o -> listed.getD i false = true -> ∀ e ∈ o.after, Region.binds .any e = true -> listed.getD e.on false = true
 shape : Shape l v a0 (fun j => listed.getD j false) a
 world : ∀ i, i <= l.length -> (∀ (j : Nat) (o : Oper), l[j]? = some o -> qag o = true -> listed.getD j false = decide (j < i)) -> C i w
section
variable {P : Program} {st : List Nat} {E : World -> Prop} {l : List Oper} {A : Nat -> Act} {C D : Nat -> World -> Prop} {v : Nat -> Value} {cl : Nat -> Nat -> Bool} {listed : Array Bool} {a : Act} {w : World}
theorem Inv.down (ok : Ok st l cl) (h : Inv l v (A 0) C listed a w) : ∀ (n i j : Nat), i < n -> (∃ o, l[i]? = some o) -> (∃ o, l[j]? = some o) -> cl i j = true -> listed.getD i false = true -> listed.getD j false = true
 | 0, _, _, hi, _, _, _, _ => absurd hi (by omega)
 | n + 1, i, j, hi, ⟨o, ho⟩, ⟨oj, hj⟩, hc, hl => by
  obtain ⟨e, he, hb, h'⟩ := ok.cert i j o oj ho hj hc
  have h1 := h.closed i o ho hl e he hb
  rcases h' with rfl | h'
  · exact h1
  · have hd := ok.down i o ho e he hb
    have hlt : i < l.length := (List.getElem?_eq_some_iff.1 ho).1
    exact Inv.down ok h n e.on j (by omega) ⟨_, List.getElem?_eq_getElem (show e.on < l.length by omega)⟩ ⟨oj, hj⟩ h' h1
theorem Run.between (hr : Run P (fun i => st.contains i) E l A C D v) {i : Nat} : ∀ (d k : Nat), k = i + d -> k <= l.length -> (∀ (j : Nat) (o : Oper), l[j]? = some o -> qag o = true -> i <= j -> j < k -> False) -> C k = C i
 | 0, k, hk, _, _ => by rw [hk]; rfl
 | d + 1, k, hk, hl, hn => by
  have ih := Run.between hr d (k - 1) (by omega) (by omega) (fun j o hj hs h1 h2 => hn j o hj hs h1 (by omega))
  have ho : l[k - 1]? = some (l[k - 1]'(by omega)) := List.getElem?_eq_getElem (by omega)
  have hs : qag (l[k - 1]'(by omega)) = false := by
   cases h : qag (l[k - 1]'(by omega))
   · rfl
   · exact (hn _ _ ho h (by omega) (by omega)).elim
  have e : k - 1 + 1 = k := by omega
  cases hf : qaG (l[k - 1]'(by omega))
  · cases hl : qbj (l[k - 1]'(by omega))
    · have := (hr.read _ _ ho hs hf hl).1; rw [e] at this; rw [this, ih]
    · have := (hr.look _ _ ho hs hf hl).1; rw [e] at this; rw [this, ih]
  · have := (hr.free _ _ ho hs hf).1; rw [e] at this; rw [this, ih]
theorem Run.one (hr : Run P (fun i => st.contains i) E l A C D v) {f : Nat -> Bool} {i k : Nat} (hi : i <= l.length) (hk : k <= l.length) (h1 : ∀ (j : Nat) (o : Oper), l[j]? = some o -> qag o = true -> f j = decide (j < i)) (h2 : ∀ (j : Nat) (o : Oper), l[j]? = some o -> qag o = true -> f j = decide (j < k)) : C k = C i := by
 rcases Nat.le_total i k with h | h
 · exact hr.between (k - i) k (by omega) hk fun j o hj hs ha hb => by
    have e1 := h1 j o hj hs; have e2 := h2 j o hj hs
    rw [e1] at e2; simp at e2; omega
 · exact (hr.between (i - k) i (by omega) hi fun j o hj hs ha hb => by
    have e1 := h1 j o hj hs; have e2 := h2 j o hj hs
    rw [e1] at e2; simp at e2; omega).symm
theorem Run.steady (hr : Run P (fun i => st.contains i) E l A C D v) {i : Nat} : ∀ (d k : Nat), k = i + d -> k <= l.length -> (∀ (j : Nat) (o : Oper), l[j]? = some o -> qbl o = true -> i <= j -> j < k -> False) -> D k = D i
 | 0, k, hk, _, _ => by rw [hk]; rfl
 | d + 1, k, hk, hl, hn => by
  have ih := Run.steady hr d (k - 1) (by omega) (by omega) (fun j o hj hs h1 h2 => hn j o hj hs h1 (by omega))
  have ho : l[k - 1]? = some (l[k - 1]'(by omega)) := List.getElem?_eq_getElem (by omega)
  have hs : qbl (l[k - 1]'(by omega)) = false := by
   cases h : qbl (l[k - 1]'(by omega))
   · rfl
   · exact (hn _ _ ho h (by omega) (by omega)).elim
  have e : k - 1 + 1 = k := by omega
  have := hr.soft _ _ ho hs; rw [e] at this; rw [this, ih]
theorem Inv.qnk (ok : Ok st l cl) (h : Inv l v (A 0) C listed a w) : ∃ k, k <= l.length /\ ∀ (j : Nat) (o : Oper), l[j]? = some o -> qag o = true -> listed.getD j false = decide (j < k) := by
 have key : ∀ n, n <= l.length -> (∀ (j : Nat) (o : Oper), l[j]? = some o -> qag o = true -> j < n -> listed.getD j false = true) \/ ∃ k, k < n /\ ∃ o, l[k]? = some o /\ qag o = true /\ listed.getD k false = false /\ ∀ (j : Nat) (o : Oper), l[j]? = some o -> qag o = true -> j < k -> listed.getD j false = true := by
  intro n
  induction n with
  | zero => intro _; exact .inl fun j o _ _ hj => absurd hj (by omega)
  | succ n ih =>
   intro hn
   rcases ih (by omega) with h1 | ⟨k, hk, h1⟩
   · have ho : l[n]? = some (l[n]'(by omega)) := List.getElem?_eq_getElem (by omega)
     by_cases hs : qag (l[n]'(by omega)) = true
     · cases hl : listed.getD n false
       · exact .inr ⟨n, by omega, _, ho, hs, hl, h1⟩
       · refine .inl fun j o hj hso hjn => ?_
         by_cases e : j = n
         · subst e; exact hl
         · exact h1 j o hj hso (by omega)
     · refine .inl fun j o hj hso hjn => ?_
       by_cases e : j = n
       · subst e; rw [ho] at hj; injection hj with hj; subst hj; exact absurd hso hs
       · exact h1 j o hj hso (by omega)
   · exact .inr ⟨k, by omega, h1⟩
 rcases key l.length (Nat.le_refl _) with h1 | ⟨k, hk, o, ho, hs, hl, h1⟩
 · refine ⟨l.length, Nat.le_refl _, fun j o hj hso => ?_⟩
   have := (List.getElem?_eq_some_iff.1 hj).1
   rw [h1 j o hj hso this]; simp [this]
 · refine ⟨k, by omega, fun j oj hj hsj => ?_⟩
   by_cases hjk : j < k
   · rw [h1 j oj hj hsj hjk]; simp [hjk]
   · by_cases e : j = k
     · subst e; rw [hl]; simp
     · have hf : qaG o = false := qdm hs
       have hlk : qbj o = false := qdl hs
       have hc := ok.store k j o oj ho hj (fun e' => e e'.symm) hsj hf (by simp [hlk])
       rw [if_neg (by omega)] at hc
       cases hlj : listed.getD j false
       · simp [hjk]
       · have := h.down ok l.length j k (List.getElem?_eq_some_iff.1 hj).1 ⟨oj, hj⟩ ⟨o, ho⟩ hc hlj
         rw [hl] at this; cases this
theorem Inv.step (hr : Run P (fun i => st.contains i) E l A C D v) (ok : Ok st l cl) (h : Inv l v (A 0) C listed a w) {Q : Exit -> Act -> World -> Prop} {i : Nat} (hi : i ∈ Region.ready .any l.toArray listed) :
 wpOp P l.toArray Q i (fun a' w' => Inv l v (A 0) C (listed.setIfInBounds i true) a' w') a w := by
 obtain ⟨hun, o, ho', hdeps⟩ := mem_ready.1 hi
 have ho : l[i]? = some o := by simpa using ho'
 have hil : i < l.length := (List.getElem?_eq_some_iff.1 ho).1
 have his : i < listed.size := by rw [h.size]; exact hil
 have hun' : listed.getD i false = false := by simp [his] at hun ⊢; exact hun
 -- who is waited for has been; who waits has not
 have before : ∀ j oj, l[j]? = some oj -> cl i j = true -> listed.getD j false = true := fun j oj hj hc => by
  obtain ⟨e, he, hb, h'⟩ := ok.cert i j o oj ho hj hc
  have h1 := hdeps e he hb
  rcases h' with rfl | h'
  · exact h1
  · have hd := ok.down i o ho e he hb
    exact h.down ok l.length e.on j (by omega) ⟨_, List.getElem?_eq_getElem (show e.on < l.length by omega)⟩ ⟨oj, hj⟩ h' h1
 have behind : ∀ j oj, l[j]? = some oj -> cl j i = true -> listed.getD j false = false := fun j oj hj hc => by
  cases hl : listed.getD j false
  · rfl
  · have hjl : j < l.length := (List.getElem?_eq_some_iff.1 hj).1
    have := h.down ok l.length j i hjl ⟨oj, hj⟩ ⟨o, ho⟩ hc hl
    rw [hun'] at this; cases this
 have exec : execOp a.eval o = execOp (A i).eval o := execOp_congr o (fun cs b => Region.noSelect_spec ok.sel i o cs b ho') fun x hx => by
  cases x with
  | tmp t =>
   have ht : t ∈ o.looksAt l.toArray := List.mem_append_left _ (List.mem_filterMap.2 ⟨.tmp t, by simpa using hx, rfl⟩)
   have e := h.shape.same (hr.shape ok.dist i (by omega)) (t := t) fun j oj hj hd => by
    by_cases hji : j = i
    · subst hji; rw [hun']; simp
    · have hc := ok.looks i j o oj t ho hj (fun e => hji e.symm) hd ht
      by_cases hlt : j < i
      · rw [if_pos hlt] at hc; rw [before j oj hj hc]; simp [hlt]
      · rw [if_neg hlt] at hc; rw [behind j oj hj hc]; simp [hlt]
   simp only [Act.eval, Array.getD_eq_getD_getElem?, e]
  | const => rfl
  | global => rfl
  | func => rfl
 have hg := ok.guard i o ho
 have getset : ∀ j, (listed.setIfInBounds i true).getD j false = (listed.getD j false || j == i) := fun j => by
  by_cases hji : j = i
  · subst hji; simp [his]
  · rw [getD_set_ne false (fun e => hji e.symm)]; simp [hji]
 -- what is left of the invariant, whatever comes of the world
 have next : ∀ w', (∀ k, k <= l.length -> (∀ (j : Nat) (oj : Oper), l[j]? = some oj -> qag oj = true -> (listed.getD j false || j == i) = decide (j < k)) -> C k w') -> Inv l v (A 0) C (listed.setIfInBounds i true) (a.put o.dst (v i)) w' := fun w' hw => by
  refine ⟨by simp [h.size], fun j oj hj hl e he hb => ?_, (h.shape.put ok.dist ho).congr fun j oj hj => (getset j).symm, fun k hk hst => hw k hk fun j oj hj hs => by rw [<- getset j]; exact hst j oj hj hs⟩
  rw [getset] at hl ⊢
  simp only [Bool.or_eq_true, beq_iff_eq] at hl ⊢
  rcases hl with hl | rfl
  · exact .inl (h.closed j oj hj hl e he hb)
  · rw [ho] at hj; injection hj with hj; subst hj; exact .inl (hdeps e he hb)
 unfold wpOp
 simp only [ho', Region.wanted, hg, if_true]
 refine .inl ?_
 cases hs : qag o
 · cases hf : qaG o
   · cases hl : qbj o
     · -- a call
       have here : ∀ (j : Nat) (oj : Oper), l[j]? = some oj -> qag oj = true -> listed.getD j false = decide (j < i) := fun j oj hj hsj => by
        have hji : j ≠ i := fun e => by subst e; rw [ho] at hj; injection hj with hj; subst hj; rw [hs] at hsj; cases hsj
        have hc := ok.store i j o oj ho hj (fun e => hji e.symm) hsj hf (by simp [hl])
        by_cases hlt : j < i
        · rw [if_pos hlt] at hc; rw [before j oj hj hc]; simp [hlt]
        · rw [if_neg hlt] at hc; rw [behind j oj hj hc]; simp [hlt]
       have hw := h.world i (by omega) here
       refine (((hr.read i o ho hs hf hl).2 w hw).congr exec).wp fun w' hw' => next w' fun k hk hst => ?_
       have hst' : ∀ (j : Nat) (oj : Oper), l[j]? = some oj -> qag oj = true -> listed.getD j false = decide (j < k) := fun j oj hj hsj => by
        have hji : j ≠ i := fun e => by subst e; rw [ho] at hj; injection hj with hj; subst hj; rw [hs] at hsj; cases hsj
        have := hst j oj hj hsj; rw [show (j == i) = false from by simpa using hji, Bool.or_false] at this; exact this
       rw [hr.one (f := fun j => listed.getD j false) (by omega) hk here hst']; exact hw'
     · -- a look
       obtain ⟨k0, hk0, hat⟩ := h.qnk ok
       have hD : if st.contains i then E w else D i w := by
        have h00 := hr.held k0 hk0 w (h.world k0 hk0 hat)
        by_cases hst0 : st.contains i = true
        · rw [if_pos hst0]; exact h00.2
        rw [if_neg hst0]
        have h0 := h00.1
        have hst0 : st.contains i = false := by simpa using hst0
        have hard : ∀ (j : Nat) (oj : Oper), l[j]? = some oj -> qbl oj = true -> listed.getD j false = decide (j < i) /\ j ≠ i := fun j oj hj hhj => by
         have hsj : qag oj = true := by simp [qag, hhj]
         have hji : j ≠ i := fun e => by subst e; rw [ho] at hj; injection hj with hj; subst hj; rw [hs] at hsj; cases hsj
         have hc := ok.store i j o oj ho hj (fun e => hji e.symm) hsj hf (by rw [hhj, hst0]; simp)
         by_cases hlt : j < i
         · rw [if_pos hlt] at hc; rw [before j oj hj hc]; simp [hlt, hji]
         · rw [if_neg hlt] at hc; rw [behind j oj hj hc]; simp [hlt, hji]
        have none : ∀ (j : Nat) (oj : Oper), l[j]? = some oj -> qbl oj = true -> decide (j < k0) = decide (j < i) := fun j oj hj hhj => by
         rw [<- hat j oj hj (by simp [qag, hhj])]; exact (hard j oj hj hhj).1
        rcases Nat.le_total i k0 with hle | hle
        · rw [hr.steady (i := i) (k0 - i) k0 (by omega) hk0 fun j oj hj hh h1 h2 => by
           have := none j oj hj hh; simp [h2] at this; omega] at h0
          exact h0
        · rw [<- hr.steady (i := k0) (i - k0) i (by omega) (by omega) fun j oj hj hh h1 h2 => by
           have := none j oj hj hh; simp [h2] at this; omega] at h0
          exact h0
       refine (((hr.look i o ho hs hf hl).2 w hD).congr exec).wp fun w' hw' => next w' fun k hk hst => ?_
       subst hw'
       refine h.world k hk fun j oj hj hsj => ?_
       have hji : j ≠ i := fun e => by subst e; rw [ho] at hj; injection hj with hj; subst hj; rw [hs] at hsj; cases hsj
       have := hst j oj hj hsj; rw [show (j == i) = false from by simpa using hji, Bool.or_false] at this; exact this
   · -- nothing of the world
     refine (((hr.free i o ho hs hf).2 w).congr exec).wp fun w' hw' => next w' fun k hk hst => ?_
     subst hw'
     refine h.world k hk fun j oj hj hsj => ?_
     have hji : j ≠ i := fun e => by subst e; rw [ho] at hj; injection hj with hj; subst hj; rw [hs] at hsj; cases hsj
     have := hst j oj hj hsj; rw [show (j == i) = false from by simpa using hji, Bool.or_false] at this; exact this
 · -- a store
   have hf : qaG o = false := qdm hs
   have hlk : qbj o = false := qdl hs
   have here : ∀ (j : Nat) (oj : Oper), l[j]? = some oj -> qag oj = true -> listed.getD j false = decide (j < i) := fun j oj hj hsj => by
    by_cases hji : j = i
    · subst hji; rw [hun']; simp
    · have hc := ok.store i j o oj ho hj (fun e => hji e.symm) hsj hf (by simp [hlk])
      by_cases hlt : j < i
      · rw [if_pos hlt] at hc; rw [before j oj hj hc]; simp [hlt]
      · rw [if_neg hlt] at hc; rw [behind j oj hj hc]; simp [hlt]
   have hw := h.world i (by omega) here
   have hgv := hr.store i o ho hs w hw
   refine (hgv.congr exec).wp fun w' hw' => next w' fun k hk hst => ?_
   have h1 : ∀ (j : Nat) (oj : Oper), l[j]? = some oj -> qag oj = true -> (listed.getD j false || j == i) = decide (j < i + 1) := fun j oj hj hsj => by
    rw [here j oj hj hsj, Bool.eq_iff_iff]; simp; omega
   rw [hr.one (f := fun j => listed.getD j false || j == i) (by omega) hk h1 hst]; exact hw'
theorem Inv.all_ (hr : Run P (fun i => st.contains i) E l A C D v) (ok : Ok st l cl) {Q : Exit -> Act -> World -> Prop} (hQ : ∀ w, C l.length w -> Q .normal (A l.length) w) : ∀ (n : Nat) (listed : Array Bool) (a : Act) (w : World), Inv l v (A 0) C listed a w -> unl (fun i => listed.getD i false) l.length <= n ->
 wpAny P .any l.toArray Q n listed a w := by
 have last : ∀ (listed : Array Bool) (a : Act) (w : World), Inv l v (A 0) C listed a w -> (∀ i, i < l.length -> listed.getD i false = true) -> Q .normal a w := fun listed a w h hall => by
  have e : a = A l.length := h.shape.ext (hr.shape ok.dist l.length (Nat.le_refl _)) fun j o hj => by
   have hjl : j < l.length := (List.getElem?_eq_some_iff.1 hj).1
   rw [hall j hjl]; simp [hjl]
  rw [e]
  exact hQ w (h.world l.length (Nat.le_refl _) fun j o hj _ => by
   have hjl : j < l.length := (List.getElem?_eq_some_iff.1 hj).1
   rw [hall j hjl]; simp [hjl])
 intro n
 induction n with
 | zero =>
  intro listed a w h hn
  have hall := qcx (f := fun i => listed.getD i false) (n := l.length) (by omega)
  refine ⟨?_, last listed a w h hall⟩
  cases hr' : Region.ready .any l.toArray listed with
  | nil => rfl
  | cons i is =>
   have hi : i ∈ Region.ready .any l.toArray listed := by rw [hr']; simp
   obtain ⟨hun, o, ho', _⟩ := mem_ready.1 hi
   have hil : i < l.length := by have := (Array.getElem?_eq_some_iff.1 ho').1; simpa using this
   have := hall i hil
   have his : i < listed.size := by rw [h.size]; exact hil
   simp [his] at hun this
   rw [this] at hun; cases hun
 | succ n ih =>
  intro listed a w h hn
  refine ⟨fun hr' => last listed a w h fun i hi => ?_, fun i hi => ?_⟩
  · induction i using Nat.strongRecOn with
    | _ i ihi =>
     cases hu : listed.getD i false
     · have ho : l[i]? = some (l[i]'hi) := List.getElem?_eq_getElem hi
       have : i ∈ Region.ready .any l.toArray listed := mem_ready.2 ⟨by
        have his : i < listed.size := by rw [h.size]; exact hi
        simp [his] at hu ⊢; exact hu, _, (by rw [List.getElem?_toArray]; exact ho), fun e he hb => by
        have hd := ok.down i _ ho e he hb
        exact ihi e.on hd (by omega)⟩
       rw [hr'] at this; cases this
     · rfl
  · refine wpOp_mono (fun a' w' h' => ih _ a' w' h' ?_) (h.step hr ok hi)
    obtain ⟨hun, o, ho', _⟩ := mem_ready.1 hi
    have hil : i < l.length := by have := (Array.getElem?_eq_some_iff.1 ho').1; simpa using this
    have his : i < listed.size := by rw [h.size]; exact hil
    have := qde (f := fun i => listed.getD i false) (g := fun j => (listed.setIfInBounds i true).getD j false) (i := i) (by simp [his] at hun ⊢; exact hun) (by simp [his]) (fun j hj => getD_set_ne false (fun e => hj e.symm)) hil
    omega
theorem qef {Q : Exit -> Act -> World -> Prop} (hB : okB st l = true) (C0 D0 : World -> Prop) (hC : C0 w.drew) (hCD : ∀ w, C0 w -> D0 w /\ E w)
 (h : qaR P st E (fun a' C' => ∀ w', C' w' -> Q .normal a' w') l 0 a C0 D0) : wpAny P .any l.toArray Q l.toArray.size (Array.replicate l.toArray.size false) a w.drew := by
 obtain ⟨A, Cs, Ds, v, hr, hA, hC0, hD0, hQ⟩ := qba l 0 a C0 D0 hCD h
 simp only [Nat.zero_add] at hr
 have ok := Ok.of st l hB
 have hinv : Inv l v (A 0) Cs (Array.replicate l.toArray.size false) a w.drew := by
  have hg : ∀ i, (Array.replicate l.length false).getD i false = false := fun i => by
   by_cases hi : i < l.length <;> simp [hi]
  refine ⟨by simp, fun i o ho hl => ?_, ?_, fun i hi hst => ?_⟩
  · simp only [List.size_toArray] at hl; rw [hg i] at hl; cases hl
  · rw [hA]; exact Shape.start.congr fun j o _ => by simp only [List.size_toArray]; rw [hg j]
  · have e : Cs i = Cs 0 := hr.between i i (by omega) hi fun j o hj hs h0 hlt => by
     have := hst j o hj hs
     simp only [List.size_toArray] at this
     rw [hg j] at this; simp at this; omega
    rw [e, hC0]; exact hC
 have := Inv.all_ hr ok (Q := Q) hQ l.toArray.size _ _ _ hinv (by have := qfA (fun i => (Array.replicate l.toArray.size false).getD i false) l.length; simpa using this)
 exact this
end
theorem qbf {P : Program} {l : List Oper} {a : Act} {w : World} {id : Nat} {Q : Exit -> Act -> World -> Prop} (hm : P.follows .mixedOrders = true) (st : List Nat) (hB : okB st l = true) (C0 D0 E : World -> Prop) (hC : C0 w.drew) (hCD : ∀ w, C0 w -> D0 w /\ E w)
 (h : qaR P st E (fun a' C' => ∀ w', C' w' -> Q .normal a' w') l 0 a C0 D0) : (Code.region id l.toArray true).wp P Q a w :=
 wp_region_any hm (qef hB C0 D0 hC hCD h)
section
variable {P : Program} {st : List Nat} {E : World -> Prop} {Q : Act -> (World -> Prop) -> Prop} {o : Oper} {rest : List Oper} {n : Nat} {a : Act} {C D : World -> Prop} {W : World}
theorem qbg (hs : qag o = false) (hf : qaG o = true) {v : Value} (hrun : ∀ w, (execOp a.eval o).run P w = .ok (.value v) w) (h : qaR P st E Q rest (n + 1) (a.put o.dst v) C D) : qaR P st E Q (o :: rest) n a C D := by
 unfold qaR
 rw [if_neg (by simp [hs]), if_pos hf]
 exact ⟨v, fun w => by unfold Gives; rw [hrun w]; exact ⟨rfl, rfl⟩, h⟩
theorem qcy (hs : qag o = false) (hf : qaG o = false) (hl : qbj o = true) (hst : st.contains n = false) {v : Value} (hrun : ∀ w, D w -> (execOp a.eval o).run P w = .ok (.value v) w) (h : qaR P st E Q rest (n + 1) (a.put o.dst v) C D) : qaR P st E Q (o :: rest) n a C D := by
 unfold qaR
 rw [if_neg (by simp [hs]), if_neg (by simp [hf]), if_pos hl]
 exact ⟨v, fun w hw => by rw [if_neg (by rw [hst]; simp)] at hw; unfold Gives; rw [hrun w hw]; exact ⟨rfl, rfl⟩, h⟩
theorem qhW (hs : qag o = false) (hf : qaG o = false) (hl : qbj o = true) (hst : st.contains n = true) {v : Value} (hrun : ∀ w, E w -> (execOp a.eval o).run P w = .ok (.value v) w) (h : qaR P st E Q rest (n + 1) (a.put o.dst v) C D) : qaR P st E Q (o :: rest) n a C D := by
 unfold qaR
 rw [if_neg (by simp [hs]), if_neg (by simp [hf]), if_pos hl]
 exact ⟨v, fun w hw => by rw [if_pos hst] at hw; unfold Gives; rw [hrun w hw]; exact ⟨rfl, rfl⟩, h⟩
theorem qcz (hs : qag o = true) {C' : World -> Prop} {v : Value} {f : FuncId} {args : Array Value} (hrun : ∀ w, C w -> (execOp a.eval o).run P w = .ok (.enter f args) w) (hc : ∀ w, C w -> Calls P f args w fun e w' => e = .returned v /\ C' w') (hD : ∀ w, C' w -> D w /\ E w) (h : qaR P st E Q rest (n + 1) (a.put o.dst v) C' D) : qaR P st E Q (o :: rest) n a C D := by
 unfold qaR
 rw [if_pos hs]
 exact ⟨v, C', D, fun w hw => by unfold Gives; rw [hrun w hw]; exact hc w hw, fun _ => rfl, hD, h⟩
theorem qdA (hs : qag o = true) {v : Value} {W' : World} (hrun : (execOp a.eval o).run P W = .ok (.value v) W') (hD : D W' /\ E W') (h : qaR P st E Q rest (n + 1) (a.put o.dst v) (· = W') D) : qaR P st E Q (o :: rest) n a (· = W) D := by
 unfold qaR
 rw [if_pos hs]
 exact ⟨v, (· = W'), D, fun w hw => by subst hw; unfold Gives; rw [hrun]; exact ⟨rfl, rfl⟩, fun _ => rfl, fun w hw => hw ▸ hD, h⟩
theorem qbI (hs : qag o = true) (hh : qbl o = true) {C' D' : World -> Prop} (hrun : ∀ w, C w -> ∃ W', (execOp a.eval o).run P w = .ok .skip W' /\ C' W') (hD : ∀ w, C' w -> D' w /\ E w) (h : qaR P st E Q rest (n + 1) (a.put o.dst undef) C' D') : qaR P st E Q (o :: rest) n a C D := by
 unfold qaR
 rw [if_pos hs]
 exact ⟨undef, C', D', fun w hw => by obtain ⟨W', h1, h2⟩ := hrun w hw; unfold Gives; rw [h1]; exact ⟨rfl, h2⟩, fun e => by (rw [hh] at e; cases e), hD, h⟩
theorem qcd {Q : Exit -> Act -> World -> Prop} (h : ∀ w', C w' -> Q .normal a w') : qaR P st E (fun a' C' => ∀ w', C' w' -> Q .normal a' w') [] n a C D := h
end
end Ry
namespace Go.Proofs.YtmiopphcfdlneaaGreat
open Go.RowKit Go.Shelf
def Im.ship (s : Gm.Ship) : List Int :=
 if s.on = true then Im.bytesOf 1 1 ++ (Im.flight (fun k => match k with | 0 => s.x | 1 => s.y | 2 => s.vx | _ => s.vy) 4 ++ (Im.bytesOf 1 s.cool ++ Im.bytesOf 4 s.score)) else Im.bytesOf 1 0
theorem qk6 (P o : Nat) (t : TypeId) (cs : Array Value) (bs : List Int) (b Bb Bp : Nat) (w : World) (hbB : b <= Bb) (h : Wr b Bb Bp bs w) (hl : bs.length + 1 <= 65536) (hP : Box w P t cs) (ho : cs[o]? = some (.bool false)) (h1 : t ≠ 165) (h2 : t ≠ 5) (h3 : t ≠ 198) :
 Calls Tryz.prog 170 #[.func (.func 174) #[] #[.pointer (some ⟨Bp, 0, none⟩)], .pointer (some ⟨P, o, none⟩)] w fun e w' => e = .returned (.tuple #[]) /\ Wr b Bb Bp (bs ++ Im.bytesOf 1 0) w' /\ Wrote b Bb w w' := by
 have k0 := hP.cell o
 rw [ho] at k0
 have ltP := hP.lt
 have HL := qh (Box.made w 3 #[.int .i64 0])
 have HPA := qh (hP.alloc (.cells #[.int .i64 0] 3))
 have HA := qh (h.alloc (.cells #[.int .i64 0] 3))
 have WA := qh ((Wrote.refl hbB w).alloc (.cells #[.int .i64 0] 3))
 have c1 := qh (qce 1 1 rfl 0 w.heap.size 0 3 #[.int .i64 0] bs b Bb Bp _ (by decide) (by omega) hbB HA.out (by omega) HL.out rfl (by decide) (by decide) (by decide))
 rw [show IntKind.u64.wrap 0 = 0 from rfl] at c1
 have hvar := qh HA.out.qcO
 have HO := qh ho
 clear h hP ho
 go_enter Tryz.func170, Tryz.ntmps170
 go_wp2_with (first | (go_at_call 141; ((with_reducible refine (qiC _ _).mono ?_); rintro e wn ⟨rfl, rfl⟩)) | (go_at_call 168; ((with_reducible refine (c1.out).mono ?_); rintro e w1 ⟨rfl, hI1, hK1⟩; have L1 := HL.out.qbD hK1 hvar.out (by decide) (by decide); have l1 := L1.cell 0; have P1 := qh (HPA.out.qbD hK1 hvar.out h1 h2); have p1 := P1.out.cell o; rw [HO.out] at p1; have f1 := P1.out.free o; have I1 := qh hI1; have K1 := qh (WA.out.trans hK1); clear hI1 hK1 L1 k0)))
 refine bodyPost_ret (results_none rfl _ _ _) rfl ?_
 exact ⟨rfl, I1.out.off (p := ⟨P, o, none⟩) P1.out h3 h1 h2 _, K1.out.noop P1.out HO.out⟩
theorem qmN (x y vx vy cool score : Int) (P o : Nat) (t : TypeId) (cs : Array Value) (bs : List Int) (b Bb Bp : Nat) (w : World) (hbB : b <= Bb) (h : Wr b Bb Bp bs w) (hl : bs.length + 22 <= 65536) (hP : Box w P t cs)
 (o0 : cs[o]? = some (.bool true)) (o1 : cs[o + 1]? = some (.int .i32 x)) (o2 : cs[o + 2]? = some (.int .i32 y)) (o3 : cs[o + 3]? = some (.int .i32 vx)) (o4 : cs[o + 4]? = some (.int .i32 vy)) (o5 : cs[o + 5]? = some (.int .i64 cool)) (o6 : cs[o + 6]? = some (.int .i64 score))
 (wx : -2147483648 <= x /\ x <= 2147483647) (wy : -2147483648 <= y /\ y <= 2147483647) (wvx : -2147483648 <= vx /\ vx <= 2147483647) (wvy : -2147483648 <= vy /\ vy <= 2147483647) (wc : 0 <= cool /\ cool <= 10) (ws : 0 <= score /\ score <= 1073741824) (h1 : t ≠ 165) (h2 : t ≠ 5) (h3 : t ≠ 198) :
 Calls Tryz.prog 170 #[.func (.func 174) #[] #[.pointer (some ⟨Bp, 0, none⟩)], .pointer (some ⟨P, o, none⟩)] w fun e w' => e = .returned (.tuple #[]) /\ Wr b Bb Bp (bs ++ Im.ship ⟨true, x, y, vx, vy, cool, score⟩) w' /\ Wrote b Bb w w' := by
 have k0 := hP.cell o
 rw [o0] at k0
 have ltP := hP.lt
 have HL := qh (Box.made w 3 #[.int .i64 1])
 have HPA := qh (hP.alloc (.cells #[.int .i64 1] 3))
 have HA := qh (h.alloc (.cells #[.int .i64 1] 3))
 have WA := qh ((Wrote.refl hbB w).alloc (.cells #[.int .i64 1] 3))
 have c1 := qh (qce 1 1 rfl 1 w.heap.size 0 3 #[.int .i64 1] bs b Bb Bp _ (by decide) (by omega) hbB HA.out (by omega) HL.out rfl (by decide) (by decide) (by decide))
 rw [show IntKind.u64.wrap 1 = 1 from rfl] at c1
 have hvar := qh HA.out.qcO
 have HO := qh o0
 clear h hP o0
 go_enter Tryz.func170, Tryz.ntmps170
 go_upto_region 6 with (first | (go_at_call 141; ((with_reducible refine (qiC _ _).mono ?_); rintro e wn ⟨rfl, rfl⟩)) | (go_at_call 168; ((with_reducible refine (c1.out).mono ?_); rintro e w1 ⟨rfl, hI1, hK1⟩; have L1 := HL.out.qbD hK1 hvar.out (by decide) (by decide); have l1 := L1.cell 0; have P1 := qh (HPA.out.qbD hK1 hvar.out h1 h2); have p1 := P1.out.cell o; rw [HO.out] at p1; have f1 := P1.out.free o; have I1 := qh hI1; have K1 := qh (WA.out.trans hK1); clear hI1 hK1 L1 k0)))
 obtain ⟨U, hU⟩ : ∃ U, U = w1.setCell ⟨P, o, none⟩ (.bool true) := ⟨_, rfl⟩
 have IU : Wr b Bb Bp (bs ++ Im.bytesOf 1 1) U := by rw [hU]; exact I1.out.off (p := ⟨P, o, none⟩) P1.out h3 h1 h2 _
 have KU : Wrote b Bb w U := by rw [hU]; exact K1.out.noop P1.out HO.out
 have PU : Box U P t cs := ⟨by rw [hU, qdQ P1.out HO.out]; exact P1.out.is⟩
 rw [<- hU]
 have u0 := PU.cell o
 rw [HO.out] at u0
 have IU := qh IU
 have KU := qh KU
 have PU := qh PU
 clear hU I1 K1 P1 p1 f1 l1 HA HL HPA WA hvar c1
 go_upto_region 7 with fail
 have cf := fun X (hX : Wr b Bb Bp (bs ++ Im.bytesOf 1 1) X) (hB : Box X P t cs) Bq hq => qh (qgX (fun k => match k with | 0 => x | 1 => y | 2 => vx | _ => vy) (fun k => o + 1 + k) P Bq t cs (bs ++ Im.bytesOf 1 1) b Bb Bp X (fun k hk => by
  match k, hk with
  | 0, _ => exact wx
  | 1, _ => exact wy
  | 2, _ => exact wvx
  | 3, _ => exact wvy) hbB hX (by rw [List.length_append, Im.qaw]; omega) hB (fun k hk => by
  match k, hk with
  | 0, _ => exact o1
  | 1, _ => exact o2
  | 2, _ => exact o3
  | 3, _ => exact o4) h1 h2 h3 hq 4)
 refine Ry.qbf (by kernel_rfl) [] (by kernel_rfl) (· = U.drew) (fun _ => True) (fun _ => True) rfl (fun W hW => ⟨trivial, trivial⟩) ?_
 repeat (first
  | (apply Ry.qbg rfl rfl; focus (intro _; go_simp; first | done | rfl))
  | (apply Ry.qcy rfl rfl rfl rfl; focus (intro W hW; clear hW; go_simp; first | done | rfl)))
 refine Ry.qdA rfl (W' := U.drew.alloc (.cells #[.pointer (some ⟨P, o + 1, none⟩), .pointer (some ⟨P, o + 2, none⟩), .pointer (some ⟨P, o + 3, none⟩), .pointer (some ⟨P, o + 4, none⟩)] 225)) (v := .slice (some ⟨U.drew.heap.size, 0, none⟩) 4 4) ?_ ⟨trivial, trivial⟩ ?_
 focus (go_simp; first | done | rfl)
 refine Ry.qcz (C' := fun Z => Wr b Bb Bp (bs ++ Im.bytesOf 1 1 ++ Im.flight (fun k => match k with | 0 => x | 1 => y | 2 => vx | _ => vy) 4) Z /\ Wrote b Bb w Z /\ Box Z P t cs) (v := .tuple #[]) (f := 192) (args := #[.func (.func 174) #[] #[.pointer (some ⟨Bp, 0, none⟩)], .slice (some ⟨U.drew.heap.size, 0, none⟩) 4 4]) rfl ?_ ?_ ?_ ?_
 · intro Z hZ; clear hZ; go_simp; first | done | rfl | exact ⟨rfl, rfl⟩
 · intro Z hZ
   subst hZ
   have hW := (IU.out.call (qhR U)).alloc (.cells #[.pointer (some ⟨P, o + 1, none⟩), .pointer (some ⟨P, o + 2, none⟩), .pointer (some ⟨P, o + 3, none⟩), .pointer (some ⟨P, o + 4, none⟩)] 225)
   refine (cf _ hW (PU.out.drew.alloc _) U.drew.heap.size (Box.made _ _ _)).out.mono ?_
   rintro e Z2 ⟨rfl, hI2, hK2⟩
   exact ⟨rfl, hI2, (KU.out.drew.alloc _).trans hK2, (PU.out.drew.alloc _).qbD hK2 hW.qcO h1 h2⟩
 · exact fun Z hZ => ⟨trivial, trivial⟩
 refine Ry.qcd fun W3 hW3 => ?_
 obtain ⟨hI3, hK3, hP3⟩ := hW3
 have P3 := qh hP3
 have p3 := P3.out.cell
 have IV3 := qh hI3.qcO
 have K3 := qh hK3
 have hwc : IntKind.u64.wrap cool = cool := by rw [IntKind.wrap_u64]; omega
 have hws : IntKind.u64.wrap score = score := by rw [IntKind.wrap_u64]; omega
 have lf := Im.qcU (fun k => match k with | 0 => x | 1 => y | 2 => vx | _ => vy) 4
 have c5 := qh (qce 1 1 rfl cool P (o + 5) t cs _ b Bb Bp W3 (by decide) (by omega) hbB hI3 (by rw [List.length_append, List.length_append, Im.qaw, lf]; omega) hP3 o5 h1 h2 h3)
 rw [hwc] at c5
 have c6 := fun X (hX : Wr b Bb Bp (bs ++ Im.bytesOf 1 1 ++ Im.flight (fun k => match k with | 0 => x | 1 => y | 2 => vx | _ => vy) 4 ++ Im.bytesOf 1 cool) X) (hB : Box X P t cs) => qh (qce 4 4 rfl score P (o + 6) t cs _ b Bb Bp X (by decide) (by omega) hbB hX (by rw [List.length_append, List.length_append, List.length_append, Im.qaw, Im.qaw, lf]; omega) hB o6 h1 h2 h3)
 rw [hws] at c6
 have hsh : Hid (bs ++ Im.bytesOf 1 1 ++ Im.flight (fun k => match k with | 0 => x | 1 => y | 2 => vx | _ => vy) 4 ++ Im.bytesOf 1 cool ++ Im.bytesOf 4 score = bs ++ Im.ship ⟨true, x, y, vx, vy, cool, score⟩) := qh (by simp [Im.ship])
 generalize Im.flight (fun k => match k with | 0 => x | 1 => y | 2 => vx | _ => vy) 4 = FL at *
 clear hI3 hK3 hP3 cf IU KU PU hwc hws lf u0 o1 o2 o3 o4 o5 o6
 go_wp2_with (first | (go_at_call 168; ((with_reducible refine (c5.out).mono ?_); rintro e w4 ⟨rfl, hI, hK⟩; have P4 := qh (P3.out.qbD hK IV3.out h1 h2); have p4 := P4.out.cell; have IV4 := qh hI.qcO; have I4 := qh hI; have K4 := qh (K3.out.trans hK); clear hI hK)) | (go_at_call 168; ((with_reducible refine ((c6 _ I4.out P4.out).out).mono ?_); rintro e w5 ⟨rfl, hI, hK⟩; have P5 := qh (P4.out.qbD hK IV4.out h1 h2); have p5 := P5.out.cell; have IV5 := qh hI.qcO; have I5 := qh hI; have K5 := qh (K4.out.trans hK); clear hI hK)))
 go_end0
 exact ⟨rfl, by rw [<- hsh.out]; exact I5.out, K5.out⟩
def Im.shot (s : Gm.Shot) : List Int := Im.bytesOf 1 s.owner ++ (Im.flight (fun k => match k with | 0 => s.x | 1 => s.y | 2 => s.vx | _ => s.vy) 4 ++ Im.bytesOf 1 s.left)
def Im.qaa (l : List Gm.Shot) : List Int := l.flatMap Im.shot
theorem Im.qlI (s : Gm.Shot) : (Im.shot s).length = 18 := by unfold Im.shot; rw [List.length_append, List.length_append, Im.qaw, Im.qaw, Im.qcU]
theorem Im.qgu (l : List Gm.Shot) : (Im.qaa l).length = 18 * l.length := by
 induction l with
 | nil => rfl
 | cons s l ih => unfold Im.qaa at *; rw [List.flatMap_cons, List.length_append, ih, Im.qlI, List.length_cons]; omega
end Go.Proofs.YtmiopphcfdlneaaGreat
namespace Im
open Go
def val (f : Nat -> Int) : Nat -> Int
 | 0 => 0
 | k + 1 => val f k + f k * 2 ^ (8 * k)
end Im
namespace Rx
open Go
section
variable {P : Program} {X : Thr} {st : List Nat} {E C D : World -> Prop} {Q : Act -> (World -> Prop) -> Prop} {o : Oper} {rest : List Oper} {n : Nat} {a : Act}
end
end Rx
namespace Go.Proofs.YtmiopphcfdlneaaGreat
open Go.RowKit Go.Shelf
section
variable {b Bb Bp : Nat} {bs : List Int} {W W' : World}
end
end Go.Proofs.YtmiopphcfdlneaaGreat
namespace Im
open Go
end Im
namespace Go.Proofs.YtmiopphcfdlneaaGreat
open Go.RowKit Go.Shelf
section
variable {b Bb P L : Nat} {w w0 w1 : World}
theorem Kb.fresh (h : Kb P w w0) (k : Kb L w0 w1) (hL : w.heap.size <= L) : Kb P w w1 := fun g t cs hg hne h1 h2 => k g t cs (h g t cs hg hne h1 h2) (by have := hg.lt; omega) h1 h2
end
end Go.Proofs.YtmiopphcfdlneaaGreat
namespace Im
open Go
end Im
namespace Go.Proofs.YtmiopphcfdlneaaGreat
open Go.RowKit Go.Shelf
end Go.Proofs.YtmiopphcfdlneaaGreat
namespace En
open Go Im
structure Ev where
 kind : Int
 slot : Int
 gen : Int
 peer : Int
structure E where
 frame : Int
 evs : List Ev
 inp : Nat -> Gm.In
def Ev.cells (v : Ev) : List Value := [.int .i64 v.kind, .int .i64 v.slot, .int .i64 v.gen, .int .i64 v.peer]
def qa2 (l : List Ev) : List Value := l.flatMap Ev.cells
theorem qmZ (l : List Ev) (k j : Nat) (hk : k < l.length) (hj : j < 4) : (qa2 l)[k * 4 + j]? = l[k].cells[j]? := by
 induction l generalizing k with
 | nil => simp at hk
 | cons s l ih =>
  unfold qa2 at *
  rw [List.flatMap_cons]
  match k with
  | 0 => rw [List.getElem?_append_left (by simp [Ev.cells]; omega)]; simp
  | k + 1 =>
   rw [List.getElem?_append_right (by simp [Ev.cells]; omega)]
   have := ih k (by simpa using hk)
   rw [show (k + 1) * 4 + j - s.cells.length = k * 4 + j from by simp [Ev.cells]; omega, this]
   simp
def cells (e : E) (s : Value) : Array Value := ([Value.int .i64 e.frame, s] ++ Gm.qai e.inp).toArray
theorem qaf (e : E) (s : Value) : (cells e s).size = 26 := rfl
theorem qa1 (e : E) (s : Value) : (cells e s)[0]? = some (.int .i64 e.frame) := rfl
theorem qcg (e : E) (s : Value) : (cells e s)[1]? = some s := rfl
theorem qed (e : E) (s : Value) (i k : Nat) (hi : i < 8) (hk : k < 3) : (cells e s)[2 + i * 3 + k]? = (e.inp i).cells[k]? := by
 match i, hi with
 | 0, _ => match k, hk with | 0, _ | 1, _ | 2, _ => rfl
 | 1, _ => match k, hk with | 0, _ | 1, _ | 2, _ => rfl
 | 2, _ => match k, hk with | 0, _ | 1, _ | 2, _ => rfl
 | 3, _ => match k, hk with | 0, _ | 1, _ | 2, _ => rfl
 | 4, _ => match k, hk with | 0, _ | 1, _ | 2, _ => rfl
 | 5, _ => match k, hk with | 0, _ | 1, _ | 2, _ => rfl
 | 6, _ => match k, hk with | 0, _ | 1, _ | 2, _ => rfl
 | 7, _ => match k, hk with | 0, _ | 1, _ | 2, _ => rfl
theorem qe2 (e : E) (s : Value) : ∀ j v, (Gm.qai e.inp)[j]? = some v -> (cells e s)[2 + j]? = some v := fun j v hv => by
 unfold cells
 rw [List.getElem?_toArray, List.getElem?_append_right (by simp)]
 simpa using hv
theorem cells_one (e : E) (s : Value) (h : s.oneCell' = true) : (cells e s).all (·.oneCell') = true := by
 refine Array.all_eq_true_iff_forall_mem.2 fun v hv => ?_
 have hv : v ∈ [Value.int .i64 e.frame, s] ++ Gm.qai e.inp := by simpa [cells] using hv
 simp only [Gm.qai, Gm.In.cells, List.mem_append, List.mem_cons, List.not_mem_nil, or_false] at hv
 rcases hv with (rfl | rfl) | hv
 · rfl
 · exact h
 · rcases hv with hv | hv | hv | hv | hv | hv | hv | hv <;> (rcases hv with rfl | rfl | rfl <;> rfl)
def upd (f : Nat -> Gm.In) (i : Nat) (p : Gm.In) : Nat -> Gm.In := fun j => if j = i then p else f j
theorem qeN {f g : Nat -> Gm.In} (h : ∀ i, i < 8 -> f i = g i) : Gm.qai f = Gm.qai g := by
 unfold Gm.qai
 rw [h 0 (by omega), h 1 (by omega), h 2 (by omega), h 3 (by omega), h 4 (by omega), h 5 (by omega), h 6 (by omega), h 7 (by omega)]
def evOk (v : Ev) : Prop := (v.kind = 2 \/ v.kind = 1) /\ (0 <= v.slot /\ v.slot < 8) /\ (1 <= v.gen /\ v.gen <= 60000) /\ 0 <= v.peer /\ v.peer < 12
instance (v : Ev) : Decidable (evOk v) := by unfold evOk; infer_instance
def place (v : Ev) : Int := if v.kind = 2 then v.slot else 8 + v.slot
def Row : Int -> List Ev -> Prop
 | _, [] => True
 | last, v :: l => (evOk v /\ last < place v) /\ Row (place v) l
instance rowDec : ∀ (last : Int) (l : List Ev), Decidable (Row last l)
 | _, [] => .isTrue trivial
 | last, v :: l => by unfold Row; exact @instDecidableAnd _ _ _ (rowDec (place v) l)
theorem qpo {v : Ev} (h : evOk v) : 0 <= place v /\ place v < 16 := by
 obtain ⟨h1, h2, _⟩ := h
 unfold place
 split <;> omega
theorem qkB : ∀ (l : List Ev) (last : Int), Row last l -> ∀ v ∈ l, evOk v
 | v :: l, last, h, u, hu => by
  rcases List.mem_cons.1 hu with rfl | hu
  · exact h.1.1
  · exact qkB l _ h.2 u hu
def inOk (p : Gm.In) : Prop := -127 <= p.x /\ -127 <= p.y
instance (p : Gm.In) : Decidable (inOk p) := by unfold inOk; infer_instance
structure Ok (e : E) : Prop where
 frame : 0 <= e.frame /\ e.frame < 1048576
 row : Row (-1) e.evs
 ins : ∀ i, i < 8 -> inOk (e.inp i)
instance (e : E) : Decidable (Ok e) := decidable_of_iff ((0 <= e.frame /\ e.frame < 1048576) /\ Row (-1) e.evs /\ ∀ i, i < 8 -> inOk (e.inp i)) ⟨fun h => ⟨h.1, h.2.1, h.2.2⟩, fun h => ⟨h.frame, h.row, h.ins⟩⟩
def zero (p : Gm.In) : Bool := decide (p.x = 0 /\ p.y = 0 /\ p.b = 0)
end En
namespace En
open Go Im
def in0 : Nat -> Gm.In := fun _ => ⟨0, 0, 0⟩
end En
namespace Bd
open Go
theorem i8 {a : Int} (h : (Lit.int .i8 a).wf = true) : -128 <= a /\ a <= 127 := by
 simpa [Lit.wf, IntKind.min, IntKind.max, IntKind.signed, IntKind.bits] using h
theorem u8 {a : Int} (h : (Lit.int .u8 a).wf = true) : 0 <= a /\ a <= 255 := by
 simpa [Lit.wf, IntKind.min, IntKind.max, IntKind.signed, IntKind.bits] using h
end Bd
namespace Go.Proofs.YtmiopphcfdlneaaGreat
open Go.ChangeShapes Go.WideShapes Go.ChangeAt Go.RowKit Go.Joins Go.ChangeMaps Go.Deep
section
variable {α : Type} {cells : α -> List Value} {c : Nat}
theorem qdE (hc : ∀ a, (cells a).length = c) (l : List α) : (l.flatMap cells).length = l.length * c := by
 induction l with
 | nil => simp
 | cons s l ih => rw [List.flatMap_cons, List.length_append, ih, List.length_cons, hc, Nat.succ_mul]; omega
theorem qoB (hc : ∀ a, (cells a).length = c) (l : List α) (k j : Nat) (hk : k < l.length) (hj : j < c) : (l.flatMap cells)[k * c + j]? = (cells l[k])[j]? := by
 induction l generalizing k with
 | nil => simp at hk
 | cons s l ih =>
  rw [List.flatMap_cons]
  match k with
  | 0 => rw [List.getElem?_append_left (by rw [hc]; omega)]; simp
  | k + 1 =>
   rw [List.getElem?_append_right (by rw [hc, Nat.succ_mul]; omega)]
   have := ih k (by simpa using hk)
   rw [show (k + 1) * c + j - (cells s).length = k * c + j from by rw [hc, Nat.succ_mul]; omega, this]
   simp
end
section
variable {H : Type} {enc : TypeId × Value -> H} {w : World} {base : Nat} {spare : Nat -> Bool} {held : Bool}
end
open Go.RowKit Go.Shelf
theorem qiR : (Tryz.prog.info? 52).map (·.size) = some 26 := by kernel_rfl
theorem qpB : (Tryz.prog.info? 49).map (·.size) = some 24 := by kernel_rfl
theorem qi7 (x y b : Int) (w : World) :
 Calls Tryz.prog 98 #[.agg #[.int .i8 x, .int .i8 y, .int .u8 b]] w fun e w' => e = .returned (.bool (decide (-127 <= x /\ -127 <= y))) /\ Below w.heap.size w w' := by
 by_cases hx : -127 <= x
 · go_enter Tryz.func98, Tryz.ntmps98
   go_wp2
   go_ret
   exact ⟨qal (by (try rw [Bool.eq_iff_iff]) <;> simp <;> omega), qac _ _⟩
 · go_enter Tryz.func98, Tryz.ntmps98
   go_wp2
   go_ret
   exact ⟨qal (by (try rw [Bool.eq_iff_iff]) <;> simp <;> omega), qac _ _⟩
theorem qfJ (k s g p : Int) (w : World) :
 Calls Tryz.prog 145 #[.agg #[.int .i64 k, .int .i64 s, .int .i64 g, .int .i64 p]] w fun e w' => e = .returned (.bool (decide (En.evOk ⟨k, s, g, p⟩))) /\ Below w.heap.size w w' := by
 obtain ⟨r, hr⟩ : ∃ r, r = decide (En.evOk ⟨k, s, g, p⟩) := ⟨_, rfl⟩
 rw [<- hr]
 unfold En.evOk at hr
 dsimp only at hr
 by_cases hk : k = 2 \/ k = 1
 · have hkb : (if (k == 2) = true then true else k == 1) = true := by rcases hk with rfl | rfl <;> rfl
   by_cases hs : 0 <= s /\ s < 8
   · by_cases hg : 1 <= g /\ g <= 60000
     · have hr' : r = decide (0 <= p /\ p < 12) := by
        rw [hr]
        by_cases hp : 0 <= p /\ p < 12
        · rw [decide_eq_true hp]; exact decide_eq_true ⟨hk, hs, hg, hp⟩
        · rw [decide_eq_false hp]; exact decide_eq_false fun h => hp h.2.2.2
       have HR := qh hr'
       clear hr hr'
       obtain ⟨hs1, hs2⟩ := hs
       obtain ⟨hg1, hg2⟩ := hg
       rcases hk with rfl | rfl
       all_goals
        by_cases hp1 : 0 <= p
        all_goals
         go_enter Tryz.func145, Tryz.ntmps145
         go_wp2
         go_ret
         exact ⟨qal (by rw [HR.out]; (try rw [Bool.eq_iff_iff]) <;> simp <;> omega), qac _ _⟩
     · have hr' : r = false := by rw [hr]; exact decide_eq_false (by omega)
       subst hr'
       obtain ⟨hs1, hs2⟩ := hs
       clear hr
       rcases hk with rfl | rfl
       all_goals
        by_cases hg1 : 1 <= g
        · have hg2 : ¬ g <= 60000 := by omega
          go_enter Tryz.func145, Tryz.ntmps145
          go_wp2
          go_ret
          exact ⟨rfl, qac _ _⟩
        · go_enter Tryz.func145, Tryz.ntmps145
          go_wp2
          go_ret
          exact ⟨rfl, qac _ _⟩
   · have hr' : r = false := by rw [hr]; exact decide_eq_false (by omega)
     subst hr'
     clear hr
     rcases hk with rfl | rfl
     all_goals
      by_cases hs1 : 0 <= s
      · have hs2 : ¬ s < 8 := by omega
        go_enter Tryz.func145, Tryz.ntmps145
        go_wp2
        go_ret
        exact ⟨rfl, qac _ _⟩
      · go_enter Tryz.func145, Tryz.ntmps145
        go_wp2
        go_ret
        exact ⟨rfl, qac _ _⟩
 · have hr' : r = false := by rw [hr]; exact decide_eq_false (by omega)
   subst hr'
   have h2 : (k == 2) = false := by simp; omega
   have h1 : (k == 1) = false := by simp; omega
   clear hr hk
   go_enter Tryz.func145, Tryz.ntmps145
   go_wp2
   go_ret
   exact ⟨rfl, qac _ _⟩
theorem qld (k s g p : Int) (w : World) (h : En.evOk ⟨k, s, g, p⟩) :
 Calls Tryz.prog 146 #[.agg #[.int .i64 k, .int .i64 s, .int .i64 g, .int .i64 p]] w fun e w' => e = .returned (.int .i64 (En.place ⟨k, s, g, p⟩)) /\ Below w.heap.size w w' := by
 obtain ⟨h1, h2, _⟩ := h
 dsimp only at h1 h2
 have hw : IntKind.i64.wrap (8 + s) = 8 + s := by rw [IntKind.wrap_i64]; omega
 rcases h1 with rfl | rfl
 · go_enter Tryz.func146, Tryz.ntmps146
   go_wp2
   go_ret
   exact ⟨rfl, qac _ _⟩
 · go_enter Tryz.func146, Tryz.ntmps146
   go_wp2
   go_ret
   exact ⟨rfl, qac _ _⟩
theorem qj1 {w : World} {B n : Nat} {A : Option Addr} {l : List En.Ev} (h : Lies w B 4 A n (En.qa2 l)) (hn : n = l.length) (k : Nat) (hk : k < l.length) :
 ∃ ad, A = some ad /\ ad.block < B /\ w.cell? (ad.add (k * 4)) = some (.int .i64 l[k].kind) /\ w.cell? ⟨(ad.add (k * 4)).block, (ad.add (k * 4)).off + 1, none⟩ = some (.int .i64 l[k].slot) /\
  w.cell? ⟨(ad.add (k * 4)).block, (ad.add (k * 4)).off + 2, none⟩ = some (.int .i64 l[k].gen) /\ w.cell? ⟨(ad.add (k * 4)).block, (ad.add (k * 4)).off + 3, none⟩ = some (.int .i64 l[k].peer) := by
 obtain ⟨ad, rfl, hb⟩ := h.start (by omega)
 have hc := h.cell ad rfl (by omega)
 have hj : ∀ j v, j < 4 -> l[k].cells[j]? = some v -> w.cell? ((ad.add (k * 4)).add j) = some v := fun j v hj hv => by
  rw [qhm]
  exact hc _ v (by rw [En.qmZ l k j hk hj, hv])
 exact ⟨ad, rfl, hb, hj 0 _ (by decide) rfl, hj 1 _ (by decide) rfl, hj 2 _ (by decide) rfl, hj 3 _ (by decide) rfl⟩
theorem qmK (l : List En.Ev) (A : Option Addr) (n c : Nat) (w : World) (hn : n = l.length) (hn63 : n <= maxLen) (hL : Lies w w.heap.size 4 A n (En.qa2 l)) :
 Calls Tryz.prog 119 #[.slice A n c] w fun e w' => e = .returned (.bool (decide (En.Row (-1) l))) /\ Below w.heap.size w w' := by
 obtain ⟨r, hr⟩ : ∃ r, r = decide (En.Row (-1) l) := ⟨_, rfl⟩
 rw [<- hr]
 have HR := qh hr
 have HN := qh hn
 have n63 : (n : Int) <= 9223372036854775807 := by unfold maxLen at hn63; omega
 clear hr hn hn63
 go_enter Tryz.func119, Tryz.ntmps119
 go_wp2
 go_loopw [3, 8] (fun la i wr => ∃ (k : Nat) (z : Int), k <= n /\ i = .int .i64 k /\ la = .int .i64 z /\ (-1 <= z /\ z < 16) /\ (En.Row (-1) l ↔ En.Row z (l.drop k)) /\ Below w.heap.size w wr) (fun _ i _ => n - (intOf i).toNat)
 case atStart => exact ⟨0, -1, by omega, rfl, rfl, by omega, Iff.rfl, Below.refl _ _⟩
 case round =>
  obtain ⟨k, z, hk, rfl, rfl, hz, hrow, hb⟩ := hrel
  by_cases hlt : k < n
  · have hk8 : (k : Int) < n := by omega
    have hkl : k < l.length := by have := HN.out; omega
    obtain ⟨ad, rfl, hbl, e0, e1, e2, e3⟩ := qj1 (hL.below hb) HN.out k hkl
    rw [List.drop_eq_getElem_cons hkl] at hrow
    generalize hv : l[k] = v at e0 e1 e2 e3 hrow
    obtain ⟨vk, vs, vg, vp⟩ := v
    dsimp only at e0 e1 e2 e3
    have hrow' : En.Row (-1) l ↔ (En.evOk ⟨vk, vs, vg, vp⟩ /\ z < En.place ⟨vk, vs, vg, vp⟩) /\ En.Row (En.place ⟨vk, vs, vg, vp⟩) (l.drop (k + 1)) := hrow
    have HW := qh hrow'
    have HB := qh hb
    have sz := hb.size
    have ltA : ad.block < wr.heap.size := by omega
    by_cases hev : En.evOk ⟨vk, vs, vg, vp⟩
    · have cm := fun X => qh (qfJ vk vs vg vp X)
      rw [decide_eq_true hev] at cm
      have cp := fun X => qh (qld vk vs vg vp X hev)
      have hpl := En.qpo hev
      have hevH := qh hev
      generalize hp : En.place ⟨vk, vs, vg, vp⟩ = pl at cp hpl HW
      clear hrow hrow' hb hv hL hev hp
      by_cases hlp : z < pl
      · have hnp : ¬ pl <= z := by omega
        go_wp2_with (first | (go_at_call 145; ((with_reducible refine ((cm _).out).mono ?_); rintro e w1 ⟨rfl, hb1⟩; have K1 := qh (((HB.out.alloc sz _).trans (hb1.mono (by simp <;> omega)))); have P1 := qh ((Box.made wr 76 #[.int .i64 vk, .int .i64 vs, .int .i64 vg, .int .i64 vp]).below hb1 (by simp)); have p1 := P1.out.cell; clear hb1)) | (go_at_call 146; ((with_reducible refine ((cp _).out).mono ?_); rintro e w2 ⟨rfl, hb2⟩; first | (have K3 := qh (K2.out.trans (hb2.mono K2.out.size))) | (have K2 := qh (K1.out.trans (hb2.mono K1.out.size)); have P2 := qh (P1.out.below hb2 P1.out.lt); have p2 := P2.out.cell); clear hb2)))
        go_roundw
        case rel => exact ⟨k + 1, pl, by omega, by go_num, rfl, by omega, HW.out.trans ⟨fun h => h.2, fun h => ⟨⟨hevH.out, hlp⟩, h⟩⟩, K3.out⟩
        case measure => simp [intOf]; omega
      · have hnp : pl <= z := by omega
        go_wp2_with (first | (go_at_call 145; ((with_reducible refine ((cm _).out).mono ?_); rintro e w1 ⟨rfl, hb1⟩; have K1 := qh (((HB.out.alloc sz _).trans (hb1.mono (by simp <;> omega)))); have P1 := qh ((Box.made wr 76 #[.int .i64 vk, .int .i64 vs, .int .i64 vg, .int .i64 vp]).below hb1 (by simp)); have p1 := P1.out.cell; clear hb1)) | (go_at_call 146; ((with_reducible refine ((cp _).out).mono ?_); rintro e w2 ⟨rfl, hb2⟩; have K2 := qh (K1.out.trans (hb2.mono K1.out.size)); clear hb2)))
        go_ret
        exact ⟨qal (by rw [HR.out]; exact (decide_eq_false fun h => absurd (HW.out.1 h).1.2 (by omega)).symm), K2.out⟩
    · have cm := fun X => qh (qfJ vk vs vg vp X)
      rw [decide_eq_false hev] at cm
      have hevH := qh hev
      clear hrow hrow' hb hv hL hev
      go_wp2_with (go_at_call 145; ((with_reducible refine ((cm _).out).mono ?_); rintro e w1 ⟨rfl, hb1⟩; have K1 := qh (((HB.out.alloc sz _).trans (hb1.mono (by simp <;> omega)))); clear hb1))
      go_ret
      exact ⟨qal (by rw [HR.out]; exact (decide_eq_false fun h => hevH.out (HW.out.1 h).1.1).symm), K1.out⟩
  · have hk8 : ¬ (k : Int) < n := by omega
    obtain rfl : k = n := by omega
    have hd : l.drop k = [] := List.drop_eq_nil_of_le (by have := HN.out; omega)
    rw [hd] at hrow
    have HW := qh hrow
    have HB := qh hb
    clear hrow hb hL
    go_wp2
    go_ret
    exact ⟨qal (by rw [HR.out]; exact (decide_eq_true (HW.out.2 trivial)).symm), HB.out⟩
section
variable {ops : Array Oper} {rest : List Oper} {o : Oper} {a : Act} {w : World} {Q : Exit -> Act -> World -> Prop} {x y : Operand} {dst : Option Tmp} {p : Value}
def qcl (ops : Array Oper) (Q : Exit -> Act -> World -> Prop) (rest : List Oper) (dst : Option Tmp) (p : Value) (off : Nat) (pick : En.E -> Value -> Array Value) (a : Act) (w : World) : Prop :=
 ∃ (B : Nat) (e : En.E) (s : Value), p = .pointer (some ⟨B, off, none⟩) /\ Box w B 52 (En.cells e s) /\ wpList Tryz.prog ops Q rest (a.put dst (.agg (pick e s))) w
theorem qcl.mk {off : Nat} {pick : En.E -> Value -> Array Value} {B : Nat} {e : En.E} {s : Value} (hp : p = .pointer (some ⟨B, off, none⟩)) (hB : Box w B 52 (En.cells e s)) (h : wpList Tryz.prog ops Q rest (a.put dst (.agg (pick e s))) w) : qcl ops Q rest dst p off pick a w := ⟨B, e, s, hp, hB, h⟩
theorem qhb (hgd : o.guard = none) (ho : o.op = .load 52 x) (h : qcl ops Q rest o.dst (a.eval x) 0 (fun e s => En.cells e s) a w) : wpList Tryz.prog ops Q (o :: rest) a w := by
 obtain ⟨B, e, s, hx, hB, h⟩ := h
 exact qbO hgd ho hx hB Tryz.underlying52 rfl qiR h
theorem qeW (hw : Region.wanted o (yielded ops a.tmps) = true) (ho : o.op = .load 52 x) (h : qcl ops Q rest o.dst (a.eval x) 0 (fun e s => En.cells e s) a w) : wpList Tryz.prog ops Q (o :: rest) a w := by
 obtain ⟨B, e, s, hx, hB, h⟩ := h
 refine qcb hw ho hx hB (En.cells e s).toList (fun j v hv => ?_) Tryz.underlying52 rfl (by rw [Array.length_toList, En.qaf]; exact qiR) (by rw [Array.toArray_toList]; exact h)
 rw [Nat.zero_add]
 simpa using hv
theorem qc8 (hgd : o.guard = none) (ho : o.op = .load 49 x) (h : qcl ops Q rest o.dst (a.eval x) 2 (fun e _ => (Gm.qai e.inp).toArray) a w) : wpList Tryz.prog ops Q (o :: rest) a w := by
 obtain ⟨B, e, s, hx, hB, h⟩ := h
 exact qbH hgd ho hx hB (Gm.qai e.inp) (En.qe2 e s) Tryz.underlying49 rfl qpB h
end
theorem qft : (Tryz.prog.info? 48).map (·.size) = some 3 := by kernel_rfl
theorem qeM (f : Nat -> Gm.In) (i : Nat) (hi : i < 8) : ((Gm.qai f).drop (i * 3)).take 3 = (f i).cells := by
 match i, hi with
 | 0, _ | 1, _ | 2, _ | 3, _ | 4, _ | 5, _ | 6, _ | 7, _ => rfl
theorem qqo (f : Nat -> Gm.In) (i : Nat) (hi : i < 8) (w : World) : (part 48 (Gm.qai f).toArray (i * 3)).run Tryz.prog w = .ok (.agg (f i).cells.toArray) w := by
 have h := qeM f i hi
 cases hq : Tryz.prog.info? 48 with
 | none => have := qft; simp [hq] at this
 | some j =>
  have hs : j.size = 3 := by have := qft; simpa [hq] using this
  simp [part, isAgg, sizeOf, typeInfo, hq, hs, run_underlying (Tryz.underlying48) w, h]
theorem qiH (f : Nat -> Gm.In) (k : Nat) (hk : k < 8) (W : World) : (Instr.index 49 (.agg (Gm.qai f).toArray) (.int .i64 (k : Int))).run Tryz.prog W = .ok (.agg #[.int .i8 (f k).x, .int .i8 (f k).y, .int .u8 (f k).b]) W := by
 have h := qqo f k hk W
 rw [show (f k).cells.toArray = #[.int .i8 (f k).x, .int .i8 (f k).y, .int .u8 (f k).b] from rfl] at h
 have hk8 : (k : Int) < 8 := by omega
 have hc : Tryz.prog.cellsOf 48 = 3 := by kernel_rfl
 cases hq : Tryz.prog.info? 48 with
 | none => have := qft; simp [hq] at this
 | some i =>
  have hi : i.size = 3 := by have := qft; simpa [hq] using this
  simp [Instr.index, run_underlying (Tryz.underlying49) W, h, hk8, sizeOf, typeInfo, hq, hi, go_sem]
  rw [if_pos hk, qeM f k hk]
  rfl
theorem qj3 (e : En.E) (A : Option Addr) (n c : Nat) (w : World) (hn : n = e.evs.length) (hn63 : n <= maxLen) (hL : Lies w w.heap.size 4 A n (En.qa2 e.evs)) :
 Calls Tryz.prog 89 #[.agg (En.cells e (.slice A n c))] w fun r w' => r = .returned (.bool (decide (En.Ok e))) /\ Below w.heap.size w w' := by
 obtain ⟨v, hv⟩ : ∃ v, v = decide (En.Ok e) := ⟨_, rfl⟩
 rw [<- hv]
 have HV := qh hv
 clear hv
 have P0 := qh (Box.made w 52 (En.cells e (.slice A n c)))
 have K0 := qh (qac w (.cells (En.cells e (.slice A n c)) 52))
 have hr0 := qh ((hL.below K0.out).wider K0.out.size)
 have c0 := P0.out.cell 0
 have c1 := P0.out.cell 1
 rw [En.qa1] at c0
 rw [En.qcg] at c1
 have cm := fun X hX => qh (qmK e.evs A n c X hn hn63 hX)
 clear hL hn hn63
 by_cases hf1 : e.frame < 0
 · have hno := qh (show ¬ En.Ok e from fun h => by have := h.frame; omega)
   go_enter Tryz.func89, Tryz.ntmps89
   go_wp2
   go_ret
   exact ⟨qal (by rw [HV.out]; exact (decide_eq_false hno.out).symm), K0.out⟩
 by_cases hf2 : 1048576 <= e.frame
 · have hno := qh (show ¬ En.Ok e from fun h => by have := h.frame; omega)
   go_enter Tryz.func89, Tryz.ntmps89
   go_wp2
   go_ret
   exact ⟨qal (by rw [HV.out]; exact (decide_eq_false hno.out).symm), K0.out⟩
 by_cases hrow : En.Row (-1) e.evs
 · rw [decide_eq_true hrow] at cm
   have HF := qh (show 0 <= e.frame /\ e.frame < 1048576 by omega)
   have HW := qh hrow
   clear hrow
   go_enter Tryz.func89, Tryz.ntmps89
   go_wp2_with (first | ((with_reducible refine qc8 rfl rfl ?_); apply qcl.mk rfl; (focus (with_reducible exact P1.out)); dsimp only) | (go_at_call 119; ((with_reducible refine ((cm _ hr0.out).out).mono ?_); rintro r w1 ⟨rfl, hb⟩; have P1 := qh (P0.out.below hb P0.out.lt); have K1 := qh (K0.out.trans (hb.mono K0.out.size)); clear hb)))
   go_loopw [21] (fun i wr => ∃ k : Nat, k <= 8 /\ i = .int .i64 k /\ Below w.heap.size w wr /\ ∀ j, j < k -> En.inOk (e.inp j)) (fun i _ => 8 - (intOf i).toNat)
   case atStart => exact ⟨0, by omega, rfl, K1.out, fun j hj => absurd hj (Nat.not_lt_zero j)⟩
   case round =>
    obtain ⟨k, hk, rfl, hb, hall⟩ := hrel
    clear P0 K0 P1 K1 hr0 c0 c1 cm
    by_cases hlt : k < 8
    · have hk8 : (k : Int) < 8 := by omega
      have hpart := qiH e.inp k hlt
      have hok : En.inOk (e.inp k) ↔ (-127 <= (e.inp k).x /\ -127 <= (e.inp k).y) := Iff.rfl
      have HK := qh (show ∀ j, j < k + 1 -> j = k \/ j < k from fun j hj => by omega)
      obtain ⟨p, hp⟩ : ∃ p, p = e.inp k := ⟨_, rfl⟩
      rw [<- hp] at hpart hok
      obtain ⟨x, y, b⟩ := p
      dsimp only at hpart hok
      have HP := qh hp
      have HALL := qh hall
      have HB := qh hb
      have cs := fun X => qh (qi7 x y b X)
      have sz := hb.size
      clear hp hall hb
      by_cases hi : -127 <= x /\ -127 <= y
      · rw [decide_eq_true hi] at cs
        have hnew := qh (show ∀ j, j < k + 1 -> En.inOk (e.inp j) from fun j hj => by
         rcases HK.out j hj with rfl | h
         · rw [<- HP.out]; exact hok.2 hi
         · exact HALL.out j h)
        clear hok hi
        go_wp2_with (go_at_call 98; ((with_reducible refine ((cs _).out).mono ?_); rintro r w2 ⟨rfl, hb⟩; have K2 := qh ((HB.out.alloc sz (.cells #[.int .i8 x, .int .i8 y, .int .u8 b] 48)).trans (hb.mono (by simp <;> omega))); clear hb))
        go_roundw
        case rel => exact ⟨k + 1, by omega, by go_num, K2.out, hnew.out⟩
        case measure => simp [intOf]; omega
      · rw [decide_eq_false hi] at cs
        have hno := qh (show ¬ En.Ok e from fun h => hi (by have := h.ins k hlt; rw [<- HP.out] at this; exact this))
        clear hok hi
        go_wp2_with (go_at_call 98; ((with_reducible refine ((cs _).out).mono ?_); rintro r w2 ⟨rfl, hb⟩; have K2 := qh ((HB.out.alloc sz (.cells #[.int .i8 x, .int .i8 y, .int .u8 b] 48)).trans (hb.mono (by simp <;> omega))); clear hb))
        go_ret
        exact ⟨qal (by rw [HV.out]; exact (decide_eq_false hno.out).symm), K2.out⟩
    · have hk8 : ¬ (k : Int) < 8 := by omega
      obtain rfl : k = 8 := by omega
      have hyes := qh (show En.Ok e from ⟨HF.out, HW.out, hall⟩)
      have HB := qh hb
      clear hall hb
      go_wp2
      go_ret
      exact ⟨qal (by rw [HV.out]; exact (decide_eq_true hyes.out).symm), HB.out⟩
 · rw [decide_eq_false hrow] at cm
   have hno := qh (show ¬ En.Ok e from fun h => hrow h.row)
   clear hrow
   go_enter Tryz.func89, Tryz.ntmps89
   go_wp2_with (go_at_call 119; ((with_reducible refine ((cm _ hr0.out).out).mono ?_); rintro r w1 ⟨rfl, hb⟩; have K1 := qh (K0.out.trans (hb.mono K0.out.size)); clear hb))
   go_ret
   exact ⟨qal (by rw [HV.out]; exact (decide_eq_false hno.out).symm), K1.out⟩
end Go.Proofs.YtmiopphcfdlneaaGreat
namespace Im
open Go
section
variable {α : Type} {dec : List Int -> Option (α × List Int)}
end
theorem qg5 {ys : List (List Int)} {k : Nat} (h : k < ys.length) : (ys.take (k + 1)).flatten = (ys.take k).flatten ++ ys.getD k [] := by
 have e : ys.getD k [] = ys[k] := by simp [h]
 rw [List.take_succ_eq_append_getElem h, List.flatten_append, e]
 simp
theorem qqu (ys : List (List Int)) (k : Nat) : (ys.take k).flatten.length <= ys.flatten.length := by
 have h : ys.flatten.length = (ys.take k).flatten.length + (ys.drop k).flatten.length := by
  rw [<- List.length_append, <- List.flatten_append, List.take_append_drop]
 omega
end Im
namespace Go.Proofs.YtmiopphcfdlneaaGreat
open Go.RowKit Go.Shelf
def VarK (Bb P : Nat) (w w' : World) : Prop := ∀ g cs, Box w g 165 cs -> g ≠ Bb -> g ≠ P -> Box w' g 165 cs
section
variable {b Bb P L : Nat} {w w' w'' : World}
theorem VarK.refl (w : World) : VarK Bb P w w := fun _ _ h _ _ => h
theorem VarK.trans (h : VarK Bb P w w') (k : VarK Bb P w' w'') : VarK Bb P w w'' := fun g cs hg h1 h2 => k g cs (h g cs hg h1 h2) h1 h2
theorem VarK.call (h : VarK Bb P w w') (hb : Below w'.heap.size w' w'') : VarK Bb P w w'' := fun g cs hg h1 h2 => (h g cs hg h1 h2).below hb (h g cs hg h1 h2).lt
theorem VarK.wrote (h : VarK Bb P w w') (k : Wrote b Bb w' w'') : VarK Bb P w w'' := fun g cs hg h1 h2 => (h g cs hg h1 h2).wrote k h1 (by decide)
theorem VarK.put (h : VarK Bb P w w') (i : Nat) (u : Value) : VarK Bb P w (w'.setCell ⟨P, i, none⟩ u) := fun g cs hg h1 h2 => (h g cs hg h1 h2).far (p := ⟨P, i, none⟩) h2 u
theorem VarK.fresh (h : VarK Bb P w w') (k : VarK Bb L w' w'') (hL : w.heap.size <= L) : VarK Bb P w w'' := fun g cs hg h1 h2 => k g cs (h g cs hg h1 h2) h1 (by have := hg.lt; omega)
end
def qqV (fe : Nat) (T : TypeId) (sz : Nat) (C : List Value) (ys : List (List Int)) (b Bb Bp : Nat) (w : World) : Prop :=
 ∀ (k S : Nat) (X : World) (Y : Array Value) (bs : List Int), k < ys.length -> Below b w X -> b <= S -> Wr b Bb Bp bs X -> bs.length + (ys.getD k []).length <= 65536 -> Box X S T Y -> (∀ j, j < sz -> Y[k * sz + j]? = C[k * sz + j]?) ->
  Calls Tryz.prog fe #[.func (.func 174) #[] #[.pointer (some ⟨Bp, 0, none⟩)], .pointer (some ⟨S, k * sz, none⟩)] X fun e w' => e = .returned (.tuple #[]) /\ Wr b Bb Bp (bs ++ ys.getD k []) w' /\ Below b X w' /\ Kb S X w' /\ VarK Bb S X w' /\ ∃ Y', Box w' S T Y' /\ Y'.size = Y.size /\ ∀ j, (j < k * sz \/ k * sz + sz <= j) -> Y'[j]? = Y[j]?
section
variable {α : Type} {sz : Nat} {Good Good' : α -> List Value -> Prop}
end
theorem qni : (Tryz.prog.info? 80).map (fun i => (i.zero, i.size, i.bytes)) = some (some (Value.agg #[.int .i64 0, .int .i32 0, .int .i32 0, .int .i32 0, .int .i32 0, .int .i64 0]), 6, 32) := by kernel_rfl
theorem qqy : (Tryz.prog.info? 80).map (·.size) = some 6 := by kernel_rfl
theorem qof (C : List Value) (ys : List (List Int)) (n : Nat) (A : Option Addr) (c size : Nat) (z : Int) (hz : z = size) (P o : Nat) (t : TypeId) (cs : Array Value) (bs : List Int) (b Bb Bp : Nat) (w : World) (hn : ys.length = n) (hn16 : n <= 4096) (hs : size <= 8) (hbB : b <= Bb) (hbP : b <= P) (hbw : b <= w.heap.size) (h : Wr b Bb Bp bs w) (hl : bs.length + size + ys.flatten.length <= 65536) (hP : Box w P t cs)
 (ho : cs[o]? = some (.slice A n c)) (hL : Lies w b 6 A n C) (hone : ∀ u ∈ C, u.oneCell' = true) (h1 : t ≠ 165) (h2 : t ≠ 5) (h3 : t ≠ 198) (hc : qqV 172 80 6 C ys b Bb Bp w) :
 Calls Tryz.prog 171 #[.func (.func 174) #[] #[.pointer (some ⟨Bp, 0, none⟩)], .int .i64 z, .pointer (some ⟨P, o, none⟩), .func (.func 172) #[] #[]] w fun e w' => e = .returned (.tuple #[]) /\ Wr b Bb Bp (bs ++ (Im.bytesOf size n ++ ys.flatten)) w' /\ Below b w w' /\ Kb P w w' /\ VarK Bb P w w' /\ ∃ S, Box w' P t (cs.setIfInBounds o (.slice (some ⟨S, 0, none⟩) n n)) := by
 subst hz
 have k0 := hP.cell o
 rw [ho] at k0
 have ltP := hP.lt
 have hwn : IntKind.u64.wrap (n : Int) = n := by rw [IntKind.wrap_u64]; omega
 have HL := qh (Box.made w 3 #[.int .i64 n])
 have HPA := qh (hP.alloc (.cells #[.int .i64 n] 3))
 have HA := qh (h.alloc (.cells #[.int .i64 n] 3))
 have WA := qh ((Wrote.refl hbB w).alloc (.cells #[.int .i64 n] 3))
 have KA := qh ((Kb.refl (B := P) w).call (qac w (.cells #[.int .i64 n] 3)))
 have VA := qh ((VarK.refl (Bb := Bb) (P := P) w).call (qac w (.cells #[.int .i64 n] 3)))
 have c1 := qh (qce size size rfl n w.heap.size 0 3 #[.int .i64 n] bs b Bb Bp _ hs (by omega) hbB HA.out (by omega) HL.out rfl (by decide) (by decide) (by decide))
 rw [hwn] at c1
 have hvar := qh HA.out.qcO
 have HO := qh ho
 have HLs := qh hL
 obtain ⟨i0, hi0, hz0, hz1, hz2⟩ := info_parts qni
 obtain ⟨Z, hZ⟩ : ∃ Z, Z = madeCells (Value.agg #[.int .i64 0, .int .i32 0, .int .i32 0, .int .i32 0, .int .i32 0, .int .i64 0]).cells (n * 6) := ⟨_, rfl⟩
 have hZs : Z.size = n * 6 := by rw [hZ, size_madeCells]
 have hCs : C.length = n * 6 := hL.len
 have hmk : ∀ W : World, (Instr.makeSlice 29 (.int .i64 (n : Int)) (.int .i64 (n : Int))).run Tryz.prog W = .ok (.slice (some ⟨W.heap.size, 0, none⟩) n n) (W.alloc (.cells Z 80)) := fun W => by
  have := run_make (P := Tryz.prog) W 29 80 i0 _ Tryz.underlying29 hi0 hz0 .i64 .i64 n n (by omega) (Int.le_refl _) (by rw [hz2]; omega) (by omega)
  rw [this, hZ, hz1, Int.toNat_natCast]
 have hcp : ∀ W : World, Lies W W.heap.size 6 A n C -> (Builtin.copy_ #[29, 29] 3 #[.slice (some ⟨W.heap.size, 0, none⟩) n n, .slice A n c]).run Tryz.prog (W.alloc (.cells Z 80)) = .ok (.int .i64 n) (W.alloc (.cells C.toArray 80)) := fun W hW => by
  cases A with
  | none =>
   have hn0 : n = 0 := by
    by_cases h0 : n = 0
    · exact h0
    · obtain ⟨ad, e, _⟩ := hW.start h0
      cases e
   have hl0 : C = [] := List.eq_nil_of_length_eq_zero (by omega)
   have hz : Z = #[] := Array.eq_empty_of_size_eq_zero (by omega)
   have := qgC (P := Tryz.prog) (W.alloc (.cells Z 80)) 29 29 3 80 ⟨W.heap.size, 0, none⟩ n n c Tryz.underlying29 (by rw [Option.isSome_map]; rw [hi0]; rfl)
   rw [hn0] at this ⊢
   rw [hl0]
   rw [hz] at this ⊢
   simpa [goInt] using this
  | some ad =>
   have hc : ∀ j v, C[j]? = some v -> (W.alloc (.cells Z 80)).cell? (ad.add j) = some v := fun j v hv => by
    have hn0 : n ≠ 0 := fun e => by
     have := (List.getElem?_eq_some_iff.1 hv).1
     omega
    exact (hW.below (qac W (.cells Z 80))).cell ad rfl hn0 j v hv
   have := qim (P := Tryz.prog) (W.alloc (.cells Z 80)) 29 29 3 80 6 W.heap.size n n ad n c Z 80 C Tryz.underlying29 qqy (Box.made W _ _).is (by rw [hW.len]; simp) hc (by rw [hW.len, hZs]) hone
   rw [World.setRow_alloc_new] at this
   simpa [goInt] using this
 have NL := qh hn
 have HC := qh hc
 have HCS := qh hCs
 clear h hP ho hL hZ hn hc hCs
 go_enter Tryz.func171, Tryz.ntmps171
 go_upto_region 2 with (go_at_call 168; ((with_reducible refine (c1.out).mono ?_); rintro e w1 ⟨rfl, hI1, hK1⟩; have L1 := HL.out.qbD hK1 hvar.out (by decide) (by decide); have l1 := L1.cell 0; have P1 := qh (HPA.out.qbD hK1 hvar.out h1 h2); have I1 := qh hI1; have K1 := qh (WA.out.trans hK1); have B1 := qh (KA.out.wrote hK1 hvar.out); have V1 := qh (VA.out.wrote hK1); clear hI1 hK1 L1 k0))
 have lw1 := (HLs.out.below (K1.out.to hbw))
 have hcpw := hcp w1 (lw1.wider (Nat.le_trans hbw K1.out.size))
 have p58 : ∀ x, (w1.alloc x).cell? ⟨P, o, none⟩ = some (.slice A n c) := fun x => ((P1.out.alloc x).cell o).trans HO.out
 have sz1 : w.heap.size <= w1.heap.size := K1.out.size
 clear hcp lw1 HLs HL HPA HA WA KA VA c1
 go_upto_region 4 with fail
 obtain ⟨U, hU⟩ : ∃ U, U = w1.alloc (.cells C.toArray 80) := ⟨_, rfl⟩
 have PU : Box U P t cs := by rw [hU]; exact P1.out.alloc _
 have SU : Box U w1.heap.size 80 C.toArray := by rw [hU]; exact Box.made w1 _ _
 have IU : Wr b Bb Bp (bs ++ Im.bytesOf size n) U := by rw [hU]; exact I1.out.alloc _
 have BU : Below b w U := by rw [hU]; exact (K1.out.to hbw).alloc (Nat.le_trans hbw sz1) _
 have KU : Kb P w U := by rw [hU]; exact B1.out.call (qac _ _)
 have VU : VarK Bb P w U := by rw [hU]; exact V1.out.call (qac _ _)
 have hSP : w1.heap.size ≠ P := by have := P1.out.lt; omega
 have hbS : b <= w1.heap.size := Nat.le_trans hbw sz1
 have hSw : w.heap.size <= w1.heap.size := sz1
 rw [<- hU]
 generalize w1.heap.size = S at *
 have IU := qh IU
 have PU := qh PU
 have SU := qh SU
 have BU := qh BU
 have KU := qh KU
 have VU := qh VU
 clear hU I1 K1 P1 B1 V1 p58 hcpw hmk l1 hvar sz1
 go_upto_region 5 with fail
 go_loopw [10, 27] (fun _ i wr => ∃ k : Nat, k <= n /\ i = .int .i64 k /\ Wr b Bb Bp (bs ++ Im.bytesOf size n ++ (ys.take k).flatten) wr /\ Below b U wr /\ Kb S U wr /\ VarK Bb S U wr /\ ∃ Y, Box wr S 80 Y /\ Y.size = C.length /\ ∀ j, k * 6 <= j -> Y[j]? = C[j]?) (fun _ i _ => n - (intOf i).toNat)
 case atStart => exact ⟨0, by omega, rfl, by simpa using IU.out, Below.refl _ _, Kb.refl _, VarK.refl _, _, SU.out, by simp, fun j _ => by simp⟩
 case round =>
  obtain ⟨k, hk, rfl, hI, hB, hK, hVK, Y, hY, hYs, hYc⟩ := hrel
  by_cases hlt : k < n
  · have hk8 : (k : Int) < n := by omega
    have hkl : k < ys.length := by have := NL.out; omega
    have ht := Im.qg5 hkl
    have hle := Im.qqu ys (k + 1)
    rw [ht, List.length_append] at hle
    have HT := qh ht
    have cc := qh (HC.out k S wr Y (bs ++ Im.bytesOf size n ++ (ys.take k).flatten) hkl (BU.out.trans hB) hbS hI (by rw [List.length_append, List.length_append, Im.qaw]; omega) hY (fun j hj => hYc _ (by omega)))
    have HB := qh hB
    have HK := qh hK
    have HVK := qh hVK
    have HYs := qh hYs
    have HYc := qh hYc
    clear ht hle hI hB hK hVK hYs hYc hY
    go_wp2_with (go_at_call 172; ((with_reducible refine (cc.out).mono ?_); rintro e w3 ⟨rfl, hI, hB, hK, hVK, Y', hY, hYs, hYc⟩; have V3 := qh (HVK.out.trans hVK); have I3 := qh hI; have B3 := qh (HB.out.trans hB); have K3 := qh (HK.out.trans hK); have Y3 := qh hY; have Z3 := qh (hYs.trans HYs.out); have C3 := qh hYc; clear hI hB hK hVK hY hYs hYc))
    go_roundw
    case rel => exact ⟨k + 1, by omega, by go_num, by rw [HT.out, <- List.append_assoc]; exact I3.out, B3.out, K3.out, V3.out, Y', Y3.out, Z3.out, fun j hj => by rw [C3.out j (by omega)]; exact HYc.out j (by omega)⟩
    case measure => simp [intOf]; omega
  · have hk8 : ¬ (k : Int) < n := by omega
    obtain rfl : k = n := by omega
    have ht : ys.take k = ys := List.take_of_length_le (by have := NL.out; omega)
    rw [ht] at hI
    have HI := qh hI
    have HK := qh hK
    have HB := qh hB
    have HVK := qh hVK
    have PW := qh (hK P t cs PU.out hSP.symm h1 h2)
    have pc : wr.cell? ⟨P, o, none⟩ = some (.slice A k c) := (PW.out.cell o).trans HO.out
    have pf : wr.frozen? ⟨P, o, none⟩ = false := PW.out.free o
    clear hI hK hB hVK hY hYs hYc
    go_wp2
    go_end0
    exact ⟨rfl, by rw [<- List.append_assoc]; exact HI.out.off (p := ⟨P, o, none⟩) PW.out h3 h1 h2 _, (BU.out.trans HB.out).setCell hbP _, (KU.out.fresh HK.out hSw).put o _, (VU.out.fresh HVK.out hSw).put o _, S, PW.out.put o _⟩
end Go.Proofs.YtmiopphcfdlneaaGreat