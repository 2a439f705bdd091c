/-
Several texts in one: Ry Rgt Gh.
-/
import Derived.Test.YtbdlpbnfcnhajaaGreatRn10
set_option maxRecDepth 100000
set_option maxHeartbeats 8000000
set_option linter.unusedVariables false
set_option linter.unusedSimpArgs false
namespace Ry
open Go
def isHard (o : Oper) : Bool := match o.op with | .store .. => true | _ => false
def isMake (o : Oper) : Bool := match o.op with | .buildSlice .. | .alloc .. => true | .call c => (match c.callee with | .builtin .append | .value _ => true | _ => false) | _ => false
def isStore (o : Oper) : Bool := isHard o || isMake o
def isLook (o : Oper) : Bool := match o.op with | .load .. | .nilCheck .. => true | _ => false
def isFree (o : Oper) : Bool := match o.op with | .fieldAddr .. | .indexAddr .. | .move .. | .assign .. | .pick .. | .extract .. | .binOp .. | .unOp .. | .build .. | .convert .. | .slice .. => true | _ => false
theorem store_free {o : Oper} (h : isStore o = true) : isFree o = false := by
 unfold isStore isHard isMake at h
 unfold isFree
 generalize o.op = x at h ⊢
 cases x <;> first | rfl | (exact absurd h (by decide)) | (simp at h)
theorem store_look {o : Oper} (h : isStore o = true) : isLook o = false := by
 unfold isStore isHard isMake at h
 unfold isLook
 generalize o.op = x at h ⊢
 cases x <;> first | rfl | (exact absurd h (by decide)) | (simp at h)
def Gives (P : Program) (o : Oper) (a : Act) (w : World) (v : Value) (C : World → Prop) : Prop :=
 match (execOp a.eval o).run P w with
 | .ok (.value u) w1 => u = v ∧ C w1
 | .ok .skip w1 => undef = v ∧ C w1
 | .ok (.enter f args) w1 => Calls P f args w1 fun e w2 => e = .returned v ∧ C w2
 | _ => False
theorem Gives.wp {P : Program} {o : Oper} {a : Act} {w : World} {v : Value} {C : World → Prop} {K : Act → World → Prop} {Q : Exit → Act → World → Prop} (h : Gives P o a w v C) (hK : ∀ w', C w' → K (a.put o.dst v) w') : o.wp P a w K Q := by
 unfold Gives at h
 unfold Oper.wp
 generalize (execOp a.eval o).run P w = r at *
 cases r with
 | ok n w1 =>
  cases n <;> simp only [Oper.upon] at h ⊢
  case value u => obtain ⟨rfl, h⟩ := h; exact hK _ h
  case skip => obtain ⟨rfl, h⟩ := h; exact hK _ h
  case enter f args =>
   exact h.mono fun e w2 ⟨he, hw⟩ => by subst he; exact hK _ hw
 | halt x w1 => cases h
theorem Gives.congr {P : Program} {o : Oper} {a a' : Act} {w : World} {v : Value} {C : World → Prop} (h : Gives P o a w v C) (he : execOp a'.eval o = execOp a.eval o) : Gives P o a' w v C := by
 unfold Gives at *; rw [he]; exact h
def wpLex (P : Program) (st : List Nat) (E : World → Prop) (Q : Act → (World → Prop) → Prop) : List Oper → Nat → Act → (World → Prop) → (World → Prop) → Prop
 | [], _, a, C, _ => Q a C
 | o :: rest, n, a, C, D =>
  if isStore o then ∃ v C' D', (∀ w, C w → Gives P o a w v C') ∧ (isHard o = false → D' = D) ∧ (∀ w, C' w → D' w ∧ E w) ∧ wpLex P st E Q rest (n + 1) (a.put o.dst v) C' D'
  else if isFree o then ∃ v, (∀ w, Gives P o a w v (fun w' => w' = w)) ∧ wpLex P st E Q rest (n + 1) (a.put o.dst v) C D
  else if isLook o then ∃ v, (∀ w, (if st.contains n then E w else D w) → Gives P o a w v (fun w' => w' = w)) ∧ wpLex P st E Q rest (n + 1) (a.put o.dst v) C D
  else ∃ v, (∀ w, C w → Gives P o a w v C) ∧ wpLex P st E Q rest (n + 1) (a.put o.dst v) C D
structure Run (P : Program) (st : Nat → Bool) (E : World → Prop) (l : List Oper) (A : Nat → Act) (C D : Nat → World → Prop) (v : Nat → Value) : Prop where
 act : ∀ i o, l[i]? = some o → A (i + 1) = (A i).put o.dst (v i)
 store : ∀ i o, l[i]? = some o → isStore o = true → ∀ w, C i w → Gives P o (A i) w (v i) (C (i + 1))
 free : ∀ i o, l[i]? = some o → isStore o = false → isFree o = true → C (i + 1) = C i ∧ ∀ w, Gives P o (A i) w (v i) (fun w' => w' = w)
 look : ∀ i o, l[i]? = some o → isStore o = false → isFree o = false → isLook o = true → C (i + 1) = C i ∧ ∀ w, (if st i then E w else D i w) → Gives P o (A i) w (v i) (fun w' => w' = w)
 read : ∀ i o, l[i]? = some o → isStore o = false → isFree o = false → isLook o = false → C (i + 1) = C i ∧ ∀ w, C i w → Gives P o (A i) w (v i) (C i)
 soft : ∀ i o, l[i]? = some o → isHard o = false → D (i + 1) = D i
 held : ∀ i, i ≤ l.length → ∀ w, C i w → D i w ∧ E w
def consF {α : Type} (x : α) (f : Nat → α) : Nat → α
 | 0 => x
 | i + 1 => f i
theorem Run.cons {P : Program} {st : Nat → Bool} {E : World → Prop} {l : List Oper} {o : Oper} {a : Act} {C D C1 D1 : World → Prop} {u : Value} {A : Nat → Act} {Cs Ds : Nat → World → Prop} {v : Nat → Value} (hr : Run P (fun i => st (i + 1)) E l A Cs Ds v) (hA : A 0 = a.put o.dst u) (hC : Cs 0 = C1) (hD : Ds 0 = D1) (hCD : ∀ w, C w → D w ∧ E w)
 (h1 : isStore o = true → ∀ w, C w → Gives P o a w u C1) (h2 : isStore o = false → isFree o = true → C1 = C ∧ ∀ w, Gives P o a w u (fun w' => w' = w)) (h3 : isStore o = false → isFree o = false → isLook o = true → C1 = C ∧ ∀ w, (if st 0 then E w else D w) → Gives P o a w u (fun w' => w' = w))
 (h4 : isStore o = false → isFree o = false → isLook o = false → C1 = C ∧ ∀ w, C w → Gives P o a w u C) (h5 : isHard o = false → D1 = D) : Run P st E (o :: l) (consF a A) (consF C Cs) (consF D Ds) (consF u v) := by
 refine ⟨?_, ?_, ?_, ?_, ?_, ?_, ?_⟩
 · intro i o' ho'
   cases i with
   | zero => simp at ho'; subst ho'; exact hA
   | succ i => exact hr.act i o' (by simpa using ho')
 · intro i o' ho'
   cases i with
   | zero => simp at ho'; subst ho'; intro hs w hw; show Gives P o a w u (Cs 0); rw [hC]; exact h1 hs w hw
   | succ i => exact hr.store i o' (by simpa using ho')
 · intro i o' ho'
   cases i with
   | zero => simp at ho'; subst ho'; intro hs hf; exact ⟨hC.trans (h2 hs hf).1, (h2 hs hf).2⟩
   | succ i => exact hr.free i o' (by simpa using ho')
 · intro i o' ho'
   cases i with
   | zero => simp at ho'; subst ho'; intro hs hf hl; exact ⟨hC.trans (h3 hs hf hl).1, (h3 hs hf hl).2⟩
   | succ i => exact hr.look i o' (by simpa using ho')
 · intro i o' ho'
   cases i with
   | zero => simp at ho'; subst ho'; intro hs hf hl; exact ⟨hC.trans (h4 hs hf hl).1, (h4 hs hf hl).2⟩
   | succ i => exact hr.read i o' (by simpa using ho')
 · intro i o' ho'
   cases i with
   | zero => simp at ho'; subst ho'; intro hh; exact hD.trans (h5 hh)
   | succ i => exact hr.soft i o' (by simpa using ho')
 · intro i hi
   cases i with
   | zero => exact hCD
   | succ i => exact hr.held i (by simpa using hi)
theorem run_of_lex {P : Program} {st : List Nat} {E : World → Prop} {Q : Act → (World → Prop) → Prop} : ∀ (l : List Oper) (n : Nat) (a : Act) (C D : World → Prop), (∀ w, C w → D w ∧ E w) → wpLex P st E Q l n a C D →
 ∃ A Cs Ds v, Run P (fun i => st.contains (n + i)) E l A Cs Ds v ∧ A 0 = a ∧ Cs 0 = C ∧ Ds 0 = D ∧ Q (A l.length) (Cs l.length)
 | [], n, a, C, D, hCD, h => ⟨fun _ => a, fun _ => C, fun _ => D, fun _ => undef, ⟨fun i o h => by simp at h, fun i o h => by simp at h, fun i o h => by simp at h, fun i o h => by simp at h, fun i o h => by simp at h, fun i o h => by simp at h, fun i _ w hw => hCD w hw⟩, rfl, rfl, rfl, h⟩
 | o :: l, n, a, C, D, hCD, h => by
  unfold wpLex at h
  have shift : (fun i => st.contains (n + 1 + i)) = fun i => (fun j => st.contains (n + j)) (i + 1) := funext fun i => by
   show st.contains (n + 1 + i) = st.contains (n + (i + 1)); rw [show n + 1 + i = n + (i + 1) by omega]
  by_cases hs : isStore o = true
  · rw [if_pos hs] at h
    obtain ⟨u, C', D', h1, hd, hcd, h2⟩ := h
    obtain ⟨A, Cs, Ds, v, hr, hA, hC, hD, hQ⟩ := run_of_lex l (n + 1) _ C' D' hcd h2
    rw [shift] at hr
    exact ⟨_, _, _, _, Run.cons (st := fun j => st.contains (n + j)) hr hA hC hD hCD (fun _ => h1) (fun e => by rw [hs] at e; cases e) (fun e => by rw [hs] at e; cases e) (fun e => by rw [hs] at e; cases e) hd, rfl, rfl, rfl, hQ⟩
  · have hs0 : isStore o = false := by simpa using hs
    have hh0 : isHard o = false := by simp [isStore] at hs0; exact hs0.1
    rw [if_neg hs] at h
    by_cases hf : isFree o = true
    · rw [if_pos hf] at h
      obtain ⟨u, h1, h2⟩ := h
      obtain ⟨A, Cs, Ds, v, hr, hA, hC, hD, hQ⟩ := run_of_lex l (n + 1) _ C D hCD h2
      rw [shift] at hr
      exact ⟨_, _, _, _, Run.cons (st := fun j => st.contains (n + j)) hr hA hC hD hCD (fun e => absurd e hs) (fun _ _ => ⟨rfl, h1⟩) (fun _ e => by rw [hf] at e; cases e) (fun _ e => by rw [hf] at e; cases e) (fun _ => rfl), rfl, rfl, rfl, hQ⟩
    · rw [if_neg hf] at h
      by_cases hl : isLook o = true
      · rw [if_pos hl] at h
        obtain ⟨u, h1, h2⟩ := h
        obtain ⟨A, Cs, Ds, v, hr, hA, hC, hD, hQ⟩ := run_of_lex l (n + 1) _ C D hCD h2
        rw [shift] at hr
        exact ⟨_, _, _, _, Run.cons (st := fun j => st.contains (n + j)) hr hA hC hD hCD (fun e => absurd e hs) (fun _ e => absurd e hf) (fun _ _ _ => ⟨rfl, h1⟩) (fun _ _ e => by rw [hl] at e; cases e) (fun _ => rfl), rfl, rfl, rfl, hQ⟩
      · rw [if_neg hl] at h
        obtain ⟨u, h1, h2⟩ := h
        obtain ⟨A, Cs, Ds, v, hr, hA, hC, hD, hQ⟩ := run_of_lex l (n + 1) _ C D hCD h2
        rw [shift] at hr
        exact ⟨_, _, _, _, Run.cons (st := fun j => st.contains (n + j)) hr hA hC hD hCD (fun e => absurd e hs) (fun _ e => absurd e hf) (fun _ _ e => absurd e hl) (fun _ _ _ => ⟨rfl, h1⟩) (fun _ => rfl), rfl, rfl, rfl, hQ⟩
section
variable {l : List Oper} {v : Nat → Value} {a0 : Act}
structure Shape (l : List Oper) (v : Nat → Value) (a0 : Act) (S : Nat → Bool) (a : Act) : Prop where
 size : a.tmps.size = a0.tmps.size
 defers : a.defers = a0.defers
 done : ∀ j o t, l[j]? = some o → o.dst = some t → S j = true → a.tmps[t]? = if t < a0.tmps.size then some (v j) else none
 rest : ∀ t, (∀ j o, l[j]? = some o → o.dst = some t → S j = false) → a.tmps[t]? = a0.tmps[t]?
def Distinct (l : List Oper) : Prop := ∀ (i j : Nat) (oi oj : Oper) (t : Tmp), l[i]? = some oi → l[j]? = some oj → oi.dst = some t → oj.dst = some t → i = j
theorem Shape.start : Shape l v a0 (fun _ => false) a0 := ⟨rfl, rfl, fun _ _ _ _ _ h => (by cases h), fun _ _ => rfl⟩
theorem Shape.put {S : Nat → Bool} {a : Act} (hd : Distinct l) (h : Shape l v a0 S a) {i : Nat} {o : Oper} (ho : l[i]? = some o) : Shape l v a0 (fun j => S j || j == i) (a.put o.dst (v i)) := by
 cases hdst : o.dst with
 | none =>
  refine ⟨h.size, h.defers, fun j oj t hj ht hS => ?_, fun t ht => ?_⟩
  · simp only [Bool.or_eq_true, beq_iff_eq] at hS
    rcases hS with hS | rfl
    · exact h.done j oj t hj ht hS
    · rw [ho] at hj; injection hj with hj; subst hj; rw [hdst] at ht; cases ht
  · exact h.rest t fun j oj hj ht' => by have := ht j oj hj ht'; simp at this; exact this.1
 | some d =>
  refine ⟨by simp [Act.put, h.size], h.defers, fun j oj t hj ht hS => ?_, fun t ht => ?_⟩
  · simp only [Act.put, Array.getElem?_setIfInBounds]
    by_cases htd : d = t
    · subst htd
      have : j = i := hd j i oj o d hj ho ht hdst
      subst this
      rw [if_pos rfl, h.size]
    · rw [if_neg htd]
      simp only [Bool.or_eq_true, beq_iff_eq] at hS
      rcases hS with hS | rfl
      · exact h.done j oj t hj ht hS
      · rw [ho] at hj; injection hj with hj; subst hj; rw [hdst] at ht; injection ht with ht; exact absurd ht htd
  · have hne : d ≠ t := fun e => by subst e; have := ht i o ho hdst; simp at this
    simp only [Act.put, Array.getElem?_setIfInBounds, if_neg hne]
    exact h.rest t fun j oj hj ht' => by have := ht j oj hj ht'; simp at this; exact this.1
theorem Shape.same {S S' : Nat → Bool} {a a' : Act} (h : Shape l v a0 S a) (h' : Shape l v a0 S' a') {t : Nat} (hS : ∀ j o, l[j]? = some o → o.dst = some t → S j = S' j) : a.tmps[t]? = a'.tmps[t]? := by
 by_cases hx : ∃ j o, l[j]? = some o ∧ o.dst = some t ∧ S j = true
 · obtain ⟨j, o, hj, ht, hs⟩ := hx
   rw [h.done j o t hj ht hs, h'.done j o t hj ht (by rw [← hS j o hj ht]; exact hs)]
 · have hn : ∀ j o, l[j]? = some o → o.dst = some t → S j = false := fun j o hj ht => by
    cases hs : S j
    · rfl
    · exact absurd ⟨j, o, hj, ht, hs⟩ hx
   rw [h.rest t hn, h'.rest t fun j o hj ht => by rw [← hS j o hj ht]; exact hn j o hj ht]
theorem Shape.ext {S S' : Nat → Bool} {a a' : Act} (h : Shape l v a0 S a) (h' : Shape l v a0 S' a') (hS : ∀ j o, l[j]? = some o → S j = S' j) : a = a' := by
 have ht : a.tmps = a'.tmps := Array.ext_getElem? fun t => h.same h' fun j o hj _ => hS j o hj
 have hd : a.defers = a'.defers := h.defers.trans h'.defers.symm
 cases a; cases a'; simp_all
theorem Shape.congr {S S' : Nat → Bool} {a : Act} (h : Shape l v a0 S a) (hS : ∀ j o, l[j]? = some o → S j = S' j) : Shape l v a0 S' a :=
 ⟨h.size, h.defers, fun j o t hj ht hs => h.done j o t hj ht (by rw [hS j o hj]; exact hs), fun t ht => h.rest t fun j o hj hd => by rw [hS j o hj]; exact ht j o hj hd⟩
theorem Run.shape {P : Program} {st : Nat → Bool} {E : World → Prop} {A : Nat → Act} {C D : Nat → World → Prop} (hr : Run P st E l A C D v) (hd : Distinct l) : ∀ k, k ≤ l.length → Shape l v (A 0) (fun j => decide (j < k)) (A k)
 | 0, _ => Shape.start.congr fun j o _ => by simp
 | k + 1, hk => by
  have ho : l[k]? = some (l[k]'(by omega)) := List.getElem?_eq_getElem (by omega)
  rw [hr.act k _ ho]
  refine ((Run.shape hr hd k (by omega)).put hd ho).congr fun j o _ => ?_
  rw [Bool.eq_iff_iff]; simp; omega
end
def tb (b : Array Nat) (i j : Nat) : Bool := (b.getD i 0).testBit j
def pairB (st : List Nat) (l : List Oper) (b : Array Nat) (i j : Nat) : Bool :=
 match l[i]?, l[j]? with
 | some oi, some oj =>
  (!(tb b i j) || oi.after.any fun e => Region.binds .any e && (e.on == j || tb b e.on j)) &&
  (i == j || ((match oi.dst, oj.dst with | some d, some d' => d != d' | _, _ => true) &&
   (match oj.dst with | some d => !(oi.looksAt l.toArray).contains d || (if j < i then tb b i j else tb b j i) | none => true) &&
   (!isStore oj || isFree oi || (isLook oi && (!isHard oj || st.contains i)) || (if j < i then tb b i j else tb b j i))))
 | _, _ => true
def oneB (l : List Oper) (i : Nat) : Bool :=
 match l[i]? with
 | some o => o.guard.isNone && !(isStore o && isFree o) && o.after.all fun e => !Region.binds .any e || decide (e.on < i)
 | none => true
def okB (st : List Nat) (l : List Oper) : Bool :=
 Region.noSelect l.toArray && ((List.range l.length).all fun i => oneB l i && (List.range l.length).all fun j => pairB st l (Region.before l.toArray) i j)
structure Ok (st : List Nat) (l : List Oper) (cl : Nat → Nat → Bool) : Prop where
 sel : Region.noSelect l.toArray = true
 guard : ∀ (i : Nat) (o : Oper), l[i]? = some o → o.guard = none
 down : ∀ (i : Nat) (o : Oper), l[i]? = some o → ∀ e ∈ o.after, Region.binds .any e = true → e.on < i
 cert : ∀ (i j : Nat) (o oj : Oper), l[i]? = some o → l[j]? = some oj → cl i j = true → ∃ e ∈ o.after, Region.binds .any e = true ∧ (e.on = j ∨ cl e.on j = true)
 dist : Distinct l
 looks : ∀ (i j : Nat) (oi oj : Oper) (t : Tmp), l[i]? = some oi → l[j]? = some oj → i ≠ j → oj.dst = some t → t ∈ oi.looksAt l.toArray → (if j < i then cl i j else cl j i) = true
 store : ∀ (i j : Nat) (oi oj : Oper), l[i]? = some oi → l[j]? = some oj → i ≠ j → isStore oj = true → isFree oi = false → (isLook oi && (!isHard oj || st.contains i)) = false → (if j < i then cl i j else cl j i) = true
theorem Ok.of (st : List Nat) (l : List Oper) (h : okB st l = true) : Ok st l (tb (Region.before l.toArray)) := by
 simp only [okB, Bool.and_eq_true] at h
 obtain ⟨h0, h⟩ := h
 have h1 : ∀ i o, l[i]? = some o → oneB l i = true ∧ ∀ j oj, l[j]? = some oj → pairB st l (Region.before l.toArray) i j = true := fun i o ho => by
  have hi : i < l.length := (List.getElem?_eq_some_iff.1 ho).1
  have := List.all_eq_true.1 h i (List.mem_range.2 hi)
  simp only [Bool.and_eq_true] at this
  exact ⟨this.1, fun j oj hj => List.all_eq_true.1 this.2 j (List.mem_range.2 (List.getElem?_eq_some_iff.1 hj).1)⟩
 have one : ∀ i o, l[i]? = some o → (o.guard.isNone = true ∧ (!(isStore o && isFree o)) = true) ∧ (o.after.all fun e => !Region.binds .any e || decide (e.on < i)) = true := fun i o ho => by
  have := (h1 i o ho).1
  simp only [oneB, ho, Bool.and_eq_true] at this
  exact this
 have two : ∀ i j oi oj, l[i]? = some oi → l[j]? = some oj →
  (!(tb (Region.before l.toArray) i j) || oi.after.any fun e => Region.binds .any e && (e.on == j || tb (Region.before l.toArray) e.on j)) = true ∧
  (i == j || ((match oi.dst, oj.dst with | some d, some d' => d != d' | _, _ => true) &&
  (match oj.dst with | some d => !(oi.looksAt l.toArray).contains d || (if j < i then tb (Region.before l.toArray) i j else tb (Region.before l.toArray) j i) | none => true) &&
  (!isStore oj || isFree oi || (isLook oi && (!isHard oj || st.contains i)) || (if j < i then tb (Region.before l.toArray) i j else tb (Region.before l.toArray) j i)))) = true := fun i j oi oj hi hj => by
  have := (h1 i oi hi).2 j oj hj
  simp only [pairB, hi, hj, Bool.and_eq_true] at this
  exact this
 refine ⟨h0, fun i o ho => by simpa using (one i o ho).1.1, fun i o ho e he hb => ?_, fun i j o oj hi hj hc => ?_, fun i j oi oj t hi hj hdi hdj => ?_, fun i j oi oj t hi hj hne hdj ht => ?_, fun i j oi oj hi hj hne hs hf hlk => ?_⟩
 · have := (Array.all_eq_true_iff_forall_mem.1 (one i o ho).2) e he
   simpa [hb] using this
 · have := (two i j o oj hi hj).1
   rw [hc] at this
   simp at this
   obtain ⟨k, hk, h1, h2⟩ := this
   exact ⟨o.after[k], Array.getElem_mem hk, h1, h2⟩
 · by_cases hij : i = j
   · exact hij
   · have := (two i j oi oj hi hj).2
     simp [hij, hdi, hdj] at this
 · have := (two i j oi oj hi hj).2
   simp only [Bool.or_eq_true, beq_iff_eq, Bool.and_eq_true, hne, false_or, hdj] at this
   have h2 := this.1.2
   rcases h2 with h2 | h2
   · simp at h2; exact absurd ht h2
   · exact h2
 · have := (two i j oi oj hi hj).2
   simp only [Bool.or_eq_true, beq_iff_eq, Bool.and_eq_true, hne, false_or] at this
   rcases this.2 with ((h2 | h2) | h2) | h2
   · simp [hs] at h2
   · rw [hf] at h2; cases h2
   · simp only [h2.1, Bool.true_and] at hlk; have h3' := h2.2; simp only [Bool.or_eq_false_iff] at hlk; rcases h3' with h3 | h3
     · rw [hlk.1] at h3; cases h3
     · rw [hlk.2] at h3; cases h3
   · exact h2
def unl (f : Nat → Bool) : Nat → Nat
 | 0 => 0
 | k + 1 => unl f k + (if f k then 0 else 1)
theorem unl_le (f : Nat → Bool) : ∀ n, unl f n ≤ n
 | 0 => Nat.le_refl _
 | n + 1 => by have := unl_le f n; unfold unl; split <;> omega
theorem unl_zero {f : Nat → Bool} : ∀ {n}, unl f n = 0 → ∀ i, i < n → f i = true
 | 0, _, i, h => absurd h (by omega)
 | n + 1, h, i, hi => by
  unfold unl at h
  by_cases hfn : f n = true
  · rw [if_pos hfn] at h
    by_cases hin : i = n
    · rw [hin]; exact hfn
    · exact unl_zero (n := n) (by omega) i (by omega)
  · rw [if_neg hfn] at h; omega
theorem unl_congr {f g : Nat → Bool} : ∀ {n}, (∀ i, i < n → f i = g i) → unl f n = unl g n
 | 0, _ => rfl
 | n + 1, h => by unfold unl; rw [unl_congr (n := n) fun i hi => h i (by omega), h n (by omega)]
theorem unl_set {f g : Nat → Bool} {i : Nat} (h0 : f i = false) (h1 : g i = true) (ho : ∀ j, j ≠ i → g j = f j) : ∀ {n}, i < n → unl g n + 1 = unl f n
 | 0, h => absurd h (by omega)
 | n + 1, h => by
  unfold unl
  by_cases hin : i = n
  · subst hin
    rw [unl_congr (n := i) fun j hj => ho j (by omega), h0, h1]; simp
  · have := unl_set h0 h1 ho (n := n) (by omega)
    rw [ho n (by omega)]; omega
structure Inv (l : List Oper) (v : Nat → Value) (a0 : Act) (C : Nat → World → Prop) (listed : Array Bool) (a : Act) (w : World) : Prop where
 size : listed.size = l.length
 closed : ∀ (i : Nat) (o : Oper), l[i]? = some o → listed.getD i false = true → ∀ e ∈ o.after, Region.binds .any e = true → listed.getD e.on false = true
 shape : Shape l v a0 (fun j => listed.getD j false) a
 world : ∀ i, i ≤ l.length → (∀ (j : Nat) (o : Oper), l[j]? = some o → isStore o = true → listed.getD j false = decide (j < i)) → C i w
section
variable {P : Program} {st : List Nat} {E : World → Prop} {l : List Oper} {A : Nat → Act} {C D : Nat → World → Prop} {v : Nat → Value} {cl : Nat → Nat → Bool} {listed : Array Bool} {a : Act} {w : World}
theorem Inv.down (ok : Ok st l cl) (h : Inv l v (A 0) C listed a w) : ∀ (n i j : Nat), i < n → (∃ o, l[i]? = some o) → (∃ o, l[j]? = some o) → cl i j = true → listed.getD i false = true → listed.getD j false = true
 | 0, _, _, hi, _, _, _, _ => absurd hi (by omega)
 | n + 1, i, j, hi, ⟨o, ho⟩, ⟨oj, hj⟩, hc, hl => by
  obtain ⟨e, he, hb, h'⟩ := ok.cert i j o oj ho hj hc
  have h1 := h.closed i o ho hl e he hb
  rcases h' with rfl | h'
  · exact h1
  · have hd := ok.down i o ho e he hb
    have hlt : i < l.length := (List.getElem?_eq_some_iff.1 ho).1
    exact Inv.down ok h n e.on j (by omega) ⟨_, List.getElem?_eq_getElem (show e.on < l.length by omega)⟩ ⟨oj, hj⟩ h' h1
theorem Run.between (hr : Run P (fun i => st.contains i) E l A C D v) {i : Nat} : ∀ (d k : Nat), k = i + d → k ≤ l.length → (∀ (j : Nat) (o : Oper), l[j]? = some o → isStore o = true → i ≤ j → j < k → False) → C k = C i
 | 0, k, hk, _, _ => by rw [hk]; rfl
 | d + 1, k, hk, hl, hn => by
  have ih := Run.between hr d (k - 1) (by omega) (by omega) (fun j o hj hs h1 h2 => hn j o hj hs h1 (by omega))
  have ho : l[k - 1]? = some (l[k - 1]'(by omega)) := List.getElem?_eq_getElem (by omega)
  have hs : isStore (l[k - 1]'(by omega)) = false := by
   cases h : isStore (l[k - 1]'(by omega))
   · rfl
   · exact (hn _ _ ho h (by omega) (by omega)).elim
  have e : k - 1 + 1 = k := by omega
  cases hf : isFree (l[k - 1]'(by omega))
  · cases hl : isLook (l[k - 1]'(by omega))
    · have := (hr.read _ _ ho hs hf hl).1; rw [e] at this; rw [this, ih]
    · have := (hr.look _ _ ho hs hf hl).1; rw [e] at this; rw [this, ih]
  · have := (hr.free _ _ ho hs hf).1; rw [e] at this; rw [this, ih]
theorem Run.one (hr : Run P (fun i => st.contains i) E l A C D v) {f : Nat → Bool} {i k : Nat} (hi : i ≤ l.length) (hk : k ≤ l.length) (h1 : ∀ (j : Nat) (o : Oper), l[j]? = some o → isStore o = true → f j = decide (j < i)) (h2 : ∀ (j : Nat) (o : Oper), l[j]? = some o → isStore o = true → f j = decide (j < k)) : C k = C i := by
 rcases Nat.le_total i k with h | h
 · exact hr.between (k - i) k (by omega) hk fun j o hj hs ha hb => by
    have e1 := h1 j o hj hs; have e2 := h2 j o hj hs
    rw [e1] at e2; simp at e2; omega
 · exact (hr.between (i - k) i (by omega) hi fun j o hj hs ha hb => by
    have e1 := h1 j o hj hs; have e2 := h2 j o hj hs
    rw [e1] at e2; simp at e2; omega).symm
theorem Run.steady (hr : Run P (fun i => st.contains i) E l A C D v) {i : Nat} : ∀ (d k : Nat), k = i + d → k ≤ l.length → (∀ (j : Nat) (o : Oper), l[j]? = some o → isHard o = true → i ≤ j → j < k → False) → D k = D i
 | 0, k, hk, _, _ => by rw [hk]; rfl
 | d + 1, k, hk, hl, hn => by
  have ih := Run.steady hr d (k - 1) (by omega) (by omega) (fun j o hj hs h1 h2 => hn j o hj hs h1 (by omega))
  have ho : l[k - 1]? = some (l[k - 1]'(by omega)) := List.getElem?_eq_getElem (by omega)
  have hs : isHard (l[k - 1]'(by omega)) = false := by
   cases h : isHard (l[k - 1]'(by omega))
   · rfl
   · exact (hn _ _ ho h (by omega) (by omega)).elim
  have e : k - 1 + 1 = k := by omega
  have := hr.soft _ _ ho hs; rw [e] at this; rw [this, ih]
theorem Inv.where_ (ok : Ok st l cl) (h : Inv l v (A 0) C listed a w) : ∃ k, k ≤ l.length ∧ ∀ (j : Nat) (o : Oper), l[j]? = some o → isStore o = true → listed.getD j false = decide (j < k) := by
 have key : ∀ n, n ≤ l.length → (∀ (j : Nat) (o : Oper), l[j]? = some o → isStore o = true → j < n → listed.getD j false = true) ∨ ∃ k, k < n ∧ ∃ o, l[k]? = some o ∧ isStore o = true ∧ listed.getD k false = false ∧ ∀ (j : Nat) (o : Oper), l[j]? = some o → isStore o = true → j < k → listed.getD j false = true := by
  intro n
  induction n with
  | zero => intro _; exact .inl fun j o _ _ hj => absurd hj (by omega)
  | succ n ih =>
   intro hn
   rcases ih (by omega) with h1 | ⟨k, hk, h1⟩
   · have ho : l[n]? = some (l[n]'(by omega)) := List.getElem?_eq_getElem (by omega)
     by_cases hs : isStore (l[n]'(by omega)) = true
     · cases hl : listed.getD n false
       · exact .inr ⟨n, by omega, _, ho, hs, hl, h1⟩
       · refine .inl fun j o hj hso hjn => ?_
         by_cases e : j = n
         · subst e; exact hl
         · exact h1 j o hj hso (by omega)
     · refine .inl fun j o hj hso hjn => ?_
       by_cases e : j = n
       · subst e; rw [ho] at hj; injection hj with hj; subst hj; exact absurd hso hs
       · exact h1 j o hj hso (by omega)
   · exact .inr ⟨k, by omega, h1⟩
 rcases key l.length (Nat.le_refl _) with h1 | ⟨k, hk, o, ho, hs, hl, h1⟩
 · refine ⟨l.length, Nat.le_refl _, fun j o hj hso => ?_⟩
   have := (List.getElem?_eq_some_iff.1 hj).1
   rw [h1 j o hj hso this]; simp [this]
 · refine ⟨k, by omega, fun j oj hj hsj => ?_⟩
   by_cases hjk : j < k
   · rw [h1 j oj hj hsj hjk]; simp [hjk]
   · by_cases e : j = k
     · subst e; rw [hl]; simp
     · have hf : isFree o = false := store_free hs
       have hlk : isLook o = false := store_look hs
       have hc := ok.store k j o oj ho hj (fun e' => e e'.symm) hsj hf (by simp [hlk])
       rw [if_neg (by omega)] at hc
       cases hlj : listed.getD j false
       · simp [hjk]
       · have := h.down ok l.length j k (List.getElem?_eq_some_iff.1 hj).1 ⟨oj, hj⟩ ⟨o, ho⟩ hc hlj
         rw [hl] at this; cases this
theorem Inv.step (hr : Run P (fun i => st.contains i) E l A C D v) (ok : Ok st l cl) (h : Inv l v (A 0) C listed a w) {Q : Exit → Act → World → Prop} {i : Nat} (hi : i ∈ Region.ready .any l.toArray listed) :
 wpOp P l.toArray Q i (fun a' w' => Inv l v (A 0) C (listed.setIfInBounds i true) a' w') a w := by
 obtain ⟨hun, o, ho', hdeps⟩ := mem_ready.1 hi
 have ho : l[i]? = some o := by simpa using ho'
 have hil : i < l.length := (List.getElem?_eq_some_iff.1 ho).1
 have his : i < listed.size := by rw [h.size]; exact hil
 have hun' : listed.getD i false = false := by simp [his] at hun ⊢; exact hun
 -- who is waited for has been; who waits has not
 have before : ∀ j oj, l[j]? = some oj → cl i j = true → listed.getD j false = true := fun j oj hj hc => by
  obtain ⟨e, he, hb, h'⟩ := ok.cert i j o oj ho hj hc
  have h1 := hdeps e he hb
  rcases h' with rfl | h'
  · exact h1
  · have hd := ok.down i o ho e he hb
    exact h.down ok l.length e.on j (by omega) ⟨_, List.getElem?_eq_getElem (show e.on < l.length by omega)⟩ ⟨oj, hj⟩ h' h1
 have behind : ∀ j oj, l[j]? = some oj → cl j i = true → listed.getD j false = false := fun j oj hj hc => by
  cases hl : listed.getD j false
  · rfl
  · have hjl : j < l.length := (List.getElem?_eq_some_iff.1 hj).1
    have := h.down ok l.length j i hjl ⟨oj, hj⟩ ⟨o, ho⟩ hc hl
    rw [hun'] at this; cases this
 have exec : execOp a.eval o = execOp (A i).eval o := execOp_congr o (fun cs b => Region.noSelect_spec ok.sel i o cs b ho') fun x hx => by
  cases x with
  | tmp t =>
   have ht : t ∈ o.looksAt l.toArray := List.mem_append_left _ (List.mem_filterMap.2 ⟨.tmp t, by simpa using hx, rfl⟩)
   have e := h.shape.same (hr.shape ok.dist i (by omega)) (t := t) fun j oj hj hd => by
    by_cases hji : j = i
    · subst hji; rw [hun']; simp
    · have hc := ok.looks i j o oj t ho hj (fun e => hji e.symm) hd ht
      by_cases hlt : j < i
      · rw [if_pos hlt] at hc; rw [before j oj hj hc]; simp [hlt]
      · rw [if_neg hlt] at hc; rw [behind j oj hj hc]; simp [hlt]
   simp only [Act.eval, Array.getD_eq_getD_getElem?, e]
  | const => rfl
  | global => rfl
  | func => rfl
 have hg := ok.guard i o ho
 have getset : ∀ j, (listed.setIfInBounds i true).getD j false = (listed.getD j false || j == i) := fun j => by
  by_cases hji : j = i
  · subst hji; simp [his]
  · rw [getD_set_ne false (fun e => hji e.symm)]; simp [hji]
 -- what is left of the invariant, whatever comes of the world
 have next : ∀ w', (∀ k, k ≤ l.length → (∀ (j : Nat) (oj : Oper), l[j]? = some oj → isStore oj = true → (listed.getD j false || j == i) = decide (j < k)) → C k w') → Inv l v (A 0) C (listed.setIfInBounds i true) (a.put o.dst (v i)) w' := fun w' hw => by
  refine ⟨by simp [h.size], fun j oj hj hl e he hb => ?_, (h.shape.put ok.dist ho).congr fun j oj hj => (getset j).symm, fun k hk hst => hw k hk fun j oj hj hs => by rw [← getset j]; exact hst j oj hj hs⟩
  rw [getset] at hl ⊢
  simp only [Bool.or_eq_true, beq_iff_eq] at hl ⊢
  rcases hl with hl | rfl
  · exact .inl (h.closed j oj hj hl e he hb)
  · rw [ho] at hj; injection hj with hj; subst hj; exact .inl (hdeps e he hb)
 unfold wpOp
 simp only [ho', Region.wanted, hg, if_true]
 refine .inl ?_
 cases hs : isStore o
 · cases hf : isFree o
   · cases hl : isLook o
     · -- a call
       have here : ∀ (j : Nat) (oj : Oper), l[j]? = some oj → isStore oj = true → listed.getD j false = decide (j < i) := fun j oj hj hsj => by
        have hji : j ≠ i := fun e => by subst e; rw [ho] at hj; injection hj with hj; subst hj; rw [hs] at hsj; cases hsj
        have hc := ok.store i j o oj ho hj (fun e => hji e.symm) hsj hf (by simp [hl])
        by_cases hlt : j < i
        · rw [if_pos hlt] at hc; rw [before j oj hj hc]; simp [hlt]
        · rw [if_neg hlt] at hc; rw [behind j oj hj hc]; simp [hlt]
       have hw := h.world i (by omega) here
       refine (((hr.read i o ho hs hf hl).2 w hw).congr exec).wp fun w' hw' => next w' fun k hk hst => ?_
       have hst' : ∀ (j : Nat) (oj : Oper), l[j]? = some oj → isStore oj = true → listed.getD j false = decide (j < k) := fun j oj hj hsj => by
        have hji : j ≠ i := fun e => by subst e; rw [ho] at hj; injection hj with hj; subst hj; rw [hs] at hsj; cases hsj
        have := hst j oj hj hsj; rw [show (j == i) = false from by simpa using hji, Bool.or_false] at this; exact this
       rw [hr.one (f := fun j => listed.getD j false) (by omega) hk here hst']; exact hw'
     · -- a look
       obtain ⟨k0, hk0, hat⟩ := h.where_ ok
       have hD : if st.contains i then E w else D i w := by
        have h00 := hr.held k0 hk0 w (h.world k0 hk0 hat)
        by_cases hst0 : st.contains i = true
        · rw [if_pos hst0]; exact h00.2
        rw [if_neg hst0]
        have h0 := h00.1
        have hst0 : st.contains i = false := by simpa using hst0
        have hard : ∀ (j : Nat) (oj : Oper), l[j]? = some oj → isHard oj = true → listed.getD j false = decide (j < i) ∧ j ≠ i := fun j oj hj hhj => by
         have hsj : isStore oj = true := by simp [isStore, hhj]
         have hji : j ≠ i := fun e => by subst e; rw [ho] at hj; injection hj with hj; subst hj; rw [hs] at hsj; cases hsj
         have hc := ok.store i j o oj ho hj (fun e => hji e.symm) hsj hf (by rw [hhj, hst0]; simp)
         by_cases hlt : j < i
         · rw [if_pos hlt] at hc; rw [before j oj hj hc]; simp [hlt, hji]
         · rw [if_neg hlt] at hc; rw [behind j oj hj hc]; simp [hlt, hji]
        have none : ∀ (j : Nat) (oj : Oper), l[j]? = some oj → isHard oj = true → decide (j < k0) = decide (j < i) := fun j oj hj hhj => by
         rw [← hat j oj hj (by simp [isStore, hhj])]; exact (hard j oj hj hhj).1
        rcases Nat.le_total i k0 with hle | hle
        · rw [hr.steady (i := i) (k0 - i) k0 (by omega) hk0 fun j oj hj hh h1 h2 => by
           have := none j oj hj hh; simp [h2] at this; omega] at h0
          exact h0
        · rw [← hr.steady (i := k0) (i - k0) i (by omega) (by omega) fun j oj hj hh h1 h2 => by
           have := none j oj hj hh; simp [h2] at this; omega] at h0
          exact h0
       refine (((hr.look i o ho hs hf hl).2 w hD).congr exec).wp fun w' hw' => next w' fun k hk hst => ?_
       subst hw'
       refine h.world k hk fun j oj hj hsj => ?_
       have hji : j ≠ i := fun e => by subst e; rw [ho] at hj; injection hj with hj; subst hj; rw [hs] at hsj; cases hsj
       have := hst j oj hj hsj; rw [show (j == i) = false from by simpa using hji, Bool.or_false] at this; exact this
   · -- nothing of the world
     refine (((hr.free i o ho hs hf).2 w).congr exec).wp fun w' hw' => next w' fun k hk hst => ?_
     subst hw'
     refine h.world k hk fun j oj hj hsj => ?_
     have hji : j ≠ i := fun e => by subst e; rw [ho] at hj; injection hj with hj; subst hj; rw [hs] at hsj; cases hsj
     have := hst j oj hj hsj; rw [show (j == i) = false from by simpa using hji, Bool.or_false] at this; exact this
 · -- a store
   have hf : isFree o = false := store_free hs
   have hlk : isLook o = false := store_look hs
   have here : ∀ (j : Nat) (oj : Oper), l[j]? = some oj → isStore oj = true → listed.getD j false = decide (j < i) := fun j oj hj hsj => by
    by_cases hji : j = i
    · subst hji; rw [hun']; simp
    · have hc := ok.store i j o oj ho hj (fun e => hji e.symm) hsj hf (by simp [hlk])
      by_cases hlt : j < i
      · rw [if_pos hlt] at hc; rw [before j oj hj hc]; simp [hlt]
      · rw [if_neg hlt] at hc; rw [behind j oj hj hc]; simp [hlt]
   have hw := h.world i (by omega) here
   have hgv := hr.store i o ho hs w hw
   refine (hgv.congr exec).wp fun w' hw' => next w' fun k hk hst => ?_
   have h1 : ∀ (j : Nat) (oj : Oper), l[j]? = some oj → isStore oj = true → (listed.getD j false || j == i) = decide (j < i + 1) := fun j oj hj hsj => by
    rw [here j oj hj hsj, Bool.eq_iff_iff]; simp; omega
   rw [hr.one (f := fun j => listed.getD j false || j == i) (by omega) hk h1 hst]; exact hw'
theorem Inv.all_ (hr : Run P (fun i => st.contains i) E l A C D v) (ok : Ok st l cl) {Q : Exit → Act → World → Prop} (hQ : ∀ w, C l.length w → Q .normal (A l.length) w) : ∀ (n : Nat) (listed : Array Bool) (a : Act) (w : World), Inv l v (A 0) C listed a w → unl (fun i => listed.getD i false) l.length ≤ n →
 wpAny P .any l.toArray Q n listed a w := by
 have last : ∀ (listed : Array Bool) (a : Act) (w : World), Inv l v (A 0) C listed a w → (∀ i, i < l.length → listed.getD i false = true) → Q .normal a w := fun listed a w h hall => by
  have e : a = A l.length := h.shape.ext (hr.shape ok.dist l.length (Nat.le_refl _)) fun j o hj => by
   have hjl : j < l.length := (List.getElem?_eq_some_iff.1 hj).1
   rw [hall j hjl]; simp [hjl]
  rw [e]
  exact hQ w (h.world l.length (Nat.le_refl _) fun j o hj _ => by
   have hjl : j < l.length := (List.getElem?_eq_some_iff.1 hj).1
   rw [hall j hjl]; simp [hjl])
 intro n
 induction n with
 | zero =>
  intro listed a w h hn
  have hall := unl_zero (f := fun i => listed.getD i false) (n := l.length) (by omega)
  refine ⟨?_, last listed a w h hall⟩
  cases hr' : Region.ready .any l.toArray listed with
  | nil => rfl
  | cons i is =>
   have hi : i ∈ Region.ready .any l.toArray listed := by rw [hr']; simp
   obtain ⟨hun, o, ho', _⟩ := mem_ready.1 hi
   have hil : i < l.length := by have := (Array.getElem?_eq_some_iff.1 ho').1; simpa using this
   have := hall i hil
   have his : i < listed.size := by rw [h.size]; exact hil
   simp [his] at hun this
   rw [this] at hun; cases hun
 | succ n ih =>
  intro listed a w h hn
  refine ⟨fun hr' => last listed a w h fun i hi => ?_, fun i hi => ?_⟩
  · induction i using Nat.strongRecOn with
    | _ i ihi =>
     cases hu : listed.getD i false
     · have ho : l[i]? = some (l[i]'hi) := List.getElem?_eq_getElem hi
       have : i ∈ Region.ready .any l.toArray listed := mem_ready.2 ⟨by
        have his : i < listed.size := by rw [h.size]; exact hi
        simp [his] at hu ⊢; exact hu, _, (by rw [List.getElem?_toArray]; exact ho), fun e he hb => by
        have hd := ok.down i _ ho e he hb
        exact ihi e.on hd (by omega)⟩
       rw [hr'] at this; cases this
     · rfl
  · refine wpOp_mono (fun a' w' h' => ih _ a' w' h' ?_) (h.step hr ok hi)
    obtain ⟨hun, o, ho', _⟩ := mem_ready.1 hi
    have hil : i < l.length := by have := (Array.getElem?_eq_some_iff.1 ho').1; simpa using this
    have his : i < listed.size := by rw [h.size]; exact hil
    have := unl_set (f := fun i => listed.getD i false) (g := fun j => (listed.setIfInBounds i true).getD j false) (i := i) (by simp [his] at hun ⊢; exact hun) (by simp [his]) (fun j hj => getD_set_ne false (fun e => hj e.symm)) hil
    omega
theorem any_of_lex {Q : Exit → Act → World → Prop} (hB : okB st l = true) (C0 D0 : World → Prop) (hC : C0 w.drew) (hCD : ∀ w, C0 w → D0 w ∧ E w)
 (h : wpLex P st E (fun a' C' => ∀ w', C' w' → Q .normal a' w') l 0 a C0 D0) : wpAny P .any l.toArray Q l.toArray.size (Array.replicate l.toArray.size false) a w.drew := by
 obtain ⟨A, Cs, Ds, v, hr, hA, hC0, hD0, hQ⟩ := run_of_lex l 0 a C0 D0 hCD h
 simp only [Nat.zero_add] at hr
 have ok := Ok.of st l hB
 have hinv : Inv l v (A 0) Cs (Array.replicate l.toArray.size false) a w.drew := by
  have hg : ∀ i, (Array.replicate l.length false).getD i false = false := fun i => by
   by_cases hi : i < l.length <;> simp [hi]
  refine ⟨by simp, fun i o ho hl => ?_, ?_, fun i hi hst => ?_⟩
  · simp only [List.size_toArray] at hl; rw [hg i] at hl; cases hl
  · rw [hA]; exact Shape.start.congr fun j o _ => by simp only [List.size_toArray]; rw [hg j]
  · have e : Cs i = Cs 0 := hr.between i i (by omega) hi fun j o hj hs h0 hlt => by
     have := hst j o hj hs
     simp only [List.size_toArray] at this
     rw [hg j] at this; simp at this; omega
    rw [e, hC0]; exact hC
 have := Inv.all_ hr ok (Q := Q) hQ l.toArray.size _ _ _ hinv (by have := unl_le (fun i => (Array.replicate l.toArray.size false).getD i false) l.length; simpa using this)
 exact this
end
theorem wp_region_lex {P : Program} {l : List Oper} {a : Act} {w : World} {id : Nat} {Q : Exit → Act → World → Prop} (hm : P.follows .mixedOrders = true) (st : List Nat) (hB : okB st l = true) (C0 D0 E : World → Prop) (hC : C0 w.drew) (hCD : ∀ w, C0 w → D0 w ∧ E w)
 (h : wpLex P st E (fun a' C' => ∀ w', C' w' → Q .normal a' w') l 0 a C0 D0) : (Code.region id l.toArray true).wp P Q a w :=
 wp_region_any hm (any_of_lex hB C0 D0 hC hCD h)
section
variable {P : Program} {st : List Nat} {E : World → Prop} {Q : Act → (World → Prop) → Prop} {o : Oper} {rest : List Oper} {n : Nat} {a : Act} {C D : World → Prop} {W : World}
theorem lex_free (hs : isStore o = false) (hf : isFree o = true) {v : Value} (hrun : ∀ w, (execOp a.eval o).run P w = .ok (.value v) w) (h : wpLex P st E Q rest (n + 1) (a.put o.dst v) C D) : wpLex P st E Q (o :: rest) n a C D := by
 unfold wpLex
 rw [if_neg (by simp [hs]), if_pos hf]
 exact ⟨v, fun w => by unfold Gives; rw [hrun w]; exact ⟨rfl, rfl⟩, h⟩
theorem lex_look (hs : isStore o = false) (hf : isFree o = false) (hl : isLook o = true) (hst : st.contains n = false) {v : Value} (hrun : ∀ w, D w → (execOp a.eval o).run P w = .ok (.value v) w) (h : wpLex P st E Q rest (n + 1) (a.put o.dst v) C D) : wpLex P st E Q (o :: rest) n a C D := by
 unfold wpLex
 rw [if_neg (by simp [hs]), if_neg (by simp [hf]), if_pos hl]
 exact ⟨v, fun w hw => by rw [if_neg (by rw [hst]; simp)] at hw; unfold Gives; rw [hrun w hw]; exact ⟨rfl, rfl⟩, h⟩
theorem lex_steady (hs : isStore o = false) (hf : isFree o = false) (hl : isLook o = true) (hst : st.contains n = true) {v : Value} (hrun : ∀ w, E w → (execOp a.eval o).run P w = .ok (.value v) w) (h : wpLex P st E Q rest (n + 1) (a.put o.dst v) C D) : wpLex P st E Q (o :: rest) n a C D := by
 unfold wpLex
 rw [if_neg (by simp [hs]), if_neg (by simp [hf]), if_pos hl]
 exact ⟨v, fun w hw => by rw [if_pos hst] at hw; unfold Gives; rw [hrun w hw]; exact ⟨rfl, rfl⟩, h⟩
theorem lex_call (hs : isStore o = true) {C' : World → Prop} {v : Value} {f : FuncId} {args : Array Value} (hrun : ∀ w, C w → (execOp a.eval o).run P w = .ok (.enter f args) w) (hc : ∀ w, C w → Calls P f args w fun e w' => e = .returned v ∧ C' w') (hD : ∀ w, C' w → D w ∧ E w) (h : wpLex P st E Q rest (n + 1) (a.put o.dst v) C' D) : wpLex P st E Q (o :: rest) n a C D := by
 unfold wpLex
 rw [if_pos hs]
 exact ⟨v, C', D, fun w hw => by unfold Gives; rw [hrun w hw]; exact hc w hw, fun _ => rfl, hD, h⟩
theorem lex_make (hs : isStore o = true) {v : Value} {W' : World} (hrun : (execOp a.eval o).run P W = .ok (.value v) W') (hD : D W' ∧ E W') (h : wpLex P st E Q rest (n + 1) (a.put o.dst v) (· = W') D) : wpLex P st E Q (o :: rest) n a (· = W) D := by
 unfold wpLex
 rw [if_pos hs]
 exact ⟨v, (· = W'), D, fun w hw => by subst hw; unfold Gives; rw [hrun]; exact ⟨rfl, rfl⟩, fun _ => rfl, fun w hw => hw ▸ hD, h⟩
theorem lex_store (hs : isStore o = true) (hh : isHard o = true) {C' D' : World → Prop} (hrun : ∀ w, C w → ∃ W', (execOp a.eval o).run P w = .ok .skip W' ∧ C' W') (hD : ∀ w, C' w → D' w ∧ E w) (h : wpLex P st E Q rest (n + 1) (a.put o.dst undef) C' D') : wpLex P st E Q (o :: rest) n a C D := by
 unfold wpLex
 rw [if_pos hs]
 exact ⟨undef, C', D', fun w hw => by obtain ⟨W', h1, h2⟩ := hrun w hw; unfold Gives; rw [h1]; exact ⟨rfl, h2⟩, fun e => by (rw [hh] at e; cases e), hD, h⟩
theorem lex_end {Q : Exit → Act → World → Prop} (h : ∀ w', C w' → Q .normal a w') : wpLex P st E (fun a' C' => ∀ w', C' w' → Q .normal a' w') [] n a C D := h
end
end Ry
namespace Go.Proofs.YtbdlpbnfcnhajaaGreat.Rg
open Go.RowKit
theorem calm_shots {ps : Nat → Gm.In} (hb : ∀ i, (ps i).b = 0) {g : Gm.G} (hs : g.shots = []) : (Gm.step ps g).shots = [] := by
 have h : ∀ m, (Gm.ph1 ps g m).2 = [] := fun m => by
  induction m with
  | zero => exact hs
  | succ m ih =>
   show (Gm.ph1 ps g m).2 ++ Gm.made _ _ _ _ = _
   rw [ih, List.nil_append]
   unfold Gm.made Gm.shoots
   rw [hb]
   simp
 unfold Gm.step
 rw [h]
 rfl
theorem idle_facts {d : Int} (hd : 0 ≤ d ∧ d ≤ 18446744073709551615) : Fd.apply (Fd.start d) ⟨0, [], Fd.in0⟩ = Option.some (Fd.idle1 d) ∧ Fd.Fine (Fd.idle1 d) ∧ (Fd.idle1 d).g.frame = 1 ∧ (Fd.idle1 d).g.shots = [] := by
 have h1 := (Fd.start_fine hd).step Fd.in0 (by show (0 : Int) < 1048576; decide)
 exact ⟨Fd.idle_step (Fd.start_fine hd) 0 rfl (by decide), h1.1, h1.2, calm_shots (fun i => rfl) rfl⟩
theorem of_fine {s : Fd.S} (h : Fd.Fine s) : Ok [s] := Ok.new h.ok h.ty
structure Two (s t : Fd.S) : Prop where
 fs : Fd.Fine s
 ft : Fd.Fine t
 zs : s.g.frame = 0
 zt : t.g.frame = 1
section
variable {s t : Fd.S} (h : Two s t)
include h
theorem Two.p1 : pushB [s] t = true := pushB_yes h.ft.ok (by rw [h.zt]; show (1 : Int) = s.g.frame + 1 - 1 + 1; rw [h.zs]; rfl) (by show 1 ≤ 8; decide)
theorem Two.e1 : push [s] t = [s, t] := push_yes h.p1
theorem Two.ok2 : Ok [s, t] := by have := (of_fine h.fs).push h.ft.ty; rwa [h.e1] at this
theorem Two.p2 : pushB [s, t] t = false := pushB_no fun hh => by
 have h2 : t.g.frame = s.g.frame + 2 - 1 + 1 := hh.2.1
 rw [h.zt, h.zs] at h2
 exact absurd h2 (by decide)
theorem Two.e2 : push [s, t] t = [s, t] := push_no h.p2
theorem Two.has1 : hasB [s, t] 1 = true := has_is.2 (by
 show s.g.frame ≤ 1 ∧ (1 : Int) ≤ s.g.frame + 2 - 1
 rw [h.zs]; decide)
theorem Two.a1 : at_ [s, t] 1 = Option.some t := by
 unfold at_
 rw [if_pos h.has1]
 show [s, t][((1 : Int) - s.g.frame).toNat]? = _
 rw [h.zs]; rfl
theorem Two.has0 : hasB [s, t] 0 = true := has_is.2 (by
 show s.g.frame ≤ 0 ∧ (0 : Int) ≤ s.g.frame + 2 - 1
 rw [h.zs]; decide)
theorem Two.c0 : cut [s, t] 0 = [s] := by
 unfold cut
 rw [if_pos h.has0]
 show [s, t].take (((0 : Int) - s.g.frame).toNat + 1) = _
 rw [h.zs]; rfl
theorem Two.no1 : hasB [s] 1 = false := by
 rw [← Bool.not_eq_true, has_is]
 intro hh
 have h2 : (1 : Int) ≤ s.g.frame + 1 - 1 := hh.2
 rw [h.zs] at h2
 exact absurd h2 (by decide)
theorem Two.a2 : at_ [s] 1 = none := at_hasnt h.no1
theorem Two.no5 : hasB [s] 5 = false := by
 rw [← Bool.not_eq_true, has_is]
 intro hh
 have h2 : (5 : Int) ≤ s.g.frame + 1 - 1 := hh.2
 rw [h.zs] at h2
 exact absurd h2 (by decide)
theorem Two.d5 : drop [s] 5 = [s] := if_neg (by rw [h.no5]; decide)
theorem Two.f : first [s] = 0 := h.zs
theorem Two.l : last [s] = 0 := by show s.g.frame + 1 - 1 = 0; rw [h.zs]; rfl
end
theorem zero_ty : Gm.ty Im.G0 := by
 refine ⟨by unfold Gm.i64; decide, by decide, fun i hi => ?_, fun i hi => absurd hi (Nat.not_lt_zero _)⟩
 exact (Fd.ship_none).ty
theorem zero_ros : ¬ Ros.Ok Im.R0 := by decide +kernel
theorem zero_not : ¬ Im.Ok Im.G0 Im.R0 := fun h => zero_ros h.2.1
end Go.Proofs.YtbdlpbnfcnhajaaGreat.Rg
namespace Go.Proofs.YtbdlpbnfcnhajaaGreat
open Go.RowKit Go.Shelf
theorem wpList_build_gg {P : Program} {ops : Array Oper} {rest : List Oper} {o : Oper} {a : Act} {w : World} {Q : Exit → Act → World → Prop} {t : TypeId} {l : List (Nat × Operand)} {vs : List (Nat × Value)} {cs : Array Value} (hw : Region.wanted o (yielded ops a.tmps) = true) (ho : o.op = .build t l.toArray) (hv : (l.map fun (i, x) => (i, a.eval x)) = vs) (hb : P.built t vs = some cs)
 (h : wpList P ops Q rest (a.put o.dst (.agg cs)) w) : wpList P ops Q (o :: rest) a w := by
 have e : ((l.toArray.map fun (i, x) => (i, a.eval x)).toList) = vs := by rw [← hv]; simp
 exact wpList_step fun K hK => by
  rw [if_pos hw]
  exact wp_build t l.toArray ho (by rw [e, hb]; rfl) (by rw [e, hb]; exact hK _ _ h)
theorem told15_any {LP : RingP} (C : RingC LP) (w : World) :
 Calls Tryz.prog 6 #[] w fun e w' => e = .returned (.bool true) ∧ Below w.heap.size w w' := by
 have cs := fun X => qh (foldstart_any ⟨#[97]⟩ X (by decide))
 have hd := Dn.seed_bd (ByteArray.mk #[97]).data.toList
 generalize Dn.seed (ByteArray.mk #[97]).data.toList = d at cs hd
 have HD := qh hd
 have ty0 := qh (start_new d hd)
 obtain ⟨ap, fi, fr1, sh0⟩ := Rg.idle_facts hd
 have TW := qh (show Rg.Two (Fd.start d) (Fd.idle1 d) from ⟨Fd.start_fine hd, fi, rfl, fr1⟩)
 have SH := qh sh0
 have AP := qh ap
 clear hd ap fi fr1 sh0
 go_enter Tryz.func6, Tryz.ntmps6
 go_upto_region 2 with (first | (go_at_call 25; ((with_reducible refine ((cs _).out).mono ?_); rintro x w1 ⟨rfl, hb⟩; have S1 := qh (Box.made w1 40 (Im.cells (Gm.new d) (.slice none 0 0) Ros.new)); have K1 := qh (hb.alloc hb.size (.cells (Im.cells (Gm.new d) (.slice none 0 0) Ros.new) 40)); have G1 := qh hb.size; clear hb)) | (with_reducible refine alloc_state rfl rfl ?_) | (with_reducible refine im_store_new rfl rfl rfl rfl Im.zero_size rfl ?_))
 generalize hW1 : w1.alloc (.cells (Im.cells (Gm.new d) (.slice none 0 0) Ros.new) 40) = W1 at S1 K1 ⊢
 generalize w1.heap.size = b1 at S1 G1 ⊢
 clear hW1 cs
 have cn := qh (show Calls Tryz.prog 10 #[.agg (Im.cells (Gm.new d) (.slice none 0 0) Ros.new)] W1 (fun e X' => ∃ B, e = .returned (.pointer (some ⟨B, 0, none⟩)) ∧ HoldB LP w B [Fd.start d] [(b1, 40, Im.cells (Gm.new d) (.slice none 0 0) Ros.new)] X' ∧ Below W1.heap.size W1 X') from
  B15.new C ⟨Gm.new d, Ros.new, none, 0⟩ ty0.out (Fd.start_fine HD.out).ok Lies.none_ K1.out (fun p hp => by obtain rfl := List.mem_singleton.1 hp; exact S1.out) (fun p hp => by obtain rfl := List.mem_singleton.1 hp; exact G1.out))
 go_upto_region 3 with (first | ((with_reducible refine im_load_state rfl rfl ?_); apply LoadIm.mk rfl; (focus (with_reducible exact S1.out)); dsimp only) | (go_at_call 10; ((with_reducible refine ((cn).out).mono ?_); rintro x w2 ⟨Br, rfl, h2, _⟩; have H2 := qh h2; clear h2)))
 clear cn S1 K1 G1
 have S2 := qh (H2.out.box List.mem_cons_self)
 have ca := fun X => qh (show Calls Tryz.prog 26 #[.agg (Im.cells (Gm.new d) (.slice none 0 0) Ros.new), .agg (En.cells (Fd.eI 0) (.slice none 0 0))] X (SOut (Fd.idle1 d).g (Fd.idle1 d).r 0 X) from
  foldapply_some (Fd.idle1 d) (Fd.start d) (Fd.eI 0) none none 0 0 0 0 X ty0.out (by decide) rfl Lies.none_ rfl (by decide) Lies.none_ in0_tyin AP.out)
 generalize Fd.idle1 d = T at *
 go_upto_region 4 with (first | ((with_reducible refine im_load_state rfl rfl ?_); apply LoadIm.mk rfl; (focus (with_reducible exact S2.out)); dsimp only) | (refine wpList_build_is rfl (t := 51) (vs := []) rfl rfl (en_built_I0) ?_) | (go_at_call 26; ((with_reducible refine ((ca _).out).mono ?_); rintro x w3 ⟨A3, c3, rfl, _, hb⟩; have H3 := qh ((H2.out.call C.ob hb).alloc C.ob (Im.cells T.g (.slice A3 T.g.shots.length c3) T.r) 40); clear hb)) | (with_reducible refine alloc_state rfl rfl ?_) | (with_reducible refine im_store_new rfl rfl rfl rfl Im.zero_size rfl ?_))
 generalize hWn : w3.alloc (.cells (Im.cells T.g (.slice A3 T.g.shots.length c3) T.r) 40) = W3 at H3 ⊢
 generalize w3.heap.size = b3 at H3 ⊢
 clear hWn H2 ca S2
 go_upto_region 6 with fail
 obtain ⟨L3, hL3⟩ : ∃ L3, L3 = [(b3, 40, Im.cells T.g (.slice A3 T.g.shots.length c3) T.r), (b1, 40, Im.cells (Gm.new d) (.slice none 0 0) Ros.new)] := ⟨_, rfl⟩
 have mt := qh (show (b3, 40, Im.cells T.g (.slice A3 T.g.shots.length c3) T.r) ∈ L3 by rw [hL3]; exact List.mem_cons_self)
 have ms := qh (show (b1, 40, Im.cells (Gm.new d) (.slice none 0 0) Ros.new) ∈ L3 by rw [hL3]; exact List.mem_cons_of_mem _ List.mem_cons_self)
 rw [← hL3] at H3
 clear hL3
 have LT := fun X : World => qh (show Lies X X.heap.size 6 A3 T.g.shots.length (Gm.shotCells T.g.shots) by rw [SH.out]; exact Lies.none_)
 have n0 := qh (show T.g.shots.length ≤ maxLen by rw [SH.out]; exact Nat.zero_le _)
 have cp1 := fun X (h : HoldB LP w Br [Fd.start d] L3 X) => qh (B15.push C (Rg.of_fine TW.out.fs) ⟨T.g, T.r, A3, c3⟩ TW.out.ft.ty n0.out h (LT X).out)
 have cp2 := fun X (h : HoldB LP w Br [Fd.start d, T] L3 X) => qh (B15.push C TW.out.ok2 ⟨T.g, T.r, A3, c3⟩ TW.out.ft.ty n0.out h (LT X).out)
 rw [show (Rg.St.s ⟨T.g, T.r, A3, c3⟩) = T from rfl, TW.out.p1, TW.out.e1] at cp1
 rw [show (Rg.St.s ⟨T.g, T.r, A3, c3⟩) = T from rfl, TW.out.p2, TW.out.e2] at cp2
 refine Ry.wp_region_lex (by kernel_rfl) [1, 4] (by kernel_rfl) (fun W => HoldB LP w Br [Fd.start d] L3 W) (fun _ => True) (fun W => Box W b3 40 (Im.cells T.g (.slice A3 T.g.shots.length c3) T.r)) (H3.out.drew C.ob) (fun W hW => ⟨trivial, hW.box mt.out⟩) ?_
 refine Ry.lex_free rfl rfl (fun _ => by go_simp; first | done | rfl) ?_
 refine Ry.lex_steady rfl rfl rfl rfl (fun W hW => exec_load_state rfl rfl hW) ?_
 refine Ry.lex_call rfl (C' := fun W => HoldB LP w Br [Fd.start d, T] L3 W) (v := .bool true) (f := 12) (args := #[.pointer (some ⟨Br, 0, none⟩), .agg (Im.cells T.g (.slice A3 T.g.shots.length c3) T.r)]) (fun W _ => by go_simp; first | done | rfl) (fun W hW => (cp1 W hW).out) (fun W hW => ⟨trivial, hW.box mt.out⟩) ?_
 refine Ry.lex_free rfl rfl (fun _ => by go_simp; first | done | rfl) ?_
 refine Ry.lex_steady rfl rfl rfl rfl (fun W hW => exec_load_state rfl rfl hW) ?_
 refine Ry.lex_call rfl (C' := fun W => HoldB LP w Br [Fd.start d, T] L3 W) (v := .bool false) (f := 12) (args := #[.pointer (some ⟨Br, 0, none⟩), .agg (Im.cells T.g (.slice A3 T.g.shots.length c3) T.r)]) (fun W _ => by go_simp; first | done | rfl) (fun W hW => (cp2 W hW).out) (fun W hW => ⟨trivial, hW.box mt.out⟩) ?_
 repeat (refine Ry.lex_free rfl rfl (fun _ => by go_simp; first | done | rfl) ?_)
 refine Ry.lex_end fun W6 hW6 => ?_
 simp only [Act.put, List.setIfInBounds_toArray, List.set_cons_succ, List.set_cons_zero]
 have H6 := qh hW6
 clear hW6 cp1 cp2 H3
 have c1 := fun X (h : HoldB LP w Br [Fd.start d, T] L3 X) => qh (B15.at_yes C TW.out.ok2 1 T TW.out.a1 h)
 have cc := fun X L' (h : HoldB LP w Br [Fd.start d, T] L' X) => qh (B15.cut C TW.out.ok2 0 (by decide) h)
 rw [TW.out.c0, TW.out.has0] at cc
 have c2 := fun X L' (h : HoldB LP w Br [Fd.start d] L' X) => qh (B15.at_no C (Rg.of_fine TW.out.fs) 1 (by decide) TW.out.a2 h)
 rw [show Im.zero = Im.cells Im.G0 (.slice none 0 0) Im.R0 from rfl] at c2
 go_upto_region 8 with (first | (go_at_call 19; ((with_reducible refine ((c1 _ H6.out).out).mono ?_); rintro x w7 ⟨⟨A7, c7, rfl, hL7, _, hb7⟩, h7⟩; have L7 := qh hL7; have H7 := qh (h7.alloc C.ob (Im.cells T.g (.slice A7 T.g.shots.length c7) T.r) 40); clear hb7 hL7 h7)) | (with_reducible refine alloc_state rfl rfl ?_) | (with_reducible refine im_store_new rfl rfl rfl rfl Im.zero_size rfl ?_))
 generalize hW7 : w7.alloc (.cells (Im.cells T.g (.slice A7 T.g.shots.length c7) T.r) 40) = W7 at H7 ⊢
 generalize w7.heap.size = b7 at H7 ⊢
 clear hW7 H6 c1
 go_upto_region 9 with (go_at_call 15; ((with_reducible refine ((cc _ _ H7.out).out).mono ?_); rintro x w8 ⟨rfl, h8⟩; have H8 := qh h8; clear h8))
 clear H7 cc
 go_upto_region 10 with (first | (go_at_call 19; ((with_reducible refine ((c2 _ _ H8.out).out).mono ?_); rintro x w9 ⟨rfl, h9, hb9⟩; have H9 := qh ((h9.alloc C.ob (Im.cells Im.G0 (.slice none 0 0) Im.R0) 40).less (L' := (b7, 40, Im.cells T.g (.slice A7 T.g.shots.length c7) T.r) :: L3) (fun p hp => List.mem_cons_of_mem _ hp)); clear hb9 h9)) | (with_reducible refine alloc_state rfl rfl ?_) | (with_reducible refine im_store_new rfl rfl rfl rfl Im.zero_size rfl ?_))
 generalize w9.alloc (.cells (Im.cells Im.G0 (.slice none 0 0) Im.R0) 40) = W9 at H9 ⊢
 generalize w9.heap.size = b9 at H9 ⊢
 clear H8 c2
 obtain ⟨L9, hL9⟩ : ∃ L9, L9 = (b7, 40, Im.cells T.g (.slice A7 T.g.shots.length c7) T.r) :: L3 := ⟨_, rfl⟩
 have m7 := qh (show (b7, 40, Im.cells T.g (.slice A7 T.g.shots.length c7) T.r) ∈ L9 by rw [hL9]; exact List.mem_cons_self)
 have m3 := qh (show (b3, 40, Im.cells T.g (.slice A3 T.g.shots.length c3) T.r) ∈ L9 by rw [hL9]; exact List.mem_cons_of_mem _ mt.out)
 have m1 := qh (show (b1, 40, Im.cells (Gm.new d) (.slice none 0 0) Ros.new) ∈ L9 by rw [hL9]; exact List.mem_cons_of_mem _ ms.out)
 rw [← hL9] at H9
 clear hL9 mt ms
 have LT7 := fun X : World => qh (show Lies X X.heap.size 6 A7 T.g.shots.length (Gm.shotCells T.g.shots) by rw [SH.out]; exact Lies.none_)
 have x1 := fun X (h : HoldB LP w Br [Fd.start d] L9 X) => qh ((foldsame_any T.g T.g T.r T.r A7 A3 _ _ c7 c3 X rfl rfl (LT7 X).out (LT X).out n0.out n0.out).mono fun e X' hh => show e = .returned (.bool true) ∧ HoldB LP w Br [Fd.start d] L9 X' from ⟨by obtain ⟨⟨v, e1, e2⟩, _⟩ := hh; obtain rfl : v = true := e2.2 ⟨Gm.Eq.refl _, rfl, fun _ _ => ⟨rfl, rfl⟩⟩; exact e1, h.call C.ob hh.2⟩)
 have x2 := fun X (h : HoldB LP w Br [Fd.start d] L9 X) => qh (B15.len C (Rg.of_fine TW.out.fs) h)
 have x3 := fun X (h : HoldB LP w Br [Fd.start d] L9 X) => qh (B15.first C (Rg.of_fine TW.out.fs) h)
 have x4 := fun X (h : HoldB LP w Br [Fd.start d] L9 X) => qh (B15.last C (Rg.of_fine TW.out.fs) h)
 have x5 := fun X (h : HoldB LP w Br [Fd.start d] L9 X) => qh (B15.drop C (Rg.of_fine TW.out.fs) 5 (by decide) h)
 rw [TW.out.d5, TW.out.no5] at x5
 rw [TW.out.f] at x3
 rw [TW.out.l] at x4
 have x2 : ∀ X (h : HoldB LP w Br [Fd.start d] L9 X), Hid (Calls Tryz.prog 22 #[.pointer (some ⟨Br, 0, none⟩)] X fun e X' => e = .returned (.int .i64 1) ∧ HoldB LP w Br [Fd.start d] L9 X' ∧ Below X.heap.size X X') := x2
 have y1 := fun X (h : HoldB LP w Br [Fd.start d] L9 X) => qh (show Calls Tryz.prog 10 #[.agg Im.zero] X (fun e X' => e = .returned (.pointer none) ∧ HoldB LP w Br [Fd.start d] L9 X') from (C.new_no ⟨Im.G0, Im.R0, none, 0⟩ X Rg.zero_ty Rg.zero_not (Nat.zero_le _) Lies.none_).mono fun e X' hh => ⟨hh.1, h.call C.ob hh.2⟩)
 have y2 := fun X (h : HoldB LP w Br [Fd.start d] L9 X) => qh ((C.len0 X).mono fun e X' hh => show e = _ ∧ HoldB LP w Br [Fd.start d] L9 X' from ⟨hh.1, h.call C.ob hh.2⟩)
 have y3 := fun X (h : HoldB LP w Br [Fd.start d] L9 X) => qh (show Calls Tryz.prog 12 #[.pointer none, .agg (Im.cells (Gm.new d) (.slice none 0 0) Ros.new)] X (fun e X' => e = .returned (.bool false) ∧ HoldB LP w Br [Fd.start d] L9 X') from (C.push0 ⟨Gm.new d, Ros.new, none, 0⟩ X ty0.out (Nat.zero_le _) Lies.none_).mono fun e X' hh => ⟨hh.1, h.call C.ob hh.2⟩)
 have y4 := fun X (h : HoldB LP w Br [Fd.start d] L9 X) => qh ((C.cut0 0 X).mono fun e X' hh => show e = _ ∧ HoldB LP w Br [Fd.start d] L9 X' from ⟨hh.1, h.call C.ob hh.2⟩)
 have y5 := fun X (h : HoldB LP w Br [Fd.start d] L9 X) => qh ((C.drop0 0 X).mono fun e X' hh => show e = _ ∧ HoldB LP w Br [Fd.start d] L9 X' from ⟨hh.1, h.call C.ob hh.2⟩)
 have h10 := H9.out
 go_wp2_with fail
 dsimp only [List.append]
 go_wp2_with (first
  | ((with_reducible refine im_load_state_g ?_ rfl ?_); (focus first | rfl | kernel_rfl | simp [Region.wanted, yielded]); apply LoadIm.mk rfl; (focus first | exact HoldB.box (by assumption) m7.out | exact HoldB.box (by assumption) m3.out | exact HoldB.box (by assumption) m1.out); dsimp only)
  | ((refine wpList_build_gg (t := 40) (l := []) (vs := []) ?_ rfl rfl state_built ?_); (focus first | rfl | kernel_rfl | simp [Region.wanted, yielded]))
  | (go_at_call 27; ((with_reducible refine ((x1 _ (by assumption)).out).mono ?_); rintro x w11 ⟨rfl, h11⟩))
  | (go_at_call 22; ((with_reducible refine ((x2 _ (by assumption)).out).mono ?_); rintro x w12 ⟨rfl, h12, _⟩))
  | (go_at_call 23; ((with_reducible refine ((x3 _ (by assumption)).out).mono ?_); rintro x w13 ⟨rfl, h13, _⟩))
  | (go_at_call 24; ((with_reducible refine ((x4 _ (by assumption)).out).mono ?_); rintro x w14 ⟨rfl, h14, _⟩))
  | (go_at_call 17; ((with_reducible refine ((x5 _ (by assumption)).out).mono ?_); rintro x w15 ⟨rfl, h15⟩))
  | (go_at_call 10; ((with_reducible refine ((y1 _ (by assumption)).out).mono ?_); rintro x w16 ⟨rfl, h16⟩))
  | (go_at_call 22; ((with_reducible refine ((y2 _ (by assumption)).out).mono ?_); rintro x w17 ⟨rfl, h17⟩))
  | (go_at_call 12; ((with_reducible refine ((y3 _ (by assumption)).out).mono ?_); rintro x w18 ⟨rfl, h18⟩))
  | (go_at_call 15; ((with_reducible refine ((y4 _ (by assumption)).out).mono ?_); rintro x w19 ⟨rfl, h19⟩))
  | (go_at_call 17; ((with_reducible refine ((y5 _ (by assumption)).out).mono ?_); rintro x w20 ⟨rfl, h20⟩)))
 go_ret
 exact ⟨rfl, h20.down⟩
open Go.RowKit
theorem reftame_any (a : Int) (wa : -128 ≤ a ∧ a ≤ 127) (w : World) :
 Calls Tryz.prog 61 #[.int .i8 a] w fun e w' => e = .returned (.int .i8 (Gf.tame a)) ∧ w = w' := by
 go_enter Tryz.func61, Tryz.ntmps61
 go_wp2
 · go_ret
   exact ⟨ret_int (by unfold Gf.tame; simp_all), rfl⟩
 · go_ret
   exact ⟨ret_int (by unfold Gf.tame; simp_all), rfl⟩
theorem refhit_any (g : Gm.G) (v : Value) (s : Gm.Shot) (w : World) (hg : ∀ i, i < 8 → Gm.tyShip (g.ship i)) (hs : Gm.tyShot s) :
 Calls Tryz.prog 65 #[.agg (Gm.cells g v), .agg s.cells.toArray] w fun e w' => e = .returned (.int .i64 (Gm.hit g.ship s)) ∧ Below w.heap.size w w' := by
 obtain ⟨owner, sx, sy, svx, svy, left⟩ := s
 obtain ⟨t1, t2, t3, t4, t5, t6⟩ := hs
 simp only [Gm.i32, Gm.i64] at t1 t2 t3 t4 t5 t6
 simp only [Gm.Shot.cells]
 go_enter Tryz.func65, Tryz.ntmps65
 go_wp2
 go_loopw [5] (fun i wr => ∃ k : Nat, k ≤ 8 ∧ i = .int .i64 k ∧ Box wr w.heap.size 33 (Gm.cells g v) ∧ Box wr (w.heap.size + 1) 72 #[.int .i64 owner, .int .i32 sx, .int .i32 sy, .int .i32 svx, .int .i32 svy, .int .i64 left] ∧ Below w.heap.size w wr ∧
  Hid (Gm.hit g.ship ⟨owner, sx, sy, svx, svy, left⟩ = Gm.hitFrom g.ship ⟨owner, sx, sy, svx, svy, left⟩ (8 - k) k)) (fun i _ => 8 - (intOf i).toNat)
 case atStart => exact ⟨0, by omega, rfl, (Box.made _ _ _).alloc _, Box.made_at _ _ _ (by simp), two_below' _ _ _, qh rfl⟩
 case round =>
  obtain ⟨k, hk, rfl, hB, hC, hb, hh⟩ := hrel
  by_cases hlt : k < 8
  · have hcr := hB.cell
    have hds := hC.cell
    have hlB := hB.lt
    have e0 := cells_at hcr hlt 0 (by omega)
    have e1 := cells_at hcr hlt 1 (by omega)
    have e2 := cells_at hcr hlt 2 (by omega)
    have ho := hg k hlt
    have hq : Gm.hits1 g.ship ⟨owner, sx, sy, svx, svy, left⟩ k = ((g.ship k).on && (decide ((k : Int) ≠ owner) && Gf.hits sx sy (g.ship k).x (g.ship k).y)) := rfl
    have HQ := qh hq
    clear hq
    generalize g.ship k = s at e0 e1 e2 ho HQ
    obtain ⟨on, x, y, vx, vy, cool, score⟩ := s
    simp only [Gm.Ship.cells, List.getElem?_cons_zero, List.getElem?_cons_succ, Nat.add_zero] at e0 e1 e2
    obtain ⟨o1, o2, o3, o4, o5, o6⟩ := ho
    simp only [Gm.i32] at o1 o2
    dsimp only at HQ
    have f0 := hds 0
    have f1 := hds 1
    have f2 := hds 2
    simp only [List.getElem?_toArray, List.getElem?_cons_zero, List.getElem?_cons_succ] at f0 f1 f2
    have hk8 : (k : Int) < 8 := by omega
    clear hcr hds
    have HN : Gm.hits1 g.ship ⟨owner, sx, sy, svx, svy, left⟩ k = false → Hid (Gm.hit g.ship ⟨owner, sx, sy, svx, svy, left⟩ = Gm.hitFrom g.ship ⟨owner, sx, sy, svx, svy, left⟩ (8 - (k + 1)) (k + 1)) := fun h => qh (by
     rw [hh.out, show 8 - k = (8 - (k + 1)) + 1 from by omega, Gm.hitFrom_no h])
    have HY : Gm.hits1 g.ship ⟨owner, sx, sy, svx, svy, left⟩ k = true → Gm.hit g.ship ⟨owner, sx, sy, svx, svy, left⟩ = (k : Int) := fun h => by
     rw [hh.out, show 8 - k = (8 - (k + 1)) + 1 from by omega, Gm.hitFrom_yes h]
    rw [HQ.out] at HN HY
    have HN := qh HN
    have HY := qh HY
    clear hh HQ
    cases on
    · have HN := HN.out (by simp)
      clear HY
      go_wp2_with fail
      go_quiet (fail)
      go_wp2
      go_roundw
      case rel => exact ⟨k + 1, by omega, by go_num, hB.draws _, hC.draws _, draws_below hb _, HN⟩
      case measure => simp [intOf]; omega
    · by_cases hko : (k : Int) = owner
      · have hko' : ((k : Int) != owner) = false := by simpa using hko
        have HN := HN.out (by simp [hko])
        clear HY hko
        go_wp2_with fail
        go_quiet (fail)
        go_wp2
        go_roundw
        case rel => exact ⟨k + 1, by omega, by go_num, hB.draws _, hC.draws _, draws_below hb _, HN⟩
        case measure => simp [intOf]; omega
      · have hko' : ((k : Int) != owner) = true := by simpa using hko
        cases hH : Gf.hits sx sy x y
        · have HN := HN.out (by simp [hH])
          have c1 := fun X => qh (refhits_any sx sy x y t2 t3 o1 o2 X)
          rw [hH] at c1
          clear HY hko hH
          go_wp2_with fail
          go_quiet ((go_at_call 86; with_reducible exact draws_left (c1 _).out))
          go_wp2
          go_roundw
          case rel => exact ⟨k + 1, by omega, by go_num, hB.draws _, hC.draws _, draws_below hb _, HN⟩
          case measure => simp [intOf]; omega
        · have HY := HY.out (by simp [hH, hko])
          have HY := qh HY
          have c1 := fun X => qh (refhits_any sx sy x y t2 t3 o1 o2 X)
          rw [hH] at c1
          clear HN hko hH
          go_wp2_with fail
          go_quiet ((go_at_call 86; with_reducible exact draws_left (c1 _).out))
          go_wp2
          go_ret
          exact ⟨ret_int HY.out.symm, draws_below hb _⟩
  · have hk8 : ¬ (k : Int) < 8 := by omega
    have HH := qh (show Gm.hit g.ship ⟨owner, sx, sy, svx, svy, left⟩ = -1 by rw [hh.out, show 8 - k = 0 from by omega]; rfl)
    clear hh
    go_wp2
    go_ret
    exact ⟨ret_int HH.out.symm, hb⟩
end Go.Proofs.YtbdlpbnfcnhajaaGreat