/-
Several texts in one: Ro Ha Hb Hc Hw Hoff Dp Hd Hl.
-/
import Derived.Test.YtiahpncglpfjeaaGreatFq2
namespace Ro
open Go

def isStore (o : Oper) : Bool := match o.op with | .store .. => true | _ => false
/-- Nothing of the world is asked. -/
def isFree (o : Oper) : Bool := match o.op with | .fieldAddr .. | .indexAddr .. | .move .. | .assign .. | .pick .. | .extract .. | .binOp .. | .unOp .. | .build .. => true | _ => false

/-- What an operation leaves: the value v, a world of C. -/
def Gives (P : Program) (o : Oper) (a : Act) (w : World) (v : Value) (C : World → Prop) : Prop :=
  match (execOp a.eval o).run P w with
  | .ok (.value u) w1 => u = v ∧ C w1
  | .ok .skip w1 => undef = v ∧ C w1
  | .ok (.enter f args) w1 => Calls P f args w1 fun e w2 => e = .returned v ∧ C w2
  | _ => False

theorem Gives.wp {P : Program} {o : Oper} {a : Act} {w : World} {v : Value} {C : World → Prop} {K : Act → World → Prop} {Q : Exit → Act → World → Prop} (h : Gives P o a w v C) (hK : ∀ w', C w' → K (a.put o.dst v) w') : o.wp P a w K Q := by
  unfold Gives at h
  unfold Oper.wp
  generalize (execOp a.eval o).run P w = r at *
  cases r with
  | ok n w1 =>
    cases n <;> simp only [Oper.upon] at h ⊢
    case value u => obtain ⟨rfl, h⟩ := h; exact hK _ h
    case skip => obtain ⟨rfl, h⟩ := h; exact hK _ h
    case enter f args =>
      exact h.mono fun e w2 ⟨he, hw⟩ => by subst he; exact hK _ hw
  | halt x w1 => cases h
theorem Gives.congr {P : Program} {o : Oper} {a a' : Act} {w : World} {v : Value} {C : World → Prop} (h : Gives P o a w v C) (he : execOp a'.eval o = execOp a.eval o) : Gives P o a' w v C := by
  unfold Gives at *; rw [he]; exact h

/-- The walk in the order of the text. -/
def wpLex (P : Program) (Q : Act → (World → Prop) → Prop) : List Oper → Act → (World → Prop) → Prop
  | [], a, C => Q a C
  | o :: rest, a, C =>
    if isStore o then ∃ C', (∀ w, C w → Gives P o a w undef C') ∧ wpLex P Q rest (a.put o.dst undef) C'
    else if isFree o then ∃ v, (∀ w, Gives P o a w v (fun w' => w' = w)) ∧ wpLex P Q rest (a.put o.dst v) C
    else ∃ v, (∀ w, C w → Gives P o a w v C) ∧ wpLex P Q rest (a.put o.dst v) C

/-- A run in the order of the text, written out. -/
structure Run (P : Program) (l : List Oper) (A : Nat → Act) (C : Nat → World → Prop) (v : Nat → Value) : Prop where
  act : ∀ i o, l[i]? = some o → A (i + 1) = (A i).put o.dst (v i)
  store : ∀ i o, l[i]? = some o → isStore o = true → v i = undef ∧ ∀ w, C i w → Gives P o (A i) w undef (C (i + 1))
  free : ∀ i o, l[i]? = some o → isStore o = false → isFree o = true → C (i + 1) = C i ∧ ∀ w, Gives P o (A i) w (v i) (fun w' => w' = w)
  read : ∀ i o, l[i]? = some o → isStore o = false → isFree o = false → C (i + 1) = C i ∧ ∀ w, C i w → Gives P o (A i) w (v i) (C i)

def consF {α : Type} (x : α) (f : Nat → α) : Nat → α
  | 0 => x
  | i + 1 => f i
theorem run_of_lex {P : Program} {Q : Act → (World → Prop) → Prop} : ∀ (l : List Oper) (a : Act) (C : World → Prop), wpLex P Q l a C →
    ∃ A Cs v, Run P l A Cs v ∧ A 0 = a ∧ Cs 0 = C ∧ Q (A l.length) (Cs l.length)
  | [], a, C, h => ⟨fun _ => a, fun _ => C, fun _ => undef, ⟨fun i o h => by simp at h, fun i o h => by simp at h, fun i o h => by simp at h, fun i o h => by simp at h⟩, rfl, rfl, h⟩
  | o :: l, a, C, h => by
    unfold wpLex at h
    by_cases hs : isStore o = true
    · rw [if_pos hs] at h
      obtain ⟨C', h1, h2⟩ := h
      obtain ⟨A, Cs, v, hr, hA, hC, hQ⟩ := run_of_lex l _ C' h2
      refine ⟨consF a A, consF C Cs, consF undef v, ⟨?_, ?_, ?_, ?_⟩, rfl, rfl, hQ⟩
      · intro i o' ho'
        cases i with
        | zero => simp at ho'; subst ho'; exact hA
        | succ i => exact hr.act i o' (by simpa using ho')
      · intro i o' ho' hs'
        cases i with
        | zero => simp at ho'; subst ho'; exact ⟨rfl, fun w hw => by show Gives P o a w undef (Cs 0); rw [hC]; exact h1 w hw⟩
        | succ i => exact hr.store i o' (by simpa using ho') hs'
      · intro i o' ho' hs' hf'
        cases i with
        | zero => simp at ho'; subst ho'; rw [hs] at hs'; cases hs'
        | succ i => exact hr.free i o' (by simpa using ho') hs' hf'
      · intro i o' ho' hs' hf'
        cases i with
        | zero => simp at ho'; subst ho'; rw [hs] at hs'; cases hs'
        | succ i => exact hr.read i o' (by simpa using ho') hs' hf'
    · have hs0 : isStore o = false := by simpa using hs
      rw [if_neg hs] at h
      by_cases hf : isFree o = true
      · rw [if_pos hf] at h
        obtain ⟨u, h1, h2⟩ := h
        obtain ⟨A, Cs, v, hr, hA, hC, hQ⟩ := run_of_lex l _ C h2
        refine ⟨consF a A, consF C Cs, consF u v, ⟨?_, ?_, ?_, ?_⟩, rfl, rfl, hQ⟩
        · intro i o' ho'
          cases i with
          | zero => simp at ho'; subst ho'; exact hA
          | succ i => exact hr.act i o' (by simpa using ho')
        · intro i o' ho' hs'
          cases i with
          | zero => simp at ho'; subst ho'; rw [hs0] at hs'; cases hs'
          | succ i => exact hr.store i o' (by simpa using ho') hs'
        · intro i o' ho' hs' hf'
          cases i with
          | zero => simp at ho'; subst ho'; exact ⟨hC, h1⟩
          | succ i => exact hr.free i o' (by simpa using ho') hs' hf'
        · intro i o' ho' hs' hf'
          cases i with
          | zero => simp at ho'; subst ho'; rw [hf] at hf'; cases hf'
          | succ i => exact hr.read i o' (by simpa using ho') hs' hf'
      · rw [if_neg hf] at h
        obtain ⟨u, h1, h2⟩ := h
        obtain ⟨A, Cs, v, hr, hA, hC, hQ⟩ := run_of_lex l _ C h2
        refine ⟨consF a A, consF C Cs, consF u v, ⟨?_, ?_, ?_, ?_⟩, rfl, rfl, hQ⟩
        · intro i o' ho'
          cases i with
          | zero => simp at ho'; subst ho'; exact hA
          | succ i => exact hr.act i o' (by simpa using ho')
        · intro i o' ho' hs'
          cases i with
          | zero => simp at ho'; subst ho'; rw [hs0] at hs'; cases hs'
          | succ i => exact hr.store i o' (by simpa using ho') hs'
        · intro i o' ho' hs' hf'
          cases i with
          | zero => simp at ho'; subst ho'; exact absurd hf' hf
          | succ i => exact hr.free i o' (by simpa using ho') hs' hf'
        · intro i o' ho' hs' hf'
          cases i with
          | zero => simp at ho'; subst ho'; exact ⟨hC, h1⟩
          | succ i => exact hr.read i o' (by simpa using ho') hs' hf'

section
variable {l : List Oper} {v : Nat → Value} {a0 : Act}
structure Shape (l : List Oper) (v : Nat → Value) (a0 : Act) (S : Nat → Bool) (a : Act) : Prop where
  size : a.tmps.size = a0.tmps.size
  defers : a.defers = a0.defers
  done : ∀ j o t, l[j]? = some o → o.dst = some t → S j = true → a.tmps[t]? = if t < a0.tmps.size then some (v j) else none
  rest : ∀ t, (∀ j o, l[j]? = some o → o.dst = some t → S j = false) → a.tmps[t]? = a0.tmps[t]?

def Distinct (l : List Oper) : Prop := ∀ (i j : Nat) (oi oj : Oper) (t : Tmp), l[i]? = some oi → l[j]? = some oj → oi.dst = some t → oj.dst = some t → i = j

theorem Shape.start : Shape l v a0 (fun _ => false) a0 := ⟨rfl, rfl, fun _ _ _ _ _ h => (by cases h), fun _ _ => rfl⟩
theorem Shape.put {S : Nat → Bool} {a : Act} (hd : Distinct l) (h : Shape l v a0 S a) {i : Nat} {o : Oper} (ho : l[i]? = some o) : Shape l v a0 (fun j => S j || j == i) (a.put o.dst (v i)) := by
  cases hdst : o.dst with
  | none =>
    refine ⟨h.size, h.defers, fun j oj t hj ht hS => ?_, fun t ht => ?_⟩
    · simp only [Bool.or_eq_true, beq_iff_eq] at hS
      rcases hS with hS | rfl
      · exact h.done j oj t hj ht hS
      · rw [ho] at hj; injection hj with hj; subst hj; rw [hdst] at ht; cases ht
    · exact h.rest t fun j oj hj ht' => by have := ht j oj hj ht'; simp at this; exact this.1
  | some d =>
    refine ⟨by simp [Act.put, h.size], h.defers, fun j oj t hj ht hS => ?_, fun t ht => ?_⟩
    · simp only [Act.put, Array.getElem?_setIfInBounds]
      by_cases htd : d = t
      · subst htd
        have : j = i := hd j i oj o d hj ho ht hdst
        subst this
        rw [if_pos rfl, h.size]
      · rw [if_neg htd]
        simp only [Bool.or_eq_true, beq_iff_eq] at hS
        rcases hS with hS | rfl
        · exact h.done j oj t hj ht hS
        · rw [ho] at hj; injection hj with hj; subst hj; rw [hdst] at ht; injection ht with ht; exact absurd ht htd
    · have hne : d ≠ t := fun e => by subst e; have := ht i o ho hdst; simp at this
      simp only [Act.put, Array.getElem?_setIfInBounds, if_neg hne]
      exact h.rest t fun j oj hj ht' => by have := ht j oj hj ht'; simp at this; exact this.1
theorem Shape.same {S S' : Nat → Bool} {a a' : Act} (h : Shape l v a0 S a) (h' : Shape l v a0 S' a') {t : Nat} (hS : ∀ j o, l[j]? = some o → o.dst = some t → S j = S' j) : a.tmps[t]? = a'.tmps[t]? := by
  by_cases hx : ∃ j o, l[j]? = some o ∧ o.dst = some t ∧ S j = true
  · obtain ⟨j, o, hj, ht, hs⟩ := hx
    rw [h.done j o t hj ht hs, h'.done j o t hj ht (by rw [← hS j o hj ht]; exact hs)]
  · have hn : ∀ j o, l[j]? = some o → o.dst = some t → S j = false := fun j o hj ht => by
      cases hs : S j
      · rfl
      · exact absurd ⟨j, o, hj, ht, hs⟩ hx
    rw [h.rest t hn, h'.rest t fun j o hj ht => by rw [← hS j o hj ht]; exact hn j o hj ht]
theorem Shape.ext {S S' : Nat → Bool} {a a' : Act} (h : Shape l v a0 S a) (h' : Shape l v a0 S' a') (hS : ∀ j o, l[j]? = some o → S j = S' j) : a = a' := by
  have ht : a.tmps = a'.tmps := Array.ext_getElem? fun t => h.same h' fun j o hj _ => hS j o hj
  have hd : a.defers = a'.defers := h.defers.trans h'.defers.symm
  cases a; cases a'; simp_all
theorem Shape.congr {S S' : Nat → Bool} {a : Act} (h : Shape l v a0 S a) (hS : ∀ j o, l[j]? = some o → S j = S' j) : Shape l v a0 S' a :=
  ⟨h.size, h.defers, fun j o t hj ht hs => h.done j o t hj ht (by rw [hS j o hj]; exact hs), fun t ht => h.rest t fun j o hj hd => by rw [hS j o hj]; exact ht j o hj hd⟩
theorem Run.shape {P : Program} {A : Nat → Act} {C : Nat → World → Prop} (hr : Run P l A C v) (hd : Distinct l) : ∀ k, k ≤ l.length → Shape l v (A 0) (fun j => decide (j < k)) (A k)
  | 0, _ => Shape.start.congr fun j o _ => by simp
  | k + 1, hk => by
    have ho : l[k]? = some (l[k]'(by omega)) := List.getElem?_eq_getElem (by omega)
    rw [hr.act k _ ho]
    refine ((Run.shape hr hd k (by omega)).put hd ho).congr fun j o _ => ?_
    rw [Bool.eq_iff_iff]; simp; omega
end

/-- Does i wait for j? As the table says. -/
def tb (b : Array Nat) (i j : Nat) : Bool := (b.getD i 0).testBit j
def pairB (l : List Oper) (b : Array Nat) (i j : Nat) : Bool :=
  match l[i]?, l[j]? with
  | some oi, some oj =>
    (!(tb b i j) || oi.after.any fun e => Region.binds .any e && (e.on == j || tb b e.on j)) &&
    (i == j || ((match oi.dst, oj.dst with | some d, some d' => d != d' | _, _ => true) &&
      (match oj.dst with | some d => !(oi.looksAt l.toArray).contains d || (if j < i then tb b i j else tb b j i) | none => true) &&
      (!isStore oj || isFree oi || (if j < i then tb b i j else tb b j i))))
  | _, _ => true
def oneB (l : List Oper) (i : Nat) : Bool :=
  match l[i]? with
  | some o => o.guard.isNone && !(isStore o && isFree o) && o.after.all fun e => !Region.binds .any e || decide (e.on < i)
  | none => true
def okB (l : List Oper) : Bool :=
  Region.noSelect l.toArray && ((List.range l.length).all fun i => oneB l i && (List.range l.length).all fun j => pairB l (Region.before l.toArray) i j)

structure Ok (l : List Oper) (cl : Nat → Nat → Bool) : Prop where
  sel : Region.noSelect l.toArray = true
  guard : ∀ (i : Nat) (o : Oper), l[i]? = some o → o.guard = none
  down : ∀ (i : Nat) (o : Oper), l[i]? = some o → ∀ e ∈ o.after, Region.binds .any e = true → e.on < i
  cert : ∀ (i j : Nat) (o oj : Oper), l[i]? = some o → l[j]? = some oj → cl i j = true → ∃ e ∈ o.after, Region.binds .any e = true ∧ (e.on = j ∨ cl e.on j = true)
  dist : Distinct l
  looks : ∀ (i j : Nat) (oi oj : Oper) (t : Tmp), l[i]? = some oi → l[j]? = some oj → i ≠ j → oj.dst = some t → t ∈ oi.looksAt l.toArray → (if j < i then cl i j else cl j i) = true
  store : ∀ (i j : Nat) (oi oj : Oper), l[i]? = some oi → l[j]? = some oj → i ≠ j → isStore oj = true → isFree oi = false → (if j < i then cl i j else cl j i) = true
theorem Ok.of (l : List Oper) (h : okB l = true) : Ok l (tb (Region.before l.toArray)) := by
  simp only [okB, Bool.and_eq_true] at h
  obtain ⟨h0, h⟩ := h
  have h1 : ∀ i o, l[i]? = some o → oneB l i = true ∧ ∀ j oj, l[j]? = some oj → pairB l (Region.before l.toArray) i j = true := fun i o ho => by
    have hi : i < l.length := (List.getElem?_eq_some_iff.1 ho).1
    have := List.all_eq_true.1 h i (List.mem_range.2 hi)
    simp only [Bool.and_eq_true] at this
    exact ⟨this.1, fun j oj hj => List.all_eq_true.1 this.2 j (List.mem_range.2 (List.getElem?_eq_some_iff.1 hj).1)⟩
  have one : ∀ i o, l[i]? = some o → (o.guard.isNone = true ∧ (!(isStore o && isFree o)) = true) ∧ (o.after.all fun e => !Region.binds .any e || decide (e.on < i)) = true := fun i o ho => by
    have := (h1 i o ho).1
    simp only [oneB, ho, Bool.and_eq_true] at this
    exact this
  have two : ∀ i j oi oj, l[i]? = some oi → l[j]? = some oj →
      (!(tb (Region.before l.toArray) i j) || oi.after.any fun e => Region.binds .any e && (e.on == j || tb (Region.before l.toArray) e.on j)) = true ∧
      (i == j || ((match oi.dst, oj.dst with | some d, some d' => d != d' | _, _ => true) &&
      (match oj.dst with | some d => !(oi.looksAt l.toArray).contains d || (if j < i then tb (Region.before l.toArray) i j else tb (Region.before l.toArray) j i) | none => true) &&
      (!isStore oj || isFree oi || (if j < i then tb (Region.before l.toArray) i j else tb (Region.before l.toArray) j i)))) = true := fun i j oi oj hi hj => by
    have := (h1 i oi hi).2 j oj hj
    simp only [pairB, hi, hj, Bool.and_eq_true] at this
    exact this
  refine ⟨h0, fun i o ho => by simpa using (one i o ho).1.1, fun i o ho e he hb => ?_, fun i j o oj hi hj hc => ?_, fun i j oi oj t hi hj hdi hdj => ?_, fun i j oi oj t hi hj hne hdj ht => ?_, fun i j oi oj hi hj hne hs hf => ?_⟩
  · have := (Array.all_eq_true_iff_forall_mem.1 (one i o ho).2) e he
    simpa [hb] using this
  · have := (two i j o oj hi hj).1
    rw [hc] at this
    simp at this
    obtain ⟨k, hk, h1, h2⟩ := this
    exact ⟨o.after[k], Array.getElem_mem hk, h1, h2⟩
  · by_cases hij : i = j
    · exact hij
    · have := (two i j oi oj hi hj).2
      simp [hij, hdi, hdj] at this
  · have := (two i j oi oj hi hj).2
    simp only [Bool.or_eq_true, beq_iff_eq, Bool.and_eq_true, hne, false_or, hdj] at this
    have h2 := this.1.2
    rcases h2 with h2 | h2
    · simp at h2; exact absurd ht h2
    · exact h2
  · have := (two i j oi oj hi hj).2
    simp only [Bool.or_eq_true, beq_iff_eq, Bool.and_eq_true, hne, false_or] at this
    rcases this.2 with (h2 | h2) | h2
    · simp [hs] at h2
    · rw [hf] at h2; cases h2
    · exact h2

/-- How many have not been. -/
def unl (f : Nat → Bool) : Nat → Nat
  | 0 => 0
  | k + 1 => unl f k + (if f k then 0 else 1)
theorem unl_le (f : Nat → Bool) : ∀ n, unl f n ≤ n
  | 0 => Nat.le_refl _
  | n + 1 => by have := unl_le f n; unfold unl; split <;> omega
theorem unl_zero {f : Nat → Bool} : ∀ {n}, unl f n = 0 → ∀ i, i < n → f i = true
  | 0, _, i, h => absurd h (by omega)
  | n + 1, h, i, hi => by
    unfold unl at h
    by_cases hfn : f n = true
    · rw [if_pos hfn] at h
      by_cases hin : i = n
      · rw [hin]; exact hfn
      · exact unl_zero (n := n) (by omega) i (by omega)
    · rw [if_neg hfn] at h; omega
theorem unl_congr {f g : Nat → Bool} : ∀ {n}, (∀ i, i < n → f i = g i) → unl f n = unl g n
  | 0, _ => rfl
  | n + 1, h => by unfold unl; rw [unl_congr (n := n) fun i hi => h i (by omega), h n (by omega)]
theorem unl_set {f g : Nat → Bool} {i : Nat} (h0 : f i = false) (h1 : g i = true) (ho : ∀ j, j ≠ i → g j = f j) : ∀ {n}, i < n → unl g n + 1 = unl f n
  | 0, h => absurd h (by omega)
  | n + 1, h => by
    unfold unl
    by_cases hin : i = n
    · subst hin
      rw [unl_congr (n := i) fun j hj => ho j (by omega), h0, h1]; simp
    · have := unl_set h0 h1 ho (n := n) (by omega)
      rw [ho n (by omega)]; omega

structure Inv (l : List Oper) (v : Nat → Value) (a0 : Act) (C : Nat → World → Prop) (listed : Array Bool) (a : Act) (w : World) : Prop where
  size : listed.size = l.length
  closed : ∀ (i : Nat) (o : Oper), l[i]? = some o → listed.getD i false = true → ∀ e ∈ o.after, Region.binds .any e = true → listed.getD e.on false = true
  shape : Shape l v a0 (fun j => listed.getD j false) a
  world : ∀ i, i ≤ l.length → (∀ (j : Nat) (o : Oper), l[j]? = some o → isStore o = true → listed.getD j false = decide (j < i)) → C i w

section
variable {P : Program} {l : List Oper} {A : Nat → Act} {C : Nat → World → Prop} {v : Nat → Value} {cl : Nat → Nat → Bool} {listed : Array Bool} {a : Act} {w : World}
theorem Inv.down (ok : Ok l cl) (h : Inv l v (A 0) C listed a w) : ∀ (n i j : Nat), i < n → (∃ o, l[i]? = some o) → (∃ o, l[j]? = some o) → cl i j = true → listed.getD i false = true → listed.getD j false = true
  | 0, _, _, hi, _, _, _, _ => absurd hi (by omega)
  | n + 1, i, j, hi, ⟨o, ho⟩, ⟨oj, hj⟩, hc, hl => by
    obtain ⟨e, he, hb, h'⟩ := ok.cert i j o oj ho hj hc
    have h1 := h.closed i o ho hl e he hb
    rcases h' with rfl | h'
    · exact h1
    · have hd := ok.down i o ho e he hb
      have hlt : i < l.length := (List.getElem?_eq_some_iff.1 ho).1
      exact Inv.down ok h n e.on j (by omega) ⟨_, List.getElem?_eq_getElem (show e.on < l.length by omega)⟩ ⟨oj, hj⟩ h' h1
/-- What stands between stores is one class. -/
theorem Run.between (hr : Run P l A C v) {i : Nat} : ∀ (d k : Nat), k = i + d → k ≤ l.length → (∀ (j : Nat) (o : Oper), l[j]? = some o → isStore o = true → i ≤ j → j < k → False) → C k = C i
  | 0, k, hk, _, _ => by rw [hk]; rfl
  | d + 1, k, hk, hl, hn => by
    have ih := Run.between hr d (k - 1) (by omega) (by omega) (fun j o hj hs h1 h2 => hn j o hj hs h1 (by omega))
    have ho : l[k - 1]? = some (l[k - 1]'(by omega)) := List.getElem?_eq_getElem (by omega)
    have hs : isStore (l[k - 1]'(by omega)) = false := by
      cases h : isStore (l[k - 1]'(by omega))
      · rfl
      · exact (hn _ _ ho h (by omega) (by omega)).elim
    have e : k - 1 + 1 = k := by omega
    cases hf : isFree (l[k - 1]'(by omega))
    · have := (hr.read _ _ ho hs hf).1; rw [e] at this; rw [this, ih]
    · have := (hr.free _ _ ho hs hf).1; rw [e] at this; rw [this, ih]
theorem Run.one (hr : Run P l A C v) {f : Nat → Bool} {i k : Nat} (hi : i ≤ l.length) (hk : k ≤ l.length) (h1 : ∀ (j : Nat) (o : Oper), l[j]? = some o → isStore o = true → f j = decide (j < i)) (h2 : ∀ (j : Nat) (o : Oper), l[j]? = some o → isStore o = true → f j = decide (j < k)) : C k = C i := by
  rcases Nat.le_total i k with h | h
  · exact hr.between (k - i) k (by omega) hk fun j o hj hs ha hb => by
      have e1 := h1 j o hj hs; have e2 := h2 j o hj hs
      rw [e1] at e2; simp at e2; omega
  · exact (hr.between (i - k) i (by omega) hi fun j o hj hs ha hb => by
      have e1 := h1 j o hj hs; have e2 := h2 j o hj hs
      rw [e1] at e2; simp at e2; omega).symm

theorem Inv.step (hr : Run P l A C v) (ok : Ok l cl) (h : Inv l v (A 0) C listed a w) {Q : Exit → Act → World → Prop} {i : Nat} (hi : i ∈ Region.ready .any l.toArray listed) :
    wpOp P l.toArray Q i (fun a' w' => Inv l v (A 0) C (listed.setIfInBounds i true) a' w') a w := by
  obtain ⟨hun, o, ho', hdeps⟩ := mem_ready.1 hi
  have ho : l[i]? = some o := by simpa using ho'
  have hil : i < l.length := (List.getElem?_eq_some_iff.1 ho).1
  have his : i < listed.size := by rw [h.size]; exact hil
  have hun' : listed.getD i false = false := by simp [his] at hun ⊢; exact hun
  -- who is waited for has been; who waits has not
  have before : ∀ j oj, l[j]? = some oj → cl i j = true → listed.getD j false = true := fun j oj hj hc => by
    obtain ⟨e, he, hb, h'⟩ := ok.cert i j o oj ho hj hc
    have h1 := hdeps e he hb
    rcases h' with rfl | h'
    · exact h1
    · have hd := ok.down i o ho e he hb
      exact h.down ok l.length e.on j (by omega) ⟨_, List.getElem?_eq_getElem (show e.on < l.length by omega)⟩ ⟨oj, hj⟩ h' h1
  have behind : ∀ j oj, l[j]? = some oj → cl j i = true → listed.getD j false = false := fun j oj hj hc => by
    cases hl : listed.getD j false
    · rfl
    · have hjl : j < l.length := (List.getElem?_eq_some_iff.1 hj).1
      have := h.down ok l.length j i hjl ⟨oj, hj⟩ ⟨o, ho⟩ hc hl
      rw [hun'] at this; cases this
  have exec : execOp a.eval o = execOp (A i).eval o := execOp_congr o (fun cs b => Region.noSelect_spec ok.sel i o cs b ho') fun x hx => by
    cases x with
    | tmp t =>
      have ht : t ∈ o.looksAt l.toArray := List.mem_append_left _ (List.mem_filterMap.2 ⟨.tmp t, by simpa using hx, rfl⟩)
      have e := h.shape.same (hr.shape ok.dist i (by omega)) (t := t) fun j oj hj hd => by
        by_cases hji : j = i
        · subst hji; rw [hun']; simp
        · have hc := ok.looks i j o oj t ho hj (fun e => hji e.symm) hd ht
          by_cases hlt : j < i
          · rw [if_pos hlt] at hc; rw [before j oj hj hc]; simp [hlt]
          · rw [if_neg hlt] at hc; rw [behind j oj hj hc]; simp [hlt]
      simp only [Act.eval, Array.getD_eq_getD_getElem?, e]
    | const => rfl
    | global => rfl
    | func => rfl
  have hg := ok.guard i o ho
  have getset : ∀ j, (listed.setIfInBounds i true).getD j false = (listed.getD j false || j == i) := fun j => by
    by_cases hji : j = i
    · subst hji; simp [his]
    · rw [getD_set_ne false (fun e => hji e.symm)]; simp [hji]
  -- what is left of the invariant, whatever comes of the world
  have next : ∀ w', (∀ k, k ≤ l.length → (∀ (j : Nat) (oj : Oper), l[j]? = some oj → isStore oj = true → (listed.getD j false || j == i) = decide (j < k)) → C k w') → Inv l v (A 0) C (listed.setIfInBounds i true) (a.put o.dst (v i)) w' := fun w' hw => by
    refine ⟨by simp [h.size], fun j oj hj hl e he hb => ?_, (h.shape.put ok.dist ho).congr fun j oj hj => (getset j).symm, fun k hk hst => hw k hk fun j oj hj hs => by rw [← getset j]; exact hst j oj hj hs⟩
    rw [getset] at hl ⊢
    simp only [Bool.or_eq_true, beq_iff_eq] at hl ⊢
    rcases hl with hl | rfl
    · exact .inl (h.closed j oj hj hl e he hb)
    · rw [ho] at hj; injection hj with hj; subst hj; exact .inl (hdeps e he hb)
  unfold wpOp
  simp only [ho', Region.wanted, hg, if_true]
  refine .inl ?_
  cases hs : isStore o
  · cases hf : isFree o
    · -- a read, a call
      have here : ∀ (j : Nat) (oj : Oper), l[j]? = some oj → isStore oj = true → listed.getD j false = decide (j < i) := fun j oj hj hsj => by
        have hji : j ≠ i := fun e => by subst e; rw [ho] at hj; injection hj with hj; subst hj; rw [hs] at hsj; cases hsj
        have hc := ok.store i j o oj ho hj (fun e => hji e.symm) hsj hf
        by_cases hlt : j < i
        · rw [if_pos hlt] at hc; rw [before j oj hj hc]; simp [hlt]
        · rw [if_neg hlt] at hc; rw [behind j oj hj hc]; simp [hlt]
      have hw := h.world i (by omega) here
      refine (((hr.read i o ho hs hf).2 w hw).congr exec).wp fun w' hw' => next w' fun k hk hst => ?_
      have hst' : ∀ (j : Nat) (oj : Oper), l[j]? = some oj → isStore oj = true → listed.getD j false = decide (j < k) := fun j oj hj hsj => by
        have hji : j ≠ i := fun e => by subst e; rw [ho] at hj; injection hj with hj; subst hj; rw [hs] at hsj; cases hsj
        have := hst j oj hj hsj; rw [show (j == i) = false from by simpa using hji, Bool.or_false] at this; exact this
      rw [hr.one (f := fun j => listed.getD j false) (by omega) hk here hst']; exact hw'
    · -- nothing of the world
      refine (((hr.free i o ho hs hf).2 w).congr exec).wp fun w' hw' => next w' fun k hk hst => ?_
      subst hw'
      refine h.world k hk fun j oj hj hsj => ?_
      have hji : j ≠ i := fun e => by subst e; rw [ho] at hj; injection hj with hj; subst hj; rw [hs] at hsj; cases hsj
      have := hst j oj hj hsj; rw [show (j == i) = false from by simpa using hji, Bool.or_false] at this; exact this
  · -- a store
    have hf : isFree o = false := by
      unfold isStore at hs; unfold isFree
      cases hop : o.op <;> simp_all
    have here : ∀ (j : Nat) (oj : Oper), l[j]? = some oj → isStore oj = true → listed.getD j false = decide (j < i) := fun j oj hj hsj => by
      by_cases hji : j = i
      · subst hji; rw [hun']; simp
      · have hc := ok.store i j o oj ho hj (fun e => hji e.symm) hsj hf
        by_cases hlt : j < i
        · rw [if_pos hlt] at hc; rw [before j oj hj hc]; simp [hlt]
        · rw [if_neg hlt] at hc; rw [behind j oj hj hc]; simp [hlt]
    have hw := h.world i (by omega) here
    obtain ⟨hv, hgv⟩ := hr.store i o ho hs
    have hgv := hgv w hw
    rw [← hv] at hgv
    refine (hgv.congr exec).wp fun w' hw' => next w' fun k hk hst => ?_
    have h1 : ∀ (j : Nat) (oj : Oper), l[j]? = some oj → isStore oj = true → (listed.getD j false || j == i) = decide (j < i + 1) := fun j oj hj hsj => by
      rw [here j oj hj hsj, Bool.eq_iff_iff]; simp; omega
    rw [hr.one (f := fun j => listed.getD j false || j == i) (by omega) hk h1 hst]; exact hw'

theorem Inv.all_ (hr : Run P l A C v) (ok : Ok l cl) {Q : Exit → Act → World → Prop} (hQ : ∀ w, C l.length w → Q .normal (A l.length) w) : ∀ (n : Nat) (listed : Array Bool) (a : Act) (w : World), Inv l v (A 0) C listed a w → unl (fun i => listed.getD i false) l.length ≤ n →
    wpAny P .any l.toArray Q n listed a w := by
  have last : ∀ (listed : Array Bool) (a : Act) (w : World), Inv l v (A 0) C listed a w → (∀ i, i < l.length → listed.getD i false = true) → Q .normal a w := fun listed a w h hall => by
    have e : a = A l.length := h.shape.ext (hr.shape ok.dist l.length (Nat.le_refl _)) fun j o hj => by
      have hjl : j < l.length := (List.getElem?_eq_some_iff.1 hj).1
      rw [hall j hjl]; simp [hjl]
    rw [e]
    exact hQ w (h.world l.length (Nat.le_refl _) fun j o hj _ => by
      have hjl : j < l.length := (List.getElem?_eq_some_iff.1 hj).1
      rw [hall j hjl]; simp [hjl])
  intro n
  induction n with
  | zero =>
    intro listed a w h hn
    have hall := unl_zero (f := fun i => listed.getD i false) (n := l.length) (by omega)
    refine ⟨?_, last listed a w h hall⟩
    cases hr' : Region.ready .any l.toArray listed with
    | nil => rfl
    | cons i is =>
      have hi : i ∈ Region.ready .any l.toArray listed := by rw [hr']; simp
      obtain ⟨hun, o, ho', _⟩ := mem_ready.1 hi
      have hil : i < l.length := by have := (Array.getElem?_eq_some_iff.1 ho').1; simpa using this
      have := hall i hil
      have his : i < listed.size := by rw [h.size]; exact hil
      simp [his] at hun this
      rw [this] at hun; cases hun
  | succ n ih =>
    intro listed a w h hn
    refine ⟨fun hr' => last listed a w h fun i hi => ?_, fun i hi => ?_⟩
    · induction i using Nat.strongRecOn with
      | _ i ihi =>
        cases hu : listed.getD i false
        · have ho : l[i]? = some (l[i]'hi) := List.getElem?_eq_getElem hi
          have : i ∈ Region.ready .any l.toArray listed := mem_ready.2 ⟨by
            have his : i < listed.size := by rw [h.size]; exact hi
            simp [his] at hu ⊢; exact hu, _, (by rw [List.getElem?_toArray]; exact ho), fun e he hb => by
            have hd := ok.down i _ ho e he hb
            exact ihi e.on hd (by omega)⟩
          rw [hr'] at this; cases this
        · rfl
    · refine wpOp_mono (fun a' w' h' => ih _ a' w' h' ?_) (h.step hr ok hi)
      obtain ⟨hun, o, ho', _⟩ := mem_ready.1 hi
      have hil : i < l.length := by have := (Array.getElem?_eq_some_iff.1 ho').1; simpa using this
      have his : i < listed.size := by rw [h.size]; exact hil
      have := unl_set (f := fun i => listed.getD i false) (g := fun j => (listed.setIfInBounds i true).getD j false) (i := i) (by simp [his] at hun ⊢; exact hun) (by simp [his]) (fun j hj => getD_set_ne false (fun e => hj e.symm)) hil
      omega

/-- **One walk serves every order.** -/
theorem wp_region_lex {id : Nat} {Q : Exit → Act → World → Prop} (hm : P.follows .mixedOrders = true) (hB : okB l = true) (C0 : World → Prop) (hC : C0 w.drew)
    (h : wpLex P (fun a' C' => ∀ w', C' w' → Q .normal a' w') l a C0) : (Code.region id l.toArray true).wp P Q a w := by
  obtain ⟨A, Cs, v, hr, hA, hC0, hQ⟩ := run_of_lex l a C0 h
  have ok := Ok.of l hB
  refine wp_region_any hm ?_
  have hinv : Inv l v (A 0) Cs (Array.replicate l.toArray.size false) a w.drew := by
    have hg : ∀ i, (Array.replicate l.length false).getD i false = false := fun i => by
      by_cases hi : i < l.length <;> simp [hi]
    refine ⟨by simp, fun i o ho hl => ?_, ?_, fun i hi hst => ?_⟩
    · simp only [List.size_toArray] at hl; rw [hg i] at hl; cases hl
    · rw [hA]; exact Shape.start.congr fun j o _ => by simp only [List.size_toArray]; rw [hg j]
    · have e : Cs i = Cs 0 := hr.between i i (by omega) hi fun j o hj hs h0 hlt => by
        have := hst j o hj hs
        simp only [List.size_toArray] at this
        rw [hg j] at this; simp at this; omega
      rw [e, hC0]; exact hC
  have := Inv.all_ hr ok (Q := Q) hQ l.toArray.size _ _ _ hinv (by have := unl_le (fun i => (Array.replicate l.toArray.size false).getD i false) l.length; simpa using this)
  exact this
end

def one (W : World) : World → Prop := fun w => w = W
section
variable {P : Program} {Q : Act → (World → Prop) → Prop} {o : Oper} {rest : List Oper} {a : Act} {C : World → Prop} {W : World}
theorem lex_free (hs : isStore o = false) (hf : isFree o = true) {v : Value} (hrun : ∀ w, (execOp a.eval o).run P w = .ok (.value v) w) (h : wpLex P Q rest (a.put o.dst v) C) : wpLex P Q (o :: rest) a C := by
  unfold wpLex
  rw [if_neg (by simp [hs]), if_pos hf]
  exact ⟨v, fun w => by unfold Gives; rw [hrun w]; exact ⟨rfl, rfl⟩, h⟩
theorem lex_load (hs : isStore o = false) (hf : isFree o = false) {v : Value} (hrun : (execOp a.eval o).run P W = .ok (.value v) W) (h : wpLex P Q rest (a.put o.dst v) (one W)) : wpLex P Q (o :: rest) a (one W) := by
  unfold wpLex
  rw [if_neg (by simp [hs]), if_neg (by simp [hf])]
  exact ⟨v, fun w hw => by cases hw; unfold Gives; rw [hrun]; exact ⟨rfl, rfl⟩, h⟩
theorem lex_call (hs : isStore o = false) (hf : isFree o = false) {v : Value} {f : FuncId} {args : Array Value} (hrun : (execOp a.eval o).run P W = .ok (.enter f args) W) (hc : Calls P f args W fun e w' => e = .returned v ∧ W = w')
    (h : wpLex P Q rest (a.put o.dst v) (one W)) : wpLex P Q (o :: rest) a (one W) := by
  unfold wpLex
  rw [if_neg (by simp [hs]), if_neg (by simp [hf])]
  exact ⟨v, fun w hw => by cases hw; unfold Gives; rw [hrun]; exact hc.mono fun e w' ⟨he, hw⟩ => ⟨he, hw.symm⟩, h⟩
theorem lex_store (hs : isStore o = true) {W' : World} (hrun : (execOp a.eval o).run P W = .ok .skip W') (h : wpLex P Q rest (a.put o.dst undef) (one W')) : wpLex P Q (o :: rest) a (one W) := by
  unfold wpLex
  rw [if_pos hs]
  exact ⟨one W', fun w hw => by cases hw; unfold Gives; rw [hrun]; exact ⟨rfl, rfl⟩, h⟩
theorem lex_end {Q : Exit → Act → World → Prop} (h : Q .normal a W) : wpLex P (fun a' C' => ∀ w', C' w' → Q .normal a' w') [] a (one W) := fun w' hw => by cases hw; exact h
theorem lex_region {id : Nat} {l : List Oper} {Q : Exit → Act → World → Prop} (hm : P.follows .mixedOrders = true) (hB : okB l = true) (h : wpLex P (fun a' C' => ∀ w', C' w' → Q .normal a' w') l a (one W.drew)) : (Code.region id l.toArray true).wp P Q a W :=
  wp_region_lex hm hB (one W.drew) rfl h
end
end Ro
namespace Go.Proofs.YtiahpncglpfjeaaGreat
open Go.RowKit
set_option linter.unusedVariables false

set_option maxHeartbeats 400000 in
theorem isslot_any (i : Int) (wi : -9223372036854775808 ≤ i ∧ i ≤ 9223372036854775807) (w : World) :
    Calls Tryz.prog 91 #[.int .i64 i] w fun e w' => e = .returned (.bool (decide (0 ≤ i) && decide (i < 8))) ∧ w = w' := by
  go_enter Tryz.func91, Tryz.ntmps91
  go_wp2
  all_goals
    go_ret
    exact ⟨ret_bool (by rw [Bool.eq_iff_iff]; simp; omega), rfl⟩

theorem wrap_in {x : Int} (h : Gm.inF x) : Gf.wrap x = x := by unfold Gm.inF at h; unfold Gf.wrap; omega
set_option maxHeartbeats 400000 in
theorem there_yes (x y : Int) (hx : Gm.inF x) (hy : Gm.inF y) (w : World) :
    Calls Tryz.prog 87 #[.int .i32 x, .int .i32 y] w fun e w' => e = .returned (.bool true) ∧ Below w.heap.size w w' := by
  have c1 := fun X => Lib.hid (fldwrap_any x (by unfold Gm.inF at hx; omega) X)
  have c2 := fun X => Lib.hid (fldwrap_any y (by unfold Gm.inF at hy; omega) X)
  rw [wrap_in hx] at c1
  rw [wrap_in hy] at c2
  go_enter Tryz.func87, Tryz.ntmps87
  go_wp2_with (go_at_call 121; first | ((with_reducible refine ((c1 _).out).mono ?_); rintro e w1 ⟨rfl, hb1⟩; clear c1) | ((with_reducible refine ((c2 _).out).mono ?_); rintro e w2 ⟨rfl, hb2⟩))
  go_ret
  exact ⟨rfl, hb1.trans (hb2.mono hb1.size)⟩

theorem clamp_in {a m : Int} (h : Gm.slow a m) : Fx.clamp a (-m) m = a := by unfold Gm.slow at h; unfold Fx.clamp; omega
set_option maxHeartbeats 400000 in
theorem within_yes (x y m : Int) (hm : 0 ≤ m ∧ m ≤ 1000000) (hx : Gm.slow x m) (hy : Gm.slow y m) (w : World) :
    Calls Tryz.prog 88 #[.int .i32 x, .int .i32 y, .int .i32 m] w fun e w' => e = .returned (.bool true) ∧ Below w.heap.size w w' := by
  have c1 := fun X => Lib.hid (clamp_any x (-m) m (by unfold Gm.slow at hx; omega) (by omega) (by omega) X)
  have c2 := fun X => Lib.hid (clamp_any y (-m) m (by unfold Gm.slow at hy; omega) (by omega) (by omega) X)
  rw [clamp_in hx] at c1
  rw [clamp_in hy] at c2
  go_enter Tryz.func88, Tryz.ntmps88
  go_wp2_with (go_at_call 122; first | ((with_reducible refine ((c1 _).out).mono ?_); rintro e w1 ⟨rfl, hb1⟩; clear c1) | ((with_reducible refine ((c2 _).out).mono ?_); rintro e w2 ⟨rfl, hb2⟩))
  go_ret
  exact ⟨rfl, hb1.trans (hb2.mono hb1.size)⟩

set_option maxRecDepth 100000 in
set_option maxHeartbeats 1000000 in
theorem mayship_yes (s : Gm.Ship) (h : Gm.okShip s) (w : World) :
    Calls Tryz.prog 51 #[.agg s.cells.toArray] w fun e w' => e = .returned (.bool true) ∧ Below w.heap.size w w' := by
  obtain ⟨on, x, y, vx, vy, cool, score⟩ := s
  obtain ⟨o1, o2, o3, o4, o5, o6, o7, o8, o9⟩ := h
  dsimp only at o1 o2 o3 o4 o5 o6 o7 o8 o9
  simp only [Gm.Ship.cells]
  rcases o1 with rfl | o1
  · have c1 := fun X => Lib.hid (there_yes x y o2 o3 X)
    have c2 := fun X => Lib.hid (within_yes vx vy 524288 (by omega) o4 o5 X)
    clear o2 o3 o4 o5
    go_enter Tryz.func51, Tryz.ntmps51
    go_wp2_with (first | (go_at_call 87; ((with_reducible refine ((c1 _).out).mono ?_); rintro e w1 ⟨rfl, hb1⟩; have B1 := (Box.made w 24 #[.bool true, .int .i32 x, .int .i32 y, .int .i32 vx, .int .i32 vy, .int .i64 cool, .int .i64 score]).below hb1 (by simp); have K1 := B1.cell)) | (go_at_call 88; ((with_reducible refine ((c2 _).out).mono ?_); rintro e w2 ⟨rfl, hb2⟩; have B2 := B1.below hb2 B1.lt; have K2 := B2.cell; clear K1)))
    go_ret
    exact ⟨rfl, ((one_below w _).trans (hb1.mono (by simp))).trans (hb2.mono (by have := hb1.size; simp at this; omega))⟩
  · injection o1 with z1 z2 z3 z4 z5 z6 z7
    subst z1 z2 z3 z4 z5 z6 z7
    clear o2 o3 o4 o5
    go_enter Tryz.func51, Tryz.ntmps51
    go_wp2
    go_ret
    exact ⟨rfl, one_below _ _⟩

set_option maxRecDepth 100000 in
set_option maxHeartbeats 1000000 in
theorem mayshot_yes (s : Gm.Shot) (h : Gm.okShot s) (w : World) :
    Calls Tryz.prog 53 #[.agg s.cells.toArray] w fun e w' => e = .returned (.bool true) ∧ Below w.heap.size w w' := by
  obtain ⟨owner, x, y, vx, vy, left⟩ := s
  obtain ⟨o1, o2, o3, o4, o5, o6, o7, o8⟩ := h
  dsimp only at o1 o2 o3 o4 o5 o6 o7 o8
  simp only [Gm.Shot.cells]
  have c0 := fun X => Lib.hid (isslot_any owner (by omega) X)
  rw [decide_eq_true o1, decide_eq_true o2, Bool.and_self] at c0
  have c1 := fun X => Lib.hid (there_yes x y o3 o4 X)
  have c2 := fun X => Lib.hid (within_yes vx vy 393216 (by omega) o5 o6 X)
  clear o3 o4 o5 o6
  go_enter Tryz.func53, Tryz.ntmps53
  go_wp2_with (first | (go_at_call 91; ((with_reducible refine ((c0 _).out).mono ?_); rintro e w0 ⟨rfl, rfl⟩)) | (go_at_call 87; ((with_reducible refine ((c1 _).out).mono ?_); rintro e w1 ⟨rfl, hb1⟩; have B1 := (Box.made w 90 #[.int .i64 owner, .int .i32 x, .int .i32 y, .int .i32 vx, .int .i32 vy, .int .i64 left]).below hb1 (by simp); have K1 := B1.cell)) | (go_at_call 88; ((with_reducible refine ((c2 _).out).mono ?_); rintro e w2 ⟨rfl, hb2⟩; have B2 := B1.below hb2 B1.lt; have K2 := B2.cell; clear K1)))
  go_ret
  exact ⟨rfl, ((one_below w _).trans (hb1.mono (by simp))).trans (hb2.mono (by have := hb1.size; simp at this; omega))⟩
end Go.Proofs.YtiahpncglpfjeaaGreat
namespace Go.Proofs.YtiahpncglpfjeaaGreat
open Go.RowKit
set_option linter.unusedVariables false

theorem shipCells_at (f : Nat → Gm.Ship) (k j : Nat) (hk : k < 8) (hj : j < 7) : (Gm.shipCells f)[k * 7 + j]? = (f k).cells[j]? := by
  match k, hk with
  | 0, _ => match j, hj with | 0, _ | 1, _ | 2, _ | 3, _ | 4, _ | 5, _ | 6, _ => rfl
  | 1, _ => match j, hj with | 0, _ | 1, _ | 2, _ | 3, _ | 4, _ | 5, _ | 6, _ => rfl
  | 2, _ => match j, hj with | 0, _ | 1, _ | 2, _ | 3, _ | 4, _ | 5, _ | 6, _ => rfl
  | 3, _ => match j, hj with | 0, _ | 1, _ | 2, _ | 3, _ | 4, _ | 5, _ | 6, _ => rfl
  | 4, _ => match j, hj with | 0, _ | 1, _ | 2, _ | 3, _ | 4, _ | 5, _ | 6, _ => rfl
  | 5, _ => match j, hj with | 0, _ | 1, _ | 2, _ | 3, _ | 4, _ | 5, _ | 6, _ => rfl
  | 6, _ => match j, hj with | 0, _ | 1, _ | 2, _ | 3, _ | 4, _ | 5, _ | 6, _ => rfl
  | 7, _ => match j, hj with | 0, _ | 1, _ | 2, _ | 3, _ | 4, _ | 5, _ | 6, _ => rfl
/-- The seven cells of a ship, as a walk spells them. -/
theorem ships_at {w : World} {B : Nat} {A : Option Addr} {f : Nat → Gm.Ship} (h : Lies w B 7 A 8 (Gm.shipCells f)) (k : Nat) (hk : k < 8) :
    ∃ ad, A = some ad ∧ ad.block < B ∧ w.cell? (ad.add (k * 7)) = some (.bool (f k).on) ∧ w.cell? ⟨(ad.add (k * 7)).block, (ad.add (k * 7)).off + 1, none⟩ = some (.int .i32 (f k).x) ∧
      w.cell? ⟨(ad.add (k * 7)).block, (ad.add (k * 7)).off + 2, none⟩ = some (.int .i32 (f k).y) ∧ w.cell? ⟨(ad.add (k * 7)).block, (ad.add (k * 7)).off + 3, none⟩ = some (.int .i32 (f k).vx) ∧
      w.cell? ⟨(ad.add (k * 7)).block, (ad.add (k * 7)).off + 4, none⟩ = some (.int .i32 (f k).vy) ∧ w.cell? ⟨(ad.add (k * 7)).block, (ad.add (k * 7)).off + 5, none⟩ = some (.int .i64 (f k).cool) ∧
      w.cell? ⟨(ad.add (k * 7)).block, (ad.add (k * 7)).off + 6, none⟩ = some (.int .i64 (f k).score) := by
  obtain ⟨ad, e, hb⟩ := h.start (by omega)
  have hc := h.cell ad e (by omega)
  have hj : ∀ j v, j < 7 → (f k).cells[j]? = some v → w.cell? ((ad.add (k * 7)).add j) = some v := fun j v hj hv => by
    rw [add_twice]
    exact hc _ _ ((shipCells_at f k j hk hj).trans hv)
  refine ⟨ad, e, hb, ?_, ?_, ?_, ?_, ?_, ?_, ?_⟩
  · have := hj 0 _ (by omega) rfl; rwa [show (ad.add (k * 7)).add 0 = ad.add (k * 7) from by unfold Addr.add; rfl] at this
  · have := hj 1 _ (by omega) rfl; rwa [add_lit' _ 1 (by omega)] at this
  · have := hj 2 _ (by omega) rfl; rwa [add_lit' _ 2 (by omega)] at this
  · have := hj 3 _ (by omega) rfl; rwa [add_lit' _ 3 (by omega)] at this
  · have := hj 4 _ (by omega) rfl; rwa [add_lit' _ 4 (by omega)] at this
  · have := hj 5 _ (by omega) rfl; rwa [add_lit' _ 5 (by omega)] at this
  · have := hj 6 _ (by omega) rfl; rwa [add_lit' _ 6 (by omega)] at this
/-- The ships of a game's block lie there as eight elements. -/
theorem ships_lie {w : World} {B : Nat} {g : Gm.G} {s : Value} (h : Box w B 28 (Gm.cells g s)) : Lies w w.heap.size 7 (some ⟨B, 2, none⟩) 8 (Gm.shipCells g.ship) := by
  refine ⟨rfl, fun _ => ⟨_, rfl, h.lt⟩, fun ad e _ j u hu => ?_⟩
  injection e with e
  subst e
  have hj : j < 56 := by have := (List.getElem?_eq_some_iff.1 hu).1; rwa [Gm.shipCells_len] at this
  have hadd : (⟨B, 2, none⟩ : Addr).add j = ⟨B, 2 + j, none⟩ := by unfold Addr.add; split <;> simp_all
  rw [hadd, h.cell, Gm.cells_shipj _ _ _ hj, hu]

set_option maxHeartbeats 1000000 in
theorem allship1_yes (s : Gm.Ship) (h : Gm.okShip s) (Bf : Nat) (w : World) (hf : Box w Bf 87 #[.func (.func 51) #[] #[]]) :
    Calls Tryz.prog 86 #[.agg s.cells.toArray, .pointer (some ⟨Bf, 0, none⟩)] w fun e w' => e = .returned (.bool false) ∧ Below w.heap.size w w' := by
  have c1 := fun X => Lib.hid (mayship_yes s h X)
  have hK : ∀ o, (w.alloc o).cell? ⟨Bf, 0, none⟩ = some (.func (.func 51) #[] #[]) := fun o => (hf.alloc o).cell 0
  obtain ⟨on, x, y, vx, vy, cool, score⟩ := s
  simp only [Gm.Ship.cells] at c1 ⊢
  clear h hf
  go_enter Tryz.func86, Tryz.ntmps86
  go_wp2_with (go_at_call 51; ((with_reducible refine ((c1 _).out).mono ?_); rintro e w1 ⟨rfl, hb1⟩))
  go_ret
  exact ⟨rfl, (one_below w _).trans (hb1.mono (by simp))⟩

set_option maxRecDepth 100000 in
set_option maxHeartbeats 2000000 in
theorem indexship_yes (f : Nat → Gm.Ship) (A : Option Addr) (c : Nat) (Bf : Nat) (w : World) (hok : ∀ i, i < 8 → Gm.okShip (f i)) (hr : Lies w w.heap.size 7 A 8 (Gm.shipCells f)) (hf : Box w Bf 87 #[.func (.func 51) #[] #[]]) :
    Calls Tryz.prog 120 #[.slice A 8 c, .func (.func 86) #[] #[.pointer (some ⟨Bf, 0, none⟩)]] w fun e w' => e = .returned (.int .i64 (-1)) ∧ Below w.heap.size w w' := by
  go_enter Tryz.func120, Tryz.ntmps120
  go_wp2
  go_loopw [8] (fun i wr => ∃ k : Nat, k ≤ 8 ∧ i = .int .i64 k ∧ Below w.heap.size w wr) (fun i _ => 8 - (intOf i).toNat)
  case atStart => exact ⟨0, by omega, rfl, Below.refl _ _⟩
  case round =>
    obtain ⟨k, hk, rfl, hb⟩ := hrel
    by_cases hlt : k < 8
    · have hbs := hb.size
      obtain ⟨ad, rfl, hbl, e0, e1, e2, e3, e4, e5, e6⟩ := ships_at (hr.below hb) k hlt
      have ho := hok k hlt
      have cc := fun X hX => Lib.hid (allship1_yes (f k) ho Bf X hX)
      have hfb := hf.below hb hf.lt
      generalize f k = s at e0 e1 e2 e3 e4 e5 e6 ho cc
      obtain ⟨on, x, y, vx, vy, cool, score⟩ := s
      dsimp only at e0 e1 e2 e3 e4 e5 e6
      simp only [Gm.Ship.cells] at cc
      have hkn : (k : Int) < 8 := by omega
      have HB := Lib.hid hb
      have HF := Lib.hid hfb
      clear hr hok ho hb hf hfb
      go_wp2_with (go_at_call 86; ((with_reducible refine ((cc _ (by first | exact HF.out)).out).mono ?_); rintro e w1 ⟨rfl, hb1⟩))
      go_roundw
      case rel => exact ⟨k + 1, by omega, by go_num, HB.out.trans (hb1.mono HB.out.size)⟩
      case measure => simp [intOf]; omega
    · have hkn : ¬ (k : Int) < 8 := by omega
      clear hr
      go_wp2
      go_ret
      exact ⟨rfl, hb⟩

set_option maxHeartbeats 1000000 in
theorem containsship_no (f : Nat → Gm.Ship) (A : Option Addr) (c : Nat) (Bf : Nat) (w : World) (hok : ∀ i, i < 8 → Gm.okShip (f i)) (hr : Lies w w.heap.size 7 A 8 (Gm.shipCells f)) (hf : Box w Bf 87 #[.func (.func 51) #[] #[]]) :
    Calls Tryz.prog 85 #[.slice A 8 c, .func (.func 86) #[] #[.pointer (some ⟨Bf, 0, none⟩)]] w fun e w' => e = .returned (.bool false) ∧ Below w.heap.size w w' := by
  have c1 := Lib.hid (indexship_yes f A c Bf w hok hr hf)
  clear hr hok hf
  go_enter Tryz.func85, Tryz.ntmps85
  go_wp2_with (go_at_call 120; ((with_reducible refine ((c1).out).mono ?_); rintro e w1 ⟨rfl, hb1⟩))
  go_ret
  exact ⟨rfl, hb1⟩

set_option maxHeartbeats 1000000 in
theorem allship_yes (f : Nat → Gm.Ship) (A : Option Addr) (c : Nat) (w : World) (hok : ∀ i, i < 8 → Gm.okShip (f i)) (hr : Lies w w.heap.size 7 A 8 (Gm.shipCells f)) :
    Calls Tryz.prog 50 #[.slice A 8 c, .func (.func 51) #[] #[]] w fun e w' => e = .returned (.bool true) ∧ Below w.heap.size w w' := by
  have hmf : ∀ (fn : Fn) (first cap : Array Value) (w : World), (Instr.makeFunc fn first cap).run Tryz.prog w = .ok (.func fn first cap) w := fun _ _ _ _ => rfl
  have hb0 := one_below w (.cells #[.func (.func 51) #[] #[]] 87)
  have c1 := Lib.hid (containsship_no f A c w.heap.size _ hok ((hr.below hb0).wider hb0.size) (Box.made w _ _))
  have hbz := Lib.hid hb0
  clear hr hok hb0
  go_enter Tryz.func50, Tryz.ntmps50
  go_wp2_with (go_at_call 85; ((with_reducible refine ((c1).out).mono ?_); rintro e w1 ⟨rfl, hb1⟩))
  go_ret
  exact ⟨rfl, hbz.out.trans (hb1.mono hbz.out.size)⟩

set_option maxHeartbeats 1000000 in
theorem allshot1_yes (s : Gm.Shot) (h : Gm.okShot s) (Bf : Nat) (w : World) (hf : Box w Bf 91 #[.func (.func 53) #[] #[]]) :
    Calls Tryz.prog 90 #[.agg s.cells.toArray, .pointer (some ⟨Bf, 0, none⟩)] w fun e w' => e = .returned (.bool false) ∧ Below w.heap.size w w' := by
  have c1 := fun X => Lib.hid (mayshot_yes s h X)
  have hK : ∀ o, (w.alloc o).cell? ⟨Bf, 0, none⟩ = some (.func (.func 53) #[] #[]) := fun o => (hf.alloc o).cell 0
  obtain ⟨owner, x, y, vx, vy, left⟩ := s
  simp only [Gm.Shot.cells] at c1 ⊢
  clear h hf
  go_enter Tryz.func90, Tryz.ntmps90
  go_wp2_with (go_at_call 53; ((with_reducible refine ((c1 _).out).mono ?_); rintro e w1 ⟨rfl, hb1⟩))
  go_ret
  exact ⟨rfl, (one_below w _).trans (hb1.mono (by simp))⟩

set_option maxRecDepth 100000 in
set_option maxHeartbeats 2000000 in
theorem indexshot_yes (l : List Gm.Shot) (A : Option Addr) (n c : Nat) (Bf : Nat) (w : World) (hok : ∀ i (h : i < l.length), Gm.okShot l[i]) (hn : n = l.length) (hn32 : n ≤ 32) (hr : Lies w w.heap.size 6 A n (Gm.shotCells l)) (hf : Box w Bf 91 #[.func (.func 53) #[] #[]]) :
    Calls Tryz.prog 123 #[.slice A n c, .func (.func 90) #[] #[.pointer (some ⟨Bf, 0, none⟩)]] w fun e w' => e = .returned (.int .i64 (-1)) ∧ Below w.heap.size w w' := by
  have hN := Lib.hid hn
  clear hn
  go_enter Tryz.func123, Tryz.ntmps123
  go_wp2
  go_loopw [8] (fun i wr => ∃ k : Nat, k ≤ n ∧ i = .int .i64 k ∧ Below w.heap.size w wr) (fun i _ => n - (intOf i).toNat)
  case atStart => exact ⟨0, by omega, rfl, Below.refl _ _⟩
  case round =>
    obtain ⟨k, hk, rfl, hb⟩ := hrel
    by_cases hlt : k < n
    · have hbs := hb.size
      obtain ⟨ad, rfl, hbl, e0, e1, e2, e3, e4, e5⟩ := shots_at (hr.below hb) hN.out k (by have := hN.out; omega)
      have ho := hok k (by have := hN.out; omega)
      have cc := fun X hX => Lib.hid (allshot1_yes (l[k]'(by have := hN.out; omega)) ho Bf X hX)
      have hfb := hf.below hb hf.lt
      generalize l[k]'(by have := hN.out; omega) = s at e0 e1 e2 e3 e4 e5 ho cc
      obtain ⟨owner, x, y, vx, vy, left⟩ := s
      dsimp only at e0 e1 e2 e3 e4 e5
      simp only [Gm.Shot.cells] at cc
      have hkn : (k : Int) < n := by omega
      have HB := Lib.hid hb
      have HF := Lib.hid hfb
      clear hr hok ho hb hf hfb
      go_wp2_with (go_at_call 90; ((with_reducible refine ((cc _ (by first | exact HF.out)).out).mono ?_); rintro e w1 ⟨rfl, hb1⟩))
      go_roundw
      case rel => exact ⟨k + 1, by omega, by go_num, HB.out.trans (hb1.mono HB.out.size)⟩
      case measure => simp [intOf]; omega
    · have hkn : ¬ (k : Int) < n := by omega
      clear hr
      go_wp2
      go_ret
      exact ⟨rfl, hb⟩

set_option maxHeartbeats 1000000 in
theorem containsshot_no (l : List Gm.Shot) (A : Option Addr) (n c : Nat) (Bf : Nat) (w : World) (hok : ∀ i (h : i < l.length), Gm.okShot l[i]) (hn : n = l.length) (hn32 : n ≤ 32) (hr : Lies w w.heap.size 6 A n (Gm.shotCells l)) (hf : Box w Bf 91 #[.func (.func 53) #[] #[]]) :
    Calls Tryz.prog 89 #[.slice A n c, .func (.func 90) #[] #[.pointer (some ⟨Bf, 0, none⟩)]] w fun e w' => e = .returned (.bool false) ∧ Below w.heap.size w w' := by
  have c1 := Lib.hid (indexshot_yes l A n c Bf w hok hn hn32 hr hf)
  clear hr hok hf hn
  go_enter Tryz.func89, Tryz.ntmps89
  go_wp2_with (go_at_call 123; ((with_reducible refine ((c1).out).mono ?_); rintro e w1 ⟨rfl, hb1⟩))
  go_ret
  exact ⟨rfl, hb1⟩

set_option maxHeartbeats 1000000 in
theorem allshot_yes (l : List Gm.Shot) (A : Option Addr) (n c : Nat) (w : World) (hok : ∀ i (h : i < l.length), Gm.okShot l[i]) (hn : n = l.length) (hn32 : n ≤ 32) (hr : Lies w w.heap.size 6 A n (Gm.shotCells l)) :
    Calls Tryz.prog 52 #[.slice A n c, .func (.func 53) #[] #[]] w fun e w' => e = .returned (.bool true) ∧ Below w.heap.size w w' := by
  have hmf : ∀ (fn : Fn) (first cap : Array Value) (w : World), (Instr.makeFunc fn first cap).run Tryz.prog w = .ok (.func fn first cap) w := fun _ _ _ _ => rfl
  have hb0 := one_below w (.cells #[.func (.func 53) #[] #[]] 91)
  have c1 := Lib.hid (containsshot_no l A n c w.heap.size _ hok hn hn32 ((hr.below hb0).wider hb0.size) (Box.made w _ _))
  have hbz := Lib.hid hb0
  clear hr hok hb0 hn
  go_enter Tryz.func52, Tryz.ntmps52
  go_wp2_with (go_at_call 89; ((with_reducible refine ((c1).out).mono ?_); rintro e w1 ⟨rfl, hb1⟩))
  go_ret
  exact ⟨rfl, hbz.out.trans (hb1.mono hbz.out.size)⟩

set_option maxRecDepth 100000 in
set_option maxHeartbeats 2000000 in
theorem may_yes (g : Gm.G) (A : Option Addr) (n c : Nat) (w : World) (hg : Gm.ok g) (hn : n = g.shots.length) (hr : Lies w w.heap.size 6 A n (Gm.shotCells g.shots)) :
    Calls Tryz.prog 24 #[.agg (Gm.cells g (.slice A n c))] w fun e w' => e = .returned (.bool true) ∧ Below w.heap.size w w' := by
  obtain ⟨hf1, hf2, hl, hships, hshots⟩ := hg
  have d1 : decide (g.frame < 0) = false := decide_eq_false (by omega)
  have d2 : decide (1048576 < g.frame) = false := decide_eq_false (by omega)
  have d3 : decide (32 < (n : Int)) = false := decide_eq_false (by omega)
  have B0 := Box.made w 28 (Gm.cells g (.slice A n c))
  have hb0 := one_below w (.cells (Gm.cells g (.slice A n c)) 28)
  have c1 := Lib.hid (allship_yes g.ship (some ⟨w.heap.size, 2, none⟩) 8 _ hships (ships_lie B0))
  have c2 := fun X (hX : Below w.heap.size w X) => Lib.hid (allshot_yes g.shots A n c X hshots hn (by omega) ((hr.below hX).wider hX.size))
  have hc : ∀ j, (w.alloc (.cells (Gm.cells g (.slice A n c)) 28)).cell? ⟨w.heap.size, j, none⟩ = (Gm.cells g (.slice A n c))[j]? := fun j => B0.cell j
  have h0 := Gm.cells_0 g (.slice A n c)
  have h58 := Gm.cells_58 g (.slice A n c)
  have BB := Lib.hid B0
  have HB := Lib.hid hb0
  clear hr hships hshots B0 hb0 hn
  go_enter Tryz.func24, Tryz.ntmps24
  go_wp2_with (first | (go_at_call 50; ((with_reducible refine ((c1).out).mono ?_); rintro e w1 ⟨rfl, hb1⟩; have hc1 := (BB.out.below hb1 BB.out.lt).cell; have HB1 := Lib.hid (HB.out.trans (hb1.mono HB.out.size)))) | (go_at_call 52; ((with_reducible refine ((c2 _ (HB1.out)).out).mono ?_); rintro e w2 ⟨rfl, hb2⟩)))
  go_ret
  exact ⟨rfl, HB1.out.trans (hb2.mono HB1.out.size)⟩
end Go.Proofs.YtiahpncglpfjeaaGreat
namespace Go.Proofs.YtiahpncglpfjeaaGreat
open Go.RowKit
set_option linter.unusedVariables false

theorem own_rebase {w : World} {base base' : Nat} {e : TypeId} {size n : Nat} {v : Value} {xs : List Value} (h : w.ownsRow base e size v n xs) (hb : base' ≤ base) : w.ownsRow base' e size v n xs := by
  obtain ⟨hl, h' | ⟨g, cap, cur, hv, hbg, hr⟩⟩ := h
  · exact ⟨hl, .inl h'⟩
  · exact ⟨hl, .inr ⟨g, cap, cur, hv, Nat.le_trans hb hbg, hr⟩⟩

set_option maxRecDepth 100000 in
set_option maxHeartbeats 1000000 in
theorem clone_any (l : List Gm.Shot) (A : Option Addr) (n c : Nat) (w : World) (hn : n = l.length) (hn32 : n ≤ 60) (hr : Lies w w.heap.size 6 A n (Gm.shotCells l)) :
    Calls Tryz.prog 79 #[.slice A n c] w fun e w' => ∃ A' c', e = .returned (.slice A' n c') ∧ w'.ownsRow w.heap.size 90 6 (.slice A' n c') n (Gm.shotCells l) ∧ Below w.heap.size w w' := by
  have hmf : ∀ (fn : Fn) (first cap : Array Value) (w : World), (Instr.makeFunc fn first cap).run Tryz.prog w = .ok (.func fn first cap) w := fun _ _ _ _ => rfl
  obtain ⟨i0, hi0, hz0, hz1, hz2⟩ := info_parts shot_info
  have hI := Lib.hid hi0
  have hZ := Lib.hid hz0
  have hS := Lib.hid hz1
  have hY := Lib.hid hz2
  have hL := Lib.hid hr
  have hN := Lib.hid hn
  clear hn hi0 hz0 hz1 hz2 hr
  cases A with
  | none =>
    have hn0 : n = 0 := by
      by_cases h : n = 0
      · exact h
      · obtain ⟨ad, he, _⟩ := hL.out.start h; cases he
    subst hn0
    have hnil : ∀ W : World, (binOp .eql 26 (.slice none 0 c) (.slice none 0 0)).run Tryz.prog W = .ok (.bool true) W := fun W => Lib.run_eql_slice_nil W _ _ none 0 c 0 0 Tryz.underlying26
    go_enter Tryz.func79, Tryz.ntmps79
    go_wp2
    go_ret
    refine ⟨none, 0, rfl, ?_, Below.refl _ _⟩
    have hl : l = [] := List.eq_nil_of_length_eq_zero hN.out.symm
    subst hl
    exact World.ownsRow_nil _ _ _ _
  | some ad =>
    have hnil : ∀ W : World, (binOp .eql 26 (.slice (some ad) n c) (.slice none 0 0)).run Tryz.prog W = .ok (.bool false) W := fun W => Lib.run_eql_slice_nil W _ _ (some ad) n c 0 0 Tryz.underlying26
    have own0 := Lib.hid (World.ownsRow_lit (base := w.heap.size) (e := 90) (size := 6) w #[] 0 (Nat.le_refl _) (by unfold maxLen; omega) rfl)
    have hb0 := Lib.hid (one_below w (.cells #[] 90))
    have hL1 := Lib.hid ((hL.out.below hb0.out).wider hb0.out.size)
    go_enter Tryz.func79, Tryz.ntmps79
    go_wp2_with ((with_reducible refine append_gate (x := .tmp 5) (y := .tmp 6) (t := 26) (e := 90) (size := 6) (bytes := 32) rfl rfl Tryz.underlying26 hI.out hZ.out hS.out hY.out rfl (by decide) ?_); refine Appends.mk (base := w.heap.size) (n := 0) (xs := []) rfl own0.out hL1.out (shotCells_one _) (by unfold maxLen; omega) (by omega) (by simp) ?_; intro A2 k2 w2 own2 hg2; have OW := Lib.hid own2; have HG := Lib.hid hg2; clear own2 hg2)
    go_ret
    refine ⟨A2, k2, by simp, ?_, ?_⟩
    · have h := OW.out
      simpa using h
    · exact (hb0.out).grown HG.out (by simp) (fun k hk => by injection hk with hk; have : w.heap.size = k := hk; omega)

set_option maxRecDepth 100000 in
set_option maxHeartbeats 1000000 in
theorem own_any (g : Gm.G) (A : Option Addr) (n c : Nat) (w : World) (hn : n = g.shots.length) (hn32 : n ≤ 60) (hr : Lies w w.heap.size 6 A n (Gm.shotCells g.shots)) :
    Calls Tryz.prog 98 #[.agg (Gm.cells g (.slice A n c))] w fun e w' => ∃ A' c', e = .returned (.agg (Gm.cells g (.slice A' n c'))) ∧ w'.ownsRow w.heap.size 90 6 (.slice A' n c') n (Gm.shotCells g.shots) ∧ Below w.heap.size w w' := by
  have b1 : Box ((w.alloc (.cells (Gm.cells g (.slice A n c)) 28)).alloc (.cells (Gm.cells zeroG (.slice none 0 0)) 28)) w.heap.size 28 (Gm.cells g (.slice A n c)) := (Box.made _ _ _).alloc _
  have b2 : Box ((w.alloc (.cells (Gm.cells g (.slice A n c)) 28)).alloc (.cells (Gm.cells zeroG (.slice none 0 0)) 28)) (w.heap.size + 1) 28 (Gm.cells zeroG (.slice none 0 0)) := Box.made_at _ _ _ (by simp)
  have hb0 := two_below' w (.cells (Gm.cells g (.slice A n c)) 28) (.cells (Gm.cells zeroG (.slice none 0 0)) 28)
  have c1 := Lib.hid (clone_any g.shots A n c _ hn hn32 ((hr.below hb0).wider hb0.size))
  have e58 := Gm.cells_58 g (.slice A n c)
  have hc := b1.cell
  have HB := Lib.hid hb0
  have B1 := Lib.hid b1
  have B2 := Lib.hid b2
  clear hr hn b1 b2 hb0
  go_enter Tryz.func98, Tryz.ntmps98
  go_wp2_with (first | (refine wpList_alloc_game rfl rfl ?_) | (go_at_call 79; ((with_reducible refine ((c1).out).mono ?_); rintro e w1 ⟨A', c', rfl, ho, hb⟩; have D1 := B1.out.below hb (by simp <;> omega); have D2 := B2.out.below hb (by simp <;> omega); have k1 := D1.cell; have f1 := D1.free; have O1 := Lib.hid ho; have HB1 := Lib.hid (HB.out.trans (hb.mono HB.out.size)); have F1 := Lib.hid (blk_shots D1 (.slice A' n c')); have ne1 : w.heap.size + 1 ≠ w.heap.size := (by omega); have F2 := Lib.hid (D2.far (p := ⟨w.heap.size, 58, none⟩) ne1 (.slice A' n c')); have nO := Lib.hid (D1.unowned ho (by decide)); have nO2 := Lib.hid (D2.unowned ho (by decide)); clear D1 D2 ho hb ne1)) | ((with_reducible refine load_gate rfl rfl ?_); apply LoadGame.mk rfl; exact F1.out) | ((with_reducible refine store_gate rfl rfl ?_); apply StoreGame.mk rfl rfl rfl; exact F2.out))
  refine bodyPost_ret (v := .agg (Gm.cells g (.slice A' n c'))) ?_ ?_ ?_
  · exact results_cell_row rfl _ _ _ _ (Gm.cells g (.slice A' n c')) (0, 0) _ rfl (Box.row F2.out _).is Tryz.underlying28 rfl game_info
  · rfl
  · refine ⟨A', c', rfl, ?_, ?_⟩
    · have h := own_setRow (ownsRow_setCell_other (a := ⟨w.heap.size, 58, none⟩) O1.out nO.out (.slice A' n c')) nO2.out (Gm.cells g (.slice A' n c'))
      exact own_rebase h (by simp; omega)
    · exact Below.setRow' (HB1.out.setCell (p := ⟨w.heap.size, 58, none⟩) (by simp) _) (by omega) _
end Go.Proofs.YtiahpncglpfjeaaGreat
namespace Go.Proofs.YtiahpncglpfjeaaGreat
open Go.RowKit
set_option linter.unusedVariables false

/-- From w to w' everything stays that lies below b, and everything else but block B and rows of shots. -/
structure Keep (b B : Nat) (w w' : World) : Prop where
  os : w'.os = w.os
  tape : w'.tape = w.tape
  output : w'.output = w.output
  size : w.heap.size ≤ w'.heap.size
  low : b ≤ B
  block : ∀ k, k < w.heap.size → (k < b ∨ k ≠ B ∧ ∀ cs, w.heap[k]? ≠ some (.cells cs 90 (0, 0))) → w'.heap[k]? = w.heap[k]?

section
variable {b B : Nat} {w w' w'' : World}
theorem Keep.refl (h : b ≤ B) (w : World) : Keep b B w w := ⟨rfl, rfl, rfl, Nat.le_refl _, h, fun _ _ _ => rfl⟩
theorem Keep.trans (h : Keep b B w w') (k : Keep b B w' w'') : Keep b B w w'' :=
  ⟨k.os.trans h.os, k.tape.trans h.tape, k.output.trans h.output, Nat.le_trans h.size k.size, h.low, fun i hi hc => by
    have e := h.block i hi hc
    rw [← e]
    refine k.block i (Nat.lt_of_lt_of_le hi h.size) ?_
    rcases hc with hc | ⟨h1, h2⟩
    · exact .inl hc
    · exact .inr ⟨h1, fun cs => by rw [e]; exact h2 cs⟩⟩
theorem Keep.on {c : Nat} (h : Keep b B w w') (hb : Below c w' w'') (hc : w'.heap.size ≤ c) : Keep b B w w'' :=
  h.trans ⟨hb.os, hb.tape, hb.output, hb.size, h.low, fun i hi _ => hb.block i (by omega)⟩
theorem Keep.call (h : Keep b B w w') (hb : Below w'.heap.size w' w'') : Keep b B w w'' := h.on hb (Nat.le_refl _)
theorem Keep.alloc (h : Keep b B w w') (o : Obj) : Keep b B w (w'.alloc o) := h.call (one_below w' o)
theorem Keep.drew (h : Keep b B w w') : Keep b B w w'.drew := ⟨h.os, h.tape, h.output, h.size, h.low, h.block⟩
theorem Keep.put (h : Keep b B w w') (i : Nat) (u : Value) : Keep b B w (w'.setCell ⟨B, i, none⟩ u) := by
  have hg := (Below.refl 0 w').setCell (p := ⟨B, i, none⟩) (Nat.zero_le _) u
  refine h.trans ⟨hg.os, hg.tape, hg.output, hg.size, h.low, fun k hk hc => ?_⟩
  refine heap_setCell_other w' ⟨B, i, none⟩ k u ?_
  have := h.low
  show k ≠ B
  rcases hc with hc | hc
  · omega
  · exact hc.1
theorem Keep.row {g : Nat} {cs0 : Array Value} (h : Keep b B w w') (hg : Box w' g 90 cs0) (hbg : b ≤ g) (cs : Array Value) : Keep b B w (w'.setRow g cs) := by
  have hz := Below.setRow' (g := g) (Below.refl 0 w') (Nat.zero_le _) cs
  refine h.trans ⟨hz.os, hz.tape, hz.output, hz.size, h.low, fun k hk hc => setRow_other w' g k cs ?_⟩
  rcases hc with hc | hc
  · omega
  · intro e; subst e; exact hc.2 _ hg.is
theorem Keep.shot {g i : Nat} {u : Value} {cs0 : Array Value} (h : Keep b B w w') (hg : Box w' g 90 cs0) (hbg : b ≤ g) : Keep b B w (w'.setCell ⟨g, i, none⟩ u) := by
  have hz := (Below.refl 0 w').setCell (p := ⟨g, i, none⟩) (Nat.zero_le _) u
  refine h.trans ⟨hz.os, hz.tape, hz.output, hz.size, h.low, fun k hk hc => heap_setCell_other w' ⟨g, i, none⟩ k u ?_⟩
  show k ≠ g
  rcases hc with hc | hc
  · omega
  · intro e; subst e; exact hc.2 _ hg.is
theorem Keep.grown {n : Nat} {v : Value} {xs : List Value} (h : Keep b B w w') (ho : w'.ownsRow b 90 6 v n xs) (hg : w'.grownBy w'' v.ownBlock) : Keep b B w w'' := by
  refine h.trans ⟨hg.os, hg.tape, hg.output, hg.size, h.low, fun k hk hc => hg.block k hk fun e => ?_⟩
  obtain ⟨_, ⟨rfl, _⟩ | ⟨g, cap, cur, rfl, hbg, hgg, _⟩⟩ := ho
  · cases e
  · have e' : k = g := by injection e
    subst e'
    rcases hc with hc | hc
    · omega
    · exact hc.2 _ hgg
theorem Keep.grown' {n : Nat} {v : Value} {xs : List Value} {o : Obj} (h : Keep b B w w') (ho : w'.ownsRow b 90 6 v n xs) (hg : (w'.alloc o).grownBy w'' v.ownBlock) : Keep b B w w'' :=
  (h.alloc o).grown (ho.alloc o) hg
theorem Keep.fresh (h : Keep b B w w') {p : Addr} (hp : w.heap.size ≤ p.block) (u : Value) : Keep b B w (w'.setCell p u) := by
  have hz := (Below.refl 0 w').setCell (p := p) (Nat.zero_le _) u
  exact ⟨hz.os.trans h.os, hz.tape.trans h.tape, hz.output.trans h.output, Nat.le_trans h.size hz.size, h.low, fun k hk hc => (heap_setCell_other w' p k u (by omega)).trans (h.block k hk hc)⟩
theorem Keep.freshRow (h : Keep b B w w') {g : Nat} (hp : w.heap.size ≤ g) (cs : Array Value) : Keep b B w (w'.setRow g cs) := by
  have hz := Below.setRow' (g := g) (Below.refl 0 w') (Nat.zero_le _) cs
  exact ⟨hz.os.trans h.os, hz.tape.trans h.tape, hz.output.trans h.output, Nat.le_trans h.size hz.size, h.low, fun k hk hc => (setRow_other w' g k cs (by omega)).trans (h.block k hk hc)⟩
theorem Keep.below (h : Keep b B w w') : Below b w w' ∨ w.heap.size < b := by
  by_cases hs : w.heap.size < b
  · exact .inr hs
  · exact .inl ⟨h.os, h.tape, h.output, h.size, fun i hi => h.block i (by omega) (.inl hi)⟩
theorem Keep.to (h : Keep b B w w') (hs : b ≤ w.heap.size) : Below b w w' := ⟨h.os, h.tape, h.output, h.size, fun i hi => h.block i (by omega) (.inl hi)⟩
theorem Box.keep {g : Nat} {t : TypeId} {cs : Array Value} (h : Box w g t cs) (k : Keep b B w w') (hg : g ≠ B) (ht : t ≠ 90) : Box w' g t cs :=
  ⟨(k.block g h.lt (.inr ⟨hg, fun cs' e => by rw [h.is] at e; injection e with e; injection e with _ e _; exact ht e⟩)).trans h.is⟩
end

/-- A game lies in block B, with a list of shots of its own. -/
def Has (b B : Nat) (g : Gm.G) (w : World) : Prop :=
  ∃ A c, Box w B 28 (Gm.cells g (.slice A g.shots.length c)) ∧ w.ownsRow b 90 6 (.slice A g.shots.length c) g.shots.length (Gm.shotCells g.shots)
theorem Has.lt {b B : Nat} {g : Gm.G} {w : World} (h : Has b B g w) : B < w.heap.size := by obtain ⟨A, c, h, _⟩ := h; exact h.lt
theorem Has.alloc {b B : Nat} {g : Gm.G} {w : World} (h : Has b B g w) (o : Obj) : Has b B g (w.alloc o) := by obtain ⟨A, c, h, h'⟩ := h; exact ⟨A, c, h.alloc o, h'.alloc o⟩
theorem Has.drew {b B : Nat} {g : Gm.G} {w : World} (h : Has b B g w) : Has b B g w.drew := by obtain ⟨A, c, h, h'⟩ := h; exact ⟨A, c, h.drew, h'.drew⟩
theorem Has.call {b B : Nat} {g : Gm.G} {w w' : World} (h : Has b B g w) (hb : Below w.heap.size w w') : Has b B g w' := by
  obtain ⟨A, c, h, h'⟩ := h; exact ⟨A, c, h.below hb h.lt, own_below h' hb (Nat.le_refl _)⟩
theorem Has.far {b B : Nat} {g : Gm.G} {w : World} {p : Addr} {t : TypeId} {cs : Array Value} (h : Has b B g w) (hp : Box w p.block t cs) (ht : t ≠ 90) (ht' : t ≠ 28) (u : Value) : Has b B g (w.setCell p u) := by
  obtain ⟨A, c, h, h'⟩ := h
  exact ⟨A, c, h.far (fun e => Box.apart h hp (fun e' => ht' e'.symm) e) u, ownsRow_setCell_other h' (hp.unowned h' (fun e => ht e.symm)) u⟩
theorem Has.off {b B : Nat} {g : Gm.G} {w : World} {p : Addr} {t : TypeId} {cs : Array Value} (h : Has b B g w) (hne : p.block ≠ B) (hp : Box w p.block t cs) (ht : t ≠ 90) (u : Value) : Has b B g (w.setCell p u) := by
  obtain ⟨A, c, h, h'⟩ := h
  exact ⟨A, c, h.far (fun e => hne e.symm) u, ownsRow_setCell_other h' (hp.unowned h' (fun e => ht e.symm)) u⟩
theorem Has.offRow {b B : Nat} {g : Gm.G} {w : World} {p : Nat} {t : TypeId} {cs : Array Value} (h : Has b B g w) (hne : p ≠ B) (hp : Box w p t cs) (ht : t ≠ 90) (cs' : Array Value) : Has b B g (w.setRow p cs') := by
  obtain ⟨A, c, h, h'⟩ := h
  exact ⟨A, c, h.row_far (fun e => hne e.symm) cs', own_setRow h' (hp.unowned h' (fun e => ht e.symm)) cs'⟩
/-- The game's block is stored to: a field, a ship. -/
theorem Has.put {b B : Nat} {g g' : Gm.G} {w w' : World} (h : Has b B g w) (hs : g'.shots = g.shots) (hB : ∀ s, Box w B 28 (Gm.cells g s) → Box w' B 28 (Gm.cells g' s)) (hk : ∀ k, k ≠ B → w'.heap[k]? = w.heap[k]?) : Has b B g' w' := by
  obtain ⟨A, c, h, h'⟩ := h
  refine ⟨A, c, by rw [hs]; exact hB _ h, ?_⟩
  rw [hs]
  have hne := h.unowned h' (by decide)
  obtain ⟨hl, e | ⟨gg, cap, cur, hv, hbg, hgg, hr⟩⟩ := h'
  · exact ⟨hl, .inl e⟩
  · refine ⟨hl, .inr ⟨gg, cap, cur, hv, hbg, (hk gg (fun e => hne (by rw [hv, e]; rfl))).trans hgg, hr⟩⟩
theorem stored_else {w : World} {B k : Nat} (s : Gm.Ship) (j : Nat) (hj : j ≠ B) : (stored w B k s).heap[j]? = w.heap[j]? := by
  unfold stored
  rw [heap_setCell_other _ _ j _ hj, heap_setCell_other _ _ j _ hj, heap_setCell_other _ _ j _ hj, heap_setCell_other _ _ j _ hj, heap_setCell_other _ _ j _ hj, heap_setCell_other _ _ j _ hj, heap_setCell_other _ _ j _ hj]
theorem Keep.stored {b B k : Nat} {w w' : World} (h : Keep b B w w') (s : Gm.Ship) : Keep b B w (stored w' B k s) :=
  ((((((h.put _ _).put _ _).put _ _).put _ _).put _ _).put _ _).put _ _
theorem Has.stored {b B k : Nat} {g : Gm.G} {w : World} (h : Has b B g w) (hk : k < 8) (s : Gm.Ship) : Has b B { g with ship := Gm.upd g.ship k s } (stored w B k s) :=
  h.put rfl (fun _ hB => blk_ship hB hk s) (fun j hj => stored_else s j hj)
/-- A game handed back, and a code. -/
def Out (g' : Gm.G) (code : Int) (w : World) (e : Ending) (w' : World) : Prop :=
  ∃ A c, e = .returned (.tuple #[.agg (Gm.cells g' (.slice A g'.shots.length c)), .int .i64 code]) ∧ Lies w' w'.heap.size 6 A g'.shots.length (Gm.shotCells g'.shots) ∧ Below w.heap.size w w'
end Go.Proofs.YtiahpncglpfjeaaGreat
namespace Go.Proofs.YtiahpncglpfjeaaGreat
open Go.RowKit
set_option linter.unusedVariables false

def tagV (v : Value) : Nat := match v with | .int .i64 _ => 1 | .int .i32 _ => 2 | _ => 0
def gameTags : List Nat := [1, 0] ++ ([0, 2, 2, 2, 2, 1, 1] ++ ([0, 2, 2, 2, 2, 1, 1] ++ ([0, 2, 2, 2, 2, 1, 1] ++ ([0, 2, 2, 2, 2, 1, 1] ++ ([0, 2, 2, 2, 2, 1, 1] ++ ([0, 2, 2, 2, 2, 1, 1] ++ ([0, 2, 2, 2, 2, 1, 1] ++ [0, 2, 2, 2, 2, 1, 1]))))))) ++ [0]
theorem game_tags (g : Gm.G) (A : Option Addr) (n c : Nat) (o : Nat) : ((Gm.cells g (.slice A n c))[o]?).map tagV = gameTags[o]? := by
  rw [show (Gm.cells g (.slice A n c))[o]? = (([Value.int .i64 g.frame, Value.int .u64 g.dice] ++ Gm.shipCells g.ship ++ [Value.slice A n c])[o]?) from by unfold Gm.cells; simp]
  rw [← List.getElem?_map]
  rfl
theorem no_shot_in_game : ∀ o, o < 59 → ¬ (gameTags[o]? = some 1 ∧ gameTags[o + 1]? = some 2) := by decide
theorem Lies.off_game {w : World} {B BG n m : Nat} {A A' : Option Addr} {c : Nat} {l : List Gm.Shot} {g : Gm.G} (h : Lies w B 6 A n (Gm.shotCells l)) (hn : n = l.length) (hB : Box w BG 28 (Gm.cells g (.slice A' m c))) (h0 : n ≠ 0) (ad : Addr) (e : A = some ad) : ad.block ≠ BG := by
  intro eb
  subst hn
  have hlt : 0 < l.length := by omega
  have hc := h.cell ad e h0
  have e0 := hc 0 (.int .i64 l[0].owner) (by have := Gm.shotCells_at l 0 0 hlt (by omega); simpa [Gm.Shot.cells] using this)
  have e1 := hc 1 (.int .i32 l[0].x) (by have := Gm.shotCells_at l 0 1 hlt (by omega); simpa [Gm.Shot.cells] using this)
  rw [show ad.add 0 = ad from rfl] at e0
  rw [show ad.add 1 = ⟨ad.block, ad.off + 1, none⟩ from rfl] at e1
  rw [eb, hB.cell] at e1
  have e0' : (Gm.cells g (.slice A' m c))[ad.off]? = some (.int .i64 l[0].owner) := by
    unfold World.cell? at e0
    rw [eb, hB.is] at e0
    dsimp only at e0
    split at e0
    · cases e0
    · exact e0
  have t0 := game_tags g A' m c ad.off
  have t1 := game_tags g A' m c (ad.off + 1)
  rw [e0'] at t0
  rw [e1] at t1
  have hlt' : ad.off < 59 := by have := (Array.getElem?_eq_some_iff.1 e0').1; rwa [Gm.cells_size] at this
  exact no_shot_in_game _ hlt' ⟨t0.symm, t1.symm⟩
/-- A game's block is stored whole: the shots stay. -/
theorem Lies.game_row {w : World} {n BG m : Nat} {A A' : Option Addr} {c : Nat} {l : List Gm.Shot} {g : Gm.G} (h : Lies w w.heap.size 6 A n (Gm.shotCells l)) (hn : n = l.length) (hB : Box w BG 28 (Gm.cells g (.slice A' m c))) (cs : Array Value) : Lies (w.setRow BG cs) (w.setRow BG cs).heap.size 6 A n (Gm.shotCells l) := by
  refine ⟨h.len, fun hn => by obtain ⟨ad, e, hb⟩ := h.start hn; exact ⟨ad, e, by rw [setRow_size]; exact hb⟩, fun ad e h0 j u hu => ?_⟩
  have hne := h.off_game hn hB h0 ad e
  rw [World.cell?_of_block (w := w) (by rw [add_block]; exact setRow_other w BG _ cs hne)]
  exact h.cell ad e h0 j u hu
theorem Lies.alloc {w : World} {size n : Nat} {A : Option Addr} {xs : List Value} (h : Lies w w.heap.size size A n xs) (o : Obj) : Lies (w.alloc o) (w.alloc o).heap.size size A n xs :=
  (h.below (one_below w o)).wider (one_below w o).size
theorem Lies.call {w w' : World} {size n : Nat} {A : Option Addr} {xs : List Value} (h : Lies w w.heap.size size A n xs) (hb : Below w.heap.size w w') : Lies w' w'.heap.size size A n xs :=
  (h.below hb).wider hb.size
end Go.Proofs.YtiahpncglpfjeaaGreat
namespace Go.Proofs.YtiahpncglpfjeaaGreat
open Go.RowKit
set_option linter.unusedVariables false

theorem wrap_u64' (n : Int) : IntKind.u64.wrap n = n % 18446744073709551616 := by simp [IntKind.wrap, IntKind.bits, IntKind.signed]
theorem next_wraps (d : Int) : IntKind.u64.wrap (IntKind.u64.wrap (d * 6364136223846793005) + 1442695040888963407) = Dn.next d := by
  rw [wrap_u64', wrap_u64']; unfold Dn.next
  generalize d * 6364136223846793005 = x
  omega
theorem xor_nought (d : Int) (wd : 0 ≤ d ∧ d ≤ 18446744073709551615) : bits .xor .u64 d 0 = d := by
  rw [u64_xor d 0 wd.1 (Int.lt_of_le_of_lt wd.2 (by decide)) (by decide) (by decide)]
  have : d.toNat ^^^ (0 : Int).toNat = d.toNat := Nat.xor_zero _
  rw [this]
  exact Int.toNat_of_nonneg wd.1

set_option maxHeartbeats 400000 in
theorem refnext_any (d : Int) (wd : 0 ≤ d ∧ d ≤ 18446744073709551615) (w : World) :
    Calls Tryz.prog 134 #[.int .u64 d] w fun e w' => e = .returned (.int .u64 (Dn.next d)) ∧ w = w' := by
  go_enter Tryz.func134, Tryz.ntmps134
  go_wp2
  go_ret
  exact ⟨ret_int (next_wraps d), rfl⟩

theorem four_below (w : World) (o1 o2 o3 o4 : Obj) : Below w.heap.size w ((((w.alloc o1).alloc o2).alloc o3).alloc o4) :=
  ((((Below.refl _ _).alloc (Nat.le_refl _) _).alloc (by simp) _).alloc (by simp; omega) _).alloc (by simp; omega) _

set_option maxHeartbeats 400000 in
theorem share_any (d n : Int) (wd : 0 ≤ d ∧ d ≤ 18446744073709551615) (wn : 1 ≤ n ∧ n ≤ 2147483647) (w : World) :
    Calls Tryz.prog 150 #[.int .u64 d, .int .i64 n] w fun e w' => e = .returned (.int .i64 (Dn.share d n)) ∧ w = w' := by
  have hp := Dn.share_bd wd wn
  go_enter Tryz.func150, Tryz.ntmps150
  go_wp2
  go_ret
  exact ⟨ret_int rfl, rfl⟩

set_option maxHeartbeats 400000 in
theorem refpick_in (d n : Int) (wd : 0 ≤ d ∧ d ≤ 18446744073709551615) (wn : 1 ≤ n ∧ n ≤ 2147483647) (w : World) :
    Calls Tryz.prog 106 #[.int .u64 d, .int .i64 n] w fun e w' => e = .returned (.tuple #[.int .i64 (Dn.share (Dn.next d) n), .int .u64 (Dn.next d)]) ∧ w = w' := by
  have c1 := fun X => Lib.hid (refnext_any d wd X)
  have hb := Dn.next_bd d
  have hp := Dn.share_bd hb wn
  have hs : Hid (Dn.share (Dn.next d) n = Dn.next d / 4294967296 * n / 4294967296) := Lib.hid rfl
  go_enter Tryz.func106, Tryz.ntmps106
  go_wp2_with (go_at_call 134; ((with_reducible refine ((c1 _).out).mono ?_); rintro e w' ⟨rfl, rfl⟩))
  go_ret2
  exact ⟨by rw [hs.out]; rfl, rfl⟩

set_option maxHeartbeats 400000 in
theorem refplace_any (d : Int) (wd : 0 ≤ d ∧ d ≤ 18446744073709551615) (w : World) :
    Calls Tryz.prog 65 #[.int .u64 d] w fun e w' => e = .returned (.tuple #[.int .i32 (Dn.share (Dn.next d) 16777216), .int .i32 (Dn.share (Dn.next (Dn.next d)) 16777216), .int .u64 (Dn.next (Dn.next d))]) ∧ w = w' := by
  have c1 := fun X => Lib.hid (refpick_in d 16777216 wd (by omega) X)
  have c2 := fun X => Lib.hid (refpick_in (Dn.next d) 16777216 (Dn.next_bd d) (by omega) X)
  have b1 := Dn.share_bd (Dn.next_bd d) (show (1 : Int) ≤ 16777216 ∧ (16777216 : Int) ≤ 2147483647 by omega)
  have b2 := Dn.share_bd (Dn.next_bd (Dn.next d)) (show (1 : Int) ≤ 16777216 ∧ (16777216 : Int) ≤ 2147483647 by omega)
  go_enter Tryz.func65, Tryz.ntmps65
  go_wp2_with (go_at_call 106; first | ((with_reducible refine ((c1 _).out).mono ?_); rintro e w' ⟨rfl, rfl⟩) | ((with_reducible refine ((c2 _).out).mono ?_); rintro e w' ⟨rfl, rfl⟩))
  go_ret3
  exact ⟨rfl, rfl⟩

set_option maxHeartbeats 400000 in
theorem place_any (d : Int) (wd : 0 ≤ d ∧ d ≤ 18446744073709551615) (w : World) :
    Calls Tryz.prog 141 #[.int .u64 d] w fun e w' => e = .returned (.tuple #[.int .i32 (Dn.share (Dn.next d) 16777216), .int .i32 (Dn.share (Dn.next (Dn.next d)) 16777216), .int .u64 (Dn.next (Dn.next d))]) ∧ Below w.heap.size w w' := by
  have hmf : ∀ (fn : Fn) (first cap : Array Value) (w : World), (Instr.makeFunc fn first cap).run Tryz.prog w = .ok (.func fn first cap) w := fun _ _ _ _ => rfl
  have h1 := xor_nought d wd
  have h2 := next_wraps d
  have h3 := xor_nought _ (Dn.next_bd d)
  have h4 := next_wraps (Dn.next d)
  have c1 := fun X => Lib.hid (share_any (Dn.next d) 16777216 (Dn.next_bd _) (by omega) X)
  have c2 := fun X => Lib.hid (share_any (Dn.next (Dn.next d)) 16777216 (Dn.next_bd _) (by omega) X)
  have b1 := Dn.share_bd (Dn.next_bd d) (show (1 : Int) ≤ 16777216 ∧ (16777216 : Int) ≤ 2147483647 by omega)
  have b2 := Dn.share_bd (Dn.next_bd (Dn.next d)) (show (1 : Int) ≤ 16777216 ∧ (16777216 : Int) ≤ 2147483647 by omega)
  go_enter Tryz.func141, Tryz.ntmps141
  go_wp2_with (first | (go_at_call 150; first | ((with_reducible refine ((c1 _).out).mono ?_); rintro e w' ⟨rfl, rfl⟩) | ((with_reducible refine ((c2 _).out).mono ?_); rintro e w' ⟨rfl, rfl⟩)) | go_in)
  go_ret3
  exact ⟨rfl, four_below _ _ _ _ _⟩
end Go.Proofs.YtiahpncglpfjeaaGreat
namespace Go.Proofs.YtiahpncglpfjeaaGreat
open Go.RowKit
set_option linter.unusedVariables false

theorem input_info : (Tryz.prog.info? 39).map (·.size) = some 3 := by kernel_rfl
theorem ship7_info : (Tryz.prog.info? 24).map (·.size) = some 7 := by kernel_rfl

set_option maxHeartbeats 1000000 in
theorem may_in (x y p : Int) (wx : -128 ≤ x ∧ x ≤ 127) (wy : -128 ≤ y ∧ y ≤ 127) (w : World) :
    Calls Tryz.prog 95 #[.agg #[.int .i8 x, .int .i8 y, .int .u8 p]] w fun e w' => e = .returned (.bool (decide (x ≠ -128) && decide (y ≠ -128))) ∧ Below w.heap.size w w' := by
  go_enter Tryz.func95, Tryz.ntmps95
  go_wp2
  all_goals
    go_ret
    exact ⟨ret_bool (by rw [Bool.eq_iff_iff]; simp_all <;> omega), one_below _ _⟩

def Gm.tameIn (p : Gm.In) : Gm.In := ⟨Gf.tame p.x, Gf.tame p.y, p.b⟩
set_option maxHeartbeats 1000000 in
theorem held_any (p : Gm.In) (hp : Gm.tyIn p) (w : World) :
    Calls Tryz.prog 100 #[.agg p.cells.toArray] w fun e w' => e = .returned (.agg (Gm.tameIn p).cells.toArray) ∧ Below w.heap.size w w' := by
  obtain ⟨x, y, p⟩ := p
  obtain ⟨wx, wy, wp⟩ := hp
  dsimp only at wx wy wp
  have b1 : Box ((w.alloc (.cells #[.int .i8 x, .int .i8 y, .int .u8 p] 39)).alloc (.cells #[.int .i8 0, .int .i8 0, .int .u8 0] 39)) w.heap.size 39 #[.int .i8 x, .int .i8 y, .int .u8 p] := (Box.made _ _ _).alloc _
  have b2 : Box ((w.alloc (.cells #[.int .i8 x, .int .i8 y, .int .u8 p] 39)).alloc (.cells #[.int .i8 0, .int .i8 0, .int .u8 0] 39)) (w.heap.size + 1) 39 #[.int .i8 0, .int .i8 0, .int .u8 0] := Box.made_at _ _ _ (by simp)
  have hb0 := Lib.hid (two_below' w (.cells #[.int .i8 x, .int .i8 y, .int .u8 p] 39) (.cells #[.int .i8 0, .int .i8 0, .int .u8 0] 39))
  have hc := b1.cell
  have B1 := Lib.hid b1
  have B2 := Lib.hid b2
  clear b1 b2
  simp only [Gm.In.cells, Gm.tameIn]
  by_cases hm : x ≠ -128 ∧ y ≠ -128
  · have c1 := fun X => Lib.hid (may_in x y p wx wy X)
    rw [decide_eq_true hm.1, decide_eq_true hm.2, Bool.and_self] at c1
    rw [Gf.tame_same hm.1, Gf.tame_same hm.2]
    clear hm
    go_enter Tryz.func100, Tryz.ntmps100
    go_wp2_with (first | (go_at_call 95; ((with_reducible refine ((c1 _).out).mono ?_); rintro e w1 ⟨rfl, hb⟩; have D1 := B1.out.below hb (by simp <;> omega); have D2 := B2.out.below hb (by simp <;> omega); have k1 := D1.cell; have k2 := D2.cell; have f2 := D2.free; have l2 := D2.lt; have HB := Lib.hid hb; have DD := Lib.hid D2; clear D1 D2 hb hc)) | ((with_reducible refine blk_gate (t := 39) rfl rfl input_info ?_); apply StoreBlk.mk rfl rfl; exact DD.out; (focus (simp [Value.oneCell'])); (focus rfl); (focus rfl)))
    refine bodyPost_ret (v := .agg #[.int .i8 x, .int .i8 y, .int .u8 p]) ?_ ?_ ?_
    · exact results_cell_row rfl _ _ _ _ #[.int .i8 x, .int .i8 y, .int .u8 p] (0, 0) _ rfl (Box.row DD.out _).is Tryz.underlying39 rfl input_info
    · rfl
    · exact ⟨rfl, Below.setRow' (hb0.out.trans (HB.out.mono hb0.out.size)) (by omega) _⟩
  · have c1 := fun X => Lib.hid (may_in x y p wx wy X)
    rw [show (decide (x ≠ -128) && decide (y ≠ -128)) = false by simp; omega] at c1
    by_cases hx : x = -128
    · subst hx
      rw [show Gf.tame (-128) = -127 from rfl]
      by_cases hy : y = -128
      · subst hy
        rw [show Gf.tame (-128) = -127 from rfl]
        clear hm wx wy
        go_enter Tryz.func100, Tryz.ntmps100
        go_wp2_with (first | (go_at_call 95; ((with_reducible refine ((c1 _).out).mono ?_); rintro e w1 ⟨rfl, hb⟩; have D1 := B1.out.below hb (by simp <;> omega); have D2 := B2.out.below hb (by simp <;> omega); have k1 := D1.cell; have f1 := D1.free; have l1 := D1.lt; have k2 := D2.cell; have f2 := D2.free; have l2 := D2.lt; have HB := Lib.hid hb; have ne1 : w.heap.size + 1 ≠ w.heap.size := (by omega); have DD := Lib.hid ((D2.far (p := ⟨w.heap.size, 0, none⟩) ne1 (.int .i8 (-127))).far (p := ⟨w.heap.size, 1, none⟩) ne1 (.int .i8 (-127))); clear D1 D2 hb hc ne1)) | ((with_reducible refine blk_gate (t := 39) rfl rfl input_info ?_); apply StoreBlk.mk rfl rfl; exact DD.out; (focus (simp [Value.oneCell'])); (focus rfl); (focus rfl)))
        refine bodyPost_ret (v := .agg #[.int .i8 (-127), .int .i8 (-127), .int .u8 p]) ?_ ?_ ?_
        · exact results_cell_row rfl _ _ _ _ #[.int .i8 (-127), .int .i8 (-127), .int .u8 p] (0, 0) _ rfl (Box.row DD.out _).is Tryz.underlying39 rfl input_info
        · rfl
        · exact ⟨rfl, Below.setRow' (((hb0.out.trans (HB.out.mono hb0.out.size)).setCell (p := ⟨w.heap.size, 0, none⟩) (Nat.le_refl _) _).setCell (p := ⟨w.heap.size, 1, none⟩) (Nat.le_refl _) _) (by omega) _⟩
      · rw [Gf.tame_same hy]
        have hy' : -127 ≤ y := by omega
        clear hm wx
        go_enter Tryz.func100, Tryz.ntmps100
        go_wp2_with (first | (go_at_call 95; ((with_reducible refine ((c1 _).out).mono ?_); rintro e w1 ⟨rfl, hb⟩; have D1 := B1.out.below hb (by simp <;> omega); have D2 := B2.out.below hb (by simp <;> omega); have k1 := D1.cell; have f1 := D1.free; have l1 := D1.lt; have k2 := D2.cell; have f2 := D2.free; have l2 := D2.lt; have HB := Lib.hid hb; have ne1 : w.heap.size + 1 ≠ w.heap.size := (by omega); have DD := Lib.hid ((D2.far (p := ⟨w.heap.size, 0, none⟩) ne1 (.int .i8 (-127))).far (p := ⟨w.heap.size, 1, none⟩) ne1 (.int .i8 y)); clear D1 D2 hb hc ne1)) | ((with_reducible refine blk_gate (t := 39) rfl rfl input_info ?_); apply StoreBlk.mk rfl rfl; exact DD.out; (focus (simp [Value.oneCell'])); (focus rfl); (focus rfl)))
        refine bodyPost_ret (v := .agg #[.int .i8 (-127), .int .i8 y, .int .u8 p]) ?_ ?_ ?_
        · exact results_cell_row rfl _ _ _ _ #[.int .i8 (-127), .int .i8 y, .int .u8 p] (0, 0) _ rfl (Box.row DD.out _).is Tryz.underlying39 rfl input_info
        · rfl
        · exact ⟨rfl, Below.setRow' (((hb0.out.trans (HB.out.mono hb0.out.size)).setCell (p := ⟨w.heap.size, 0, none⟩) (Nat.le_refl _) _).setCell (p := ⟨w.heap.size, 1, none⟩) (Nat.le_refl _) _) (by omega) _⟩
    · have hy : y = -128 := by omega
      subst hy
      rw [Gf.tame_same hx, show Gf.tame (-128) = -127 from rfl]
      have hx' : -127 ≤ x := by omega
      clear hm wy
      go_enter Tryz.func100, Tryz.ntmps100
      go_wp2_with (first | (go_at_call 95; ((with_reducible refine ((c1 _).out).mono ?_); rintro e w1 ⟨rfl, hb⟩; have D1 := B1.out.below hb (by simp <;> omega); have D2 := B2.out.below hb (by simp <;> omega); have k1 := D1.cell; have f1 := D1.free; have l1 := D1.lt; have k2 := D2.cell; have f2 := D2.free; have l2 := D2.lt; have HB := Lib.hid hb; have ne1 : w.heap.size + 1 ≠ w.heap.size := (by omega); have DD := Lib.hid ((D2.far (p := ⟨w.heap.size, 0, none⟩) ne1 (.int .i8 x)).far (p := ⟨w.heap.size, 1, none⟩) ne1 (.int .i8 (-127))); clear D1 D2 hb hc ne1)) | ((with_reducible refine blk_gate (t := 39) rfl rfl input_info ?_); apply StoreBlk.mk rfl rfl; exact DD.out; (focus (simp [Value.oneCell'])); (focus rfl); (focus rfl)))
      refine bodyPost_ret (v := .agg #[.int .i8 x, .int .i8 (-127), .int .u8 p]) ?_ ?_ ?_
      · exact results_cell_row rfl _ _ _ _ #[.int .i8 x, .int .i8 (-127), .int .u8 p] (0, 0) _ rfl (Box.row DD.out _).is Tryz.underlying39 rfl input_info
      · rfl
      · exact ⟨rfl, Below.setRow' (((hb0.out.trans (HB.out.mono hb0.out.size)).setCell (p := ⟨w.heap.size, 0, none⟩) (Nat.le_refl _) _).setCell (p := ⟨w.heap.size, 1, none⟩) (Nat.le_refl _) _) (by omega) _⟩

set_option maxRecDepth 100000 in
set_option maxHeartbeats 1000000 in
theorem place_walk (g : Gm.G) (b B : Nat) (sc : Int) (x y d : Int) (w : World) (hbB : b ≤ B) (h : Has b B g w) (hd : 0 ≤ g.dice ∧ g.dice ≤ 18446744073709551615)
    (hx : Dn.share (Dn.next g.dice) 16777216 = x) (hy : Dn.share (Dn.next (Dn.next g.dice)) 16777216 = y) (hdd : Dn.next (Dn.next g.dice) = d) :
    Calls Tryz.prog 126 #[.pointer (some ⟨B, 0, none⟩), .int .i64 sc] w fun e w' => e = .returned (.agg #[.bool true, .int .i32 x, .int .i32 y, .int .i32 0, .int .i32 0, .int .i64 0, .int .i64 sc]) ∧ Has b B { g with dice := d } w' ∧ Keep b B w w' := by
  have c1 := fun X => Lib.hid (place_any g.dice hd X)
  rw [hx, hy, hdd] at c1
  have HH := Lib.hid (h.alloc (.cells #[.bool false, .int .i32 0, .int .i32 0, .int .i32 0, .int .i32 0, .int .i64 0, .int .i64 0] 24))
  have HK := Lib.hid ((Keep.refl hbB w).alloc (.cells #[.bool false, .int .i32 0, .int .i32 0, .int .i32 0, .int .i32 0, .int .i64 0, .int .i64 0] 24))
  have hBs := h.lt
  obtain ⟨A, c, hB, hO⟩ := h
  have bT : Box (w.alloc (.cells #[.bool false, .int .i32 0, .int .i32 0, .int .i32 0, .int .i32 0, .int .i64 0, .int .i64 0] 24)) w.heap.size 24 #[.bool false, .int .i32 0, .int .i32 0, .int .i32 0, .int .i32 0, .int .i64 0, .int .i64 0] := Box.made _ _ _
  have BT := Lib.hid bT
  have BG := Lib.hid (hB.alloc (.cells #[.bool false, .int .i32 0, .int .i32 0, .int .i32 0, .int .i32 0, .int .i64 0, .int .i64 0] 24))
  have hc := BG.out.cell
  have e1 := Gm.cells_1 g (.slice A g.shots.length c)
  clear bT hB hO hx hy hdd
  go_enter Tryz.func126, Tryz.ntmps126
  go_wp2_with (first | (go_at_call 141; ((with_reducible refine ((c1 _).out).mono ?_); rintro e w1 ⟨rfl, hb⟩; have D1 := BG.out.below hb (by simp <;> omega); have T1 := BT.out.below hb (by simp <;> omega); have k1 := D1.cell; have f1 := D1.free; have H1 := Lib.hid (HH.out.call hb); have K1 := Lib.hid ((HK.out.call hb).put 1 (.int .u64 d)); have ne1 : w.heap.size ≠ B := (by omega); have T2 := Lib.hid (T1.far (p := ⟨B, 1, none⟩) ne1 (.int .u64 d)); clear D1 T1 hb ne1)) | (refine wpList_build_is rfl (t := 24) (vs := [(0, .bool true), (1, .int .i32 x), (2, .int .i32 y), (6, .int .i64 sc)]) rfl rfl (built_ship _ _ _) ?_) | ((with_reducible refine blk_gate (t := 24) rfl rfl ship7_info ?_); apply StoreBlk.mk rfl rfl; exact T2.out; (focus (simp [Value.oneCell'])); (focus rfl); (focus rfl)))
  refine bodyPost_ret (v := .agg #[.bool true, .int .i32 x, .int .i32 y, .int .i32 0, .int .i32 0, .int .i64 0, .int .i64 sc]) ?_ ?_ ?_
  · exact results_cell_row rfl _ _ _ _ #[.bool true, .int .i32 x, .int .i32 y, .int .i32 0, .int .i32 0, .int .i64 0, .int .i64 sc] (0, 0) _ rfl (Box.row T2.out _).is Tryz.underlying24 rfl ship7_info
  · rfl
  · refine ⟨rfl, ?_, K1.out.freshRow (Nat.le_refl _) _⟩
    have h2 : Has b B { g with dice := d } (w1.setCell ⟨B, 1, none⟩ (.int .u64 d)) := H1.out.put rfl (fun _ hB => blk_dice hB d) (fun j hj => heap_setCell_other _ _ j _ hj)
    exact h2.offRow (by omega) T2.out (by decide) _
end Go.Proofs.YtiahpncglpfjeaaGreat
namespace Ro
open Go
section
variable {P : Program} {Q : Act → (World → Prop) → Prop} {o : Oper} {rest : List Oper} {a : Act} {C : World → Prop} {W : World}
theorem lexc_read (hs : isStore o = false) (hf : isFree o = false) {v : Value} (hrun : ∀ w, C w → (execOp a.eval o).run P w = .ok (.value v) w) (h : wpLex P Q rest (a.put o.dst v) C) : wpLex P Q (o :: rest) a C := by
  unfold wpLex
  rw [if_neg (by simp [hs]), if_neg (by simp [hf])]
  exact ⟨v, fun w hw => by unfold Gives; rw [hrun w hw]; exact ⟨rfl, hw⟩, h⟩
theorem lexc_call (hs : isStore o = false) (hf : isFree o = false) {v : Value} {f : FuncId} {args : Array Value} (hrun : ∀ w, C w → (execOp a.eval o).run P w = .ok (.enter f args) w) (hc : ∀ w, C w → Calls P f args w fun e w' => e = .returned v ∧ C w')
    (h : wpLex P Q rest (a.put o.dst v) C) : wpLex P Q (o :: rest) a C := by
  unfold wpLex
  rw [if_neg (by simp [hs]), if_neg (by simp [hf])]
  exact ⟨v, fun w hw => by unfold Gives; rw [hrun w hw]; exact hc w hw, h⟩
theorem lexc_store (hs : isStore o = true) {C' : World → Prop} (hrun : ∀ w, C w → ∃ W', (execOp a.eval o).run P w = .ok .skip W' ∧ C' W') (h : wpLex P Q rest (a.put o.dst undef) C') : wpLex P Q (o :: rest) a C := by
  unfold wpLex
  rw [if_pos hs]
  exact ⟨C', fun w hw => by obtain ⟨W', h1, h2⟩ := hrun w hw; unfold Gives; rw [h1]; exact ⟨rfl, h2⟩, h⟩
theorem lexc_end {Q : Exit → Act → World → Prop} (h : ∀ w', C w' → Q .normal a w') : wpLex P (fun a' C' => ∀ w', C' w' → Q .normal a' w') [] a C := h
end
end Ro
namespace Go.Proofs.YtiahpncglpfjeaaGreat
open Go.RowKit
set_option linter.unusedVariables false

section
variable (g : Gm.G) (s : Value) (k : Nat) (t : Gm.Ship)
theorem set_x (hk : k < 8) (u : Int) : (Gm.cells { g with ship := Gm.upd g.ship k t } s).setIfInBounds (2 + k * 7 + 1) (.int .i32 u) = Gm.cells { g with ship := Gm.upd g.ship k { t with x := u } } s := by
  match k, hk with | 0, _ | 1, _ | 2, _ | 3, _ | 4, _ | 5, _ | 6, _ | 7, _ => rfl
theorem set_y (hk : k < 8) (u : Int) : (Gm.cells { g with ship := Gm.upd g.ship k t } s).setIfInBounds (2 + k * 7 + 2) (.int .i32 u) = Gm.cells { g with ship := Gm.upd g.ship k { t with y := u } } s := by
  match k, hk with | 0, _ | 1, _ | 2, _ | 3, _ | 4, _ | 5, _ | 6, _ | 7, _ => rfl
theorem set_vx (hk : k < 8) (u : Int) : (Gm.cells { g with ship := Gm.upd g.ship k t } s).setIfInBounds (2 + k * 7 + 3) (.int .i32 u) = Gm.cells { g with ship := Gm.upd g.ship k { t with vx := u } } s := by
  match k, hk with | 0, _ | 1, _ | 2, _ | 3, _ | 4, _ | 5, _ | 6, _ | 7, _ => rfl
theorem set_vy (hk : k < 8) (u : Int) : (Gm.cells { g with ship := Gm.upd g.ship k t } s).setIfInBounds (2 + k * 7 + 4) (.int .i32 u) = Gm.cells { g with ship := Gm.upd g.ship k { t with vy := u } } s := by
  match k, hk with | 0, _ | 1, _ | 2, _ | 3, _ | 4, _ | 5, _ | 6, _ | 7, _ => rfl
theorem set_cool (hk : k < 8) (u : Int) : (Gm.cells { g with ship := Gm.upd g.ship k t } s).setIfInBounds (2 + k * 7 + 5) (.int .i64 u) = Gm.cells { g with ship := Gm.upd g.ship k { t with cool := u } } s := by
  match k, hk with | 0, _ | 1, _ | 2, _ | 3, _ | 4, _ | 5, _ | 6, _ | 7, _ => rfl
theorem set_score (hk : k < 8) (u : Int) : (Gm.cells { g with ship := Gm.upd g.ship k t } s).setIfInBounds (2 + k * 7 + 6) (.int .i64 u) = Gm.cells { g with ship := Gm.upd g.ship k { t with score := u } } s := by
  match k, hk with | 0, _ | 1, _ | 2, _ | 3, _ | 4, _ | 5, _ | 6, _ | 7, _ => rfl
end
/-- A game with a ship t in slot k. -/
abbrev shipG (g : Gm.G) (k : Nat) (t : Gm.Ship) : Gm.G := { g with ship := Gm.upd g.ship k t }
theorem shipG_at (g : Gm.G) (s : Value) (k j : Nat) (t : Gm.Ship) (hk : k < 8) (hj : j < 7) : (Gm.cells (shipG g k t) s)[2 + k * 7 + j]? = t.cells[j]? := by
  rw [Gm.cells_ship _ _ _ _ hk hj, show (shipG g k t).ship k = t from Gm.upd_same _ _ _]

/-- What is known while a ship is steered. -/
structure Steers (b B Bi k : Nat) (w0 : World) (g : Gm.G) (A : Option Addr) (c : Nat) (ic : Array Value) (t : Gm.Ship) (w : World) : Prop where
  game : Box w B 28 (Gm.cells (shipG g k t) (.slice A g.shots.length c))
  own : w.ownsRow b 90 6 (.slice A g.shots.length c) g.shots.length (Gm.shotCells g.shots)
  inp : Box w Bi 39 ic
  keep : Keep b B w0 w
section
variable {b B Bi k : Nat} {w0 w w' : World} {g : Gm.G} {A : Option Addr} {c : Nat} {ic : Array Value} {t : Gm.Ship}
theorem Steers.call (h : Steers b B Bi k w0 g A c ic t w) (hb : Below w.heap.size w w') : Steers b B Bi k w0 g A c ic t w' :=
  ⟨h.game.below hb h.game.lt, own_below h.own hb (Nat.le_refl _), h.inp.below hb h.inp.lt, h.keep.call hb⟩
theorem Steers.drew (h : Steers b B Bi k w0 g A c ic t w) : Steers b B Bi k w0 g A c ic t w.drew := ⟨h.game.drew, h.own.drew, h.inp.drew, h.keep.drew⟩
theorem Steers.put {t' : Gm.Ship} {i : Nat} {u : Value} (h : Steers b B Bi k w0 g A c ic t w) (he : (Gm.cells (shipG g k t) (.slice A g.shots.length c)).setIfInBounds i u = Gm.cells (shipG g k t') (.slice A g.shots.length c)) : Steers b B Bi k w0 g A c ic t' (w.setCell ⟨B, i, none⟩ u) :=
  ⟨he ▸ h.game.put i u, ownsRow_setCell_other (a := ⟨B, i, none⟩) h.own (h.game.unowned h.own (by decide)) u, h.inp.far (fun e => Box.apart h.game h.inp (by decide) e.symm) u, h.keep.put i u⟩
theorem Steers.has (h : Steers b B Bi k w0 g A c ic t w) : Has b B (shipG g k t) w := ⟨A, c, h.game, h.own⟩
end

/-- Where a ship goes that is steered so. -/
def steered (t : Gm.Ship) (x y : Int) : Gm.Ship := { t with vx := Gf.push t.vx x, vy := Gf.push t.vy y, x := Gf.move t.x (Gf.push t.vx x), y := Gf.move t.y (Gf.push t.vy y) }

set_option maxRecDepth 100000 in
set_option maxHeartbeats 4000000 in
theorem steer_any (g : Gm.G) (b B k : Nat) (x y p : Int) (w : World) (hbB : b ≤ B) (hk : k < 8) (h : Has b B g w) (ht : Gm.tyShip (g.ship k)) (wx : -128 ≤ x ∧ x ≤ 127) (wy : -128 ≤ y ∧ y ≤ 127) :
    Calls Tryz.prog 101 #[.pointer (some ⟨B, 2 + k * 7, none⟩), .agg #[.int .i8 x, .int .i8 y, .int .u8 p]] w fun e w' => (∃ v, e = .returned v) ∧ Has b B (shipG g k (steered (g.ship k) x y)) w' ∧ Keep b B w w' := by
  obtain ⟨A, c, hB, hO⟩ := h
  obtain ⟨t, hT⟩ : ∃ t, t = g.ship k := ⟨_, rfl⟩
  have hB' : Box w B 28 (Gm.cells (shipG g k t) (.slice A g.shots.length c)) := by rw [hT, shipG, Gm.upd_self]; exact hB
  have C0 : Steers b B w.heap.size k w g A c #[.int .i8 x, .int .i8 y, .int .u8 p] t (w.alloc (.cells #[.int .i8 x, .int .i8 y, .int .u8 p] 39)) :=
    ⟨hB'.alloc _, hO.alloc _, Box.made _ _ _, (Keep.refl hbB w).alloc _⟩
  rw [← hT] at ht ⊢
  obtain ⟨ti, xi, yi, vxi, vyi, ci, si⟩ := ht
  unfold Gm.i32 at *
  have p1 := Gf.push_bd t.vx x
  have p2 := Gf.push_bd t.vy y
  have k1 := fun X => Lib.hid (fldpush_any t.vx x (by omega) wx X)
  have k2 := fun X => Lib.hid (fldpush_any t.vy y (by omega) wy X)
  have k3 := fun X => Lib.hid (fldmove_any t.x (Gf.push t.vx x) (by omega) (by omega) X)
  have k4 := fun X => Lib.hid (fldmove_any t.y (Gf.push t.vy y) (by omega) (by omega) X)
  have F : steered t x y = { t with vx := Gf.push t.vx x, vy := Gf.push t.vy y, x := Gf.move t.x (Gf.push t.vx x), y := Gf.move t.y (Gf.push t.vy y) } := rfl
  rw [F]
  generalize hvx : Gf.push t.vx x = VX at p1 k1 k3 ⊢
  generalize hvy : Gf.push t.vy y = VY at p2 k2 k4 ⊢
  generalize hx : Gf.move t.x VX = X at k3 ⊢
  generalize hy : Gf.move t.y VY = Y at k4 ⊢
  have HC := Lib.hid C0
  clear hT hB hB' hO C0 F hvx hvy hx hy ti
  go_enter Tryz.func101, Tryz.ntmps101
  go_upto_region 1 with fail
  refine Ro.wp_region_lex (by kernel_rfl) (by kernel_rfl) (Steers b B w.heap.size k w g A c #[.int .i8 x, .int .i8 y, .int .u8 p] t) HC.out.drew ?_
  repeat (first
    | (apply Ro.lex_free rfl rfl; focus (intro _; go_simp; first | done | rfl))
    | (apply Ro.lexc_read rfl rfl; focus (intro W hW; have c0 := hW.game.cell; have ci := hW.inp.cell; have s3 := shipG_at g (.slice A g.shots.length c) k 3 t hk (by omega); have s4 := shipG_at g (.slice A g.shots.length c) k 4 t hk (by omega); simp only [Gm.Ship.cells, List.getElem?_cons_zero, List.getElem?_cons_succ] at s3 s4; clear hW; go_simp; first | done | rfl))
    | (apply Ro.lexc_call rfl rfl; (focus (intro W hW; clear hW; go_simp; first | done | rfl | exact ⟨rfl, rfl⟩)); (focus (intro W hW; first | ((with_reducible refine (k1 W).out.mono ?_); exact fun e w' h => ⟨h.1, hW.call h.2⟩) | ((with_reducible refine (k2 W).out.mono ?_); exact fun e w' h => ⟨h.1, hW.call h.2⟩)))))
  refine Ro.lexc_store rfl (C' := Steers b B w.heap.size k w g A c #[.int .i8 x, .int .i8 y, .int .u8 p] { t with vx := VX }) (fun W hW => ⟨_, ?_, hW.put (set_vx g _ k t hk _)⟩) ?_
  focus
    have c0 := hW.game.cell
    have f0 := hW.game.free
    have s3 := shipG_at g (.slice A g.shots.length c) k 3 t hk (by omega)
    simp only [Gm.Ship.cells, List.getElem?_cons_zero, List.getElem?_cons_succ] at s3
    clear hW
    go_simp
    first | done | rfl
  repeat (first
    | (apply Ro.lex_free rfl rfl; focus (intro _; go_simp; first | done | rfl))
    | (apply Ro.lexc_read rfl rfl; focus (intro W hW; have c0 := hW.game.cell; have ci := hW.inp.cell; have s3 := shipG_at g (.slice A g.shots.length c) k 3 { t with vx := VX } hk (by omega); have s4 := shipG_at g (.slice A g.shots.length c) k 4 { t with vx := VX } hk (by omega); simp only [Gm.Ship.cells, List.getElem?_cons_zero, List.getElem?_cons_succ] at s3 s4; clear hW; go_simp; first | done | rfl))
    | (apply Ro.lexc_call rfl rfl; (focus (intro W hW; clear hW; go_simp; first | done | rfl | exact ⟨rfl, rfl⟩)); (focus (intro W hW; first | ((with_reducible refine (k1 W).out.mono ?_); exact fun e w' h => ⟨h.1, hW.call h.2⟩) | ((with_reducible refine (k2 W).out.mono ?_); exact fun e w' h => ⟨h.1, hW.call h.2⟩)))))
  refine Ro.lexc_store rfl (C' := Steers b B w.heap.size k w g A c #[.int .i8 x, .int .i8 y, .int .u8 p] { t with vx := VX, vy := VY }) (fun W hW => ⟨_, ?_, hW.put (set_vy g _ k { t with vx := VX } hk _)⟩) ?_
  focus
    have c0 := hW.game.cell
    have f0 := hW.game.free
    have s4 := shipG_at g (.slice A g.shots.length c) k 4 { t with vx := VX } hk (by omega)
    simp only [Gm.Ship.cells, List.getElem?_cons_zero, List.getElem?_cons_succ] at s4
    clear hW
    go_simp
    first | done | rfl
  refine Ro.lexc_end fun W1 HW => ?_
  have HC1 := Lib.hid HW
  clear HW HC
  go_upto_region 2 with fail
  refine Ro.wp_region_lex (by kernel_rfl) (by kernel_rfl) (Steers b B w.heap.size k w g A c #[.int .i8 x, .int .i8 y, .int .u8 p] { t with vx := VX, vy := VY }) HC1.out.drew ?_
  repeat (first
    | (apply Ro.lex_free rfl rfl; focus (intro _; go_simp; first | done | rfl))
    | (apply Ro.lexc_read rfl rfl; focus (intro W hW; have c0 := hW.game.cell; have ci := hW.inp.cell; have s1 := shipG_at g (.slice A g.shots.length c) k 1 { t with vx := VX, vy := VY } hk (by omega); have s2 := shipG_at g (.slice A g.shots.length c) k 2 { t with vx := VX, vy := VY } hk (by omega); have s3 := shipG_at g (.slice A g.shots.length c) k 3 { t with vx := VX, vy := VY } hk (by omega); have s4 := shipG_at g (.slice A g.shots.length c) k 4 { t with vx := VX, vy := VY } hk (by omega); simp only [Gm.Ship.cells, List.getElem?_cons_zero, List.getElem?_cons_succ] at s1 s2 s3 s4; clear hW; go_simp; first | done | rfl))
    | (apply Ro.lexc_call rfl rfl; (focus (intro W hW; clear hW; go_simp; first | done | rfl | exact ⟨rfl, rfl⟩)); (focus (intro W hW; first | ((with_reducible refine (k3 W).out.mono ?_); exact fun e w' h => ⟨h.1, hW.call h.2⟩) | ((with_reducible refine (k4 W).out.mono ?_); exact fun e w' h => ⟨h.1, hW.call h.2⟩)))))
  refine Ro.lexc_store rfl (C' := Steers b B w.heap.size k w g A c #[.int .i8 x, .int .i8 y, .int .u8 p] { t with vx := VX, vy := VY, x := X }) (fun W hW => ⟨_, ?_, hW.put (set_x g _ k { t with vx := VX, vy := VY } hk _)⟩) ?_
  focus
    have c0 := hW.game.cell
    have f0 := hW.game.free
    have s1 := shipG_at g (.slice A g.shots.length c) k 1 { t with vx := VX, vy := VY } hk (by omega)
    simp only [Gm.Ship.cells, List.getElem?_cons_zero, List.getElem?_cons_succ] at s1
    clear hW
    go_simp
    first | done | rfl
  repeat (first
    | (apply Ro.lex_free rfl rfl; focus (intro _; go_simp; first | done | rfl))
    | (apply Ro.lexc_read rfl rfl; focus (intro W hW; have c0 := hW.game.cell; have ci := hW.inp.cell; have s1 := shipG_at g (.slice A g.shots.length c) k 1 { t with vx := VX, vy := VY, x := X } hk (by omega); have s2 := shipG_at g (.slice A g.shots.length c) k 2 { t with vx := VX, vy := VY, x := X } hk (by omega); have s3 := shipG_at g (.slice A g.shots.length c) k 3 { t with vx := VX, vy := VY, x := X } hk (by omega); have s4 := shipG_at g (.slice A g.shots.length c) k 4 { t with vx := VX, vy := VY, x := X } hk (by omega); simp only [Gm.Ship.cells, List.getElem?_cons_zero, List.getElem?_cons_succ] at s1 s2 s3 s4; clear hW; go_simp; first | done | rfl))
    | (apply Ro.lexc_call rfl rfl; (focus (intro W hW; clear hW; go_simp; first | done | rfl | exact ⟨rfl, rfl⟩)); (focus (intro W hW; first | ((with_reducible refine (k3 W).out.mono ?_); exact fun e w' h => ⟨h.1, hW.call h.2⟩) | ((with_reducible refine (k4 W).out.mono ?_); exact fun e w' h => ⟨h.1, hW.call h.2⟩)))))
  refine Ro.lexc_store rfl (C' := Steers b B w.heap.size k w g A c #[.int .i8 x, .int .i8 y, .int .u8 p] { t with vx := VX, vy := VY, x := X, y := Y }) (fun W hW => ⟨_, ?_, hW.put (set_y g _ k { t with vx := VX, vy := VY, x := X } hk _)⟩) ?_
  focus
    have c0 := hW.game.cell
    have f0 := hW.game.free
    have s2 := shipG_at g (.slice A g.shots.length c) k 2 { t with vx := VX, vy := VY, x := X } hk (by omega)
    simp only [Gm.Ship.cells, List.getElem?_cons_zero, List.getElem?_cons_succ] at s2
    clear hW
    go_simp
    first | done | rfl
  refine Ro.lexc_end fun W2 HW => ?_
  have HC2 := Lib.hid HW
  clear HW HC1
  go_wp2
  go_end0
  exact ⟨⟨_, rfl⟩, HC2.out.has, HC2.out.keep⟩
end Go.Proofs.YtiahpncglpfjeaaGreat
