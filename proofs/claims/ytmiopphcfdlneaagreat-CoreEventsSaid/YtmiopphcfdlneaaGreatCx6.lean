/-
Several texts in one: Ro Hl Hm Hn He Ho Hq Hr.
-/
import Derived.Test.YtmiopphcfdlneaaGreatCx5
set_option maxRecDepth 100000
set_option maxHeartbeats 8000000
set_option linter.unusedVariables false
set_option linter.unusedSimpArgs false
namespace Ro
open Go
def qag (o : Oper) : Bool := match o.op with | .store .. => true | _ => false
def qaG (o : Oper) : Bool := match o.op with | .fieldAddr .. | .indexAddr .. | .move .. | .assign .. | .pick .. | .extract .. | .binOp .. | .unOp .. | .build .. => true | _ => false
def Gives (P : Program) (o : Oper) (a : Act) (w : World) (v : Value) (C : World -> Prop) : Prop :=
 match (execOp a.eval o).run P w with
 | .ok (.value u) w1 => u = v /\ C w1
 | .ok .skip w1 => undef = v /\ C w1
 | .ok (.enter f args) w1 => Calls P f args w1 fun e w2 => e = .returned v /\ C w2
 | _ => False
theorem Gives.wp {P : Program} {o : Oper} {a : Act} {w : World} {v : Value} {C : World -> Prop} {K : Act -> World -> Prop} {Q : Exit -> Act -> World -> Prop} (h : Gives P o a w v C) (hK : ∀ w', C w' -> K (a.put o.dst v) w') : o.wp P a w K Q := by
 unfold Gives at h
 unfold Oper.wp
 generalize (execOp a.eval o).run P w = r at *
 cases r with
 | ok n w1 =>
  cases n <;> simp only [Oper.upon] at h ⊢
  case value u => obtain ⟨rfl, h⟩ := h; exact hK _ h
  case skip => obtain ⟨rfl, h⟩ := h; exact hK _ h
  case enter f args =>
   exact h.mono fun e w2 ⟨he, hw⟩ => by subst he; exact hK _ hw
 | halt x w1 => cases h
theorem Gives.congr {P : Program} {o : Oper} {a a' : Act} {w : World} {v : Value} {C : World -> Prop} (h : Gives P o a w v C) (he : execOp a'.eval o = execOp a.eval o) : Gives P o a' w v C := by
 unfold Gives at *; rw [he]; exact h
def qaR (P : Program) (Q : Act -> (World -> Prop) -> Prop) : List Oper -> Act -> (World -> Prop) -> Prop
 | [], a, C => Q a C
 | o :: rest, a, C =>
  if qag o then ∃ C', (∀ w, C w -> Gives P o a w undef C') /\ qaR P Q rest (a.put o.dst undef) C'
  else if qaG o then ∃ v, (∀ w, Gives P o a w v (fun w' => w' = w)) /\ qaR P Q rest (a.put o.dst v) C
  else ∃ v, (∀ w, C w -> Gives P o a w v C) /\ qaR P Q rest (a.put o.dst v) C
structure Run (P : Program) (l : List Oper) (A : Nat -> Act) (C : Nat -> World -> Prop) (v : Nat -> Value) : Prop where
 act : ∀ i o, l[i]? = some o -> A (i + 1) = (A i).put o.dst (v i)
 store : ∀ i o, l[i]? = some o -> qag o = true -> v i = undef /\ ∀ w, C i w -> Gives P o (A i) w undef (C (i + 1))
 free : ∀ i o, l[i]? = some o -> qag o = false -> qaG o = true -> C (i + 1) = C i /\ ∀ w, Gives P o (A i) w (v i) (fun w' => w' = w)
 read : ∀ i o, l[i]? = some o -> qag o = false -> qaG o = false -> C (i + 1) = C i /\ ∀ w, C i w -> Gives P o (A i) w (v i) (C i)
def qdf {α : Type} (x : α) (f : Nat -> α) : Nat -> α
 | 0 => x
 | i + 1 => f i
theorem qba {P : Program} {Q : Act -> (World -> Prop) -> Prop} : ∀ (l : List Oper) (a : Act) (C : World -> Prop), qaR P Q l a C ->
 ∃ A Cs v, Run P l A Cs v /\ A 0 = a /\ Cs 0 = C /\ Q (A l.length) (Cs l.length)
 | [], a, C, h => ⟨fun _ => a, fun _ => C, fun _ => undef, ⟨fun i o h => by simp at h, fun i o h => by simp at h, fun i o h => by simp at h, fun i o h => by simp at h⟩, rfl, rfl, h⟩
 | o :: l, a, C, h => by
  unfold qaR at h
  by_cases hs : qag o = true
  · rw [if_pos hs] at h
    obtain ⟨C', h1, h2⟩ := h
    obtain ⟨A, Cs, v, hr, hA, hC, hQ⟩ := qba l _ C' h2
    refine ⟨qdf a A, qdf C Cs, qdf undef v, ⟨?_, ?_, ?_, ?_⟩, rfl, rfl, hQ⟩
    · intro i o' ho'
      cases i with
      | zero => simp at ho'; subst ho'; exact hA
      | succ i => exact hr.act i o' (by simpa using ho')
    · intro i o' ho' hs'
      cases i with
      | zero => simp at ho'; subst ho'; exact ⟨rfl, fun w hw => by show Gives P o a w undef (Cs 0); rw [hC]; exact h1 w hw⟩
      | succ i => exact hr.store i o' (by simpa using ho') hs'
    · intro i o' ho' hs' hf'
      cases i with
      | zero => simp at ho'; subst ho'; rw [hs] at hs'; cases hs'
      | succ i => exact hr.free i o' (by simpa using ho') hs' hf'
    · intro i o' ho' hs' hf'
      cases i with
      | zero => simp at ho'; subst ho'; rw [hs] at hs'; cases hs'
      | succ i => exact hr.read i o' (by simpa using ho') hs' hf'
  · have hs0 : qag o = false := by simpa using hs
    rw [if_neg hs] at h
    by_cases hf : qaG o = true
    · rw [if_pos hf] at h
      obtain ⟨u, h1, h2⟩ := h
      obtain ⟨A, Cs, v, hr, hA, hC, hQ⟩ := qba l _ C h2
      refine ⟨qdf a A, qdf C Cs, qdf u v, ⟨?_, ?_, ?_, ?_⟩, rfl, rfl, hQ⟩
      · intro i o' ho'
        cases i with
        | zero => simp at ho'; subst ho'; exact hA
        | succ i => exact hr.act i o' (by simpa using ho')
      · intro i o' ho' hs'
        cases i with
        | zero => simp at ho'; subst ho'; rw [hs0] at hs'; cases hs'
        | succ i => exact hr.store i o' (by simpa using ho') hs'
      · intro i o' ho' hs' hf'
        cases i with
        | zero => simp at ho'; subst ho'; exact ⟨hC, h1⟩
        | succ i => exact hr.free i o' (by simpa using ho') hs' hf'
      · intro i o' ho' hs' hf'
        cases i with
        | zero => simp at ho'; subst ho'; rw [hf] at hf'; cases hf'
        | succ i => exact hr.read i o' (by simpa using ho') hs' hf'
    · rw [if_neg hf] at h
      obtain ⟨u, h1, h2⟩ := h
      obtain ⟨A, Cs, v, hr, hA, hC, hQ⟩ := qba l _ C h2
      refine ⟨qdf a A, qdf C Cs, qdf u v, ⟨?_, ?_, ?_, ?_⟩, rfl, rfl, hQ⟩
      · intro i o' ho'
        cases i with
        | zero => simp at ho'; subst ho'; exact hA
        | succ i => exact hr.act i o' (by simpa using ho')
      · intro i o' ho' hs'
        cases i with
        | zero => simp at ho'; subst ho'; rw [hs0] at hs'; cases hs'
        | succ i => exact hr.store i o' (by simpa using ho') hs'
      · intro i o' ho' hs' hf'
        cases i with
        | zero => simp at ho'; subst ho'; exact absurd hf' hf
        | succ i => exact hr.free i o' (by simpa using ho') hs' hf'
      · intro i o' ho' hs' hf'
        cases i with
        | zero => simp at ho'; subst ho'; exact ⟨hC, h1⟩
        | succ i => exact hr.read i o' (by simpa using ho') hs' hf'
section
variable {l : List Oper} {v : Nat -> Value} {a0 : Act}
structure Shape (l : List Oper) (v : Nat -> Value) (a0 : Act) (S : Nat -> Bool) (a : Act) : Prop where
 size : a.tmps.size = a0.tmps.size
 defers : a.defers = a0.defers
 done : ∀ j o t, l[j]? = some o -> o.dst = some t -> S j = true -> a.tmps[t]? = if t < a0.tmps.size then some (v j) else none
 rest : ∀ t, (∀ j o, l[j]? = some o -> o.dst = some t -> S j = false) -> a.tmps[t]? = a0.tmps[t]?
def qb2 (l : List Oper) : Prop := ∀ (i j : Nat) (oi oj : Oper) (t : Tmp), l[i]? = some oi -> l[j]? = some oj -> oi.dst = some t -> oj.dst = some t -> i = j
theorem Shape.start : Shape l v a0 (fun _ => false) a0 := ⟨rfl, rfl, fun _ _ _ _ _ h => (by cases h), fun _ _ => rfl⟩
theorem Shape.put {S : Nat -> Bool} {a : Act} (hd : qb2 l) (h : Shape l v a0 S a) {i : Nat} {o : Oper} (ho : l[i]? = some o) : Shape l v a0 (fun j => S j || j == i) (a.put o.dst (v i)) := by
 cases hdst : o.dst with
 | none =>
  refine ⟨h.size, h.defers, fun j oj t hj ht hS => ?_, fun t ht => ?_⟩
  · simp only [Bool.or_eq_true, beq_iff_eq] at hS
    rcases hS with hS | rfl
    · exact h.done j oj t hj ht hS
    · rw [ho] at hj; injection hj with hj; subst hj; rw [hdst] at ht; cases ht
  · exact h.rest t fun j oj hj ht' => by have := ht j oj hj ht'; simp at this; exact this.1
 | some d =>
  refine ⟨by simp [Act.put, h.size], h.defers, fun j oj t hj ht hS => ?_, fun t ht => ?_⟩
  · simp only [Act.put, Array.getElem?_setIfInBounds]
    by_cases htd : d = t
    · subst htd
      have : j = i := hd j i oj o d hj ho ht hdst
      subst this
      rw [if_pos rfl, h.size]
    · rw [if_neg htd]
      simp only [Bool.or_eq_true, beq_iff_eq] at hS
      rcases hS with hS | rfl
      · exact h.done j oj t hj ht hS
      · rw [ho] at hj; injection hj with hj; subst hj; rw [hdst] at ht; injection ht with ht; exact absurd ht htd
  · have hne : d ≠ t := fun e => by subst e; have := ht i o ho hdst; simp at this
    simp only [Act.put, Array.getElem?_setIfInBounds, if_neg hne]
    exact h.rest t fun j oj hj ht' => by have := ht j oj hj ht'; simp at this; exact this.1
theorem Shape.same {S S' : Nat -> Bool} {a a' : Act} (h : Shape l v a0 S a) (h' : Shape l v a0 S' a') {t : Nat} (hS : ∀ j o, l[j]? = some o -> o.dst = some t -> S j = S' j) : a.tmps[t]? = a'.tmps[t]? := by
 by_cases hx : ∃ j o, l[j]? = some o /\ o.dst = some t /\ S j = true
 · obtain ⟨j, o, hj, ht, hs⟩ := hx
   rw [h.done j o t hj ht hs, h'.done j o t hj ht (by rw [<- hS j o hj ht]; exact hs)]
 · have hn : ∀ j o, l[j]? = some o -> o.dst = some t -> S j = false := fun j o hj ht => by
    cases hs : S j
    · rfl
    · exact absurd ⟨j, o, hj, ht, hs⟩ hx
   rw [h.rest t hn, h'.rest t fun j o hj ht => by rw [<- hS j o hj ht]; exact hn j o hj ht]
theorem Shape.ext {S S' : Nat -> Bool} {a a' : Act} (h : Shape l v a0 S a) (h' : Shape l v a0 S' a') (hS : ∀ j o, l[j]? = some o -> S j = S' j) : a = a' := by
 have ht : a.tmps = a'.tmps := Array.ext_getElem? fun t => h.same h' fun j o hj _ => hS j o hj
 have hd : a.defers = a'.defers := h.defers.trans h'.defers.symm
 cases a; cases a'; simp_all
theorem Shape.congr {S S' : Nat -> Bool} {a : Act} (h : Shape l v a0 S a) (hS : ∀ j o, l[j]? = some o -> S j = S' j) : Shape l v a0 S' a :=
 ⟨h.size, h.defers, fun j o t hj ht hs => h.done j o t hj ht (by rw [hS j o hj]; exact hs), fun t ht => h.rest t fun j o hj hd => by rw [hS j o hj]; exact ht j o hj hd⟩
theorem Run.shape {P : Program} {A : Nat -> Act} {C : Nat -> World -> Prop} (hr : Run P l A C v) (hd : qb2 l) : ∀ k, k <= l.length -> Shape l v (A 0) (fun j => decide (j < k)) (A k)
 | 0, _ => Shape.start.congr fun j o _ => by simp
 | k + 1, hk => by
  have ho : l[k]? = some (l[k]'(by omega)) := List.getElem?_eq_getElem (by omega)
  rw [hr.act k _ ho]
  refine ((Run.shape hr hd k (by omega)).put hd ho).congr fun j o _ => ?_
  rw [Bool.eq_iff_iff]; simp; omega
end
def tb (b : Array Nat) (i j : Nat) : Bool := (b.getD i 0).testBit j
def qgO (l : List Oper) (b : Array Nat) (i j : Nat) : Bool :=
 match l[i]?, l[j]? with
 | some oi, some oj =>
  (!(tb b i j) || oi.after.any fun e => Region.binds .any e && (e.on == j || tb b e.on j)) &&
  (i == j || ((match oi.dst, oj.dst with | some d, some d' => d != d' | _, _ => true) &&
   (match oj.dst with | some d => !(oi.looksAt l.toArray).contains d || (if j < i then tb b i j else tb b j i) | none => true) &&
   (!qag oj || qaG oi || (if j < i then tb b i j else tb b j i))))
 | _, _ => true
def oneB (l : List Oper) (i : Nat) : Bool :=
 match l[i]? with
 | some o => o.guard.isNone && !(qag o && qaG o) && o.after.all fun e => !Region.binds .any e || decide (e.on < i)
 | none => true
def okB (l : List Oper) : Bool :=
 Region.noSelect l.toArray && ((List.range l.length).all fun i => oneB l i && (List.range l.length).all fun j => qgO l (Region.before l.toArray) i j)
structure Ok (l : List Oper) (cl : Nat -> Nat -> Bool) : Prop where
 sel : Region.noSelect l.toArray = true
 guard : ∀ (i : Nat) (o : Oper), l[i]? = some o -> o.guard = none
 down : ∀ (i : Nat) (o : Oper), l[i]? = some o -> ∀ e ∈ o.after, Region.binds .any e = true -> e.on < i
 cert : ∀ (i j : Nat) (o oj : Oper), l[i]? = some o -> l[j]? = some oj -> cl i j = true -> ∃ e ∈ o.after, Region.binds .any e = true /\ (e.on = j \/ cl e.on j = true)
 dist : qb2 l
 looks : ∀ (i j : Nat) (oi oj : Oper) (t : Tmp), l[i]? = some oi -> l[j]? = some oj -> i ≠ j -> oj.dst = some t -> t ∈ oi.looksAt l.toArray -> (if j < i then cl i j else cl j i) = true
 store : ∀ (i j : Nat) (oi oj : Oper), l[i]? = some oi -> l[j]? = some oj -> i ≠ j -> qag oj = true -> qaG oi = false -> (if j < i then cl i j else cl j i) = true
theorem Ok.of (l : List Oper) (h : okB l = true) : Ok l (tb (Region.before l.toArray)) := by
 simp only [okB, Bool.and_eq_true] at h
 obtain ⟨h0, h⟩ := h
 have h1 : ∀ i o, l[i]? = some o -> oneB l i = true /\ ∀ j oj, l[j]? = some oj -> qgO l (Region.before l.toArray) i j = true := fun i o ho => by
  have hi : i < l.length := (List.getElem?_eq_some_iff.1 ho).1
  have := List.all_eq_true.1 h i (List.mem_range.2 hi)
  simp only [Bool.and_eq_true] at this
  exact ⟨this.1, fun j oj hj => List.all_eq_true.1 this.2 j (List.mem_range.2 (List.getElem?_eq_some_iff.1 hj).1)⟩
 have one : ∀ i o, l[i]? = some o -> (o.guard.isNone = true /\ (!(qag o && qaG o)) = true) /\ (o.after.all fun e => !Region.binds .any e || decide (e.on < i)) = true := fun i o ho => by
  have := (h1 i o ho).1
  simp only [oneB, ho, Bool.and_eq_true] at this
  exact this
 have two : ∀ i j oi oj, l[i]? = some oi -> l[j]? = some oj ->
  (!(tb (Region.before l.toArray) i j) || oi.after.any fun e => Region.binds .any e && (e.on == j || tb (Region.before l.toArray) e.on j)) = true /\
  (i == j || ((match oi.dst, oj.dst with | some d, some d' => d != d' | _, _ => true) &&
  (match oj.dst with | some d => !(oi.looksAt l.toArray).contains d || (if j < i then tb (Region.before l.toArray) i j else tb (Region.before l.toArray) j i) | none => true) &&
  (!qag oj || qaG oi || (if j < i then tb (Region.before l.toArray) i j else tb (Region.before l.toArray) j i)))) = true := fun i j oi oj hi hj => by
  have := (h1 i oi hi).2 j oj hj
  simp only [qgO, hi, hj, Bool.and_eq_true] at this
  exact this
 refine ⟨h0, fun i o ho => by simpa using (one i o ho).1.1, fun i o ho e he hb => ?_, fun i j o oj hi hj hc => ?_, fun i j oi oj t hi hj hdi hdj => ?_, fun i j oi oj t hi hj hne hdj ht => ?_, fun i j oi oj hi hj hne hs hf => ?_⟩
 · have := (Array.all_eq_true_iff_forall_mem.1 (one i o ho).2) e he
   simpa [hb] using this
 · have := (two i j o oj hi hj).1
   rw [hc] at this
   simp at this
   obtain ⟨k, hk, h1, h2⟩ := this
   exact ⟨o.after[k], Array.getElem_mem hk, h1, h2⟩
 · by_cases hij : i = j
   · exact hij
   · have := (two i j oi oj hi hj).2
     simp [hij, hdi, hdj] at this
 · have := (two i j oi oj hi hj).2
   simp only [Bool.or_eq_true, beq_iff_eq, Bool.and_eq_true, hne, false_or, hdj] at this
   have h2 := this.1.2
   rcases h2 with h2 | h2
   · simp at h2; exact absurd ht h2
   · exact h2
 · have := (two i j oi oj hi hj).2
   simp only [Bool.or_eq_true, beq_iff_eq, Bool.and_eq_true, hne, false_or] at this
   rcases this.2 with (h2 | h2) | h2
   · simp [hs] at h2
   · rw [hf] at h2; cases h2
   · exact h2
def unl (f : Nat -> Bool) : Nat -> Nat
 | 0 => 0
 | k + 1 => unl f k + (if f k then 0 else 1)
theorem qfA (f : Nat -> Bool) : ∀ n, unl f n <= n
 | 0 => Nat.le_refl _
 | n + 1 => by have := qfA f n; unfold unl; split <;> omega
theorem qcx {f : Nat -> Bool} : ∀ {n}, unl f n = 0 -> ∀ i, i < n -> f i = true
 | 0, _, i, h => absurd h (by omega)
 | n + 1, h, i, hi => by
  unfold unl at h
  by_cases hfn : f n = true
  · rw [if_pos hfn] at h
    by_cases hin : i = n
    · rw [hin]; exact hfn
    · exact qcx (n := n) (by omega) i (by omega)
  · rw [if_neg hfn] at h; omega
theorem qcB {f g : Nat -> Bool} : ∀ {n}, (∀ i, i < n -> f i = g i) -> unl f n = unl g n
 | 0, _ => rfl
 | n + 1, h => by unfold unl; rw [qcB (n := n) fun i hi => h i (by omega), h n (by omega)]
theorem qde {f g : Nat -> Bool} {i : Nat} (h0 : f i = false) (h1 : g i = true) (ho : ∀ j, j ≠ i -> g j = f j) : ∀ {n}, i < n -> unl g n + 1 = unl f n
 | 0, h => absurd h (by omega)
 | n + 1, h => by
  unfold unl
  by_cases hin : i = n
  · subst hin
    rw [qcB (n := i) fun j hj => ho j (by omega), h0, h1]; simp
  · have := qde h0 h1 ho (n := n) (by omega)
    rw [ho n (by omega)]; omega
structure Inv (l : List Oper) (v : Nat -> Value) (a0 : Act) (C : Nat -> World -> Prop) (listed : Array Bool) (a : Act) (w : World) : Prop where
 size : listed.size = l.length
 closed : ∀ (i : Nat) (o : Oper), l[i]? = some o -> listed.getD i false = true -> ∀ e ∈ o.after, Region.binds .any e = true -> listed.getD e.on false = true
 shape : Shape l v a0 (fun j => listed.getD j false) a
 world : ∀ i, i <= l.length -> (∀ (j : Nat) (o : Oper), l[j]? = some o -> qag o = true -> listed.getD j false = decide (j < i)) -> C i w
section
variable {P : Program} {l : List Oper} {A : Nat -> Act} {C : Nat -> World -> Prop} {v : Nat -> Value} {cl : Nat -> Nat -> Bool} {listed : Array Bool} {a : Act} {w : World}
theorem Inv.down (ok : Ok l cl) (h : Inv l v (A 0) C listed a w) : ∀ (n i j : Nat), i < n -> (∃ o, l[i]? = some o) -> (∃ o, l[j]? = some o) -> cl i j = true -> listed.getD i false = true -> listed.getD j false = true
 | 0, _, _, hi, _, _, _, _ => absurd hi (by omega)
 | n + 1, i, j, hi, ⟨o, ho⟩, ⟨oj, hj⟩, hc, hl => by
  obtain ⟨e, he, hb, h'⟩ := ok.cert i j o oj ho hj hc
  have h1 := h.closed i o ho hl e he hb
  rcases h' with rfl | h'
  · exact h1
  · have hd := ok.down i o ho e he hb
    have hlt : i < l.length := (List.getElem?_eq_some_iff.1 ho).1
    exact Inv.down ok h n e.on j (by omega) ⟨_, List.getElem?_eq_getElem (show e.on < l.length by omega)⟩ ⟨oj, hj⟩ h' h1
theorem Run.between (hr : Run P l A C v) {i : Nat} : ∀ (d k : Nat), k = i + d -> k <= l.length -> (∀ (j : Nat) (o : Oper), l[j]? = some o -> qag o = true -> i <= j -> j < k -> False) -> C k = C i
 | 0, k, hk, _, _ => by rw [hk]; rfl
 | d + 1, k, hk, hl, hn => by
  have ih := Run.between hr d (k - 1) (by omega) (by omega) (fun j o hj hs h1 h2 => hn j o hj hs h1 (by omega))
  have ho : l[k - 1]? = some (l[k - 1]'(by omega)) := List.getElem?_eq_getElem (by omega)
  have hs : qag (l[k - 1]'(by omega)) = false := by
   cases h : qag (l[k - 1]'(by omega))
   · rfl
   · exact (hn _ _ ho h (by omega) (by omega)).elim
  have e : k - 1 + 1 = k := by omega
  cases hf : qaG (l[k - 1]'(by omega))
  · have := (hr.read _ _ ho hs hf).1; rw [e] at this; rw [this, ih]
  · have := (hr.free _ _ ho hs hf).1; rw [e] at this; rw [this, ih]
theorem Run.one (hr : Run P l A C v) {f : Nat -> Bool} {i k : Nat} (hi : i <= l.length) (hk : k <= l.length) (h1 : ∀ (j : Nat) (o : Oper), l[j]? = some o -> qag o = true -> f j = decide (j < i)) (h2 : ∀ (j : Nat) (o : Oper), l[j]? = some o -> qag o = true -> f j = decide (j < k)) : C k = C i := by
 rcases Nat.le_total i k with h | h
 · exact hr.between (k - i) k (by omega) hk fun j o hj hs ha hb => by
    have e1 := h1 j o hj hs; have e2 := h2 j o hj hs
    rw [e1] at e2; simp at e2; omega
 · exact (hr.between (i - k) i (by omega) hi fun j o hj hs ha hb => by
    have e1 := h1 j o hj hs; have e2 := h2 j o hj hs
    rw [e1] at e2; simp at e2; omega).symm
theorem Inv.step (hr : Run P l A C v) (ok : Ok l cl) (h : Inv l v (A 0) C listed a w) {Q : Exit -> Act -> World -> Prop} {i : Nat} (hi : i ∈ Region.ready .any l.toArray listed) :
 wpOp P l.toArray Q i (fun a' w' => Inv l v (A 0) C (listed.setIfInBounds i true) a' w') a w := by
 obtain ⟨hun, o, ho', hdeps⟩ := mem_ready.1 hi
 have ho : l[i]? = some o := by simpa using ho'
 have hil : i < l.length := (List.getElem?_eq_some_iff.1 ho).1
 have his : i < listed.size := by rw [h.size]; exact hil
 have hun' : listed.getD i false = false := by simp [his] at hun ⊢; exact hun
 -- who is waited for has been; who waits has not
 have before : ∀ j oj, l[j]? = some oj -> cl i j = true -> listed.getD j false = true := fun j oj hj hc => by
  obtain ⟨e, he, hb, h'⟩ := ok.cert i j o oj ho hj hc
  have h1 := hdeps e he hb
  rcases h' with rfl | h'
  · exact h1
  · have hd := ok.down i o ho e he hb
    exact h.down ok l.length e.on j (by omega) ⟨_, List.getElem?_eq_getElem (show e.on < l.length by omega)⟩ ⟨oj, hj⟩ h' h1
 have behind : ∀ j oj, l[j]? = some oj -> cl j i = true -> listed.getD j false = false := fun j oj hj hc => by
  cases hl : listed.getD j false
  · rfl
  · have hjl : j < l.length := (List.getElem?_eq_some_iff.1 hj).1
    have := h.down ok l.length j i hjl ⟨oj, hj⟩ ⟨o, ho⟩ hc hl
    rw [hun'] at this; cases this
 have exec : execOp a.eval o = execOp (A i).eval o := execOp_congr o (fun cs b => Region.noSelect_spec ok.sel i o cs b ho') fun x hx => by
  cases x with
  | tmp t =>
   have ht : t ∈ o.looksAt l.toArray := List.mem_append_left _ (List.mem_filterMap.2 ⟨.tmp t, by simpa using hx, rfl⟩)
   have e := h.shape.same (hr.shape ok.dist i (by omega)) (t := t) fun j oj hj hd => by
    by_cases hji : j = i
    · subst hji; rw [hun']; simp
    · have hc := ok.looks i j o oj t ho hj (fun e => hji e.symm) hd ht
      by_cases hlt : j < i
      · rw [if_pos hlt] at hc; rw [before j oj hj hc]; simp [hlt]
      · rw [if_neg hlt] at hc; rw [behind j oj hj hc]; simp [hlt]
   simp only [Act.eval, Array.getD_eq_getD_getElem?, e]
  | const => rfl
  | global => rfl
  | func => rfl
 have hg := ok.guard i o ho
 have getset : ∀ j, (listed.setIfInBounds i true).getD j false = (listed.getD j false || j == i) := fun j => by
  by_cases hji : j = i
  · subst hji; simp [his]
  · rw [getD_set_ne false (fun e => hji e.symm)]; simp [hji]
 -- what is left of the invariant, whatever comes of the world
 have next : ∀ w', (∀ k, k <= l.length -> (∀ (j : Nat) (oj : Oper), l[j]? = some oj -> qag oj = true -> (listed.getD j false || j == i) = decide (j < k)) -> C k w') -> Inv l v (A 0) C (listed.setIfInBounds i true) (a.put o.dst (v i)) w' := fun w' hw => by
  refine ⟨by simp [h.size], fun j oj hj hl e he hb => ?_, (h.shape.put ok.dist ho).congr fun j oj hj => (getset j).symm, fun k hk hst => hw k hk fun j oj hj hs => by rw [<- getset j]; exact hst j oj hj hs⟩
  rw [getset] at hl ⊢
  simp only [Bool.or_eq_true, beq_iff_eq] at hl ⊢
  rcases hl with hl | rfl
  · exact .inl (h.closed j oj hj hl e he hb)
  · rw [ho] at hj; injection hj with hj; subst hj; exact .inl (hdeps e he hb)
 unfold wpOp
 simp only [ho', Region.wanted, hg, if_true]
 refine .inl ?_
 cases hs : qag o
 · cases hf : qaG o
   · -- a read, a call
     have here : ∀ (j : Nat) (oj : Oper), l[j]? = some oj -> qag oj = true -> listed.getD j false = decide (j < i) := fun j oj hj hsj => by
      have hji : j ≠ i := fun e => by subst e; rw [ho] at hj; injection hj with hj; subst hj; rw [hs] at hsj; cases hsj
      have hc := ok.store i j o oj ho hj (fun e => hji e.symm) hsj hf
      by_cases hlt : j < i
      · rw [if_pos hlt] at hc; rw [before j oj hj hc]; simp [hlt]
      · rw [if_neg hlt] at hc; rw [behind j oj hj hc]; simp [hlt]
     have hw := h.world i (by omega) here
     refine (((hr.read i o ho hs hf).2 w hw).congr exec).wp fun w' hw' => next w' fun k hk hst => ?_
     have hst' : ∀ (j : Nat) (oj : Oper), l[j]? = some oj -> qag oj = true -> listed.getD j false = decide (j < k) := fun j oj hj hsj => by
      have hji : j ≠ i := fun e => by subst e; rw [ho] at hj; injection hj with hj; subst hj; rw [hs] at hsj; cases hsj
      have := hst j oj hj hsj; rw [show (j == i) = false from by simpa using hji, Bool.or_false] at this; exact this
     rw [hr.one (f := fun j => listed.getD j false) (by omega) hk here hst']; exact hw'
   · -- nothing of the world
     refine (((hr.free i o ho hs hf).2 w).congr exec).wp fun w' hw' => next w' fun k hk hst => ?_
     subst hw'
     refine h.world k hk fun j oj hj hsj => ?_
     have hji : j ≠ i := fun e => by subst e; rw [ho] at hj; injection hj with hj; subst hj; rw [hs] at hsj; cases hsj
     have := hst j oj hj hsj; rw [show (j == i) = false from by simpa using hji, Bool.or_false] at this; exact this
 · -- a store
   have hf : qaG o = false := by
    unfold qag at hs; unfold qaG
    cases hop : o.op <;> simp_all
   have here : ∀ (j : Nat) (oj : Oper), l[j]? = some oj -> qag oj = true -> listed.getD j false = decide (j < i) := fun j oj hj hsj => by
    by_cases hji : j = i
    · subst hji; rw [hun']; simp
    · have hc := ok.store i j o oj ho hj (fun e => hji e.symm) hsj hf
      by_cases hlt : j < i
      · rw [if_pos hlt] at hc; rw [before j oj hj hc]; simp [hlt]
      · rw [if_neg hlt] at hc; rw [behind j oj hj hc]; simp [hlt]
   have hw := h.world i (by omega) here
   obtain ⟨hv, hgv⟩ := hr.store i o ho hs
   have hgv := hgv w hw
   rw [<- hv] at hgv
   refine (hgv.congr exec).wp fun w' hw' => next w' fun k hk hst => ?_
   have h1 : ∀ (j : Nat) (oj : Oper), l[j]? = some oj -> qag oj = true -> (listed.getD j false || j == i) = decide (j < i + 1) := fun j oj hj hsj => by
    rw [here j oj hj hsj, Bool.eq_iff_iff]; simp; omega
   rw [hr.one (f := fun j => listed.getD j false || j == i) (by omega) hk h1 hst]; exact hw'
theorem Inv.all_ (hr : Run P l A C v) (ok : Ok l cl) {Q : Exit -> Act -> World -> Prop} (hQ : ∀ w, C l.length w -> Q .normal (A l.length) w) : ∀ (n : Nat) (listed : Array Bool) (a : Act) (w : World), Inv l v (A 0) C listed a w -> unl (fun i => listed.getD i false) l.length <= n ->
 wpAny P .any l.toArray Q n listed a w := by
 have last : ∀ (listed : Array Bool) (a : Act) (w : World), Inv l v (A 0) C listed a w -> (∀ i, i < l.length -> listed.getD i false = true) -> Q .normal a w := fun listed a w h hall => by
  have e : a = A l.length := h.shape.ext (hr.shape ok.dist l.length (Nat.le_refl _)) fun j o hj => by
   have hjl : j < l.length := (List.getElem?_eq_some_iff.1 hj).1
   rw [hall j hjl]; simp [hjl]
  rw [e]
  exact hQ w (h.world l.length (Nat.le_refl _) fun j o hj _ => by
   have hjl : j < l.length := (List.getElem?_eq_some_iff.1 hj).1
   rw [hall j hjl]; simp [hjl])
 intro n
 induction n with
 | zero =>
  intro listed a w h hn
  have hall := qcx (f := fun i => listed.getD i false) (n := l.length) (by omega)
  refine ⟨?_, last listed a w h hall⟩
  cases hr' : Region.ready .any l.toArray listed with
  | nil => rfl
  | cons i is =>
   have hi : i ∈ Region.ready .any l.toArray listed := by rw [hr']; simp
   obtain ⟨hun, o, ho', _⟩ := mem_ready.1 hi
   have hil : i < l.length := by have := (Array.getElem?_eq_some_iff.1 ho').1; simpa using this
   have := hall i hil
   have his : i < listed.size := by rw [h.size]; exact hil
   simp [his] at hun this
   rw [this] at hun; cases hun
 | succ n ih =>
  intro listed a w h hn
  refine ⟨fun hr' => last listed a w h fun i hi => ?_, fun i hi => ?_⟩
  · induction i using Nat.strongRecOn with
    | _ i ihi =>
     cases hu : listed.getD i false
     · have ho : l[i]? = some (l[i]'hi) := List.getElem?_eq_getElem hi
       have : i ∈ Region.ready .any l.toArray listed := mem_ready.2 ⟨by
        have his : i < listed.size := by rw [h.size]; exact hi
        simp [his] at hu ⊢; exact hu, _, (by rw [List.getElem?_toArray]; exact ho), fun e he hb => by
        have hd := ok.down i _ ho e he hb
        exact ihi e.on hd (by omega)⟩
       rw [hr'] at this; cases this
     · rfl
  · refine wpOp_mono (fun a' w' h' => ih _ a' w' h' ?_) (h.step hr ok hi)
    obtain ⟨hun, o, ho', _⟩ := mem_ready.1 hi
    have hil : i < l.length := by have := (Array.getElem?_eq_some_iff.1 ho').1; simpa using this
    have his : i < listed.size := by rw [h.size]; exact hil
    have := qde (f := fun i => listed.getD i false) (g := fun j => (listed.setIfInBounds i true).getD j false) (i := i) (by simp [his] at hun ⊢; exact hun) (by simp [his]) (fun j hj => getD_set_ne false (fun e => hj e.symm)) hil
    omega
theorem qbf {id : Nat} {Q : Exit -> Act -> World -> Prop} (hm : P.follows .mixedOrders = true) (hB : okB l = true) (C0 : World -> Prop) (hC : C0 w.drew)
 (h : qaR P (fun a' C' => ∀ w', C' w' -> Q .normal a' w') l a C0) : (Code.region id l.toArray true).wp P Q a w := by
 obtain ⟨A, Cs, v, hr, hA, hC0, hQ⟩ := qba l a C0 h
 have ok := Ok.of l hB
 refine wp_region_any hm ?_
 have hinv : Inv l v (A 0) Cs (Array.replicate l.toArray.size false) a w.drew := by
  have hg : ∀ i, (Array.replicate l.length false).getD i false = false := fun i => by
   by_cases hi : i < l.length <;> simp [hi]
  refine ⟨by simp, fun i o ho hl => ?_, ?_, fun i hi hst => ?_⟩
  · simp only [List.size_toArray] at hl; rw [hg i] at hl; cases hl
  · rw [hA]; exact Shape.start.congr fun j o _ => by simp only [List.size_toArray]; rw [hg j]
  · have e : Cs i = Cs 0 := hr.between i i (by omega) hi fun j o hj hs h0 hlt => by
     have := hst j o hj hs
     simp only [List.size_toArray] at this
     rw [hg j] at this; simp at this; omega
    rw [e, hC0]; exact hC
 have := Inv.all_ hr ok (Q := Q) hQ l.toArray.size _ _ _ hinv (by have := qfA (fun i => (Array.replicate l.toArray.size false).getD i false) l.length; simpa using this)
 exact this
end
def one (W : World) : World -> Prop := fun w => w = W
section
variable {P : Program} {Q : Act -> (World -> Prop) -> Prop} {o : Oper} {rest : List Oper} {a : Act} {C : World -> Prop} {W : World}
theorem qbg (hs : qag o = false) (hf : qaG o = true) {v : Value} (hrun : ∀ w, (execOp a.eval o).run P w = .ok (.value v) w) (h : qaR P Q rest (a.put o.dst v) C) : qaR P Q (o :: rest) a C := by
 unfold qaR
 rw [if_neg (by simp [hs]), if_pos hf]
 exact ⟨v, fun w => by unfold Gives; rw [hrun w]; exact ⟨rfl, rfl⟩, h⟩
theorem qd8 (hs : qag o = false) (hf : qaG o = false) {v : Value} (hrun : (execOp a.eval o).run P W = .ok (.value v) W) (h : qaR P Q rest (a.put o.dst v) (one W)) : qaR P Q (o :: rest) a (one W) := by
 unfold qaR
 rw [if_neg (by simp [hs]), if_neg (by simp [hf])]
 exact ⟨v, fun w hw => by cases hw; unfold Gives; rw [hrun]; exact ⟨rfl, rfl⟩, h⟩
theorem qcz (hs : qag o = false) (hf : qaG o = false) {v : Value} {f : FuncId} {args : Array Value} (hrun : (execOp a.eval o).run P W = .ok (.enter f args) W) (hc : Calls P f args W fun e w' => e = .returned v /\ W = w')
 (h : qaR P Q rest (a.put o.dst v) (one W)) : qaR P Q (o :: rest) a (one W) := by
 unfold qaR
 rw [if_neg (by simp [hs]), if_neg (by simp [hf])]
 exact ⟨v, fun w hw => by cases hw; unfold Gives; rw [hrun]; exact hc.mono fun e w' ⟨he, hw⟩ => ⟨he, hw.symm⟩, h⟩
theorem qbI (hs : qag o = true) {W' : World} (hrun : (execOp a.eval o).run P W = .ok .skip W') (h : qaR P Q rest (a.put o.dst undef) (one W')) : qaR P Q (o :: rest) a (one W) := by
 unfold qaR
 rw [if_pos hs]
 exact ⟨one W', fun w hw => by cases hw; unfold Gives; rw [hrun]; exact ⟨rfl, rfl⟩, h⟩
theorem qcd {Q : Exit -> Act -> World -> Prop} (h : Q .normal a W) : qaR P (fun a' C' => ∀ w', C' w' -> Q .normal a' w') [] a (one W) := fun w' hw => by cases hw; exact h
theorem qcS {id : Nat} {l : List Oper} {Q : Exit -> Act -> World -> Prop} (hm : P.follows .mixedOrders = true) (hB : okB l = true) (h : qaR P (fun a' C' => ∀ w', C' w' -> Q .normal a' w') l a (one W.drew)) : (Code.region id l.toArray true).wp P Q a W :=
 qbf hm hB (one W.drew) rfl h
end
end Ro
namespace Ro
open Go
section
variable {P : Program} {Q : Act -> (World -> Prop) -> Prop} {o : Oper} {rest : List Oper} {a : Act} {C : World -> Prop} {W : World}
theorem qeJ (hs : qag o = false) (hf : qaG o = false) {v : Value} (hrun : ∀ w, C w -> (execOp a.eval o).run P w = .ok (.value v) w) (h : qaR P Q rest (a.put o.dst v) C) : qaR P Q (o :: rest) a C := by
 unfold qaR
 rw [if_neg (by simp [hs]), if_neg (by simp [hf])]
 exact ⟨v, fun w hw => by unfold Gives; rw [hrun w hw]; exact ⟨rfl, hw⟩, h⟩
theorem qeK (hs : qag o = false) (hf : qaG o = false) {v : Value} {f : FuncId} {args : Array Value} (hrun : ∀ w, C w -> (execOp a.eval o).run P w = .ok (.enter f args) w) (hc : ∀ w, C w -> Calls P f args w fun e w' => e = .returned v /\ C w')
 (h : qaR P Q rest (a.put o.dst v) C) : qaR P Q (o :: rest) a C := by
 unfold qaR
 rw [if_neg (by simp [hs]), if_neg (by simp [hf])]
 exact ⟨v, fun w hw => by unfold Gives; rw [hrun w hw]; exact hc w hw, h⟩
theorem qd7 (hs : qag o = true) {C' : World -> Prop} (hrun : ∀ w, C w -> ∃ W', (execOp a.eval o).run P w = .ok .skip W' /\ C' W') (h : qaR P Q rest (a.put o.dst undef) C') : qaR P Q (o :: rest) a C := by
 unfold qaR
 rw [if_pos hs]
 exact ⟨C', fun w hw => by obtain ⟨W', h1, h2⟩ := hrun w hw; unfold Gives; rw [h1]; exact ⟨rfl, h2⟩, h⟩
theorem qlV {Q : Exit -> Act -> World -> Prop} (h : ∀ w', C w' -> Q .normal a w') : qaR P (fun a' C' => ∀ w', C' w' -> Q .normal a' w') [] a C := h
end
end Ro
namespace Go.Proofs.YtmiopphcfdlneaaGreat
open Go.RowKit
section
variable (g : Gm.G) (s : Value) (k : Nat) (t : Gm.Ship)
theorem qqX (hk : k < 8) (u : Int) : (Gm.cells { g with ship := Gm.upd g.ship k t } s).setIfInBounds (2 + k * 7 + 1) (.int .i32 u) = Gm.cells { g with ship := Gm.upd g.ship k { t with x := u } } s := by
 match k, hk with | 0, _ | 1, _ | 2, _ | 3, _ | 4, _ | 5, _ | 6, _ | 7, _ => rfl
theorem qqW (hk : k < 8) (u : Int) : (Gm.cells { g with ship := Gm.upd g.ship k t } s).setIfInBounds (2 + k * 7 + 2) (.int .i32 u) = Gm.cells { g with ship := Gm.upd g.ship k { t with y := u } } s := by
 match k, hk with | 0, _ | 1, _ | 2, _ | 3, _ | 4, _ | 5, _ | 6, _ | 7, _ => rfl
theorem qqB (hk : k < 8) (u : Int) : (Gm.cells { g with ship := Gm.upd g.ship k t } s).setIfInBounds (2 + k * 7 + 3) (.int .i32 u) = Gm.cells { g with ship := Gm.upd g.ship k { t with vx := u } } s := by
 match k, hk with | 0, _ | 1, _ | 2, _ | 3, _ | 4, _ | 5, _ | 6, _ | 7, _ => rfl
theorem qqA (hk : k < 8) (u : Int) : (Gm.cells { g with ship := Gm.upd g.ship k t } s).setIfInBounds (2 + k * 7 + 4) (.int .i32 u) = Gm.cells { g with ship := Gm.upd g.ship k { t with vy := u } } s := by
 match k, hk with | 0, _ | 1, _ | 2, _ | 3, _ | 4, _ | 5, _ | 6, _ | 7, _ => rfl
theorem qlL (hk : k < 8) (u : Int) : (Gm.cells { g with ship := Gm.upd g.ship k t } s).setIfInBounds (2 + k * 7 + 5) (.int .i64 u) = Gm.cells { g with ship := Gm.upd g.ship k { t with cool := u } } s := by
 match k, hk with | 0, _ | 1, _ | 2, _ | 3, _ | 4, _ | 5, _ | 6, _ | 7, _ => rfl
theorem qjf (hk : k < 8) (u : Int) : (Gm.cells { g with ship := Gm.upd g.ship k t } s).setIfInBounds (2 + k * 7 + 6) (.int .i64 u) = Gm.cells { g with ship := Gm.upd g.ship k { t with score := u } } s := by
 match k, hk with | 0, _ | 1, _ | 2, _ | 3, _ | 4, _ | 5, _ | 6, _ | 7, _ => rfl
end
abbrev qcc (g : Gm.G) (k : Nat) (t : Gm.Ship) : Gm.G := { g with ship := Gm.upd g.ship k t }
theorem qbC (g : Gm.G) (s : Value) (k j : Nat) (t : Gm.Ship) (hk : k < 8) (hj : j < 7) : (Gm.cells (qcc g k t) s)[2 + k * 7 + j]? = t.cells[j]? := by
 rw [Gm.qae _ _ _ _ hk hj, show (qcc g k t).ship k = t from Gm.upd_same _ _ _]
structure qco (b B Bi k : Nat) (w0 : World) (g : Gm.G) (A : Option Addr) (c : Nat) (ic : Array Value) (t : Gm.Ship) (w : World) : Prop where
 game : Box w B 31 (Gm.cells (qcc g k t) (.slice A g.qaa.length c))
 own : w.ownsRow b 80 6 (.slice A g.qaa.length c) g.qaa.length (Gm.qad g.qaa)
 inp : Box w Bi 48 ic
 keep : Keep b B w0 w
section
variable {b B Bi k : Nat} {w0 w w' : World} {g : Gm.G} {A : Option Addr} {c : Nat} {ic : Array Value} {t : Gm.Ship}
theorem qco.call (h : qco b B Bi k w0 g A c ic t w) (hb : Below w.heap.size w w') : qco b B Bi k w0 g A c ic t w' :=
 ⟨h.game.below hb h.game.lt, own_below h.own hb (Nat.le_refl _), h.inp.below hb h.inp.lt, h.keep.call hb⟩
theorem qco.drew (h : qco b B Bi k w0 g A c ic t w) : qco b B Bi k w0 g A c ic t w.drew := ⟨h.game.drew, h.own.drew, h.inp.drew, h.keep.drew⟩
theorem qco.put {t' : Gm.Ship} {i : Nat} {u : Value} (h : qco b B Bi k w0 g A c ic t w) (he : (Gm.cells (qcc g k t) (.slice A g.qaa.length c)).setIfInBounds i u = Gm.cells (qcc g k t') (.slice A g.qaa.length c)) : qco b B Bi k w0 g A c ic t' (w.setCell ⟨B, i, none⟩ u) :=
 ⟨he ▸ h.game.put i u, ownsRow_setCell_other (a := ⟨B, i, none⟩) h.own (h.game.qaM h.own (by decide)) u, h.inp.far (fun e => Box.apart h.game h.inp (by decide) e.symm) u, h.keep.put i u⟩
theorem qco.has (h : qco b B Bi k w0 g A c ic t w) : Has b B (qcc g k t) w := ⟨A, c, h.game, h.own⟩
end
def qbK (t : Gm.Ship) (x y : Int) : Gm.Ship := { t with vx := Gf.push t.vx x, vy := Gf.push t.vy y, x := Gf.move t.x (Gf.push t.vx x), y := Gf.move t.y (Gf.push t.vy y) }
theorem qi8 (g : Gm.G) (b B k : Nat) (x y p : Int) (w : World) (hbB : b <= B) (hk : k < 8) (h : Has b B g w) (ht : Gm.qdK (g.ship k)) (wx : -128 <= x /\ x <= 127) (wy : -128 <= y /\ y <= 127) :
 Calls Tryz.prog 127 #[.pointer (some ⟨B, 2 + k * 7, none⟩), .agg #[.int .i8 x, .int .i8 y, .int .u8 p]] w fun e w' => (∃ v, e = .returned v) /\ Has b B (qcc g k (qbK (g.ship k) x y)) w' /\ Keep b B w w' := by
 obtain ⟨A, c, hB, hO⟩ := h
 obtain ⟨t, hT⟩ : ∃ t, t = g.ship k := ⟨_, rfl⟩
 have hB' : Box w B 31 (Gm.cells (qcc g k t) (.slice A g.qaa.length c)) := by rw [hT, qcc, Gm.qdZ]; exact hB
 have C0 : qco b B w.heap.size k w g A c #[.int .i8 x, .int .i8 y, .int .u8 p] t (w.alloc (.cells #[.int .i8 x, .int .i8 y, .int .u8 p] 48)) :=
  ⟨hB'.alloc _, hO.alloc _, Box.made _ _ _, (Keep.refl hbB w).alloc _⟩
 rw [<- hT] at ht ⊢
 obtain ⟨ti, xi, yi, vxi, vyi, ci, si⟩ := ht
 unfold Gm.i32 at *
 have p1 := Gf.qfp t.vx x
 have p2 := Gf.qfp t.vy y
 have k1 := fun X => qh (qg4 t.vx x (by omega) wx X)
 have k2 := fun X => qh (qg4 t.vy y (by omega) wy X)
 have k3 := fun X => qh (qdD t.x (Gf.push t.vx x) (by omega) (by omega) X)
 have k4 := fun X => qh (qdD t.y (Gf.push t.vy y) (by omega) (by omega) X)
 have F : qbK t x y = { t with vx := Gf.push t.vx x, vy := Gf.push t.vy y, x := Gf.move t.x (Gf.push t.vx x), y := Gf.move t.y (Gf.push t.vy y) } := rfl
 rw [F]
 generalize hvx : Gf.push t.vx x = VX at p1 k1 k3 ⊢
 generalize hvy : Gf.push t.vy y = VY at p2 k2 k4 ⊢
 generalize hx : Gf.move t.x VX = X at k3 ⊢
 generalize hy : Gf.move t.y VY = Y at k4 ⊢
 have HC := qh C0
 clear hT hB hB' hO C0 F hvx hvy hx hy ti
 go_enter Tryz.func127, Tryz.ntmps127
 go_upto_region 1 with fail
 refine Ro.qbf (by kernel_rfl) (by kernel_rfl) (qco b B w.heap.size k w g A c #[.int .i8 x, .int .i8 y, .int .u8 p] t) HC.out.drew ?_
 repeat (first
  | (apply Ro.qbg rfl rfl; focus (intro _; go_simp; first | done | rfl))
  | (apply Ro.qeJ rfl rfl; focus (intro W hW; have c0 := hW.game.cell; have ci := hW.inp.cell; have s3 := qbC g (.slice A g.qaa.length c) k 3 t hk (by omega); have s4 := qbC g (.slice A g.qaa.length c) k 4 t hk (by omega); simp only [Gm.Ship.cells, List.getElem?_cons_zero, List.getElem?_cons_succ] at s3 s4; clear hW; go_simp; first | done | rfl))
  | (apply Ro.qeK rfl rfl; (focus (intro W hW; clear hW; go_simp; first | done | rfl | exact ⟨rfl, rfl⟩)); (focus (intro W hW; first | ((with_reducible refine (k1 W).out.mono ?_); exact fun e w' h => ⟨h.1, hW.call h.2⟩) | ((with_reducible refine (k2 W).out.mono ?_); exact fun e w' h => ⟨h.1, hW.call h.2⟩)))))
 refine Ro.qd7 rfl (C' := qco b B w.heap.size k w g A c #[.int .i8 x, .int .i8 y, .int .u8 p] { t with vx := VX }) (fun W hW => ⟨_, ?_, hW.put (qqB g _ k t hk _)⟩) ?_
 focus
  have c0 := hW.game.cell
  have f0 := hW.game.free
  have s3 := qbC g (.slice A g.qaa.length c) k 3 t hk (by omega)
  simp only [Gm.Ship.cells, List.getElem?_cons_zero, List.getElem?_cons_succ] at s3
  clear hW
  go_simp
  first | done | rfl
 repeat (first
  | (apply Ro.qbg rfl rfl; focus (intro _; go_simp; first | done | rfl))
  | (apply Ro.qeJ rfl rfl; focus (intro W hW; have c0 := hW.game.cell; have ci := hW.inp.cell; have s3 := qbC g (.slice A g.qaa.length c) k 3 { t with vx := VX } hk (by omega); have s4 := qbC g (.slice A g.qaa.length c) k 4 { t with vx := VX } hk (by omega); simp only [Gm.Ship.cells, List.getElem?_cons_zero, List.getElem?_cons_succ] at s3 s4; clear hW; go_simp; first | done | rfl))
  | (apply Ro.qeK rfl rfl; (focus (intro W hW; clear hW; go_simp; first | done | rfl | exact ⟨rfl, rfl⟩)); (focus (intro W hW; first | ((with_reducible refine (k1 W).out.mono ?_); exact fun e w' h => ⟨h.1, hW.call h.2⟩) | ((with_reducible refine (k2 W).out.mono ?_); exact fun e w' h => ⟨h.1, hW.call h.2⟩)))))
 refine Ro.qd7 rfl (C' := qco b B w.heap.size k w g A c #[.int .i8 x, .int .i8 y, .int .u8 p] { t with vx := VX, vy := VY }) (fun W hW => ⟨_, ?_, hW.put (qqA g _ k { t with vx := VX } hk _)⟩) ?_
 focus
  have c0 := hW.game.cell
  have f0 := hW.game.free
  have s4 := qbC g (.slice A g.qaa.length c) k 4 { t with vx := VX } hk (by omega)
  simp only [Gm.Ship.cells, List.getElem?_cons_zero, List.getElem?_cons_succ] at s4
  clear hW
  go_simp
  first | done | rfl
 refine Ro.qlV fun W1 HW => ?_
 have HC1 := qh HW
 clear HW HC
 go_upto_region 2 with fail
 refine Ro.qbf (by kernel_rfl) (by kernel_rfl) (qco b B w.heap.size k w g A c #[.int .i8 x, .int .i8 y, .int .u8 p] { t with vx := VX, vy := VY }) HC1.out.drew ?_
 repeat (first
  | (apply Ro.qbg rfl rfl; focus (intro _; go_simp; first | done | rfl))
  | (apply Ro.qeJ rfl rfl; focus (intro W hW; have c0 := hW.game.cell; have ci := hW.inp.cell; have s1 := qbC g (.slice A g.qaa.length c) k 1 { t with vx := VX, vy := VY } hk (by omega); have s2 := qbC g (.slice A g.qaa.length c) k 2 { t with vx := VX, vy := VY } hk (by omega); have s3 := qbC g (.slice A g.qaa.length c) k 3 { t with vx := VX, vy := VY } hk (by omega); have s4 := qbC g (.slice A g.qaa.length c) k 4 { t with vx := VX, vy := VY } hk (by omega); simp only [Gm.Ship.cells, List.getElem?_cons_zero, List.getElem?_cons_succ] at s1 s2 s3 s4; clear hW; go_simp; first | done | rfl))
  | (apply Ro.qeK rfl rfl; (focus (intro W hW; clear hW; go_simp; first | done | rfl | exact ⟨rfl, rfl⟩)); (focus (intro W hW; first | ((with_reducible refine (k3 W).out.mono ?_); exact fun e w' h => ⟨h.1, hW.call h.2⟩) | ((with_reducible refine (k4 W).out.mono ?_); exact fun e w' h => ⟨h.1, hW.call h.2⟩)))))
 refine Ro.qd7 rfl (C' := qco b B w.heap.size k w g A c #[.int .i8 x, .int .i8 y, .int .u8 p] { t with vx := VX, vy := VY, x := X }) (fun W hW => ⟨_, ?_, hW.put (qqX g _ k { t with vx := VX, vy := VY } hk _)⟩) ?_
 focus
  have c0 := hW.game.cell
  have f0 := hW.game.free
  have s1 := qbC g (.slice A g.qaa.length c) k 1 { t with vx := VX, vy := VY } hk (by omega)
  simp only [Gm.Ship.cells, List.getElem?_cons_zero, List.getElem?_cons_succ] at s1
  clear hW
  go_simp
  first | done | rfl
 repeat (first
  | (apply Ro.qbg rfl rfl; focus (intro _; go_simp; first | done | rfl))
  | (apply Ro.qeJ rfl rfl; focus (intro W hW; have c0 := hW.game.cell; have ci := hW.inp.cell; have s1 := qbC g (.slice A g.qaa.length c) k 1 { t with vx := VX, vy := VY, x := X } hk (by omega); have s2 := qbC g (.slice A g.qaa.length c) k 2 { t with vx := VX, vy := VY, x := X } hk (by omega); have s3 := qbC g (.slice A g.qaa.length c) k 3 { t with vx := VX, vy := VY, x := X } hk (by omega); have s4 := qbC g (.slice A g.qaa.length c) k 4 { t with vx := VX, vy := VY, x := X } hk (by omega); simp only [Gm.Ship.cells, List.getElem?_cons_zero, List.getElem?_cons_succ] at s1 s2 s3 s4; clear hW; go_simp; first | done | rfl))
  | (apply Ro.qeK rfl rfl; (focus (intro W hW; clear hW; go_simp; first | done | rfl | exact ⟨rfl, rfl⟩)); (focus (intro W hW; first | ((with_reducible refine (k3 W).out.mono ?_); exact fun e w' h => ⟨h.1, hW.call h.2⟩) | ((with_reducible refine (k4 W).out.mono ?_); exact fun e w' h => ⟨h.1, hW.call h.2⟩)))))
 refine Ro.qd7 rfl (C' := qco b B w.heap.size k w g A c #[.int .i8 x, .int .i8 y, .int .u8 p] { t with vx := VX, vy := VY, x := X, y := Y }) (fun W hW => ⟨_, ?_, hW.put (qqW g _ k { t with vx := VX, vy := VY, x := X } hk _)⟩) ?_
 focus
  have c0 := hW.game.cell
  have f0 := hW.game.free
  have s2 := qbC g (.slice A g.qaa.length c) k 2 { t with vx := VX, vy := VY, x := X } hk (by omega)
  simp only [Gm.Ship.cells, List.getElem?_cons_zero, List.getElem?_cons_succ] at s2
  clear hW
  go_simp
  first | done | rfl
 refine Ro.qlV fun W2 HW => ?_
 have HC2 := qh HW
 clear HW HC1
 go_wp2
 go_end0
 exact ⟨⟨_, rfl⟩, HC2.out.has, HC2.out.keep⟩
theorem and_one {p : Int} (wp : 0 <= p /\ p <= 255) : bits .and .u8 p 1 = p % 2 := by
 rw [u8_and p 1 wp.1 (by omega) (by decide) (by decide)]
 show ((p.toNat &&& 1 : Nat) : Int) = p % 2
 rw [Nat.and_one_is_mod]; omega
theorem qlx {P : Program} (w : World) {t ty e : TypeId} {i : TypeInfo} {z : Value} {size bytes : Nat} (ht : P.underlying t = some (.slice e)) (hi : P.info? e = some i) (hz : i.zero = some z) (hs : i.size = size) (hby : i.bytes = bytes) (hzs : z.cells.size = size) (hsz : 0 < size)
 {base n : Nat} {v : Value} {xs : List Value} (ho : w.ownsRow base e size v n xs) {ad : Addr} {m c : Nat} {news : List Value} (hl : Lies w w.heap.size size (some ad) m news) (hm : m ≠ 0) (h1 : ∀ u ∈ news, u.oneCell' = true) (h63 : n + m <= maxLen) (hb : (n + m) * bytes <= 140737488355328) (hbase : base <= w.heap.size) :
 ∃ A' c' w', (Builtin.append_ #[t, t] ty #[v, .slice (some ad) m c]).run P w = .ok (.slice A' (n + m) c') w' /\ w'.ownsRow base e size (.slice A' (n + m) c') (n + m) (xs ++ news) /\ w.grownBy w' v.ownBlock := by
 obtain ⟨v', w', hr, h2, h3, _, _⟩ := run_append_own_at (P := P) w base t ty e i z size bytes ht hi hz hs hby hzs hsz v n xs ho ad m c news hl.len (fun j u hu => hl.cell ad rfl hm j u hu) h1 h63 hb hbase
 obtain ⟨A', c', rfl⟩ := qeq h2
 exact ⟨A', c', w', hr, h2, h3⟩
theorem qg9 {P : Program} {o : Oper} {a : Act} {x y : Operand} {ts : Array TypeId} {W W' : World} {v1 v2 r : Value} (ho : o.op = .call { callee := .builtin .append, args := #[x, y], argTypes := ts }) (hx : a.eval x = v1) (hy : a.eval y = v2) (hr : (Builtin.append_ ts o.type #[v1, v2]).run P W = .ok r W') :
 (execOp a.eval o).run P W = .ok (.value r) W' := by
 unfold execOp
 simp only [ho, resolve, invoke, builtin, Sem.run_bind, Sem.run_pure, Result.andThen_ok, List.map_toArray, List.map_cons, List.map_nil, hx, hy, hr]
def qo7 (g : Gm.G) (k : Nat) (x y p : Int) : Gm.G :=
 if 0 < (g.ship k).cool then qcc g k { g.ship k with cool := (g.ship k).cool - 1 }
 else if p % 2 = 1 /\ g.qaa.length < 32 then { qcc g k { g.ship k with cool := 10 } with qaa := g.qaa ++ [⟨k, (g.ship k).x, (g.ship k).y, Gf.aimx x y, Gf.aimy y, 24⟩] }
 else g
theorem Has.field {b B k : Nat} {g : Gm.G} {w : World} (h : Has b B g w) {t' : Gm.Ship} {i : Nat} {u : Value} (he : ∀ s, (Gm.cells (qcc g k (g.ship k)) s).setIfInBounds i u = Gm.cells (qcc g k t') s) : Has b B (qcc g k t') (w.setCell ⟨B, i, none⟩ u) :=
 h.put rfl (fun s hB => he s ▸ (by rw [qcc, Gm.qdZ]; exact hB.put i u)) (fun j hj => heap_setCell_other _ _ j _ hj)
theorem qma (g : Gm.G) (b B k : Nat) (x y p : Int) (w : World) (hbB : b <= B) (hk : k < 8) (h : Has b B g w) (hc : 0 < (g.ship k).cool /\ (g.ship k).cool <= 10) :
 Calls Tryz.prog 128 #[.pointer (some ⟨B, 0, none⟩), .int .i64 k, .agg #[.int .i8 x, .int .i8 y, .int .u8 p]] w fun e w' => (∃ v, e = .returned v) /\ Has b B (qcc g k { g.ship k with cool := (g.ship k).cool - 1 }) w' /\ Keep b B w w' := by
 have HH := qh (h.alloc (.cells #[.int .i8 x, .int .i8 y, .int .u8 p] 48))
 have HK := qh ((Keep.refl hbB w).alloc (.cells #[.int .i8 x, .int .i8 y, .int .u8 p] 48))
 have hr := qh (h.alloc (.cells #[.int .i8 x, .int .i8 y, .int .u8 p] 48) |>.field (k := k) (t' := { g.ship k with cool := (g.ship k).cool - 1 }) (fun s => qlL g s k (g.ship k) hk ((g.ship k).cool - 1)))
 obtain ⟨A, c, hB, hO⟩ := HH.out
 have c0 := hB.cell
 have f0 := hB.free
 have s5 := Gm.qae g (.slice A g.qaa.length c) k 5 hk (by omega)
 simp only [Gm.Ship.cells, List.getElem?_cons_zero, List.getElem?_cons_succ] at s5
 have hk8 : (k : Int) < 8 := by omega
 generalize (g.ship k).cool = q at *
 have hq : IntKind.i64.wrap (q - 1) = q - 1 := by rw [IntKind.wrap_i64]; omega
 clear hB hO h
 go_enter Tryz.func128, Tryz.ntmps128
 go_wp2
 refine bodyPost_ret (results_none rfl _ _ _) rfl ?_
 exact ⟨⟨_, rfl⟩, hr.out, HK.out.put _ _⟩
theorem ql9 (g : Gm.G) (b B k : Nat) (x y p : Int) (w : World) (hbB : b <= B) (hk : k < 8) (h : Has b B g w) (hc : (g.ship k).cool = 0) (wp : 0 <= p /\ p <= 255) (hp : ¬ (p % 2 = 1 /\ g.qaa.length < 32)) :
 Calls Tryz.prog 128 #[.pointer (some ⟨B, 0, none⟩), .int .i64 k, .agg #[.int .i8 x, .int .i8 y, .int .u8 p]] w fun e w' => (∃ v, e = .returned v) /\ Has b B g w' /\ Keep b B w w' := by
 have HH := qh (h.alloc (.cells #[.int .i8 x, .int .i8 y, .int .u8 p] 48))
 have HK := qh ((Keep.refl hbB w).alloc (.cells #[.int .i8 x, .int .i8 y, .int .u8 p] 48))
 obtain ⟨A, c, hB, hO⟩ := HH.out
 have c0 := hB.cell
 have f0 := hB.free
 have s5 := Gm.qae g (.slice A g.qaa.length c) k 5 hk (by omega)
 have e58 := Gm.qbc g (.slice A g.qaa.length c)
 simp only [Gm.Ship.cells, List.getElem?_cons_zero, List.getElem?_cons_succ, hc] at s5
 have hk8 : (k : Int) < 8 := by omega
 clear hB hO h hc
 generalize g.qaa.length = m at *
 by_cases hodd : p % 2 = 1
 · have hm32 : (32 : Int) <= m := by omega
   have hb1 : bits .and .u8 p 1 = 1 := by rw [and_one wp]; exact hodd
   clear hp hodd
   go_enter Tryz.func128, Tryz.ntmps128
   go_wp2
   refine bodyPost_ret (results_none rfl _ _ _) rfl ?_
   exact ⟨⟨_, rfl⟩, HH.out, HK.out⟩
 · have hb1 : bits .and .u8 p 1 = 0 := by rw [and_one wp]; omega
   clear hp hodd
   go_enter Tryz.func128, Tryz.ntmps128
   go_wp2
   refine bodyPost_ret (results_none rfl _ _ _) rfl ?_
   exact ⟨⟨_, rfl⟩, HH.out, HK.out⟩
theorem qnG (g : Gm.G) (b B k : Nat) (x y p : Int) (w : World) (hbB : b <= B) (hk : k < 8) (h : Has b B g w) (hc : (g.ship k).cool = 0) (wx : -128 <= x /\ x <= 127) (wy : -128 <= y /\ y <= 127) (wp : 0 <= p /\ p <= 255) (hp : p % 2 = 1) (hm : g.qaa.length < 32) :
 Calls Tryz.prog 128 #[.pointer (some ⟨B, 0, none⟩), .int .i64 k, .agg #[.int .i8 x, .int .i8 y, .int .u8 p]] w fun e w' => (∃ v, e = .returned v) /\ Has b B { qcc g k { g.ship k with cool := 10 } with qaa := g.qaa ++ [⟨k, (g.ship k).x, (g.ship k).y, Gf.aimx x y, Gf.aimy y, 24⟩] } w' /\ Keep b B w w' := by
 have HH := qh (h.alloc (.cells #[.int .i8 x, .int .i8 y, .int .u8 p] 48))
 have HK := qh ((Keep.refl hbB w).alloc (.cells #[.int .i8 x, .int .i8 y, .int .u8 p] 48))
 obtain ⟨A, c, hB, hO⟩ := HH.out
 have c0 := hB.cell
 have f0 := hB.free
 have s5 := Gm.qae g (.slice A g.qaa.length c) k 5 hk (by omega)
 have s1 := Gm.qae g (.slice A g.qaa.length c) k 1 hk (by omega)
 have s2 := Gm.qae g (.slice A g.qaa.length c) k 2 hk (by omega)
 have e58 := Gm.qbc g (.slice A g.qaa.length c)
 simp only [Gm.Ship.cells, List.getElem?_cons_zero, List.getElem?_cons_succ, hc] at s5 s1 s2
 have hk8 : (k : Int) < 8 := by omega
 have hb1 : bits .and .u8 p 1 = 1 := by rw [and_one wp]; exact hp
 have hm32 : ¬ (32 : Int) <= g.qaa.length := by omega
 have ca := fun X => qh (qmU x y p wx wy wp X)
 have BB := qh hB
 have OO := qh hO
 clear hB hO h hc hp
 go_enter Tryz.func128, Tryz.ntmps128
 go_upto_region 6 with (go_at_call 160; ((with_reducible refine ((ca _).out).mono ?_); rintro e w1 ⟨rfl, hb1'⟩; have B1 := BB.out.below hb1' BB.out.lt; have c1 := B1.cell; have f1 := B1.free; have HB1 := qh B1; have O1 := qh (own_below OO.out hb1' (Nat.le_refl _)); have K1 := qh (HK.out.call hb1'); clear B1 hb1' c0 f0))
 have ax := Gf.qoR x y
 generalize hAX : Gf.aimx x y = AX at *
 generalize hAY : Gf.aimy y = AY at *
 obtain ⟨i0, hi0, hz0, hz1, hz2⟩ := info_parts qdo
 have o1 := (O1.out.drew).alloc (.cells #[.int .i64 k, .int .i32 (g.ship k).x, .int .i32 (g.ship k).y, .int .i32 AX, .int .i32 AY, .int .i64 24] 80)
 have bsz := K1.out.size
 obtain ⟨A2, c2, w2, hrun, own2, hg2⟩ := qlx (P := Tryz.prog) _ (ty := 29) Tryz.underlying29 hi0 hz0 hz1 hz2 rfl (by decide) o1 (c := 1) (qdT w1.drew 80 ⟨k, (g.ship k).x, (g.ship k).y, AX, AY, 24⟩) (by decide) (qbG _) (by unfold maxLen; omega) (by omega) (by have := HB1.out.lt; simp; omega)
 have B2 := qcf HB1.out.drew O1.out.drew (by decide) hg2
 have K2 := qh (K1.out.drew.grown' O1.out.drew hg2)
 have HB2 := qh B2
 have OW := qh own2
 have f2 := B2.free
 have k2 := B2.cell
 clear o1 own2 hg2 B2 c1 f1
 refine Ry.qbf (by kernel_rfl) [] (by kernel_rfl) (· = w1.drew) (fun W => Box W B 31 (Gm.cells g (.slice A g.qaa.length c))) (fun _ => True) rfl (fun W hW => ⟨hW ▸ HB1.out.drew, trivial⟩) ?_
 repeat (first
  | (apply Ry.qbg rfl rfl; focus (intro _; go_simp; first | done | rfl))
  | (apply Ry.qcy rfl rfl rfl rfl; focus (intro W hW; have c0 := Box.cell hW; clear hW; go_simp; first | done | rfl)))
 refine Ry.qdA rfl (W' := w1.drew.alloc (.cells #[.int .i64 k, .int .i32 (g.ship k).x, .int .i32 (g.ship k).y, .int .i32 AX, .int .i32 AY, .int .i64 24] 80)) (v := .slice (some ⟨w1.drew.heap.size, 0, none⟩) 1 1) ?_ ⟨HB1.out.drew.alloc _, trivial⟩ ?_
 focus (go_simp; first | done | rfl)
 refine Ry.qdA rfl (W' := w2) (v := .slice A2 (g.qaa.length + 1) c2) (qg9 (x := .tmp 47) (y := .tmp 60) (v1 := .slice A g.qaa.length c) (v2 := .slice (some ⟨w1.drew.heap.size, 0, none⟩) 1 1) rfl (by go_simp) (by go_simp) hrun) ⟨HB2.out, trivial⟩ ?_
 repeat (first
  | (apply Ry.qbg rfl rfl; focus (intro _; go_simp; first | done | rfl))
  | (apply Ry.qcy rfl rfl rfl rfl; focus (intro W hW; have c0 := Box.cell hW; clear hW; go_simp; first | done | rfl)))
 refine Ry.qbI rfl rfl (C' := (· = w2.setCell ⟨B, 58, none⟩ (.slice A2 (g.qaa.length + 1) c2))) (D' := fun _ => True) (fun W hW => ⟨_, ?_, rfl⟩) (fun _ _ => ⟨trivial, trivial⟩) ?_
 focus (subst hW; go_simp; first | done | rfl)
 refine Ry.qcd fun W2 hW2 => ?_
 have ne2 := HB2.out.qaM OW.out (by decide)
 have H3 : Has b B { g with qaa := g.qaa ++ [⟨k, (g.ship k).x, (g.ship k).y, AX, AY, 24⟩] } W2 := by
  subst hW2
  refine ⟨A2, c2, ?_, ?_⟩
  · rw [show (g.qaa ++ [(⟨k, (g.ship k).x, (g.ship k).y, AX, AY, 24⟩ : Gm.Shot)]).length = g.qaa.length + 1 by simp]
    exact qch HB2.out _
  · dsimp only
    rw [show (g.qaa ++ [(⟨k, (g.ship k).x, (g.ship k).y, AX, AY, 24⟩ : Gm.Shot)]).length = g.qaa.length + 1 by simp, Gm.qcH]
    exact ownsRow_setCell_other (a := ⟨B, 58, none⟩) OW.out ne2 _
 have K3 : Keep b B w W2 := by subst hW2; exact K2.out.put _ _
 have R3 := qh (H3.field (k := k) (t' := { g.ship k with cool := 10 }) (u := .int .i64 10) (fun s => qlL { g with qaa := g.qaa ++ [⟨k, (g.ship k).x, (g.ship k).y, AX, AY, 24⟩] } s k (g.ship k) hk 10))
 have HK3 := qh K3
 obtain ⟨G3, hG3⟩ : ∃ G : Gm.G, G = { g with qaa := g.qaa ++ [(⟨k, (g.ship k).x, (g.ship k).y, AX, AY, 24⟩ : Gm.Shot)] } := ⟨_, rfl⟩
 rw [<- hG3] at H3
 clear hG3
 obtain ⟨A3, c3, hB3, hO3⟩ := H3
 have k3 := hB3.cell
 have f3 := hB3.free
 have z5 := Gm.qae G3 (.slice A3 G3.qaa.length c3) k 5 hk (by omega)
 simp only [Gm.Ship.cells, List.getElem?_cons_zero, List.getElem?_cons_succ] at z5
 clear hB3 hO3 K3 hW2 k2 f2 hrun ne2 s1 s2 s5 e58
 go_wp2
 go_end0
 exact ⟨⟨_, rfl⟩, by first | exact R3.out | (rw [hAX, hAY]; exact R3.out), HK3.out.put _ _⟩
theorem qjc (g : Gm.G) (b B k : Nat) (x y p : Int) (w : World) (hbB : b <= B) (hk : k < 8) (h : Has b B g w) (hc : 0 <= (g.ship k).cool /\ (g.ship k).cool <= 10) (wx : -128 <= x /\ x <= 127) (wy : -128 <= y /\ y <= 127) (wp : 0 <= p /\ p <= 255) :
 Calls Tryz.prog 128 #[.pointer (some ⟨B, 0, none⟩), .int .i64 k, .agg #[.int .i8 x, .int .i8 y, .int .u8 p]] w fun e w' => (∃ v, e = .returned v) /\ Has b B (qo7 g k x y p) w' /\ Keep b B w w' := by
 unfold qo7
 by_cases h0 : 0 < (g.ship k).cool
 · rw [if_pos h0]; exact qma g b B k x y p w hbB hk h ⟨h0, hc.2⟩
 · rw [if_neg h0]
   by_cases hp : p % 2 = 1 /\ g.qaa.length < 32
   · rw [if_pos hp]; exact qnG g b B k x y p w hbB hk h (by omega) wx wy wp hp.1 hp.2
   · rw [if_neg hp]; exact ql9 g b B k x y p w hbB hk h (by omega) wp hp
open Go.RowKit Go.Shelf
attribute [local go_sem] Oper.semAt_some
abbrev Slot (on : Nat -> Bool) := { k : Nat // k < 8 /\ on k = true }
def qc0 (on : Nat -> Bool) : Nat -> Nat -> List (Slot on)
 | 0, _ => []
 | n + 1, i => if h : i < 8 /\ on i = true then ⟨i, h⟩ :: qc0 on n (i + 1) else qc0 on n (i + 1)
theorem qg3 (on : Nat -> Bool) : ∀ n i, (qc0 on n i).length <= n
 | 0, _ => Nat.le_refl _
 | n + 1, i => by
  unfold qc0
  split
  · have := qg3 on n (i + 1); simp; omega
  · have := qg3 on n (i + 1); omega
theorem qeS {on : Nat -> Bool} {n i : Nat} (h : i < 8) (ho : on i = true) : qc0 on (n + 1) i = ⟨i, h, ho⟩ :: qc0 on n (i + 1) := by
 show (if _ : _ then _ else _) = _; rw [dif_pos ⟨h, ho⟩]
theorem qgg {on : Nat -> Bool} {n i : Nat} (ho : on i = false) : qc0 on (n + 1) i = qc0 on n (i + 1) := by
 show (if _ : _ then _ else _) = _; rw [dif_neg (by simp [ho])]
abbrev qkv (B : Nat) (on : Nat -> Bool) (x : Slot on) : Array Value := #[.int .i64 x.1, .pointer (some ⟨B, 2 + x.1 * 7, none⟩)]
def qel (B Bg : Nat) (on : Nat -> Bool) (W : World) : Prop := W.cell? ⟨Bg, 0, none⟩ = some (.pointer (some ⟨B, 0, none⟩)) /\ ∀ k, k < 8 -> W.cell? ⟨B, 2 + k * 7, none⟩ = some (.bool (on k))
theorem qel.below {B Bg : Nat} {on : Nat -> Bool} {w W : World} (h : qel B Bg on w) (hb : Below w.heap.size w W) : qel B Bg on W :=
 ⟨(World.cell?_of_block (hb.block _ (World.block_lt_of_cell? w _ h.1))).trans h.1, fun k hk => (World.cell?_of_block (hb.block _ (World.block_lt_of_cell? w _ (h.2 k hk)))).trans (h.2 k hk)⟩
def qnh (B Bg : Nat) (on : Nat -> Bool) (W W' : World) : Prop := qel B Bg on W -> qel B Bg on W'
theorem qox {B Bg : Nat} {on : Nat -> Bool} {X Y Z : World} (h : qnh B Bg on X Y) (k : qnh B Bg on Y Z) : qnh B Bg on X Z := fun hx => k (h hx)
theorem qoy {B Bg : Nat} {on : Nat -> Bool} {n : Nat} (W : World) (l : Nat) (o o' : Obj) (_ : n <= l) (h : W.heap[l]? = some o) (hc : o.isCells = false) (_ : o.isWalk = false) : qnh B Bg on W (W.putObj l o') := fun hf =>
 ⟨cell_kept hf.1 (grownBy_putObj' W l o') (fun r e => by cases e; exact ⟨_, h, hc⟩), fun k hk => cell_kept (hf.2 k hk) (grownBy_putObj' W l o') (fun r e => by cases e; exact ⟨_, h, hc⟩)⟩
theorem qmR (on : Nat -> Bool) (B Bg : Nat) (n l : Nat) (J Jx : List (Slot on) -> World -> Prop)
 (hY : ∀ pre x W, J pre W -> pre.length < 8 -> YieldAt Fence.wide (n - 1) Tryz.prog l (qkv B on x) W fun e W' =>
  (e = .returned (.bool true) /\ J (pre ++ [x]) W' /\ qnh B Bg on W W') \/ (e = .returned (.bool false) /\ Jx (pre ++ [x]) W'))
 (W : World) (hF : qel B Bg on W) (h0 : J [] W) :
 CallsIn Fence.wide n Tryz.prog 157 #[.func (.yield l) #[] #[], .pointer (some ⟨Bg, 0, none⟩)] W fun e W' => (∃ v, e = .returned v) /\
  ((∃ ys, ys = qc0 on 8 0 /\ J ys W') \/ (∃ pre, (∃ rest, qc0 on 8 0 = pre ++ rest) /\ Jx pre W')) := by
 refine callsIn_of_wp Tryz.func157 rfl trivial ?_ rfl
 simp only [Tryz.ntmps157, List.size_toArray, List.length_cons, List.length_nil, Nat.reduceAdd, Nat.reduceSub, Array.replicate_succ, Array.replicate_zero, List.push_toArray, List.append_toArray, List.nil_append, List.cons_append]
 gi_wp2
 gi_loopw [5] (fun p wr => ∃ (i : Nat) (pre : List (Slot on)), i <= 8 /\ p = .int .i64 i /\ qc0 on 8 0 = pre ++ qc0 on (8 - i) i /\ qel B Bg on wr /\ J pre wr)
  (fun p _ => 8 - (intOf p).toNat)
 case atStart =>
  exact ⟨0, [], by omega, rfl, rfl, hF, h0⟩
 case round =>
  obtain ⟨i, pre, hi, rfl, hx, hf, hJs⟩ := hrel
  by_cases hlt : i < 8
  · have hi8 : (i : Int) < 8 := by omega
    have f0 := hf.1
    have f1 := hf.2 i hlt
    cases ho : on i
    · rw [ho] at f1
      rw [show 8 - i = (8 - (i + 1)) + 1 by omega, qgg ho] at hx
      have HX := qh hx
      have HF := qh hf
      have HJ := qh hJs
      clear hx hf hJs hY
      gi_wp2
      refine ⟨fun _ h => (by cases h), ?_⟩
      gi_wp2
      go_roundw
      case rel => exact ⟨i + 1, pre, by omega, by go_num, HX.out, HF.out, HJ.out⟩
      case measure => simp [intOf]; omega
    · rw [ho] at f1
      rw [show 8 - i = (8 - (i + 1)) + 1 by omega, qeS hlt ho] at hx
      have hlen : pre.length < 8 := by
       have := qg3 on 8 0; rw [hx] at this; simp at this; omega
      obtain ⟨fn, tmps, assign, body, hy, hR⟩ := hY pre ⟨i, hlt, ho⟩ wr hJs hlen
      dsimp only [qkv] at hy
      have HX := qh hx
      have HF := qh hf
      clear hx hf hJs hY
      gi_wp2
      refine ⟨fun h => (by cases h), hR.mono ?_⟩
      rintro e W3 (⟨rfl, hJ3, hk3⟩ | ⟨rfl, hJx3⟩)
      · gi_wp2
        go_roundw
        case rel => exact ⟨i + 1, pre ++ [⟨i, hlt, ho⟩], by omega, by go_num, by rw [HX.out]; simp, hk3 HF.out, hJ3⟩
        case measure => simp [intOf]; omega
      · gi_wp2
        refine bodyPost_ret (results_none rfl _ _ _) rfl ?_
        exact ⟨⟨_, rfl⟩, .inr ⟨pre ++ [⟨i, hlt, ho⟩], ⟨qc0 on (8 - (i + 1)) (i + 1), by rw [HX.out]; simp⟩, hJx3⟩⟩
  · have hi8 : ¬ (i : Int) < 8 := by omega
    have hie : i = 8 := by omega
    subst hie
    have HX := qh (show qc0 on 8 0 = pre by rw [hx]; simp [qc0])
    clear hx
    gi_wp2
    go_end0
    have e := HX.out
    first
     | exact ⟨⟨_, rfl⟩, .inl ⟨pre, e.symm, hJs⟩⟩
     | exact ⟨⟨_, rfl⟩, .inl (by rw [e]; exact hJs)⟩
theorem qeR (on : Nat -> Bool) (B Bg : Nat) (n : Nat) (w : World) (hF : qel B Bg on w) :
 SeqStopsK Fence.wide n Tryz.prog 157 #[.pointer (some ⟨Bg, 0, none⟩)] (qkv B on) (qnh B Bg on) (fun xs => xs = qc0 on 8 0) (fun pre => ∃ rest, qc0 on 8 0 = pre ++ rest) 8 w :=
 fun l J Jx W hW _ _ hY h0 => qmR on B Bg n l J Jx hY W (hF.below hW) h0
theorem qh0 (B : Nat) (w : World) :
 Calls Tryz.prog 125 #[.pointer (some ⟨B, 0, none⟩)] w fun e w' => e = .returned (.func (.func 157) #[] #[.pointer (some ⟨w.heap.size, 0, none⟩)]) /\ w' = w.alloc (.cells #[.pointer (some ⟨B, 0, none⟩)] 175) := by
 have hmf : ∀ (fn : Fn) (first cap : Array Value) (w : World), (Instr.makeFunc fn first cap).run Tryz.prog w = .ok (.func fn first cap) w := fun _ _ _ _ => rfl
 go_enter Tryz.func125, Tryz.ntmps125
 go_wp2
 go_ret
 exact ⟨rfl, rfl⟩
end Go.Proofs.YtmiopphcfdlneaaGreat
namespace Go.Proofs.YtmiopphcfdlneaaGreat
open Go.RowKit
theorem qgd {w w1 : World} {A : Option Addr} {n c : Nat} {g : Gm.G} (hn : n = g.qaa.length) (ho : w1.ownsRow w.heap.size 80 6 (.slice A n c) n (Gm.qad g.qaa)) : Has w.heap.size w1.heap.size g (w1.alloc (.cells (Gm.cells g (.slice A n c)) 31)) := by
 subst hn; exact ⟨A, c, Box.made _ _ _, ho.alloc _⟩
theorem ql8 (g : Gm.G) (A : Option Addr) (n c i : Nat) (x y d : Int) (w : World) (hg : Gm.ok g) (hd : 0 <= g.dice /\ g.dice <= 18446744073709551615) (hn : n = g.qaa.length) (hr : Lies w w.heap.size 6 A n (Gm.qad g.qaa)) (hi : i < 8) (ho : (g.ship i).on = false)
 (hx : Dn.share (Dn.next g.dice) 16777216 = x) (hy : Dn.share (Dn.next (Dn.next g.dice)) 16777216 = y) (hdd : Dn.next (Dn.next g.dice) = d) :
 Calls Tryz.prog 121 #[.agg (Gm.cells g (.slice A n c)), .int .i64 i] w (Out { g with dice := d, ship := Gm.upd g.ship i ⟨true, x, y, 0, 0, 0, 0⟩ } 0 w) := by
 have b1 : Box ((w.alloc (.cells (Gm.cells g (.slice A n c)) 31)).alloc (.cells (Gm.cells qbx (.slice none 0 0)) 31)) w.heap.size 31 (Gm.cells g (.slice A n c)) := (Box.made _ _ _).alloc _
 have b2 : Box ((w.alloc (.cells (Gm.cells g (.slice A n c)) 31)).alloc (.cells (Gm.cells qbx (.slice none 0 0)) 31)) (w.heap.size + 1) 31 (Gm.cells qbx (.slice none 0 0)) := Box.qaq _ _ _ (by simp)
 have hb0 := qap w (.cells (Gm.cells g (.slice A n c)) 31) (.cells (Gm.cells qbx (.slice none 0 0)) 31)
 have co := qh (qiA g A n c _ hn (by have := hg.2.2.1; omega) ((hr.below hb0).wider hb0.size))
 have cm := fun X (hX : Below w.heap.size w X) => qh (qgW g A n c X hg hn ((hr.below hX).wider hX.size))
 have cs := fun X => qh (qdr i (by omega) X)
 rw [decide_eq_true (show (0 : Int) <= i by omega), decide_eq_true (show (i : Int) < 8 by omega), Bool.and_self] at cs
 have cp := fun B X (hX : Has w.heap.size B g X) (hB : w.heap.size <= B) => qh (qmD g w.heap.size B 0 x y d X hB hX hd hx hy hdd)
 have q0 : (Gm.cells g (.slice A n c))[2 + i * 7]? = some (.bool false) := (Gm.qae g _ i 0 hi (by omega)).trans (by show some (Value.bool (g.ship i).on) = _; rw [ho])
 obtain ⟨t, ht⟩ : ∃ t, t = g.ship i := ⟨_, rfl⟩
 have r0 : ∀ s, (Gm.cells { g with dice := d } s)[2 + i * 7]? = some (.bool t.on) := fun s => (Gm.qae { g with dice := d } s i 0 hi (by omega)).trans (by rw [ht]; rfl)
 have r1 : ∀ s, (Gm.cells { g with dice := d } s)[2 + i * 7 + 1]? = some (.int .i32 t.x) := fun s => (Gm.qae { g with dice := d } s i 1 hi (by omega)).trans (by rw [ht]; rfl)
 have r2 : ∀ s, (Gm.cells { g with dice := d } s)[2 + i * 7 + 2]? = some (.int .i32 t.y) := fun s => (Gm.qae { g with dice := d } s i 2 hi (by omega)).trans (by rw [ht]; rfl)
 have r3 : ∀ s, (Gm.cells { g with dice := d } s)[2 + i * 7 + 3]? = some (.int .i32 t.vx) := fun s => (Gm.qae { g with dice := d } s i 3 hi (by omega)).trans (by rw [ht]; rfl)
 have r4 : ∀ s, (Gm.cells { g with dice := d } s)[2 + i * 7 + 4]? = some (.int .i32 t.vy) := fun s => (Gm.qae { g with dice := d } s i 4 hi (by omega)).trans (by rw [ht]; rfl)
 have r5 : ∀ s, (Gm.cells { g with dice := d } s)[2 + i * 7 + 5]? = some (.int .i64 t.cool) := fun s => (Gm.qae { g with dice := d } s i 5 hi (by omega)).trans (by rw [ht]; rfl)
 have r6 : ∀ s, (Gm.cells { g with dice := d } s)[2 + i * 7 + 6]? = some (.int .i64 t.score) := fun s => (Gm.qae { g with dice := d } s i 6 hi (by omega)).trans (by rw [ht]; rfl)
 have hi8 : (i : Int) < 8 := by omega
 have hN := qh hn
 have HB := qh hb0
 have B1 := qh b1
 have B2 := qh b2
 clear hr hn b1 b2 hb0 ht hx hy hdd ho hg
 go_enter Tryz.func121, Tryz.ntmps121
 go_upto_region 5 with (first | (refine qaK rfl rfl ?_) | ((with_reducible refine qaF rfl rfl ?_); apply qaN.mk rfl; (with_reducible exact B1.out)) | ((with_reducible refine qaF rfl rfl ?_); apply qaN.mk rfl; (with_reducible exact D1.out)) | ((with_reducible refine qaF rfl rfl ?_); apply qaN.mk rfl; exact F1.out) | (go_at_call 123; ((with_reducible refine (co.out).mono ?_); rintro e w1 ⟨A1, c1, rfl, ho1, hb1⟩; have HB1 := qh ((HB.out.trans (hb1.mono HB.out.size)).alloc (by have := hb1.size; simp at this; omega) (.cells (Gm.cells g (.slice A1 n c1)) 31)); have H1 := qh (qgd (w := w) hN.out (qbE ho1 (by simp; omega))); have D1 := qh ((B1.out.below hb1 (by simp <;> omega)).alloc (.cells (Gm.cells g (.slice A1 n c1)) 31)); have D2 := qh ((B2.out.below hb1 (by simp <;> omega)).alloc (.cells (Gm.cells g (.slice A1 n c1)) 31)); have s1 : w.heap.size + 1 < w1.heap.size := (by have := hb1.size; simp at this; omega); clear ho1 hb1)) | (refine qaL rfl rfl rfl rfl rfl rfl ?_) | (go_at_call 124; ((with_reducible refine ((cm _ HB1.out).out).mono ?_); rintro e w2 ⟨rfl, hb2⟩; have HB2 := qh (HB1.out.trans (hb2.mono HB1.out.size)); have H2 := qh (H1.out.call hb2); have E1 := (D1.out.below hb2 D1.out.lt).cell; have E2 := qh (D2.out.below hb2 D2.out.lt); clear hb2)) | (go_at_call 150; ((with_reducible refine ((cs _).out).mono ?_); rintro e w' ⟨rfl, rfl⟩)) | (go_at_call 151; ((with_reducible refine ((cp _ _ H2.out (by omega)).out).mono ?_); rintro e w3 ⟨rfl, H3, K3⟩; have ne2 : w.heap.size + 1 ≠ w1.heap.size := (by omega); obtain ⟨A3, c3, hB3, hO3⟩ := H3; have k3 := hB3.cell; have f3 := hB3.free; have G2 := qh (qcQ (B := w1.heap.size) (k := i) (E2.out.keep K3 ne2 (by decide)) ne2 ⟨true, x, y, 0, 0, 0, 0⟩); have F1 := qh (qdH hB3 hi ⟨true, x, y, 0, 0, 0, 0⟩); have hO3H := qh (qfg hO3 (hB3.qaM hO3 (by decide)) ⟨true, x, y, 0, 0, 0, 0⟩ (B := w1.heap.size) (k := i)); have KK := qh (qda (B := w1.heap.size) (k := i) (HB2.out.trans ((K3.to HB2.out.size))) (by omega) ⟨true, x, y, 0, 0, 0, 0⟩); clear hB3 hO3 K3)) | ((with_reducible refine qbq rfl rfl ?_); apply qbm.mk rfl rfl rfl; exact G2.out))
 go_wp2_with (first | ((with_reducible refine qaF rfl rfl ?_); apply qaN.mk rfl; exact F1.out) | ((with_reducible refine qbq rfl rfl ?_); apply qbm.mk rfl rfl rfl; exact G2.out))
 refine bodyPost_ret (v := .tuple #[.agg (Gm.cells { g with dice := d, ship := Gm.upd g.ship i ⟨true, x, y, 0, 0, 0, 0⟩ } (.slice A3 g.qaa.length c3)), .int .i64 0]) ?_ ?_ ?_
 · have hh := results_cell_tmp (P := Tryz.prog) (fn := Tryz.f121) (p := 4) (q := 5) rfl
   exact hh _ _ _ _ (Gm.cells { g with dice := d, ship := Gm.upd g.ship i ⟨true, x, y, 0, 0, 0, 0⟩ } (.slice A3 g.qaa.length c3)) _ rfl (Box.row G2.out _) Tryz.underlying31 rfl qbh
 · rfl
 · refine ⟨A3, c3, rfl, ?_, ?_⟩
   · exact Lies.owned (qbi hO3H.out (G2.out.qaM hO3H.out (by decide)) _)
   · exact Below.setRow' KK.out (by omega) _
theorem qnz (g : Gm.G) (A : Option Addr) (n c i : Nat) (w : World) (hg : Gm.ok g) (hd : 0 <= g.dice /\ g.dice <= 18446744073709551615) (hn : n = g.qaa.length) (hr : Lies w w.heap.size 6 A n (Gm.qad g.qaa)) (hi : i < 8) (ho : (g.ship i).on = false) :
 Calls Tryz.prog 121 #[.agg (Gm.cells g (.slice A n c)), .int .i64 i] w (Out (Gm.spawn g i) 0 w) :=
 ql8 g A n c i _ _ _ w hg hd hn hr hi ho rfl rfl rfl
open Go.RowKit Go.Shelf
attribute [local go_sem] Oper.semAt_some
def qen (ps : Nat -> Gm.In) (g : Gm.G) (k : Nat) : Gm.G := { g with ship := Gm.upd g.ship k (Gm.moved (ps k) g.qaa.length (g.ship k)), qaa := g.qaa ++ Gm.made (ps k) g.qaa.length k (g.ship k) }
def over (ps : Nat -> Gm.In) {on : Nat -> Bool} (g : Gm.G) (pre : List (Slot on)) : Gm.G := pre.foldl (fun g x => qen ps g x.1) g
theorem qn8 (ps : Nat -> Gm.In) {on : Nat -> Bool} (g : Gm.G) (pre : List (Slot on)) (x : Slot on) : over ps g (pre ++ [x]) = qen ps (over ps g pre) x.1 := by
 unfold over; rw [List.foldl_append]; rfl
structure Fit (on : Nat -> Bool) (g : Gm.G) : Prop where
 qbZ : ∀ i, i < 8 -> Gm.qaX (g.ship i)
 qaa : ∀ t ∈ g.qaa, Gm.qa7 t
 len : g.qaa.length <= 32
 flags : ∀ i, i < 8 -> (g.ship i).on = on i
theorem qpt (p : Gm.In) (n : Nat) (s : Gm.Ship) : (Gm.moved p n s).on = s.on := by
 unfold Gm.moved; split
 · rename_i h; rw [h]
 · rfl
theorem qgp {on : Nat -> Bool} {ps : Nat -> Gm.In} {g : Gm.G} {k : Nat} (h : Fit on g) (hk : k < 8) : Fit on (qen ps g k) := by
 refine ⟨fun i hi => ?_, fun t ht => ?_, ?_, fun i hi => ?_⟩
 · by_cases e : i = k
   · subst e; show Gm.qaX (Gm.upd _ _ _ _); rw [Gm.upd_same]; exact Gm.qlR (h.qbZ _ hi)
   · show Gm.qaX (Gm.upd _ _ _ _); rw [Gm.qam _ _ e]; exact h.qbZ _ hi
 · rcases List.mem_append.1 (show t ∈ g.qaa ++ Gm.made (ps k) g.qaa.length k (g.ship k) from ht) with ht | ht
   · exact h.qaa _ ht
   · exact Gm.qoe (by omega) _ ht
 · show (g.qaa ++ Gm.made (ps k) g.qaa.length k (g.ship k)).length <= 32
   have := Gm.qlU (ps k) g.qaa.length k (g.ship k)
   have := h.len
   rw [List.length_append]; omega
 · by_cases e : i = k
   · subst e; show (Gm.upd _ _ _ _).on = _; rw [Gm.upd_same, qpt]; exact h.flags _ hi
   · show (Gm.upd _ _ _ _).on = _; rw [Gm.qam _ _ e]; exact h.flags _ hi
theorem qlM {on : Nat -> Bool} {ps : Nat -> Gm.In} {g : Gm.G} (h : Fit on g) : ∀ pre : List (Slot on), Fit on (over ps g pre) := by
 intro pre
 unfold over
 induction pre generalizing g with
 | nil => exact h
 | cons x pre ih => exact ih (qgp h x.2.1)
theorem qjI {on : Nat -> Bool} (ps : Nat -> Gm.In) (g : Gm.G) (hon : ∀ i, i < 8 -> (g.ship i).on = on i) : ∀ n i, i + n = 8 ->
 over ps { g with ship := (Gm.ph1 ps g i).1, qaa := (Gm.ph1 ps g i).2 } (qc0 on n i) = { g with ship := (Gm.ph1 ps g 8).1, qaa := (Gm.ph1 ps g 8).2 }
 | 0, i, h => by obtain rfl : i = 8 := by omega
                 rfl
 | n + 1, i, h => by
  have ih := qjI ps g hon n (i + 1) (by omega)
  cases ho : on i
  · rw [qgg ho, <- ih]
    have e := Gm.qlP (p := ps i) (n := (Gm.ph1 ps g i).2.length) (i := i) (s := (Gm.ph1 ps g i).1 i) (by rw [Gm.qn6 ps g i i (Nat.le_refl _), hon i (by omega), ho])
    have e0 : Gm.ph1 ps g (i + 1) = Gm.ph1 ps g i := by
     show (Gm.upd _ i _, _ ++ _) = _
     rw [e.1, e.2, Gm.qdZ, List.append_nil]
    rw [e0]
  · rw [qeS (by omega) ho, <- ih]
    rfl
theorem qps {on : Nat -> Bool} (ps : Nat -> Gm.In) (g : Gm.G) (hon : ∀ i, i < 8 -> (g.ship i).on = on i) : over ps g (qc0 on 8 0) = { g with ship := (Gm.ph1 ps g 8).1, qaa := (Gm.ph1 ps g 8).2 } :=
 qjI ps g hon 8 0 rfl
theorem qi3 (f : Nat -> Gm.Ship) (k : Nat) (s t : Gm.Ship) : Gm.upd (Gm.upd f k s) k t = Gm.upd f k t := funext fun j => by
 unfold Gm.upd; split <;> rfl
theorem qnE (ps : Nat -> Gm.In) (g : Gm.G) (k : Nat) (hon : (g.ship k).on = true) (hc : 0 <= (g.ship k).cool) :
 qo7 (qcc g k (qbK (g.ship k) (Gf.tame (ps k).x) (Gf.tame (ps k).y))) k (Gf.tame (ps k).x) (Gf.tame (ps k).y) (ps k).b = qen ps g k := by
 unfold qo7 qen
 have e1 : (qcc g k (qbK (g.ship k) (Gf.tame (ps k).x) (Gf.tame (ps k).y))).ship k = qbK (g.ship k) (Gf.tame (ps k).x) (Gf.tame (ps k).y) := Gm.upd_same _ _ _
 rw [e1]
 have e2 : (qbK (g.ship k) (Gf.tame (ps k).x) (Gf.tame (ps k).y)).cool = (g.ship k).cool := rfl
 rw [e2]
 have e3 : (qbK (g.ship k) (Gf.tame (ps k).x) (Gf.tame (ps k).y)).on = true := hon
 by_cases h0 : 0 < (g.ship k).cool
 · rw [if_pos h0]
   have e := Gm.qjM (p := ps k) (n := g.qaa.length) (i := k) hon h0
   rw [e.1, e.2, List.append_nil]
   show { g with ship := Gm.upd (Gm.upd g.ship k _) k _ } = _
   rw [qi3]
   dsimp only [qbK]
   rw [hon]; rfl
 · rw [if_neg h0]
   have hc0 : (g.ship k).cool = 0 := by omega
   by_cases hp : (ps k).b % 2 = 1 /\ (qcc g k (qbK (g.ship k) (Gf.tame (ps k).x) (Gf.tame (ps k).y))).qaa.length < 32
   · rw [if_pos hp]
     have e := Gm.qjK (p := ps k) (n := g.qaa.length) (i := k) hon hc0 (by unfold Gm.qcL; simp; exact ⟨by omega, hp.1, hp.2⟩)
     rw [e.1, e.2]
     show ({ g with ship := Gm.upd (Gm.upd g.ship k _) k _, qaa := _ } : Gm.G) = _
     rw [qi3]
     dsimp only [qbK]
     rw [hon]; rfl
   · rw [if_neg hp]
     have e := Gm.qjL (p := ps k) (n := g.qaa.length) (i := k) hon hc0 (by
      unfold Gm.qcL
      cases h : (decide ((g.ship k).cool <= 0) && (decide ((ps k).b % 2 = 1) && decide (g.qaa.length < 32)))
      · rfl
      · simp at h; exact absurd ⟨h.2.1, h.2.2⟩ hp)
     rw [e.1, e.2, List.append_nil]
     show ({ g with ship := Gm.upd g.ship k _ } : Gm.G) = _
     congr 2
     show qbK (g.ship k) _ _ = _
     unfold qbK
     rw [hon, hc0]; rfl
theorem Has.turned {b B : Nat} {g : Gm.G} {W W' : World} {row : Option Nat} (h : Has b B g W) (hg : W.grownBy W' row) (hr : ∀ r, row = some r -> ∃ o : Obj, W.heap[r]? = some o /\ o.isCells = false) : Has b B g W' := by
 obtain ⟨A, c, h, hl, h' | ⟨gg, cap, cur, hv, hbg, hgg, hx⟩⟩ := h
 · exact ⟨A, c, h.turned hg hr, hl, .inl h'⟩
 · exact ⟨A, c, h.turned hg hr, hl, .inr ⟨gg, cap, cur, hv, hbg, (Box.turned ⟨hgg⟩ hg hr).is, hx⟩⟩
theorem Keep.others {b B : Nat} {w w' : World} {t : TypeId} {cs : Array Value} (h : Keep b B w w') (hB : Box w B t cs) : KeepsOthers w w' :=
 ⟨h.size, fun k o hk ho => (h.block k (Array.getElem?_eq_some_iff.1 hk).1 (.inr ⟨fun e => (by subst e; rw [hB.is] at hk; injection hk with hk; subst hk; cases ho), fun cs e => (by rw [hk] at e; injection e with e; subst e; cases ho)⟩)).trans hk⟩
theorem Has.flags {b B : Nat} {g : Gm.G} {W : World} (h : Has b B g W) (k : Nat) (hk : k < 8) : W.cell? ⟨B, 2 + k * 7, none⟩ = some (.bool (g.ship k).on) := by
 obtain ⟨A, c, h, _⟩ := h
 exact (h.cell _).trans (Gm.qae _ _ k 0 hk (by omega))
structure Mid (b Bn Bi Br Bg : Nat) (ps : Nat -> Gm.In) (w0 : World) (g : Gm.G) (W : World) : Prop where
 has : Has b Bn g W
 ins : Box W Bi 49 (Gm.qai ps).toArray
 res : Box W Br 31 (Gm.cells qbx (.slice none 0 0))
 fly : Box W Bg 175 #[.pointer (some ⟨Bn, 0, none⟩)]
 below : Below b w0 W
theorem Mid.turned {b Bn Bi Br Bg : Nat} {ps : Nat -> Gm.In} {w0 : World} {g : Gm.G} {W W' : World} {row : Option Nat} (h : Mid b Bn Bi Br Bg ps w0 g W) (hb : b <= w0.heap.size) (hg : W.grownBy W' row) (hr : ∀ r, row = some r -> b <= r /\ ∃ o : Obj, W.heap[r]? = some o /\ o.isCells = false) : Mid b Bn Bi Br Bg ps w0 g W' :=
 ⟨h.has.turned hg fun r e => (hr r e).2, h.ins.turned hg fun r e => (hr r e).2, h.res.turned hg fun r e => (hr r e).2, h.fly.turned hg fun r e => (hr r e).2, h.below.grown hg (Nat.le_trans hb h.below.size) fun k e => (hr k e).1⟩
theorem Mid.kept {b Bn Bi Br Bg : Nat} {ps : Nat -> Gm.In} {w0 : World} {g g' : Gm.G} {W W' : World} (h : Mid b Bn Bi Br Bg ps w0 g W) (hb : b <= w0.heap.size) (hn : Br ≠ Bn) (hh : Has b Bn g' W') (hk : Keep b Bn W W') : Mid b Bn Bi Br Bg ps w0 g' W' := by
 obtain ⟨A, c, hB, _⟩ := h.has
 exact ⟨hh, h.ins.keep hk (Box.apart h.ins hB (by decide)) (by decide), h.res.keep hk hn (by decide), h.fly.keep hk (Box.apart h.fly hB (by decide)) (by decide), h.below.trans (hk.to (Nat.le_trans hb h.below.size))⟩
end Go.Proofs.YtmiopphcfdlneaaGreat
namespace Go.Proofs.YtmiopphcfdlneaaGreat
open Go.RowKit Go.Shelf
structure qaW (b B : Nat) (A : Option Addr) (c : Nat) (g : Gm.G) (w : World) : Prop where
 game : Box w B 31 (Gm.cells g (.slice A g.qaa.length c))
 own : w.ownsRow b 80 6 (.slice A g.qaa.length c) g.qaa.length (Gm.qad g.qaa)
section
variable {b B c : Nat} {A : Option Addr} {g g' : Gm.G} {w w' : World}
theorem qaW.has (h : qaW b B A c g w) : Has b B g w := ⟨A, c, h.game, h.own⟩
theorem qaW.alloc (h : qaW b B A c g w) (o : Obj) : qaW b B A c g (w.alloc o) := ⟨h.game.alloc o, h.own.alloc o⟩
theorem qaW.drew (h : qaW b B A c g w) : qaW b B A c g w.drew := ⟨h.game.drew, h.own.drew⟩
theorem qaW.call (h : qaW b B A c g w) (hb : Below w.heap.size w w') : qaW b B A c g w' := ⟨h.game.below hb h.game.lt, own_below h.own hb (Nat.le_refl _)⟩
theorem qaW.qoc {p : Nat} {t : TypeId} {cs : Array Value} (h : qaW b B A c g w) (hne : p ≠ B) (hp : Box w p t cs) (ht : t ≠ 80) (cs' : Array Value) : qaW b B A c g (w.setRow p cs') :=
 ⟨h.game.qbn (fun e => hne e.symm) cs', qbi h.own (hp.qaM h.own (fun e => ht e.symm)) cs'⟩
theorem qaW.off {p : Addr} {t : TypeId} {cs : Array Value} (h : qaW b B A c g w) (hne : p.block ≠ B) (hp : Box w p.block t cs) (ht : t ≠ 80) (u : Value) : qaW b B A c g (w.setCell p u) :=
 ⟨h.game.far (fun e => hne e.symm) u, ownsRow_setCell_other h.own (hp.qaM h.own (fun e => ht e.symm)) u⟩
theorem qaW.put (h : qaW b B A c g w) (hs : g'.qaa = g.qaa) (hB : ∀ s, Box w B 31 (Gm.cells g s) -> Box w' B 31 (Gm.cells g' s)) (hk : ∀ k, k ≠ B -> w'.heap[k]? = w.heap[k]?) : qaW b B A c g' w' := by
 obtain ⟨h, h'⟩ := h
 refine ⟨by rw [hs]; exact hB _ h, ?_⟩
 rw [hs]
 have hne := h.qaM h' (by decide)
 obtain ⟨hl, e | ⟨gg, cap, cur, hv, hbg, hgg, hr⟩⟩ := h'
 · exact ⟨hl, .inl e⟩
 · refine ⟨hl, .inr ⟨gg, cap, cur, hv, hbg, (hk gg (fun e => hne (by rw [hv, e]; rfl))).trans hgg, hr⟩⟩
theorem qaW.stored (h : qaW b B A c g w) {k : Nat} (hk : k < 8) (s : Gm.Ship) : qaW b B A c { g with ship := Gm.upd g.ship k s } (stored w B k s) :=
 h.put rfl (fun _ hB => qdH hB hk s) (fun j hj => qem s j hj)
theorem qaW.field {k : Nat} (h : qaW b B A c g w) {t' : Gm.Ship} {i : Nat} {u : Value} (he : ∀ s, (Gm.cells (qcc g k (g.ship k)) s).setIfInBounds i u = Gm.cells (qcc g k t') s) : qaW b B A c (qcc g k t') (w.setCell ⟨B, i, none⟩ u) :=
 h.put rfl (fun s hB => he s ▸ (by rw [qcc, Gm.qdZ]; exact hB.put i u)) (fun j hj => heap_setCell_other _ _ j _ hj)
end
theorem qpp (g : Gm.G) (b B : Nat) (A : Option Addr) (c : Nat) (sc : Int) (x y d : Int) (w : World) (hbB : b <= B) (h : qaW b B A c g w) (hd : 0 <= g.dice /\ g.dice <= 18446744073709551615)
 (hx : Dn.share (Dn.next g.dice) 16777216 = x) (hy : Dn.share (Dn.next (Dn.next g.dice)) 16777216 = y) (hdd : Dn.next (Dn.next g.dice) = d) :
 Calls Tryz.prog 151 #[.pointer (some ⟨B, 0, none⟩), .int .i64 sc] w fun e w' => e = .returned (.agg #[.bool true, .int .i32 x, .int .i32 y, .int .i32 0, .int .i32 0, .int .i64 0, .int .i64 sc]) /\ qaW b B A c { g with dice := d } w' /\ Keep b B w w' := by
 have c1 := fun X => qh (qjD g.dice hd X)
 rw [hx, hy, hdd] at c1
 have HH := qh (h.alloc (.cells #[.bool false, .int .i32 0, .int .i32 0, .int .i32 0, .int .i32 0, .int .i64 0, .int .i64 0] 27))
 have HK := qh ((Keep.refl hbB w).alloc (.cells #[.bool false, .int .i32 0, .int .i32 0, .int .i32 0, .int .i32 0, .int .i64 0, .int .i64 0] 27))
 have hBs := h.game.lt
 have bT : Box (w.alloc (.cells #[.bool false, .int .i32 0, .int .i32 0, .int .i32 0, .int .i32 0, .int .i64 0, .int .i64 0] 27)) w.heap.size 27 #[.bool false, .int .i32 0, .int .i32 0, .int .i32 0, .int .i32 0, .int .i64 0, .int .i64 0] := Box.made _ _ _
 have BT := qh bT
 have BG := qh (h.game.alloc (.cells #[.bool false, .int .i32 0, .int .i32 0, .int .i32 0, .int .i32 0, .int .i64 0, .int .i64 0] 27))
 have hc := BG.out.cell
 have e1 := Gm.qcg g (.slice A g.qaa.length c)
 clear bT h hx hy hdd
 go_enter Tryz.func151, Tryz.ntmps151
 go_wp2_with (first | (go_at_call 178; ((with_reducible refine ((c1 _).out).mono ?_); rintro e w1 ⟨rfl, hb⟩; have D1 := BG.out.below hb (by simp <;> omega); have T1 := BT.out.below hb (by simp <;> omega); have k1 := D1.cell; have f1 := D1.free; have H1 := qh (HH.out.call hb); have K1 := qh ((HK.out.call hb).put 1 (.int .u64 d)); have ne1 : w.heap.size ≠ B := (by omega); have T2 := qh (T1.far (p := ⟨B, 1, none⟩) ne1 (.int .u64 d)); clear D1 T1 hb ne1)) | (refine qaT rfl (t := 27) (vs := [(0, .bool true), (1, .int .i32 x), (2, .int .i32 y), (6, .int .i64 sc)]) rfl rfl (qh6 _ _ _) ?_) | ((with_reducible refine qdI (t := 27) rfl rfl qd1 ?_); apply qcA.mk rfl rfl; exact T2.out; (focus (simp [Value.oneCell'])); (focus rfl); (focus rfl)))
 refine bodyPost_ret (v := .agg #[.bool true, .int .i32 x, .int .i32 y, .int .i32 0, .int .i32 0, .int .i64 0, .int .i64 sc]) ?_ ?_ ?_
 · exact results_cell_row rfl _ _ _ _ #[.bool true, .int .i32 x, .int .i32 y, .int .i32 0, .int .i32 0, .int .i64 0, .int .i64 sc] (0, 0) _ rfl (Box.row T2.out _).is Tryz.underlying27 rfl qd1
 · rfl
 · refine ⟨rfl, ?_, K1.out.qlZ (Nat.le_refl _) _⟩
   have h2 : qaW b B A c { g with dice := d } (w1.setCell ⟨B, 1, none⟩ (.int .u64 d)) := H1.out.put rfl (fun _ hB => qgh hB d) (fun j hj => heap_setCell_other _ _ j _ hj)
   exact h2.qoc (by omega) T2.out (by decide) _
theorem qpH (g : Gm.G) (b B : Nat) (A : Option Addr) (c kh o : Nat) (x y d : Int) (w : World) (hbB : b <= B) (hk : kh < 8) (ho : o < 8) (h : qaW b B A c g w) (hd : 0 <= g.dice /\ g.dice <= 18446744073709551615) (hs : ∀ i, i < 8 -> 0 <= (g.ship i).score /\ (g.ship i).score <= 1073741824)
 (hx : Dn.share (Dn.next g.dice) 16777216 = x) (hy : Dn.share (Dn.next (Dn.next g.dice)) 16777216 = y) (hdd : Dn.next (Dn.next g.dice) = d) :
 Calls Tryz.prog 162 #[.pointer (some ⟨B, 0, none⟩), .pointer (some ⟨B, 2 + kh * 7, none⟩), .int .i64 o] w fun e w' => e = .returned (.tuple #[]) /\ qaW b B A c { g with dice := d, ship := Gm.more (Gm.upd g.ship kh ⟨true, x, y, 0, 0, 0, (g.ship kh).score⟩) o } w' /\ Keep b B w w' := by
 have cp := fun sc X (hX : qaW b B A c g X) => qh (qpp g b B A c sc x y d X hbB hX hd hx hy hdd)
 have hc := h.game.cell
 have s6 := Gm.qae g (.slice A g.qaa.length c) kh 6 hk (by omega)
 simp only [Gm.Ship.cells, List.getElem?_cons_zero, List.getElem?_cons_succ] at s6
 obtain ⟨t, ht⟩ : ∃ t, t = g.ship kh := ⟨_, rfl⟩
 have q0 : ∀ s, (Gm.cells { g with dice := d } s)[2 + kh * 7]? = some (.bool t.on) := fun s => (Gm.qae { g with dice := d } s kh 0 hk (by omega)).trans (by rw [ht]; rfl)
 have q1 : ∀ s, (Gm.cells { g with dice := d } s)[2 + kh * 7 + 1]? = some (.int .i32 t.x) := fun s => (Gm.qae { g with dice := d } s kh 1 hk (by omega)).trans (by rw [ht]; rfl)
 have q2 : ∀ s, (Gm.cells { g with dice := d } s)[2 + kh * 7 + 2]? = some (.int .i32 t.y) := fun s => (Gm.qae { g with dice := d } s kh 2 hk (by omega)).trans (by rw [ht]; rfl)
 have q3 : ∀ s, (Gm.cells { g with dice := d } s)[2 + kh * 7 + 3]? = some (.int .i32 t.vx) := fun s => (Gm.qae { g with dice := d } s kh 3 hk (by omega)).trans (by rw [ht]; rfl)
 have q4 : ∀ s, (Gm.cells { g with dice := d } s)[2 + kh * 7 + 4]? = some (.int .i32 t.vy) := fun s => (Gm.qae { g with dice := d } s kh 4 hk (by omega)).trans (by rw [ht]; rfl)
 have q5 : ∀ s, (Gm.cells { g with dice := d } s)[2 + kh * 7 + 5]? = some (.int .i64 t.cool) := fun s => (Gm.qae { g with dice := d } s kh 5 hk (by omega)).trans (by rw [ht]; rfl)
 have q6 : ∀ s, (Gm.cells { g with dice := d } s)[2 + kh * 7 + 6]? = some (.int .i64 t.score) := fun s => (Gm.qae { g with dice := d } s kh 6 hk (by omega)).trans (by rw [ht]; rfl)
 have ho8 : (o : Int) < 8 := by omega
 have HH := qh h
 generalize hsc : (g.ship kh).score = sc at s6 ⊢
 clear h ht hx hy hdd
 go_enter Tryz.func162, Tryz.ntmps162
 go_upto_region 1 with (go_at_call 151; ((with_reducible refine ((cp _ _ HH.out).out).mono ?_); rintro e w1 ⟨rfl, H1, K1⟩; have hB1 := H1.game; have c1 := hB1.cell; have f1 := hB1.free; have H2 := qh (H1.stored hk ⟨true, x, y, 0, 0, 0, sc⟩); have K2 := qh (K1.stored (k := kh) ⟨true, x, y, 0, 0, 0, sc⟩); clear H1 K1 hB1 hc))
 have hgen : ∀ W : World, W = stored w1 B kh ⟨true, x, y, 0, 0, 0, sc⟩ -> qaW b B A c { g with dice := d, ship := Gm.upd g.ship kh ⟨true, x, y, 0, 0, 0, sc⟩ } W /\ Keep b B w W := fun W hW => by subst hW; exact ⟨H2.out, K2.out⟩
 obtain ⟨W2, hW2⟩ : ∃ W2, W2 = stored w1 B kh ⟨true, x, y, 0, 0, 0, sc⟩ := ⟨_, rfl⟩
 have hh2 := hgen W2 hW2
 simp only [stored] at hW2
 rw [<- hW2]
 obtain ⟨H3, K3⟩ := hh2
 have hs3 : ∀ i, i < 8 -> 0 <= (Gm.upd g.ship kh ⟨true, x, y, 0, 0, 0, sc⟩ i).score /\ (Gm.upd g.ship kh ⟨true, x, y, 0, 0, 0, sc⟩ i).score <= 1073741824 := fun i hi => by
  have h1 := hs i hi
  have h2 := hs kh hk
  unfold Gm.upd; split
  · dsimp only; rw [<- hsc]; exact h2
  · exact h1
 generalize hF : Gm.upd g.ship kh ⟨true, x, y, 0, 0, 0, sc⟩ = F at H3 hs3
 have FH := qh hF
 have sco := hs3 o ho
 have r0 := Gm.qae { g with dice := d, ship := F } (.slice A g.qaa.length c) o 0 ho (by omega)
 have r6 := Gm.qae { g with dice := d, ship := F } (.slice A g.qaa.length c) o 6 ho (by omega)
 simp only [Gm.Ship.cells, List.getElem?_cons_zero, List.getElem?_cons_succ, Nat.add_zero] at r0 r6
 have hsco := qh (fun u => H3.field (k := o) (t' := { F o with score := u }) (fun s => qjf { g with dice := d, ship := F } s o (F o) ho u))
 have H3H := qh H3
 have K3H := qh K3
 have k3 := H3.game.cell
 have f3 := H3.game.free
 have FF : Hid (Gm.more F o = if (F o).on = true then Gm.upd F o { F o with score := min ((F o).score + 1) 1073741824 } else F) := qh rfl
 clear H2 K2 hgen hW2 hF H3 K3 c1 f1 q0 q1 q2 q3 q4 q5 q6 hs3 cp HH s6 hs
 cases hon : (F o).on
 · rw [hon] at r0
   have HON := qh hon
   clear hon
   go_wp2
   go_end0
   refine ⟨rfl, ?_, K3H.out⟩
   rw [FH.out, FF.out, if_neg (by rw [HON.out]; simp)]
   exact H3H.out
 · rw [hon] at r0
   have HON := qh hon
   clear hon
   generalize (F o).score = so at *
   have hwrap : IntKind.i64.wrap (so + 1) = so + 1 := by rw [IntKind.wrap_i64]; omega
   by_cases hlt : so + 1 <= 1073741824
   · have MM := qh (Int.min_eq_left hlt)
     go_wp2
     go_end0
     refine ⟨rfl, ?_, K3H.out.put _ _⟩
     rw [FH.out, FF.out, if_pos HON.out, MM.out]
     exact hsco.out _
   · have MM := qh (Int.min_eq_right (show (1073741824 : Int) <= so + 1 by omega))
     have hlt' : ¬ so + 1 <= 1073741824 := hlt
     go_wp2
     go_end0
     refine ⟨rfl, ?_, K3H.out.put _ _⟩
     rw [FH.out, FF.out, if_pos HON.out, MM.out]
     exact hsco.out _
theorem qik (L : List Gm.Shot) (i j : Nat) (hi : i < L.length) (hj : j < 6) (u : Value) (s' : Gm.Shot) (h : L[i].cells.set j u = s'.cells) : (Gm.qad L).set (i * 6 + j) u = Gm.qad (L.set i s') := by
 induction L generalizing i with
 | nil => simp at hi
 | cons a L ih =>
  unfold Gm.qad at *
  match i with
  | 0 =>
   rw [List.set_cons_zero, List.flatMap_cons, List.flatMap_cons, List.set_append_left _ _ (by simp [Gm.Shot.cells]; omega)]
   congr 1
   simpa using h
  | i + 1 =>
   have hlen : a.cells.length = 6 := rfl
   rw [List.set_cons_succ, List.flatMap_cons, List.flatMap_cons, List.set_append_right _ _ (by rw [hlen]; omega), <- ih i (by simpa using hi) (by simpa using h), hlen]
   congr 2
   omega
abbrev flyG (G : Gm.G) (i : Nat) (s : Gm.Shot) : Gm.G := { G with qaa := G.qaa.set i s }
theorem qoz (G : Gm.G) (i : Nat) (hi : i < G.qaa.length) : flyG G i G.qaa[i] = G := by
 unfold flyG; rw [List.set_getElem_self]
theorem qaW.len {b B c : Nat} {A : Option Addr} {g : Gm.G} {w : World} (h : qaW b B A c g w) (hn : g.qaa.length ≠ 0) : ∃ gs, A = some ⟨gs, 0, none⟩ /\ b <= gs /\ gs < w.heap.size := by
 obtain ⟨_, ⟨_, h0⟩ | ⟨g', cap, cur, hv, hb, hg, _⟩⟩ := h.own
 · exact absurd h0 hn
 · injection hv with hv
   exact ⟨g', hv, hb, (Array.getElem?_eq_some_iff.1 hg).1⟩
section
variable {b B c gs i : Nat} {G : Gm.G} {s : Gm.Shot} {W : World}
theorem qaW.shot (h : qaW b B (some ⟨gs, 0, none⟩) c (flyG G i s) W) (hi : i < G.qaa.length) (j : Nat) (hj : j < 6) : W.cell? ⟨gs, i * 6 + j, none⟩ = s.cells[j]? := by
 have h1 := h.own
 dsimp only at h1
 have hl : (G.qaa.set i s).length = G.qaa.length := by simp
 rw [h1.cellAt (i * 6 + j) (by rw [hl]; omega), Gm.qbz _ i j (by rw [hl]; exact hi) hj]
 simp
theorem qaW.qij (h : qaW b B (some ⟨gs, 0, none⟩) c G W) (j : Nat) : W.frozen? ⟨gs, j, none⟩ = false := h.own.frozenAt j
theorem qaW.apart (h : qaW b B (some ⟨gs, 0, none⟩) c G W) : gs ≠ B := fun e => h.game.qaM h.own (by decide) (by rw [e]; rfl)
theorem qaW.row (h : qaW b B (some ⟨gs, 0, none⟩) c G W) : ∃ cs, Box W gs 80 cs /\ b <= gs := by
 obtain ⟨_, ⟨h0, _⟩ | ⟨g', cap, cur, hv, hb, hg, _⟩⟩ := h.own
 · cases h0
 · injection hv with hv
   injection hv with hv
   injection hv with hv
   subst hv
   exact ⟨cur, ⟨hg⟩, hb⟩
theorem qaW.qqa (h : qaW b B (some ⟨gs, 0, none⟩) c (flyG G i s) W) (hi : i < G.qaa.length) {j : Nat} (hj : j < 6) {u : Value} {s' : Gm.Shot} (he : s.cells.set j u = s'.cells) : qaW b B (some ⟨gs, 0, none⟩) c (flyG G i s') (W.setCell ⟨gs, i * 6 + j, none⟩ u) := by
 have hl : (G.qaa.set i s).length = G.qaa.length := by simp
 have hl' : (G.qaa.set i s').length = G.qaa.length := by simp
 refine ⟨?_, ?_⟩
 · have hg := h.game
   dsimp only at hg ⊢
   rw [hl] at hg
   rw [hl']
   exact hg.far (p := ⟨gs, i * 6 + j, none⟩) (fun e => h.apart e.symm) u
 · have h1 := (h.own.stored (i * 6 + j) u).1
   dsimp only at h1 ⊢
   rw [hl'] 
   rw [hl] at h1
   rw [qik _ i j (by rw [hl]; exact hi) hj u s' (by simpa using he), List.set_set] at h1
   exact h1
end
theorem qiL {f : Nat -> Gm.Ship} {s : Gm.Shot} : ∀ n i, i + n = 8 -> (∀ y ∈ qc0 (fun j => (f j).on) n i, Gm.qcD f s y.1 = false) -> Gm.qcZ f s n i = -1
 | 0, _, _, _ => rfl
 | n + 1, i, hi, h => by
  cases ho : (f i).on
  · rw [qgg (on := fun j => (f j).on) ho] at h
    rw [Gm.qcT (by unfold Gm.qcD; rw [ho]; rfl)]
    exact qiL n (i + 1) (by omega) h
  · rw [qeS (on := fun j => (f j).on) (by omega) ho] at h
    rw [Gm.qcT (h ⟨i, by omega, ho⟩ (by simp))]
    exact qiL n (i + 1) (by omega) fun y hy => h y (by simp [hy])
theorem qg1 {f : Nat -> Gm.Ship} {s : Gm.Shot} : ∀ n i (pre : List (Slot fun j => (f j).on)) (x : Slot fun j => (f j).on) rest, i + n = 8 -> qc0 (fun j => (f j).on) n i = pre ++ x :: rest -> (∀ y ∈ pre, Gm.qcD f s y.1 = false) -> Gm.qcD f s x.1 = true -> Gm.qcZ f s n i = (x.1 : Nat)
 | 0, _, pre, x, rest, _, h, _, _ => by
  have h' : ([] : List (Slot fun j => (f j).on)) = pre ++ x :: rest := h
  have := congrArg List.length h'
  simp at this
 | n + 1, i, pre, x, rest, hi, h, hn, hx => by
  cases ho : (f i).on
  · rw [qgg (on := fun j => (f j).on) ho] at h
    rw [Gm.qcT (by unfold Gm.qcD; rw [ho]; rfl)]
    exact qg1 n (i + 1) pre x rest (by omega) h hn hx
  · rw [qeS (on := fun j => (f j).on) (by omega) ho] at h
    cases pre with
    | nil =>
     simp only [List.nil_append, List.cons.injEq] at h
     rw [<- h.1] at hx ⊢
     rw [Gm.qes hx]
    | cons y pre =>
     simp only [List.cons_append, List.cons.injEq] at h
     have hy := hn y (by simp)
     rw [<- h.1] at hy
     rw [Gm.qcT hy]
     exact qg1 n (i + 1) pre x rest (by omega) h.2 (fun z hz => hn z (by simp [hz])) hx
def gone (G : Gm.G) (i : Nat) (s : Gm.Shot) : Bool × Gm.G :=
 if (Gm.fly s).left = 0 then (false, flyG G i (Gm.fly s))
 else if Gm.hit G.ship (Gm.fly s) < 0 then (true, flyG G i (Gm.fly s))
 else (false, { flyG G i (Gm.fly s) with dice := Gm.qeH G.dice, ship := Gm.more (Gm.anew G.dice G.ship (Gm.hit G.ship (Gm.fly s)).toNat) s.owner.toNat })
end Go.Proofs.YtmiopphcfdlneaaGreat