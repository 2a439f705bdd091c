/-
A region that draws its order: a head of operations whose values are known while K holds (numbers, looks), some that make memory or call (in whatever order they may come), each told by a relation on its value and the world, and a tail in one order.
-/
import Derived.Test.YtbihnmingedgfaaRp
import Derived.StillTail
import Derived.Below
import Derived.Deep.Draws
namespace Rz
open Go Go.RowKit

def gives (P : Program) (o : Oper) (a : Act) (w : World) (R : Value → World → Prop) : Prop :=
  match (execOp a.eval o).run P w with
  | .ok (.value u) w1 => R u w1
  | .ok .skip w1 => R undef w1
  | .ok (.enter f args) w1 => Calls P f args w1 fun e w2 => ∃ v, e = .returned v ∧ R v w2
  | _ => False
/-- What an operation leaves: a value and a world of R. (A structure: nobody looks into it unasked.) -/
structure Gives (P : Program) (o : Oper) (a : Act) (w : World) (R : Value → World → Prop) : Prop where
  is : gives P o a w R
theorem Gives.wp {P : Program} {o : Oper} {a : Act} {w : World} {R : Value → World → Prop} {K : Act → World → Prop} {Q : Exit → Act → World → Prop} (h : Gives P o a w R) (hK : ∀ v w', R v w' → K (a.put o.dst v) w') : o.wp P a w K Q := by
  have h := h.is
  unfold gives at h
  unfold Oper.wp
  generalize (execOp a.eval o).run P w = r at *
  cases r with
  | ok n w1 =>
    cases n <;> simp only [Oper.upon] at h ⊢
    case value u => exact hK _ _ h
    case skip => exact hK _ _ h
    case enter f args =>
      exact h.mono fun e w2 ⟨v, he, hw⟩ => by subst he; exact hK _ _ hw
  | halt x w1 => cases h
theorem Gives.congr {P : Program} {o : Oper} {a a' : Act} {w : World} {R : Value → World → Prop} (h : Gives P o a w R) (he : execOp a'.eval o = execOp a.eval o) : Gives P o a' w R :=
  ⟨by have h := h.is; unfold gives at *; rw [he]; exact h⟩

/-- The head, walked in the order of the text. -/
def wpHead (P : Program) (K : World → Prop) (Q : Act → Prop) : List Oper → Act → Prop
  | [], a => Q a
  | o :: rest, a => ∃ v, (∀ w, K w → (execOp a.eval o).run P w = .ok (.value v) w) ∧ wpHead P K Q rest (a.put o.dst v)
theorem head_op {P : Program} {K : World → Prop} {Q : Act → Prop} {o : Oper} {rest : List Oper} {a : Act} {v : Value} (hrun : ∀ w, K w → (execOp a.eval o).run P w = .ok (.value v) w) (h : wpHead P K Q rest (a.put o.dst v)) : wpHead P K Q (o :: rest) a := ⟨v, hrun, h⟩
theorem head_end {P : Program} {K : World → Prop} {Q : Act → Prop} {a : Act} (h : Q a) : wpHead P K Q [] a := h
def upd (vm : Nat → Value) (i : Nat) (v : Value) : Nat → Value := fun j => if j = i then v else vm j
theorem head_split {P : Program} {K : World → Prop} {M0 M T : Act → Prop} {a : Act} (R : Act → Prop) (hR : R a) (h0 : M0 a) (hM : ∀ A, R A → M A) (hT : T a) : wpHead P K (fun A => (M0 A ∧ M A) ∧ T A) [] a := ⟨⟨h0, hM a hR⟩, hT⟩
theorem put_size (a : Act) (d : Option Tmp) (v : Value) : (a.put d v).tmps.size = a.tmps.size := by cases d <;> simp [Act.put]
theorem put_same {a : Act} {t : Tmp} {v : Value} (h : t < a.tmps.size) : (a.put (some t) v).eval (.tmp t) = v := by simp [Act.put, Act.eval, h]
theorem put_other {a : Act} {t t' : Tmp} {v : Value} (h : t ≠ t') : (a.put (some t) v).eval (.tmp t') = a.eval (.tmp t') := by simp [Act.put, Act.eval, h]
theorem put_none (a : Act) (v : Value) (x : Operand) : (a.put none v).eval x = a.eval x := by cases x <;> simp [Act.put, Act.eval]
theorem exec_move {P : Program} {o : Oper} {a : Act} {w : World} {x : Operand} {v : Value} (ho : o.op = .move x) (hx : a.eval x = v) : (execOp a.eval o).run P w = .ok (.value v) w := by
  unfold execOp; simp only [ho, hx]; rfl
theorem exec_extract {P : Program} {o : Oper} {a : Act} {w : World} {x : Operand} {i : Nat} {vs : Array Value} {v : Value} (ho : o.op = .extract x i) (hx : a.eval x = .tuple vs) (hv : vs[i]? = some v) : (execOp a.eval o).run P w = .ok (.value v) w := by
  unfold execOp; simp [ho, hx, Instr.extract, hv]
def putAll : List Oper → Nat → (Nat → Value) → Act → Act
  | [], _, _, a => a
  | o :: os, k, vm, a => putAll os (k + 1) vm (a.put o.dst (vm k))

structure Run (P : Program) (K : World → Prop) (l : List Oper) (A : Nat → Act) (u : Nat → Value) : Prop where
  act : ∀ i o, l[i]? = some o → A (i + 1) = (A i).put o.dst (u i)
  run : ∀ i o, l[i]? = some o → ∀ w, K w → (execOp (A i).eval o).run P w = .ok (.value (u i)) w
theorem run_of_head {P : Program} {K : World → Prop} {Q : Act → Prop} : ∀ (l : List Oper) (a : Act), wpHead P K Q l a → ∃ A u, Run P K l A u ∧ A 0 = a ∧ Q (A l.length)
  | [], a, h => ⟨fun _ => a, fun _ => undef, ⟨fun i o h => by simp at h, fun i o h => by simp at h⟩, rfl, h⟩
  | o :: l, a, h => by
    obtain ⟨v, h1, h2⟩ := h
    obtain ⟨A, u, hr, hA, hQ⟩ := run_of_head l _ h2
    refine ⟨Rp.consF a A, Rp.consF v u, ⟨fun i o' ho' => ?_, fun i o' ho' => ?_⟩, rfl, hQ⟩
    · cases i with
      | zero => simp at ho'; subst ho'; exact hA
      | succ i => exact hr.act i o' (by simpa using ho')
    · cases i with
      | zero => simp at ho'; subst ho'; exact h1
      | succ i => exact hr.run i o' (by simpa using ho')

def depO (o : Oper) (j : Nat) : Bool := o.after.any fun e => Region.binds .any e && e.on == j
/-- Does i wait for j itself? -/
def dep (l : List Oper) (i j : Nat) : Bool := match l[i]? with | some o => o.after.any fun e => Region.binds .any e && e.on == j | none => false
def oneB (l : List Oper) (n : Nat) (i : Nat) : Bool :=
  match l[i]? with
  | some o => o.guard.isNone && (match o.dst with | some d => !(o.looksAt l.toArray).contains d | none => true) && (o.after.all fun e => !Region.binds .any e || decide (e.on < i)) &&
      ((List.range l.length).all fun j => i == j || match l[j]? with
        | some oj => (match o.dst, oj.dst with | some d, some d' => d != d' | _, _ => true) &&
            (match oj.dst with | some d => !(decide (j < n)) || !(o.looksAt l.toArray).contains d || dep l i j | none => true)
        | none => true)
  | none => true
def okB (n0 n : Nat) (l : List Oper) : Bool :=
  Region.noSelect l.toArray && decide (n < l.length) && decide (n0 ≤ n) && Region.sinkB .any l.toArray n && Region.chainB .any l.toArray n &&
    Region.seqB .any l.toArray (l.length - n) n (Array.replicate n true ++ Array.replicate (l.length - n) false) &&
    ((List.range n).all fun i => oneB l n i) && ((List.range l.length).all fun i => (List.range l.length).all fun j => i == j || match l[i]?, l[j]? with | some o, some oj => (match o.dst, oj.dst with | some d, some d' => d != d' | _, _ => true) | _, _ => true)

structure Ok (n0 n : Nat) (l : List Oper) : Prop where
  sel : Region.noSelect l.toArray = true
  lt : n < l.length
  le : n0 ≤ n
  sink : Region.sinkB .any l.toArray n = true
  chain : Region.chainB .any l.toArray n = true
  seq : Region.seqB .any l.toArray (l.length - n) n (Array.replicate n true ++ Array.replicate (l.length - n) false) = true
  guard : ∀ (i : Nat) (o : Oper), i < n → l[i]? = some o → o.guard = none
  down : ∀ (i : Nat) (o : Oper), i < n → l[i]? = some o → ∀ e ∈ o.after, Region.binds .any e = true → e.on < i
  self : ∀ (i : Nat) (o : Oper) (t : Tmp), i < n → l[i]? = some o → o.dst = some t → t ∈ o.looksAt l.toArray → False
  dist : Rp.Distinct l
  looks : ∀ (i j : Nat) (oi oj : Oper) (t : Tmp), i < n → j < n → l[i]? = some oi → l[j]? = some oj → i ≠ j → oj.dst = some t → t ∈ oi.looksAt l.toArray → dep l i j = true
theorem Ok.of {n0 n : Nat} {l : List Oper} (h : okB n0 n l = true) : Ok n0 n l := by
  simp only [okB, Bool.and_eq_true, decide_eq_true_eq] at h
  obtain ⟨⟨⟨⟨⟨⟨⟨h1, h2⟩, h3⟩, h4⟩, h5⟩, h6⟩, h7⟩, h8⟩ := h
  have hi : ∀ i o, i < n → l[i]? = some o → ((o.guard.isNone = true ∧ ∀ t, o.dst = some t → t ∈ o.looksAt l.toArray → False) ∧ (∀ e ∈ o.after, Region.binds .any e = true → e.on < i)) ∧ ∀ j oj, l[j]? = some oj → i ≠ j → ∀ t, oj.dst = some t → j < n → t ∈ o.looksAt l.toArray → dep l i j = true := fun i o hin ho => by
    have := List.all_eq_true.1 h7 i (List.mem_range.2 hin)
    unfold oneB at this
    rw [ho] at this
    simp only [Bool.and_eq_true] at this
    obtain ⟨⟨⟨a1, a0⟩, a2⟩, a3⟩ := this
    refine ⟨⟨⟨a1, fun t ht hm => by rw [ht] at a0; simp [hm] at a0⟩, fun e he hb => ?_⟩, fun j oj hj hne t ht hjn hmem => ?_⟩
    · have := Array.all_eq_true_iff_forall_mem.1 a2 e he
      simp [hb] at this
      exact this
    · have hjl := (List.getElem?_eq_some_iff.1 hj).1
      have := List.all_eq_true.1 a3 j (List.mem_range.2 hjl)
      simp only [Bool.or_eq_true, beq_iff_eq] at this
      rcases this with this | this
      · exact absurd this hne
      · rw [hj] at this
        simp only [Bool.and_eq_true] at this
        have := this.2
        rw [ht] at this
        simp [hjn, hmem] at this
        exact this
  refine ⟨h1, h2, h3, h4, h5, h6, fun i o hin ho => by simpa using (hi i o hin ho).1.1.1, fun i o hin ho => (hi i o hin ho).1.2, fun i o t hin ho => (hi i o hin ho).1.1.2 t, ?_, fun i j oi oj t hin hjn ho hj hne ht hm => (hi i oi hin ho).2 j oj hj hne t ht hjn hm⟩
  intro i j oi oj t ho hj hd hd'
  have hil := (List.getElem?_eq_some_iff.1 ho).1
  have hjl := (List.getElem?_eq_some_iff.1 hj).1
  have := List.all_eq_true.1 (List.all_eq_true.1 h8 i (List.mem_range.2 hil)) j (List.mem_range.2 hjl)
  simp only [Bool.or_eq_true, beq_iff_eq] at this
  rcases this with this | this
  · exact this
  · rw [ho, hj] at this
    simp only [hd, hd'] at this
    simp at this
theorem dep_spec {l : List Oper} {i j : Nat} {o : Oper} (ho : l[i]? = some o) (h : dep l i j = true) : ∃ e ∈ o.after, Region.binds .any e = true ∧ e.on = j := by
  unfold dep at h
  rw [ho] at h
  obtain ⟨e, he, hb⟩ := Array.any_eq_true'.1 h
  simp only [Bool.and_eq_true, beq_iff_eq] at hb
  exact ⟨e, he, hb.1, hb.2⟩

structure Inv (l : List Oper) (n0 n : Nat) (u : Nat → Value) (V : Nat → (Nat → Value) → World → Prop) (K : World → Prop) (a0 : Act) (listed : Array Bool) (a : Act) (w : World) : Prop where
  head : HeadInv .any l.toArray n listed
  shape : ∃ vm : Nat → Value, Rp.Shape l (fun j => if j < n0 then u j else vm j) a0 (fun j => listed.getD j false) a ∧ ∀ j, n0 ≤ j → j < n → listed.getD j false = true → V j vm w
  world : K w

theorem shape_same_v {l : List Oper} {v v' : Nat → Value} {a0 a : Act} {S : Nat → Bool} (h : Rp.Shape l v a0 S a) (he : ∀ j, S j = true → v j = v' j) : Rp.Shape l v' a0 S a :=
  ⟨h.size, h.defers, fun j o t hj hd hs => by rw [h.done j o t hj hd hs, he j hs], h.rest⟩

section
variable {P : Program} {l : List Oper} {n0 n : Nat} {K : World → Prop} {V : Nat → (Nat → Value) → World → Prop} {A : Nat → Act} {u : Nat → Value}
theorem Run.shape (hr : Run P K (l.take n0) A u) (ok : Ok n0 n l) {v : Nat → Value} (hv : ∀ j, j < n0 → v j = u j) : ∀ k, k ≤ n0 → Rp.Shape l v (A 0) (fun j => decide (j < k)) (A k)
  | 0, _ => Rp.Shape.start.congr fun j o hj => by simp
  | k + 1, hk => by
    have ih := Run.shape hr ok hv k (by omega)
    have hkl : k < l.length := by have := ok.lt; have := ok.le; omega
    have ho : l[k]? = some (l[k]'hkl) := List.getElem?_eq_getElem hkl
    have ho' : (l.take n0)[k]? = some (l[k]'hkl) := by rw [List.getElem?_take, if_pos (by omega)]; exact ho
    have h1 := ih.put ok.dist ho
    rw [hv k (by omega), ← hr.act k _ ho'] at h1
    exact h1.congr fun j o hj => by rw [Bool.eq_iff_iff]; simp; omega
theorem putAll_shape (ok : Ok n0 n l) {v : Nat → Value} {a0 : Act} : ∀ (d k : Nat) (a : Act), k + d = n → Rp.Shape l v a0 (fun j => decide (j < k)) a → Rp.Shape l v a0 (fun j => decide (j < n)) (putAll ((l.drop k).take d) k v a)
  | 0, k, a, hk, h => by
    have e : k = n := by omega
    subst e
    simp only [List.take_zero]
    exact h
  | d + 1, k, a, hk, h => by
    have hkl : k < l.length := by have := ok.lt; omega
    have ho : l[k]? = some (l[k]'hkl) := List.getElem?_eq_getElem hkl
    have e : (l.drop k).take (d + 1) = l[k]'hkl :: (l.drop (k + 1)).take d := by rw [List.drop_eq_getElem_cons hkl, List.take_succ_cons]
    rw [e]
    show Rp.Shape l v a0 _ (putAll _ (k + 1) v (a.put _ (v k)))
    exact putAll_shape ok d (k + 1) _ (by omega) ((h.put ok.dist ho).congr fun j o hj => by rw [Bool.eq_iff_iff]; simp; omega)

theorem putAll_congr {v v' : Nat → Value} : ∀ (l : List Oper) (k : Nat) (a : Act), (∀ j, k ≤ j → v j = v' j) → putAll l k v a = putAll l k v' a
  | [], _, _, _ => rfl
  | o :: l, k, a, h => by
    show putAll l (k + 1) v _ = putAll l (k + 1) v' _
    rw [h k (Nat.le_refl _)]
    exact putAll_congr l (k + 1) _ fun j hj => h j (by omega)

theorem all_ {Q : Exit → Act → World → Prop} (hr : Run P K (l.take n0) A u) (ok : Ok n0 n l) (hVd : ∀ j vm vm' w, n0 ≤ j → j < n → (∀ k, k = j ∨ dep l j k = true → vm k = vm' k) → V j vm w → V j vm' w)
    (hmid : ∀ i o, n0 ≤ i → i < n → l[i]? = some o → ∀ (vm : Nat → Value) w, K w → (∀ j, n0 ≤ j → j < n → dep l i j = true → V j vm w) → Gives P o (putAll ((l.drop n0).take (n - n0)) n0 vm (A n0)) w (fun v w' => V i (upd vm i v) w' ∧ K w' ∧ ∀ j, n0 ≤ j → j < n → j ≠ i → V j vm w → V j vm w'))
    (htail : ∀ (vm : Nat → Value) w, K w → (∀ j, n0 ≤ j → j < n → V j vm w) → wpList P l.toArray Q (l.drop n) (putAll ((l.drop n0).take (n - n0)) n0 vm (A n0)) w) :
    ∀ (m : Nat) (listed : Array Bool) (a : Act) (w : World), Inv l n0 n u V K (A 0) listed a w → Rp.unl (fun i => listed.getD i false) n = m → wpAny P .any l.toArray Q (m + (l.length - n)) listed a w := by
  have hll : l.toArray.size = l.length := by simp
  have shapeA : ∀ vm : Nat → Value, Rp.Shape l (fun j => if j < n0 then u j else vm j) (A 0) (fun j => decide (j < n)) (putAll ((l.drop n0).take (n - n0)) n0 vm (A n0)) := fun vm => by
    have h := putAll_shape ok (v := fun j => if j < n0 then u j else vm j) (a0 := A 0) (n - n0) n0 (A n0) (by have := ok.le; omega) (hr.shape ok (fun j hj => by simp [hj]) n0 (Nat.le_refl _))
    rw [putAll_congr (v := fun j => if j < n0 then u j else vm j) (v' := vm) _ _ _ (fun j hj => by simp; intro h; omega)] at h
    exact h
  intro m
  induction m with
  | zero =>
    intro listed a w inv hm
    have hall := Rp.unl_zero (f := fun i => listed.getD i false) (n := n) hm
    have e : listed = Array.replicate n true ++ Array.replicate (l.length - n) false := by
      apply Array.ext
      · rw [inv.head.size]; simp; have := ok.lt; omega
      · intro i h1 h2
        have hs := inv.head.size
        by_cases hin : i < n
        · have := hall i hin
          simp [h1] at this
          rw [Array.getElem_append_left (by simpa using hin)]
          simpa using this
        · have := inv.head.tail i (by omega) (by rw [← hs]; exact h1)
          simp [h1] at this
          rw [Array.getElem_append_right (by simp; omega)]
          simpa using this
    obtain ⟨vm, hs, hV⟩ := inv.shape
    have ea : a = putAll ((l.drop n0).take (n - n0)) n0 vm (A n0) := hs.ext (shapeA vm) fun j o hj => by
      have hjl : j < l.length := (List.getElem?_eq_some_iff.1 hj).1
      by_cases hjn : j < n
      · rw [hall j hjn]; simp [hjn]
      · have := inv.head.tail j (by omega) (by rw [hll]; exact hjl)
        rw [getD_both this]; simp [hjn]
    have hw := htail vm w inv.world (fun j h1 h2 => hV j h1 h2 (hall j h2))
    rw [← ea] at hw
    have hdl : (l.drop n).length = l.length - n := by simp
    have := wpAny_of_seq (md := .any) (Q' := Q) (l.drop n) n listed a w (fun j => by simp [List.getElem?_drop]) (by rw [hdl, e]; exact ok.seq) hw
    rw [hdl] at this
    rw [Nat.zero_add]
    exact this
  | succ m ih =>
    intro listed a w inv hm
    rw [show m + 1 + (l.length - n) = (m + (l.length - n)) + 1 by omega]
    -- somebody of the head has not been
    have hex : ∃ i, i < n ∧ listed.getD i false = false := by
      refine Classical.byContradiction fun hno => ?_
      have : ∀ k, k ≤ n → Rp.unl (fun i => listed.getD i false) k = 0 := by
        intro k
        induction k with
        | zero => intro _; rfl
        | succ k ihk =>
          intro hk
          unfold Rp.unl
          rw [ihk (by omega)]
          cases h : listed.getD k false
          · exact absurd ⟨k, by omega, h⟩ hno
          · simp
      have := this n (Nat.le_refl _)
      omega
    obtain ⟨i0, hi0, hun0⟩ := hex
    have his0 : i0 < listed.size := by rw [inv.head.size, hll]; have := ok.lt; omega
    refine ⟨fun hr' => ?_, fun i hi => ?_⟩
    · exfalso
      have key : ∀ i, i < n → listed.getD i false = true := by
        intro i
        induction i using Nat.strongRecOn with
        | _ i ihi =>
          intro hin
          cases hu : listed.getD i false
          · have hil : i < l.length := by have := ok.lt; omega
            have ho : l[i]? = some (l[i]'hil) := List.getElem?_eq_getElem hil
            have his : i < listed.size := by rw [inv.head.size, hll]; exact hil
            have : i ∈ Region.ready .any l.toArray listed := mem_ready.2 ⟨getD_in his hu, _, (by rw [List.getElem?_toArray]; exact ho), fun e he hb => by
              have hd := ok.down i _ hin ho e he hb
              exact ihi e.on hd (by omega)⟩
            rw [hr'] at this; cases this
          · rfl
      rw [key i0 hi0] at hun0; cases hun0
    · have hin : i < n := by
        refine Classical.byContradiction fun hge => ?_
        exact tail_waits ok.sink ok.chain (by rw [hll]; exact ok.lt) inv.head (n - i0) i0 rfl hi0 (getD_in his0 hun0) i (by omega) hi
      obtain ⟨hun, o, ho', hdeps⟩ := mem_ready.1 hi
      have ho : l[i]? = some o := by simpa using ho'
      have hil : i < l.length := (List.getElem?_eq_some_iff.1 ho).1
      have his : i < listed.size := by rw [inv.head.size, hll]; exact hil
      have hun' : listed.getD i false = false := getD_both hun
      have getset : ∀ j, (listed.setIfInBounds i true).getD j false = (listed.getD j false || j == i) := fun j => by
        by_cases hji : j = i
        · subst hji; simp [his]
        · rw [getD_set_ne false (fun e => hji e.symm)]; simp [hji]
      have hun2 : Rp.unl (fun j => (listed.setIfInBounds i true).getD j false) n = m := by
        have := Rp.unl_set (f := fun j => listed.getD j false) (g := fun j => (listed.setIfInBounds i true).getD j false) (i := i) hun' (by rw [getset]; simp) (fun j hj => by rw [getset]; simp [hj]) hin
        omega
      obtain ⟨vm, hs, hV⟩ := inv.shape
      have next : ∀ v w', (i < n0 → v = u i) → (n0 ≤ i → V i (upd vm i v) w') → K w' → (∀ j, n0 ≤ j → j < n → j ≠ i → V j vm w → V j vm w') → wpAny P .any l.toArray Q (m + (l.length - n)) (listed.setIfInBounds i true) (a.put o.dst v) w' := fun v w' h1 h2 hKw hst => by
        refine ih _ _ _ ⟨inv.head.set hi hin, ⟨upd vm i v, ?_, fun j hj1 hj2 hl => ?_⟩, hKw⟩ hun2
        · have hs' := shape_same_v (v' := fun j => if j < n0 then u j else upd vm i v j) hs fun j hj => by
            by_cases hjn : j < n0
            · simp [hjn]
            · have : j ≠ i := fun e => by subst e; rw [hun'] at hj; cases hj
              simp [hjn, this, upd]
          have hp := hs'.put ok.dist ho
          have ev : (if i < n0 then u i else upd vm i v i) = v := by
            by_cases hin0 : i < n0
            · simp [hin0, h1 hin0]
            · simp [hin0, upd]
          rw [ev] at hp
          exact hp.congr fun j o hj => (getset j).symm
        · by_cases hji : j = i
          · subst hji; exact h2 hj1
          · rw [getset] at hl
            have hlj : listed.getD j false = true := by simpa [hji] using hl
            refine hVd j vm _ w' hj1 hj2 (fun k hk => ?_) (hst j hj1 hj2 hji (hV j hj1 hj2 hlj))
            have hki : k ≠ i := fun e => by
              subst e
              rcases hk with rfl | hk
              · exact hji rfl
              · have hjl : j < l.length := by have := ok.lt; omega
                have hoj : l[j]? = some (l[j]'hjl) := List.getElem?_eq_getElem hjl
                obtain ⟨e, he, hb, hon⟩ := dep_spec hoj hk
                have := inv.head.closed j _ (by rw [List.getElem?_toArray]; exact hoj) hlj e he hb
                rw [hon, hun'] at this; cases this
            simp [upd, hki]
      have before : ∀ j, dep l i j = true → listed.getD j false = true := fun j hd => by
        obtain ⟨e, he, hb, rfl⟩ := dep_spec ho hd
        exact hdeps e he hb
      unfold wpOp
      simp only [ho', Region.wanted, ok.guard i o hin ho, if_true]
      refine .inl ?_
      by_cases hi0' : i < n0
      · have ho2 : (l.take n0)[i]? = some o := by rw [List.getElem?_take, if_pos hi0']; exact ho
        have exec : execOp a.eval o = execOp (A i).eval o := execOp_congr o (fun cs b => Region.noSelect_spec ok.sel i o cs b ho') fun x hx => by
          cases x with
          | tmp t =>
            have ht : t ∈ o.looksAt l.toArray := List.mem_append_left _ (List.mem_filterMap.2 ⟨.tmp t, by simpa using hx, rfl⟩)
            have e := hs.same (hr.shape ok (v := fun j => if j < n0 then u j else vm j) (fun j hj => by simp [hj]) i (by omega)) (t := t) fun j oj hj hd => by
              by_cases hji : j = i
              · subst hji; rw [hun']; simp
              · by_cases hjn : j < n
                · have hdp := ok.looks i j o oj t hin hjn ho hj (fun e => hji e.symm) hd ht
                  obtain ⟨e, he, hb, hon⟩ := dep_spec ho hdp
                  have := ok.down i o hin ho e he hb
                  rw [before j hdp]; simp; omega
                · have hjl : j < l.length := (List.getElem?_eq_some_iff.1 hj).1
                  rw [getD_both (inv.head.tail j (by omega) (by rw [hll]; exact hjl))]; simp; omega
            simp only [Act.eval, Array.getD_eq_getD_getElem?, e]
          | const => rfl
          | global => rfl
          | func => rfl
        have hrun := hr.run i o ho2 w inv.world
        have hg : Gives P o (A i) w (fun v w' => v = u i ∧ w' = w) := ⟨by unfold gives; rw [hrun]; exact ⟨rfl, rfl⟩⟩
        refine (hg.congr exec).wp fun v w' ⟨hv, hw⟩ => ?_
        subst hw
        exact next v w' (fun _ => hv) (fun h => absurd h (by omega)) inv.world (fun j _ _ _ h => h)
      · have exec : execOp a.eval o = execOp (putAll ((l.drop n0).take (n - n0)) n0 vm (A n0)).eval o := execOp_congr o (fun cs b => Region.noSelect_spec ok.sel i o cs b ho') fun x hx => by
          cases x with
          | tmp t =>
            have ht : t ∈ o.looksAt l.toArray := List.mem_append_left _ (List.mem_filterMap.2 ⟨.tmp t, by simpa using hx, rfl⟩)
            by_cases hself : o.dst = some t
            · -- it reads what it writes: told by the check to be nobody else's
              exact (ok.self i o t hin ho hself ht).elim
            · have e := hs.same (shapeA vm) (t := t) fun j oj hj hd => by
                have hji : j ≠ i := fun e => by subst e; rw [ho] at hj; injection hj with hj; subst hj; exact hself hd
                by_cases hjn : j < n
                · rw [before j (ok.looks i j o oj t hin hjn ho hj (fun e => hji e.symm) hd ht)]; simp [hjn]
                · have hjl : j < l.length := (List.getElem?_eq_some_iff.1 hj).1
                  rw [getD_both (inv.head.tail j (by omega) (by rw [hll]; exact hjl))]; simp [hjn]
              simp only [Act.eval, Array.getD_eq_getD_getElem?, e]
          | const => rfl
          | global => rfl
          | func => rfl
        refine ((hmid i o (by omega) hin ho vm w inv.world (fun j h1 h2 hd => hV j h1 h2 (before j hd))).congr exec).wp fun v w' ⟨h1, h2, h3⟩ => ?_
        exact next v w' (fun h => absurd h (by omega)) (fun _ => h1) h2 h3
end
def midAll (R : Nat → Oper → Prop) : List Oper → Nat → Prop
  | [], _ => True
  | o :: os, i => R i o ∧ midAll R os (i + 1)
theorem midAll_at {R : Nat → Oper → Prop} : ∀ (os : List Oper) (k : Nat), midAll R os k → ∀ (j : Nat) (o : Oper), os[j]? = some o → R (k + j) o
  | [], _, _, j, o, h => by simp at h
  | o' :: os, k, h, 0, o, ho => by simp at ho; subst ho; exact h.1
  | o' :: os, k, h, j + 1, o, ho => by
    have := midAll_at os (k + 1) h.2 j o (by simpa using ho)
    rwa [show k + 1 + j = k + (j + 1) by omega] at this
theorem unl_none (n : Nat) (f : Nat → Bool) (h : ∀ i, i < n → f i = false) : Rp.unl f n = n := by
  induction n with
  | zero => rfl
  | succ n ih => unfold Rp.unl; rw [ih fun i hi => h i (by omega), h n (by omega)]; simp
/-- **One walk of the head, each act by its relation, the tail once: this serves every order.** -/
theorem wp_region_z {P : Program} {l : List Oper} {a : Act} {w : World} {id : Nat} {Q : Exit → Act → World → Prop} (hm : P.follows .mixedOrders = true) (n0 n : Nat) (hB : okB n0 n l = true) (K : World → Prop) (V : Nat → (Nat → Value) → World → Prop) (hK : K w.drew)
    (hVd : ∀ j vm vm' w, n0 ≤ j → j < n → (∀ k, k = j ∨ dep l j k = true → vm k = vm' k) → V j vm w → V j vm' w)
    (h : wpHead P K (fun A => (midAll (fun i o => ∀ (vm : Nat → Value) w, K w → (∀ j, n0 ≤ j → j < n → depO o j = true → V j vm w) → Gives P o (putAll ((l.drop n0).take (n - n0)) n0 vm A) w (fun v w' => V i (upd vm i v) w' ∧ K w' ∧ ∀ j, n0 ≤ j → j < n → j ≠ i → V j vm w → V j vm w')) ((l.drop n0).take (n - n0)) n0) ∧
      (∀ (vm : Nat → Value) w, K w → (∀ j, n0 ≤ j → j < n → V j vm w) → wpList P l.toArray Q (l.drop n) (putAll ((l.drop n0).take (n - n0)) n0 vm A) w)) (l.take n0) a) : (Code.region id l.toArray true).wp P Q a w := by
  have ok := Ok.of hB
  obtain ⟨A, u, hr, hA, hmid, htail⟩ := run_of_head _ _ h
  have hlen : (l.take n0).length = n0 := by simp; have := ok.lt; have := ok.le; omega
  rw [hlen] at hmid htail
  have hmid := fun i o (h1 : n0 ≤ i) (h2 : i < n) (ho : l[i]? = some o) => (by
    have := midAll_at _ _ hmid (i - n0) o (by rw [List.getElem?_take, if_pos (by omega), List.getElem?_drop, show n0 + (i - n0) = i by omega]; exact ho)
    rw [show n0 + (i - n0) = i by omega] at this
    exact fun vm w hK hV => this vm w hK (fun j h1 h2 hd => hV j h1 h2 (by unfold dep; rw [ho]; exact hd)) : ∀ (vm : Nat → Value) w, K w → (∀ j, n0 ≤ j → j < n → dep l i j = true → V j vm w) → Gives P o (putAll ((l.drop n0).take (n - n0)) n0 vm (A n0)) w (fun v w' => V i (upd vm i v) w' ∧ K w' ∧ ∀ j, n0 ≤ j → j < n → j ≠ i → V j vm w → V j vm w'))
  refine wp_region_any hm ?_
  have hinv : Inv l n0 n u V K (A 0) (Array.replicate l.toArray.size false) a w.drew := by
    refine ⟨⟨by simp, fun j oj _ hl => (by rw [getD_replicate_false] at hl; cases hl), fun t _ ht => getD_in (by simpa using ht) (getD_replicate_false _ _)⟩, ⟨fun _ => undef, ?_, fun j _ _ hl => (by rw [getD_replicate_false] at hl; cases hl)⟩, hK⟩
    rw [hA]
    exact Rp.Shape.start.congr fun j o _ => by rw [getD_replicate_false]
  have := all_ (Q := Q) hr ok hVd hmid htail n _ _ _ hinv (unl_none n _ fun i _ => getD_replicate_false _ _)
  rw [show n + (l.length - n) = l.toArray.size by have := ok.lt; simp; omega] at this
  exact this
end Rz
