/-
Several texts in one: Rk Rgp Rgq.
-/
import Derived.Test.YtbdlpbnfcnhajaaGreatRq15
set_option maxRecDepth 100000
set_option maxHeartbeats 8000000
set_option linter.unusedVariables false
set_option linter.unusedSimpArgs false
namespace Rk
open Go Go.RowKit Rz Rj
def okB (n0 : Nat) (l : List Oper) : Bool :=
 Region.noSelect l.toArray && decide (n0 <= l.length) &&
  ((List.range l.length).all fun i => oneB l l.length i) && ((List.range l.length).all fun i => (List.range l.length).all fun j => i == j || match l[i]?, l[j]? with | some o, some oj => (match o.dst, oj.dst with | some d, some d' => d != d' | _, _ => true) | _, _ => true)
structure Ok (n0 n : Nat) (l : List Oper) : Prop where
 sel : Region.noSelect l.toArray = true
 eq : n = l.length
 le : n0 <= n
 guard : ∀ (i : Nat) (o : Oper), i < n -> l[i]? = some o -> o.guard = none
 down : ∀ (i : Nat) (o : Oper), i < n -> l[i]? = some o -> ∀ e ∈ o.after, Region.binds .any e = true -> e.on < i
 self : ∀ (i : Nat) (o : Oper) (t : Tmp), i < n -> l[i]? = some o -> o.dst = some t -> t ∈ o.looksAt l.toArray -> False
 dist : Rx.qbT l
 looks : ∀ (i j : Nat) (oi oj : Oper) (t : Tmp), i < n -> j < n -> l[i]? = some oi -> l[j]? = some oj -> i ≠ j -> oj.dst = some t -> t ∈ oi.looksAt l.toArray -> dep l i j = true
theorem Ok.of {n0 n : Nat} {l : List Oper} (hn : n = l.length) (h : okB n0 l = true) : Ok n0 n l := by
 subst hn
 simp only [okB, Bool.and_eq_true, decide_eq_true_eq] at h
 obtain ⟨⟨⟨h1, h3⟩, h7⟩, h8⟩ := h
 have hi : ∀ i o, i < l.length -> l[i]? = some o -> ((o.guard.isNone = true /\ ∀ t, o.dst = some t -> t ∈ o.looksAt l.toArray -> False) /\ (∀ e ∈ o.after, Region.binds .any e = true -> e.on < i)) /\ ∀ j oj, l[j]? = some oj -> i ≠ j -> ∀ t, oj.dst = some t -> j < l.length -> t ∈ o.looksAt l.toArray -> dep l i j = true := fun i o hin ho => by
  have := List.all_eq_true.1 h7 i (List.mem_range.2 hin)
  unfold oneB at this
  rw [ho] at this
  simp only [Bool.and_eq_true] at this
  obtain ⟨⟨⟨a1, a0⟩, a2⟩, a3⟩ := this
  refine ⟨⟨⟨a1, fun t ht hm => by rw [ht] at a0; simp [hm] at a0⟩, fun e he hb => ?_⟩, fun j oj hj hne t ht hjn hmem => ?_⟩
  · have := Array.all_eq_true_iff_forall_mem.1 a2 e he
    simp [hb] at this
    exact this
  · have hjl := (List.getElem?_eq_some_iff.1 hj).1
    have := List.all_eq_true.1 a3 j (List.mem_range.2 hjl)
    simp only [Bool.or_eq_true, beq_iff_eq] at this
    rcases this with this | this
    · exact absurd this hne
    · rw [hj] at this
      simp only [Bool.and_eq_true] at this
      have := this.2
      rw [ht] at this
      simp [hjn, hmem] at this
      exact this
 refine ⟨h1, rfl, h3, fun i o hin ho => by simpa using (hi i o hin ho).1.1.1, fun i o hin ho => (hi i o hin ho).1.2, fun i o t hin ho => (hi i o hin ho).1.1.2 t, ?_, fun i j oi oj t hin hjn ho hj hne ht hm => (hi i oi hin ho).2 j oj hj hne t ht hjn hm⟩
 intro i j oi oj t ho hj hd hd'
 have hil := (List.getElem?_eq_some_iff.1 ho).1
 have hjl := (List.getElem?_eq_some_iff.1 hj).1
 have := List.all_eq_true.1 (List.all_eq_true.1 h8 i (List.mem_range.2 hil)) j (List.mem_range.2 hjl)
 simp only [Bool.or_eq_true, beq_iff_eq] at this
 rcases this with this | this
 · exact this
 · rw [ho, hj] at this
   simp only [hd, hd'] at this
   simp at this
section
variable {P : Program} {l : List Oper} {n0 n : Nat} {K : World -> Prop} {V : Nat -> (Nat -> Value) -> World -> Prop} {D : (Nat -> Bool) -> (Nat -> Value) -> World -> Prop} {A : Nat -> Act} {u : Nat -> Value}
theorem qif (hr : Run P K (l.take n0) A u) (ok : Ok n0 n l) {v : Nat -> Value} (hv : ∀ j, j < n0 -> v j = u j) : ∀ k, k <= n0 -> Rx.Shape l v (A 0) (fun j => decide (j < k)) (A k)
 | 0, _ => Rx.Shape.start.congr fun j o hj => by simp
 | k + 1, hk => by
  have ih := qif hr ok hv k (by omega)
  have hkl : k < l.length := by have := ok.eq; have := ok.le; omega
  have ho : l[k]? = some (l[k]'hkl) := List.getElem?_eq_getElem hkl
  have ho' : (l.take n0)[k]? = some (l[k]'hkl) := by rw [List.getElem?_take, if_pos (by omega)]; exact ho
  have h1 := ih.put ok.dist ho
  rw [hv k (by omega), <- hr.act k _ ho'] at h1
  exact h1.congr fun j o hj => by rw [Bool.eq_iff_iff]; simp; omega
theorem qgB (ok : Ok n0 n l) {v : Nat -> Value} {a0 : Act} : ∀ (d k : Nat) (a : Act), k + d = n -> Rx.Shape l v a0 (fun j => decide (j < k)) a -> Rx.Shape l v a0 (fun j => decide (j < n)) (qaA ((l.drop k).take d) k v a)
 | 0, k, a, hk, h => by
  have e : k = n := by omega
  subst e
  simp only [List.take_zero]
  exact h
 | d + 1, k, a, hk, h => by
  have hkl : k < l.length := by have := ok.eq; omega
  have ho : l[k]? = some (l[k]'hkl) := List.getElem?_eq_getElem hkl
  have e : (l.drop k).take (d + 1) = l[k]'hkl :: (l.drop (k + 1)).take d := by rw [List.drop_eq_getElem_cons hkl, List.take_succ_cons]
  rw [e]
  show Rx.Shape l v a0 _ (qaA _ (k + 1) v (a.put _ (v k)))
  exact qgB ok d (k + 1) _ (by omega) ((h.put ok.dist ho).congr fun j o hj => by rw [Bool.eq_iff_iff]; simp; omega)
theorem all_ {Q : Exit -> Act -> World -> Prop} (hr : Run P K (l.take n0) A u) (ok : Ok n0 n l) (hDc : ∀ S vm vm' w, (∀ j, n0 <= j -> vm j = vm' j) -> D S vm w -> D S vm' w) (hVd : ∀ j vm vm' w, n0 <= j -> j < n -> (∀ k, k = j \/ dep l j k = true -> vm k = vm' k) -> V j vm w -> V j vm' w)
 (hmid : ∀ i o, n0 <= i -> i < n -> l[i]? = some o -> ∀ (S : Nat -> Bool) (vm : Nat -> Value) w, K w -> S i = false -> (∀ j, n0 <= j -> j < n -> dep l i j = true -> S j = true) -> (∀ j, n0 <= j -> j < n -> S j = true -> V j vm w) -> D S vm w -> Gives P o (qaA ((l.drop n0).take (n - n0)) n0 vm (A n0)) w (fun v w' => V i (upd vm i v) w' /\ K w' /\ (∀ j, n0 <= j -> j < n -> j ≠ i -> S j = true -> V j vm w -> V j vm w') /\ D (also S i) (upd vm i v) w'))
 (htail : ∀ (S : Nat -> Bool) (vm : Nat -> Value) w, K w -> (∀ j, n0 <= j -> j < n -> S j = true) -> (∀ j, n0 <= j -> j < n -> V j vm w) -> D S vm w -> Q .normal (qaA ((l.drop n0).take (n - n0)) n0 vm (A n0)) w) :
 ∀ (m : Nat) (listed : Array Bool) (a : Act) (w : World), Inv l n0 n u V D K (A 0) listed a w -> Rx.unl (fun i => listed.getD i false) n = m -> wpAny P .any l.toArray Q (m + (l.length - n)) listed a w := by
 have hll : l.toArray.size = l.length := by simp
 have shapeA : ∀ vm : Nat -> Value, Rx.Shape l (fun j => if j < n0 then u j else vm j) (A 0) (fun j => decide (j < n)) (qaA ((l.drop n0).take (n - n0)) n0 vm (A n0)) := fun vm => by
  have h := qgB ok (v := fun j => if j < n0 then u j else vm j) (a0 := A 0) (n - n0) n0 (A n0) (by have := ok.le; omega) (qif hr ok (fun j hj => by simp [hj]) n0 (Nat.le_refl _))
  rw [qcX (v := fun j => if j < n0 then u j else vm j) (v' := vm) _ _ _ (fun j hj => by simp; intro h; omega)] at h
  exact h
 intro m
 induction m with
 | zero =>
  intro listed a w inv hm
  have hall := Rx.qb5 (f := fun i => listed.getD i false) (n := n) hm
  obtain ⟨vm, hs, hV, hD⟩ := inv.shape
  have ea : a = qaA ((l.drop n0).take (n - n0)) n0 vm (A n0) := hs.ext (shapeA vm) fun j o hj => by
   have hjl : j < l.length := (List.getElem?_eq_some_iff.1 hj).1
   by_cases hjn : j < n
   · rw [hall j hjn]; simp [hjn]
   · have := inv.head.tail j (by omega) (by rw [hll]; exact hjl)
     rw [getD_both this]; simp [hjn]
  have hw := htail _ vm w inv.world (fun j h1 h2 => (by unfold done; rw [hall j h2]; simp [h1])) (fun j h1 h2 => hV j h1 h2 (hall j h2)) hD
  rw [<- ea] at hw
  refine wpAny_done ?_ hw _
  refine List.eq_nil_iff_forall_not_mem.2 fun i hi => ?_
  obtain ⟨hun, o, ho', _⟩ := mem_ready.1 hi
  have hil : i < l.length := by have := (Array.getElem?_eq_some_iff.1 ho').1; rwa [hll] at this
  have h1 := hall i (by rw [ok.eq]; exact hil)
  rw [getD_both hun] at h1
  cases h1
 | succ m ih =>
  intro listed a w inv hm
  rw [show m + 1 + (l.length - n) = (m + (l.length - n)) + 1 by omega]
  -- somebody of the head has not been
  have hex : ∃ i, i < n /\ listed.getD i false = false := by
   refine Classical.byContradiction fun hno => ?_
   have : ∀ k, k <= n -> Rx.unl (fun i => listed.getD i false) k = 0 := by
    intro k
    induction k with
    | zero => intro _; rfl
    | succ k ihk =>
     intro hk
     unfold Rx.unl
     rw [ihk (by omega)]
     cases h : listed.getD k false
     · exact absurd ⟨k, by omega, h⟩ hno
     · simp
   have := this n (Nat.le_refl _)
   omega
  obtain ⟨i0, hi0, hun0⟩ := hex
  have his0 : i0 < listed.size := by rw [inv.head.size, hll]; have := ok.eq; omega
  refine ⟨fun hr' => ?_, fun i hi => ?_⟩
  · exfalso
    have key : ∀ i, i < n -> listed.getD i false = true := by
     intro i
     induction i using Nat.strongRecOn with
     | _ i ihi =>
      intro hin
      cases hu : listed.getD i false
      · have hil : i < l.length := by have := ok.eq; omega
        have ho : l[i]? = some (l[i]'hil) := List.getElem?_eq_getElem hil
        have his : i < listed.size := by rw [inv.head.size, hll]; exact hil
        have : i ∈ Region.ready .any l.toArray listed := mem_ready.2 ⟨getD_in his hu, _, (by rw [List.getElem?_toArray]; exact ho), fun e he hb => by
         have hd := ok.down i _ hin ho e he hb
         exact ihi e.on hd (by omega)⟩
        rw [hr'] at this; cases this
      · rfl
    rw [key i0 hi0] at hun0; cases hun0
  · have hin : i < n := by
     obtain ⟨_, o, ho', _⟩ := mem_ready.1 hi
     have hil : i < l.length := by have := (Array.getElem?_eq_some_iff.1 ho').1; rwa [hll] at this
     rw [ok.eq]; exact hil
    obtain ⟨hun, o, ho', hdeps⟩ := mem_ready.1 hi
    have ho : l[i]? = some o := by simpa using ho'
    have hil : i < l.length := (List.getElem?_eq_some_iff.1 ho).1
    have his : i < listed.size := by rw [inv.head.size, hll]; exact hil
    have hun' : listed.getD i false = false := getD_both hun
    have getset : ∀ j, (listed.setIfInBounds i true).getD j false = (listed.getD j false || j == i) := fun j => by
     by_cases hji : j = i
     · subst hji; simp [his]
     · rw [getD_set_ne false (fun e => hji e.symm)]; simp [hji]
    have hun2 : Rx.unl (fun j => (listed.setIfInBounds i true).getD j false) n = m := by
     have := Rx.qcL (f := fun j => listed.getD j false) (g := fun j => (listed.setIfInBounds i true).getD j false) (i := i) hun' (by rw [getset]; simp) (fun j hj => by rw [getset]; simp [hj]) hin
     omega
    obtain ⟨vm, hs, hV, hD⟩ := inv.shape
    have next : ∀ v w', (i < n0 -> v = u i) -> (n0 <= i -> V i (upd vm i v) w') -> K w' -> (∀ j, n0 <= j -> j < n -> j ≠ i -> done n0 listed j = true -> V j vm w -> V j vm w') -> D (done n0 (listed.setIfInBounds i true)) (upd vm i v) w' -> wpAny P .any l.toArray Q (m + (l.length - n)) (listed.setIfInBounds i true) (a.put o.dst v) w' := fun v w' h1 h2 hKw hst hDn => by
     refine ih _ _ _ ⟨inv.head.set hi hin, ⟨upd vm i v, ?_, fun j hj1 hj2 hl => ?_, hDn⟩, hKw⟩ hun2
     · have hs' := qdL (v' := fun j => if j < n0 then u j else upd vm i v j) hs fun j hj => by
        by_cases hjn : j < n0
        · simp [hjn]
        · have : j ≠ i := fun e => by subst e; rw [hun'] at hj; cases hj
          simp [hjn, this, upd]
       have hp := hs'.put ok.dist ho
       have ev : (if i < n0 then u i else upd vm i v i) = v := by
        by_cases hin0 : i < n0
        · simp [hin0, h1 hin0]
        · simp [hin0, upd]
       rw [ev] at hp
       exact hp.congr fun j o hj => (getset j).symm
     · by_cases hji : j = i
       · subst hji; exact h2 hj1
       · rw [getset] at hl
         have hlj : listed.getD j false = true := by simpa [hji] using hl
         refine hVd j vm _ w' hj1 hj2 (fun k hk => ?_) (hst j hj1 hj2 hji (by unfold done; rw [hlj]; simp [hj1]) (hV j hj1 hj2 hlj))
         have hki : k ≠ i := fun e => by
          subst e
          rcases hk with rfl | hk
          · exact hji rfl
          · have hjl : j < l.length := by have := ok.eq; omega
            have hoj : l[j]? = some (l[j]'hjl) := List.getElem?_eq_getElem hjl
            obtain ⟨e, he, hb, hon⟩ := qcC hoj hk
            have := inv.head.closed j _ (by rw [List.getElem?_toArray]; exact hoj) hlj e he hb
            rw [hon, hun'] at this; cases this
         simp [upd, hki]
    have before : ∀ j, dep l i j = true -> listed.getD j false = true := fun j hd => by
     obtain ⟨e, he, hb, rfl⟩ := qcC ho hd
     exact hdeps e he hb
    unfold wpOp
    simp only [ho', Region.wanted, ok.guard i o hin ho, if_true]
    refine .inl ?_
    by_cases hi0' : i < n0
    · have ho2 : (l.take n0)[i]? = some o := by rw [List.getElem?_take, if_pos hi0']; exact ho
      have exec : execOp a.eval o = execOp (A i).eval o := execOp_congr o (fun cs b => Region.noSelect_spec ok.sel i o cs b ho') fun x hx => by
       cases x with
       | tmp t =>
        have ht : t ∈ o.looksAt l.toArray := List.mem_append_left _ (List.mem_filterMap.2 ⟨.tmp t, by simpa using hx, rfl⟩)
        have e := hs.same (qif hr ok (v := fun j => if j < n0 then u j else vm j) (fun j hj => by simp [hj]) i (by omega)) (t := t) fun j oj hj hd => by
         by_cases hji : j = i
         · subst hji; rw [hun']; simp
         · by_cases hjn : j < n
           · have hdp := ok.looks i j o oj t hin hjn ho hj (fun e => hji e.symm) hd ht
             obtain ⟨e, he, hb, hon⟩ := qcC ho hdp
             have := ok.down i o hin ho e he hb
             rw [before j hdp]; simp; omega
           · have hjl : j < l.length := (List.getElem?_eq_some_iff.1 hj).1
             rw [getD_both (inv.head.tail j (by omega) (by rw [hll]; exact hjl))]; simp; omega
        simp only [Act.eval, Array.getD_eq_getD_getElem?, e]
       | const => rfl
       | global => rfl
       | func => rfl
      have hrun := hr.run i o ho2 w inv.world
      have hg : Gives P o (A i) w (fun v w' => v = u i /\ w' = w) := ⟨by unfold gives; rw [hrun]; exact ⟨rfl, rfl⟩⟩
      refine (hg.congr exec).wp fun v w' ⟨hv, hw⟩ => ?_
      subst hw
      refine next v w' (fun _ => hv) (fun h => absurd h (by omega)) inv.world (fun j _ _ _ _ h => h) ?_
      have eS : done n0 (listed.setIfInBounds i true) = done n0 listed := funext fun j => by
       unfold done
       rw [getset]
       by_cases hj : n0 <= j
       · have : (j == i) = false := by simp; omega
         simp [this]
       · simp [hj]
      rw [eS]
      exact hDc _ _ _ _ (fun j hj => by simp [upd, show j ≠ i by omega]) hD
    · have exec : execOp a.eval o = execOp (qaA ((l.drop n0).take (n - n0)) n0 vm (A n0)).eval o := execOp_congr o (fun cs b => Region.noSelect_spec ok.sel i o cs b ho') fun x hx => by
       cases x with
       | tmp t =>
        have ht : t ∈ o.looksAt l.toArray := List.mem_append_left _ (List.mem_filterMap.2 ⟨.tmp t, by simpa using hx, rfl⟩)
        by_cases hself : o.dst = some t
        · -- it reads what it writes: told by the check to be nobody else's
          exact (ok.self i o t hin ho hself ht).elim
        · have e := hs.same (shapeA vm) (t := t) fun j oj hj hd => by
           have hji : j ≠ i := fun e => by subst e; rw [ho] at hj; injection hj with hj; subst hj; exact hself hd
           by_cases hjn : j < n
           · rw [before j (ok.looks i j o oj t hin hjn ho hj (fun e => hji e.symm) hd ht)]; simp [hjn]
           · have hjl : j < l.length := (List.getElem?_eq_some_iff.1 hj).1
             rw [getD_both (inv.head.tail j (by omega) (by rw [hll]; exact hjl))]; simp [hjn]
          simp only [Act.eval, Array.getD_eq_getD_getElem?, e]
       | const => rfl
       | global => rfl
       | func => rfl
      refine ((hmid i o (by omega) hin ho (done n0 listed) vm w inv.world (by unfold done; rw [hun']; simp) (fun j h1 h2 hd => (by unfold done; rw [before j hd]; simp [h1])) (fun j h1 h2 hd => hV j h1 h2 (by unfold done at hd; simp at hd; simpa using hd.2)) hD).congr exec).wp fun v w' ⟨h1, h2, h3, h4⟩ => ?_
      refine next v w' (fun h => absurd h (by omega)) (fun _ => h1) h2 h3 ?_
      have eS : done n0 (listed.setIfInBounds i true) = also (done n0 listed) i := funext fun j => by
       unfold done also
       rw [getset]
       by_cases hji : j = i
       · subst hji; simp; omega
       · have hb : (j == i) = false := by simpa using hji
         rw [hb, Bool.or_false, Bool.or_false]
      rw [eS]
      exact h4
end
theorem qj7 {P : Program} {l : List Oper} {a : Act} {w : World} {id : Nat} {Q : Exit -> Act -> World -> Prop} (hm : P.follows .mixedOrders = true) (n0 n : Nat) (hn : n = l.length) (hB : okB n0 l = true) (K : World -> Prop) (V : Nat -> (Nat -> Value) -> World -> Prop) (D : (Nat -> Bool) -> (Nat -> Value) -> World -> Prop) (hK : K w.drew)
 (hD0 : ∀ vm, D (fun _ => false) vm w.drew) (hDc : ∀ S vm vm' w, (∀ j, n0 <= j -> vm j = vm' j) -> D S vm w -> D S vm' w)
 (hVd : ∀ j vm vm' w, n0 <= j -> j < n -> (∀ k, k = j \/ dep l j k = true -> vm k = vm' k) -> V j vm w -> V j vm' w)
 (h : qeD P K (fun A => (qjG (fun i o => ∀ (S : Nat -> Bool) (vm : Nat -> Value) w, K w -> S i = false -> (∀ j, n0 <= j -> j < n -> depO o j = true -> S j = true) -> (∀ j, n0 <= j -> j < n -> S j = true -> V j vm w) -> D S vm w -> Gives P o (qaA ((l.drop n0).take (n - n0)) n0 vm A) w (fun v w' => V i (upd vm i v) w' /\ K w' /\ (∀ j, n0 <= j -> j < n -> j ≠ i -> S j = true -> V j vm w -> V j vm w') /\ D (also S i) (upd vm i v) w')) ((l.drop n0).take (n - n0)) n0) /\
  (∀ (S : Nat -> Bool) (vm : Nat -> Value) w, K w -> (∀ j, n0 <= j -> j < n -> S j = true) -> (∀ j, n0 <= j -> j < n -> V j vm w) -> D S vm w -> Q .normal (qaA ((l.drop n0).take (n - n0)) n0 vm A) w)) (l.take n0) a) : (Code.region id l.toArray true).wp P Q a w := by
 have ok := Ok.of hn hB
 obtain ⟨A, u, hr, hA, hmid, htail⟩ := qds _ _ h
 have hlen : (l.take n0).length = n0 := by simp; have := ok.eq; have := ok.le; omega
 rw [hlen] at hmid htail
 have hmid := fun i o (h1 : n0 <= i) (h2 : i < n) (ho : l[i]? = some o) => (by
  have := qeN _ _ hmid (i - n0) o (by rw [List.getElem?_take, if_pos (by omega), List.getElem?_drop, show n0 + (i - n0) = i by omega]; exact ho)
  rw [show n0 + (i - n0) = i by omega] at this
  exact fun S vm w hK hi hS hV hD => this S vm w hK hi (fun j h1 h2 hd => hS j h1 h2 (by unfold dep; rw [ho]; exact hd)) hV hD : ∀ (S : Nat -> Bool) (vm : Nat -> Value) w, K w -> S i = false -> (∀ j, n0 <= j -> j < n -> dep l i j = true -> S j = true) -> (∀ j, n0 <= j -> j < n -> S j = true -> V j vm w) -> D S vm w -> Gives P o (qaA ((l.drop n0).take (n - n0)) n0 vm (A n0)) w (fun v w' => V i (upd vm i v) w' /\ K w' /\ (∀ j, n0 <= j -> j < n -> j ≠ i -> S j = true -> V j vm w -> V j vm w') /\ D (also S i) (upd vm i v) w'))
 refine wp_region_any hm ?_
 have hinv : Inv l n0 n u V D K (A 0) (Array.replicate l.toArray.size false) a w.drew := by
  refine ⟨⟨by simp, fun j oj _ hl => (by rw [getD_replicate_false] at hl; cases hl), fun t _ ht => getD_in (by simpa using ht) (getD_replicate_false _ _)⟩, ⟨fun _ => undef, ?_, fun j _ _ hl => (by rw [getD_replicate_false] at hl; cases hl), ?_⟩, hK⟩
  · rw [hA]
    exact Rx.Shape.start.congr fun j o _ => by rw [getD_replicate_false]
  · have e : done n0 (Array.replicate l.toArray.size false) = fun _ => false := funext fun j => by unfold done; rw [getD_replicate_false]; simp
    rw [e]
    exact hD0 _
 have := all_ (Q := Q) hr ok hDc hVd hmid htail n _ _ _ hinv (qh0 n _ fun i _ => getD_replicate_false _ _)
 rw [show n + (l.length - n) = l.toArray.size by have := ok.eq; simp; omega] at this
 exact this
end Rk
namespace Go.Proofs.YtbdlpbnfcnhajaaGreat
open Go.RowKit Go.Shelf
theorem qmS {o : Oper} {a : Act} {w : World} {x y : Operand} {tx ty : TypeId} {u v : Value} (ho : o.op = .call { callee := .value (.func 9), args := #[x, y], argTypes := #[tx, ty] }) (hx : a.eval x = u) (hy : a.eval y = v) : (execOp a.eval o).run Tryz.prog w = .ok (.enter 9 #[u, v]) w := by
 generalize hev : a.eval = ev at hx hy ⊢
 have hf : ev (.func 9) = .func (.func 9) #[] #[] := by rw [<- hev]; rfl
 unfold execOp
 simp only [ho]
 go_simp
theorem qoc {o : Oper} {a : Act} {w : World} {x : Operand} {tx : TypeId} {u : Value} (ho : o.op = .call { callee := .value (.func 10), args := #[x], argTypes := #[tx] }) (hx : a.eval x = u) : (execOp a.eval o).run Tryz.prog w = .ok (.enter 10 #[u]) w := by
 generalize hev : a.eval = ev at hx ⊢
 have hf : ev (.func 10) = .func (.func 10) #[] #[] := by rw [<- hev]; rfl
 unfold execOp
 simp only [ho]
 go_simp
theorem qod {o : Oper} {a : Act} {w : World} {x : Operand} {tx : TypeId} {u : Value} (ho : o.op = .call { callee := .value (.func 11), args := #[x], argTypes := #[tx] }) (hx : a.eval x = u) : (execOp a.eval o).run Tryz.prog w = .ok (.enter 11 #[u]) w := by
 generalize hev : a.eval = ev at hx ⊢
 have hf : ev (.func 11) = .func (.func 11) #[] #[] := by rw [<- hev]; rfl
 unfold execOp
 simp only [ho]
 go_simp
theorem qhQ {o : Oper} {a : Act} {w : World} {x y : Operand} {tx ty : TypeId} {u v : Value} (ho : o.op = .call { callee := .value (.func 12), args := #[x, y], argTypes := #[tx, ty] }) (hx : a.eval x = u) (hy : a.eval y = v) : (execOp a.eval o).run Tryz.prog w = .ok (.enter 12 #[u, v]) w := by
 generalize hev : a.eval = ev at hx hy ⊢
 have hf : ev (.func 12) = .func (.func 12) #[] #[] := by rw [<- hev]; rfl
 unfold execOp
 simp only [ho]
 go_simp
theorem qhR {o : Oper} {a : Act} {w : World} {x y : Operand} {tx ty : TypeId} {u v : Value} (ho : o.op = .call { callee := .value (.func 13), args := #[x, y], argTypes := #[tx, ty] }) (hx : a.eval x = u) (hy : a.eval y = v) : (execOp a.eval o).run Tryz.prog w = .ok (.enter 13 #[u, v]) w := by
 generalize hev : a.eval = ev at hx hy ⊢
 have hf : ev (.func 13) = .func (.func 13) #[] #[] := by rw [<- hev]; rfl
 unfold execOp
 simp only [ho]
 go_simp
theorem qkY {o : Oper} {a : Act} {w : World} {x y : Operand} {ad : Addr} {m c k : Nat} (ho : o.op = .indexAddr 25 x y) (hx : a.eval x = .slice (some ad) m c) (hy : a.eval y = .int .i64 k) (hk : (k : Int) < m) : (execOp a.eval o).run Tryz.prog w = .ok (.value (.pointer (some (ad.add (k * 26))))) w := by
 unfold execOp
 simp only [ho, hx, hy]
 go_simp
def ShT (l : List Gm.Shot) (A : Option Addr) (W : World) : Prop := Lies W W.heap.size 6 A l.length (Gm.qab l) /\ Typed W 72 A
def apV (a : Nat -> Value) (T : Fd.S) (Z : Option Addr -> Nat -> World -> Prop) (j : Nat) (vm : Nat -> Value) (W : World) : Prop :=
 match j with
 | 5 => ∃ A c, vm 5 = .tuple #[.agg (Im.cells T.g (.slice A T.g.qaa.length c) T.r), .int .i64 0] /\ ShT T.g.qaa A W
 | 6 => ∃ A c, vm 6 = .tuple #[.agg (Im.cells T.g (.slice A T.g.qaa.length c) T.r), .int .i64 0] /\ ShT T.g.qaa A W
 | 7 => ∃ A c, vm 7 = .agg (Im.cells T.g (.slice A T.g.qaa.length c) T.r) /\ ShT T.g.qaa A W
 | 9 => ∃ A c, Z A c W
 | j => vm j = a j
theorem qoo {a : Nat -> Value} {T : Fd.S} {Z : Option Addr -> Nat -> World -> Prop} {j : Nat} {vm vm' : Nat -> Value} {W : World} (h : apV a T Z j vm W) (hj : j < 10) (he : vm j = vm' j) : apV a T Z j vm' W := by
 obtain rfl | rfl | rfl | rfl | rfl | rfl | rfl | rfl | rfl | rfl : j = 0 \/ j = 1 \/ j = 2 \/ j = 3 \/ j = 4 \/ j = 5 \/ j = 6 \/ j = 7 \/ j = 8 \/ j = 9 := by omega
 all_goals first
  | exact he.symm.trans h
  | (obtain ⟨A, c, e, h⟩ := h; exact ⟨A, c, he.symm.trans e, h⟩)
  | exact h
theorem qj0 {a : Nat -> Value} {T : Fd.S} {Z : Option Addr -> Nat -> World -> Prop} {j : Nat} {vm : Nat -> Value} {W W' : World} (h : apV a T Z j vm W) (hj : j < 9) (hs : ∀ A, ShT T.g.qaa A W -> ShT T.g.qaa A W') : apV a T Z j vm W' := by
 obtain rfl | rfl | rfl | rfl | rfl | rfl | rfl | rfl | rfl : j = 0 \/ j = 1 \/ j = 2 \/ j = 3 \/ j = 4 \/ j = 5 \/ j = 6 \/ j = 7 \/ j = 8 := by omega
 all_goals first
  | exact h
  | (obtain ⟨A, c, e, h⟩ := h; exact ⟨A, c, e, hs A h⟩)
theorem qdC {o : Oper} {a : Act} {w : World} {x y : Operand} {ad : Addr} {m c k : Nat} (ho : o.op = .indexAddr 42 x y) (hx : a.eval x = .slice (some ad) m c) (hy : a.eval y = .int .i64 (k : Nat)) (hk : (k : Int) < m) : (execOp a.eval o).run Tryz.prog w = .ok (.value (.pointer (some (ad.add (k * 76))))) w := by
 unfold execOp
 simp only [ho, hx, hy]
 go_simp
theorem qcJ {o : Oper} {a : Act} {w : World} {x : Operand} {ad : Addr} (q : Rg.St) (ho : o.op = .load 40 x) (hx : a.eval x = .pointer (some ad)) (hc : ∀ j, j < 76 -> w.cell? (ad.add j) = q.cells[j]?) : (execOp a.eval o).run Tryz.prog w = .ok (.value (.agg (Im.cells q.g (.slice q.A q.g.qaa.length q.c) q.r))) w := by
 rw [qcc (cs := q.cells) ho hx (fun j v hv => by
  have hj : j < 76 := by have := (List.getElem?_eq_some_iff.1 hv).1; rwa [q.len] at this
  rw [hc j hj]; exact hv) Tryz.underlying40 rfl (by rw [q.len]; exact qaw)]
 have e : q.cells.toArray = Im.cells q.g (.slice q.A q.g.qaa.length q.c) q.r := by unfold Rg.St.cells Rg.St.arr; rw [Array.toArray_toList]
 rw [e]
def nwV (a : Nat -> Value) (LP : qdG) (w1 wr : World) (x : Rg.St) (j : Nat) (vm : Nat -> Value) (W : World) : Prop :=
 match j with
 | 3 => ∃ Br, vm 3 = .pointer (some ⟨Br, 0, none⟩) /\ P15 LP w1 Br [x.s] (fun j => w1.heap.size <= j /\ j < wr.heap.size) W
 | 7 => ∃ Br Bm X1, vm 3 = .pointer (some ⟨Br, 0, none⟩) /\ vm 7 = .pointer (some ⟨Bm, 0, none⟩) /\ P15 LP w1 Br [x.s] (fun j => w1.heap.size <= j /\ j < wr.heap.size) X1 /\ Below wr.heap.size wr X1 /\ qa1 Bm [x] W /\ Below X1.heap.size X1 W /\ X1.heap.size <= Bm /\ qbW (fun k => X1.heap.size <= k) Bm W
 | j => vm j = a j
theorem rp_z (n : Int) : ∃ z : Int, 0 <= z /\ z < 12 /\ wrap64 ((IntKind.u64.wrap n).tmod 12) = z := by
 rw [qdK]
 have h0 := Int.emod_nonneg n (show (18446744073709551616 : Int) ≠ 0 by decide)
 generalize n % 18446744073709551616 = y at *
 have h1 := Int.emod_nonneg y (show (12 : Int) ≠ 0 by decide)
 have h2 := Int.emod_lt_of_pos y (show (0 : Int) < 12 by decide)
 rw [Int.tmod_eq_emod_of_nonneg h0, IntWalk.wrap64_in _ (by omega)]
 exact ⟨y % 12, h1, h2, rfl⟩
theorem qig (f0 z : Int) (kk : Nat) (h : 0 <= f0 /\ f0 + kk <= 1048576 /\ kk <= 8) (hz : 0 <= z /\ z < 12) : IntKind.i64.wrap (((kk + 1 : Nat) : Int) - 1) = (kk : Int) /\ wrap64 (kk : Int) = (kk : Int) /\ IntKind.i64.wrap (f0 + z) = f0 + z /\ IntKind.i64.wrap (f0 + z - 1) = f0 + z - 1 := by
 refine ⟨by rw [IntKind.wrap_i64]; omega, IntWalk.wrap64_in _ (by omega), by rw [IntKind.wrap_i64]; omega, by rw [IntKind.wrap_i64]; omega⟩
theorem qqB (n : Int) : ∃ z : Int, (0 <= z /\ z <= 4) /\ (wrap64 (n.tmod 5 + 5)).tmod 5 = z := by
 have h1 := Int.lt_tmod_of_pos n (show (0 : Int) < 5 by omega)
 have h2 := Int.tmod_lt_of_pos n (show (0 : Int) < 5 by omega)
 generalize n.tmod 5 = y at *
 rw [IntWalk.wrap64_in _ (by omega), Int.tmod_eq_emod_of_nonneg (by omega)]
 exact ⟨(y + 5) % 5, ⟨Int.emod_nonneg _ (by omega), by have := Int.emod_lt_of_pos (y + 5) (show (0 : Int) < 5 by omega); omega⟩, rfl⟩
theorem qgT {o : Oper} {a : Act} {w : World} {x y : Operand} {ad : Addr} {m c k : Nat} (ho : o.op = .indexAddr 23 x y) (hx : a.eval x = .slice (some ad) m c) (hy : a.eval y = .int .i64 (k : Nat)) (hk : (k : Int) < m) : (execOp a.eval o).run Tryz.prog w = .ok (.value (.pointer (some (ad.add (k * 78))))) w := by
 unfold execOp
 simp only [ho, hx, hy]
 go_simp
theorem qhP {o : Oper} {a : Act} {w : World} {x : Operand} {ad : Addr} (ho : o.op = .fieldAddr 60 x 2) (hx : a.eval x = .pointer (some ad)) : (execOp a.eval o).run Tryz.prog w = .ok (.value (.pointer (some ⟨ad.block, ad.off + 2, none⟩))) w := by
 unfold execOp
 simp only [ho, hx]
 go_simp
theorem qou (ad : Addr) (i : Nat) : (⟨ad.block, ad.off + 2, none⟩ : Addr).add i = ad.add (2 + i) := by
 unfold Addr.add
 by_cases hi : i = 0
 · subst hi; simp
 · have : ¬ 2 + i = 0 := by omega
   simp [hi, this, Nat.add_assoc]
theorem qfE {ops : Array Oper} {Q : Exit -> Act -> World -> Prop} {o : Oper} {rest : List Oper} {a : Act} {w : World} {x : Operand} {ad : Addr} (q : Rg.St) (hw : Region.wanted o (yielded ops a.tmps) = true) (ho : o.op = .load 33 x) (hx : a.eval x = .pointer (some ad)) (hc : ∀ j, j < 76 -> w.cell? (ad.add j) = q.cells[j]?) (h : wpList Tryz.prog ops Q rest (a.put o.dst (.agg (Gm.cells q.g (.slice q.A q.g.qaa.length q.c)))) w) : wpList Tryz.prog ops Q (o :: rest) a w := by
 refine wpList_step fun K hK => ?_
 rw [if_pos hw]
 unfold Oper.wp
 rw [qcc (cs := (Gm.cells q.g (.slice q.A q.g.qaa.length q.c)).toList) ho hx (fun j v hv => by
  rw [Array.getElem?_toList] at hv
  have hj : j < 59 := by have := (Array.getElem?_eq_some_iff.1 hv).1; rwa [Gm.qag] at this
  rw [hc j (by omega)]
  unfold Rg.St.cells Rg.St.arr
  rw [Array.getElem?_toList, Im.qdb _ _ _ j hj]
  exact hv) Tryz.underlying33 rfl (by rw [Array.length_toList, Gm.qag]; exact qbb)]
 rw [Array.toArray_toList]
 exact hK _ _ h
structure Ry (w : World) (S : Nat -> Fd.S) (bs k : Nat) (L : List Rg.St) (AO : Option Addr) (cO : Nat) (X : World) : Prop where
 ex : ∃ q, AllU w L AO cO bs q X /\ q.s = S k
 all : L.map Rg.St.s = Rg.qho S 0 (k + 1)
theorem Ry.len {w : World} {S : Nat -> Fd.S} {bs k : Nat} {L : List Rg.St} {AO : Option Addr} {cO : Nat} {X : World} (h : Ry w S bs k L AO cO X) : L.length = k + 1 := by
 have := congrArg List.length h.all
 rwa [List.length_map, Rg.qi8] at this
theorem qjp {LP : qdG} (C : qhg LP) (seed : ByteArray) (l : List Fd.Turn) (A : Option Addr) (n c : Nat) (l2 : List Rg.Stp) (A2 : Option Addr) (c2 : Nat) (w : World) (hsz : seed.size <= 20) (hn : n = l.length) (hn40 : n <= 40) (hl : Lies w w.heap.size 25 A n (l.flatMap Fd.Turn.cells)) (hty : ∀ q ∈ l, q.ty) (h60 : l2.length <= 60) (hl2 : qhi w w.heap.size A2 l2.length l2) (hty2 : ∀ o ∈ l2, o.ty) :
 Calls Tryz.prog 3 #[.string seed, .slice A n c, .slice A2 l2.length c2] w fun e w' => e = .returned (.bool true) /\ Below w.heap.size w w' := by
 have h63 : seed.size <= maxLen := by unfold maxLen; omega
 have hs20 : (seed.size : Int) <= 20 := by omega
 have hn1 : (n : Int) <= 40 := by omega
 have hn2 : (l2.length : Int) <= 60 := by omega
 have cm := qh (qo2 seed l A n c _ w h63 rfl hn (by omega) hl hty)
 have hd := Dn.qgl seed.data.toList
 have cs := fun X => qh (qiY seed X h63)
 generalize Dn.seed seed.data.toList = d at cm hd cs
 have HD := qh hd
 have LP2 := qh hl2
 have TY2 := qh hty2
 clear hd hl hty hn hl2 hty2
 generalize hnn2 : l2.length = n2 at *
 go_enter Tryz.func3, Tryz.ntmps3
 go_upto_region 4 with (go_at_call 7; ((with_reducible refine ((cm).out).mono ?_); rintro x w1 ⟨A1, c1, log, u, rfl, hL, hT, hrun, hlen, hb, hcap⟩; have L1 := qh hL; have T1 := qh hT; have RU := qh hrun; have K1 := qh hb; have LE := qh hlen; clear hL hT hrun hb hcap hlen))
 have TY := qh (Fd.qbN HD.out).ty
 have LQ := qh ((LP2.out.below K1.out).wider K1.out.size)
 go_upto_region 5 with (first | (go_at_call 8; ((with_reducible refine ((cs _).out).mono ?_); rintro x w2 ⟨rfl, hb⟩; have S2 := qh (Box.made w2 40 (Im.cells (Gm.new d) (.slice none 0 0) Ros.new)); have K2 := qh (hb.alloc hb.size (.cells (Im.cells (Gm.new d) (.slice none 0 0) Ros.new) 40)); have G2 := qh hb.size; clear hb)) | (with_reducible refine qau rfl rfl ?_) | (with_reducible refine qa2 rfl rfl rfl rfl Im.qar rfl ?_))
 generalize hW2 : w2.alloc (.cells (Im.cells (Gm.new d) (.slice none 0 0) Ros.new) 40) = W2 at S2 K2 ⊢
 generalize w2.heap.size = bs at S2 G2 ⊢
 clear hW2 cm cs LP2
 obtain ⟨A6, c6, W6, r6, AS6⟩ := AllU.begun (w := w1) (bs := bs) (ty := 42) (q00 d) K2.out S2.out G2.out (show Lies W2 W2.heap.size 6 none 0 (Gm.qab []) from Lies.none_) (show Typed W2 72 none from Typed.none)
 have R6 := qh AS6
 rw [show (q00 d).arr = Im.cells (Gm.new d) (.slice none 0 0) Ros.new from rfl] at r6
 clear AS6
 go_upto_region 7 with (first | ((with_reducible refine qam rfl rfl ?_); apply qay.mk rfl; (focus (with_reducible exact S2.out)); dsimp only) | (with_reducible refine qgd (g := Gm.new d) (s := .slice none 0 0) (r := Ros.new) rfl rfl rfl ?_) | ((refine qhZ (x := .tmp 42) (y := .tmp 44) rfl rfl rfl rfl r6 ?_)))
 obtain ⟨S, hS⟩ : ∃ S, S = Rg.stAt d (Fd.es log) := ⟨_, rfl⟩
 obtain ⟨m, hm⟩ : ∃ m, m = log.length := ⟨_, rfl⟩
 have HM := qh hm
 have ml : (Fd.es log).length = m := by rw [hm]; exact List.length_map _
 have LN := qh (show Rg.Line S m from ⟨fun j hj => by rw [hS]; exact Rg.qnm HD.out RU.out j, fun j hj => by rw [hS]; exact Rg.qlV HD.out RU.out j (by rw [ml]; exact hj)⟩)
 have SP := qh (show ∀ j (hj : j < log.length), Fd.apply (S j) (log[j]).e = some (S (j + 1)) from fun j hj => by
  have := Rg.qnl RU.out j (by rw [ml]; omega)
  rw [Fd.qqH log j (by rw [ml]; omega) hj] at this
  rw [hS]
  exact this)
 have S0 : S 0 = Fd.start d := by rw [hS]; rfl
 rw [<- hm]
 have hm40 : m <= 40 := by have := LE.out; omega
 have hll := qh (show qdp w1 w1.heap.size A1 m log from HM.out ▸ L1.out)
 have R0 := qh (show Ry w1 S bs 0 [q00 d] A6 c6 W6 from ⟨⟨q00 d, R6.out, S0.symm⟩, by show [Fd.start d] = [S 0]; rw [S0]⟩)
 clear hS hm ml S0 S2 K2 R6 r6
 go_wp2_with fail
 go_loopw [9, 10] (fun al i wr => ∃ (k : Nat) (L : List Rg.St) (AO : Option Addr) (cO : Nat), k <= m /\ i = .int .i64 k /\ al = .slice AO L.length cO /\ Ry w1 S bs k L AO cO wr) (fun _ i _ => m - (intOf i).toNat)
 case atStart => exact ⟨0, _, _, _, Nat.zero_le _, rfl, rfl, R0.out⟩
 case round =>
  clear R0
  obtain ⟨k, L, AO, cO, hk, rfl, rfl, hR⟩ := hrel
  have RR := qh hR
  clear hR
  by_cases hlt : k < m
  · as_aux_lemma =>
     have hk8 : (k : Int) < m := by omega
     have hkl : k < log.length := by have := HM.out; omega
     obtain ⟨ad, hA1, hblk, hrow⟩ := hll.out.at k hkl
     subst hA1
     obtain ⟨q, hAS, hqs⟩ := RR.out.ex
     have AS := qh hAS
     have QS := qh hqs
     have AL := qh RR.out.all
     have LL := qh RR.out.len
     have hap := SP.out k hkl
     rw [<- hqs] at hap
     have hTq := T1.out log[k] (List.getElem_mem hkl)
     have hEq := hll.out.each log[k] (List.getElem_mem hkl)
     have hFq := hll.out.few log[k] (List.getElem_mem hkl)
     generalize log[k] = ev at hrow hap hTq hEq hFq
     obtain ⟨T, hT⟩ : ∃ T, T = S (k + 1) := ⟨_, rfl⟩
     rw [<- hT] at hap
     have TT := qh hT
     have AP := qh hap
     have fq := qh (show Fd.Fine q.s by rw [hqs]; exact LN.out.fine k (by omega))
     have EX := qh (fun (X : World) (hX : qaQ (fun k => k = bs) wr X) (j : Nat) (v : Value) (hv : ev.cells[j]? = some v) => show X.cell? ((ad.add (k * 26)).add j) = some v from by
      have hlow := AS.out.low
      have hsz := AS.out.down.size
      have hne : ((ad.add (k * 26)).add j).block ≠ bs := by rw [add_block, add_block]; omega
      rw [World.cell?_of_block (w := wr) (hX.block _ (by rw [add_block, add_block]; omega) hne)]
      exact (AS.out.down.cell (p := (ad.add (k * 26)).add j) (by rw [add_block, add_block]; exact hblk)).trans (hrow j v hv))
     have CA := qh (fun X (hX : Below wr.heap.size wr X) => show Calls Tryz.prog 9 #[.agg (Im.cells q.g (.slice q.A q.g.qaa.length q.c) q.r), .agg (En.cells ev.e ev.sl)] X (qpo T.g T.r 0 X) from qfC q.s T ev.e q.A ev.adr q.g.qaa.length q.c ev.e.evs.length ev.cap X fq.out.ty (by have h : q.g.qaa.length <= 60 := fq.out.few; unfold maxLen; omega) rfl (AS.out.qs.1.call hX) rfl hFq ((hEq.below (AS.out.down.trans (hX.mono AS.out.down.size))).wider (AS.out.down.trans (hX.mono AS.out.down.size)).size) hTq AP.out)
     obtain ⟨AV, av0, av1, av2, av3, av4, av8⟩ : ∃ AV : Nat -> Value, AV 0 = .agg (Im.cells q.g (.slice q.A q.g.qaa.length q.c) q.r) /\ AV 1 = .slice (some ad) m c1 /\ AV 2 = .int .i64 k /\ AV 3 = .pointer (some (ad.add (k * 26))) /\ AV 4 = .agg (En.cells ev.e ev.sl) /\ AV 8 = .int .i64 0 := ⟨fun j => match j with | 0 => .agg (Im.cells q.g (.slice q.A q.g.qaa.length q.c) q.r) | 1 => .slice (some ad) m c1 | 2 => .int .i64 k | 3 => .pointer (some (ad.add (k * 26))) | 4 => .agg (En.cells ev.e ev.sl) | _ => .int .i64 0, rfl, rfl, rfl, rfl, rfl, rfl⟩
     clear hAS hqs hap hT hTq hEq hFq hrow RR
     go_upto_region 10 with fail
     have hop : ∀ A3 c3, (Im.cells T.g (.slice A3 T.g.qaa.length c3) T.r).size = (Im.cells q.g (.slice q.A q.g.qaa.length q.c) q.r).size := fun A3 c3 => by rw [Im.qag, Im.qag]
     refine Rk.qj7 (by kernel_rfl) 0 10 (by kernel_rfl) (by kernel_rfl) (fun W => qaQ (fun k => k = bs) wr W) (fun j vm W => apV AV T (fun A3 c3 W => AllU w1 L AO cO bs ⟨T.g, T.r, A3, c3⟩ W) j vm W) (fun S vm W => (S 9 = true -> S 0 = true /\ S 5 = true) /\ (S 9 = false -> Below wr.heap.size wr W)) ((qaQ.refl _ _).call (Below.drew (Below.refl _ _))) (fun _ => ⟨fun h => (by cases h), fun _ => Below.drew (Below.refl _ _)⟩) (fun S vm vm' W he h => h) (fun j vm vm' W h1 h2 he hV => qoo hV h2 (he j (.inl rfl))) ?_
     simp only [List.take_succ_cons, List.take_zero, List.drop_succ_cons, List.drop_zero, Nat.reduceSub]
     refine qfm (fun A' => A'.tmps.size = 262 /\ A'.eval (.tmp 7) = .slice (some ad) m c1 /\ A'.eval (.tmp 8) = .pointer (some ⟨bs, 0, none⟩) /\ A'.eval (.tmp 10) = .int .i64 k) ⟨rfl, rfl, rfl, rfl⟩ ?_ ?_
     · intro A' ⟨hAs, hA7, hA8, hA10⟩
       refine ⟨?_, ?_, ?_, ?_, ?_, ?_, ?_, ?_, ?_, ?_, trivial⟩
       · intro S vm W hW hSi hS hV hD
         have h9 : S 9 = false := by cases h : S 9 with | false => rfl | true => have := (hD.1 h).1; rw [hSi] at this; cases this
         have hb := hD.2 h9
         refine qaX (w' := W) (qcS rfl ?_ (show Box W bs 40 (Im.cells q.g (.slice q.A q.g.qaa.length q.c) q.r) from AS.out.st.below hb AS.out.st.lt)) ⟨by simp [Rz.upd, apV, av0], hW, fun j _ _ _ _ h => h, (fun h => by have h2 : S 9 = true := (by simpa [Rj.also] using h); have h3 := hD.1 h2; simp [Rj.also, h3]), (fun h => hD.2 (by simpa [Rj.also] using h))⟩
         simp only [Rz.qaA]
         rw [Rz.qbP]
         repeat rw [Rz.qaD (by decide)]
         exact hA8
       · intro S vm W hW hSi hS hV hD
         refine qaX (w' := W) (Rz.qaR (v := AV 1) rfl ?_) ⟨by simp [Rz.upd, apV], hW, fun j _ _ _ _ h => h, (fun h => by have h2 : S 9 = true := (by simpa [Rj.also] using h); have h3 := hD.1 h2; simp [Rj.also, h3]), (fun h => hD.2 (by simpa [Rj.also] using h))⟩
         simp only [Rz.qaA]
         rw [Rz.qbP]
         repeat rw [Rz.qaD (by decide)]
         exact hA7.trans av1.symm
       · intro S vm W hW hSi hS hV hD
         refine qaX (w' := W) (Rz.qaR (v := AV 2) rfl ?_) ⟨by simp [Rz.upd, apV], hW, fun j _ _ _ _ h => h, (fun h => by have h2 : S 9 = true := (by simpa [Rj.also] using h); have h3 := hD.1 h2; simp [Rj.also, h3]), (fun h => hD.2 (by simpa [Rj.also] using h))⟩
         simp only [Rz.qaA]
         rw [Rz.qbP]
         repeat rw [Rz.qaD (by decide)]
         exact hA10.trans av2.symm
       · intro S vm W hW hSi hS hV hD
         have e1 : vm 1 = .slice (some ad) m c1 := (hV 1 (by omega) (by omega) (hS 1 (by omega) (by omega) (by kernel_rfl))).trans av1
         have e2 : vm 2 = .int .i64 k := (hV 2 (by omega) (by omega) (hS 2 (by omega) (by omega) (by kernel_rfl))).trans av2
         refine qaX (w' := W) (qkY (ad := ad) (m := m) (c := c1) (k := k) rfl ?_ ?_ hk8) ⟨by simp [Rz.upd, apV, av3], hW, fun j _ _ _ _ h => h, (fun h => by have h2 : S 9 = true := (by simpa [Rj.also] using h); have h3 := hD.1 h2; simp [Rj.also, h3]), (fun h => hD.2 (by simpa [Rj.also] using h))⟩
         · simp only [Rz.qaA]
           rw [Rz.qbP]
           repeat rw [Rz.qaD (by decide)]
           rw [Rz.qa9 (by simp only [Rz.qa8, hAs]; decide)]
           exact e1
         · simp only [Rz.qaA]
           rw [Rz.qbP]
           repeat rw [Rz.qaD (by decide)]
           rw [Rz.qa9 (by simp only [Rz.qa8, hAs]; decide)]
           exact e2
       · intro S vm W hW hSi hS hV hD
         have e3 : vm 3 = .pointer (some (ad.add (k * 26))) := (hV 3 (by omega) (by omega) (hS 3 (by omega) (by omega) (by kernel_rfl))).trans av3
         refine qaX (w' := W) (qgW (ad := ad.add (k * 26)) ev rfl ?_ (EX.out W hW)) ⟨by simp [Rz.upd, apV, av4], hW, fun j _ _ _ _ h => h, (fun h => by have h2 : S 9 = true := (by simpa [Rj.also] using h); have h3 := hD.1 h2; simp [Rj.also, h3]), (fun h => hD.2 (by simpa [Rj.also] using h))⟩
         simp only [Rz.qaA]
         rw [Rz.qbP]
         repeat rw [Rz.qaD (by decide)]
         rw [Rz.qa9 (by simp only [Rz.qa8, hAs]; decide)]
         exact e3
       · intro S vm W hW hSi hS hV hD
         have h9 : S 9 = false := by cases h : S 9 with | false => rfl | true => have := (hD.1 h).2; rw [hSi] at this; cases this
         have hb := hD.2 h9
         have s0 := hS 0 (by omega) (by omega) (by kernel_rfl)
         have e0 : vm 0 = .agg (Im.cells q.g (.slice q.A q.g.qaa.length q.c) q.r) := (hV 0 (by omega) (by omega) s0).trans av0
         have e4 : vm 4 = .agg (En.cells ev.e ev.sl) := (hV 4 (by omega) (by omega) (hS 4 (by omega) (by omega) (by kernel_rfl))).trans av4
         refine qdn (f := 9) (args := #[.agg (Im.cells q.g (.slice q.A q.g.qaa.length q.c) q.r), .agg (En.cells ev.e ev.sl)]) (qmS rfl ?_ ?_) ((CA.out W hb).mono ?_)
         · simp only [Rz.qaA]
           rw [Rz.qbP]
           repeat rw [Rz.qaD (by decide)]
           rw [Rz.qa9 (by simp only [Rz.qa8, hAs]; decide)]
           exact e0
         · simp only [Rz.qaA]
           rw [Rz.qbP]
           repeat rw [Rz.qaD (by decide)]
           rw [Rz.qa9 (by simp only [Rz.qa8, hAs]; decide)]
           exact e4
         · rintro e w' ⟨A3, c3, rfl, hl, hT, hb2⟩
           refine ⟨_, rfl, ⟨A3, c3, by simp [Rz.upd], hl, hT⟩, hW.call hb2, fun j h1 h2 hne hs h => ?_, fun h => ?_, fun h => hb.trans (hb2.mono hb.size)⟩
           · have : j ≠ 9 := fun e => by subst e; rw [h9] at hs; cases hs
             exact qj0 h (by omega) fun A hA => ⟨hA.1.call hb2, hA.2.call hb2⟩
           · have h' : S 9 = true := by simpa [Rj.also] using h
             rw [h9] at h'; cases h'
       · intro S vm W hW hSi hS hV hD
         obtain ⟨A3, c3, e5, h5⟩ := hV 5 (by omega) (by omega) (hS 5 (by omega) (by omega) (by kernel_rfl))
         refine qaX (w' := W) (Rz.qaR (v := vm 5) rfl ?_) ⟨⟨A3, c3, by simpa [Rz.upd] using e5, h5⟩, hW, fun j _ _ _ _ h => h, (fun h => by have h2 : S 9 = true := (by simpa [Rj.also] using h); have h3 := hD.1 h2; simp [Rj.also, h3]), (fun h => hD.2 (by simpa [Rj.also] using h))⟩
         simp only [Rz.qaA]
         rw [Rz.qbP]
         repeat rw [Rz.qaD (by decide)]
         rw [Rz.qa9 (by simp only [Rz.qa8, hAs]; decide)]
       · intro S vm W hW hSi hS hV hD
         obtain ⟨A3, c3, e6, h6⟩ := hV 6 (by omega) (by omega) (hS 6 (by omega) (by omega) (by kernel_rfl))
         refine qaX (w' := W) (Rz.qfI (v := .agg (Im.cells T.g (.slice A3 T.g.qaa.length c3) T.r)) (vs := #[.agg (Im.cells T.g (.slice A3 T.g.qaa.length c3) T.r), .int .i64 0]) rfl ?_ rfl) ⟨⟨A3, c3, by simp [Rz.upd], h6⟩, hW, fun j _ _ _ _ h => h, (fun h => by have h2 : S 9 = true := (by simpa [Rj.also] using h); have h3 := hD.1 h2; simp [Rj.also, h3]), (fun h => hD.2 (by simpa [Rj.also] using h))⟩
         simp only [Rz.qaA]
         rw [Rz.qbP]
         repeat rw [Rz.qaD (by decide)]
         rw [Rz.qa9 (by simp only [Rz.qa8, hAs]; decide)]
         exact e6
       · intro S vm W hW hSi hS hV hD
         obtain ⟨A3, c3, e6, h6⟩ := hV 6 (by omega) (by omega) (hS 6 (by omega) (by omega) (by kernel_rfl))
         refine qaX (w' := W) (Rz.qfI (v := .int .i64 0) (vs := #[.agg (Im.cells T.g (.slice A3 T.g.qaa.length c3) T.r), .int .i64 0]) rfl ?_ rfl) ⟨by simp [Rz.upd, apV, av8], hW, fun j _ _ _ _ h => h, (fun h => by have h2 : S 9 = true := (by simpa [Rj.also] using h); have h3 := hD.1 h2; simp [Rj.also, h3]), (fun h => hD.2 (by simpa [Rj.also] using h))⟩
         simp only [Rz.qaA]
         rw [Rz.qbP]
         repeat rw [Rz.qaD (by decide)]
         rw [Rz.qa9 (by simp only [Rz.qa8, hAs]; decide)]
         exact e6
       · intro S vm W hW hSi hS hV hD
         have hb := hD.2 hSi
         obtain ⟨A3, c3, e7, h7⟩ := hV 7 (by omega) (by omega) (hS 7 (by omega) (by omega) (by kernel_rfl))
         have hAW := AS.out.call hb
         have hBW : Box W bs 40 (Im.cells q.g (.slice q.A q.g.qaa.length q.c) q.r) := hAW.st
         have hst9 : AllU w1 L AO cO bs ⟨T.g, T.r, A3, c3⟩ (W.setRow bs (Im.cells T.g (.slice A3 T.g.qaa.length c3) T.r)) := hAW.store (x := ⟨T.g, T.r, A3, c3⟩) h7.1 h7.2
         have hsh9 : ∀ A, ShT T.g.qaa A W -> ShT T.g.qaa A (W.setRow bs (Im.cells T.g (.slice A3 T.g.qaa.length c3) T.r)) := fun A hA => ⟨hA.1.qbk rfl hBW _, hA.2.row hBW _⟩
         have hK9 : qaQ (fun k => k = bs) W (W.setRow bs (Im.cells T.g (.slice A3 T.g.qaa.length c3) T.r)) := ⟨rfl, rfl, rfl, by rw [setRow_size]; exact Nat.le_refl _, fun k _ hne => setRow_other W bs k _ hne⟩
         have s0 := hS 0 (by omega) (by omega) (by kernel_rfl)
         have s5 := hS 5 (by omega) (by omega) (by kernel_rfl)
         refine qmJ (w' := W.setRow bs (Im.cells T.g (.slice A3 T.g.qaa.length c3) T.r)) (qeh (B := bs) (cs := Im.cells T.g (.slice A3 T.g.qaa.length c3) T.r) rfl ?_ ?_ hBW (by rw [Im.qag]; exact qaw) (hop A3 c3).symm (qni rfl)) ⟨⟨A3, c3, hst9⟩, hW.trans hK9 (fun j hj => .inl hj), fun j h1 h2 hne hs h => qj0 h (by omega) hsh9, fun _ => ?_, fun h => ?_⟩
         · simp only [Rz.qaA]
           rw [Rz.qbP]
           repeat rw [Rz.qaD (by decide)]
           exact hA8
         · simp only [Rz.qaA]
           rw [Rz.qbP]
           repeat rw [Rz.qaD (by decide)]
           rw [Rz.qa9 (by simp only [Rz.qa8, hAs]; decide)]
           exact e7
         · simp [Rj.also, s0, s5]
         · simp [Rj.also] at h
     · intro S9 vm Z hW hS hV hD
       obtain ⟨A3, c3, hA⟩ := hV 9 (by omega) (by omega)
       have AS2 := qh hA
       clear hW hS hV hD hA AS EX CA
       have ZB := qh (show Box Z bs 40 (Im.cells T.g (.slice A3 T.g.qaa.length c3) T.r) from AS2.out.st)
       simp only [Rz.qaA, Nat.reduceAdd]
       generalize vm 0 = v0
       generalize vm 1 = v1
       generalize vm 2 = v2
       generalize vm 3 = v3
       generalize vm 4 = v4
       generalize vm 5 = v5
       generalize vm 6 = v6
       generalize vm 7 = v7
       generalize vm 8 = v8
       generalize vm 9 = v9
       simp only [Act.put, List.setIfInBounds_toArray, List.set_cons_succ, List.set_cons_zero]
       obtain ⟨A5, c5, W5, r5, AS5⟩ := AS2.out.appended (x := ⟨T.g, T.r, A3, c3⟩) AS2.out.qs.1 AS2.out.qs.2 (by have := LL.out; omega) 42
       rw [show Rg.St.arr ⟨T.g, T.r, A3, c3⟩ = Im.cells T.g (.slice A3 T.g.qaa.length c3) T.r from rfl] at r5
       go_wp2_with (first | ((with_reducible refine qam rfl rfl ?_); apply qay.mk rfl; (focus (with_reducible exact ZB.out)); dsimp only) | (with_reducible refine qgd (g := T.g) (s := .slice A3 T.g.qaa.length c3) (r := T.r) rfl rfl rfl ?_) | ((refine qhZ (x := .tmp 61) (y := .tmp 63) rfl rfl rfl rfl r5 ?_)))
       go_roundw
       case rel =>
        refine ⟨k + 1, L ++ [⟨T.g, T.r, A3, c3⟩], A5, c5, by omega, by go_num, by rw [List.length_append]; rfl, ⟨⟨_, AS5, (show Rg.St.s ⟨T.g, T.r, A3, c3⟩ = S (k + 1) from TT.out)⟩, ?_⟩⟩
        rw [List.map_append, AL.out, Rg.qmb (k := k + 1)]
        show _ ++ [T] = _
        rw [TT.out]
       case measure => simp [intOf]; omega
  · obtain rfl : k = m := by omega
    have hki : ¬ (k : Int) < (k : Int) := by omega
    obtain ⟨q, hAS, hqs⟩ := RR.out.ex
    have AS := qh hAS
    have AL := qh RR.out.all
    have LL := qh RR.out.len
    obtain ⟨g0, cur0, hAO, hg0, hgb, hB0, hO0⟩ := hAS.row
    obtain ⟨ad0, had0⟩ : ∃ ad0, ad0 = (⟨g0, 0, none⟩ : Addr) := ⟨_, rfl⟩
    rw [<- had0] at hAO
    subst hAO
    have hadl : ad0.block < wr.heap.size := by rw [had0]; exact hB0.lt
    have RWL := qh (show Lies wr wr.heap.size 76 (some ad0) L.length (L.flatMap Rg.St.cells) from Lies.owned hO0)
    have hL0 : 0 < L.length := hAS.ne
    obtain ⟨x0, hx0⟩ : ∃ x0, x0 = L[0] := ⟨_, rfl⟩
    have hx0m : x0 ∈ L := by rw [hx0]; exact List.getElem_mem _
    have hx0s : x0.s = S 0 := by
     have h1 := congrArg (fun l => l[0]?) RR.out.all
     simp only [List.getElem?_map] at h1
     rw [Rg.qlr (by omega), Nat.zero_add, List.getElem?_eq_getElem hL0, <- hx0] at h1
     exact Option.some.inj h1
    have FX := qh (show Fd.Fine x0.s by rw [hx0s]; exact LN.out.fine 0 (Nat.zero_le _))
    have XM := qh hx0m
    have XS := qh ((hAS.sh x0 hx0m).1)
    have ZX := qh (fun (W : World) (hW : Below wr.heap.size wr W) (j : Nat) (hj : j < 76) => show W.cell? ((ad0.add (0 * 76)).add j) = x0.cells[j]? from by
     rw [World.cell?_of_block (w := wr) (by rw [add_block, add_block]; exact hW.block _ hadl), hx0]
     exact qeb RWL.out rfl 0 hL0 j hj)
    have CN := qh (fun (W : World) (hW : Below wr.heap.size wr W) => show Calls Tryz.prog 10 #[.agg (Im.cells x0.g (.slice x0.A x0.g.qaa.length x0.c) x0.r)] W (fun e X' => ∃ B, e = .returned (.pointer (some ⟨B, 0, none⟩)) /\ P15 LP w1 B [x0.s] (fun j => w1.heap.size <= j /\ j < wr.heap.size) X' /\ Below W.heap.size W X') from P15.new C x0 FX.out.ty FX.out.ok (XS.out.call hW) (AS.out.down.trans (hW.mono AS.out.down.size)) (fun j hj => ⟨hj.1, Nat.lt_of_lt_of_le hj.2 hW.size⟩))
    have CM := qh (fun (W : World) (hW : Below wr.heap.size wr W) => show Calls Tryz.prog 11 #[.agg (Im.cells x0.g (.slice x0.A x0.g.qaa.length x0.c) x0.r)] W (fun e X' => ∃ B, e = .returned (.pointer (some ⟨B, 0, none⟩)) /\ qa1 B [x0] X' /\ Below W.heap.size W X' /\ W.heap.size <= B /\ qbW (fun k => W.heap.size <= k) B X') from qkz x0 FX.out.ty FX.out.ok (by have h : x0.g.qaa.length <= 60 := FX.out.few; unfold maxLen; omega) W (XS.out.call hW))
    have OK0 := qh (show Rg.Ok ([x0].map Rg.St.s) from Rg.Ok.new FX.out.ok FX.out.ty)
    clear hAS hqs hB0 hO0 had0 hx0 hx0m hx0s
    obtain ⟨AV, av0, av1, av2, av4, av5, av6⟩ : ∃ AV : Nat -> Value, AV 0 = .slice (some ad0) L.length cO /\ AV 1 = .pointer (some (ad0.add (0 * 76))) /\ AV 2 = .agg (Im.cells x0.g (.slice x0.A x0.g.qaa.length x0.c) x0.r) /\ AV 4 = .slice (some ad0) L.length cO /\ AV 5 = .pointer (some (ad0.add (0 * 76))) /\ AV 6 = .agg (Im.cells x0.g (.slice x0.A x0.g.qaa.length x0.c) x0.r) := ⟨fun j => match j with | 0 => .slice (some ad0) L.length cO | 1 => .pointer (some (ad0.add (0 * 76))) | 2 => .agg (Im.cells x0.g (.slice x0.A x0.g.qaa.length x0.c) x0.r) | 4 => .slice (some ad0) L.length cO | 5 => .pointer (some (ad0.add (0 * 76))) | _ => .agg (Im.cells x0.g (.slice x0.A x0.g.qaa.length x0.c) x0.r), rfl, rfl, rfl, rfl, rfl, rfl⟩
    have hL0i : ((0 : Nat) : Int) < (L.length : Int) := by omega
    go_upto_region 12 with fail
    refine Rz.qj6 (by kernel_rfl) 3 8 (by kernel_rfl) (fun W => Below wr.heap.size wr W) (fun j vm W => nwV AV LP w1 wr x0 j vm W) (Below.drew (Below.refl _ _)) ?hvd ?_
    case hvd =>
     intro j vm vm' W h1 h2 he hV
     obtain rfl | rfl | rfl | rfl | rfl : j = 3 \/ j = 4 \/ j = 5 \/ j = 6 \/ j = 7 := by omega
     · obtain ⟨B, e, h⟩ := hV; exact ⟨B, (he 3 (.inl rfl)).symm.trans e, h⟩
     · exact (he 4 (.inl rfl)).symm.trans hV
     · exact (he 5 (.inl rfl)).symm.trans hV
     · exact (he 6 (.inl rfl)).symm.trans hV
     · obtain ⟨Br, Bm, X1, e1, e2, h⟩ := hV; exact ⟨Br, Bm, X1, (he 3 (.inr (by kernel_rfl))).symm.trans e1, (he 7 (.inl rfl)).symm.trans e2, h⟩
    simp only [List.take_succ_cons, List.take_zero, List.drop_succ_cons, List.drop_zero, Nat.reduceSub]
    refine Rz.qbv (v := .slice (some ad0) L.length cO) (fun W hW => Rz.qaR rfl rfl) ?_
    refine Rz.qbv (v := .pointer (some (ad0.add (0 * 76)))) (fun W hW => qdC (k := 0) rfl rfl rfl hL0i) ?_
    refine Rz.qbv (v := .agg (Im.cells x0.g (.slice x0.A x0.g.qaa.length x0.c) x0.r)) (fun W hW => qcJ x0 rfl rfl (ZX.out W hW)) ?_
    refine qfm (fun A' => A'.tmps.size = 262 /\ A'.eval (.tmp 9) = .slice (some ad0) L.length cO /\ A'.eval (.tmp 67) = .agg (Im.cells x0.g (.slice x0.A x0.g.qaa.length x0.c) x0.r)) ⟨rfl, rfl, rfl⟩ ?_ ?_
    · intro A' ⟨hAs, hA9, hA67⟩
      refine ⟨?_, ?_, ?_, ?_, ?_, trivial⟩
      · intro vm W hW hV
        refine qdn (f := 10) (args := #[.agg (Im.cells x0.g (.slice x0.A x0.g.qaa.length x0.c) x0.r)]) (qoc rfl ?_) ((CN.out W hW).mono ?_)
        · simp only [Rz.qaA]
          repeat rw [Rz.qaD (by decide)]
          exact hA67
        · rintro e w' ⟨B, rfl, hp, hb⟩
          refine ⟨_, rfl, ⟨B, by simp [Rz.upd], hp⟩, hW.trans (hb.mono hW.size), fun j h1 h2 hne h => ?_⟩
          obtain rfl | rfl | rfl | rfl : j = 4 \/ j = 5 \/ j = 6 \/ j = 7 := by omega
          · exact h
          · exact h
          · exact h
          · obtain ⟨Br, Bm, X1, e1, e2, h1, h2, h3, h4, h5, h6⟩ := h
            obtain ⟨A7, n7, c7, e7, h7⟩ := h6
            have hbl : Bm < W.heap.size := by obtain ⟨_, _, hbx, _⟩ := h3.box; exact hbx.lt
            exact ⟨Br, Bm, X1, e1, e2, h1, h2, h3.call hb, h4.trans (hb.mono h4.size), h5, A7, n7, c7, (World.cell?_of_block (w := W) (hb.block _ hbl)).trans e7, h7⟩
      · intro vm W hW hV
        refine qaX (w' := W) (Rz.qaR (v := AV 4) rfl ?_) ⟨by simp [Rz.upd, nwV], hW, fun j _ _ _ h => h⟩
        simp only [Rz.qaA]
        repeat rw [Rz.qaD (by decide)]
        exact hA9.trans av4.symm
      · intro vm W hW hV
        have e4 : vm 4 = .slice (some ad0) L.length cO := (hV 4 (by omega) (by omega) (by kernel_rfl)).trans av4
        refine qaX (w' := W) (qdC (ad := ad0) (k := 0) (m := L.length) (c := cO) rfl ?_ rfl hL0i) ⟨by simp [Rz.upd, nwV, av5], hW, fun j _ _ _ h => h⟩
        simp only [Rz.qaA]
        repeat rw [Rz.qaD (by decide)]
        rw [Rz.qa9 (by simp only [Rz.qa8, hAs]; decide)]
        exact e4
      · intro vm W hW hV
        have e5 : vm 5 = .pointer (some (ad0.add (0 * 76))) := (hV 5 (by omega) (by omega) (by kernel_rfl)).trans av5
        refine qaX (w' := W) (qcJ x0 rfl ?_ (ZX.out W hW)) ⟨by simp [Rz.upd, nwV, av6], hW, fun j _ _ _ h => h⟩
        simp only [Rz.qaA]
        repeat rw [Rz.qaD (by decide)]
        rw [Rz.qa9 (by simp only [Rz.qa8, hAs]; decide)]
        exact e5
      · intro vm W hW hV
        have e6 : vm 6 = .agg (Im.cells x0.g (.slice x0.A x0.g.qaa.length x0.c) x0.r) := (hV 6 (by omega) (by omega) (by kernel_rfl)).trans av6
        obtain ⟨Br, e3, hp⟩ := hV 3 (by omega) (by omega) (by kernel_rfl)
        refine qdn (f := 11) (args := #[.agg (Im.cells x0.g (.slice x0.A x0.g.qaa.length x0.c) x0.r)]) (qod rfl ?_) ((CM.out W hW).mono ?_)
        · simp only [Rz.qaA]
          repeat rw [Rz.qaD (by decide)]
          rw [Rz.qa9 (by simp only [Rz.qa8, hAs]; decide)]
          exact e6
        · rintro e w' ⟨B, rfl, hr, hb, hB, hi⟩
          refine ⟨_, rfl, ⟨Br, B, W, by simp [Rz.upd]; exact e3, by simp [Rz.upd], hp, hW, hr, hb, hB, hi⟩, hW.trans (hb.mono hW.size), fun j h1 h2 hne h => ?_⟩
          obtain rfl | rfl | rfl | rfl : j = 3 \/ j = 4 \/ j = 5 \/ j = 6 := by omega
          · obtain ⟨Br, e3, hp⟩ := h
            exact ⟨Br, e3, hp.below C.ob hb⟩
          · exact h
          · exact h
          · exact h
    · intro vm Z hW hV
      obtain ⟨Br, Bm, X1, e3, e7, p1, p2, p3, p4, p5, p6⟩ := hV 7 (by omega) (by omega)
      have TX := qh (show TwoX LP w1 Br Bm ([x0].map Rg.St.s) L (some ad0) [x0] Z from AllU.start C AS.out p1 p2 XM.out p3 p4 p5 p6)
      clear hW hV p1 p2 p3 p4 p5 p6 AS CN CM ZX RWL
      simp only [Rz.qaA, Nat.reduceAdd, e3, e7]
      generalize vm 4 = v4
      generalize vm 5 = v5
      generalize vm 6 = v6
      clear e3 e7
      simp only [Act.put, List.setIfInBounds_toArray, List.set_cons_succ, List.set_cons_zero]
      go_wp2_with fail
      go_loopw [13] (fun i wr => ∃ (k : Nat) (ML : List Rg.St), k <= n2 /\ i = .int .i64 k /\ Rg.Ok (ML.map Rg.St.s) /\ TwoX LP w1 Br Bm (ML.map Rg.St.s) L (some ad0) ML wr) (fun i _ => n2 - (intOf i).toNat)
      case atStart => exact ⟨0, [x0], Nat.zero_le _, rfl, OK0.out, TX.out⟩
      case round =>
       clear TX OK0 FX XM XS
       obtain ⟨j, ML, hj, rfl, hok, hTX⟩ := hrel
       have OK := qh hok
       have TX := qh hTX
       clear hok hTX
       by_cases hlt : j < n2
       · have hji : (j : Int) < n2 := by omega
         have hjl : j < l2.length := by omega
         obtain ⟨ad2, hA2, hblk2, hrow2⟩ := LQ.out.at hnn2.symm j hjl
         subst hA2
         obtain ⟨o, ho⟩ : ∃ o, o = l2[j] := ⟨_, rfl⟩
         have hom : o ∈ l2 := by rw [ho]; exact List.getElem_mem _
         have OTY := qh (TY2.out o hom)
         have OEA := qh (LQ.out.each o hom)
         have OFE := qh (LQ.out.few o hom)
         rw [<- ho] at hrow2
         have ZO := qh (fun (W : World) (hW : Below w1.heap.size w1 W) (i : Nat) (v : Value) (hv : o.cells[i]? = some v) => show W.cell? ((ad2.add (j * 78)).add i) = some v from (World.cell?_of_block (w := w1) (by rw [add_block, add_block]; exact hW.block _ hblk2)).trans (hrow2 i v hv))
         have hk0 : wr.cell? (ad2.add (j * 78)) = some (.int .i64 o.kind) := ZO.out wr TX.out.down 0 _ rfl
         have hk1 : wr.cell? ⟨(ad2.add (j * 78)).block, (ad2.add (j * 78)).off + 1, none⟩ = some (.int .i64 o.n) := ZO.out wr TX.out.down 1 _ rfl
         obtain ⟨Am, cm, hBm, hRm, hcm, hcm9⟩ := TX.out.ring.box
         have hlo := OK.out.low
         have hln := Rg.qeu OK.out.some
         have h9 := OK.out.few
         rw [List.length_map] at hln h9
         obtain ⟨kk, hkk⟩ : ∃ kk, ML.length = kk + 1 := ⟨ML.length - 1, by omega⟩
         obtain ⟨am, hAm, hamb⟩ := hRm.row.start (by omega)
         subst hAm
         have kB : wr.cell? ⟨Bm, 0, none⟩ = some (.slice (some am) (kk + 1) cm) := by rw [<- hkk]; exact hBm.cell 0
         obtain ⟨f0, hf0⟩ : ∃ f0, f0 = Rg.first (ML.map Rg.St.s) := ⟨_, rfl⟩
         have e0 : (ML[0]'(by omega)).g.frame = f0 := by rw [hf0]; exact OK.out.qf5 (Rg.qcY (List.getElem?_eq_getElem (by omega)))
         have e1 : (ML[kk]'(by omega)).g.frame = f0 + kk := by rw [hf0]; exact OK.out.runs kk _ (Rg.qcY (List.getElem?_eq_getElem (by omega)))
         have hla : Rg.last (ML.map Rg.St.s) = f0 + kk := by unfold Rg.last; rw [<- hf0, List.length_map, hkk]; omega
         rw [hla, <- hf0] at hlo
         have kF : wr.cell? (am.add (0 * 76)) = some (.int .i64 f0) := by
          have h1 := qeb hRm.row rfl 0 (by omega) 0 (by decide)
          rw [show (ML[0]'(by omega)).cells[0]? = some (.int .i64 (ML[0]'(by omega)).g.frame) from by unfold Rg.St.cells; rw [Array.getElem?_toList]; exact Rg.St.first _, e0] at h1
          exact h1
         have kF1 : wr.cell? am = some (.int .i64 f0) := kF
         have kL : wr.cell? (am.add (kk * 76)) = some (.int .i64 (f0 + kk)) := by
          have h1 := qeb hRm.row rfl kk (by omega) 0 (by decide)
          rw [show (ML[kk]'(by omega)).cells[0]? = some (.int .i64 (ML[kk]'(by omega)).g.frame) from by unfold Rg.St.cells; rw [Array.getElem?_toList]; exact Rg.St.first _, e1] at h1
          exact h1
         have FB := qh (show 0 <= f0 /\ f0 + kk <= 1048576 /\ kk <= 8 from ⟨hlo.1, hlo.2.1, by omega⟩)
         have HLA := qh hla
         have HF0 := qh hf0
         have HKK := qh hkk
         have hkl : (kk : Int) < (kk : Int) + 1 := by omega
         clear hRm hBm hcm hcm9 hlo hln h9 hkk hf0 e0 e1 hla hrow2 ho hom
         obtain ⟨z, hz0, hz1, hze⟩ := rp_z o.n
         have HZE := qh hze
         clear hze
         have wr4 := qig f0 z kk FB.out ⟨hz0, hz1⟩
         obtain ⟨hwm, hwm2, hwa, hwb⟩ := wr4
         have hze := HZE.out
         go_upto_region 18 with fail
         go_quiet (fail)
         go_upto_region 19 with fail
         go_quiet (fail)
         clear hwm hwm2 hwa hwb hze HZE kB kF kF1 kL
         obtain ⟨kd, hk4, hke⟩ := qqB o.kind
         have HKE := qh hke
         clear hke
         go_upto_block 4 with fail
         have hke := HKE.out
         simp only [hke]
         clear hke HKE hk0 hk1
         obtain ⟨f, hf⟩ : ∃ f, f = f0 + z - 1 := ⟨_, rfl⟩
         rw [<- hf]
         have HFB := qh (show -9223372036854775808 <= f /\ f <= 9223372036854775807 by have := FB.out; omega)
         clear hf hz0 hz1
         go_cut [16, 17] from 79 to 260 (fun a b wx => ∃ (v : Bool) (M2 : List Rg.St), a = .bool v /\ b = .bool v /\ Rg.Ok (M2.map Rg.St.s) /\ TwoX LP w1 Br Bm (M2.map Rg.St.s) L (some ad0) M2 wx)
         case first =>
          as_aux_lemma =>
           have hfb := FB.out
           have TW := qh (fun W (hW : Below wr.heap.size wr W) => TX.out.call C hW)
           by_cases hk2 : kd < 2
           · have q2 : (kd == 2) = false := by simp; omega
             have q3 : (kd == 3) = false := by simp; omega
             have q4 : (kd == 4) = false := by simp; omega
             by_cases hin : f0 + kk + 1 < (L.length : Int)
             · obtain ⟨fi, hfi⟩ : ∃ fi : Nat, (fi : Int) = f0 + kk + 1 := ⟨(f0 + kk + 1).toNat, by omega⟩
               have hfl : fi < L.length := by omega
               have hfl' : (fi : Int) < (L.length : Int) := by omega
               obtain ⟨u, hu⟩ : ∃ u, u = L[fi] := ⟨_, rfl⟩
               have hum : u ∈ L := by rw [hu]; exact List.getElem_mem _
               have hus : u.s = S fi := by
                have h1 := congrArg (fun l => l[fi]?) AL.out
                simp only [List.getElem?_map] at h1
                rw [Rg.qlr (by have := LL.out; omega), Nat.zero_add, List.getElem?_eq_getElem hfl, <- hu] at h1
                exact Option.some.inj h1
               have FU := qh (show Fd.Fine u.s by rw [hus]; exact LN.out.fine fi (by have := LL.out; omega))
               have UTY := qh (show Gm.ty u.s.g from FU.out.ty)
               have n63 : u.g.qaa.length <= maxLen := by have h : u.g.qaa.length <= 60 := FU.out.few; unfold maxLen; omega
               have ES := qh (fun (M : List Fd.S) (ML' : List Rg.St) (W : World) (h : TwoX LP w1 Br Bm M L (some ad0) ML' W) => show ∀ i, i < 76 -> W.cell? ((ad0.add (fi * 76)).add i) = u.cells[i]? from fun i hi => by rw [hu]; exact qeb h.rows.row rfl fi hfl i hi)
               have CR := qh (fun W (h : TwoX LP w1 Br Bm (ML.map Rg.St.s) L (some ad0) ML W) => show Calls Tryz.prog 12 #[.pointer (some ⟨Br, 0, none⟩), .agg (Im.cells u.g (.slice u.A u.g.qaa.length u.c) u.r)] W _ from TwoX.qqk C OK.out u UTY.out n63 h (h.rows.qaa u hum))
               have CMM := qh (fun W (h : TwoX LP w1 Br Bm (Rg.push (ML.map Rg.St.s) u.s) L (some ad0) ML W) => show Calls Tryz.prog 13 #[.pointer (some ⟨Bm, 0, none⟩), .agg (Im.cells u.g (.slice u.A u.g.qaa.length u.c) u.r)] W _ from TwoX.qnQ C OK.out u UTY.out n63 h hum)
               have hw1 : IntKind.i64.wrap (f0 + kk + 1) = f0 + kk + 1 := by rw [IntKind.wrap_i64]; omega
               clear hu hum hus FU
               go_upto_region 23 with fail
               refine Ry.qaU (by kernel_rfl) [5, 12] (by kernel_rfl) (fun W => TwoX LP w1 Br Bm (ML.map Rg.St.s) L (some ad0) ML W) (fun _ => True) (fun W => ∀ i, i < 76 -> W.cell? ((ad0.add (fi * 76)).add i) = u.cells[i]?) (TW.out _ (by repeat (first | exact Below.refl _ _ | apply qaj | apply Below.drew))) (fun W hW => ⟨trivial, ES.out _ _ W hW⟩) ?_
               refine Ry.qat rfl rfl (v := .pointer (some ⟨Br, 0, none⟩)) (fun _ => Rz.qaR rfl rfl) ?_
               refine Ry.qat rfl rfl (v := .slice (some ad0) L.length cO) (fun _ => Rz.qaR rfl rfl) ?_
               refine Ry.qat rfl rfl (v := .int .i64 (f0 + kk)) (fun _ => Rz.qaR rfl rfl) ?_
               simp only [Act.put, List.getElem_cons_succ, List.getElem_cons_zero, List.setIfInBounds_toArray, List.set_cons_succ, List.set_cons_zero]
               refine Ry.qat rfl rfl (v := .int .i64 (f0 + kk + 1)) (fun _ => by go_simp; first | done | rfl) ?_
               refine Ry.qat rfl rfl (v := .pointer (some (ad0.add (fi * 76)))) (fun _ => qdC (k := fi) rfl rfl (show Value.int .i64 (f0 + kk + 1) = .int .i64 fi by rw [hfi]) hfl') ?_
               simp only [Act.put, List.getElem_cons_succ, List.getElem_cons_zero, List.setIfInBounds_toArray, List.set_cons_succ, List.set_cons_zero]
               refine Ry.qb1 rfl rfl rfl rfl (fun W hW => qcJ u rfl rfl hW) ?_
               refine Ry.qbs rfl (C' := fun W => TwoX LP w1 Br Bm (Rg.push (ML.map Rg.St.s) u.s) L (some ad0) ML W) (v := .bool (Rg.pushB (ML.map Rg.St.s) u.s)) (f := 12) (args := #[.pointer (some ⟨Br, 0, none⟩), .agg (Im.cells u.g (.slice u.A u.g.qaa.length u.c) u.r)]) (fun W _ => qhQ rfl rfl rfl) (fun W hW => (CR.out W hW)) (fun W hW => ⟨trivial, ES.out _ _ W hW⟩) ?_
               simp only [Act.put, List.getElem_cons_succ, List.getElem_cons_zero, List.setIfInBounds_toArray, List.set_cons_succ, List.set_cons_zero]
               refine Ry.qat rfl rfl (v := .pointer (some ⟨Bm, 0, none⟩)) (fun _ => Rz.qaR rfl rfl) ?_
               refine Ry.qat rfl rfl (v := .slice (some ad0) L.length cO) (fun _ => Rz.qaR rfl rfl) ?_
               refine Ry.qat rfl rfl (v := .int .i64 (f0 + kk)) (fun _ => Rz.qaR rfl rfl) ?_
               simp only [Act.put, List.getElem_cons_succ, List.getElem_cons_zero, List.setIfInBounds_toArray, List.set_cons_succ, List.set_cons_zero]
               refine Ry.qat rfl rfl (v := .int .i64 (f0 + kk + 1)) (fun _ => by go_simp; first | done | rfl) ?_
               refine Ry.qat rfl rfl (v := .pointer (some (ad0.add (fi * 76)))) (fun _ => qdC (k := fi) rfl rfl (show Value.int .i64 (f0 + kk + 1) = .int .i64 fi by rw [hfi]) hfl') ?_
               simp only [Act.put, List.getElem_cons_succ, List.getElem_cons_zero, List.setIfInBounds_toArray, List.set_cons_succ, List.set_cons_zero]
               refine Ry.qb1 rfl rfl rfl rfl (fun W hW => qcJ u rfl rfl hW) ?_
               refine Ry.qbs rfl (C' := fun W => ∃ ML', ML'.map Rg.St.s = Rg.push (ML.map Rg.St.s) u.s /\ TwoX LP w1 Br Bm (Rg.push (ML.map Rg.St.s) u.s) L (some ad0) ML' W) (v := .bool (Rg.pushB (ML.map Rg.St.s) u.s)) (f := 13) (args := #[.pointer (some ⟨Bm, 0, none⟩), .agg (Im.cells u.g (.slice u.A u.g.qaa.length u.c) u.r)]) (fun W _ => qhR rfl rfl rfl) (fun W hW => (CMM.out W hW)) (fun W hW => ⟨trivial, by obtain ⟨ML', _, h⟩ := hW; exact ES.out _ _ W h⟩) ?_
               simp only [Act.put, List.getElem_cons_succ, List.getElem_cons_zero, List.setIfInBounds_toArray, List.set_cons_succ, List.set_cons_zero]
               refine Ry.qat rfl rfl (v := .bool (Rg.pushB (ML.map Rg.St.s) u.s)) (fun _ => by go_simp; first | done | rfl) ?_
               refine Ry.qat rfl rfl (v := .bool (Rg.pushB (ML.map Rg.St.s) u.s)) (fun _ => by go_simp; first | done | rfl) ?_
               refine Ry.qbJ fun W6 hW6 => ?_
               simp only [Act.put, List.getElem_cons_succ, List.getElem_cons_zero, List.setIfInBounds_toArray, List.set_cons_succ, List.set_cons_zero]
               obtain ⟨ML', hML', hT6⟩ := hW6
               have T6 := qh hT6
               have HM6 := qh hML'
               clear hT6 hML'
               go_wp2_with fail
               go_meet
               exact ⟨_, ML', rfl, rfl, by rw [HM6.out]; exact OK.out.push UTY.out, by rw [HM6.out]; exact T6.out⟩
             · have hw1 : IntKind.i64.wrap (f0 + kk + 1) = f0 + kk + 1 := by rw [IntKind.wrap_i64]; omega
               go_wp2_with fail
               go_meet
               exact ⟨false, ML, rfl, rfl, OK.out, TW.out _ (by repeat (first | exact Below.refl _ _ | apply qaj | apply Below.drew))⟩
           · by_cases hk22 : kd = 2
             · subst hk22
               by_cases hfew : o.s.g.qaa.length <= 60
               · have GZ := qh (fun (W : World) (hW : Below w1.heap.size w1 W) (i : Nat) (hi : i < 76) => show W.cell? ((⟨(ad2.add (j * 78)).block, (ad2.add (j * 78)).off + 2, none⟩ : Addr).add i) = o.s.cells[i]? from by
                  rw [qou]
                  have h1 : o.s.cells[i]? = some (o.s.cells[i]'(by rw [Rg.St.len]; exact hi)) := List.getElem?_eq_getElem _
                  rw [h1]
                  exact ZO.out W hW (2 + i) _ (by rw [Rg.Stp.at_2]; exact h1))
                 have cf := qh (fun W => qob o.s.g o.s.A o.s.g.qaa.length o.s.c W OFE.out)
                 have hfw : decide (o.s.g.qaa.length <= 60) = true := decide_eq_true hfew
                 rw [hfw] at cf
                 obtain ⟨u, hu⟩ : ∃ u, u = o.s := ⟨_, rfl⟩
                 have UTY := qh (show Gm.ty u.s.g by rw [hu]; exact OTY.out.2.2)
                 have n63 : u.g.qaa.length <= maxLen := by rw [hu]; exact OFE.out
                 have hea : Lies w1 w1.heap.size 6 u.A u.g.qaa.length (Gm.qab u.g.qaa) := by rw [hu]; exact OEA.out
                 have ES := qh (fun (M : List Fd.S) (ML' : List Rg.St) (W : World) (h : TwoX LP w1 Br Bm M L (some ad0) ML' W) => show ∀ i, i < 76 -> W.cell? ((⟨(ad2.add (j * 78)).block, (ad2.add (j * 78)).off + 2, none⟩ : Addr).add i) = u.cells[i]? from fun i hi => by rw [hu]; exact GZ.out W h.down i hi)
                 have CR := qh (fun W (h : TwoX LP w1 Br Bm (ML.map Rg.St.s) L (some ad0) ML W) => show Calls Tryz.prog 12 #[.pointer (some ⟨Br, 0, none⟩), .agg (Im.cells u.g (.slice u.A u.g.qaa.length u.c) u.r)] W _ from TwoX.qqk C OK.out u UTY.out n63 h ((hea.below h.down).wider h.down.size))
                 have CMM := qh (fun W (h : TwoX LP w1 Br Bm (Rg.push (ML.map Rg.St.s) u.s) L (some ad0) ML W) => show Calls Tryz.prog 13 #[.pointer (some ⟨Bm, 0, none⟩), .agg (Im.cells u.g (.slice u.A u.g.qaa.length u.c) u.r)] W _ from TwoX.qnR C OK.out u UTY.out n63 h hea)
                 go_upto_region 25 with (first | ((refine qfE (ad := (⟨(ad2.add (j * 78)).block, (ad2.add (j * 78)).off + 2, none⟩ : Addr)) o.s ?_ rfl rfl (GZ.out _ (Below.trans TX.out.down (Below.mono (by repeat (first | exact Below.refl _ _ | apply qaj | apply Below.drew)) TX.out.down.size))) ?_); (focus first | rfl | kernel_rfl | simp [Region.wanted, yielded])) | (go_at_call 14; ((with_reducible refine ((cf.out _)).mono ?_); rintro e w6 ⟨rfl, hb6⟩; have B6 := qh (show Below wr.heap.size wr w6 from Below.trans (by repeat (first | exact Below.refl _ _ | apply qaj | apply Below.drew)) (hb6.mono (Nat.le_refl _))); clear hb6)))
                 clear hu
                 refine Ry.qaU (by kernel_rfl) [5, 12] (by kernel_rfl) (fun W => TwoX LP w1 Br Bm (ML.map Rg.St.s) L (some ad0) ML W) (fun _ => True) (fun W => ∀ i, i < 76 -> W.cell? ((⟨(ad2.add (j * 78)).block, (ad2.add (j * 78)).off + 2, none⟩ : Addr).add i) = u.cells[i]?) (TW.out _ (Below.drew B6.out)) (fun W hW => ⟨trivial, ES.out _ _ W hW⟩) ?_
                 refine Ry.qat rfl rfl (v := .pointer (some ⟨Br, 0, none⟩)) (fun _ => Rz.qaR rfl rfl) ?_
                 refine Ry.qat rfl rfl (v := .slice (some ad2) n2 c2) (fun _ => Rz.qaR rfl rfl) ?_
                 refine Ry.qat rfl rfl (v := .int .i64 j) (fun _ => Rz.qaR rfl rfl) ?_
                 simp only [Act.put, List.getElem_cons_succ, List.getElem_cons_zero, List.setIfInBounds_toArray, List.set_cons_succ, List.set_cons_zero]
                 refine Ry.qat rfl rfl (v := .pointer (some (ad2.add (j * 78)))) (fun _ => qgT (k := j) rfl rfl rfl hji) ?_
                 refine Ry.qat rfl rfl (v := .pointer (some (⟨(ad2.add (j * 78)).block, (ad2.add (j * 78)).off + 2, none⟩ : Addr))) (fun _ => qhP rfl rfl) ?_
                 simp only [Act.put, List.getElem_cons_succ, List.getElem_cons_zero, List.setIfInBounds_toArray, List.set_cons_succ, List.set_cons_zero]
                 refine Ry.qb1 rfl rfl rfl rfl (fun W hW => qcJ u rfl rfl hW) ?_
                 refine Ry.qbs rfl (C' := fun W => TwoX LP w1 Br Bm (Rg.push (ML.map Rg.St.s) u.s) L (some ad0) ML W) (v := .bool (Rg.pushB (ML.map Rg.St.s) u.s)) (f := 12) (args := #[.pointer (some ⟨Br, 0, none⟩), .agg (Im.cells u.g (.slice u.A u.g.qaa.length u.c) u.r)]) (fun W _ => qhQ rfl rfl rfl) (fun W hW => (CR.out W hW)) (fun W hW => ⟨trivial, ES.out _ _ W hW⟩) ?_
                 simp only [Act.put, List.getElem_cons_succ, List.getElem_cons_zero, List.setIfInBounds_toArray, List.set_cons_succ, List.set_cons_zero]
                 refine Ry.qat rfl rfl (v := .pointer (some ⟨Bm, 0, none⟩)) (fun _ => Rz.qaR rfl rfl) ?_
                 refine Ry.qat rfl rfl (v := .slice (some ad2) n2 c2) (fun _ => Rz.qaR rfl rfl) ?_
                 refine Ry.qat rfl rfl (v := .int .i64 j) (fun _ => Rz.qaR rfl rfl) ?_
                 simp only [Act.put, List.getElem_cons_succ, List.getElem_cons_zero, List.setIfInBounds_toArray, List.set_cons_succ, List.set_cons_zero]
                 refine Ry.qat rfl rfl (v := .pointer (some (ad2.add (j * 78)))) (fun _ => qgT (k := j) rfl rfl rfl hji) ?_
                 refine Ry.qat rfl rfl (v := .pointer (some (⟨(ad2.add (j * 78)).block, (ad2.add (j * 78)).off + 2, none⟩ : Addr))) (fun _ => qhP rfl rfl) ?_
                 simp only [Act.put, List.getElem_cons_succ, List.getElem_cons_zero, List.setIfInBounds_toArray, List.set_cons_succ, List.set_cons_zero]
                 refine Ry.qb1 rfl rfl rfl rfl (fun W hW => qcJ u rfl rfl hW) ?_
                 refine Ry.qbs rfl (C' := fun W => ∃ ML', ML'.map Rg.St.s = Rg.push (ML.map Rg.St.s) u.s /\ TwoX LP w1 Br Bm (Rg.push (ML.map Rg.St.s) u.s) L (some ad0) ML' W) (v := .bool (Rg.pushB (ML.map Rg.St.s) u.s)) (f := 13) (args := #[.pointer (some ⟨Bm, 0, none⟩), .agg (Im.cells u.g (.slice u.A u.g.qaa.length u.c) u.r)]) (fun W _ => qhR rfl rfl rfl) (fun W hW => (CMM.out W hW)) (fun W hW => ⟨trivial, by obtain ⟨ML', _, h⟩ := hW; exact ES.out _ _ W h⟩) ?_
                 simp only [Act.put, List.getElem_cons_succ, List.getElem_cons_zero, List.setIfInBounds_toArray, List.set_cons_succ, List.set_cons_zero]
                 refine Ry.qat rfl rfl (v := .bool (Rg.pushB (ML.map Rg.St.s) u.s)) (fun _ => by go_simp; first | done | rfl) ?_
                 refine Ry.qat rfl rfl (v := .bool (Rg.pushB (ML.map Rg.St.s) u.s)) (fun _ => by go_simp; first | done | rfl) ?_
                 refine Ry.qbJ fun W6 hW6 => ?_
                 simp only [Act.put, List.getElem_cons_succ, List.getElem_cons_zero, List.setIfInBounds_toArray, List.set_cons_succ, List.set_cons_zero]
                 obtain ⟨ML', hML', hT6⟩ := hW6
                 have T6 := qh hT6
                 have HM6 := qh hML'
                 clear hT6 hML'
                 go_wp2_with fail
                 go_meet
                 exact ⟨_, ML', rfl, rfl, by rw [HM6.out]; exact OK.out.push UTY.out, by rw [HM6.out]; exact T6.out⟩
               · have GZ := qh (fun (W : World) (hW : Below w1.heap.size w1 W) (i : Nat) (hi : i < 76) => show W.cell? ((⟨(ad2.add (j * 78)).block, (ad2.add (j * 78)).off + 2, none⟩ : Addr).add i) = o.s.cells[i]? from by
                  rw [qou]
                  have h1 : o.s.cells[i]? = some (o.s.cells[i]'(by rw [Rg.St.len]; exact hi)) := List.getElem?_eq_getElem _
                  rw [h1]
                  exact ZO.out W hW (2 + i) _ (by rw [Rg.Stp.at_2]; exact h1))
                 have cf := qh (fun W => qob o.s.g o.s.A o.s.g.qaa.length o.s.c W OFE.out)
                 have hfw : decide (o.s.g.qaa.length <= 60) = false := decide_eq_false hfew
                 rw [hfw] at cf
                 go_wp2_with (first | ((refine qfE (ad := (⟨(ad2.add (j * 78)).block, (ad2.add (j * 78)).off + 2, none⟩ : Addr)) o.s ?_ rfl rfl (GZ.out _ (Below.trans TX.out.down (Below.mono (by repeat (first | exact Below.refl _ _ | apply qaj | apply Below.drew)) TX.out.down.size))) ?_); (focus first | rfl | kernel_rfl | simp [Region.wanted, yielded])) | (go_at_call 14; ((with_reducible refine ((cf.out _)).mono ?_); rintro e w6 ⟨rfl, hb6⟩; have B6 := qh (show Below wr.heap.size wr w6 from Below.trans (by repeat (first | exact Below.refl _ _ | apply qaj | apply Below.drew)) (hb6.mono (Nat.le_refl _))); clear hb6)))
                 go_meet
                 exact ⟨false, ML, rfl, rfl, OK.out, TW.out _ B6.out⟩
             · have q2 : (kd == 2) = false := by simpa using hk22
               by_cases hk33 : kd = 3
               · subst hk33
                 have c1 := qh (fun W hW => TwoX.rcut C OK.out f HFB.out (TW.out W hW))
                 have c2' := qh (fun W (h : TwoX LP w1 Br Bm (Rg.cut (ML.map Rg.St.s) f) L (some ad0) ML W) => TwoX.mcut C OK.out f h)
                 go_wp2_with (first | (go_at_call 15; ((with_reducible refine ((c1.out _ (by repeat (first | exact Below.refl _ _ | apply qaj | apply Below.drew)))).mono ?_); rintro e w6 ⟨rfl, h6⟩; have T6 := qh h6; clear h6)) | (go_at_call 16; ((with_reducible refine ((c2'.out _ T6.out)).mono ?_); rintro e w7 ⟨rfl, ML', hML', h7⟩; have T7 := qh h7; have HM7 := qh hML'; clear h7 hML')))
                 go_meet
                 exact ⟨_, ML', rfl, rfl, by rw [HM7.out]; exact (OK.out.cut f).1, by rw [HM7.out]; exact T7.out⟩
               · have q3 : (kd == 3) = false := by simpa using hk33
                 obtain rfl : kd = 4 := by omega
                 have c1 := qh (fun W hW => TwoX.qqD C OK.out f HFB.out (TW.out W hW))
                 have c2' := qh (fun W (h : TwoX LP w1 Br Bm (Rg.drop (ML.map Rg.St.s) f) L (some ad0) ML W) => TwoX.qqG C OK.out f h)
                 go_wp2_with (first | (go_at_call 17; ((with_reducible refine ((c1.out _ (by repeat (first | exact Below.refl _ _ | apply qaj | apply Below.drew)))).mono ?_); rintro e w6 ⟨rfl, h6⟩; have T6 := qh h6; clear h6)) | (go_at_call 18; ((with_reducible refine ((c2'.out _ T6.out)).mono ?_); rintro e w7 ⟨rfl, ML', hML', h7⟩; have T7 := qh h7; have HM7 := qh hML'; clear h7 hML')))
                 go_meet
                 exact ⟨_, ML', rfl, rfl, by rw [HM7.out]; exact OK.out.drop f, by rw [HM7.out]; exact T7.out⟩
         case rest =>
          as_aux_lemma =>
           obtain ⟨v, M2, rfl, rfl, hok2, hTX2⟩ := hcut
           refine (by assumption : ∀ (a : Act) (w : World), Code.wp _ _ _ a w -> _) _ _ ?_
           have OK2 := qh hok2
           have T2 := qh hTX2
           clear hok2 hTX2 TX OK FB HLA HF0 HKK LL hnn2
           have hfb := HFB.out
           cases hp : Rg.hasB (M2.map Rg.St.s) f with
           | true =>
            obtain ⟨hpl, hil⟩ := Rg.qdl OK2.out hp
            obtain ⟨sx, hsx, _⟩ := Rg.qqw hp
            have hat := (Rg.qon hsx).2
            generalize (f - Rg.first (M2.map Rg.St.s)).toNat = ix at hpl hil hat
            have hgx := Rg.qcY (List.getElem?_eq_getElem hil)
            rw [hgx] at hat
            have hxs : (M2[ix]).s = sx := Option.some.inj hat
            have a1 := qh (TwoX.qpR C OK2.out f sx hsx T2.out)
            have FS := qh (OK2.out.all sx (List.mem_of_getElem? (hgx.trans (congrArg some hxs))))
            have h9 : M2.length <= 1000 := by have := OK2.out.few; rw [List.length_map] at this; omega
            have b1 := qh (fun W (h : TwoX LP w1 Br Bm (M2.map Rg.St.s) L (some ad0) M2 W) => show Calls Tryz.prog 20 #[.pointer (some ⟨Bm, 0, none⟩), .int .i64 f] W (fun e X' => e = .returned (.tuple #[.agg (Im.cells (M2[ix]).g (.slice (M2[ix]).A (M2[ix]).g.qaa.length (M2[ix]).c) (M2[ix]).r), .bool true]) /\ Below W.heap.size W X') from qmu Bm M2 f ix hil hpl h9 W h.ring)
            have UM := qh (show M2[ix] ∈ M2 from List.getElem_mem hil)
            generalize hu : M2[ix] = u at *
            subst hxs
            clear hu hpl hil hsx hgx hat hp h9
            go_upto_region 31 with (first | (go_at_call 19; ((with_reducible refine ((a1).out).mono ?_); rintro x X5 ⟨ht, h⟩; obtain ⟨A5, c5, R5, rfl, hr5, hx5, hy5, hz5⟩ := qnf ht; have L5 := qh (ql5 hr5 rfl (fun p hp => (hx5 p hp).1) hy5); have Y5 := qh h; clear ht h hr5 hx5 hy5 hz5)) | (with_reducible refine qau rfl rfl ?_) | (with_reducible refine qa2 rfl rfl rfl rfl Im.qar rfl ?_))
            have kk5 := qac X5 (.cells (Im.cells u.s.g (.slice A5 u.s.g.qaa.length c5) u.s.r) 40)
            have B5 := qh (Box.made X5 40 (Im.cells u.s.g (.slice A5 u.s.g.qaa.length c5) u.s.r))
            have T5 := qh (Y5.out.call C kk5)
            have L6 := qh (L5.out.call kk5)
            clear kk5 Y5 L5 a1 T2
            generalize hW5 : X5.alloc (.cells (Im.cells u.s.g (.slice A5 u.s.g.qaa.length c5) u.s.r) 40) = W5 at *
            generalize X5.heap.size = b5 at *
            clear hW5
            go_upto_region 32 with (first | (go_at_call 20; ((with_reducible refine ((b1).out _ T5.out).mono ?_); rintro x X6 ⟨rfl, hb6⟩; have T6 := qh (T5.out.call C hb6); have B6 := qh (B5.out.below hb6 B5.out.lt); have L7 := qh (L6.out.call hb6); clear hb6)) | (with_reducible refine qau rfl rfl ?_) | (with_reducible refine qa2 rfl rfl rfl rfl Im.qar rfl ?_))
            have kk6 := qac X6 (.cells (Im.cells u.g (.slice u.A u.g.qaa.length u.c) u.r) 40)
            have BX := qh (B6.out.below kk6 B6.out.lt)
            have BY := qh (Box.made X6 40 (Im.cells u.g (.slice u.A u.g.qaa.length u.c) u.r))
            have T7 := qh (T6.out.call C kk6)
            have L8 := qh (L7.out.call kk6)
            clear kk6 T6 B6 L7 L6 B5 T5 b1
            generalize hW7 : X6.alloc (.cells (Im.cells u.g (.slice u.A u.g.qaa.length u.c) u.r) 40) = W7 at *
            generalize X6.heap.size = b7 at *
            clear hW7
            have n63 : u.g.qaa.length <= maxLen := by have h : u.g.qaa.length <= 32 := FS.out.1.1.2.2.1; unfold maxLen; omega
            have LU := qh (by obtain ⟨A, c, hb, hr, _⟩ := T7.out.ring.box; exact hr.qaa u UM.out : Lies W7 W7.heap.size 6 u.A u.g.qaa.length (Gm.qab u.g.qaa))
            have ZS := qh (fun q : Ext W7.heap.size W7 => show Calls Tryz.prog 21 #[.agg (Im.cells u.s.g (.slice A5 u.s.g.qaa.length c5) u.s.r), .agg (Im.cells u.g (.slice u.A u.g.qaa.length u.c) u.r)] q.w (fun r' w' => r' = .returned (.bool true) /\ Below q.w.heap.size q.w w') from (qeI u.s.g u.g u.s.r u.r A5 u.A u.s.g.qaa.length u.g.qaa.length c5 u.c q.w rfl rfl ((L8.out.below q.h).wider q.h.size) ((LU.out.below q.h).wider q.h.size) n63 n63).mono fun r' w' h => by obtain ⟨⟨v, h1, h2⟩, h3⟩ := h; obtain rfl : v = true := h2.2 ⟨Gm.Eq.refl _, rfl, fun _ _ => ⟨rfl, rfl⟩⟩; exact ⟨h1, h3⟩)
            clear L8 LU n63 FS UM
            obtain ⟨Am, cm, hBm, hRm, hcm, hcm9⟩ := T7.out.ring.box
            have hln := Rg.qeu OK2.out.some
            have hlo := OK2.out.low
            have h9 := OK2.out.few
            rw [List.length_map] at hln h9
            obtain ⟨kq, hkq⟩ : ∃ kq, M2.length = kq + 1 := ⟨M2.length - 1, by omega⟩
            obtain ⟨am, hAm, hamb⟩ := hRm.row.start (by omega)
            subst hAm
            obtain ⟨f1, hf1⟩ : ∃ f1, f1 = Rg.first (M2.map Rg.St.s) := ⟨_, rfl⟩
            have e0 : (M2[0]'(by omega)).g.frame = f1 := by rw [hf1]; exact OK2.out.qf5 (Rg.qcY (List.getElem?_eq_getElem (by omega)))
            have e1 : (M2[kq]'(by omega)).g.frame = f1 + kq := by rw [hf1]; exact OK2.out.runs kq _ (Rg.qcY (List.getElem?_eq_getElem (by omega)))
            have hla : Rg.last (M2.map Rg.St.s) = f1 + kq := by unfold Rg.last; rw [<- hf1, List.length_map, hkq]; omega
            rw [hla, <- hf1] at hlo
            have zB : ∀ q : Ext W7.heap.size W7, q.w.cell? ⟨Bm, 0, none⟩ = some (.slice (some am) (kq + 1) cm) := fun q => by rw [<- hkq]; exact q.cell hBm.lt (hBm.cell 0)
            have hsto := fun (i : Nat) (hi : i < M2.length) => qeb hRm.row rfl i hi 0 (by decide)
            have zF : ∀ q : Ext W7.heap.size W7, q.w.cell? (am.add (0 * 76)) = some (.int .i64 f1) := fun q => by
             have h1 := hsto 0 (by omega)
             rw [show (M2[0]'(by omega)).cells[0]? = some (.int .i64 (M2[0]'(by omega)).g.frame) from by unfold Rg.St.cells; rw [Array.getElem?_toList]; exact Rg.St.first _, e0] at h1
             exact (q.h.cell (p := am.add (0 * 76)) (by rw [add_block]; exact hamb)).trans h1
            have zF1 : ∀ q : Ext W7.heap.size W7, q.w.cell? am = some (.int .i64 f1) := zF
            have zL : ∀ q : Ext W7.heap.size W7, q.w.cell? (am.add (kq * 76)) = some (.int .i64 (f1 + kq)) := fun q => by
             have h1 := hsto kq (by omega)
             rw [show (M2[kq]'(by omega)).cells[0]? = some (.int .i64 (M2[kq]'(by omega)).g.frame) from by unfold Rg.St.cells; rw [Array.getElem?_toList]; exact Rg.St.first _, e1] at h1
             exact (q.h.cell (p := am.add (kq * 76)) (by rw [add_block]; exact hamb)).trans h1
            have ek : ((M2.map Rg.St.s).length : Int) = (kq : Int) + 1 := by rw [List.length_map, hkq]; omega
            have cl := qh (fun q : Ext W7.heap.size W7 => show Calls Tryz.prog 22 #[.pointer (some ⟨Br, 0, none⟩)] q.w (fun e X' => e = .returned (.int .i64 ((kq : Int) + 1)) /\ Below q.w.heap.size q.w X') from by have := TwoX.rlen C OK2.out (T7.out.call C q.h); rw [ek] at this; exact this)
            have cf := qh (fun q : Ext W7.heap.size W7 => show Calls Tryz.prog 23 #[.pointer (some ⟨Br, 0, none⟩)] q.w (fun e X' => e = .returned (.int .i64 f1) /\ Below q.w.heap.size q.w X') from by have := TwoX.qpt C OK2.out (T7.out.call C q.h); rw [<- hf1] at this; exact this)
            have ca := qh (fun q : Ext W7.heap.size W7 => show Calls Tryz.prog 24 #[.pointer (some ⟨Br, 0, none⟩)] q.w (fun e X' => e = .returned (.int .i64 (f1 + kq)) /\ Below q.w.heap.size q.w X') from by have := TwoX.qqm C OK2.out (T7.out.call C q.h); rw [hla] at this; exact this)
            have PX := qh (fun q : Ext W7.heap.size W7 => BX.out.below q.h BX.out.lt)
            have PY := qh (fun q : Ext W7.heap.size W7 => BY.out.below q.h BY.out.lt)
            have hkl : (kq : Int) < (kq : Int) + 1 := by omega
            have wr4 := qig f1 0 kq ⟨hlo.1, hlo.2.1, by omega⟩ (by omega)
            obtain ⟨hwm, hwm2, _, _⟩ := wr4
            clear hBm hRm hcm hcm9 hlo hln h9 hkq hf1 e0 e1 hla hamb hsto ek BX BY
            refine qa0 W7.heap.size W7 (by kernel_rfl) (by kernel_rfl) (Below.refl _ _) ?_
            repeat (first | (go_big_quiet_want; (first | (refine qbY rfl rfl PX.out ?_) | (refine qbY rfl rfl PY.out ?_)); simp only [Act.put, List.setIfInBounds_toArray, List.set_cons_succ, List.set_cons_zero]; go_big_quiet_on) | go_big_quiet_step (first | (go_at_call 21; with_reducible exact Calls.qbz (Nat.le_refl _) (ZS.out _)) | (go_at_call 22; with_reducible exact Calls.qbz (Nat.le_refl _) (cl.out _)) | (go_at_call 23; with_reducible exact Calls.qbz (Nat.le_refl _) (cf.out _)) | (go_at_call 24; with_reducible exact Calls.qbz (Nat.le_refl _) (ca.out _)) | fail))
            refine wpQuiet_nil ?_
            intro _ hw'
            obtain ⟨q9, hw''⟩ := hw'
            subst hw''
            have T9 := qh (T7.out.call C q9.h)
            clear zB zF zF1 zL cl cf ca PX PY ZS T7
            go_wp2_with fail
            go_roundw
            case rel => exact ⟨j + 1, M2, by omega, by go_num, OK2.out, T9.out⟩
            case measure => simp [intOf]; omega
           | false =>
            have hno := Rg.qlN hp
            have hpl := Rg.qd3 OK2.out hp
            have h9 : M2.length <= 1000 := by have := OK2.out.few; rw [List.length_map] at this; omega
            have a1 := qh (show Calls Tryz.prog 19 #[.pointer (some ⟨Br, 0, none⟩), .int .i64 f] wc (fun e X' => e = .returned (.tuple #[.agg (Im.cells Im.G0 (.slice none 0 0) Im.R0), .bool false]) /\ TwoX LP w1 Br Bm (M2.map Rg.St.s) L (some ad0) M2 X') from TwoX.qqo C OK2.out f hfb hno T2.out)
            have b1 := qh (fun W (h : TwoX LP w1 Br Bm (M2.map Rg.St.s) L (some ad0) M2 W) => show Calls Tryz.prog 20 #[.pointer (some ⟨Bm, 0, none⟩), .int .i64 f] W (fun e X' => e = .returned (.tuple #[.agg (Im.cells Im.G0 (.slice none 0 0) Im.R0), .bool false]) /\ Below W.heap.size W X') from qmv Bm M2 f hpl h9 W h.ring)
            clear hno hpl h9 hp
            go_upto_region 31 with (first | (go_at_call 19; ((with_reducible refine ((a1).out).mono ?_); rintro x X5 ⟨rfl, h⟩; have Y5 := qh h; clear h)) | (with_reducible refine qau rfl rfl ?_) | (with_reducible refine qa2 rfl rfl rfl rfl Im.qar rfl ?_))
            have kk5 := qac X5 (.cells (Im.cells Im.G0 (.slice none 0 0) Im.R0) 40)
            have B5 := qh (Box.made X5 40 (Im.cells Im.G0 (.slice none 0 0) Im.R0))
            have T5 := qh (Y5.out.call C kk5)
            clear kk5 Y5 a1 T2
            generalize hW5 : X5.alloc (.cells (Im.cells Im.G0 (.slice none 0 0) Im.R0) 40) = W5 at *
            generalize X5.heap.size = b5 at *
            clear hW5
            go_upto_region 32 with (first | (go_at_call 20; ((with_reducible refine ((b1).out _ T5.out).mono ?_); rintro x X6 ⟨rfl, hb6⟩; have T6 := qh (T5.out.call C hb6); have B6 := qh (B5.out.below hb6 B5.out.lt); clear hb6)) | (with_reducible refine qau rfl rfl ?_) | (with_reducible refine qa2 rfl rfl rfl rfl Im.qar rfl ?_))
            have kk6 := qac X6 (.cells (Im.cells Im.G0 (.slice none 0 0) Im.R0) 40)
            have BX := qh (B6.out.below kk6 B6.out.lt)
            have BY := qh (Box.made X6 40 (Im.cells Im.G0 (.slice none 0 0) Im.R0))
            have T7 := qh (T6.out.call C kk6)
            clear kk6 T6 B6 B5 T5 b1
            generalize hW7 : X6.alloc (.cells (Im.cells Im.G0 (.slice none 0 0) Im.R0) 40) = W7 at *
            generalize X6.heap.size = b7 at *
            clear hW7
            have ZS := qh (fun q : Ext W7.heap.size W7 => show Calls Tryz.prog 21 #[.agg (Im.cells Im.G0 (.slice none 0 0) Im.R0), .agg (Im.cells Im.G0 (.slice none 0 0) Im.R0)] q.w (fun r' w' => r' = .returned (.bool true) /\ Below q.w.heap.size q.w w') from (qeI Im.G0 Im.G0 Im.R0 Im.R0 none none 0 0 0 0 q.w rfl rfl Lies.none_ Lies.none_ (Nat.zero_le _) (Nat.zero_le _)).mono fun r' w' h => by obtain ⟨⟨v, h1, h2⟩, h3⟩ := h; obtain rfl : v = true := h2.2 ⟨Gm.Eq.refl _, rfl, fun _ _ => ⟨rfl, rfl⟩⟩; exact ⟨h1, h3⟩)
            obtain ⟨Am, cm, hBm, hRm, hcm, hcm9⟩ := T7.out.ring.box
            have hln := Rg.qeu OK2.out.some
            have hlo := OK2.out.low
            have h9 := OK2.out.few
            rw [List.length_map] at hln h9
            obtain ⟨kq, hkq⟩ : ∃ kq, M2.length = kq + 1 := ⟨M2.length - 1, by omega⟩
            obtain ⟨am, hAm, hamb⟩ := hRm.row.start (by omega)
            subst hAm
            obtain ⟨f1, hf1⟩ : ∃ f1, f1 = Rg.first (M2.map Rg.St.s) := ⟨_, rfl⟩
            have e0 : (M2[0]'(by omega)).g.frame = f1 := by rw [hf1]; exact OK2.out.qf5 (Rg.qcY (List.getElem?_eq_getElem (by omega)))
            have e1 : (M2[kq]'(by omega)).g.frame = f1 + kq := by rw [hf1]; exact OK2.out.runs kq _ (Rg.qcY (List.getElem?_eq_getElem (by omega)))
            have hla : Rg.last (M2.map Rg.St.s) = f1 + kq := by unfold Rg.last; rw [<- hf1, List.length_map, hkq]; omega
            rw [hla, <- hf1] at hlo
            have zB : ∀ q : Ext W7.heap.size W7, q.w.cell? ⟨Bm, 0, none⟩ = some (.slice (some am) (kq + 1) cm) := fun q => by rw [<- hkq]; exact q.cell hBm.lt (hBm.cell 0)
            have hsto := fun (i : Nat) (hi : i < M2.length) => qeb hRm.row rfl i hi 0 (by decide)
            have zF : ∀ q : Ext W7.heap.size W7, q.w.cell? (am.add (0 * 76)) = some (.int .i64 f1) := fun q => by
             have h1 := hsto 0 (by omega)
             rw [show (M2[0]'(by omega)).cells[0]? = some (.int .i64 (M2[0]'(by omega)).g.frame) from by unfold Rg.St.cells; rw [Array.getElem?_toList]; exact Rg.St.first _, e0] at h1
             exact (q.h.cell (p := am.add (0 * 76)) (by rw [add_block]; exact hamb)).trans h1
            have zF1 : ∀ q : Ext W7.heap.size W7, q.w.cell? am = some (.int .i64 f1) := zF
            have zL : ∀ q : Ext W7.heap.size W7, q.w.cell? (am.add (kq * 76)) = some (.int .i64 (f1 + kq)) := fun q => by
             have h1 := hsto kq (by omega)
             rw [show (M2[kq]'(by omega)).cells[0]? = some (.int .i64 (M2[kq]'(by omega)).g.frame) from by unfold Rg.St.cells; rw [Array.getElem?_toList]; exact Rg.St.first _, e1] at h1
             exact (q.h.cell (p := am.add (kq * 76)) (by rw [add_block]; exact hamb)).trans h1
            have ek : ((M2.map Rg.St.s).length : Int) = (kq : Int) + 1 := by rw [List.length_map, hkq]; omega
            have cl := qh (fun q : Ext W7.heap.size W7 => show Calls Tryz.prog 22 #[.pointer (some ⟨Br, 0, none⟩)] q.w (fun e X' => e = .returned (.int .i64 ((kq : Int) + 1)) /\ Below q.w.heap.size q.w X') from by have := TwoX.rlen C OK2.out (T7.out.call C q.h); rw [ek] at this; exact this)
            have cf := qh (fun q : Ext W7.heap.size W7 => show Calls Tryz.prog 23 #[.pointer (some ⟨Br, 0, none⟩)] q.w (fun e X' => e = .returned (.int .i64 f1) /\ Below q.w.heap.size q.w X') from by have := TwoX.qpt C OK2.out (T7.out.call C q.h); rw [<- hf1] at this; exact this)
            have ca := qh (fun q : Ext W7.heap.size W7 => show Calls Tryz.prog 24 #[.pointer (some ⟨Br, 0, none⟩)] q.w (fun e X' => e = .returned (.int .i64 (f1 + kq)) /\ Below q.w.heap.size q.w X') from by have := TwoX.qqm C OK2.out (T7.out.call C q.h); rw [hla] at this; exact this)
            have PX := qh (fun q : Ext W7.heap.size W7 => BX.out.below q.h BX.out.lt)
            have PY := qh (fun q : Ext W7.heap.size W7 => BY.out.below q.h BY.out.lt)
            have hkl : (kq : Int) < (kq : Int) + 1 := by omega
            have wr4 := qig f1 0 kq ⟨hlo.1, hlo.2.1, by omega⟩ (by omega)
            obtain ⟨hwm, hwm2, _, _⟩ := wr4
            clear hBm hRm hcm hcm9 hlo hln h9 hkq hf1 e0 e1 hla hamb hsto ek BX BY
            refine qa0 W7.heap.size W7 (by kernel_rfl) (by kernel_rfl) (Below.refl _ _) ?_
            repeat (first | (go_big_quiet_want; (first | (refine qbY rfl rfl PX.out ?_) | (refine qbY rfl rfl PY.out ?_)); simp only [Act.put, List.setIfInBounds_toArray, List.set_cons_succ, List.set_cons_zero]; go_big_quiet_on) | go_big_quiet_step (first | (go_at_call 21; with_reducible exact Calls.qbz (Nat.le_refl _) (ZS.out _)) | (go_at_call 22; with_reducible exact Calls.qbz (Nat.le_refl _) (cl.out _)) | (go_at_call 23; with_reducible exact Calls.qbz (Nat.le_refl _) (cf.out _)) | (go_at_call 24; with_reducible exact Calls.qbz (Nat.le_refl _) (ca.out _)) | fail))
            refine wpQuiet_nil ?_
            intro _ hw'
            obtain ⟨q9, hw''⟩ := hw'
            subst hw''
            have T9 := qh (T7.out.call C q9.h)
            clear zB zF zF1 zL cl cf ca PX PY ZS T7
            go_wp2_with fail
            go_roundw
            case rel => exact ⟨j + 1, M2, by omega, by go_num, OK2.out, T9.out⟩
            case measure => simp [intOf]; omega
       · obtain rfl : j = n2 := by omega
         have hfi : ¬ (j : Int) < (j : Int) := by omega
         have KX := qh TX.out.down
         clear TX
         go_wp2_with (go_at_call 6; ((with_reducible refine ((qhz C _)).mono ?_); rintro x wz ⟨rfl, hz⟩; have KZ := qh (KX.out.trans (hz.mono KX.out.size)); clear hz))
         go_ret
         exact ⟨rfl, K1.out.trans (KZ.out.mono K1.out.size)⟩
open Go Go.RowKit Go.Shelf
theorem qkH {LP : qdG} (C : qhg LP) (seed : ByteArray) (l : List Fd.Turn) (A : Option Addr) (n c : Nat) (l2 : List Rg.Stp) (A2 : Option Addr) (c2 : Nat) (w : World) (hsz : seed.size <= maxLen) (hn : n = l.length) (hn63 : n <= maxLen) (hl : Lies w w.heap.size 25 A n (l.flatMap Fd.Turn.cells)) (hty : ∀ q ∈ l, q.ty) (hn2 : l2.length <= maxLen) (hl2 : qhi w w.heap.size A2 l2.length l2) (hty2 : ∀ o ∈ l2, o.ty) :
 Calls Tryz.prog 3 #[.string seed, .slice A n c, .slice A2 l2.length c2] w fun e w' => e = .returned (.bool true) /\ Below w.heap.size w w' := by
 have ct := fun X => qh (qhz C X)
 by_cases h20 : seed.size <= 20
 · have hs : (seed.size : Int) <= 20 := by omega
   by_cases hhi : n <= 40
   · by_cases h60 : l2.length <= 60
     · exact qjp C seed l A n c l2 A2 c2 w h20 hn hhi hl hty h60 hl2 hty2
     · have hn1 : (n : Int) <= 40 := by omega
       have hn3 : ¬ (l2.length : Int) <= 60 := by omega
       clear hl hty hn hsz hn63 hn2 hl2 hty2
       generalize l2.length = m at *
       go_enter Tryz.func3, Tryz.ntmps3
       go_wp2_with (go_at_call 6; ((with_reducible refine ((ct _).out).mono ?_); rintro e w1 ⟨rfl, hb⟩))
       go_ret
       exact ⟨rfl, hb⟩
   · have hn1 : ¬ (n : Int) <= 40 := by omega
     clear hl hty hn hsz hn63 hn2 hl2 hty2
     generalize l2.length = m at *
     go_enter Tryz.func3, Tryz.ntmps3
     go_wp2_with (go_at_call 6; ((with_reducible refine ((ct _).out).mono ?_); rintro e w1 ⟨rfl, hb⟩))
     go_ret
     exact ⟨rfl, hb⟩
 · have hs : ¬ (seed.size : Int) <= 20 := by omega
   clear hl hty hn hsz hn63 hn2 hl2 hty2
   generalize l2.length = m at *
   go_enter Tryz.func3, Tryz.ntmps3
   go_wp2_with (go_at_call 6; ((with_reducible refine ((ct _).out).mono ?_); rintro e w1 ⟨rfl, hb⟩))
   go_ret
   exact ⟨rfl, hb⟩
end Go.Proofs.YtbdlpbnfcnhajaaGreat