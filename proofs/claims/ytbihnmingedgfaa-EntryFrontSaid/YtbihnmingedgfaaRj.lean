/-
As Rz, with one more fact carried on: D on which operations have been and what they gave (two variables that are made lie in two blocks).
-/
import Derived.Test.YtbihnmingedgfaaRz
namespace Rj
open Go Go.RowKit Rz
/-- Which of the acts have been. -/
def done (n0 : Nat) (listed : Array Bool) : Nat → Bool := fun j => decide (n0 ≤ j) && listed.getD j false
def also (S : Nat → Bool) (i : Nat) : Nat → Bool := fun j => S j || j == i
structure Inv (l : List Oper) (n0 n : Nat) (u : Nat → Value) (V : Nat → (Nat → Value) → World → Prop) (D : (Nat → Bool) → (Nat → Value) → World → Prop) (K : World → Prop) (a0 : Act) (listed : Array Bool) (a : Act) (w : World) : Prop where
  head : HeadInv .any l.toArray n listed
  shape : ∃ vm : Nat → Value, Rp.Shape l (fun j => if j < n0 then u j else vm j) a0 (fun j => listed.getD j false) a ∧ (∀ j, n0 ≤ j → j < n → listed.getD j false = true → V j vm w) ∧ D (done n0 listed) vm w
  world : K w

section
variable {P : Program} {l : List Oper} {n0 n : Nat} {K : World → Prop} {V : Nat → (Nat → Value) → World → Prop} {D : (Nat → Bool) → (Nat → Value) → World → Prop} {A : Nat → Act} {u : Nat → Value}
theorem all_ {Q : Exit → Act → World → Prop} (hr : Run P K (l.take n0) A u) (ok : Ok n0 n l) (hDc : ∀ S vm vm' w, (∀ j, n0 ≤ j → vm j = vm' j) → D S vm w → D S vm' w) (hVd : ∀ j vm vm' w, n0 ≤ j → j < n → (∀ k, k = j ∨ dep l j k = true → vm k = vm' k) → V j vm w → V j vm' w)
    (hmid : ∀ i o, n0 ≤ i → i < n → l[i]? = some o → ∀ (S : Nat → Bool) (vm : Nat → Value) w, K w → S i = false → (∀ j, n0 ≤ j → j < n → dep l i j = true → S j = true) → (∀ j, n0 ≤ j → j < n → S j = true → V j vm w) → D S vm w → Gives P o (putAll ((l.drop n0).take (n - n0)) n0 vm (A n0)) w (fun v w' => V i (upd vm i v) w' ∧ K w' ∧ (∀ j, n0 ≤ j → j < n → j ≠ i → S j = true → V j vm w → V j vm w') ∧ D (also S i) (upd vm i v) w'))
    (htail : ∀ (S : Nat → Bool) (vm : Nat → Value) w, K w → (∀ j, n0 ≤ j → j < n → S j = true) → (∀ j, n0 ≤ j → j < n → V j vm w) → D S vm w → wpList P l.toArray Q (l.drop n) (putAll ((l.drop n0).take (n - n0)) n0 vm (A n0)) w) :
    ∀ (m : Nat) (listed : Array Bool) (a : Act) (w : World), Inv l n0 n u V D K (A 0) listed a w → Rp.unl (fun i => listed.getD i false) n = m → wpAny P .any l.toArray Q (m + (l.length - n)) listed a w := by
  have hll : l.toArray.size = l.length := by simp
  have shapeA : ∀ vm : Nat → Value, Rp.Shape l (fun j => if j < n0 then u j else vm j) (A 0) (fun j => decide (j < n)) (putAll ((l.drop n0).take (n - n0)) n0 vm (A n0)) := fun vm => by
    have h := putAll_shape ok (v := fun j => if j < n0 then u j else vm j) (a0 := A 0) (n - n0) n0 (A n0) (by have := ok.le; omega) (hr.shape ok (fun j hj => by simp [hj]) n0 (Nat.le_refl _))
    rw [putAll_congr (v := fun j => if j < n0 then u j else vm j) (v' := vm) _ _ _ (fun j hj => by simp; intro h; omega)] at h
    exact h
  intro m
  induction m with
  | zero =>
    intro listed a w inv hm
    have hall := Rp.unl_zero (f := fun i => listed.getD i false) (n := n) hm
    have e : listed = Array.replicate n true ++ Array.replicate (l.length - n) false := by
      apply Array.ext
      · rw [inv.head.size]; simp; have := ok.lt; omega
      · intro i h1 h2
        have hs := inv.head.size
        by_cases hin : i < n
        · have := hall i hin
          simp [h1] at this
          rw [Array.getElem_append_left (by simpa using hin)]
          simpa using this
        · have := inv.head.tail i (by omega) (by rw [← hs]; exact h1)
          simp [h1] at this
          rw [Array.getElem_append_right (by simp; omega)]
          simpa using this
    obtain ⟨vm, hs, hV, hD⟩ := inv.shape
    have ea : a = putAll ((l.drop n0).take (n - n0)) n0 vm (A n0) := hs.ext (shapeA vm) fun j o hj => by
      have hjl : j < l.length := (List.getElem?_eq_some_iff.1 hj).1
      by_cases hjn : j < n
      · rw [hall j hjn]; simp [hjn]
      · have := inv.head.tail j (by omega) (by rw [hll]; exact hjl)
        rw [getD_both this]; simp [hjn]
    have hw := htail _ vm w inv.world (fun j h1 h2 => (by unfold done; rw [hall j h2]; simp [h1])) (fun j h1 h2 => hV j h1 h2 (hall j h2)) hD
    rw [← ea] at hw
    have hdl : (l.drop n).length = l.length - n := by simp
    have := wpAny_of_seq (md := .any) (Q' := Q) (l.drop n) n listed a w (fun j => by simp [List.getElem?_drop]) (by rw [hdl, e]; exact ok.seq) hw
    rw [hdl] at this
    rw [Nat.zero_add]
    exact this
  | succ m ih =>
    intro listed a w inv hm
    rw [show m + 1 + (l.length - n) = (m + (l.length - n)) + 1 by omega]
    -- somebody of the head has not been
    have hex : ∃ i, i < n ∧ listed.getD i false = false := by
      refine Classical.byContradiction fun hno => ?_
      have : ∀ k, k ≤ n → Rp.unl (fun i => listed.getD i false) k = 0 := by
        intro k
        induction k with
        | zero => intro _; rfl
        | succ k ihk =>
          intro hk
          unfold Rp.unl
          rw [ihk (by omega)]
          cases h : listed.getD k false
          · exact absurd ⟨k, by omega, h⟩ hno
          · simp
      have := this n (Nat.le_refl _)
      omega
    obtain ⟨i0, hi0, hun0⟩ := hex
    have his0 : i0 < listed.size := by rw [inv.head.size, hll]; have := ok.lt; omega
    refine ⟨fun hr' => ?_, fun i hi => ?_⟩
    · exfalso
      have key : ∀ i, i < n → listed.getD i false = true := by
        intro i
        induction i using Nat.strongRecOn with
        | _ i ihi =>
          intro hin
          cases hu : listed.getD i false
          · have hil : i < l.length := by have := ok.lt; omega
            have ho : l[i]? = some (l[i]'hil) := List.getElem?_eq_getElem hil
            have his : i < listed.size := by rw [inv.head.size, hll]; exact hil
            have : i ∈ Region.ready .any l.toArray listed := mem_ready.2 ⟨getD_in his hu, _, (by rw [List.getElem?_toArray]; exact ho), fun e he hb => by
              have hd := ok.down i _ hin ho e he hb
              exact ihi e.on hd (by omega)⟩
            rw [hr'] at this; cases this
          · rfl
      rw [key i0 hi0] at hun0; cases hun0
    · have hin : i < n := by
        refine Classical.byContradiction fun hge => ?_
        exact tail_waits ok.sink ok.chain (by rw [hll]; exact ok.lt) inv.head (n - i0) i0 rfl hi0 (getD_in his0 hun0) i (by omega) hi
      obtain ⟨hun, o, ho', hdeps⟩ := mem_ready.1 hi
      have ho : l[i]? = some o := by simpa using ho'
      have hil : i < l.length := (List.getElem?_eq_some_iff.1 ho).1
      have his : i < listed.size := by rw [inv.head.size, hll]; exact hil
      have hun' : listed.getD i false = false := getD_both hun
      have getset : ∀ j, (listed.setIfInBounds i true).getD j false = (listed.getD j false || j == i) := fun j => by
        by_cases hji : j = i
        · subst hji; simp [his]
        · rw [getD_set_ne false (fun e => hji e.symm)]; simp [hji]
      have hun2 : Rp.unl (fun j => (listed.setIfInBounds i true).getD j false) n = m := by
        have := Rp.unl_set (f := fun j => listed.getD j false) (g := fun j => (listed.setIfInBounds i true).getD j false) (i := i) hun' (by rw [getset]; simp) (fun j hj => by rw [getset]; simp [hj]) hin
        omega
      obtain ⟨vm, hs, hV, hD⟩ := inv.shape
      have next : ∀ v w', (i < n0 → v = u i) → (n0 ≤ i → V i (upd vm i v) w') → K w' → (∀ j, n0 ≤ j → j < n → j ≠ i → done n0 listed j = true → V j vm w → V j vm w') → D (done n0 (listed.setIfInBounds i true)) (upd vm i v) w' → wpAny P .any l.toArray Q (m + (l.length - n)) (listed.setIfInBounds i true) (a.put o.dst v) w' := fun v w' h1 h2 hKw hst hDn => by
        refine ih _ _ _ ⟨inv.head.set hi hin, ⟨upd vm i v, ?_, fun j hj1 hj2 hl => ?_, hDn⟩, hKw⟩ hun2
        · have hs' := shape_same_v (v' := fun j => if j < n0 then u j else upd vm i v j) hs fun j hj => by
            by_cases hjn : j < n0
            · simp [hjn]
            · have : j ≠ i := fun e => by subst e; rw [hun'] at hj; cases hj
              simp [hjn, this, upd]
          have hp := hs'.put ok.dist ho
          have ev : (if i < n0 then u i else upd vm i v i) = v := by
            by_cases hin0 : i < n0
            · simp [hin0, h1 hin0]
            · simp [hin0, upd]
          rw [ev] at hp
          exact hp.congr fun j o hj => (getset j).symm
        · by_cases hji : j = i
          · subst hji; exact h2 hj1
          · rw [getset] at hl
            have hlj : listed.getD j false = true := by simpa [hji] using hl
            refine hVd j vm _ w' hj1 hj2 (fun k hk => ?_) (hst j hj1 hj2 hji (by unfold done; rw [hlj]; simp [hj1]) (hV j hj1 hj2 hlj))
            have hki : k ≠ i := fun e => by
              subst e
              rcases hk with rfl | hk
              · exact hji rfl
              · have hjl : j < l.length := by have := ok.lt; omega
                have hoj : l[j]? = some (l[j]'hjl) := List.getElem?_eq_getElem hjl
                obtain ⟨e, he, hb, hon⟩ := dep_spec hoj hk
                have := inv.head.closed j _ (by rw [List.getElem?_toArray]; exact hoj) hlj e he hb
                rw [hon, hun'] at this; cases this
            simp [upd, hki]
      have before : ∀ j, dep l i j = true → listed.getD j false = true := fun j hd => by
        obtain ⟨e, he, hb, rfl⟩ := dep_spec ho hd
        exact hdeps e he hb
      unfold wpOp
      simp only [ho', Region.wanted, ok.guard i o hin ho, if_true]
      refine .inl ?_
      by_cases hi0' : i < n0
      · have ho2 : (l.take n0)[i]? = some o := by rw [List.getElem?_take, if_pos hi0']; exact ho
        have exec : execOp a.eval o = execOp (A i).eval o := execOp_congr o (fun cs b => Region.noSelect_spec ok.sel i o cs b ho') fun x hx => by
          cases x with
          | tmp t =>
            have ht : t ∈ o.looksAt l.toArray := List.mem_append_left _ (List.mem_filterMap.2 ⟨.tmp t, by simpa using hx, rfl⟩)
            have e := hs.same (hr.shape ok (v := fun j => if j < n0 then u j else vm j) (fun j hj => by simp [hj]) i (by omega)) (t := t) fun j oj hj hd => by
              by_cases hji : j = i
              · subst hji; rw [hun']; simp
              · by_cases hjn : j < n
                · have hdp := ok.looks i j o oj t hin hjn ho hj (fun e => hji e.symm) hd ht
                  obtain ⟨e, he, hb, hon⟩ := dep_spec ho hdp
                  have := ok.down i o hin ho e he hb
                  rw [before j hdp]; simp; omega
                · have hjl : j < l.length := (List.getElem?_eq_some_iff.1 hj).1
                  rw [getD_both (inv.head.tail j (by omega) (by rw [hll]; exact hjl))]; simp; omega
            simp only [Act.eval, Array.getD_eq_getD_getElem?, e]
          | const => rfl
          | global => rfl
          | func => rfl
        have hrun := hr.run i o ho2 w inv.world
        have hg : Gives P o (A i) w (fun v w' => v = u i ∧ w' = w) := ⟨by unfold gives; rw [hrun]; exact ⟨rfl, rfl⟩⟩
        refine (hg.congr exec).wp fun v w' ⟨hv, hw⟩ => ?_
        subst hw
        refine next v w' (fun _ => hv) (fun h => absurd h (by omega)) inv.world (fun j _ _ _ _ h => h) ?_
        have eS : done n0 (listed.setIfInBounds i true) = done n0 listed := funext fun j => by
          unfold done
          rw [getset]
          by_cases hj : n0 ≤ j
          · have : (j == i) = false := by simp; omega
            simp [this]
          · simp [hj]
        rw [eS]
        exact hDc _ _ _ _ (fun j hj => by simp [upd, show j ≠ i by omega]) hD
      · have exec : execOp a.eval o = execOp (putAll ((l.drop n0).take (n - n0)) n0 vm (A n0)).eval o := execOp_congr o (fun cs b => Region.noSelect_spec ok.sel i o cs b ho') fun x hx => by
          cases x with
          | tmp t =>
            have ht : t ∈ o.looksAt l.toArray := List.mem_append_left _ (List.mem_filterMap.2 ⟨.tmp t, by simpa using hx, rfl⟩)
            by_cases hself : o.dst = some t
            · -- it reads what it writes: told by the check to be nobody else's
              exact (ok.self i o t hin ho hself ht).elim
            · have e := hs.same (shapeA vm) (t := t) fun j oj hj hd => by
                have hji : j ≠ i := fun e => by subst e; rw [ho] at hj; injection hj with hj; subst hj; exact hself hd
                by_cases hjn : j < n
                · rw [before j (ok.looks i j o oj t hin hjn ho hj (fun e => hji e.symm) hd ht)]; simp [hjn]
                · have hjl : j < l.length := (List.getElem?_eq_some_iff.1 hj).1
                  rw [getD_both (inv.head.tail j (by omega) (by rw [hll]; exact hjl))]; simp [hjn]
              simp only [Act.eval, Array.getD_eq_getD_getElem?, e]
          | const => rfl
          | global => rfl
          | func => rfl
        refine ((hmid i o (by omega) hin ho (done n0 listed) vm w inv.world (by unfold done; rw [hun']; simp) (fun j h1 h2 hd => (by unfold done; rw [before j hd]; simp [h1])) (fun j h1 h2 hd => hV j h1 h2 (by unfold done at hd; simp at hd; simpa using hd.2)) hD).congr exec).wp fun v w' ⟨h1, h2, h3, h4⟩ => ?_
        refine next v w' (fun h => absurd h (by omega)) (fun _ => h1) h2 h3 ?_
        have eS : done n0 (listed.setIfInBounds i true) = also (done n0 listed) i := funext fun j => by
          unfold done also
          rw [getset]
          by_cases hji : j = i
          · subst hji; simp; omega
          · have hb : (j == i) = false := by simpa using hji
            rw [hb, Bool.or_false, Bool.or_false]
        rw [eS]
        exact h4
end
/-- **As wp_region_z, with D carried on.** -/
theorem wp_region_j {P : Program} {l : List Oper} {a : Act} {w : World} {id : Nat} {Q : Exit → Act → World → Prop} (hm : P.follows .mixedOrders = true) (n0 n : Nat) (hB : okB n0 n l = true) (K : World → Prop) (V : Nat → (Nat → Value) → World → Prop) (D : (Nat → Bool) → (Nat → Value) → World → Prop) (hK : K w.drew)
    (hD0 : ∀ vm, D (fun _ => false) vm w.drew) (hDc : ∀ S vm vm' w, (∀ j, n0 ≤ j → vm j = vm' j) → D S vm w → D S vm' w)
    (hVd : ∀ j vm vm' w, n0 ≤ j → j < n → (∀ k, k = j ∨ dep l j k = true → vm k = vm' k) → V j vm w → V j vm' w)
    (h : wpHead P K (fun A => (midAll (fun i o => ∀ (S : Nat → Bool) (vm : Nat → Value) w, K w → S i = false → (∀ j, n0 ≤ j → j < n → depO o j = true → S j = true) → (∀ j, n0 ≤ j → j < n → S j = true → V j vm w) → D S vm w → Gives P o (putAll ((l.drop n0).take (n - n0)) n0 vm A) w (fun v w' => V i (upd vm i v) w' ∧ K w' ∧ (∀ j, n0 ≤ j → j < n → j ≠ i → S j = true → V j vm w → V j vm w') ∧ D (also S i) (upd vm i v) w')) ((l.drop n0).take (n - n0)) n0) ∧
      (∀ (S : Nat → Bool) (vm : Nat → Value) w, K w → (∀ j, n0 ≤ j → j < n → S j = true) → (∀ j, n0 ≤ j → j < n → V j vm w) → D S vm w → wpList P l.toArray Q (l.drop n) (putAll ((l.drop n0).take (n - n0)) n0 vm A) w)) (l.take n0) a) : (Code.region id l.toArray true).wp P Q a w := by
  have ok := Ok.of hB
  obtain ⟨A, u, hr, hA, hmid, htail⟩ := run_of_head _ _ h
  have hlen : (l.take n0).length = n0 := by simp; have := ok.lt; have := ok.le; omega
  rw [hlen] at hmid htail
  have hmid := fun i o (h1 : n0 ≤ i) (h2 : i < n) (ho : l[i]? = some o) => (by
    have := midAll_at _ _ hmid (i - n0) o (by rw [List.getElem?_take, if_pos (by omega), List.getElem?_drop, show n0 + (i - n0) = i by omega]; exact ho)
    rw [show n0 + (i - n0) = i by omega] at this
    exact fun S vm w hK hi hS hV hD => this S vm w hK hi (fun j h1 h2 hd => hS j h1 h2 (by unfold dep; rw [ho]; exact hd)) hV hD : ∀ (S : Nat → Bool) (vm : Nat → Value) w, K w → S i = false → (∀ j, n0 ≤ j → j < n → dep l i j = true → S j = true) → (∀ j, n0 ≤ j → j < n → S j = true → V j vm w) → D S vm w → Gives P o (putAll ((l.drop n0).take (n - n0)) n0 vm (A n0)) w (fun v w' => V i (upd vm i v) w' ∧ K w' ∧ (∀ j, n0 ≤ j → j < n → j ≠ i → S j = true → V j vm w → V j vm w') ∧ D (also S i) (upd vm i v) w'))
  refine wp_region_any hm ?_
  have hinv : Inv l n0 n u V D K (A 0) (Array.replicate l.toArray.size false) a w.drew := by
    refine ⟨⟨by simp, fun j oj _ hl => (by rw [getD_replicate_false] at hl; cases hl), fun t _ ht => getD_in (by simpa using ht) (getD_replicate_false _ _)⟩, ⟨fun _ => undef, ?_, fun j _ _ hl => (by rw [getD_replicate_false] at hl; cases hl), ?_⟩, hK⟩
    · rw [hA]
      exact Rp.Shape.start.congr fun j o _ => by rw [getD_replicate_false]
    · have e : done n0 (Array.replicate l.toArray.size false) = fun _ => false := funext fun j => by unfold done; rw [getD_replicate_false]; simp
      rw [e]
      exact hD0 _
  have := all_ (Q := Q) hr ok hDc hVd hmid htail n _ _ _ hinv (unl_none n _ fun i _ => getD_replicate_false _ _)
  rw [show n + (l.length - n) = l.toArray.size by have := ok.lt; simp; omega] at this
  exact this
end Rj
