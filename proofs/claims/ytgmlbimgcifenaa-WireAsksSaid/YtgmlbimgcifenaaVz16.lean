/-
Several texts in one: Af Ag Ah Ai Aj Ak.
-/
import Derived.Test.YtgmlbimgcifenaaVz15
set_option maxRecDepth 100000
set_option maxHeartbeats 8000000
set_option linter.unusedVariables false
set_option linter.unusedSimpArgs false
namespace Ms
open Im Go.Proofs.Ytgmlbimgcifenaa
def rdC (c : Int) : M × List Int → Option (M × List Int) :=
  if c = 115 then rd_slot else if c = 103 then rd_gen else if c = 102 then rd_frame else if c = 99 then rd_code else if c = 110 then rd_n else if c = 111 then rd_of else if c = 98 then rd_bits else if c = 109 then rd_sum else if c = 105 then rdIns else if c = 108 then rdLog else rdData
def foldR : List Int → M × List Int → Option (M × List Int)
  | [], q => some q
  | c :: cs, q => (rdC c q).bind (foldR cs)
theorem foldR_snoc (c : Int) : ∀ (cs : List Int) (q : M × List Int), foldR (cs ++ [c]) q = (foldR cs q).bind (rdC c)
  | [], q => by
    show (rdC c q).bind (fun q => some q) = rdC c q
    cases rdC c q <;> rfl
  | d :: cs, q => by
    show (rdC d q).bind (foldR (cs ++ [c])) = ((rdC d q).bind (foldR cs)).bind (rdC c)
    cases rdC d q with
    | none => rfl
    | some r => exact foldR_snoc c cs r
def allC : List Int := [115, 103, 102, 99, 110, 111, 98, 109, 105, 108, 100]
theorem decParts_fold (q : M × List Int) : decParts q = foldR allC q := by
  have e : ∀ q : M × List Int, rdData q = (rdData q).bind (fun q => some q) := fun q => by cases rdData q <;> rfl
  show _ = (rd_slot q).bind fun q => (rd_gen q).bind fun q => (rd_frame q).bind fun q => (rd_code q).bind fun q => (rd_n q).bind fun q => (rd_of q).bind fun q => (rd_bits q).bind fun q => (rd_sum q).bind fun q => (rdIns q).bind fun q => (rdLog q).bind fun q => (rdData q).bind (fun q => some q)
  unfold decParts
  simp only [← e]
theorem rdN_kind {c : Int} {n : Nat} {set : M → Int → M} {q q' : M × List Int} (h : rdN c n set q = some q') (hs : ∀ m y, (set m y).kind = m.kind) : q'.1.kind = q.1.kind := by
  unfold rdN at h
  split at h
  · obtain ⟨a, _, h2⟩ := Option.bind_eq_some_iff.1 h
    injection h2 with h2
    subst h2
    exact hs _ _
  · injection h with h
    subst h
    rfl
theorem rdIns_kind {q q' : M × List Int} (h : rdIns q = some q') : q'.1.kind = q.1.kind := by
  unfold rdIns at h
  split at h
  · obtain ⟨a, _, h2⟩ := Option.bind_eq_some_iff.1 h
    injection h2 with h2
    subst h2
    rfl
  · injection h with h
    subst h
    rfl
theorem rdLog_kind {q q' : M × List Int} (h : rdLog q = some q') : q'.1.kind = q.1.kind := by
  unfold rdLog at h
  split at h
  · obtain ⟨a, _, h2⟩ := Option.bind_eq_some_iff.1 h
    injection h2 with h2
    subst h2
    rfl
  · injection h with h
    subst h
    rfl
theorem rdData_kind {q q' : M × List Int} (h : rdData q = some q') : q'.1.kind = q.1.kind := by
  unfold rdData at h
  split at h
  · obtain ⟨a, _, h2⟩ := Option.bind_eq_some_iff.1 h
    injection h2 with h2
    subst h2
    rfl
  · injection h with h
    subst h
    rfl
theorem allC_cases {Q : Int → Prop} (h : Q 115 ∧ Q 103 ∧ Q 102 ∧ Q 99 ∧ Q 110 ∧ Q 111 ∧ Q 98 ∧ Q 109 ∧ Q 105 ∧ Q 108 ∧ Q 100) {c : Int} (hc : c ∈ allC) : Q c := by
  obtain ⟨h1, h2, h3, h4, h5, h6, h7, h8, h9, h10, h11⟩ := h
  simp only [allC, List.mem_cons, List.not_mem_nil, or_false] at hc
  rcases hc with rfl | rfl | rfl | rfl | rfl | rfl | rfl | rfl | rfl | rfl | rfl <;> assumption
theorem rdC_kind {c : Int} (hc : c ∈ allC) : ∀ {q q' : M × List Int}, rdC c q = some q' → q'.1.kind = q.1.kind :=
  allC_cases (Q := fun c => ∀ {q q' : M × List Int}, rdC c q = some q' → q'.1.kind = q.1.kind)
    ⟨fun h => rdN_kind (show rd_slot _ = some _ from h) (fun _ _ => rfl), fun h => rdN_kind (show rd_gen _ = some _ from h) (fun _ _ => rfl), fun h => rdN_kind (show rd_frame _ = some _ from h) (fun _ _ => rfl), fun h => rdN_kind (show rd_code _ = some _ from h) (fun _ _ => rfl), fun h => rdN_kind (show rd_n _ = some _ from h) (fun _ _ => rfl), fun h => rdN_kind (show rd_of _ = some _ from h) (fun _ _ => rfl), fun h => rdN_kind (show rd_bits _ = some _ from h) (fun _ _ => rfl), fun h => rdN_kind (show rd_sum _ = some _ from h) (fun _ _ => rfl), fun h => rdIns_kind h, fun h => rdLog_kind h, fun h => rdData_kind h⟩ hc
theorem rdC_skip {c : Int} (hc : c ∈ allC) : ∀ {q : M × List Int}, (has q.1.kind).contains c = false → rdC c q = some q :=
  allC_cases (Q := fun c => ∀ {q : M × List Int}, (has q.1.kind).contains c = false → rdC c q = some q)
    ⟨fun h => if_neg (by rw [h]; decide), fun h => if_neg (by rw [h]; decide), fun h => if_neg (by rw [h]; decide), fun h => if_neg (by rw [h]; decide), fun h => if_neg (by rw [h]; decide), fun h => if_neg (by rw [h]; decide), fun h => if_neg (by rw [h]; decide), fun h => if_neg (by rw [h]; decide), fun h => if_neg (by rw [h]; decide), fun h => if_neg (by rw [h]; decide), fun h => if_neg (by rw [h]; decide)⟩ hc
theorem foldR_filter : ∀ (cs : List Int), (∀ c ∈ cs, c ∈ allC) → ∀ q : M × List Int, foldR cs q = foldR (cs.filter fun c => (has q.1.kind).contains c) q
  | [], _, q => rfl
  | c :: cs, hc, q => by
    have hcs : ∀ d ∈ cs, d ∈ allC := fun d hd => hc d (List.mem_cons_of_mem _ hd)
    have h0 := hc c List.mem_cons_self
    cases hk : (has q.1.kind).contains c with
    | true =>
      rw [List.filter_cons_of_pos (by exact hk)]
      show (rdC c q).bind (foldR cs) = (rdC c q).bind (foldR _)
      cases hr : rdC c q with
      | none => rfl
      | some r =>
        show foldR cs r = foldR _ r
        rw [foldR_filter cs hcs r, rdC_kind h0 hr]
    | false =>
      rw [List.filter_cons_of_neg (by rw [hk]; decide)]
      show (rdC c q).bind (foldR cs) = _
      rw [rdC_skip h0 hk]
      exact foldR_filter cs hcs q
theorem has_filter (k : Int) : (allC.filter fun c => (has k).contains c) = has k :=
  has_cases (Q := fun l => (allC.filter fun c => l.contains c) = l) k (by decide) (by decide) (by decide) (by decide) (by decide) (by decide) (by decide) (by decide) (by decide) (by decide)
theorem decParts_has (q : M × List Int) : decParts q = foldR (has q.1.kind) q := by
  rw [decParts_fold, foldR_filter allC (fun _ h => h) q, has_filter]
theorem has_all (k : Int) : ∀ c ∈ has k, c ∈ allC := has_cases (Q := fun l => ∀ c ∈ l, c ∈ allC) k (by decide) (by decide) (by decide) (by decide) (by decide) (by decide) (by decide) (by decide) (by decide) (by decide)
theorem has_last (k : Int) : ∀ j, j < 5 → j + 1 < (has k).length → (has k).getD j 0 ≠ 105 ∧ (has k).getD j 0 ≠ 108 ∧ (has k).getD j 0 ≠ 100 := has_cases (Q := fun l => ∀ j, j < 5 → j + 1 < l.length → l.getD j 0 ≠ 105 ∧ l.getD j 0 ≠ 108 ∧ l.getD j 0 ≠ 100) k (by decide) (by decide) (by decide) (by decide) (by decide) (by decide) (by decide) (by decide) (by decide) (by decide)
def StepR (c : Int) (m : M) (o : Option (List Int)) (m' : M) (o' : Option (List Int)) : Prop := m'.kind = m.kind ∧ (o = none → o' = none) ∧ ∀ l, o = some l → rdC c (plain m, l) = o'.map fun r => (plain m', r)
theorem rdN_step {c : Int} {n : Nat} {set : M → Int → M} {m : M} (hc : (has m.kind).contains c = true) (hs : ∀ y, plain (set m y) = set (plain m) y) (l : List Int) : rdN c n set (plain m, l) = (Sx.rest n (some l)).map fun r => (plain (set m (Sx.num n (some l))), r) := by
  unfold rdN
  rw [if_pos (show (has (plain m).kind).contains c = true from hc), Sx.rdn_num n l]
  cases Sx.rest n (some l) with
  | none => rfl
  | some r => simp only [Option.map_some, Option.bind_some]; rw [hs]
theorem num_step {c : Int} {n : Nat} {set : M → Int → M} {m : M} {o : Option (List Int)} (hd : rdC c = rdN c n set) (hc : (has m.kind).contains c = true) (hk : ∀ y, (set m y).kind = m.kind) (hs : ∀ y, plain (set m y) = set (plain m) y) : StepR c m o (set m (Sx.num n o)) (Sx.rest n o) :=
  ⟨hk _, fun h => by rw [h]; rfl, fun l h => by rw [h, hd]; exact rdN_step hc hs l⟩
theorem ins_step {m : M} {o : Option (List Int)} (hc : (has m.kind).contains 105 = true) {k : Nat} (hk : k ≤ (Sx.num 1 o).toNat) (hend : k = (Sx.num 1 o).toNat ∨ (insAt (Sx.rest 1 o) k).2 = none) : StepR 105 m o { m with ins := (insAt (Sx.rest 1 o) k).1 } (insAt (Sx.rest 1 o) k).2 := by
  refine ⟨rfl, fun h => ?_, fun l h => ?_⟩
  · rw [h, Sx.insAt_it]; exact it_none rfl k
  · subst h
    show rdIns (plain m, l) = _
    unfold rdIns decL
    rw [if_pos (show (has (plain m).kind).contains 105 = true from hc), Sx.rdn_num 1 l]
    rw [Sx.insAt_it] at hend ⊢
    cases hr : Sx.rest 1 (some l) with
    | none =>
      rw [hr] at hend
      rw [it_none rfl k]
      rfl
    | some r =>
      rw [hr] at hend
      simp only [Option.map_some, Option.bind_some]
      rw [it_all (f := Sx.inp) (g := Sx.inRest) rfl Sx.ins_dec hk hend]
      cases (itAt Sx.inp Sx.inRest (some r) k).2 <;> rfl
theorem log_step {m : M} {o : Option (List Int)} (hc : (has m.kind).contains 108 = true) {k : Nat} {L : List En.S} (hL : L.map (·.e) = (Sx.logAt (Sx.rest 1 o) k).1) (hk : k ≤ (Sx.num 1 o).toNat) (hend : k = (Sx.num 1 o).toNat ∨ (Sx.logAt (Sx.rest 1 o) k).2 = none) : StepR 108 m o { m with log := L } (Sx.logAt (Sx.rest 1 o) k).2 := by
  refine ⟨rfl, fun h => ?_, fun l h => ?_⟩
  · rw [h]; exact it_none Sx.log_none k
  · subst h
    show rdLog (plain m, l) = _
    unfold rdLog decL
    rw [if_pos (show (has (plain m).kind).contains 108 = true from hc), Sx.rdn_num 1 l]
    have hp : plain { m with log := L } = { plain m with log := (Sx.logAt (Sx.rest 1 (some l)) k).1.map fun e => ⟨e, none, 0⟩ } := by
      unfold plain
      dsimp only
      rw [← hL, List.map_map]
      rfl
    rw [hp]
    unfold Sx.logAt at hend ⊢
    cases hr : Sx.rest 1 (some l) with
    | none =>
      rw [hr] at hend
      rw [it_none Sx.log_none k]
      rfl
    | some r =>
      rw [hr] at hend
      simp only [Option.map_some, Option.bind_some]
      rw [it_all (f := Sx.logEnt) (g := Sx.logRest) Sx.log_none Sx.log_dec hk hend]
      cases (itAt Sx.logEnt Sx.logRest (some r) k).2 <;> rfl
theorem data_step {m : M} {o : Option (List Int)} (hc : (has m.kind).contains 100 = true) : StepR 100 m o { m with data := Sx.some' (Sx.num 1 o).toNat (Sx.rest 1 o) } (Sx.after (Sx.num 1 o).toNat (Sx.rest 1 o)) := by
  refine ⟨rfl, fun h => by rw [h]; rfl, fun l h => ?_⟩
  subst h
  show rdData (plain m, l) = _
  unfold rdData
  rw [if_pos (show (has (plain m).kind).contains 100 = true from hc), Sx.data_dec l]
  cases Sx.after (Sx.num 1 (some l)).toNat (Sx.rest 1 (some l)) <;> rfl
def AtR (m0 : M) (o0 : Option (List Int)) (cs : List Int) (m : M) (o : Option (List Int)) : Prop := m.kind = m0.kind ∧ (o0.bind fun l => foldR cs (plain m0, l)) = o.map fun r => (plain m, r)
theorem AtR.start (m0 : M) (o0 : Option (List Int)) : AtR m0 o0 [] m0 o0 := ⟨rfl, by cases o0 <;> rfl⟩
theorem AtR.next {m0 m m' : M} {o0 o o' : Option (List Int)} {cs : List Int} {c : Int} (h : AtR m0 o0 cs m o) (hs : StepR c m o m' o') : AtR m0 o0 (cs ++ [c]) m' o' := by
  obtain ⟨h1, h2⟩ := h
  obtain ⟨s1, s2, s3⟩ := hs
  refine ⟨s1.trans h1, ?_⟩
  have e : (o0.bind fun l => foldR (cs ++ [c]) (plain m0, l)) = (o0.bind fun l => foldR cs (plain m0, l)).bind (rdC c) := by
    cases o0 with
    | none => rfl
    | some l => exact foldR_snoc c cs _
  rw [e, h2]
  cases o with
  | none => rw [s2 rfl]; rfl
  | some l => exact s3 l rfl
def o5 (l : List Int) : Option (List Int) := Sx.rest 4 (Sx.rest 2 (Sx.rest 2 (Sx.rest 1 (Sx.rest 1 (some l)))))
def m5 (l : List Int) : M := start (Sx.num 1 (some l)) (Sx.num 1 (Sx.rest 1 (some l))) (Sx.num 2 (Sx.rest 1 (Sx.rest 1 (some l)))) (Sx.num 2 (Sx.rest 2 (Sx.rest 1 (Sx.rest 1 (some l))))) (Sx.num 4 (Sx.rest 2 (Sx.rest 2 (Sx.rest 1 (Sx.rest 1 (some l))))))
theorem decMsg_head (l : List Int) : decMsg l = (o5 l).bind fun r => if isKind (m5 l).kind then decParts (m5 l, r) else none := by
  unfold decMsg o5 m5
  rw [Sx.rdn_num 1 l]
  cases Sx.rest 1 (some l) with
  | none => rfl
  | some r1 =>
    simp only [Option.map_some, Option.bind_some]
    rw [Sx.rdn_num 1 r1]
    cases Sx.rest 1 (some r1) with
    | none => rfl
    | some r2 =>
      simp only [Option.map_some, Option.bind_some]
      rw [Sx.rdn_num 2 r2]
      cases Sx.rest 2 (some r2) with
      | none => rfl
      | some r3 =>
        simp only [Option.map_some, Option.bind_some]
        rw [Sx.rdn_num 2 r3]
        cases Sx.rest 2 (some r3) with
        | none => rfl
        | some r4 =>
          simp only [Option.map_some, Option.bind_some]
          rw [Sx.rdn_num 4 r4]
          cases Sx.rest 4 (some r4) with
          | none => rfl
          | some r5 => rfl
theorem ok_isKind {m : M} (h : Ok m) : isKind m.kind = true := by
  have := h.n1
  unfold no1 at this
  unfold isKind
  simp at this
  simp
  omega
theorem AtR.done {l : List Int} {m : M} {o : Option (List Int)} (h : AtR (m5 l) (o5 l) (has (m5 l).kind) m o) : getM l = if Sx.ended o = true ∧ okB m = true then some (plain m) else none := by
  obtain ⟨h1, h2⟩ := h
  have h3 : decMsg l = if isKind m.kind then o.map (fun r => (plain m, r)) else none := by
    rw [decMsg_head, h1]
    cases hk : isKind (m5 l).kind with
    | false => cases o5 l <;> rfl
    | true =>
      simp only [if_true]
      rw [← h2]
      cases o5 l with
      | none => rfl
      | some r => exact decParts_has _
  unfold getM
  rw [h3]
  cases hk : isKind m.kind with
  | false =>
    have hn : ¬ okB m = true := fun ho => by rw [ok_isKind (okB_iff.1 ho)] at hk; cases hk
    have hc : ¬ (Sx.ended o = true ∧ okB m = true) := fun h => hn h.2
    rw [if_neg hc]
    rfl
  | true =>
    simp only [if_true]
    cases o with
    | none => rw [if_neg (fun h => by have := h.1; cases this)]; rfl
    | some r =>
      cases r with
      | cons x xs => rw [if_neg (fun h => by have := h.1; cases this)]; rfl
      | nil =>
        show (if ([] : List Int) = [] then (if okB (plain m) then some (plain m) else none) else none) = _
        rw [if_pos rfl, plain_ok]
        cases okB m <;> rfl
end Ms
namespace Go.Proofs.Ytgmlbimgcifenaa
open Go.RowKit Go.Shelf
def NoList (q : Ms.S) : Prop := Ms.NI q ∧ Ms.NL q ∧ Ms.ND q
structure RowsM (b : Nat) (q : Ms.S) (X : World) : Prop where
  ins : q.m.ins = [] ∨ ∃ base, X.ownsRow base 50 3 (.slice q.ai q.m.ins.length q.ci) q.m.ins.length (Gm.inCells q.m.ins)
  log : q.m.log = [] ∨ ∃ base, X.ownsRow base 53 26 (.slice q.al q.m.log.length q.cl) q.m.log.length (En.sCells q.m.log)
  ents : ∀ s ∈ q.m.log, EvR s X ∧ s.e.evs.length ≤ 16
  data : q.m.data = [] ∨ ∃ S, b ≤ S ∧ q.ad = some ⟨S, 0, none⟩ ∧ Lies X X.heap.size 1 (some ⟨S, 0, none⟩) q.m.data.length (Im.u8s q.m.data)
  few : q.m.ins.length ≤ 255 ∧ q.m.log.length ≤ 255 ∧ q.m.data.length ≤ 255
theorem NoList.rows {q : Ms.S} (h : NoList q) (b : Nat) (X : World) : RowsM b q X := by
  obtain ⟨⟨_, _, h1⟩, ⟨_, _, h2⟩, ⟨_, _, h3⟩⟩ := h
  exact ⟨.inl h1, .inl h2, fun s hs => (by rw [h2] at hs; cases hs), .inl h3, by rw [h1, h2, h3]; decide⟩
section
variable {b : Nat} {q : Ms.S} {X X' : World}
theorem RowsM.lies (h : RowsM b q X) : LiesM X X.heap.size q := by
  obtain ⟨h1, h2, h3, h4, f1, f2, f3⟩ := h
  refine ⟨?_, ⟨?_, fun s hs => (h3 s hs).1.lies, fun s hs => ?_⟩, ?_, ?_, ?_, ?_⟩
  · rcases h1 with h | ⟨base, h⟩
    · rw [h]; exact Lies.empty
    · exact Lies.owned h
  · rcases h2 with h | ⟨base, h⟩
    · rw [h]; exact Lies.empty
    · exact Lies.owned h
  · have := (h3 s hs).2; unfold maxLen; omega
  · rcases h4 with h | ⟨S, _, e, h⟩
    · rw [h]; exact Lies.empty
    · rw [e]; exact h
  · unfold maxLen; omega
  · unfold maxLen; omega
  · unfold maxLen; omega
theorem RowsM.below (h : RowsM b q X) (hb : Below X.heap.size X X') : RowsM b q X' := by
  obtain ⟨h1, h2, h3, h4, hf⟩ := h
  refine ⟨h1.imp id fun ⟨base, h⟩ => ⟨base, own_below h hb (Nat.le_refl _)⟩, h2.imp id fun ⟨base, h⟩ => ⟨base, own_below h hb (Nat.le_refl _)⟩, fun s hs => ⟨(h3 s hs).1.keep fun g cs k => k.below hb k.lt, (h3 s hs).2⟩, h4.imp id fun ⟨S, h, e, hl⟩ => ⟨S, h, e, (hl.below hb).wider hb.size⟩, hf⟩
theorem RowsM.row {M : Nat} {cs : Array Value} (h : RowsM b q X) (hM : Box X M 29 cs) (hlt : M < b) (cs' : Array Value) : RowsM b q (X.setRow M cs') := by
  obtain ⟨h1, h2, h3, h4, hf⟩ := h
  have hz := (Below.setRow' (g := M) (Below.refl 0 X) (Nat.zero_le _) cs').size
  exact ⟨h1.imp id fun ⟨base, h⟩ => ⟨base, own_setRow h (hM.unowned h (by decide)) _⟩, h2.imp id fun ⟨base, h⟩ => ⟨base, own_setRow h (hM.unowned h (by decide)) _⟩, fun s hs => ⟨(h3 s hs).1.keep fun g cs k => k.row_far (Box.apart k hM (by decide)) _, (h3 s hs).2⟩, h4.imp id fun ⟨S, h, e, hl⟩ => ⟨S, h, e, (hl.row1 (by omega) _).wider hz⟩, hf⟩
theorem RowsM.lower {b' : Nat} (h : RowsM b q X) (hb : b' ≤ b) : RowsM b' q X := ⟨h.ins, h.log, h.ents, h.data.imp id fun ⟨S, h, r⟩ => ⟨S, by omega, r⟩, h.few⟩
end
def SaysRead (B : Nat) (c : Int) (q : Ms.S) (o : Option (List Int)) (w : World) (e : Ending) (w' : World) : Prop := ∃ (q' : Ms.S) (o' : Option (List Int)), ReadTo B q' o' w e w' ∧ Ms.StepR c q.m o q'.m o' ∧ (∀ l, o' = some l → Im.IsBytes l) ∧ Ms.Ty q'.m ∧ RowsM w.heap.size q' w' ∧ (c ≠ 105 → c ≠ 108 → c ≠ 100 → NoList q')
theorem num_ty {n : Nat} {o : Option (List Int)} (hn : n ≤ 7) (h : ∀ l, o = some l → Im.IsBytes l) : En.i64 (Sx.num n o) := by
  have hb := Sx.num_lt (n := n) h
  have h8 : n = 0 ∨ n = 1 ∨ n = 2 ∨ n = 3 ∨ n = 4 ∨ n = 5 ∨ n = 6 ∨ n = 7 := by omega
  unfold En.i64
  rcases h8 with rfl | rfl | rfl | rfl | rfl | rfl | rfl | rfl <;> (simp only [Nat.reduceMul, Int.reducePow] at hb; omega)
theorem insAt_ty {o : Option (List Int)} (h : ∀ l, o = some l → Im.IsBytes l) : ∀ k, ∀ p ∈ (Ms.insAt o k).1, Gm.tyIn p
  | 0, p, hp => by cases hp
  | k + 1, p, hp => by
    rcases List.mem_append.1 hp with hp | hp
    · exact insAt_ty h k p hp
    · obtain rfl := List.mem_singleton.1 hp
      have hb := insAt_bytes h k
      have hn := Sx.num_lt (n := 1) (Sx.rest_bytes (n := 1) (Sx.rest_bytes (n := 1) hb))
      simp only [Nat.reduceMul, Int.reducePow] at hn
      unfold Gm.tyIn Sx.inp
      dsimp only
      rw [Im.wrap_i8, Im.wrap_i8]
      omega
theorem logAt_ty {o : Option (List Int)} (h : ∀ l, o = some l → Im.IsBytes l) : ∀ k, ∀ e ∈ (Sx.logAt o k).1, En.Ty e
  | 0, p, hp => by cases hp
  | k + 1, p, hp => by
    rcases List.mem_append.1 hp with hp | hp
    · exact logAt_ty h k p hp
    · obtain rfl := List.mem_singleton.1 hp
      have hb := Sx.logAt_bytes h k
      have hs : Im.IsBytes (Sx.logS (Sx.logAt o k).2) := Sx.some_bytes (Sx.rest_bytes hb)
      show En.Ty (Sx.logEnt (Sx.logAt o k).2)
      unfold Sx.logEnt
      cases hg : En.get (Sx.logS (Sx.logAt o k).2) with
      | none => exact ⟨⟨by decide, by decide⟩, (fun v hv => absurd hv List.not_mem_nil), fun j hj => (by show Gm.tyIn ⟨0, 0, 0⟩; unfold Gm.tyIn; decide)⟩
      | some e => exact (En.get_some hs hg).2.1
theorem some_len {n : Nat} {o : Option (List Int)} : (Sx.some' n o).length ≤ n := by
  cases o with
  | none => exact Nat.zero_le _
  | some l =>
    unfold Sx.some'
    dsimp only
    split
    · rw [List.length_take]; omega
    · exact Nat.zero_le _
theorem refread_any (c : Int) (q : Ms.S) (hq : NoList q) (hT : Ms.Ty q.m) (hc : (Ms.has q.m.kind).contains c = true) (o : Option (List Int)) (B : Nat) (w : World) (hB : ∀ l, o = some l → Im.IsBytes l) (h : RIs w B o) :
    Calls Try.prog 44 #[.agg q.cells, .pointer (some ⟨B, 0, none⟩), .int .u8 c] w (SaysRead B c q o w) := by
  obtain ⟨q1, q2, q3⟩ := hq
  have hca : c ∈ Ms.allC := Ms.has_all q.m.kind c (List.contains_iff_mem.1 hc)
  revert hc
  refine Ms.allC_cases (Q := fun c => (Ms.has q.m.kind).contains c = true → Calls Try.prog 44 #[.agg q.cells, .pointer (some ⟨B, 0, none⟩), .int .u8 c] w (SaysRead B c q o w)) ⟨?_, ?_, ?_, ?_, ?_, ?_, ?_, ?_, ?_, ?_, ?_⟩ hca
  · intro hc
    refine (refread_slot q o B w hB h).mono fun e w' hr => ?_
    exact ⟨_, _, hr, Ms.num_step (set := fun m y => { m with slot := y }) (n := 1) rfl hc (fun _ => rfl) (fun _ => rfl), Sx.rest_bytes hB, { hT with slot := num_ty (by decide) hB }, (by exact NoList.rows (by exact ⟨q1, q2, q3⟩) _ _), fun _ _ _ => ⟨q1, q2, q3⟩⟩
  · intro hc
    refine (refread_gen q o B w hB h).mono fun e w' hr => ?_
    exact ⟨_, _, hr, Ms.num_step (set := fun m y => { m with gen := y }) (n := 2) rfl hc (fun _ => rfl) (fun _ => rfl), Sx.rest_bytes hB, { hT with gen := num_ty (by decide) hB }, (by exact NoList.rows (by exact ⟨q1, q2, q3⟩) _ _), fun _ _ _ => ⟨q1, q2, q3⟩⟩
  · intro hc
    refine (refread_frame q o B w hB h).mono fun e w' hr => ?_
    exact ⟨_, _, hr, Ms.num_step (set := fun m y => { m with frame := y }) (n := 4) rfl hc (fun _ => rfl) (fun _ => rfl), Sx.rest_bytes hB, { hT with frame := num_ty (by decide) hB }, (by exact NoList.rows (by exact ⟨q1, q2, q3⟩) _ _), fun _ _ _ => ⟨q1, q2, q3⟩⟩
  · intro hc
    refine (refread_code q o B w hB h).mono fun e w' hr => ?_
    exact ⟨_, _, hr, Ms.num_step (set := fun m y => { m with code := y }) (n := 1) rfl hc (fun _ => rfl) (fun _ => rfl), Sx.rest_bytes hB, { hT with code := num_ty (by decide) hB }, (by exact NoList.rows (by exact ⟨q1, q2, q3⟩) _ _), fun _ _ _ => ⟨q1, q2, q3⟩⟩
  · intro hc
    refine (refread_n q o B w hB h).mono fun e w' hr => ?_
    exact ⟨_, _, hr, Ms.num_step (set := fun m y => { m with n := y }) (n := 2) rfl hc (fun _ => rfl) (fun _ => rfl), Sx.rest_bytes hB, { hT with n := num_ty (by decide) hB }, (by exact NoList.rows (by exact ⟨q1, q2, q3⟩) _ _), fun _ _ _ => ⟨q1, q2, q3⟩⟩
  · intro hc
    refine (refread_of q o B w hB h).mono fun e w' hr => ?_
    exact ⟨_, _, hr, Ms.num_step (set := fun m y => { m with of := y }) (n := 2) rfl hc (fun _ => rfl) (fun _ => rfl), Sx.rest_bytes hB, { hT with of := num_ty (by decide) hB }, (by exact NoList.rows (by exact ⟨q1, q2, q3⟩) _ _), fun _ _ _ => ⟨q1, q2, q3⟩⟩
  · intro hc
    refine (refread_bits q o B w hB h).mono fun e w' hr => ?_
    have hb := Sx.num_lt (n := 4) hB
    simp only [Nat.reduceMul, Int.reducePow] at hb
    exact ⟨_, _, hr, Ms.num_step (set := fun m y => { m with bits := y }) (n := 4) rfl hc (fun _ => rfl) (fun _ => rfl), Sx.rest_bytes hB, { hT with bits := by dsimp only; omega }, (by exact NoList.rows (by exact ⟨q1, q2, q3⟩) _ _), fun _ _ _ => ⟨q1, q2, q3⟩⟩
  · intro hc
    refine (refread_sum q o B w hB h).mono fun e w' hr => ?_
    have hb := Sx.num_lt (n := 8) hB
    simp only [Nat.reduceMul, Int.reducePow] at hb
    exact ⟨_, _, hr, Ms.num_step (set := fun m y => { m with sum := y }) (n := 8) rfl hc (fun _ => rfl) (fun _ => rfl), Sx.rest_bytes hB, { hT with sum := by dsimp only; omega }, (by exact NoList.rows (by exact ⟨q1, q2, q3⟩) _ _), fun _ _ _ => ⟨q1, q2, q3⟩⟩
  · intro hc
    refine (refread_ins q q1 o B w hB h).mono ?_
    rintro e w' ⟨k, A, c2, hk, hend, hr, hO⟩
    have nb := Sx.num_lt (n := 1) hB
    simp only [Nat.reduceMul, Int.reducePow] at nb
    have hl := Ms.insAt_len (Sx.rest 1 o) k
    have hb1 := Sx.rest_bytes (n := 1) hB
    refine ⟨_, _, hr, Ms.ins_step hc hk hend, insAt_bytes hb1 k, { hT with ins := insAt_ty hb1 k }, ?_, fun h => absurd rfl h⟩
    refine ⟨.inr ⟨w.heap.size, by dsimp only; rw [hl]; exact hO⟩, .inl q2.2.2, (fun s hs => by have h2 : q.m.log = [] := q2.2.2; dsimp only at hs; rw [h2] at hs; cases hs), .inl q3.2.2, ?_⟩
    have h2 : q.m.log = [] := q2.2.2
    have h3 : q.m.data = [] := q3.2.2
    dsimp only
    rw [hl, h2, h3]
    exact ⟨by omega, Nat.zero_le _, Nat.zero_le _⟩
  · intro hc
    refine (refread_log q q2 o B w hB h).mono ?_
    rintro e w' ⟨k, A, c2, L, hk, hend, hr, hes, hl, hO, hev⟩
    have nb := Sx.num_lt (n := 1) hB
    simp only [Nat.reduceMul, Int.reducePow] at nb
    have hb1 := Sx.rest_bytes (n := 1) hB
    refine ⟨_, _, hr, Ms.log_step hc hes hk hend, Sx.logAt_bytes hb1 k, { hT with log := fun s hs => ?_ }, ?_, fun _ h => absurd rfl h⟩
    · exact logAt_ty hb1 k s.e (by rw [← hes]; exact List.mem_map.2 ⟨s, hs, rfl⟩)
    refine ⟨.inl q1.2.2, .inr ⟨w.heap.size, by dsimp only; rw [hl]; exact hO⟩, hev, .inl q3.2.2, ?_⟩
    have h1 : q.m.ins = [] := q1.2.2
    have h3 : q.m.data = [] := q3.2.2
    dsimp only
    rw [hl, h1, h3]
    exact ⟨Nat.zero_le _, by omega, Nat.zero_le _⟩
  · intro hc
    refine (refread_data q o B w hB h).mono ?_
    rintro e w' ⟨S, c2, hr, hS, hL⟩
    have nb := Sx.num_lt (n := 1) hB
    simp only [Nat.reduceMul, Int.reducePow] at nb
    have hb1 := Sx.rest_bytes (n := 1) hB
    refine ⟨_, _, hr, Ms.data_step hc, Sx.after_bytes hb1, { hT with data := Sx.some_bytes hb1 }, ?_, fun _ _ h => absurd rfl h⟩
    refine ⟨.inl q1.2.2, .inl q2.2.2, (fun s hs => by have h2 : q.m.log = [] := q2.2.2; dsimp only at hs; rw [h2] at hs; cases hs), .inr ⟨S, hS, rfl, hL⟩, ?_⟩
    have h1 : q.m.ins = [] := q1.2.2
    have h2 : q.m.log = [] := q2.2.2
    have := some_len (n := (Sx.num 1 o).toNat) (o := Sx.rest 1 o)
    dsimp only
    rw [h1, h2]
    exact ⟨Nat.zero_le _, Nat.zero_le _, by omega⟩
end Go.Proofs.Ytgmlbimgcifenaa
namespace Ms
open Im
theorem sumB_list {l : List Int} (hB : IsBytes l) (h4 : 4 ≤ l.length) : decide (bytesOf 4 ((Crc.sum (l.drop 4) : Nat) : Int) = l.take 4) = sumB l := by
  unfold sumB
  cases h : rdn 4 l with
  | none => unfold rdn at h; rw [if_pos h4] at h; cases h
  | some p =>
    obtain ⟨y, rest⟩ := p
    obtain ⟨e1, y0, y1, b1⟩ := rdn_inv hB h
    have ht : l.take 4 = bytesOf 4 y := by
      rw [e1, List.take_append_of_le_length (by rw [bytesOf_len]; omega), List.take_of_length_le (by rw [bytesOf_len]; omega)]
    have hd : l.drop 4 = rest := by
      rw [e1, List.drop_append_of_le_length (by rw [bytesOf_len]; omega), List.drop_eq_nil_of_le (by rw [bytesOf_len]; omega), List.nil_append]
    rw [ht, hd]
    dsimp only
    have hs := Crc.sum_lt b1
    generalize Crc.sum rest = S at *
    by_cases he : y = ((S : Nat) : Int)
    · rw [he]; simp
    · have hn : ¬ bytesOf 4 ((S : Nat) : Int) = bytesOf 4 y := fun e => by
        have r1 := rdn_bytes 4 ((S : Nat) : Int) []
        have r2 := rdn_bytes 4 y []
        rw [e, r2] at r1
        injection r1 with r1
        injection r1 with r1 _
        simp only [Nat.reduceMul, Int.reducePow] at r1 y1
        omega
      rw [decide_eq_false hn]
      simp [he]
end Ms
namespace Go.Proofs.Ytgmlbimgcifenaa
open Go.RowKit Go.Shelf
theorem refget_short (l : List Int) (w : World) (h4 : l.length < 4) : Calls Try.prog 20 #[.string (strOfNums l)] w (SaysGet l w) := by
  have hs : Ms.sumB l = false := by unfold Ms.sumB; rw [Im.rdn_few (by omega)]
  have hz := strOfNums_size l
  have h8 : ((l.length : Nat) : Int) < 4 := by omega
  have HS := qh hs
  generalize l.length = n at *
  generalize strOfNums l = s at *
  have P0 := qh (Box.made w 29 Ms.zeroM)
  clear hs h4
  go_enter Try.func20, Try.ntmps20
  go_upto_region 1 with (with_reducible refine alloc_msg rfl rfl ?_)
  have KW := qh (one_below w (.cells Ms.zeroM 29))
  generalize w.alloc (.cells Ms.zeroM 29) = W at *
  refine wp_region_ext W.heap.size W (by kernel_rfl) (by kernel_rfl) (Below.refl _ _) ?_
  repeat (first | go_big_quiet_step (fail))
  refine wpQuiet_nil ?_
  intro _ hw'
  obtain ⟨q0, hw''⟩ := hw'
  subst hw''
  have P2 := qh (P0.out.below q0.h P0.out.lt)
  have K2 := qh (KW.out.trans (q0.h.mono KW.out.size))
  generalize q0.w = W2 at *
  go_wp2_with (first | (refine wpList_build_is rfl (t := 29) (vs := []) rfl rfl msg_built ?_) | (refine blk_gate (t := 29) rfl rfl msg_info16 ?_; apply StoreBlk.mk rfl rfl P2.out (msg_one ⟨Ms.start 0 0 0 0 0, none, 0, none, 0, none, 0⟩) rfl rfl))
  have HB := qh (P2.out.row (Ms.S.cells ⟨Ms.start 0 0 0 0 0, none, 0, none, 0, none, 0⟩))
  refine bodyPost_ret (results_cell_tmp rfl _ _ w.heap.size 29 _ _ rfl HB.out Try.underlying29 rfl msg_info16) rfl ?_
  exact Or.inl ⟨HS.out, rfl, Below.setRow' K2.out (Nat.le_refl _) _⟩
theorem refget_bad (l : List Int) (w : World) (hB : Im.IsBytes l) (hl : l.length ≤ maxLen) (h4 : ¬ l.length < 4) (hs : Ms.sumB l = false) : Calls Try.prog 20 #[.string (strOfNums l)] w (SaysGet l w) := by
  have hz := strOfNums_size l
  have h8 : ¬ ((l.length : Nat) : Int) < 4 := by omega
  have h84 : (4 : Int) ≤ ((l.length : Nat) : Int) := by omega
  have HS := qh hs
  have hbd : Im.IsBytes (l.drop 4) := hB.drop 4
  have hsm := Crc.sum_lt hbd
  have hx1 : (strOfNums l).extract 4 l.length = strOfNums (l.drop 4) := by rw [← Sx.str_drop, hz]
  have hx2 : (strOfNums l).extract 0 4 = strOfNums (l.take 4) := Sx.str_take l 4
  have he := (Sx.str_eq_iff (Im.bytesOf_bytes 4 ((Crc.sum (l.drop 4) : Nat) : Int)) (hB.take 4)).trans ((Ms.sumB_list hB (by omega)).trans hs)
  have hw : IntKind.u64.wrap ((Crc.sum (l.drop 4) : Nat) : Int) = ((Crc.sum (l.drop 4) : Nat) : Int) := by rw [IntKind.wrap_u64]; omega
  have ck := fun X => qh (refcheck_any (l.drop 4) X hbd (by rw [List.length_drop]; omega))
  have cn := fun X => qh (refput_num 4 4 ((Crc.sum (l.drop 4) : Nat) : Int) rfl X (by decide) ⟨by omega, by omega⟩)
  generalize strOfNums (Im.bytesOf 4 ((Crc.sum (l.drop 4) : Nat) : Int)) = s3 at *
  generalize strOfNums (l.take 4) = s2 at *
  generalize ((Crc.sum (l.drop 4) : Nat) : Int) = S at *
  generalize strOfNums (l.drop 4) = s1 at *
  generalize l.length = n at *
  generalize strOfNums l = s at *
  have P0 := qh (Box.made w 29 Ms.zeroM)
  have KW := qh (one_below w (.cells Ms.zeroM 29))
  clear hs h4 hbd hsm
  go_enter Try.func20, Try.ntmps20
  go_upto_region 1 with (with_reducible refine alloc_msg rfl rfl ?_)
  generalize w.alloc (.cells Ms.zeroM 29) = W at *
  refine wp_region_ext W.heap.size W (by kernel_rfl) (by kernel_rfl) (Below.refl _ _) ?_
  repeat (first | go_big_quiet_step ((first | (go_at_call 18; with_reducible exact Calls.ext_of (Nat.le_refl _) ((ck _).out.mono fun e w' h => ⟨h.1, h.2 ▸ Below.refl _ _⟩)) | (go_at_call 17; with_reducible exact Calls.ext_of (Nat.le_refl _) (cn _).out))))
  refine wpQuiet_nil ?_
  intro _ hw'
  obtain ⟨q0, hw''⟩ := hw'
  subst hw''
  have P2 := qh (P0.out.below q0.h P0.out.lt)
  have K2 := qh (KW.out.trans (q0.h.mono KW.out.size))
  generalize q0.w = W2 at *
  go_wp2_with (first | (refine wpList_build_is rfl (t := 29) (vs := []) rfl rfl msg_built ?_) | (refine blk_gate (t := 29) rfl rfl msg_info16 ?_; apply StoreBlk.mk rfl rfl P2.out (msg_one ⟨Ms.start 0 0 0 0 0, none, 0, none, 0, none, 0⟩) rfl rfl))
  have HB := qh (P2.out.row (Ms.S.cells ⟨Ms.start 0 0 0 0 0, none, 0, none, 0, none, 0⟩))
  refine bodyPost_ret (results_cell_tmp rfl _ _ w.heap.size 29 _ _ rfl HB.out Try.underlying29 rfl msg_info16) rfl ?_
  exact Or.inl ⟨HS.out, rfl, Below.setRow' K2.out (Nat.le_refl _) _⟩
theorem refget_long (l : List Int) (w : World) (hB : Im.IsBytes l) (hl : l.length ≤ maxLen) (h4 : ¬ l.length < 4) (hs : Ms.sumB l = true) (hlong : ¬ l.length ≤ 1200) : Calls Try.prog 20 #[.string (strOfNums l)] w (SaysGet l w) := by
  have hz := strOfNums_size l
  have h8 : ¬ ((l.length : Nat) : Int) < 4 := by omega
  have h84 : (4 : Int) ≤ ((l.length : Nat) : Int) := by omega
  have HS := qh hs
  have HG := qh (show Ms.getW l = none by unfold Ms.getW; rw [if_neg hlong])
  have h12 : (1200 : Int) < ((l.length : Nat) : Int) := by omega
  have hbd : Im.IsBytes (l.drop 4) := hB.drop 4
  have hsm := Crc.sum_lt hbd
  have hx1 : (strOfNums l).extract 4 l.length = strOfNums (l.drop 4) := by rw [← Sx.str_drop, hz]
  have hx2 : (strOfNums l).extract 0 4 = strOfNums (l.take 4) := Sx.str_take l 4
  have he := (Sx.str_eq_iff (Im.bytesOf_bytes 4 ((Crc.sum (l.drop 4) : Nat) : Int)) (hB.take 4)).trans ((Ms.sumB_list hB (by omega)).trans hs)
  have hw : IntKind.u64.wrap ((Crc.sum (l.drop 4) : Nat) : Int) = ((Crc.sum (l.drop 4) : Nat) : Int) := by rw [IntKind.wrap_u64]; omega
  have ck := fun X => qh (refcheck_any (l.drop 4) X hbd (by rw [List.length_drop]; omega))
  have cn := fun X => qh (refput_num 4 4 ((Crc.sum (l.drop 4) : Nat) : Int) rfl X (by decide) ⟨by omega, by omega⟩)
  generalize strOfNums (Im.bytesOf 4 ((Crc.sum (l.drop 4) : Nat) : Int)) = s3 at *
  generalize strOfNums (l.take 4) = s2 at *
  generalize ((Crc.sum (l.drop 4) : Nat) : Int) = S at *
  generalize strOfNums (l.drop 4) = s1 at *
  generalize l.length = n at *
  generalize strOfNums l = s at *
  have P0 := qh (Box.made w 29 Ms.zeroM)
  have KW := qh (one_below w (.cells Ms.zeroM 29))
  clear hs h4 hlong hbd hsm
  go_enter Try.func20, Try.ntmps20
  go_upto_region 1 with (with_reducible refine alloc_msg rfl rfl ?_)
  generalize w.alloc (.cells Ms.zeroM 29) = W at *
  refine wp_region_ext W.heap.size W (by kernel_rfl) (by kernel_rfl) (Below.refl _ _) ?_
  repeat (first | go_big_quiet_step ((first | (go_at_call 18; with_reducible exact Calls.ext_of (Nat.le_refl _) ((ck _).out.mono fun e w' h => ⟨h.1, h.2 ▸ Below.refl _ _⟩)) | (go_at_call 17; with_reducible exact Calls.ext_of (Nat.le_refl _) (cn _).out))))
  refine wpQuiet_nil ?_
  intro _ hw'
  obtain ⟨q0, hw''⟩ := hw'
  subst hw''
  have P2 := qh (P0.out.below q0.h P0.out.lt)
  have K2 := qh (KW.out.trans (q0.h.mono KW.out.size))
  generalize q0.w = W2 at *
  go_wp2_with (first | (refine wpList_build_is rfl (t := 29) (vs := []) rfl rfl msg_built ?_) | (refine blk_gate (t := 29) rfl rfl msg_info16 ?_; apply StoreBlk.mk rfl rfl P2.out (msg_one ⟨Ms.start 0 0 0 0 0, none, 0, none, 0, none, 0⟩) rfl rfl))
  have HB := qh (P2.out.row (Ms.S.cells ⟨Ms.start 0 0 0 0 0, none, 0, none, 0, none, 0⟩))
  refine bodyPost_ret (results_cell_tmp rfl _ _ w.heap.size 29 _ _ rfl HB.out Try.underlying29 rfl msg_info16) rfl ?_
  exact Or.inr (Or.inl ⟨HS.out, HG.out, rfl, Below.setRow' K2.out (Nat.le_refl _) _⟩)
end Go.Proofs.Ytgmlbimgcifenaa
namespace Go.Proofs.Ytgmlbimgcifenaa
open Go.RowKit Go.Shelf
theorem r_built (s : ByteArray) : Try.prog.built 82 [(0, .string s)] = some #[.string s, .bool false] := by kernel_rfl
theorem start_ty5 {a b c d e : Int} (h1 : 0 ≤ a ∧ a < 256) (h2 : 0 ≤ b ∧ b < 256) (h3 : 0 ≤ c ∧ c < 65536) (h4 : 0 ≤ d ∧ d < 65536) (h5 : 0 ≤ e ∧ e < 4294967296) : Ms.Ty (Ms.start a b c d e) := by
  have z : En.i64 0 := ⟨by decide, by decide⟩
  refine ⟨?_, ?_, ?_, ?_, ?_, z, z, z, z, z, z, (by show (0 : Int) ≤ 0 ∧ (0 : Int) ≤ 4294967295; decide), (by show (0 : Int) ≤ 0 ∧ (0 : Int) ≤ 18446744073709551615; decide), (fun p hp => absurd hp List.not_mem_nil), (fun p hp => absurd hp List.not_mem_nil), (fun p hp => absurd hp List.not_mem_nil)⟩
  · unfold En.i64 Ms.start; dsimp only; omega
  · unfold En.i64 Ms.start; dsimp only; omega
  · unfold Ms.start; dsimp only; omega
  · unfold Ms.start; dsimp only; omega
  · unfold Ms.start; dsimp only; omega
structure GetAt (w : World) (B M : Nat) (m0 : Ms.M) (o0 : Option (List Int)) (j : Nat) (q : Ms.S) (o : Option (List Int)) (X : World) : Prop where
  atr : Ms.AtR m0 o0 ((Ms.has m0.kind).take j) q.m o
  bytes : ∀ r, o = some r → Im.IsBytes r
  rd : RIs X B o
  ty : Ms.Ty q.m
  rows : RowsM (M + 1) q X
  nolist : j < (Ms.has m0.kind).length → NoList q
  box : Box X M 29 q.cells
  res : Box X w.heap.size 29 Ms.zeroM
  keep : Below w.heap.size w X
  ord : w.heap.size < B ∧ B < M
theorem GetAt.call {w X X' : World} {B M j : Nat} {m0 : Ms.M} {o0 o : Option (List Int)} {q : Ms.S} (h : GetAt w B M m0 o0 j q o X) (hb : Below X.heap.size X X') : GetAt w B M m0 o0 j q o X' :=
  ⟨h.atr, h.bytes, h.rd.on hb, h.ty, h.rows.below hb, h.nolist, h.box.below hb h.box.lt, h.res.below hb h.res.lt, h.keep.trans (hb.mono h.keep.size), h.ord⟩
theorem GetAt.step {w X Y : World} {B M j : Nat} {m0 : Ms.M} {o0 o o' : Option (List Int)} {q q' : Ms.S} {c : Int} {e : Ending} (h : GetAt w B M m0 o0 j q o X) (hj : j < (Ms.has m0.kind).length) (hc : c = (Ms.has m0.kind).getD j 0) (hr : ReadTo B q' o' X e Y) (hs : Ms.StepR c q.m o q'.m o') (hb : ∀ l, o' = some l → Im.IsBytes l) (hT : Ms.Ty q'.m) (hR : RowsM X.heap.size q' Y) (hn : c ≠ 105 → c ≠ 108 → c ≠ 100 → NoList q') :
    GetAt w B M m0 o0 (j + 1) q' o' (Y.setRow M q'.cells) := by
  obtain ⟨_, h2, h3⟩ := hr
  have ho := h.ord
  have hM := h.box.sol h3 (by omega)
  have hZ := h.res.sol h3 (by omega)
  have hK := h.keep.trans (h3.below (by omega) h.keep.size)
  have e1 : (Ms.has m0.kind).take (j + 1) = (Ms.has m0.kind).take j ++ [c] := by
    rw [hc, List.take_add_one, List.getD_eq_getElem?_getD, List.getElem?_eq_getElem hj]
    rfl
  refine ⟨by rw [e1]; exact h.atr.next hs, hb, h2.row (by omega) _, hT, (hR.lower (Nat.succ_le_of_lt h.box.lt)).row hM (Nat.lt_succ_self _) _, fun hj2 => ?_, hM.row _, hZ.row_far (by omega) _, Below.setRow' hK (by omega) _, ho⟩
  have h5 := Ms.has_len m0.kind
  obtain ⟨a, b, d⟩ := Ms.has_last m0.kind j (by omega) hj2
  rw [← hc] at a b d
  exact hn a b d
theorem refget_good (l : List Int) (w : World) (hB : Im.IsBytes l) (hl : l.length ≤ maxLen) (h4 : ¬ l.length < 4) (hs : Ms.sumB l = true) (hle : l.length ≤ 1200) : Calls Try.prog 20 #[.string (strOfNums l)] w (SaysGet l w) := by
  have hz := strOfNums_size l
  have h8 : ¬ ((l.length : Nat) : Int) < 4 := by omega
  have h84 : (4 : Int) ≤ ((l.length : Nat) : Int) := by omega
  have HS := qh hs
  have HGW := qh (show Ms.getW l = Ms.getM (l.drop 4) by unfold Ms.getW; rw [if_pos hle])
  have h12 : ¬ (1200 : Int) < ((l.length : Nat) : Int) := by omega
  have hbd : Im.IsBytes (l.drop 4) := hB.drop 4
  have hsm := Crc.sum_lt hbd
  have hb0 : ∀ r, some (l.drop 4) = some r → Im.IsBytes r := fun r hr => by injection hr with hr; subst hr; exact hbd
  have hb1 := Sx.rest_bytes (n := 1) hb0
  have hb2 := Sx.rest_bytes (n := 1) hb1
  have hb3 := Sx.rest_bytes (n := 2) hb2
  have hb4 := Sx.rest_bytes (n := 2) hb3
  have hb5 := Sx.rest_bytes (n := 4) hb4
  have n1 := Sx.num_lt (n := 1) hb0
  have n2 := Sx.num_lt (n := 1) hb1
  have n3 := Sx.num_lt (n := 2) hb2
  have n4 := Sx.num_lt (n := 2) hb3
  have n5 := Sx.num_lt (n := 4) hb4
  simp only [Nat.reduceMul, Int.reducePow] at n1 n2 n3 n4 n5
  have c1 := fun B X hX => qh (rint_any 1 1 rfl (some (l.drop 4)) B X (by decide) hb0 hX)
  have c2 := fun B X hX => qh (rint_any 1 1 rfl (Sx.rest 1 (some (l.drop 4))) B X (by decide) hb1 hX)
  have c3 := fun B X hX => qh (rnum_any 2 2 rfl (Sx.rest 1 (Sx.rest 1 (some (l.drop 4)))) B X (by decide) hb2 hX)
  have c4 := fun B X hX => qh (rnum_any 2 2 rfl (Sx.rest 2 (Sx.rest 1 (Sx.rest 1 (some (l.drop 4))))) B X (by decide) hb3 hX)
  have c5 := fun B X hX => qh (rnum_any 4 4 rfl (Sx.rest 2 (Sx.rest 2 (Sx.rest 1 (Sx.rest 1 (some (l.drop 4)))))) B X (by decide) hb4 hX)
  have HDONE := qh (fun (m : Ms.M) (o : Option (List Int)) => Ms.AtR.done (l := l.drop 4) (m := m) (o := o))
  have HM5 := qh (show Ms.m5 (l.drop 4) = Ms.start (Sx.num 1 (some (l.drop 4))) (Sx.num 1 (Sx.rest 1 (some (l.drop 4)))) (Sx.num 2 (Sx.rest 1 (Sx.rest 1 (some (l.drop 4))))) (Sx.num 2 (Sx.rest 2 (Sx.rest 1 (Sx.rest 1 (some (l.drop 4)))))) (Sx.num 4 (Sx.rest 2 (Sx.rest 2 (Sx.rest 1 (Sx.rest 1 (some (l.drop 4))))))) from rfl)
  have HO5 := qh (show Ms.o5 (l.drop 4) = Sx.rest 4 (Sx.rest 2 (Sx.rest 2 (Sx.rest 1 (Sx.rest 1 (some (l.drop 4)))))) from rfl)
  generalize Ms.m5 (l.drop 4) = m0 at *
  generalize Ms.o5 (l.drop 4) = o0 at *
  generalize Sx.rest 4 (Sx.rest 2 (Sx.rest 2 (Sx.rest 1 (Sx.rest 1 (some (l.drop 4)))))) = r5 at *
  generalize Sx.num 4 (Sx.rest 2 (Sx.rest 2 (Sx.rest 1 (Sx.rest 1 (some (l.drop 4)))))) = v5 at *
  generalize Sx.rest 2 (Sx.rest 2 (Sx.rest 1 (Sx.rest 1 (some (l.drop 4))))) = r4 at *
  generalize Sx.num 2 (Sx.rest 2 (Sx.rest 1 (Sx.rest 1 (some (l.drop 4))))) = v4 at *
  generalize Sx.rest 2 (Sx.rest 1 (Sx.rest 1 (some (l.drop 4)))) = r3 at *
  generalize Sx.num 2 (Sx.rest 1 (Sx.rest 1 (some (l.drop 4)))) = v3 at *
  generalize Sx.rest 1 (Sx.rest 1 (some (l.drop 4))) = r2 at *
  generalize Sx.num 1 (Sx.rest 1 (some (l.drop 4))) = v2 at *
  generalize Sx.rest 1 (some (l.drop 4)) = r1 at *
  generalize Sx.num 1 (some (l.drop 4)) = v1 at *
  have HB5 := qh hb5
  have HT5 := qh (start_ty5 n1 n2 n3 n4 n5)
  clear hb0 hb1 hb2 hb3 hb4 hb5
  have hx1 : (strOfNums l).extract 4 l.length = strOfNums (l.drop 4) := by rw [← Sx.str_drop, hz]
  have hx2 : (strOfNums l).extract 0 4 = strOfNums (l.take 4) := Sx.str_take l 4
  have he := (Sx.str_eq_iff (Im.bytesOf_bytes 4 ((Crc.sum (l.drop 4) : Nat) : Int)) (hB.take 4)).trans ((Ms.sumB_list hB (by omega)).trans hs)
  have hw : IntKind.u64.wrap ((Crc.sum (l.drop 4) : Nat) : Int) = ((Crc.sum (l.drop 4) : Nat) : Int) := by rw [IntKind.wrap_u64]; omega
  have ck := fun X => qh (refcheck_any (l.drop 4) X hbd (by rw [List.length_drop]; omega))
  have cn := fun X => qh (refput_num 4 4 ((Crc.sum (l.drop 4) : Nat) : Int) rfl X (by decide) ⟨by omega, by omega⟩)
  generalize strOfNums (Im.bytesOf 4 ((Crc.sum (l.drop 4) : Nat) : Int)) = s3 at *
  generalize strOfNums (l.take 4) = s2 at *
  generalize ((Crc.sum (l.drop 4) : Nat) : Int) = S at *
  obtain ⟨s1, hs1⟩ : ∃ s, s = strOfNums (l.drop 4) := ⟨_, rfl⟩
  have HS1 := qh hs1
  rw [← hs1] at hx1 ck
  clear hs1
  generalize l.length = n at *
  generalize strOfNums l = s at *
  have P0 := qh (Box.made w 29 Ms.zeroM)
  have KW := qh (one_below w (.cells Ms.zeroM 29))
  clear hs h4 hle hbd hsm
  go_enter Try.func20, Try.ntmps20
  go_upto_region 1 with (with_reducible refine alloc_msg rfl rfl ?_)
  generalize w.alloc (.cells Ms.zeroM 29) = W at *
  refine wp_region_ext W.heap.size W (by kernel_rfl) (by kernel_rfl) (Below.refl _ _) ?_
  repeat (first | go_big_quiet_step ((first | (go_at_call 18; with_reducible exact Calls.ext_of (Nat.le_refl _) ((ck _).out.mono fun e w' h => ⟨h.1, h.2 ▸ Below.refl _ _⟩)) | (go_at_call 17; with_reducible exact Calls.ext_of (Nat.le_refl _) (cn _).out))))
  refine wpQuiet_nil ?_
  intro _ hw'
  obtain ⟨q0, hw''⟩ := hw'
  subst hw''
  have P2 := qh (P0.out.below q0.h P0.out.lt)
  have K2 := qh (KW.out.trans (q0.h.mono KW.out.size))
  generalize q0.w = W2 at *
  have gB : w.heap.size < W2.heap.size := P2.out.lt
  have rb := r_built s1
  go_upto_region 6 with (first | (refine wpList_build_is rfl (t := 82) (vs := [(0, .string s1)]) rfl rfl rb ?_))
  have R3 := qh (show RIs (W2.alloc (.cells #[.string s1, .bool false] 82)) W2.heap.size (some (l.drop 4)) by
    rw [HS1.out]
    exact Box.made W2 82 #[.string (strOfNums (l.drop 4)), .bool false])
  have P3 := qh (P2.out.alloc (.cells #[.string s1, .bool false] 82))
  have K3 := qh (K2.out.alloc K2.out.size (.cells #[.string s1, .bool false] 82))
  clear rb
  generalize W2.alloc (.cells #[.string s1, .bool false] 82) = W3 at *
  generalize W2.heap.size = B at *
  have mb := ms_built v1
  go_upto_region 7 with (first | (go_at_call 42; ((with_reducible refine ((c1 _ _ R3.out).out).mono ?_); rintro e w4 ⟨rfl, hR, hS⟩; have R4 := qh hR; have P4 := qh (P3.out.sol hS (by omega)); have K4 := qh (K3.out.trans (hS.below (by omega) K3.out.size)); clear hR hS)) | (refine wpList_build_is rfl (t := 29) (vs := [(0, .int .i64 v1)]) rfl rfl mb ?_) | (with_reducible refine alloc_msg rfl rfl ?_) | ((with_reducible refine ms_store_new rfl rfl rfl rfl Ms.zeroM_size rfl (msg_one _) ?_)))
  have gM : B < w4.heap.size := R4.out.lt
  have R5 := qh (R4.out.alloc (.cells (Ms.S.cells ⟨Ms.start v1 0 0 0 0, none, 0, none, 0, none, 0⟩) 29))
  have P5 := qh (P4.out.alloc (.cells (Ms.S.cells ⟨Ms.start v1 0 0 0 0, none, 0, none, 0, none, 0⟩) 29))
  have K5 := qh (K4.out.alloc K4.out.size (.cells (Ms.S.cells ⟨Ms.start v1 0 0 0 0, none, 0, none, 0, none, 0⟩) 29))
  have Q5 := qh (Box.made w4 29 (Ms.S.cells ⟨Ms.start v1 0 0 0 0, none, 0, none, 0, none, 0⟩))
  clear mb c1
  generalize w4.alloc (.cells (Ms.S.cells ⟨Ms.start v1 0 0 0 0, none, 0, none, 0, none, 0⟩) 29) = W5 at *
  generalize w4.heap.size = M at *
  go_upto_region 8 with (go_at_call 42; ((with_reducible refine ((c2 _ _ R5.out).out).mono ?_); rintro e x6 ⟨rfl, hR, hS⟩; have R6 := qh hR; have P6 := qh (P5.out.sol hS (by omega)); have Q6 := qh (Q5.out.sol hS (by omega)); have K6 := qh (K5.out.trans (hS.below (by omega) K5.out.size)); have k1 := (Q6.out.cell 1).trans (show _ = some (Value.int .i64 0) from rfl); have kf := Q6.out.free 1; have kl := Q6.out.lt; clear hR hS))
  have Q7 := qh (show Box (x6.setCell ⟨M, 1, none⟩ (.int .i64 v2)) M 29 (Ms.S.cells ⟨Ms.start v1 v2 0 0 0, none, 0, none, 0, none, 0⟩) from Q6.out.put 1 (.int .i64 v2))
  have P7 := qh (P6.out.far (p := ⟨M, 1, none⟩) (show w.heap.size ≠ M by omega) (.int .i64 v2))
  have R7 := qh (R6.out.set (show B ≠ M by omega) 1 (.int .i64 v2))
  have K7 := qh (K6.out.setCell (p := ⟨M, 1, none⟩) (show w.heap.size ≤ M by omega) (.int .i64 v2))
  clear k1 kf kl c2
  generalize x6.setCell ⟨M, 1, none⟩ (.int .i64 v2) = W7 at *
  go_upto_region 9 with (go_at_call 43; ((with_reducible refine ((c3 _ _ R7.out).out).mono ?_); rintro e x8 ⟨rfl, hR, hS⟩; have R8 := qh hR; have P8 := qh (P7.out.sol hS (by omega)); have Q8 := qh (Q7.out.sol hS (by omega)); have K8 := qh (K7.out.trans (hS.below (by omega) K7.out.size)); have k1 := (Q8.out.cell 2).trans (show _ = some (Value.int .u16 0) from rfl); have kf := Q8.out.free 2; have kl := Q8.out.lt; clear hR hS))
  have Q9 := qh (show Box (x8.setCell ⟨M, 2, none⟩ (.int .u16 v3)) M 29 (Ms.S.cells ⟨Ms.start v1 v2 v3 0 0, none, 0, none, 0, none, 0⟩) from Q8.out.put 2 (.int .u16 v3))
  have P9 := qh (P8.out.far (p := ⟨M, 2, none⟩) (show w.heap.size ≠ M by omega) (.int .u16 v3))
  have R9 := qh (R8.out.set (show B ≠ M by omega) 2 (.int .u16 v3))
  have K9 := qh (K8.out.setCell (p := ⟨M, 2, none⟩) (show w.heap.size ≤ M by omega) (.int .u16 v3))
  clear k1 kf kl c3
  generalize x8.setCell ⟨M, 2, none⟩ (.int .u16 v3) = W9 at *
  go_upto_region 10 with (go_at_call 43; ((with_reducible refine ((c4 _ _ R9.out).out).mono ?_); rintro e x10 ⟨rfl, hR, hS⟩; have R10 := qh hR; have P10 := qh (P9.out.sol hS (by omega)); have Q10 := qh (Q9.out.sol hS (by omega)); have K10 := qh (K9.out.trans (hS.below (by omega) K9.out.size)); have k1 := (Q10.out.cell 3).trans (show _ = some (Value.int .u16 0) from rfl); have kf := Q10.out.free 3; have kl := Q10.out.lt; clear hR hS))
  have Q11 := qh (show Box (x10.setCell ⟨M, 3, none⟩ (.int .u16 v4)) M 29 (Ms.S.cells ⟨Ms.start v1 v2 v3 v4 0, none, 0, none, 0, none, 0⟩) from Q10.out.put 3 (.int .u16 v4))
  have P11 := qh (P10.out.far (p := ⟨M, 3, none⟩) (show w.heap.size ≠ M by omega) (.int .u16 v4))
  have R11 := qh (R10.out.set (show B ≠ M by omega) 3 (.int .u16 v4))
  have K11 := qh (K10.out.setCell (p := ⟨M, 3, none⟩) (show w.heap.size ≤ M by omega) (.int .u16 v4))
  clear k1 kf kl c4
  generalize x10.setCell ⟨M, 3, none⟩ (.int .u16 v4) = W11 at *
  go_upto_region 11 with (go_at_call 43; ((with_reducible refine ((c5 _ _ R11.out).out).mono ?_); rintro e x12 ⟨rfl, hR, hS⟩; have R12 := qh hR; have P12 := qh (P11.out.sol hS (by omega)); have Q12 := qh (Q11.out.sol hS (by omega)); have K12 := qh (K11.out.trans (hS.below (by omega) K11.out.size)); have k1 := (Q12.out.cell 4).trans (show _ = some (Value.int .u32 0) from rfl); have kf := Q12.out.free 4; have kl := Q12.out.lt; clear hR hS))
  have Q13 := qh (show Box (x12.setCell ⟨M, 4, none⟩ (.int .u32 v5)) M 29 (Ms.S.cells ⟨Ms.start v1 v2 v3 v4 v5, none, 0, none, 0, none, 0⟩) from Q12.out.put 4 (.int .u32 v5))
  have P13 := qh (P12.out.far (p := ⟨M, 4, none⟩) (show w.heap.size ≠ M by omega) (.int .u32 v5))
  have R13 := qh (R12.out.set (show B ≠ M by omega) 4 (.int .u32 v5))
  have K13 := qh (K12.out.setCell (p := ⟨M, 4, none⟩) (show w.heap.size ≤ M by omega) (.int .u32 v5))
  clear k1 kf kl c5
  generalize x12.setCell ⟨M, 4, none⟩ (.int .u32 v5) = W13 at *
  have k0 := (Q13.out.cell 0).trans (show _ = some (Value.int .i64 v1) from rfl)
  have ch := fun X => qh (has_any v1 X)
  obtain ⟨sp, hsp⟩ : ∃ s, s = strOfNums (Ms.has v1) := ⟨_, rfl⟩
  rw [← hsp] at ch
  have hat := qh (fun (k : Nat) (h : k < (Ms.has v1).length) (h' : k < (strOfNums (Ms.has v1)).size) => Sx.str_at (Ms.has_bytes v1) k h h')
  have hpz : sp.size = (Ms.has v1).length := by rw [hsp]; exact strOfNums_size _
  rw [← hsp] at hat
  clear hsp
  go_upto_region 12 with (go_at_call 38; ((with_reducible refine ((ch _).out).mono ?_); rintro e x14 ⟨rfl, rfl⟩))
  clear k0 ch
  have hNl := Ms.has_len v1
  have G0 := qh (show GetAt w B M m0 o0 0 ⟨Ms.start v1 v2 v3 v4 v5, none, 0, none, 0, none, 0⟩ r5 W13 by
    refine ⟨?_, HB5.out, R13.out, HT5.out, ?_, fun _ => ?_, Q13.out, P13.out, K13.out, ⟨by omega, by omega⟩⟩
    · rw [HM5.out, HO5.out]; exact Ms.AtR.start _ _
    · exact NoList.rows ⟨⟨rfl, rfl, rfl⟩, ⟨rfl, rfl, rfl⟩, ⟨rfl, rfl, rfl⟩⟩ _ _
    · exact ⟨⟨rfl, rfl, rfl⟩, ⟨rfl, rfl, rfl⟩, ⟨rfl, rfl, rfl⟩⟩)
  have hkind : m0.kind = v1 := by rw [HM5.out]; rfl
  rw [← hkind] at hat hpz hNl
  have HPZ := qh hpz
  obtain ⟨Nh, hNh⟩ : ∃ n, n = (Ms.has m0.kind).length := ⟨_, rfl⟩
  rw [← hNh] at hpz hNl
  have HNH := qh hNh
  clear hkind hNh n1 n2 n3 n4 n5 hx1 hx2 he hw hz h8 h84 h12 hl
  go_wp2_with fail
  go_loopw [7] (fun i wr => ∃ (j : Nat) (q : Ms.S) (o : Option (List Int)), j ≤ Nh ∧ i = .int .i64 j ∧ GetAt w B M m0 o0 j q o wr) (fun i _ => Nh - (intOf i).toNat)
  case atStart => exact ⟨0, _, _, Nat.zero_le _, rfl, G0.out⟩
  case round =>
    obtain ⟨j, q, o, hj, rfl, hG⟩ := hrel
    have GG := qh hG
    clear hG
    by_cases hjn : j < Nh
    · have hj8 : (j : Int) < (Nh : Int) := by omega
      have hjs : j < sp.size := by omega
      have hjl : j < (Ms.has m0.kind).length := by rw [← HNH.out]; exact hjn
      have hcx := hat.out j hjl hjs
      obtain ⟨c, hc⟩ : ∃ c, c = (Ms.has m0.kind).getD j 0 := ⟨_, rfl⟩
      rw [← hc] at hcx
      have hcon : (Ms.has q.m.kind).contains c = true := by
        rw [GG.out.atr.1, hc, List.contains_iff_mem, List.getD_eq_getElem?_getD, List.getElem?_eq_getElem hjl, Option.getD_some]
        exact List.getElem_mem hjl
      have cr := qh (refread_any c q (GG.out.nolist hjl) GG.out.ty hcon o B wr.drew GG.out.bytes (GG.out.rd.on (one_below' wr)))
      have GD := qh (GG.out.call (one_below' wr))
      have HC := qh hc
      have HJL := qh hjl
      have QD := qh GG.out.box.drew
      clear hc hcon hjl
      go_upto_region 15 with fail
      refine Rz.wp_region_z (by kernel_rfl) 5 5 (by kernel_rfl) (fun X => X = wr.drew) (fun _ _ _ => True) rfl (fun _ _ _ _ _ _ _ h => h) ?_
      simp only [List.take_succ_cons, List.take_zero, List.drop_succ_cons, List.drop_zero, Nat.sub_self]
      apply Rz.head_op; focus (intro W hW; subst hW; exact exec_load_blk rfl rfl QD.out Try.underlying29 rfl msg_info16)
      apply Rz.head_op; focus (intro W hW; clear hW; go_simp; first | done | rfl)
      apply Rz.head_op; focus (intro W hW; clear hW; go_simp; first | done | rfl)
      apply Rz.head_op; focus (intro W hW; clear hW; go_simp; first | done | rfl)
      apply Rz.head_op; focus (intro W hW; clear hW; go_simp; first | done | rfl)
      refine Rz.head_end ⟨?_, ?_⟩
      · exact trivial
      · intro vm X hX _
        subst hX
        simp only [Rz.putAll]
        go_wp2_with (first | (refine blk_gate (t := 29) rfl rfl msg_info16 ?_; apply StoreBlk.mk rfl rfl Q7.out (msg_one _) (ms_size _) (ms_size _)) | (go_at_call 44; (with_reducible refine (cr.out).mono ?_); rintro e Y ⟨q', o', ⟨rfl, hR1, hS1⟩, hs1, hb1, hT1, hW1, hn1⟩; have H7 := qh (GetAt.step (e := .returned (.agg q'.cells)) GD.out HJL.out HC.out ⟨rfl, hR1, hS1⟩ hs1 hb1 hT1 hW1 hn1); have Q7 := qh (GD.out.box.sol hS1 (show M ≠ B by have := GD.out.ord; omega)); clear hR1 hS1 hs1 hb1 hT1 hW1 hn1))
        go_roundw
        case rel => exact ⟨j + 1, q', o', by omega, by go_num, H7.out⟩
        case measure => simp [intOf]; omega
    · obtain rfl : Nh = j := by omega
      have ce := qh (rend_any o B wr GG.out.bytes GG.out.rd)
      have cm := qh (refmay12_any q wr GG.out.ty GG.out.rows.lies)
      have HGM := qh (HDONE.out q.m o (by
        have a := GG.out.atr
        rw [HNH.out, List.take_length] at a
        exact a))
      have QM := qh GG.out.box
      have QZ := qh GG.out.res
      have KK := qh GG.out.keep
      have RR := qh GG.out.rows
      have oB := GG.out.ord.1
      have oM := GG.out.ord.2
      cases hend : Sx.ended o with
      | false =>
        rw [hend] at ce
        have HN := qh (show Ms.getW l = none by rw [HGW.out, HGM.out, hend]; exact if_neg (fun h => by cases h.1))
        clear hend HDONE
        go_wp2_with (first | (go_at_call 45; ((with_reducible refine (ce.out).mono ?_); rintro e y1 ⟨rfl, rfl⟩)) | (refine wpList_build_is rfl (t := 29) (vs := []) rfl rfl msg_built ?_) | (refine blk_gate (t := 29) rfl rfl msg_info16 ?_; apply StoreBlk.mk rfl rfl QZ.out (msg_one ⟨Ms.start 0 0 0 0 0, none, 0, none, 0, none, 0⟩) rfl rfl))
        have HB := qh (QZ.out.row (Ms.S.cells ⟨Ms.start 0 0 0 0 0, none, 0, none, 0, none, 0⟩))
        refine bodyPost_ret (results_cell_tmp rfl _ _ w.heap.size 29 _ _ rfl HB.out Try.underlying29 rfl msg_info16) rfl ?_
        exact Or.inr (Or.inl ⟨HS.out, HN.out, rfl, Below.setRow' KK.out (Nat.le_refl _) _⟩)
      | true =>
        rw [hend] at ce
        cases hok : Ms.okB q.m with
        | false =>
          rw [hok] at cm
          have HN := qh (show Ms.getW l = none by rw [HGW.out, HGM.out, hok]; exact if_neg (fun h => by cases h.2))
          clear hend hok HDONE
          go_wp2_with (first | (go_at_call 45; ((with_reducible refine (ce.out).mono ?_); rintro e y1 ⟨rfl, rfl⟩)) | (go_at_call 13; ((with_reducible refine (cm.out).mono ?_); rintro e y2 ⟨rfl, hb⟩; have Z2 := qh (QZ.out.below hb QZ.out.lt); have K9 := qh (KK.out.trans (hb.mono KK.out.size)); clear hb)) | ((with_reducible refine ms_load_g ?_ rfl ?_); (focus first | rfl | kernel_rfl | simp [Region.wanted, yielded]); apply LoadMs.mk rfl (by with_reducible exact QM.out) (ms_size _)) | (refine wpList_build_is rfl (t := 29) (vs := []) rfl rfl msg_built ?_) | (refine blk_gate (t := 29) rfl rfl msg_info16 ?_; apply StoreBlk.mk rfl rfl Z2.out (msg_one ⟨Ms.start 0 0 0 0 0, none, 0, none, 0, none, 0⟩) rfl rfl))
          have HB := qh (Z2.out.row (Ms.S.cells ⟨Ms.start 0 0 0 0 0, none, 0, none, 0, none, 0⟩))
          refine bodyPost_ret (results_cell_tmp rfl _ _ w.heap.size 29 _ _ rfl HB.out Try.underlying29 rfl msg_info16) rfl ?_
          exact Or.inr (Or.inl ⟨HS.out, HN.out, rfl, Below.setRow' K9.out (Nat.le_refl _) _⟩)
        | true =>
          rw [hok] at cm
          have HN := qh (show Ms.getW l = some (Ms.plain q.m) by rw [HGW.out, HGM.out, hok, hend]; exact if_pos ⟨rfl, rfl⟩)
          clear hend hok HDONE
          go_wp2_with (first | (go_at_call 45; ((with_reducible refine (ce.out).mono ?_); rintro e y1 ⟨rfl, rfl⟩)) | (go_at_call 13; ((with_reducible refine (cm.out).mono ?_); rintro e y2 ⟨rfl, hb⟩; have Z2 := qh (QZ.out.below hb QZ.out.lt); have M2 := qh (QM.out.below hb QM.out.lt); have RW2 := qh (RR.out.below hb); have K9 := qh (KK.out.trans (hb.mono KK.out.size)); clear hb)) | ((with_reducible refine ms_load_g ?_ rfl ?_); (focus first | rfl | kernel_rfl | simp [Region.wanted, yielded]); apply LoadMs.mk rfl (by first | (with_reducible exact M2.out) | (with_reducible exact QM.out)) (ms_size _)) | (refine blk_gate (t := 29) rfl rfl msg_info16 ?_; apply StoreBlk.mk rfl rfl Z2.out (msg_one q) rfl rfl))
          have HB := qh (Z2.out.row q.cells)
          refine bodyPost_ret (results_cell_tmp rfl _ _ w.heap.size 29 _ _ rfl HB.out Try.underlying29 rfl msg_info16) rfl ?_
          exact Or.inr (Or.inr ⟨HS.out, q, HN.out, rfl, (RW2.out.row Z2.out (by omega) _).lies, Below.setRow' K9.out (Nat.le_refl _) _⟩)
theorem refget12_any (l : List Int) (w : World) (hB : Im.IsBytes l) (hl : l.length ≤ maxLen) : Calls Try.prog 20 #[.string (strOfNums l)] w (SaysGet l w) := by
  by_cases h4 : l.length < 4
  · exact refget_short l w h4
  · cases hs : Ms.sumB l with
    | false => exact refget_bad l w hB hl h4 hs
    | true =>
      by_cases hle : l.length ≤ 1200
      · exact refget_good l w hB hl h4 hs hle
      · exact refget_long l w hB hl h4 hs hle
end Go.Proofs.Ytgmlbimgcifenaa
namespace Ms
theorem like_refl (e : En.E) : En.Like e e := ⟨rfl, rfl, fun _ _ => rfl⟩
theorem sim_plain {m n : M} (h : plain m = plain n) : Sim m (plain n) := by
  rw [← h]
  refine ⟨rfl, by unfold plain; simp, fun k h1 h2 => ?_⟩
  have hm : k < (m.log.map fun s => (⟨s.e, none, 0⟩ : En.S)).length := h2
  have e : ((plain m).log[k]'h2).e = m.log[k].e := (congrArg En.S.e (List.getElem_map (fun s : En.S => (⟨s.e, none, 0⟩ : En.S)) (h := hm)) :)
  rw [e]
  exact like_refl _
theorem plain_same {m n : M} (h : plain m = plain n) : sameB n m = true := (sim_plain h).same
def z0 : S := ⟨start 0 0 0 0 0, none, 0, none, 0, none, 0⟩
theorem z0_ty : Ty z0.m := by
  have z : En.i64 0 := ⟨by decide, by decide⟩
  exact ⟨z, z, (by show (0 : Int) ≤ 0 ∧ (0 : Int) ≤ 65535; decide), (by show (0 : Int) ≤ 0 ∧ (0 : Int) ≤ 65535; decide), (by show (0 : Int) ≤ 0 ∧ (0 : Int) ≤ 4294967295; decide), z, z, z, z, z, z, (by show (0 : Int) ≤ 0 ∧ (0 : Int) ≤ 4294967295; decide), (by show (0 : Int) ≤ 0 ∧ (0 : Int) ≤ 18446744073709551615; decide), (fun p hp => absurd hp List.not_mem_nil), (fun p hp => absurd hp List.not_mem_nil), (fun p hp => absurd hp List.not_mem_nil)⟩
def GotAs (bs : List Int) (y : S) (f : Int) : Prop := (sumB bs = false ∧ f = 9 ∧ y = z0) ∨ (sumB bs = true ∧ getW bs = none ∧ f = 2 ∧ y = z0) ∨ (sumB bs = true ∧ getW bs = some (plain y.m) ∧ f = 0)
theorem GotAs.ty {bs : List Int} (hB : Im.IsBytes bs) {y : S} {f : Int} (h : GotAs bs y f) : Ty y.m := by
  rcases h with ⟨_, _, rfl⟩ | ⟨_, _, _, rfl⟩ | ⟨h1, h2, _⟩
  · exact z0_ty
  · exact z0_ty
  · exact (got_put hB h1 h2).2.1
theorem GotAs.both {bs : List Int} {y z : S} {f g : Int} (h : GotAs bs y f) (k : GotAs bs z g) : f = g ∧ sameB y.m z.m = true := by
  rcases h with ⟨h1, h2, rfl⟩ | ⟨h1, h2, h3, rfl⟩ | ⟨h1, h2, h3⟩ <;> rcases k with ⟨k1, k2, rfl⟩ | ⟨k1, k2, k3, rfl⟩ | ⟨k1, k2, k3⟩
  · exact ⟨h2.trans k2.symm, plain_same rfl⟩
  · rw [h1] at k1; cases k1
  · rw [h1] at k1; cases k1
  · rw [h1] at k1; cases k1
  · exact ⟨h3.trans k3.symm, plain_same rfl⟩
  · rw [h2] at k2; cases k2
  · rw [h1] at k1; cases k1
  · rw [h2] at k2; cases k2
  · rw [h2] at k2
    exact ⟨h3.trans k3.symm, plain_same (Option.some.inj k2).symm⟩
end Ms
namespace Go.Proofs.Ytgmlbimgcifenaa
open Go.RowKit Go.Shelf
def SaysGot (bs : List Int) (w : World) (r : Ending) (w' : World) : Prop := ∃ (y : Ms.S) (f : Int), Ms.GotAs bs y f ∧ r = .returned (.tuple #[.agg y.cells, .int .i64 f]) ∧ LiesM w' w'.heap.size y ∧ Below w.heap.size w w'
theorem SaysGet.got {bs : List Int} {w w' : World} {r : Ending} (h : SaysGet bs w r w') : SaysGot bs w r w' := by
  have l0 : LiesM w' w'.heap.size Ms.z0 := lies_bare rfl rfl rfl
  rcases h with ⟨h1, rfl, hb⟩ | ⟨h1, h2, rfl, hb⟩ | ⟨h1, q, h2, rfl, hL, hb⟩
  · exact ⟨Ms.z0, 9, .inl ⟨h1, rfl, rfl⟩, rfl, l0, hb⟩
  · exact ⟨Ms.z0, 2, .inr (.inl ⟨h1, h2, rfl, rfl⟩), rfl, l0, hb⟩
  · exact ⟨q, 0, .inr (.inr ⟨h1, h2, rfl⟩), rfl, hL, hb⟩
theorem quiet_m12 {B0 : Nat} {W : World} {o : Oper} {a : Act} {K : Act → Prop} {B : Nat} {q : Ms.S} {x : Operand} (ho : o.op = .load 29 x) (hx : a.eval x = .pointer (some ⟨B, 0, none⟩)) (hB : ∀ e : Ext B0 W, Box e.w B 29 q.cells) (h : K (a.put o.dst (.agg q.cells))) :
    o.quiet Try.prog a (fun w' => ∃ e : Ext B0 W, w' = e.w) K :=
  ⟨_, fun w hw => by obtain ⟨e, e'⟩ := hw; subst e'; unfold Oper.quietAt; rw [exec_load_blk ho hx (hB e) Try.underlying29 rfl msg_info16]; exact ⟨rfl, rfl⟩, h⟩
structure AskAt (w : World) (p q : Ms.S) (X : World) : Prop where
  one : Box X w.heap.size 29 p.cells
  two : Box X (w.heap.size + 1) 29 q.cells
  kept : Below w.heap.size w X
theorem AskAt.on {w X X' : World} {p q : Ms.S} (h : AskAt w p q X) (hb : Below X.heap.size X X') : AskAt w p q X' := ⟨h.one.below hb h.one.lt, h.two.below hb h.two.lt, h.kept.trans (hb.mono h.kept.size)⟩
theorem AskAt.made {w X : World} {p q : Ms.S} (h : AskAt w p q X) (o : Obj) : AskAt w p q (X.alloc o) := h.on (one_below X o)
theorem AskAt.start (w : World) (p q : Ms.S) : AskAt w p q ((w.alloc (.cells p.cells 29)).alloc (.cells q.cells 29)) :=
  ⟨(Box.made w 29 p.cells).alloc _, Box.made_at (n := w.heap.size + 1) _ _ _ (by simp), two_below' w _ _⟩
theorem conv_backN (l : List Int) (hl : Im.IsBytes l) (w : World) : ∃ c W', (convert 9 27 (.string (strOfNums l))).run Try.prog w = .ok (.slice (some ⟨w.heap.size, 0, none⟩) l.length c) W' ∧ Below w.heap.size w W' ∧ Lies W' W'.heap.size 1 (some ⟨w.heap.size, 0, none⟩) l.length (Im.u8s l) ∧ l.length ≤ c := by
  obtain ⟨c, W', h1, h2, h3⟩ := conv_back l hl w
  refine ⟨c, W', h1, h2, h3, ?_⟩
  have hr := run_bytes_of_string (P := Try.prog) w 9 27 5 (strOfNums l) Try.underlying9 Try.underlying27 Try.underlying5
  rw [strOfNums_size, h1] at hr
  injection hr with hv _
  injection hv with _ _ hc
  rw [hc]
  exact grownCap_ge _ _ _ _
theorem str_sum12 {a b c : List Int} {x y : ByteArray} (hx : x = strOfNums a) (hy : y = strOfNums b) (hc : a ++ b = c) (hl : a.length + b.length ≤ 1000000) : ∃ u : ByteArray, u = strOfNums c ∧ x ++ y = u ∧ ¬ 9223372036854775807 < x.size + y.size := by
  subst hx hy hc
  exact ⟨_, rfl, (Sx.str_append a b).symm, by rw [strOfNums_size, strOfNums_size]; omega⟩
end Go.Proofs.Ytgmlbimgcifenaa
namespace Go.Proofs.Ytgmlbimgcifenaa
open Go.RowKit Go.Shelf
def SaysFewAt (w : World) (p q : Ms.S) (n : Nat) (b : Value) (X : World) : Prop := ∃ fb : Bool, b = .bool fb ∧ AskAt w p q X ∧ (fb = false → n ≤ 300)
def PutAt (w : World) (p q : Ms.S) (x e : Value) (X : World) : Prop := AskAt w p q X ∧
  ((Ms.okB p.m = false ∧ x = .slice none 0 0 ∧ e = .int .i64 1) ∨
   (Ms.okB p.m = true ∧ ¬ (Ms.put p.m).length ≤ 1200 ∧ x = .slice none 0 0 ∧ e = .int .i64 4) ∨
   (Ms.okB p.m = true ∧ (Ms.put p.m).length ≤ 1200 ∧ ∃ A c, x = .slice A (Ms.put p.m).length c ∧ e = .int .i64 0 ∧ Lies X X.heap.size 1 A (Ms.put p.m).length (Im.u8s (Ms.put p.m))))
theorem wput_all (p : Ms.S) (w : World) (hT : Ms.Ty p.m) (hL : LiesM w w.heap.size p) :
    Calls Try.prog 14 #[.agg p.cells] w fun r w' => ∃ x e, r = .returned (.tuple #[x, e]) ∧ Below w.heap.size w w' ∧ ((Ms.okB p.m = false ∧ x = .slice none 0 0 ∧ e = .int .i64 1) ∨ (Ms.okB p.m = true ∧ ¬ (Ms.put p.m).length ≤ 1200 ∧ x = .slice none 0 0 ∧ e = .int .i64 4) ∨ (Ms.okB p.m = true ∧ (Ms.put p.m).length ≤ 1200 ∧ ∃ A c, x = .slice A (Ms.put p.m).length c ∧ e = .int .i64 0 ∧ Lies w' w'.heap.size 1 A (Ms.put p.m).length (Im.u8s (Ms.put p.m)))) := by
  cases hok : Ms.okB p.m with
  | false =>
    refine (wput_no p w hT (fun h => by rw [Ms.okB_iff.2 h] at hok; cases hok) hL).mono ?_
    rintro r w' ⟨rfl, hb⟩
    exact ⟨_, _, rfl, hb, .inl ⟨rfl, rfl, rfl⟩⟩
  | true =>
    refine (wput_yes p w hT (Ms.okB_iff.1 hok) hL).mono ?_
    rintro r w' (⟨h1, A, c, rfl, _, hO, hb⟩ | ⟨h1, rfl, hb⟩)
    · exact ⟨_, _, rfl, hb, .inr (.inr ⟨rfl, h1, A, c, rfl, rfl, Lies.owned hO⟩)⟩
    · exact ⟨_, _, rfl, hb, .inr (.inl ⟨rfl, h1, rfl, rfl⟩)⟩
theorem asks12_law (p q : Ms.S) (l : List Int) (A : Option Addr) (c : Nat) (sb : Bool) (w : World) (hTp : Ms.Ty p.m) (hTq : Ms.Ty q.m) (hLp : LiesM w w.heap.size p) (hLq : LiesM w w.heap.size q) (hB : Im.IsBytes l) (hlc : l.length ≤ c) (hl63 : l.length ≤ maxLen) (hLb : Lies w w.heap.size 1 A l.length (Im.u8s l)) :
    Calls Try.prog 3 #[.agg p.cells, .agg q.cells, .slice A l.length c, .bool sb] w fun e w' => e = .returned (.bool true) ∧ Below w.heap.size w w' := by
  have ct := fun X => qh (told12_any X)
  have LP := qh (fun X (k : Below w.heap.size w X) => hLp.on k)
  have LQ := qh (fun X (k : Below w.heap.size w X) => hLq.on k)
  have LB := qh (fun X (k : Below w.heap.size w X) => hLb.on k)
  have cfp := fun X (h : AskAt w p q X) => qh (few12_any p X (LP.out X h.kept))
  have cfq := fun X (h : AskAt w p q X) => qh (few12_any q X (LQ.out X h.kept))
  have crm := fun X (h : AskAt w p q X) => qh (refmay12_any p X hTp (LP.out X h.kept))
  have cwm := fun X (h : AskAt w p q X) => qh (wmay_any p X hTp (LP.out X h.kept))
  have cwp := fun X (h : AskAt w p q X) => qh (wput_all p X hTp (LP.out X h.kept))
  have crp := fun X (h : AskAt w p q X) (hok : Ms.okB p.m = true) => qh (refput12_any p X hTp (LP.out X h.kept) (Ms.okB_iff.1 hok) (Ms.body_bytes hTp))
  have csp := fun X (h : AskAt w p q X) => qh (wsame_any p q X hTp hTq (LP.out X h.kept) (LQ.out X h.kept))
  have csr := fun X (h : AskAt w p q X) => qh (refsame12_any p q X hTp hTq (LP.out X h.kept) (LQ.out X h.kept))
  have css := fun X (h : AskAt w p q X) => qh (show Calls Try.prog 22 #[.agg p.cells, .agg p.cells] X fun e w' => e = .returned (.bool true) ∧ Below X.heap.size X w' by
    have := wsame_any p p X hTp hTp (LP.out X h.kept) (LP.out X h.kept)
    rw [Ms.plain_same rfl] at this
    exact this)
  have cwc := fun X (h : AskAt w p q X) => qh (wcheck_any l A l.length c X hB hl63 (LB.out X h.kept))
  have crc := fun X => qh (refcheck_any l X hB hl63)
  have hcv := fun X (h : AskAt w p q X) => conv_bytes l l.length A c X _ rfl (LB.out X h.kept)
  have HCV := qh hcv
  have A0 := qh (AskAt.start w p q)
  have HTP := qh hTp
  have HTQ := qh hTq
  have HBY := qh hB
  have PB := qh (Ms.put_bytes hTp)
  clear hcv hLp hLq hLb hTp hTq hB
  obtain ⟨n, hn⟩ : ∃ n, n = l.length := ⟨_, rfl⟩
  rw [← hn] at cwc HCV hlc hl63 ⊢
  have HN := qh hn
  clear hn
  go_enter Try.func3, Try.ntmps3
  go_upto_region 1 with fail
  generalize (w.alloc (.cells p.cells 29)).alloc (.cells q.cells 29) = W0 at *
  go_cut [29] from 17 to 29 (fun b wx => SaysFewAt w p q n b wx)
  case first =>
    by_cases h3 : (300 : Int) < (n : Int)
    · go_wp2_with (first | ((with_reducible refine ms_load rfl rfl ?_); apply LoadMs.mk rfl (by first | (with_reducible exact A0.out.one) | (with_reducible exact A1.out.one) | (with_reducible exact A2.out.one)) (ms_size _)) | ((with_reducible refine ms_load_g ?_ rfl ?_); (focus first | rfl | simp [Region.wanted, yielded]); apply LoadMs.mk rfl (by first | (with_reducible exact A0.out.two) | (with_reducible exact A1.out.two)) (ms_size _)) | (go_at_call 11; first | ((with_reducible refine ((cfp _ A0.out).out).mono ?_); rintro r w1 ⟨fb, rfl, hb⟩; have A1 := qh (A0.out.on hb); cases fb; (all_goals clear hb cfp)) | ((with_reducible refine ((cfq _ A1.out).out).mono ?_); rintro r w2 ⟨fb, rfl, hb⟩; have A2 := qh (A1.out.on hb); cases fb; (all_goals clear hb cfq))))
      all_goals (
        go_meet
        first
        | exact ⟨true, rfl, A2.out, fun h => by cases h⟩
        | exact ⟨true, rfl, A1.out, fun h => by cases h⟩)
    · go_wp2_with (first | ((with_reducible refine ms_load rfl rfl ?_); apply LoadMs.mk rfl (by first | (with_reducible exact A0.out.one) | (with_reducible exact A1.out.one) | (with_reducible exact A2.out.one)) (ms_size _)) | ((with_reducible refine ms_load_g ?_ rfl ?_); (focus first | rfl | simp [Region.wanted, yielded]); apply LoadMs.mk rfl (by first | (with_reducible exact A0.out.two) | (with_reducible exact A1.out.two)) (ms_size _)) | (go_at_call 11; first | ((with_reducible refine ((cfp _ A0.out).out).mono ?_); rintro r w1 ⟨fb, rfl, hb⟩; have A1 := qh (A0.out.on hb); cases fb; (all_goals clear hb cfp)) | ((with_reducible refine ((cfq _ A1.out).out).mono ?_); rintro r w2 ⟨fb, rfl, hb⟩; have A2 := qh (A1.out.on hb); cases fb; (all_goals clear hb cfq))))
      all_goals (
        go_meet
        first
        | exact ⟨_, rfl, A2.out, fun _ => by omega⟩
        | exact ⟨_, rfl, A1.out, fun _ => by omega⟩)
  case rest =>
    obtain ⟨fb, rfl, hA, hn3⟩ := hcut
    have A1 := qh hA
    clear hA A0 cfp cfq
    cases fb with
    | true =>
      go_wp2_with (go_at_call 12; ((with_reducible refine ((ct _).out).mono ?_); rintro r w5 ⟨rfl, hb⟩; have A2 := qh (A1.out.on hb); clear hb))
      go_ret
      exact ⟨rfl, A2.out.kept⟩
    | false =>
      have hn3 := hn3 rfl
      have hn38 : (n : Int) ≤ 300 := by omega
      go_upto_region 4 with (first | ((with_reducible refine ms_load rfl rfl ?_); apply LoadMs.mk rfl (by first | (with_reducible exact A1.out.one) | (with_reducible exact A1.out.one) | (with_reducible exact A2.out.one)) (ms_size _)) | (go_at_call 13; ((with_reducible refine ((crm _ A1.out).out).mono ?_); rintro r w2 ⟨rfl, hb⟩; have A2 := qh (A1.out.on hb); clear hb)))
      go_cut [10, 11] from 33 to 37 (fun x e wx => PutAt w p q x e wx)
      case first =>
        go_wp2_with (first | ((with_reducible refine ms_load rfl rfl ?_); apply LoadMs.mk rfl (by first | (with_reducible exact A0.out.one) | (with_reducible exact A1.out.one) | (with_reducible exact A2.out.one)) (ms_size _)) | (go_at_call 14; ((with_reducible refine ((cwp _ A2.out).out).mono ?_); rintro r w3 ⟨x, e, rfl, hb, hx⟩; have A3 := qh (A2.out.on hb); have HX := qh hx; clear hb hx)))
        go_meet
        exact ⟨A3.out, HX.out⟩
      case rest =>
        have A3 := qh hcut.1
        have HX := qh hcut.2
        clear hcut A2 A1
        go_upto_block 0 with (first | ((with_reducible refine ms_load rfl rfl ?_); apply LoadMs.mk rfl (by first | (with_reducible exact A3.out.one) | (with_reducible exact A1.out.one) | (with_reducible exact A2.out.one)) (ms_size _)) | (go_at_call 15; ((with_reducible refine ((cwm _ A3.out).out).mono ?_); rintro r w4 ⟨rfl, hb⟩; have A4 := qh (A3.out.on hb); have HB4 := qh hb; clear hb)))
        go_cut [9, 32, 39, 40] from 42 to 73 (fun _ _ _ _ wx => AskAt w p q wx)
        case first =>
          rcases HX.out with ⟨h1, rfl, rfl⟩ | ⟨h1, h2, rfl, rfl⟩ | ⟨h1, h2, A5, c5, rfl, rfl, hL5⟩
          · simp only [h1]
            go_wp2_with fail
            go_meet
            exact A4.out
          · have cp := qh (crp _ A4.out h1).out
            have hz := strOfNums_size (Ms.put p.m)
            have h12 : (1200 : Int) < (((Ms.put p.m).length : Nat) : Int) := by omega
            generalize strOfNums (Ms.put p.m) = st at *
            generalize (Ms.put p.m).length = np at *
            simp only [h1]
            clear crp
            go_wp2_with (first | ((with_reducible refine ms_load rfl rfl ?_); apply LoadMs.mk rfl (by with_reducible exact A4.out.one) (ms_size _)) | (go_at_call 16; ((with_reducible refine (cp.out).mono ?_); rintro r w5 ⟨rfl, hb⟩; have A5 := qh (A4.out.on hb); clear hb)))
            go_meet
            exact A5.out
          · have cp := qh (crp _ A4.out h1).out
            have cpr := fun X h => qh (crp X h h1).out
            have hz := strOfNums_size (Ms.put p.m)
            have h12 : ¬ (1200 : Int) < (((Ms.put p.m).length : Nat) : Int) := by omega
            have L4 := qh (Lies.on hL5 HB4.out)
            have hcv4 := qh (fun X B (hX : Lies X B 1 A5 (Ms.put p.m).length (Im.u8s (Ms.put p.m))) => conv_bytes (Ms.put p.m) (Ms.put p.m).length A5 c5 X B rfl hX)
            generalize strOfNums (Ms.put p.m) = st at *
            generalize (Ms.put p.m).length = np at *
            simp only [h1]
            clear crp hL5
            go_upto_region 13 with (first | ((with_reducible refine ms_load rfl rfl ?_); apply LoadMs.mk rfl (by with_reducible exact A4.out.one) (ms_size _)) | (go_at_call 16; ((with_reducible refine (cp.out).mono ?_); rintro r w5 ⟨rfl, hb⟩; have A5x := qh (A4.out.on hb); have L5 := qh (Lies.on L4.out hb); clear hb)))
            have CPR := qh (fun e : Ext w5.heap.size w5 => (cpr e.w (A5x.out.on e.h)).out)
            have ZP := qh (fun e : Ext w5.heap.size w5 => (A5x.out.on e.h).one)
            have zcv : ∀ e : Ext w5.heap.size w5, (convert 27 9 (.slice A5 np c5)).run Try.prog e.w = .ok (.string st) e.w := fun e => hcv4.out e.w _ (L5.out.below e.h)
            refine wp_region_ext w5.heap.size w5 (by kernel_rfl) (by kernel_rfl) (Below.refl _ _) ?_
            repeat (first | (go_big_quiet_want; (refine quiet_m12 rfl rfl ZP.out ?_); simp only [Act.put, List.setIfInBounds_toArray, List.set_cons_succ, List.set_cons_zero]; go_big_quiet_on) | go_big_quiet_step ((go_at_call 16; with_reducible exact Calls.ext_of (Nat.le_refl _) (CPR.out _))))
            refine wpQuiet_nil ?_
            intro _ hw'
            obtain ⟨q6, hw''⟩ := hw'
            subst hw''
            have A6 := qh (A5x.out.on q6.h)
            clear CPR ZP zcv
            go_wp2_with fail
            go_meet
            exact A6.out
        case rest =>
          have A5 := qh hcut
          clear hcut A4 A3 HX HB4 crm cwm cwp crp
          have hcv5 := HCV.out _ A5.out
          have hsm := Crc.sum_lt HBY.out
          have hw : IntKind.u64.wrap ((Crc.sum l : Nat) : Int) = ((Crc.sum l : Nat) : Int) := by rw [IntKind.wrap_u64]; omega
          have cn := fun X => qh (refput_num 4 4 ((Crc.sum l : Nat) : Int) rfl X (by decide) ⟨by omega, by omega⟩)
          cases sb with
          | false =>
            have hbc : Im.IsBytes l := HBY.out
            have hlen : l.length ≤ maxLen := by rw [← HN.out]; exact hl63
            have cgr := fun X => qh ((refget12_any l X hbc hlen).mono fun _ _ h => h.got)
            have cgw := fun X cc S7 hcc hL => qh ((wget_any l (some ⟨S7, 0, none⟩) l.length cc X rfl hlen hcc hbc hL).mono fun _ _ h => h.got)
            have CB := qh (fun X => conv_backN l hbc X)
            generalize ((Crc.sum l : Nat) : Int) = S at *
            clear hw cn hsm
            generalize strOfNums l = sl at *
            have scx : sl = sl := rfl
            go_upto_region 18 with fail
            obtain ⟨cc, WC, hcb, hKC, hLC, hcc⟩ := CB.out wc
            have A7 := qh (A5.out.on hKC)
            have cg7 := qh (cgw WC cc wc.heap.size hcc hLC).out
            clear hKC hLC hcc CB cgw
            generalize wc.heap.size = S7 at *
            generalize l.length = nl at *
            go_upto_region 20 with (first | (with_reducible refine alloc_msg rfl rfl ?_) | ((with_reducible refine ms_store_new rfl rfl rfl rfl Ms.zeroM_size rfl (msg_one _) ?_)) | (go_at_call 19; ((with_reducible refine (cg7.out).mono ?_); rintro r w8 ⟨y, f, hgy, rfl, hLy, hb⟩; have A8 := qh ((A7.out.on hb).made (.cells y.cells 29)); have Y8 := qh (Box.made w8 29 y.cells); have LY8 := qh (LiesM.made hLy (.cells y.cells 29)); have GY := qh hgy; clear hb hLy hgy cg7)) | (go_at_call 20; ((with_reducible refine ((cgr _).out).mono ?_); rintro r w9 ⟨z, g, hgz, rfl, hLz, hb⟩; have A9 := qh ((A8.out.on hb).made (.cells z.cells 29)); have Y9 := qh ((Y8.out.below hb Y8.out.lt).alloc (.cells z.cells 29)); have LY9 := qh (LiesM.made (LY8.out.on hb) (.cells z.cells 29)); have Z9 := qh (Box.made w9 29 z.cells); have LZ9 := qh (LiesM.made hLz (.cells z.cells 29)); have GZ := qh hgz; clear hb hLz hgz cgr)))
            obtain ⟨hfg, hsame⟩ := Ms.GotAs.both GY.out GZ.out
            have TY := qh (Ms.GotAs.ty hbc GY.out)
            have TZ := qh (Ms.GotAs.ty hbc GZ.out)
            subst hfg
            clear GY GZ
            generalize w9.alloc (.cells z.cells 29) = W9 at *
            have SM := qh (fun e : Ext W9.heap.size W9 => show Calls Try.prog 21 #[.agg y.cells, .agg z.cells] e.w fun r w' => r = .returned (.bool true) ∧ Below e.w.heap.size e.w w' by
              have h := refsame12_any y z e.w TY.out TZ.out (LY9.out.on e.h) (LZ9.out.on e.h)
              rw [hsame] at h
              exact h)
            have SA := qh (fun e : Ext W9.heap.size W9 => (csp e.w (A9.out.on e.h)).out)
            have SR := qh (fun e : Ext W9.heap.size W9 => (csr e.w (A9.out.on e.h)).out)
            have SE := qh (fun e : Ext W9.heap.size W9 => (css e.w (A9.out.on e.h)).out)
            have SC := qh (fun e : Ext W9.heap.size W9 => (cwc e.w (A9.out.on e.h)).out)
            have ZP := qh (fun e : Ext W9.heap.size W9 => (A9.out.on e.h).one)
            have ZO := qh (fun e : Ext W9.heap.size W9 => (A9.out.on e.h).two)
            have ZY := qh (fun e : Ext W9.heap.size W9 => Y9.out.below e.h Y9.out.lt)
            have ZZ := qh (fun e : Ext W9.heap.size W9 => Z9.out.below e.h Z9.out.lt)
            have zcv : ∀ e : Ext W9.heap.size W9, (convert 27 9 (.slice A n c)).run Try.prog e.w = .ok (.string sl) e.w := fun e => HCV.out e.w (A9.out.on e.h)
            generalize Ms.sameB p.m q.m = lb at *
            clear hsame csp csr css cwc hcv5 hcb HCV
            refine wp_region_ext W9.heap.size W9 (by kernel_rfl) (by kernel_rfl) (Below.refl _ _) ?_
            repeat (first | (go_big_quiet_want; (first | (refine quiet_m12 rfl rfl ZP.out ?_) | (refine quiet_m12 rfl rfl ZO.out ?_) | (refine quiet_m12 rfl rfl ZY.out ?_) | (refine quiet_m12 rfl rfl ZZ.out ?_)); simp only [Act.put, List.setIfInBounds_toArray, List.set_cons_succ, List.set_cons_zero]; go_big_quiet_on) | go_big_quiet_step ((first | (go_at_call 12; with_reducible exact Calls.ext_of (Nat.le_refl _) (ct _).out) | (go_at_call 21; first | with_reducible exact Calls.ext_of (Nat.le_refl _) (SM.out _) | with_reducible exact Calls.ext_of (Nat.le_refl _) (SR.out _)) | (go_at_call 22; first | with_reducible exact Calls.ext_of (Nat.le_refl _) (SA.out _) | with_reducible exact Calls.ext_of (Nat.le_refl _) (SE.out _)) | (go_at_call 23; with_reducible exact Calls.ext_of (Nat.le_refl _) ((SC.out _).mono fun e w' h => ⟨h.1, h.2 ▸ Below.refl _ _⟩)) | (go_at_call 18; with_reducible exact Calls.ext_of (Nat.le_refl _) ((crc _).out.mono fun e w' h => ⟨h.1, h.2 ▸ Below.refl _ _⟩)))))
            refine wpQuiet_nil ?_
            intro _ hw'
            obtain ⟨q9, hw''⟩ := hw'
            subst hw''
            have K9 := qh ((A9.out.on q9.h).kept)
            clear SM SA SR SE SC ZP ZO ZY ZZ zcv
            go_wp2
            go_ret
            exact ⟨ret_bool (by simp), K9.out⟩
          | true =>
            have hbl : Im.IsBytes (Im.bytesOf 4 ((Crc.sum l : Nat) : Int)) := Im.bytesOf_bytes _ _
            obtain ⟨cl, hcl⟩ : ∃ cl, cl = Im.bytesOf 4 ((Crc.sum l : Nat) : Int) ++ l := ⟨_, rfl⟩
            obtain ⟨sc, hsc, ha, hcx⟩ := str_sum12 (x := strOfNums (Im.bytesOf 4 ((Crc.sum l : Nat) : Int))) (y := strOfNums l) rfl rfl hcl.symm (by rw [Im.bytesOf_len, ← HN.out]; omega)
            have hbc : Im.IsBytes cl := by rw [hcl]; exact hbl.app HBY.out
            have hlen : cl.length ≤ maxLen := by rw [hcl, List.length_append, Im.bytesOf_len, ← HN.out]; unfold maxLen; omega
            have cgr := fun X => qh ((refget12_any cl X hbc hlen).mono fun _ _ h => h.got)
            have cgw := fun X cc S7 hcc hL => qh ((wget_any cl (some ⟨S7, 0, none⟩) cl.length cc X rfl hlen hcc hbc hL).mono fun _ _ h => h.got)
            have CB := qh (fun X => conv_backN cl hbc X)
            rw [← hsc] at cgr CB
            clear hsc hcl hbl
            generalize strOfNums (Im.bytesOf 4 ((Crc.sum l : Nat) : Int)) = s3 at *
            generalize ((Crc.sum l : Nat) : Int) = S at *
            generalize strOfNums l = sl at *
            go_upto_region 18 with (first | (go_at_call 18; ((with_reducible refine ((crc _).out).mono ?_); rintro r w6 ⟨rfl, rfl⟩)) | (go_at_call 17; ((with_reducible refine ((cn _).out).mono ?_); rintro r w6 ⟨rfl, hb⟩; have A6 := qh (A5.out.on hb); clear hb)))
            clear ha hcx hw cn hsm
            obtain ⟨cc, WC, hcb, hKC, hLC, hcc⟩ := CB.out w6
            have A7 := qh (A6.out.on hKC)
            have cg7 := qh (cgw WC cc w6.heap.size hcc hLC).out
            clear hKC hLC hcc CB cgw
            generalize w6.heap.size = S7 at *
            generalize cl.length = nl at *
            go_upto_region 20 with (first | (with_reducible refine alloc_msg rfl rfl ?_) | ((with_reducible refine ms_store_new rfl rfl rfl rfl Ms.zeroM_size rfl (msg_one _) ?_)) | (go_at_call 19; ((with_reducible refine (cg7.out).mono ?_); rintro r w8 ⟨y, f, hgy, rfl, hLy, hb⟩; have A8 := qh ((A7.out.on hb).made (.cells y.cells 29)); have Y8 := qh (Box.made w8 29 y.cells); have LY8 := qh (LiesM.made hLy (.cells y.cells 29)); have GY := qh hgy; clear hb hLy hgy cg7)) | (go_at_call 20; ((with_reducible refine ((cgr _).out).mono ?_); rintro r w9 ⟨z, g, hgz, rfl, hLz, hb⟩; have A9 := qh ((A8.out.on hb).made (.cells z.cells 29)); have Y9 := qh ((Y8.out.below hb Y8.out.lt).alloc (.cells z.cells 29)); have LY9 := qh (LiesM.made (LY8.out.on hb) (.cells z.cells 29)); have Z9 := qh (Box.made w9 29 z.cells); have LZ9 := qh (LiesM.made hLz (.cells z.cells 29)); have GZ := qh hgz; clear hb hLz hgz cgr)))
            obtain ⟨hfg, hsame⟩ := Ms.GotAs.both GY.out GZ.out
            have TY := qh (Ms.GotAs.ty hbc GY.out)
            have TZ := qh (Ms.GotAs.ty hbc GZ.out)
            subst hfg
            clear GY GZ
            generalize w9.alloc (.cells z.cells 29) = W9 at *
            have SM := qh (fun e : Ext W9.heap.size W9 => show Calls Try.prog 21 #[.agg y.cells, .agg z.cells] e.w fun r w' => r = .returned (.bool true) ∧ Below e.w.heap.size e.w w' by
              have h := refsame12_any y z e.w TY.out TZ.out (LY9.out.on e.h) (LZ9.out.on e.h)
              rw [hsame] at h
              exact h)
            have SA := qh (fun e : Ext W9.heap.size W9 => (csp e.w (A9.out.on e.h)).out)
            have SR := qh (fun e : Ext W9.heap.size W9 => (csr e.w (A9.out.on e.h)).out)
            have SE := qh (fun e : Ext W9.heap.size W9 => (css e.w (A9.out.on e.h)).out)
            have SC := qh (fun e : Ext W9.heap.size W9 => (cwc e.w (A9.out.on e.h)).out)
            have ZP := qh (fun e : Ext W9.heap.size W9 => (A9.out.on e.h).one)
            have ZO := qh (fun e : Ext W9.heap.size W9 => (A9.out.on e.h).two)
            have ZY := qh (fun e : Ext W9.heap.size W9 => Y9.out.below e.h Y9.out.lt)
            have ZZ := qh (fun e : Ext W9.heap.size W9 => Z9.out.below e.h Z9.out.lt)
            have zcv : ∀ e : Ext W9.heap.size W9, (convert 27 9 (.slice A n c)).run Try.prog e.w = .ok (.string sl) e.w := fun e => HCV.out e.w (A9.out.on e.h)
            generalize Ms.sameB p.m q.m = lb at *
            clear hsame csp csr css cwc hcv5 hcb HCV
            refine wp_region_ext W9.heap.size W9 (by kernel_rfl) (by kernel_rfl) (Below.refl _ _) ?_
            repeat (first | (go_big_quiet_want; (first | (refine quiet_m12 rfl rfl ZP.out ?_) | (refine quiet_m12 rfl rfl ZO.out ?_) | (refine quiet_m12 rfl rfl ZY.out ?_) | (refine quiet_m12 rfl rfl ZZ.out ?_)); simp only [Act.put, List.setIfInBounds_toArray, List.set_cons_succ, List.set_cons_zero]; go_big_quiet_on) | go_big_quiet_step ((first | (go_at_call 12; with_reducible exact Calls.ext_of (Nat.le_refl _) (ct _).out) | (go_at_call 21; first | with_reducible exact Calls.ext_of (Nat.le_refl _) (SM.out _) | with_reducible exact Calls.ext_of (Nat.le_refl _) (SR.out _)) | (go_at_call 22; first | with_reducible exact Calls.ext_of (Nat.le_refl _) (SA.out _) | with_reducible exact Calls.ext_of (Nat.le_refl _) (SE.out _)) | (go_at_call 23; with_reducible exact Calls.ext_of (Nat.le_refl _) ((SC.out _).mono fun e w' h => ⟨h.1, h.2 ▸ Below.refl _ _⟩)) | (go_at_call 18; with_reducible exact Calls.ext_of (Nat.le_refl _) ((crc _).out.mono fun e w' h => ⟨h.1, h.2 ▸ Below.refl _ _⟩)))))
            refine wpQuiet_nil ?_
            intro _ hw'
            obtain ⟨q9, hw''⟩ := hw'
            subst hw''
            have K9 := qh ((A9.out.on q9.h).kept)
            clear SM SA SR SE SC ZP ZO ZY ZZ zcv
            go_wp2
            go_ret
            exact ⟨ret_bool (by simp), K9.out⟩
end Go.Proofs.Ytgmlbimgcifenaa