/-
Several texts in one: Un El Ac Eb Oz Uk Ad Ae.
-/
import Derived.Test.YtgmlbimgcifenaaVz14
set_option maxRecDepth 100000
set_option maxHeartbeats 8000000
set_option linter.unusedVariables false
set_option linter.unusedSimpArgs false
namespace Bb
open Go Kd
def lm (f : Int) (l : List En.S) : Ms.M := { Ms.start 5 0 0 0 0 with frame := f, log := l }
theorem logOf_at {f : Int} {n k : Nat} (h : k < n) : (logOf f n)[k]? = some (e0 (f + (k : Int))) := by unfold logOf; rw [List.getElem?_map, List.getElem?_range h]; rfl
theorem lm_ok {f : Int} {n : Nat} (hf : 0 ≤ f ∧ f + n < 1048576) (hn : 1 ≤ n ∧ n ≤ 16) : Ms.Ok (lm f (logOf f n)) := by
  have e : ((lm f (logOf f n)).log.length : Int) = n := by show (((logOf f n).length : Nat) : Int) = n; rw [logOf_len]
  refine ⟨?_, rfl, ?_, fun k h => absurd h (Nat.not_lt_zero _), fun k h => log_ok (f := f) hf k h⟩
  · rw [Go.Proofs.Ytgmlbimgcifenaa.no1_iff]
    refine ⟨⟨(show (1 : Int) ≤ 5 by decide), (show (5 : Int) ≤ 14 by decide)⟩, ⟨(show (0 : Int) ≤ 0 by decide), (show (0 : Int) < 12 by decide)⟩, ?_, ⟨(show (0 : Int) ≤ 0 by decide), (show (0 : Int) ≤ 7 by decide)⟩, ⟨by show 0 ≤ f; omega, by show f ≤ 1048576; omega⟩, ⟨(show (0 : Int) ≤ 0 by decide), (show (0 : Int) ≤ 9 by decide)⟩, ⟨(show (0 : Int) ≤ 0 by decide), (show (0 : Int) ≤ 65535 by decide)⟩⟩
    unfold Ms.bare Ms.bareOf; rfl
  · unfold Ms.no3
    rw [e]
    have h1 : (decide ((n : Int) < 1)) = false := decide_eq_false (by omega)
    have h2 : (decide (16 < (n : Int))) = false := decide_eq_false (by omega)
    rw [h1, h2]
    rfl
theorem lm_no {f : Int} {l : List En.S} {k : Nat} {g : Int} (h : l[k]? = some (e0 g)) (hg : g ≠ f + (k : Int)) : ¬ Ms.Ok (lm f l) := fun hok => by
  obtain ⟨hk, he⟩ := List.getElem?_eq_some_iff.1 h
  have := (hok.log k hk).2
  have e1 : (lm f l).log[k] = e0 g := he
  rw [e1] at this
  exact hg this
theorem lm_nil {f : Int} : ¬ Ms.Ok (lm f []) := fun h => absurd (show true = false from h.n3) (by decide)
theorem skip {f : Int} {n i : Nat} (hf : 0 ≤ f ∧ f + n < 1048576) (hn : 1 ≤ n ∧ n ≤ 16) (hi : i < n) : Ms.okB (lm f ((logOf f n).take i ++ (logOf f n).drop (i + 1))) = (decide (i + 1 = n) && decide (1 < n)) := by
  by_cases h1 : i + 1 = n
  · subst h1
    have e : (logOf f (i + 1)).take i ++ (logOf f (i + 1)).drop (i + 1) = logOf f i := by
      rw [List.drop_eq_nil_of_le (by rw [logOf_len]; omega), List.append_nil, logOf_next, List.take_append_of_le_length (by rw [logOf_len]; omega), List.take_of_length_le (by rw [logOf_len]; omega)]
    rw [e]
    by_cases h0 : i = 0
    · subst h0
      exact (Ms.okB_no lm_nil).symm
    · rw [Ms.okB_iff.2 (lm_ok ⟨hf.1, by omega⟩ ⟨by omega, by omega⟩)]
      simp; omega
  · rw [decide_eq_false h1, Bool.false_and]
    refine (Ms.okB_no (lm_no (k := i) (g := f + ((i + 1 : Nat) : Int)) ?_ (by omega))).symm
    have hl : ((logOf f n).take i).length = i := by rw [List.length_take, logOf_len]; omega
    rw [List.getElem?_append_right (by omega), hl, Nat.sub_self, List.getElem?_drop]
    exact logOf_at (by omega)
end Bb
namespace Go.Proofs.Ytgmlbimgcifenaa
open Go Go.RowKit Go.Shelf
theorem append_rowW {P : Program} (w : World) {t ty e : TypeId} {i : TypeInfo} {z : Value} {size bytes : Nat} (ht : P.underlying t = some (.slice e)) (hi : P.info? e = some i) (hz : i.zero = some z) (hs : i.size = size) (hby : i.bytes = bytes) (hzs : z.cells.size = size) (hsz : 0 < size)
    {base n : Nat} {v : Value} {xs : List Value} (ho : w.ownsRow base e size v n xs) {A : Option Addr} {m c : Nat} {news : List Value} (hl : Lies w w.heap.size size A m news) (h1 : ∀ u ∈ news, u.oneCell' = true) (h63 : n + m ≤ maxLen) (hb : (n + m) * bytes ≤ 140737488355328) (hbase : base ≤ w.heap.size) :
    ∃ A' c' w', (Builtin.append_ #[t, t] ty #[v, .slice A m c]).run P w = .ok (.slice A' (n + m) c') w' ∧ w'.ownsRow base e size (.slice A' (n + m) c') (n + m) (xs ++ news) ∧ w.grownBy w' v.ownBlock := by
  have hrun : ∃ v' w', (Builtin.append_ #[t, t] ty #[v, .slice A m c]).run P w = .ok v' w' ∧ w'.ownsRow base e size v' (n + m) (xs ++ news) ∧ w.grownBy w' v.ownBlock := by
    cases A with
    | none =>
      have hm : m = 0 := by
        by_cases hm : m = 0
        · exact hm
        · obtain ⟨ad, he, _⟩ := hl.start hm
          cases he
      subst hm
      have hn : news = [] := List.eq_nil_of_length_eq_zero (by simpa using hl.len)
      subst hn
      exact ⟨_, w, append_nothing w ht hi ho c, by simpa using ho, World.grownBy.refl w _⟩
    | some ad =>
      have hcells : ∀ j u, news[j]? = some u → w.cell? (ad.add j) = some u := fun j u hu => by
        by_cases hm : m = 0
        · subst hm
          have hn : news = [] := List.eq_nil_of_length_eq_zero (by simpa using hl.len)
          subst hn
          simp at hu
        · exact hl.cell ad rfl hm j u hu
      obtain ⟨v', w', hr, h2, h3, _, _⟩ := run_append_own_at (P := P) w base t ty e i z size bytes ht hi hz hs hby hzs hsz v n xs ho ad m c news hl.len hcells h1 h63 hb hbase
      exact ⟨v', w', hr, h2, h3⟩
  obtain ⟨v', w', hr, h2, h3⟩ := hrun
  obtain ⟨A', c', rfl⟩ := owned_slice h2
  exact ⟨A', c', w', hr, h2, h3⟩
theorem Gl.off {w X : World} {B B2 j : Nat} {q : Ms.S} {cs : Array Value} (h : Gl w B q X) (hB : Box X B2 29 cs) (hne : B ≠ B2) (hlo : w.heap.size ≤ B2) (v : Value) : Gl w B q (X.setCell ⟨B2, j, none⟩ v) :=
  ⟨h.box.far (p := ⟨B2, j, none⟩) hne v, ownsRow_setCell_other (a := ⟨B2, j, none⟩) h.own (hB.unowned h.own (by decide)) v, h.kept.setCell (p := ⟨B2, j, none⟩) hlo v, h.low, h.bare, h.ents⟩
end Go.Proofs.Ytgmlbimgcifenaa
namespace Sx
open Go Im En
def ev (o : Option (List Int)) : Ev := ⟨num 1 o, num 1 (rest 1 o), num 2 (rest 1 (rest 1 o)), num 1 (rest 2 (rest 1 (rest 1 o)))⟩
def evRest (o : Option (List Int)) : Option (List Int) := rest 1 (rest 2 (rest 1 (rest 1 o)))
def inp (o : Option (List Int)) : Gm.In := ⟨IntKind.i8.wrap (num 1 o), IntKind.i8.wrap (num 1 (rest 1 o)), num 1 (rest 1 (rest 1 o))⟩
def inRest (o : Option (List Int)) : Option (List Int) := rest 1 (rest 1 (rest 1 o))
theorem ev_step (r : List Int) : match evRest (some r) with | none => decEv r = none | some r' => decEv r = some (ev (some r), r') := by
  unfold evRest ev decEv
  cases h1 : rdn 1 r with
  | none => rw [(num_none h1).2]; rfl
  | some q1 =>
    have h1' : rdn 1 r = some (q1.1, q1.2) := h1
    rw [(num_some h1').2, (num_some h1').1, Option.bind_some]
    cases h2 : rdn 1 q1.2 with
    | none => rw [(num_none h2).2]; rfl
    | some q2 =>
      have h2' : rdn 1 q1.2 = some (q2.1, q2.2) := h2
      rw [(num_some h2').2, (num_some h2').1, Option.bind_some]
      cases h3 : rdn 2 q2.2 with
      | none => rw [(num_none h3).2]; rfl
      | some q3 =>
        have h3' : rdn 2 q2.2 = some (q3.1, q3.2) := h3
        rw [(num_some h3').2, (num_some h3').1, Option.bind_some]
        cases h4 : rdn 1 q3.2 with
        | none => rw [(num_none h4).2]; rfl
        | some q4 =>
          have h4' : rdn 1 q3.2 = some (q4.1, q4.2) := h4
          rw [(num_some h4').2, (num_some h4').1]
          rfl
theorem in_step (r : List Int) : match inRest (some r) with | none => decIn r = none | some r' => decIn r = if zero (inp (some r)) then none else some (inp (some r), r') := by
  unfold inRest inp decIn
  cases h1 : rdn 1 r with
  | none => rw [(num_none h1).2]; rfl
  | some q1 =>
    have h1' : rdn 1 r = some (q1.1, q1.2) := h1
    rw [(num_some h1').2, (num_some h1').1, Option.bind_some]
    cases h2 : rdn 1 q1.2 with
    | none => rw [(num_none h2).2]; rfl
    | some q2 =>
      have h2' : rdn 1 q1.2 = some (q2.1, q2.2) := h2
      rw [(num_some h2').2, (num_some h2').1, Option.bind_some]
      cases h3 : rdn 1 q2.2 with
      | none => rw [(num_none h3).2]; rfl
      | some q3 =>
        have h3' : rdn 1 q2.2 = some (q3.1, q3.2) := h3
        rw [(num_some h3').2, (num_some h3').1]
        rfl
def St {α : Type} (T : Option α) (f : List Int → Option α) : Option (List Int) → Prop
  | none => T = none
  | some r => T = f r
theorem St.num {α : Type} {T : Option α} {f : List Int → Option α} {g : Int → List Int → Option α} {o : Option (List Int)} (n : Nat) (h : St T f o) (hf : ∀ r, f r = (rdn n r).bind fun q => g q.1 q.2) : St T (g (num n o)) (rest n o) := by
  match o with
  | none => exact h
  | some r =>
    have hT : T = f r := h
    rw [hf r] at hT
    cases hr : rdn n r with
    | none => rw [(num_none hr).2]; rw [hr] at hT; exact hT
    | some q =>
      have hr' : rdn n r = some (q.1, q.2) := hr
      rw [(num_some hr').2, (num_some hr').1]
      rw [hr] at hT
      exact hT
theorem inp_ty {o : Option (List Int)} (hB : ∀ l, o = some l → IsBytes l) : Gm.tyIn (inp o) := by
  have h1 := num_lt (n := 1) hB
  have h2 := num_lt (n := 1) (rest_bytes (n := 1) hB)
  have h3 := num_lt (n := 1) (rest_bytes (n := 1) (rest_bytes (n := 1) hB))
  unfold Gm.tyIn inp
  dsimp only
  rw [Im.wrap_i8, Im.wrap_i8]
  omega
def fEv (fr : Int) (n k : Nat) (acc : List Ev) (r : List Int) : Option (E × List Int) :=
  (decEvs (n - k) acc r).bind fun l => (decInputs in0 l.2).bind fun f => some (⟨fr, l.1, f.1⟩, f.2)
def fIn (fr : Int) (evs : List Ev) (m k : Nat) (f : Nat → Gm.In) (r : List Int) : Option (E × List Int) :=
  (decIns m k (8 - k) f r).bind fun g => some (⟨fr, evs, g.1⟩, g.2)
theorem St.ev {fr : Int} {T : Option (E × List Int)} {n k : Nat} {acc : List Ev} {r : List Int} (hk : k < n) (h : St T (fEv fr n k acc) (some r)) : St T (fEv fr n (k + 1) (acc ++ [ev (some r)])) (evRest (some r)) := by
  have hT : T = fEv fr n k acc r := h
  have hs := ev_step r
  unfold fEv at hT
  rw [show n - k = (n - (k + 1)) + 1 by omega] at hT
  cases he : evRest (some r) with
  | none =>
    rw [he] at hs
    simp only at hs
    show T = none
    rw [hT]
    show ((decEv r).bind _).bind _ = none
    rw [hs]; rfl
  | some r' =>
    rw [he] at hs
    simp only at hs
    show T = fEv fr n (k + 1) (acc ++ [Sx.ev (some r)]) r'
    rw [hT]
    show ((decEv r).bind fun q => decEvs (n - (k + 1)) (acc ++ [q.1]) q.2).bind _ = _
    rw [hs]; rfl
theorem St.evs_end {fr : Int} {T : Option (E × List Int)} {n : Nat} {acc : List Ev} {o : Option (List Int)} (h : St T (fEv fr n n acc) o) : St T (fun r => (rdn 1 r).bind fun q => fIn fr acc q.1.toNat 0 in0 q.2) o := by
  match o with
  | none => exact h
  | some r =>
    have hT : T = fEv fr n n acc r := h
    show T = _
    rw [hT]
    unfold fEv fIn
    rw [Nat.sub_self]
    show (decInputs in0 r).bind _ = _
    unfold decInputs
    rw [Option.bind_assoc]
theorem St.skip {fr : Int} {evs : List Ev} {T : Option (E × List Int)} {m k : Nat} {f : Nat → Gm.In} {o : Option (List Int)} (hk : k < 8) (hm : m.testBit k = false) (h : St T (fIn fr evs m k f) o) : St T (fIn fr evs m (k + 1) f) o := by
  match o with
  | none => exact h
  | some r =>
    have hT : T = fIn fr evs m k f r := h
    show T = _
    rw [hT]
    unfold fIn
    rw [show 8 - k = (8 - (k + 1)) + 1 by omega]
    show (if m.testBit k then _ else _ : Option _).bind _ = _
    rw [hm]; rfl
def inAfter (o : Option (List Int)) : Option (List Int) := if zero (inp o) then none else inRest o
theorem St.input {fr : Int} {evs : List Ev} {T : Option (E × List Int)} {m k : Nat} {f : Nat → Gm.In} {o : Option (List Int)} (hk : k < 8) (hm : m.testBit k = true) (h : St T (fIn fr evs m k f) o) : St T (fIn fr evs m (k + 1) (upd f k (inp o))) (inAfter o) := by
  match o with
  | none =>
    have hT : T = none := h
    unfold inAfter
    split
    · exact hT
    · exact hT
  | some r =>
    have hT : T = fIn fr evs m k f r := h
    have hs := in_step r
    unfold fIn at hT
    rw [show 8 - k = (8 - (k + 1)) + 1 by omega] at hT
    have hT2 : T = ((decIn r).bind fun q => decIns m (k + 1) (8 - (k + 1)) (upd f k q.1) q.2).bind fun g => some (⟨fr, evs, g.1⟩, g.2) := by
      rw [hT]
      show (if m.testBit k then _ else _ : Option _).bind _ = _
      rw [hm]; rfl
    clear hT
    unfold inAfter
    cases he : inRest (some r) with
    | none =>
      rw [he] at hs
      simp only at hs
      rw [hs] at hT2
      split <;> exact hT2
    | some r' =>
      rw [he] at hs
      simp only at hs
      rw [hs] at hT2
      cases hz : zero (Sx.inp (some r))
      · rw [hz] at hT2
        simp only [Bool.false_eq_true, if_false]
        exact hT2
      · rw [hz] at hT2
        simp only [if_true]
        exact hT2
end Sx
namespace Go.Proofs.Ytgmlbimgcifenaa
open Go.RowKit Go.Shelf
theorem results_cell1 {P : Program} {fn : Func} {p : Tmp} {ty : TypeId} (h : fn.results = #[.cell p ty]) (tmps : Array Value) (w : World) (g : Nat) (t : TypeId) (cs : Array Value) (d : TypeDesc)
    (hp : tmps.getD p undef = .pointer (some ⟨g, 0, none⟩)) (hg : Box w g t cs) (hu : P.underlying ty = some d) (hd : d.isRow = true) (hi : (P.info? ty).map (·.size) = some cs.size) :
    (results fn tmps).run P w = .ok (.agg cs) w := by
  have hp' : tmps[p]?.getD undef = .pointer (some ⟨g, 0, none⟩) := by simpa using hp
  have hl := run_loadVar_row (P := P) w g t ty cs (0, 0) d hg.is hu (by cases d <;> first | rfl | cases hd) hi
  simp [results, h, hp', asAddr, hl]
theorem in_size : (Try.prog.info? 50).map (·.size) = some 3 := by kernel_rfl
theorem rinput_any (o : Option (List Int)) (B : Nat) (w : World) (hB : ∀ l, o = some l → Im.IsBytes l) (h : RIs w B o) :
    Calls Try.prog 61 #[.pointer (some ⟨B, 0, none⟩)] w fun e w' => e = .returned (.agg #[.int .i8 (Sx.inp o).x, .int .i8 (Sx.inp o).y, .int .u8 (Sx.inp o).b]) ∧ RIs w' B (Sx.inRest o) ∧ Sol B w w' := by
  have c1 := fun X hX => qh (rnum_any 1 1 rfl o B X (by decide) hB hX)
  have c2 := fun X hX => qh (rnum_any 1 1 rfl (Sx.rest 1 o) B X (by decide) (Sx.rest_bytes hB) hX)
  have c3 := fun X hX => qh (rnum_any 1 1 rfl (Sx.rest 1 (Sx.rest 1 o)) B X (by decide) (Sx.rest_bytes (Sx.rest_bytes hB)) hX)
  have h3 := Sx.num_lt (n := 1) (Sx.rest_bytes (n := 1) (Sx.rest_bytes (n := 1) hB))
  have HR := qh (show Sx.inRest o = Sx.rest 1 (Sx.rest 1 (Sx.rest 1 o)) from rfl)
  have HX := qh (show (Sx.inp o).x = IntKind.i8.wrap (Sx.num 1 o) from rfl)
  have HY := qh (show (Sx.inp o).y = IntKind.i8.wrap (Sx.num 1 (Sx.rest 1 o)) from rfl)
  have HBB := qh (show (Sx.inp o).b = Sx.num 1 (Sx.rest 1 (Sx.rest 1 o)) from rfl)
  rw [HX.out, HY.out, HBB.out, HR.out]
  generalize Sx.rest 1 (Sx.rest 1 (Sx.rest 1 o)) = o3 at *
  generalize Sx.num 1 (Sx.rest 1 (Sx.rest 1 o)) = v3 at *
  generalize Sx.num 1 (Sx.rest 1 o) = v2 at *
  generalize Sx.num 1 o = v1 at *
  have hw3 : IntKind.u8.wrap v3 = v3 := by rw [IntKind.wrap_u8]; omega
  have R0 := qh (h.alloc (.cells #[.int .i8 0, .int .i8 0, .int .u8 0] 50))
  have lt0 := h.lt
  clear h hB h3
  go_enter Try.func61, Try.ntmps61
  go_upto_region 2 with (go_at_call 43; ((with_reducible refine ((c1 _ R0.out).out).mono ?_); rintro e w1 ⟨rfl, h1, h2⟩; have R1 := qh h1; have S1 := qh h2; clear h1 h2 c1))
  have sz1 := S1.out.size
  have lt1 : B < w1.heap.size := by simp at sz1; omega
  have Q1 := qh (Box.made w1 50 #[.int .i8 (IntKind.i8.wrap v1), .int .i8 0, .int .u8 0])
  have T1 := qh (((Box.made w 50 #[.int .i8 0, .int .i8 0, .int .u8 0]).sol S1.out (by omega)).alloc (.cells #[.int .i8 (IntKind.i8.wrap v1), .int .i8 0, .int .u8 0] 50))
  have RR := qh (R1.out.alloc (.cells #[.int .i8 (IntKind.i8.wrap v1), .int .i8 0, .int .u8 0] 50))
  have SS := qh ((((Sol.refl B w).call (one_below w (.cells #[.int .i8 0, .int .i8 0, .int .u8 0] 50))).trans S1.out).call (one_below w1 (.cells #[.int .i8 (IntKind.i8.wrap v1), .int .i8 0, .int .u8 0] 50)))
  have hne1 : w1.heap.size ≠ B := by omega
  have hne0 : w.heap.size ≠ B := by omega
  have hne01 : w.heap.size ≠ w1.heap.size := by simp at sz1; omega
  clear R1 S1 R0
  go_upto_region 3 with (go_at_call 43; ((with_reducible refine ((c2 _ RR.out).out).mono ?_); rintro e w2 ⟨rfl, h1, h2⟩; have R2 := qh h1; have S2 := qh (SS.out.trans h2); have Q2 := qh (Q1.out.sol h2 hne1); have T2 := qh (T1.out.sol h2 hne0); have q2 := Q2.out.cell; have f2 := Q2.out.free; have l2 := Q2.out.lt; clear h1 h2 c2))
  have R3 := qh (R2.out.off (p := ⟨w1.heap.size, 1, none⟩) Q2.out (by decide) (.int .i8 (IntKind.i8.wrap v2)))
  have S3 := qh (S2.out.fresh (p := ⟨w1.heap.size, 1, none⟩) (by show w.heap.size ≤ w1.heap.size; simp at sz1; omega) (.int .i8 (IntKind.i8.wrap v2)))
  have Q3 := qh (Q2.out.put 1 (.int .i8 (IntKind.i8.wrap v2)))
  have T3 := qh (T2.out.far (p := ⟨w1.heap.size, 1, none⟩) hne01 (.int .i8 (IntKind.i8.wrap v2)))
  generalize w2.setCell ⟨w1.heap.size, 1, none⟩ (.int .i8 (IntKind.i8.wrap v2)) = W3 at *
  clear q2 f2 R2 S2 Q2 T2 l2
  go_upto_region 4 with (go_at_call 43; ((with_reducible refine ((c3 _ R3.out).out).mono ?_); rintro e w4 ⟨rfl, h1, h2⟩; have R4 := qh h1; have S4 := qh (S3.out.trans h2); have Q4 := qh (Q3.out.sol h2 hne1); have T4 := qh (T3.out.sol h2 hne0); have q4 := Q4.out.cell; have f4 := Q4.out.free; clear h1 h2 c3))
  have R5 := qh (R4.out.off (p := ⟨w1.heap.size, 2, none⟩) Q4.out (by decide) (.int .u8 v3))
  have S5 := qh (S4.out.fresh (p := ⟨w1.heap.size, 2, none⟩) (by show w.heap.size ≤ w1.heap.size; simp at sz1; omega) (.int .u8 v3))
  have Q5 := qh (Q4.out.put 2 (.int .u8 v3))
  have T5 := qh (T4.out.far (p := ⟨w1.heap.size, 2, none⟩) hne01 (.int .u8 v3))
  generalize w4.setCell ⟨w1.heap.size, 2, none⟩ (.int .u8 v3) = W5 at *
  clear q4 f4 R4 S4 Q4 T4
  have q5 := Q5.out.cell
  have t5 := T5.out.cell
  have u5 := T5.out.free
  go_wp2
  have T6 := ((T5.out.put 0 (.int .i8 (IntKind.i8.wrap v1))).put 1 (.int .i8 (IntKind.i8.wrap v2))).put 2 (.int .u8 v3)
  have R6 := ((R5.out.off (p := ⟨w.heap.size, 0, none⟩) T5.out (by decide) (.int .i8 (IntKind.i8.wrap v1))).off (p := ⟨w.heap.size, 1, none⟩) (T5.out.put 0 (.int .i8 (IntKind.i8.wrap v1))) (by decide) (.int .i8 (IntKind.i8.wrap v2))).off (p := ⟨w.heap.size, 2, none⟩) ((T5.out.put 0 (.int .i8 (IntKind.i8.wrap v1))).put 1 (.int .i8 (IntKind.i8.wrap v2))) (by decide) (.int .u8 v3)
  have S6 := ((S5.out.fresh (p := ⟨w.heap.size, 0, none⟩) (Nat.le_refl _) (.int .i8 (IntKind.i8.wrap v1))).fresh (p := ⟨w.heap.size, 1, none⟩) (Nat.le_refl _) (.int .i8 (IntKind.i8.wrap v2))).fresh (p := ⟨w.heap.size, 2, none⟩) (Nat.le_refl _) (.int .u8 v3)
  exact bodyPost_ret (results_cell1 rfl _ _ w.heap.size 50 _ _ rfl T6 Try.underlying50 rfl in_size) rfl ⟨rfl, R6, S6⟩
end Go.Proofs.Ytgmlbimgcifenaa
namespace Ms
open Go
def insAt (o : Option (List Int)) : Nat → List Gm.In × Option (List Int)
  | 0 => ([], o)
  | k + 1 => ((insAt o k).1 ++ [Sx.inp (insAt o k).2], Sx.inRest (insAt o k).2)
theorem insAt_len (o : Option (List Int)) : ∀ k, (insAt o k).1.length = k
  | 0 => rfl
  | k + 1 => by show ((insAt o k).1 ++ [_]).length = k + 1; rw [List.length_append, insAt_len o k]; rfl
end Ms
namespace Go.Proofs.Ytgmlbimgcifenaa
open Go.RowKit Go.Shelf
theorem step_append_ownW {P : Program} {ops : Array Oper} {o : Oper} {a : Act} {w : World} {K : Act → World → Prop} {Q : Exit → Act → World → Prop} {E : Prop}
    (hg : o.guard = none) (s x : Operand) (t : TypeId) (hop : o.op = Op.call { callee := Callee.builtin Builtin.append, args := #[s, x], argTypes := #[t, t] })
    {e : TypeId} {i : TypeInfo} {z : Value} {size bytes : Nat} (h1 : P.underlying t = some (.slice e)) (h2 : P.info? e = some i) (h3 : i.zero = some z) (h4 : i.size = size) (h5 : i.bytes = bytes) (h6 : z.cells.size = size) (h7 : 0 < size)
    {base n : Nat} {v : Value} {xs : List Value} (hv : a.eval s = v) (ho : w.ownsRow base e size v n xs) {A : Option Addr} {m c : Nat} {news : List Value} (hx : a.eval x = .slice A m c) (hl : Lies w w.heap.size size A m news) (h1c : ∀ u ∈ news, u.oneCell' = true)
    (b1 : n + m ≤ maxLen) (b2 : (n + m) * bytes ≤ 140737488355328) (hbase : base ≤ w.heap.size)
    (hK : ∀ A' c' w', w'.ownsRow base e size (.slice A' (n + m) c') (n + m) (xs ++ news) → w.grownBy w' v.ownBlock → K (a.put o.dst (.slice A' (n + m) c')) w') :
    if Region.wanted o (yielded ops a.tmps) = true then Oper.wp P o a w K Q else E := by
  have hw : Region.wanted o (yielded ops a.tmps) = true := by simp [Region.wanted, hg]
  rw [if_pos hw]
  obtain ⟨A', c', w', hrun, r1, r2⟩ := append_rowW (P := P) w (ty := o.type) h1 h2 h3 h4 h5 h6 h7 ho (c := c) hl h1c b1 b2 hbase
  unfold Oper.wp
  simp [execOp, hop, resolve, invoke, builtin, hv, hx, hrun, Result.andThen]
  exact hK A' c' w' r1 r2
structure InsAt (w : World) (B : Nat) (q : Ms.S) (o : Option (List Int)) (k : Nat) (A : Option Addr) (c : Nat) (X : World) : Prop where
  rd : RIs X B (Ms.insAt o k).2
  box : Box X w.heap.size 29 ({ q with m := { q.m with ins := (Ms.insAt o k).1 }, ai := A, ci := c } : Ms.S).cells
  res : Box X (w.heap.size + 1) 29 Ms.zeroM
  own : X.ownsRow w.heap.size 50 3 (.slice A k c) k (Gm.inCells (Ms.insAt o k).1)
  sol : Sol B w X
theorem own_solW {w w' : World} {B base n size : Nat} {e t : TypeId} {v : Value} {xs : List Value} {cs : Array Value} (h : w.ownsRow base e size v n xs) (k : Sol B w w') (hB : Box w B t cs) (ht : e ≠ t) : w'.ownsRow base e size v n xs := by
  have hne := hB.unowned h ht
  obtain ⟨hl, h' | ⟨g, cap, cur, rfl, hbg, hg, hr⟩⟩ := h
  · exact ⟨hl, .inl h'⟩
  · have hlt : g < w.heap.size := (Array.getElem?_eq_some_iff.1 hg).1
    exact ⟨hl, .inr ⟨g, cap, cur, rfl, hbg, (k.block g hlt (fun e => hne (by rw [e]; rfl))).trans hg, hr⟩⟩
theorem RIs.boxed {w : World} {B : Nat} {o : Option (List Int)} (h : RIs w B o) : ∃ cs, Box w B 82 cs := by
  cases o with
  | none => obtain ⟨s, hs⟩ := h; exact ⟨_, hs⟩
  | some l => exact ⟨_, h⟩
theorem RIs.mapb {w w' : World} {B : Nat} {o : Option (List Int)} (h : RIs w B o) (hk : ∀ cs, Box w B 82 cs → Box w' B 82 cs) : RIs w' B o := by
  cases o with
  | none => obtain ⟨s, hs⟩ := h; exact ⟨s, hk _ hs⟩
  | some l => have hs : Box w B 82 #[.string (strOfNums l), .bool false] := h; exact hk _ hs
theorem InsAt.drew {w X : World} {B k c : Nat} {q : Ms.S} {o : Option (List Int)} {A : Option Addr} (h : InsAt w B q o k A c X) : InsAt w B q o k A c X.drew :=
  ⟨h.rd.on (one_below' X), h.box.drew, h.res.drew, own_below h.own (one_below' X) (Nat.le_refl _), h.sol.call (one_below' X)⟩
theorem InsAt.step {w X X3 w7 : World} {B k c c7 : Nat} {q : Ms.S} {o : Option (List Int)} {A A7 : Option Addr} {O : Obj} (h : InsAt w B q o k A c X) (hlt : B < w.heap.size) (hR : RIs X3 B (Sx.inRest (Ms.insAt o k).2)) (hS : Sol B X X3)
    (own7 : w7.ownsRow w.heap.size 50 3 (.slice A7 (k + 1) c7) (k + 1) (Gm.inCells (Ms.insAt o k).1 ++ (Sx.inp (Ms.insAt o k).2).cells)) (hg : (X3.alloc O).grownBy w7 (Value.slice A k c).ownBlock) :
    InsAt w B q o (k + 1) A7 c7 (w7.setCell ⟨w.heap.size, 13, none⟩ (.slice A7 (k + 1) c7)) := by
  obtain ⟨cs, hbx⟩ := h.rd.boxed
  have o3 := own_solW h.own hS hbx (by decide)
  have b3 := h.box.sol hS (by omega)
  have r3 := h.res.sol hS (by omega)
  have b7 := grown_box b3 o3 (by decide) hg
  have r7 := grown_box r3 o3 (by decide) hg
  have e1 : (Ms.insAt o (k + 1)).1 = (Ms.insAt o k).1 ++ [Sx.inp (Ms.insAt o k).2] := rfl
  have e2 : Gm.inCells (Ms.insAt o (k + 1)).1 = Gm.inCells (Ms.insAt o k).1 ++ (Sx.inp (Ms.insAt o k).2).cells := by rw [e1]; unfold Gm.inCells; rw [List.flatMap_append, List.flatMap_cons, List.flatMap_nil, List.append_nil]
  refine ⟨?_, ?_, r7.far (p := ⟨w.heap.size, 13, none⟩) (show w.heap.size + 1 ≠ w.heap.size by omega) _, ?_, ?_⟩
  · exact (hR.mapb fun cs hc => grown_box hc o3 (by decide) hg).set (by omega) 13 _
  · have kk := b7.put 13 (.slice A7 (k + 1) c7)
    have ee : ({ q with m := { q.m with ins := (Ms.insAt o k).1 }, ai := A, ci := c } : Ms.S).cells.setIfInBounds 13 (.slice A7 (k + 1) c7) = ({ q with m := { q.m with ins := (Ms.insAt o (k + 1)).1 }, ai := A7, ci := c7 } : Ms.S).cells := by
      unfold Ms.S.cells Ms.cells Ms.S.si
      dsimp only
      rw [Ms.insAt_len o (k + 1)]
      rfl
    rw [ee] at kk
    exact kk
  · rw [e2]
    exact ownsRow_setCell_other (a := ⟨w.heap.size, 13, none⟩) own7 (b7.unowned own7 (by decide)) _
  · have s3 := h.sol.trans hS
    have g7 := below_gone ((one_below X3 O).mono s3.size) hg (own_at h.own) s3.size
    have s7 : Sol B w w7 := ⟨g7.os.trans s3.os, g7.tape.trans s3.tape, g7.output.trans s3.output, Nat.le_trans s3.size g7.size, fun i hi hne => (g7.block i hi).trans (s3.block i hi hne)⟩
    exact s7.fresh (p := ⟨w.heap.size, 13, none⟩) (Nat.le_refl _) _
def SaysIns (B N : Nat) (q : Ms.S) (o : Option (List Int)) (w : World) (e : Ending) (w' : World) : Prop := ∃ k A c, k ≤ N ∧ (k = N ∨ (Ms.insAt o k).2 = none) ∧ ReadTo B { q with m := { q.m with ins := (Ms.insAt o k).1 }, ai := A, ci := c } (Ms.insAt o k).2 w e w' ∧ w'.ownsRow w.heap.size 50 3 (.slice A k c) k (Gm.inCells (Ms.insAt o k).1)
theorem insAt_bytes {o : Option (List Int)} (h : ∀ l, o = some l → Im.IsBytes l) : ∀ k l, (Ms.insAt o k).2 = some l → Im.IsBytes l
  | 0 => h
  | k + 1 => Sx.rest_bytes (Sx.rest_bytes (Sx.rest_bytes (insAt_bytes h k)))
theorem refread_ins (q : Ms.S) (hq : Ms.NI q) (o : Option (List Int)) (B : Nat) (w : World) (hB : ∀ l, o = some l → Im.IsBytes l) (h : RIs w B o) :
    Calls Try.prog 44 #[.agg q.cells, .pointer (some ⟨B, 0, none⟩), .int .u8 105] w (SaysIns B (Sx.num 1 o).toNat q (Sx.rest 1 o) w) := by
  obtain ⟨W, hW⟩ : ∃ W, W = (w.alloc (.cells q.cells 29)).alloc (.cells Ms.zeroM 29) := ⟨_, rfl⟩
  have KW := qh (show Below w.heap.size w W by rw [hW]; exact (one_below w _).alloc (by simp) _)
  have P1 := qh (show Box W w.heap.size 29 q.cells by rw [hW]; exact (Box.made w _ _).alloc _)
  have P2 := qh (show Box W (w.heap.size + 1) 29 Ms.zeroM by rw [hW]; exact Box.made_at (n := w.heap.size + 1) _ _ _ (by simp))
  have hlt := h.lt
  have c1 := qh (rint_any 1 1 rfl o B W (by decide) hB (h.on KW.out))
  have nb := Sx.num_lt (n := 1) hB
  simp only [Nat.reduceMul, Int.reducePow] at nb
  have hb1 := qh (insAt_bytes (Sx.rest_bytes (n := 1) hB))
  obtain ⟨N, hN⟩ : ∃ N : Nat, Sx.num 1 o = (N : Int) := ⟨(Sx.num 1 o).toNat, by omega⟩
  have hN2 : (Sx.num 1 o).toNat = N := by omega
  rw [hN2]
  rw [hN] at c1 nb
  clear hN hN2
  generalize Sx.rest 1 o = o1 at *
  have HW := qh hW.symm
  have HQ := qh hq
  clear hW h hB hq
  go_enter Try.func44, Try.ntmps44
  go_upto_region 21 with (first | (with_reducible refine alloc_msg rfl rfl ?_) | (go_at_call 42; (rw [HW.out]; (with_reducible refine (c1.out).mono ?_); rintro e w1 ⟨rfl, hR, hS⟩; have R1 := qh hR; have S1 := qh hS; have Q1 := qh (P1.out.sol hS (by omega)); have Q2 := qh (P2.out.sol hS (by omega)); clear hR hS c1)))
  have I0 := qh (show InsAt w B q o1 0 none 0 w1 from ⟨R1.out, by
      obtain ⟨a, b, c⟩ := HQ.out
      have e : ({ q with m := { q.m with ins := (Ms.insAt o1 0).1 }, ai := none, ci := 0 } : Ms.S) = q := by
        cases q with | mk m ai ci al cl ad cd => cases m; simp_all [Ms.insAt]
      rw [e]; exact Q1.out, Q2.out, World.ownsRow_nil _ _ _ _, ((Sol.refl B w).call KW.out).trans S1.out⟩)
  go_wp2_with fail
  go_loopw [8] (fun i wr => ∃ (k : Nat) (A : Option Addr) (c : Nat), k ≤ N ∧ i = .int .i64 k ∧ InsAt w B q o1 k A c wr) (fun i _ => N - (intOf i).toNat)
  case atStart => exact ⟨0, none, 0, Nat.zero_le _, rfl, I0.out⟩
  case round =>
    obtain ⟨k, A, c, hk, rfl, hI⟩ := hrel
    have II := qh hI
    have hBI := hb1.out k
    obtain ⟨os, hos⟩ : ∃ os, os = (Ms.insAt o1 k).2 := ⟨_, rfl⟩
    have HOS := qh hos
    rw [← hos] at hBI
    have hrd := hI.rd
    rw [← hos] at hrd
    clear hos
    go_upto_region 22 with fail
    go_cut [74] from 65 to 83 (fun b wx => b = .bool (decide (k < N ∧ os.isSome = true)) ∧ wx = wr)
    case first =>
      by_cases hlt2 : k < N
      · have hk8 : (k : Int) < N := by omega
        cases os with
        | none =>
          obtain ⟨s, hs⟩ := hrd
          have r1 := hs.cell 1
          go_wp2_with fail
          go_meet
          exact ⟨by simp, rfl⟩
        | some r =>
          have hs : Box wr B 82 #[.string (strOfNums r), .bool false] := hrd
          have r1 := hs.cell 1
          go_wp2_with fail
          go_meet
          exact ⟨by simp [hlt2], rfl⟩
      · have hk8 : ¬ (k : Int) < N := by omega
        go_wp2_with fail
        go_meet
        exact ⟨by simp [hlt2], rfl⟩
    case rest =>
      obtain ⟨rfl, rfl⟩ := hcut
      by_cases hgo : k < N ∧ os.isSome = true
      · rw [decide_eq_true hgo]
        obtain ⟨hkN, -⟩ := hgo
        go_upto_region 24 with fail
        have ID := qh II.out.drew
        obtain ⟨i0, hi0, hz0, hz1, hz2⟩ := info_parts zin_infoZ
        have hIn := qh hi0
        have hZ := qh hz0
        have hS := qh hz1
        have hY := qh hz2
        have ci := fun X hX => qh (rinput_any os B X hBI hX)
        have kS := ID.out.sol.size
        clear hi0 hz0 hz1 hz2 hI hrd
        have c13 := (ID.out.box.cell 13).trans (show _ = some (Value.slice A (Ms.insAt o1 k).1.length c) from rfl)
        rw [Ms.insAt_len] at c13
        have rdD := ID.out.rd
        rw [← HOS.out] at rdD
        have hkb : k < 256 := by omega
        obtain ⟨csB, hbB⟩ := ID.out.rd.boxed
        go_region_law (first | (refine step_append_ownW rfl (.tmp 78) (.tmp 81) 25 rfl Try.underlying25 hIn.out hZ.out hS.out hY.out rfl (by decide) (v := .slice A k c) (by rfl) (OW3.out.alloc _) (by rfl) (Lies.boxed (n := 1) (size := 3) (xs := (Sx.inp os).cells) (Box.made _ 50 _) rfl) (by intro u hu; simp [Gm.In.cells] at hu; rcases hu with rfl | rfl | rfl <;> rfl) (by unfold maxLen; omega) (by omega) (by simp; omega) ?_; intro A7 c7 w7 own7 hg7; have G7 := qh (InsAt.step ID.out (by omega) R3.out S3.out (by rw [← HOS.out]; exact own7) hg7); have B7 := qh (grown_box (ID.out.box.sol S3.out (show w.heap.size ≠ B by omega)) OW3.out (by decide) hg7); have b7 := (B7.out.cell 13).trans (show _ = some (Value.slice A (Ms.insAt o1 k).1.length c) from rfl); have f7 := B7.out.free 13; have l7 := B7.out.lt; clear own7 hg7) | (go_simp; go_at_call 61; (with_reducible refine ((ci _ rdD).out).mono ?_); rintro e w3 ⟨rfl, hR, hS3⟩; have R3 := qh (show RIs w3 B (Sx.inRest (Ms.insAt o1 k).2) by rw [← HOS.out]; exact hR); have S3 := qh hS3; have sz3 := hS3.size; have B3 := qh (ID.out.box.sol hS3 (show w.heap.size ≠ B by omega)); have l3 := B3.out.lt; have c33 := (B3.out.cell 13).trans (show _ = some (Value.slice A (Ms.insAt o1 k).1.length c) from rfl); rw [Ms.insAt_len] at c33; have OW3 := qh (own_solW ID.out.own hS3 hbB (by decide)); clear hR hS3))
        all_goals (
          go_wp2_with fail
          go_roundw
          case rel => exact ⟨k + 1, _, _, by omega, by go_num, G7.out⟩
          case measure => simp [intOf]; omega)
      · rw [decide_eq_false hgo]
        have KX := qh (show k = N ∨ (Ms.insAt o1 k).2 = none by
          rw [← HOS.out]
          by_cases h1 : k < N
          · right
            cases os with
            | none => rfl
            | some r => exact absurd ⟨h1, rfl⟩ hgo
          · left; omega)
        have Q7 := qh hI.box
        have Q8 := qh hI.res
        clear hgo
        go_wp2_with (first | ((with_reducible refine ms_load rfl rfl ?_); apply LoadMs.mk rfl (by with_reducible exact Q7.out) (ms_size _)) | ((with_reducible refine blk_gate (t := 29) rfl rfl msg_info16 ?_); apply StoreBlk.mk rfl rfl (by with_reducible exact Q8.out) (msg_one _) (ms_size _) Ms.zeroM_size))
        have HB := qh (Q8.out.row ({ q with m := { q.m with ins := (Ms.insAt o1 k).1 }, ai := A, ci := c } : Ms.S).cells)
        exact bodyPost_ret (results_cellW rfl _ _ (w.heap.size + 1) 29 _ _ rfl HB.out Try.underlying29 rfl msg_info16) rfl ⟨k, A, c, hk, KX.out, ⟨rfl, II.out.rd.row (by omega) _, II.out.sol.freshRow (Nat.le_succ _) _⟩, own_setRow II.out.own (Q8.out.unowned II.out.own (by decide)) _⟩
end Go.Proofs.Ytgmlbimgcifenaa
namespace Sx
open Go Im En
def endOf (e : E) : Option (List Int) → Option E
  | some [] => if Ok e then some e else none
  | _ => none
theorem get_end {l : List Int} {fr : Int} {acc : List Ev} {m : Nat} {f : Nat → Gm.In} {o : Option (List Int)} (h : St (dec l) (fIn fr acc m 8 f) o) : En.get l = endOf ⟨fr, acc, f⟩ o := by
  unfold En.get
  match o with
  | none =>
    have h' : dec l = none := h
    rw [h']; rfl
  | some [] =>
    have h' : dec l = some (⟨fr, acc, f⟩, []) := h
    rw [h']
    show (if [] = [] ∧ Ok _ then _ else _) = (if Ok _ then _ else _)
    by_cases hk : Ok ⟨fr, acc, f⟩
    · rw [if_pos ⟨rfl, hk⟩, if_pos hk]
    · rw [if_neg (fun h => hk h.2), if_neg hk]
  | some (x :: r) =>
    have h' : dec l = some (⟨fr, acc, f⟩, x :: r) := h
    rw [h']
    show (if x :: r = [] ∧ Ok (⟨fr, acc, f⟩ : E) then some (⟨fr, acc, f⟩ : E) else none) = none
    rw [if_neg (fun h => by cases h.1)]
end Sx
namespace En
open Go
theorem shr_bit : ∀ (m : Fin 256) (k : Fin 8), bits .and .i64 (((m.val : Nat) : Int) / 2 ^ k.val) 1 = if m.val.testBit k.val then (1 : Int) else 0 := by decide +kernel
end En
namespace Go.Proofs.Ytgmlbimgcifenaa
open Go.RowKit Go.Shelf
theorem in_eql (x y b : Int) (w : World) : (binOp .eql 50 (.agg #[.int .i8 x, .int .i8 y, .int .u8 b]) (.agg #[.int .i8 0, .int .i8 0, .int .u8 0])).run Try.prog w = .ok (.bool (En.zero ⟨x, y, b⟩)) w := by
  have h : (Op.equalIn 10000 50 (.agg #[.int .i8 x, .int .i8 y, .int .u8 b]) (.agg #[.int .i8 0, .int .i8 0, .int .u8 0])).run Try.prog w = .ok (En.zero ⟨x, y, b⟩) w := by
    by_cases h1 : x = 0
    · by_cases h2 : y = 0
      · by_cases h3 : b = 0
        · subst h1 h2 h3; go_simp <;> simp [En.zero]
        · have h4 : (b == 0) = false := by simpa using h3
          subst h1 h2; go_simp <;> simp [h4, h3, En.zero]
      · have h4 : (y == 0) = false := by simpa using h2
        subst h1; go_simp <;> simp [h4, h2, En.zero]
    · have h4 : (x == 0) = false := by simpa using h1
      go_simp <;> simp [h4, h1, En.zero]
  generalize #[Value.int .i8 x, .int .i8 y, .int .u8 b] = F at *
  generalize #[Value.int .i8 0, .int .i8 0, .int .u8 0] = G at *
  go_simp
theorem own_sol {w w' : World} {B base n size : Nat} {e t : TypeId} {v : Value} {xs : List Value} {cs : Array Value} (h : w.ownsRow base e size v n xs) (k : Sol B w w') (hB : Box w B t cs) (ht : e ≠ t) : w'.ownsRow base e size v n xs := by
  have hne := hB.unowned h ht
  obtain ⟨hl, h' | ⟨g, cap, cur, rfl, hbg, hg, hr⟩⟩ := h
  · exact ⟨hl, .inl h'⟩
  · have hlt : g < w.heap.size := (Array.getElem?_eq_some_iff.1 hg).1
    exact ⟨hl, .inr ⟨g, cap, cur, rfl, hbg, (k.block g hlt (fun e => hne (by rw [e]; rfl))).trans hg, hr⟩⟩
theorem own_new {w : World} {base n : Nat} {e : TypeId} {size : Nat} {v : Value} {xs : List Value} (h : w.ownsRow base e size v n xs) : v.ownBlock ≠ some w.heap.size := by
  obtain ⟨_, ⟨rfl, _⟩ | ⟨g, cap, cur, rfl, _, hg, _⟩⟩ := h
  · intro h; cases h
  · intro he
    have e' : g = w.heap.size := by injection he
    have := (Array.getElem?_eq_some_iff.1 hg).1
    omega
structure GI (w : World) (BE : Nat) (e : En.E) (o : Option (List Int)) (q : Option Nat) (W : World) : Prop where
  bytes : ∀ m, o = some m → Im.IsBytes m
  res : Box W w.heap.size 53 En.zeroC
  rd : RIs W (w.heap.size + 1) o
  ent : ∃ A c, Box W BE 53 (En.cells e (.slice A e.evs.length c)) ∧ W.ownsRow w.heap.size 59 4 (.slice A e.evs.length c) e.evs.length (En.evCells e.evs) ∧ ∀ b, q = some b → (Value.slice A e.evs.length c).ownBlock ≠ some b
  keep : Below w.heap.size w W
  lt : w.heap.size + 1 < BE
section
variable {w W W' : World} {BE : Nat} {e : En.E} {o o' : Option (List Int)} {q : Option Nat}
theorem GI.sol (h : GI w BE e o q W) (k : Sol (w.heap.size + 1) W W') (hr : RIs W' (w.heap.size + 1) o') (hB : ∀ m, o' = some m → Im.IsBytes m) : GI w BE e o' q W' := by
  obtain ⟨A, c, h1, h2, h3⟩ := h.ent
  obtain ⟨s, b, hb⟩ := h.rd.box
  exact ⟨hB, h.res.sol k (by omega), hr, ⟨A, c, h1.sol k (by have := h.lt; omega), own_sol h2 k hb (by decide), h3⟩, h.keep.trans (k.below (by omega) h.keep.size), h.lt⟩
theorem GI.call (h : GI w BE e o q W) (hb : Below W.heap.size W W') : GI w BE e o q W' := by
  obtain ⟨A, c, h1, h2, h3⟩ := h.ent
  exact ⟨h.bytes, h.res.below hb h.res.lt, h.rd.below hb h.rd.lt, ⟨A, c, h1.below hb h1.lt, own_below h2 hb (Nat.le_refl _), h3⟩, h.keep.trans (hb.mono h.keep.size), h.lt⟩
theorem GI.mark (h : GI w BE e o q W) (x : Obj) : GI w BE e o (some W.heap.size) (W.alloc x) := by
  obtain ⟨A, c, h1, h2, h3⟩ := h.ent
  have hb := one_below W x
  exact ⟨h.bytes, h.res.below hb h.res.lt, h.rd.below hb h.rd.lt, ⟨A, c, h1.below hb h1.lt, own_below h2 hb (Nat.le_refl _), fun b hb' => by injection hb' with hb'; subst hb'; exact own_new h2⟩, h.keep.trans (hb.mono h.keep.size), h.lt⟩
theorem GI.off {b : Nat} (h : GI w BE e o (some b) W) {cs : Array Value} (hQ : Box W b 59 cs) (hb : w.heap.size ≤ b) (i : Nat) (u : Value) : GI w BE e o (some b) (W.setCell ⟨b, i, none⟩ u) := by
  obtain ⟨A, c, h1, h2, h3⟩ := h.ent
  exact ⟨h.bytes, h.res.far (p := ⟨b, i, none⟩) (Box.apart h.res hQ (by decide)) u, h.rd.off (p := ⟨b, i, none⟩) hQ (by decide) u, ⟨A, c, h1.far (p := ⟨b, i, none⟩) (Box.apart h1 hQ (by decide)) u, ownsRow_setCell_other (a := ⟨b, i, none⟩) h2 (h3 b rfl) u, h3⟩, h.keep.setCell (p := ⟨b, i, none⟩) hb u, h.lt⟩
end
section
variable {w W : World} {BE : Nat} {e : En.E} {o : Option (List Int)}
theorem GI.setin (h : GI w BE e o none W) {j : Nat} (hj : j < 8) (p : Gm.In) : GI w BE { e with inp := En.upd e.inp j p } o none (((W.setCell ⟨BE, 2 + j * 3, none⟩ (.int .i8 p.x)).setCell ⟨BE, 2 + j * 3 + 1, none⟩ (.int .i8 p.y)).setCell ⟨BE, 2 + j * 3 + 2, none⟩ (.int .u8 p.b)) := by
  obtain ⟨A, c, h1, h2, _⟩ := h.ent
  have hlt := h.lt
  have b1 := h1.put (2 + j * 3) (.int .i8 p.x)
  have b2 := b1.put (2 + j * 3 + 1) (.int .i8 p.y)
  have b3 := b2.put (2 + j * 3 + 2) (.int .u8 p.b)
  have o1 := ownsRow_setCell_other (a := ⟨BE, 2 + j * 3, none⟩) h2 (h1.unowned h2 (by decide)) (.int .i8 p.x)
  have o2 := ownsRow_setCell_other (a := ⟨BE, 2 + j * 3 + 1, none⟩) o1 (b1.unowned o1 (by decide)) (.int .i8 p.y)
  have o3 := ownsRow_setCell_other (a := ⟨BE, 2 + j * 3 + 2, none⟩) o2 (b2.unowned o2 (by decide)) (.int .u8 p.b)
  rw [En.cells_setin e _ j hj p] at b3
  exact ⟨h.bytes, ((h.res.far (p := ⟨BE, _, none⟩) (by show w.heap.size ≠ BE; omega) _).far (p := ⟨BE, _, none⟩) (by show w.heap.size ≠ BE; omega) _).far (p := ⟨BE, _, none⟩) (by show w.heap.size ≠ BE; omega) _,
    ((h.rd.off (p := ⟨BE, _, none⟩) h1 (by decide) _).off (p := ⟨BE, _, none⟩) b1 (by decide) _).off (p := ⟨BE, _, none⟩) b2 (by decide) _, ⟨A, c, b3, o3, fun b h => (by cases h)⟩,
    ((h.keep.setCell (p := ⟨BE, _, none⟩) (by show w.heap.size ≤ BE; omega) _).setCell (p := ⟨BE, _, none⟩) (by show w.heap.size ≤ BE; omega) _).setCell (p := ⟨BE, _, none⟩) (by show w.heap.size ≤ BE; omega) _, hlt⟩
theorem GI.setrd {o' : Option (List Int)} (h : GI w BE e o none W) (u : Value) (hr : RIs (W.setCell ⟨w.heap.size + 1, 1, none⟩ u) (w.heap.size + 1) o') (hB : ∀ m, o' = some m → Im.IsBytes m) : GI w BE e o' none (W.setCell ⟨w.heap.size + 1, 1, none⟩ u) := by
  obtain ⟨A, c, h1, h2, _⟩ := h.ent
  obtain ⟨s, b, hb⟩ := h.rd.box
  have hlt := h.lt
  exact ⟨hB, h.res.far (p := ⟨w.heap.size + 1, 1, none⟩) (by show w.heap.size ≠ w.heap.size + 1; omega) _, hr, ⟨A, c, h1.far (p := ⟨w.heap.size + 1, 1, none⟩) (by show BE ≠ w.heap.size + 1; omega) _, ownsRow_setCell_other (a := ⟨w.heap.size + 1, 1, none⟩) h2 (hb.unowned h2 (by decide)) _, fun b h => (by cases h)⟩, h.keep.setCell (p := ⟨w.heap.size + 1, 1, none⟩) (by show w.heap.size ≤ w.heap.size + 1; omega) _, hlt⟩
end
theorem evs1_fill (k s g p : Int) : Instr.fill (fun i => some (i * 4, 4)) ((Array.range (1 * 4)).map ((Value.agg #[.int .i64 0, .int .i64 0, .int .i64 0, .int .i64 0]).cells[· % (Value.agg #[.int .i64 0, .int .i64 0, .int .i64 0, .int .i64 0]).cells.size]!)) [(0, .agg #[.int .i64 k, .int .i64 s, .int .i64 g, .int .i64 p])] = some #[.int .i64 k, .int .i64 s, .int .i64 g, .int .i64 p] := by kernel_rfl
theorem ev_parts : ∃ i, Try.prog.info? 59 = some i ∧ i.zero = some (.agg #[.int .i64 0, .int .i64 0, .int .i64 0, .int .i64 0]) ∧ i.size = 4 ∧ i.bytes = 32 := by
  have h := ev_info
  cases hq : Try.prog.info? 59 with
  | none => rw [hq] at h; cases h
  | some i =>
    rw [hq] at h
    simp only [Option.map_some, Option.some.injEq, Prod.mk.injEq] at h
    exact ⟨i, rfl, h.1, h.2.1, h.2.2⟩
theorem evs1 (k s g p : Int) (W : World) : (Instr.buildSlice 47 1 #[(0, .agg #[.int .i64 k, .int .i64 s, .int .i64 g, .int .i64 p])]).run Try.prog W = .ok (.slice (some ⟨W.heap.size, 0, none⟩) 1 1) (W.alloc (.cells #[.int .i64 k, .int .i64 s, .int .i64 g, .int .i64 p] 59)) := by
  obtain ⟨i, hq, hz, hs, _⟩ := ev_parts
  exact run_buildSlice W _ _ 1 _ _ i _ Try.underlying47 hq hz (by rw [hs]; decide) (by rw [hs]; decide) (by rw [hs]; exact evs1_fill k s g p)
theorem ev_built0 (v : Int) : Try.prog.built 59 [(0, .int .i64 v)] = some #[.int .i64 v, .int .i64 0, .int .i64 0, .int .i64 0] := by kernel_rfl
theorem refget_own (l : List Int) (w : World) (hB : Im.IsBytes l) :
    Calls Try.prog 62 #[.string (strOfNums l)] w fun r w' =>
      (∃ e A c, En.get l = some e ∧ r = .returned (.tuple #[.agg (En.cells e (.slice A e.evs.length c)), .int .i64 0]) ∧ w'.ownsRow w.heap.size 59 4 (.slice A e.evs.length c) e.evs.length (En.evCells e.evs) ∧ Below w.heap.size w w') ∨
      (En.get l = none ∧ r = .returned (.tuple #[.agg En.zeroC, .int .i64 2]) ∧ Below w.heap.size w w') := by
  have hBo : ∀ m, some l = some m → Im.IsBytes m := fun m hm => by injection hm with hm; subst hm; exact hB
  have ST0 : Sx.St (En.dec l) (fun r => (Im.rdn 4 r).bind fun q => (Im.rdn 1 q.2).bind fun k => Sx.fEv q.1 k.1.toNat 0 [] k.2) (some l) := by
    show En.dec l = _
    unfold En.dec Sx.fEv En.decEvents
    simp only [Option.bind_assoc, Nat.sub_zero]
  have ST1 := ST0.num (g := fun a r => (Im.rdn 1 r).bind fun k => Sx.fEv a k.1.toNat 0 [] k.2) 4 (fun r => rfl)
  have ST2 := ST1.num (g := fun a r => Sx.fEv (Sx.num 4 (some l)) a.toNat 0 [] r) 1 (fun r => rfl)
  have hB1 := Sx.rest_bytes (n := 4) hBo
  have hB2 := Sx.rest_bytes (n := 1) hB1
  have hn1 := Sx.num_lt (n := 4) hBo
  have hn2 := Sx.num_lt (n := 1) hB1
  have c1 := fun X hX => qh (rint_any 4 4 rfl (some l) (w.heap.size + 1) X (by decide) hBo hX)
  have c2 := fun X hX => qh (rint_any 1 1 rfl (Sx.rest 4 (some l)) (w.heap.size + 1) X (by decide) hB1 hX)
  generalize Sx.rest 1 (Sx.rest 4 (some l)) = o2 at *
  generalize Sx.num 1 (Sx.rest 4 (some l)) = nn at *
  generalize Sx.rest 4 (some l) = o1 at *
  generalize Sx.num 4 (some l) = fr at *
  obtain ⟨N, rfl⟩ := Int.eq_ofNat_of_zero_le hn2.1
  rw [Int.toNat_natCast] at ST2
  have HST2 := qh ST2
  have HB1 := qh hB1
  have HB2 := qh hB2
  have hN : N < 256 := by have := hn2.2; omega
  have Z0 := qh ((Box.made w 53 En.zeroC).alloc (.cells #[.string (strOfNums l), .bool false] 82))
  have R0 := qh (show RIs ((w.alloc (.cells En.zeroC 53)).alloc (.cells #[.string (strOfNums l), .bool false] 82)) (w.heap.size + 1) (some l) from Box.made_at (n := w.heap.size + 1) (w.alloc (.cells En.zeroC 53)) 82 #[.string (strOfNums l), .bool false] (by simp))
  have K0 := qh (two_below' w (.cells En.zeroC 53) (.cells #[.string (strOfNums l), .bool false] 82))
  have b7 := en_built7 fr
  generalize strOfNums l = sl at *
  clear ST0 ST1 ST2 hB1 hB2 hBo
  go_enter Try.func62, Try.ntmps62
  go_upto_region 3 with (first | (with_reducible refine alloc_en rfl rfl ?_) | (refine wpList_build_is rfl (t := 53) (vs := [(0, .int .i64 fr)]) rfl rfl b7 ?_) | (with_reducible refine en_store_new rfl rfl rfl rfl En.zeroC_size rfl ?_) | (go_at_call 42; ((with_reducible refine ((c1 _ R0.out).out).mono ?_); rintro e w1 ⟨rfl, h1, h2⟩; have R1 := qh h1; have S1 := qh h2; clear h1 h2 c1)))
  have sz1 := S1.out.size
  have s1 : w.heap.size + 1 < w1.heap.size := by simp at sz1; omega
  have G1 := qh (show GI w w1.heap.size ⟨fr, [], En.in0⟩ o1 none (w1.alloc (.cells (En.cells ⟨fr, [], En.in0⟩ (.slice none 0 0)) 53)) from
    ⟨HB1.out, (Z0.out.sol S1.out (by omega)).alloc _, R1.out.alloc _, ⟨none, 0, Box.made _ _ _, ⟨rfl, .inl ⟨rfl, rfl⟩⟩, fun b hb => (by cases hb)⟩, (K0.out.trans (S1.out.below (by omega) (by simp; omega))).alloc (by omega) _, s1⟩)
  generalize w1.alloc (.cells (En.cells ⟨fr, [], En.in0⟩ (.slice none 0 0)) 53) = W1 at *
  generalize w1.heap.size = BE at *
  clear sz1 S1 R1 Z0 R0 K0 b7 hn2
  go_wp2_with (go_at_call 42; ((with_reducible refine ((c2 _ G1.out.rd).out).mono ?_); rintro e w2 ⟨rfl, h1, h2⟩; have G2 := qh (G1.out.sol h2 h1 HB2.out); clear h1 h2 c2))
  go_loopw [7] (fun i wr => ∃ (k : Nat) (acc : List En.Ev) (o : Option (List Int)), k ≤ N ∧ i = .int .i64 k ∧ acc.length = k ∧ Sx.St (En.dec l) (Sx.fEv fr N k acc) o ∧ GI w BE ⟨fr, acc, En.in0⟩ o none wr) (fun i _ => N - (intOf i).toNat)
  case atStart => exact ⟨0, [], o2, Nat.zero_le _, rfl, rfl, HST2.out, G2.out⟩
  case round =>
    obtain ⟨k, acc, o, hk, rfl, hacc, hst, hgi⟩ := hrel
    have GG := qh hgi
    have HST := qh hst
    clear hgi hst
    go_upto_region 5 with fail
    go_cut [28] from 19 to 28 (fun b wx => b = .bool (decide (k < N ∧ o.isSome = true)) ∧ wx = wr)
    case first =>
      by_cases hlt : k < N
      · have hk8 : (k : Int) < N := by omega
        cases o with
        | none =>
          obtain ⟨s, hs⟩ := GG.out.rd
          have r1 := hs.cell 1
          go_wp2_with fail
          go_meet
          exact ⟨by simp, rfl⟩
        | some r =>
          have hs : Box wr (w.heap.size + 1) 82 #[.string (strOfNums r), .bool false] := GG.out.rd
          have r1 := hs.cell 1
          go_wp2_with fail
          go_meet
          exact ⟨by simp [hlt], rfl⟩
      · have hk8 : ¬ (k : Int) < N := by omega
        go_wp2_with fail
        go_meet
        exact ⟨by simp [hlt], rfl⟩
    case rest =>
    obtain ⟨rfl, rfl⟩ := hcut
    by_cases hgo : k < N ∧ o.isSome = true
    · rw [decide_eq_true hgo]
      obtain ⟨hlt, hso⟩ := hgo
      obtain ⟨r, rfl⟩ := Option.isSome_iff_exists.1 hso
      have hr0 := fun m (hm : some r = some m) => GG.out.bytes m hm
      have ca1 := fun X hX => qh (rint_any 1 1 rfl (some r) (w.heap.size + 1) X (by decide) hr0 hX)
      have hr1 := Sx.rest_bytes (n := 1) hr0
      have ca2 := fun X hX => qh (rint_any 1 1 rfl (Sx.rest 1 (some r)) (w.heap.size + 1) X (by decide) hr1 hX)
      have hr2 := Sx.rest_bytes (n := 1) hr1
      have ca3 := fun X hX => qh (rint_any 2 2 rfl (Sx.rest 1 (Sx.rest 1 (some r))) (w.heap.size + 1) X (by decide) hr2 hX)
      have hr3 := Sx.rest_bytes (n := 2) hr2
      have ca4 := fun X hX => qh (rint_any 1 1 rfl (Sx.rest 2 (Sx.rest 1 (Sx.rest 1 (some r)))) (w.heap.size + 1) X (by decide) hr3 hX)
      have hr4 := Sx.rest_bytes (n := 1) hr3
      have hst2 := HST.out.ev hlt
      have HST2 := qh (show Sx.St (En.dec l) (Sx.fEv fr N (k + 1) (acc ++ [⟨Sx.num 1 (some r), Sx.num 1 (Sx.rest 1 (some r)), Sx.num 2 (Sx.rest 1 (Sx.rest 1 (some r))), Sx.num 1 (Sx.rest 2 (Sx.rest 1 (Sx.rest 1 (some r))))⟩])) (Sx.rest 1 (Sx.rest 2 (Sx.rest 1 (Sx.rest 1 (some r))))) from hst2)
      generalize Sx.rest 1 (Sx.rest 2 (Sx.rest 1 (Sx.rest 1 (some r)))) = oD at *
      generalize Sx.num 1 (Sx.rest 2 (Sx.rest 1 (Sx.rest 1 (some r)))) = v4 at *
      generalize Sx.rest 2 (Sx.rest 1 (Sx.rest 1 (some r))) = oC at *
      generalize Sx.num 2 (Sx.rest 1 (Sx.rest 1 (some r))) = v3 at *
      generalize Sx.rest 1 (Sx.rest 1 (some r)) = oB at *
      generalize Sx.num 1 (Sx.rest 1 (some r)) = v2 at *
      generalize Sx.rest 1 (some r) = oA at *
      generalize Sx.num 1 (some r) = v1 at *
      have H1 := qh hr1
      have H2 := qh hr2
      have H3 := qh hr3
      have H4 := qh hr4
      clear hr0 hr1 hr2 hr3 hr4 hst2 HST hso
      go_upto_region 8 with (first | (refine wpList_build_is rfl (t := 59) (vs := [(0, .int .i64 v1)]) rfl rfl (ev_built0 v1) ?_) | (go_at_call 42; ((with_reducible refine ((ca1 _ GG.out.rd).out).mono ?_); rintro e w3 ⟨rfl, h1, h2⟩; have G3 := qh (GG.out.sol h2 h1 H1.out); clear h1 h2 ca1)))
      have GA := qh (G3.out.mark (.cells #[.int .i64 v1, .int .i64 0, .int .i64 0, .int .i64 0] 59))
      have QA := qh (Box.made w3 59 #[.int .i64 v1, .int .i64 0, .int .i64 0, .int .i64 0])
      have bq1 : w.heap.size + 1 < w3.heap.size := G3.out.rd.lt
      have bq2 : w3.heap.size ≠ w.heap.size + 1 := by omega
      generalize w3.alloc (.cells #[.int .i64 v1, .int .i64 0, .int .i64 0, .int .i64 0] 59) = W3 at *
      generalize w3.heap.size = BQ at *
      clear G3 GG
      go_upto_region 9 with (go_at_call 42; ((with_reducible refine ((ca2 _ GA.out.rd).out).mono ?_); rintro e w4 ⟨rfl, h1, h2⟩; have GX := qh (GA.out.sol h2 h1 H2.out); have QX := qh (QA.out.sol h2 bq2); have qx := QX.out.cell; have fx := QX.out.free; have lx := QX.out.lt; clear h1 h2 ca2 GA QA))
      have GB := qh (GX.out.off QX.out (by omega) 1 (.int .i64 v2))
      have QB := qh (QX.out.put 1 (.int .i64 v2))
      generalize w4.setCell ⟨BQ, 1, none⟩ (.int .i64 v2) = W4 at *
      clear qx fx lx GX QX
      go_upto_region 10 with (go_at_call 42; ((with_reducible refine ((ca3 _ GB.out.rd).out).mono ?_); rintro e w5 ⟨rfl, h1, h2⟩; have GX := qh (GB.out.sol h2 h1 H3.out); have QX := qh (QB.out.sol h2 bq2); have qx := QX.out.cell; have fx := QX.out.free; have lx := QX.out.lt; clear h1 h2 ca3 GB QB))
      have GC := qh (GX.out.off QX.out (by omega) 2 (.int .i64 v3))
      have QC := qh (QX.out.put 2 (.int .i64 v3))
      generalize w5.setCell ⟨BQ, 2, none⟩ (.int .i64 v3) = W5 at *
      clear qx fx lx GX QX
      go_upto_region 11 with (go_at_call 42; ((with_reducible refine ((ca4 _ GC.out.rd).out).mono ?_); rintro e w6 ⟨rfl, h1, h2⟩; have GX := qh (GC.out.sol h2 h1 H4.out); have QX := qh (QC.out.sol h2 bq2); have qx := QX.out.cell; have fx := QX.out.free; have lx := QX.out.lt; clear h1 h2 ca4 GC QC))
      have GD := qh (GX.out.off QX.out (by omega) 3 (.int .i64 v4))
      have QD := qh (QX.out.put 3 (.int .i64 v4))
      generalize w6.setCell ⟨BQ, 3, none⟩ (.int .i64 v4) = W6 at *
      clear qx fx lx GX QX
      have QE := qh (show Box W6 BQ 59 #[.int .i64 v1, .int .i64 v2, .int .i64 v3, .int .i64 v4] from QD.out)
      obtain ⟨A, c, hBE, hO, _⟩ := GD.out.ent
      dsimp only at hBE hO
      rw [hacc] at hBE hO
      have n1 := (hBE.cell 1).trans (En.cells_1 _ _)
      have qe := QE.out.cell
      have HBE := qh hBE
      have HOW := qh hO
      have sl1 := evs1 v1 v2 v3 v4
      obtain ⟨i0, hi0, hz0, hz1, hz2⟩ := ev_parts
      have hI := qh hi0
      have hZ := qh hz0
      have hS := qh hz1
      have hY := qh hz2
      have kB := GD.out.keep.size
      clear hBE hO hi0 hz0 hz1 hz2 QD
      go_upto_region 6 with ((with_reducible refine append_gate (t := 47) (e := 59) (size := 4) (bytes := 32) rfl rfl Try.underlying47 hI.out hZ.out hS.out hY.out rfl (by decide) ?_); refine Appends.mk (base := w.heap.size) (n := k) (xs := En.evCells acc) rfl (HOW.out.alloc _) (Lies.boxed (n := 1) (size := 4) (xs := [Value.int .i64 v1, .int .i64 v2, .int .i64 v3, .int .i64 v4]) (Box.made W6 59 #[.int .i64 v1, .int .i64 v2, .int .i64 v3, .int .i64 v4]) rfl) (by intro u hu; simp at hu; rcases hu with rfl | rfl | rfl | rfl <;> rfl) (by unfold maxLen; omega) (by omega) (by simp; omega) ?_; intro A7 c7 w7 own7 hg7; have OW7 := qh own7; have HG7 := qh hg7; have B7 := qh (grown_box HBE.out HOW.out (by decide) hg7); have b7 := B7.out.cell; have f7 := B7.out.free; have l7 := B7.out.lt; clear own7 hg7)
      have hlen : (acc ++ [(⟨v1, v2, v3, v4⟩ : En.Ev)]).length = k + 1 := by rw [List.length_append, hacc]; rfl
      have hcel : En.evCells (acc ++ [(⟨v1, v2, v3, v4⟩ : En.Ev)]) = En.evCells acc ++ [Value.int .i64 v1, .int .i64 v2, .int .i64 v3, .int .i64 v4] := by unfold En.evCells; rw [List.flatMap_append]; rfl
      have hBne : BE ≠ w.heap.size := by have := GD.out.lt; omega
      have G8 := qh (show GI w BE ⟨fr, acc ++ [⟨v1, v2, v3, v4⟩], En.in0⟩ oD none (w7.setCell ⟨BE, 1, none⟩ (.slice A7 (k + 1) c7)) from by
        obtain ⟨s, b, hb⟩ := GD.out.rd.box
        refine ⟨GD.out.bytes, (grown_box GD.out.res HOW.out (by decide) HG7.out).far (p := ⟨BE, 1, none⟩) (fun e => hBne e.symm) _, (GD.out.rd.stays ((grown_box hb HOW.out (by decide) HG7.out).is.trans hb.is.symm)).off (p := ⟨BE, 1, none⟩) B7.out (by decide) _, ⟨A7, c7, ?_, ?_, fun b h => (by cases h)⟩, (below_gone (GD.out.keep.alloc kB _) HG7.out (own_at HOW.out) (Nat.le_refl _)).setCell (p := ⟨BE, 1, none⟩) (by have := GD.out.lt; show w.heap.size ≤ BE; omega) _, GD.out.lt⟩
        · dsimp only
          rw [hlen]
          exact B7.out.put 1 (.slice A7 (k + 1) c7)
        · dsimp only
          rw [hlen, hcel]
          exact ownsRow_setCell_other (a := ⟨BE, 1, none⟩) OW7.out (B7.out.unowned OW7.out (by decide)) _)
      clear n1 qe b7 f7 l7
      go_wp2
      go_roundw
      case rel => exact ⟨k + 1, _, oD, by omega, by go_num, hlen, HST2.out, G8.out⟩
      case measure => simp [intOf]; omega
    · rw [decide_eq_false hgo]
      have hst3 : Sx.St (En.dec l) (fun r => (Im.rdn 1 r).bind fun q => Sx.fIn fr acc q.1.toNat 0 En.in0 q.2) o := by
        cases o with
        | none => exact HST.out
        | some r =>
          obtain rfl : k = N := by
            refine Classical.byContradiction fun hne => hgo ⟨by omega, rfl⟩
          exact HST.out.evs_end
      have hbo := GG.out.bytes
      have cm := fun X hX => qh (rint_any 1 1 rfl o (w.heap.size + 1) X (by decide) hbo hX)
      have hst4 := hst3.num (g := fun a r => Sx.fIn fr acc a.toNat 0 En.in0 r) 1 (fun r => rfl)
      have hb4 := Sx.rest_bytes (n := 1) hbo
      have hm := Sx.num_lt (n := 1) hbo
      generalize Sx.rest 1 o = p at *
      generalize Sx.num 1 o = mm at *
      obtain ⟨M, rfl⟩ := Int.eq_ofNat_of_zero_le hm.1
      rw [Int.toNat_natCast] at hst4
      have hM : M < 256 := by have := hm.2; omega
      have HB4 := qh hb4
      have HST4 := qh hst4
      clear hst3 hst4 hb4 hbo hm HST hgo
      go_wp2_with (go_at_call 42; ((with_reducible refine ((cm _ GG.out.rd).out).mono ?_); rintro e w3 ⟨rfl, h1, h2⟩; have G3 := qh (GG.out.sol h2 h1 HB4.out); clear h1 h2 cm))
      go_loopw [10] (fun i wr => ∃ (j : Nat) (f : Nat → Gm.In) (o : Option (List Int)), j ≤ 8 ∧ i = .int .i64 j ∧ Sx.St (En.dec l) (Sx.fIn fr acc M j f) o ∧ GI w BE ⟨fr, acc, f⟩ o none wr ∧ ∀ i, i < 8 → Gm.tyIn (f i)) (fun i _ => 8 - (intOf i).toNat)
      case atStart => exact ⟨0, En.in0, p, Nat.zero_le _, rfl, HST4.out, G3.out, En.in0_ty⟩
      case round =>
        obtain ⟨j, f, o', hj, rfl, hst, hgi, hfty⟩ := hrel
        have GJ := qh hgi
        have HSJ := qh hst
        clear hgi hst G3 HST4
        by_cases hlt : j < 8
        · have hj8 : (j : Int) < 8 := by omega
          have hsh := En.shr_bit ⟨M, hM⟩ ⟨j, hlt⟩
          dsimp only at hsh
          cases hbit : M.testBit j
          · rw [hbit] at hsh
            simp only [Bool.false_eq_true, if_false] at hsh
            have HS2 := qh (HSJ.out.skip hlt hbit)
            clear hbit
            go_wp2
            go_roundw
            case rel => exact ⟨j + 1, f, o', by omega, by go_num, HS2.out, GJ.out, hfty⟩
            case measure => simp [intOf]; omega
          · rw [hbit] at hsh
            simp only [if_true] at hsh
            have HS2 := qh (HSJ.out.input hlt hbit)
            clear hbit
            have hbo := GJ.out.bytes
            have ci := fun X hX => qh (rinput_any o' (w.heap.size + 1) X hbo hX)
            have hbr : ∀ m, Sx.inRest o' = some m → Im.IsBytes m := Sx.rest_bytes (n := 1) (Sx.rest_bytes (n := 1) (Sx.rest_bytes (n := 1) hbo))
            have hty2 := Sx.inp_ty hbo
            have haf : Sx.inAfter o' = if En.zero (Sx.inp o') then none else Sx.inRest o' := rfl
            rw [haf] at HS2
            generalize Sx.inRest o' = oR at *
            generalize Sx.inp o' = pp at *
            obtain ⟨x, y, u⟩ := pp
            dsimp only at ci
            have HBR := qh hbr
            have hieq := fun W => in_eql x y u W
            clear hbo hbr haf HSJ
            go_upto_region 18 with (go_at_call 61; ((with_reducible refine ((ci _ GJ.out.rd).out).mono ?_); rintro e w4 ⟨rfl, h1, h2⟩; have G4 := qh (GJ.out.sol h2 h1 HBR.out); obtain ⟨A4, c4, hB4, hO4, _⟩ := G4.out.ent; have b4 := (hB4.cell (2 + j * 3)).trans (En.cells_in _ _ j 0 hlt (by omega)); have b5 := (hB4.cell (2 + j * 3 + 1)).trans (En.cells_in _ _ j 1 hlt (by omega)); have b6 := (hB4.cell (2 + j * 3 + 2)).trans (En.cells_in _ _ j 2 hlt (by omega)); (simp only [Gm.In.cells, List.getElem?_cons_zero, List.getElem?_cons_succ, Nat.add_zero] at b4 b5 b6); have f4 := hB4.free; have l4 := hB4.lt; clear h1 h2 ci hB4 hO4))
            have G5 := qh (G4.out.setin hlt ⟨x, y, u⟩)
            dsimp only at G5
            generalize ((w4.setCell ⟨BE, 2 + j * 3, none⟩ (.int .i8 x)).setCell ⟨BE, 2 + j * 3 + 1, none⟩ (.int .i8 y)).setCell ⟨BE, 2 + j * 3 + 2, none⟩ (.int .u8 u) = W5 at *
            clear b4 b5 b6 f4 l4 G4 GJ
            have hfty2 : ∀ i, i < 8 → Gm.tyIn (En.upd f j ⟨x, y, u⟩ i) := fun i hi => by
              by_cases e : i = j
              · subst e; rw [En.upd_same]; exact hty2
              · rw [En.upd_other _ _ e]; exact hfty i hi
            obtain ⟨A5, c5, hB5, _, _⟩ := G5.out.ent
            have e0 := (hB5.cell (2 + j * 3)).trans (En.cells_in _ _ j 0 hlt (by omega))
            have e1 := (hB5.cell (2 + j * 3 + 1)).trans (En.cells_in _ _ j 1 hlt (by omega))
            have e2 := (hB5.cell (2 + j * 3 + 2)).trans (En.cells_in _ _ j 2 hlt (by omega))
            dsimp only at e0 e1 e2
            rw [En.upd_same] at e0 e1 e2
            simp only [Gm.In.cells, List.getElem?_cons_zero, List.getElem?_cons_succ, Nat.add_zero] at e0 e1 e2
            have l5 := hB5.lt
            clear hB5
            cases oR with
            | none =>
              obtain ⟨s, hs⟩ := G5.out.rd
              have r1 := hs.cell 1
              have r2 := hs.free 1
              have G6 := qh (G5.out.setrd (.bool true) G5.out.rd.bad (fun m hm => (by cases hm)))
              have HS3 := qh (show Sx.St (En.dec l) (Sx.fIn fr acc M (j + 1) (En.upd f j ⟨x, y, u⟩)) none from by have := HS2.out; split at this <;> exact this)
              clear hs HS2
              go_wp2
              go_roundw
              case rel => exact ⟨j + 1, _, none, by omega, by go_num, HS3.out, G6.out, hfty2⟩
              case measure => simp [intOf]; omega
            | some r' =>
              have hs : Box W5 (w.heap.size + 1) 82 #[.string (strOfNums r'), .bool false] := G5.out.rd
              have r1 := hs.cell 1
              have r2 := hs.free 1
              cases hz : En.zero ⟨x, y, u⟩
              · rw [hz] at hieq HS2
                have G6 := qh (G5.out.setrd (.bool false) (show RIs _ _ (some r') from hs.put 1 (.bool false)) G5.out.bytes)
                clear hs hz
                go_wp2
                go_roundw
                case rel => exact ⟨j + 1, _, some r', by omega, by go_num, HS2.out, G6.out, hfty2⟩
                case measure => simp [intOf]; omega
              · rw [hz] at hieq HS2
                have G6 := qh (G5.out.setrd (.bool true) G5.out.rd.bad (fun m hm => (by cases hm)))
                clear hs hz
                go_wp2
                go_roundw
                case rel => exact ⟨j + 1, _, none, by omega, by go_num, HS2.out, G6.out, hfty2⟩
                case measure => simp [intOf]; omega
        · have hj8 : ¬ (j : Int) < 8 := by omega
          obtain rfl : j = 8 := by omega
          have hget := Sx.get_end HSJ.out
          have hbo := GJ.out.bytes
          have ce := fun X hX => qh (rend_any o' (w.heap.size + 1) X hbo hX)
          obtain ⟨A, c, hBE, hO, _⟩ := GJ.out.ent
          dsimp only at hBE hO
          have BB := qh hBE
          have OO := qh hO
          have ZZ := qh GJ.out.res
          have KK := qh GJ.out.keep
          have RR := qh GJ.out.rd
          have h63 : acc.length ≤ maxLen := by rw [hacc]; unfold maxLen; omega
          clear hacc
          have cmy := fun X hX => qh (refmayen_any ⟨fr, acc, f⟩ A acc.length c X rfl h63 hfty hX)
          have hL0 := qh (Lies.owned hO)
          clear HSJ hBE hO hbo GJ
          by_cases hend : Sx.ended o' = true
          · rw [hend] at ce
            have ho : o' = some [] := by
              unfold Sx.ended at hend
              split at hend
              · rfl
              · cases hend
            subst ho
            by_cases hok : En.Ok ⟨fr, acc, f⟩
            · rw [decide_eq_true hok] at cmy
              have HG := qh (show En.get l = some ⟨fr, acc, f⟩ from by rw [hget]; show (if En.Ok ⟨fr, acc, f⟩ then _ else _) = _; rw [if_pos hok])
              clear hget hok hend
              go_wp2_with (first | ((with_reducible refine en_load_g ?_ rfl ?_); (focus first | rfl | kernel_rfl | simp [Region.wanted, yielded]); apply LoadEn.mk rfl; (focus (with_reducible exact BB.out)); dsimp only) | ((with_reducible refine en_load rfl rfl ?_); apply LoadEn.mk rfl; (focus (with_reducible exact B2.out)); dsimp only) | ((with_reducible refine blk_gate (t := 53) (size := 26) rfl rfl en_info ?_); refine StoreBlk.mk (B := w.heap.size) rfl rfl Z2.out (En.cells_one _ _ rfl) (En.cells_size _ _) En.zeroC_size ?_) | (go_at_call 45; ((with_reducible refine ((ce _ RR.out).out).mono ?_); rintro e w4 ⟨rfl, rfl⟩)) | (go_at_call 24; ((with_reducible refine ((cmy _ hL0.out).out).mono ?_); rintro e w5 ⟨rfl, hb⟩; have B2 := qh (BB.out.below hb BB.out.lt); have Z2 := qh (ZZ.out.below hb ZZ.out.lt); have O2 := qh (own_below OO.out hb (Nat.le_refl _)); have K2 := qh (KK.out.trans (hb.mono KK.out.size)); clear hb)))
              exact bodyPost_ret (results_cell_tmp rfl _ _ w.heap.size 53 _ _ rfl (Z2.out.row (En.cells ⟨fr, acc, f⟩ (.slice A acc.length c))) Try.underlying53 rfl en_info) rfl (.inl ⟨⟨fr, acc, f⟩, A, c, HG.out, rfl, own_setRow O2.out (Z2.out.unowned O2.out (by decide)) _, Below.setRow' K2.out (Nat.le_refl _) _⟩)
            · rw [decide_eq_false hok] at cmy
              have HG := qh (show En.get l = none from by rw [hget]; show (if En.Ok ⟨fr, acc, f⟩ then _ else _) = _; rw [if_neg hok])
              clear hget hok hend
              go_wp2_with (first | ((with_reducible refine en_load_g ?_ rfl ?_); (focus first | rfl | kernel_rfl | simp [Region.wanted, yielded]); apply LoadEn.mk rfl; (focus (with_reducible exact BB.out)); dsimp only) | (refine wpList_build_is rfl (t := 53) (vs := []) rfl rfl en_built ?_) | ((with_reducible refine blk_gate (t := 53) (size := 26) rfl rfl en_info ?_); refine StoreBlk.mk (B := w.heap.size) rfl rfl Z2.out en_zero_one En.zeroC_size En.zeroC_size ?_) | (go_at_call 45; ((with_reducible refine ((ce _ RR.out).out).mono ?_); rintro e w4 ⟨rfl, rfl⟩)) | (go_at_call 24; ((with_reducible refine ((cmy _ hL0.out).out).mono ?_); rintro e w5 ⟨rfl, hb⟩; have Z2 := qh (ZZ.out.below hb ZZ.out.lt); have K2 := qh (KK.out.trans (hb.mono KK.out.size)); clear hb)))
              exact bodyPost_ret (results_cell_tmp rfl _ _ w.heap.size 53 _ _ rfl (Z2.out.row En.zeroC) Try.underlying53 rfl (by rw [En.zeroC_size]; exact en_info)) rfl (.inr ⟨HG.out, rfl, Below.setRow' K2.out (Nat.le_refl _) _⟩)
          · have hef : Sx.ended o' = false := by simpa using hend
            rw [hef] at ce
            have HG := qh (show En.get l = none from by
              rw [hget]
              match o', hef with
              | none, _ => rfl
              | some (x :: r), _ => rfl
              | some [], h => cases h)
            clear hget hend hef
            go_wp2_with (first | (refine wpList_build_is rfl (t := 53) (vs := []) rfl rfl en_built ?_) | ((with_reducible refine blk_gate (t := 53) (size := 26) rfl rfl en_info ?_); refine StoreBlk.mk (B := w.heap.size) rfl rfl ZZ.out en_zero_one En.zeroC_size En.zeroC_size ?_) | (go_at_call 45; ((with_reducible refine ((ce _ RR.out).out).mono ?_); rintro e w4 ⟨rfl, rfl⟩)))
            exact bodyPost_ret (results_cell_tmp rfl _ _ w.heap.size 53 _ _ rfl (ZZ.out.row En.zeroC) Try.underlying53 rfl (by rw [En.zeroC_size]; exact en_info)) rfl (.inr ⟨HG.out, rfl, Below.setRow' KK.out (Nat.le_refl _) _⟩)
end Go.Proofs.Ytgmlbimgcifenaa
namespace By
open Go
end By
namespace Go.Proofs.Ytgmlbimgcifenaa
open Go.RowKit Go.Shelf
theorem Lies.grown {w w' : World} {B size n : Nat} {A : Option Addr} {xs : List Value} {row : Option Nat} (h : Lies w B size A n xs) (hg : w.grownBy w' row) (hr : ∀ r, row = some r → B ≤ r) (hB : B ≤ w.heap.size) : Lies w' B size A n xs :=
  h.stays fun b hb => hg.block b (Nat.lt_of_lt_of_le hb hB) (fun e => by have := hr b e.symm; omega)
theorem Box.lies {w : World} {g m : Nat} {cur : Array Value} {bs : List Int} (h : Box w g 5 cur) (hm : bs.length = m) (hc : ∀ (j : Nat) (x : Int), bs[j]? = some x → cur[j]? = some (Value.int .u8 x)) : Lies w w.heap.size 1 (some ⟨g, 0, none⟩) m (Im.u8s bs) := by
  refine ⟨by rw [Im.u8s_len]; omega, fun _ => ⟨_, rfl, h.lt⟩, fun ad e h0 j u hu => ?_⟩
  injection e with e
  subst e
  have hadd : (⟨g, 0, none⟩ : Addr).add j = ⟨g, j, none⟩ := by unfold Addr.add; split <;> simp_all
  unfold Im.u8s at hu
  rw [List.getElem?_map] at hu
  cases hj : bs[j]? with
  | none => rw [hj] at hu; cases hu
  | some x =>
    rw [hj] at hu
    injection hu with hu
    subst hu
    rw [hadd, h.cell j]
    exact hc j x hj
theorem Box.over {w w' : World} {g B : Nat} {t : TypeId} {cs : Array Value} {row : Option Nat} (h : Box w g t cs) (hg : w.grownBy w' row) (hr : ∀ r, row = some r → B ≤ r) (hlt : g < B) : Box w' g t cs :=
  h.grown hg (fun e => by have := hr g e; omega)
end Go.Proofs.Ytgmlbimgcifenaa
namespace Fu
open Go Kd
def inpU (j : Nat) : Nat → Gm.In := fun i => if i < j then ⟨0, 0, 1⟩ else ⟨0, 0, 0⟩
def lv (j : Nat) : List En.Ev := (List.range j).map fun s : Nat => ⟨2, (s : Int), 1, (s : Int)⟩
def jn (j : Nat) : List En.Ev := (List.range j).map fun s : Nat => ⟨1, (s : Int), 2, (s : Int)⟩
def fe (i : Int) (k : Nat) : En.E := ⟨i, lv k ++ jn k, inpU 8⟩
theorem rows : ∀ k, k < 9 → En.Row (-1) (lv k ++ jn k) := by decide +kernel
theorem flat_len {α β : Type} (f : α → List β) (c : Nat) : ∀ (l : List α), (∀ s ∈ l, (f s).length = c) → (l.flatMap f).length = l.length * c
  | [], _ => by simp
  | a :: l, h => by
    rw [List.flatMap_cons, List.length_append, h a (by simp), flat_len f c l (fun s hs => h s (by simp [hs])), List.length_cons, Nat.add_mul]
    omega
structure Is (l : List En.S) (n k : Nat) : Prop where
  len : l.length = n
  each : ∀ j (h : j < l.length), l[j].e = fe j k
theorem Is.next {l : List En.S} {n k : Nat} (h : Is l n k) {s : En.S} (hs : s.e = fe n k) : Is (l ++ [s]) (n + 1) k := by
  refine ⟨by rw [List.length_append, h.len]; rfl, fun j hj => ?_⟩
  by_cases hlt : j < l.length
  · rw [List.getElem_append_left hlt]; exact h.each j hlt
  · have e : j = n := by rw [List.length_append, h.len] at hj; simp at hj; rw [h.len] at hlt; omega
    subst e
    rw [List.getElem_append_right (by omega)]
    simp only [h.len, Nat.sub_self, List.getElem_cons_zero]
    exact hs
end Fu
namespace Go.Proofs.Ytgmlbimgcifenaa
open Go.RowKit Go.Shelf
theorem own_rowbox {w : World} {base size m c : Nat} {e : TypeId} {A : Option Addr} {xs : List Value} (h : w.ownsRow base e size (.slice A m c) m xs) : xs.length = m * size ∧ (m = 0 ∨ ∃ g cur, A = some ⟨g, 0, none⟩ ∧ Box w g e cur ∧ ∀ (j : Nat) (v : Value), xs[j]? = some v → cur[j]? = some v) := by
  obtain ⟨hl, ⟨_, h0⟩ | ⟨g, cap, cur, hv, hbg, hg, hnc, _, _, htake⟩⟩ := h
  · exact ⟨hl, .inl h0⟩
  · injection hv with hA _ hc
    refine ⟨hl, .inr ⟨g, cur, hA, ⟨hg⟩, fun j x hj => ?_⟩⟩
    rw [← htake, List.getElem?_take] at hj
    split at hj
    · simpa using hj
    · cases hj
def EvR (s : En.S) (X : World) : Prop := s.e.evs = [] ∨ ∃ g cur, s.adr = some ⟨g, 0, none⟩ ∧ Box X g 59 cur ∧ ∀ (j : Nat) (v : Value), (En.evCells s.e.evs)[j]? = some v → cur[j]? = some v
theorem EvR.keep {s : En.S} {X X' : World} (h : EvR s X) (hk : ∀ g cs, Box X g 59 cs → Box X' g 59 cs) : EvR s X' := by
  rcases h with h | ⟨g, cur, h1, h2, h3⟩
  · exact .inl h
  · exact .inr ⟨g, cur, h1, hk _ _ h2, h3⟩
theorem EvR.lies {s : En.S} {X : World} (h : EvR s X) : Lies X X.heap.size 4 s.adr s.e.evs.length (En.evCells s.e.evs) := by
  rcases h with h | ⟨g, cur, h1, h2, h3⟩
  · rw [h]; exact Lies.empty
  · refine ⟨En.evCells_len _, fun _ => ⟨_, h1, h2.lt⟩, fun ad e _ j u hj => ?_⟩
    rw [h1] at e
    injection e with e
    subst e
    rw [show Addr.add ⟨g, 0, none⟩ j = ⟨g, j, none⟩ by unfold Addr.add; split <;> simp_all]
    exact (h2.cell j).trans (h3 j u hj)
structure Gf (w : World) (B : Nat) (q : Ms.S) (X : World) : Prop where
  box : Box X B 29 q.cells
  own : X.ownsRow w.heap.size 53 26 (.slice q.al q.m.log.length q.cl) q.m.log.length (En.sCells q.m.log)
  kept : Below w.heap.size w X
  low : w.heap.size ≤ B
  bare : q.m.ins = [] ∧ q.m.data = []
  ents : ∀ s ∈ q.m.log, EvR s X ∧ s.e.evs.length ≤ 16
theorem Gf.lies {w X : World} {B : Nat} {q : Ms.S} (h : Gf w B q X) (hl : q.m.log.length ≤ 1000) : LiesM X X.heap.size q := by
  refine ⟨?_, ⟨Lies.owned h.own, fun s hs => (h.ents s hs).1.lies, fun s hs => ?_⟩, ?_, by rw [h.bare.1]; exact Nat.zero_le _, by unfold maxLen; omega, by rw [h.bare.2]; exact Nat.zero_le _⟩
  · rw [h.bare.1]; exact Lies.empty
  · have := (h.ents s hs).2; unfold maxLen; omega
  · rw [h.bare.2]; exact Lies.empty
theorem Gf.call {w X X' : World} {B : Nat} {q : Ms.S} (h : Gf w B q X) (hb : Below X.heap.size X X') : Gf w B q X' :=
  ⟨h.box.below hb h.box.lt, own_below h.own hb (Nat.le_refl _), h.kept.trans (hb.mono h.kept.size), h.low, h.bare, fun s hs => ⟨(h.ents s hs).1.keep fun g cs k => k.below hb k.lt, (h.ents s hs).2⟩⟩
theorem Gf.step {w X w7 : World} {B c7 : Nat} {A7 : Option Addr} {q : Ms.S} {s : En.S} {o : Obj} (h : Gf w B q X) (hs : EvR s X ∧ s.e.evs.length ≤ 16)
    (own7 : w7.ownsRow w.heap.size 53 26 (.slice A7 (q.m.log.length + 1) c7) (q.m.log.length + 1) (En.sCells q.m.log ++ En.S.cells s)) (hg : (X.alloc o).grownBy w7 (Value.slice q.al q.m.log.length q.cl).ownBlock) :
    Gf w B { q with m := { q.m with log := q.m.log ++ [s] }, al := A7, cl := c7 } (w7.setCell ⟨B, 14, none⟩ (.slice A7 (q.m.log.length + 1) c7)) := by
  have hb := grown_box h.box h.own (by decide) hg
  have e1 : (q.m.log ++ [s]).length = q.m.log.length + 1 := by rw [List.length_append]; rfl
  have e2 : En.sCells (q.m.log ++ [s]) = En.sCells q.m.log ++ En.S.cells s := by unfold En.sCells; rw [List.flatMap_append, List.flatMap_cons, List.flatMap_nil, List.append_nil]
  have hk : ∀ g cs, Box X g 59 cs → Box (w7.setCell ⟨B, 14, none⟩ (.slice A7 (q.m.log.length + 1) c7)) g 59 cs := fun g cs k => by
    have k2 := grown_box k h.own (by decide) hg
    exact k2.far (p := ⟨B, 14, none⟩) (Box.apart k2 hb (by decide)) _
  refine ⟨?_, ?_, (below_gone (h.kept.alloc h.kept.size _) hg (own_at h.own) (Nat.le_refl _)).setCell (p := ⟨B, 14, none⟩) h.low _, h.low, h.bare, ?_⟩
  · have k := hb.put 14 (.slice A7 (q.m.log.length + 1) c7)
    have e : q.cells.setIfInBounds 14 (.slice A7 (q.m.log.length + 1) c7) = ({ q with m := { q.m with log := q.m.log ++ [s] }, al := A7, cl := c7 } : Ms.S).cells := by
      unfold Ms.S.cells Ms.cells Ms.S.sl
      dsimp only
      rw [e1]
      rfl
    rw [e] at k
    exact k
  · dsimp only
    rw [e1, e2]
    exact ownsRow_setCell_other (a := ⟨B, 14, none⟩) own7 (hb.unowned own7 (by decide)) _
  · intro x hx
    rcases List.mem_append.1 hx with hx | hx
    · exact ⟨(h.ents x hx).1.keep hk, (h.ents x hx).2⟩
    · obtain rfl := List.mem_singleton.1 hx; exact ⟨hs.1.keep hk, hs.2⟩
structure Fi (X0 : World) (e : En.E) (A : Option Addr) (c : Nat) (X : World) : Prop where
  kept : Below X0.heap.size X0 X
  ent : Box X X0.heap.size 53 (En.cells e (.slice A e.evs.length c))
  own : X.ownsRow X0.heap.size 59 4 (.slice A e.evs.length c) e.evs.length (En.evCells e.evs)
theorem Fi.inp {X0 X : World} {f : Int} {evs : List En.Ev} {A : Option Addr} {c j : Nat} (h : Fi X0 ⟨f, evs, Fu.inpU j⟩ A c X) (hj : j < 8) : Fi X0 ⟨f, evs, Fu.inpU (j + 1)⟩ A c (X.setCell ⟨X0.heap.size, 2 + j * 3 + 2, none⟩ (.int .u8 1)) := by
  refine ⟨h.kept.setCell (p := ⟨X0.heap.size, 2 + j * 3 + 2, none⟩) (Nat.le_refl _) _, ?_, ownsRow_setCell_other (a := ⟨X0.heap.size, 2 + j * 3 + 2, none⟩) h.own (h.ent.unowned h.own (by decide)) _⟩
  have k := h.ent.put (2 + j * 3 + 2) (.int .u8 1)
  have e : (En.cells ⟨f, evs, Fu.inpU j⟩ (.slice A evs.length c)).setIfInBounds (2 + j * 3 + 2) (.int .u8 1) = En.cells ⟨f, evs, Fu.inpU (j + 1)⟩ (.slice A evs.length c) := by
    have h8 : j = 0 ∨ j = 1 ∨ j = 2 ∨ j = 3 ∨ j = 4 ∨ j = 5 ∨ j = 6 ∨ j = 7 := by omega
    rcases h8 with rfl | rfl | rfl | rfl | rfl | rfl | rfl | rfl <;> rfl
  rw [e] at k
  exact k
end Go.Proofs.Ytgmlbimgcifenaa
namespace Im
section
variable {α : Type} {dec : List Int → Option (α × List Int)} {f : Option (List Int) → α} {g : Option (List Int) → Option (List Int)}
def itAt (f : Option (List Int) → α) (g : Option (List Int) → Option (List Int)) (o : Option (List Int)) : Nat → List α × Option (List Int)
  | 0 => ([], o)
  | k + 1 => ((itAt f g o k).1 ++ [f (itAt f g o k).2], g (itAt f g o k).2)
theorem itAt_len (o : Option (List Int)) : ∀ k, (itAt f g o k).1.length = k
  | 0 => rfl
  | k + 1 => by show ((itAt f g o k).1 ++ [_]).length = k + 1; rw [List.length_append, itAt_len o k]; rfl
theorem decN_snoc : ∀ (k : Nat) (l : List Int), decN dec (k + 1) l = (decN dec k l).bind fun q => (dec q.2).bind fun r => some (q.1 ++ [r.1], r.2)
  | 0, l => by
    show ((dec l).bind fun q => (decN dec 0 q.2).bind fun r => some (q.1 :: r.1, r.2)) = (dec l).bind _
    cases dec l <;> rfl
  | k + 1, l => by
    rw [decN, show decN dec (k + 1) l = (dec l).bind fun q => (decN dec k q.2).bind fun r => some (q.1 :: r.1, r.2) from rfl]
    cases h : dec l with
    | none => rfl
    | some q =>
      rw [Option.bind_some, Option.bind_some, decN_snoc k q.2]
      cases decN dec k q.2 with
      | none => rfl
      | some r =>
        simp only [Option.bind_some]
        cases dec r.2 <;> rfl
theorem it_dec (h0 : g none = none) (h : ∀ l, dec l = (g (some l)).map fun r => (f (some l), r)) (l : List Int) : ∀ k, decN dec k l = (itAt f g (some l) k).2.map fun r => ((itAt f g (some l) k).1, r)
  | 0 => rfl
  | k + 1 => by
    rw [decN_snoc, it_dec h0 h l k]
    show _ = (g (itAt f g (some l) k).2).map fun r => ((itAt f g (some l) k).1 ++ [f (itAt f g (some l) k).2], r)
    cases e : (itAt f g (some l) k).2 with
    | none => rw [h0]; rfl
    | some r =>
      simp only [Option.map_some, Option.bind_some]
      rw [h r]
      cases g (some r) <;> rfl
theorem decN_none {k n : Nat} {l : List Int} (h : decN dec k l = none) (hk : k ≤ n) : decN dec n l = none := by
  induction hk with
  | refl => exact h
  | step _ ih => rw [decN_snoc, ih]; rfl
theorem it_none (h0 : g none = none) : ∀ k, (itAt f g none k).2 = none
  | 0 => rfl
  | k + 1 => by show g _ = none; rw [it_none h0 k, h0]
theorem it_all (h0 : g none = none) (h : ∀ l, dec l = (g (some l)).map fun r => (f (some l), r)) {l : List Int} {k n : Nat} (hk : k ≤ n) (hend : k = n ∨ (itAt f g (some l) k).2 = none) : decN dec n l = (itAt f g (some l) k).2.map fun r => ((itAt f g (some l) k).1, r) := by
  rcases hend with rfl | hn
  · exact it_dec h0 h l k
  · have := it_dec h0 h l k
    rw [hn] at this ⊢
    exact decN_none this hk
end
end Im
namespace Sx
open Im Ms Go.Proofs.Ytgmlbimgcifenaa
theorem rdn_num (n : Nat) (l : List Int) : rdn n l = (rest n (some l)).map fun r => (num n (some l), r) := by
  cases h : rdn n l with
  | none => rw [(num_none h).2]; rfl
  | some q =>
    have h' : rdn n l = some (q.1, q.2) := h
    rw [(num_some h').1, (num_some h').2]
    rfl
theorem insAt_it (o : Option (List Int)) : ∀ k, insAt o k = itAt inp inRest o k
  | 0 => rfl
  | k + 1 => by show (_, _) = (_, _); rw [insAt_it o k]
theorem ins_dec (l : List Int) : decInW l = (inRest (some l)).map fun r => (inp (some l), r) := by
  unfold decInW inRest inp
  rw [rdn_num 1 l]
  cases h1 : rest 1 (some l) with
  | none => rfl
  | some r1 =>
    simp only [Option.map_some, Option.bind_some]
    rw [rdn_num 1 r1]
    cases h2 : rest 1 (some r1) with
    | none => rfl
    | some r2 =>
      simp only [Option.map_some, Option.bind_some]
      rw [rdn_num 1 r2]
      cases h3 : rest 1 (some r2) with
      | none => rfl
      | some r3 => rfl
def zeroE : En.E := ⟨0, [], En.in0⟩
def logS (o : Option (List Int)) : List Int := some' (num 2 o).toNat (rest 2 o)
def logA (o : Option (List Int)) : Option (List Int) := after (num 2 o).toNat (rest 2 o)
noncomputable def logEnt (o : Option (List Int)) : En.E := (En.get (logS o)).getD zeroE
noncomputable def logRest (o : Option (List Int)) : Option (List Int) := (En.get (logS o)).bind fun _ => logA o
noncomputable def logAt (o : Option (List Int)) (k : Nat) : List En.E × Option (List Int) := itAt logEnt logRest o k
theorem get_nil : En.get [] = none := rfl
theorem log_none : logRest none = none := rfl
theorem log_dec (l : List Int) : decEntryW l = (logRest (some l)).map fun r => (logEnt (some l), r) := by
  unfold decEntryW logRest logEnt logS logA getB
  rw [rdn_num 2 l]
  cases h1 : rest 2 (some l) with
  | none => rfl
  | some r =>
    simp only [Option.map_some, Option.bind_some]
    by_cases hle : (num 2 (some l)).toNat ≤ r.length
    · rw [if_pos hle, (some_yes hle).1, (some_yes hle).2, Option.bind_some]
      dsimp only
      cases En.get (r.take (num 2 (some l)).toNat) with
      | none => rfl
      | some e => rfl
    · rw [if_neg hle, (some_few hle).1, get_nil]
      rfl
theorem data_dec (l : List Int) : getB 1 l = (after (num 1 (some l)).toNat (rest 1 (some l))).map fun r => (some' (num 1 (some l)).toNat (rest 1 (some l)), r) := by
  unfold getB
  rw [rdn_num 1 l]
  cases h1 : rest 1 (some l) with
  | none => rfl
  | some r =>
    simp only [Option.map_some, Option.bind_some]
    by_cases hle : (num 1 (some l)).toNat ≤ r.length
    · rw [if_pos hle, (some_yes hle).1, (some_yes hle).2]; rfl
    · rw [if_neg hle, (some_few hle).2]; rfl
theorem after_bytes {n : Nat} {o : Option (List Int)} (h : ∀ l, o = some l → IsBytes l) : ∀ l, after n o = some l → IsBytes l := by
  intro l hl
  cases o with
  | none => cases hl
  | some r =>
    unfold after at hl
    dsimp only at hl
    split at hl
    · injection hl with hl; subst hl; exact fun x hx => h r rfl x (List.mem_of_mem_drop hx)
    · cases hl
theorem logRest_bytes {o : Option (List Int)} (h : ∀ l, o = some l → IsBytes l) : ∀ l, logRest o = some l → IsBytes l := by
  intro l hl
  unfold logRest at hl
  cases hg : En.get (logS o) with
  | none => rw [hg] at hl; cases hl
  | some e => rw [hg] at hl; exact after_bytes (n := (num 2 o).toNat) (rest_bytes (n := 2) h) l hl
theorem logAt_bytes {o : Option (List Int)} (h : ∀ l, o = some l → IsBytes l) : ∀ k l, (logAt o k).2 = some l → IsBytes l
  | 0 => h
  | k + 1 => logRest_bytes (logAt_bytes h k)
end Sx
namespace Go.Proofs.Ytgmlbimgcifenaa
open Go.RowKit Go.Shelf
theorem RIs.isBad {X : World} {B : Nat} {oA : Option (List Int)} (h : RIs X B oA) {s : ByteArray} {b : Bool} (hb : Box X B 82 #[.string s, .bool b]) (G : Option En.E) : RIs (X.setCell ⟨B, 1, none⟩ (.bool (b || G.isNone))) B (G.bind fun _ => oA) := by
  cases G with
  | none => rw [show (b || Option.isNone (none : Option En.E)) = true by simp]; exact h.bad
  | some e =>
    rw [show (b || Option.isNone (some e)) = b by simp]
    have k : Box (X.setCell ⟨B, 1, none⟩ (.bool b)) B 82 #[.string s, .bool b] := hb.put 1 (.bool b)
    cases oA with
    | none =>
      obtain ⟨s2, h2⟩ := h
      have e1 : some (Value.bool b) = some (Value.bool true) := (hb.cell 1).symm.trans (h2.cell 1)
      injection e1 with e1
      injection e1 with e1
      subst e1
      exact ⟨s, k⟩
    | some l =>
      have h2 : Box X B 82 #[.string (strOfNums l), .bool false] := h
      have e1 : some (Value.bool b) = some (Value.bool false) := (hb.cell 1).symm.trans (h2.cell 1)
      injection e1 with e1
      injection e1 with e1
      have e0 : some (Value.string s) = some (Value.string (strOfNums l)) := (hb.cell 0).symm.trans (h2.cell 0)
      injection e0 with e0
      injection e0 with e0
      subst e1
      subst e0
      exact k
theorem refget_ent (l : List Int) (w : World) (hB : Im.IsBytes l) :
    Calls Try.prog 62 #[.string (strOfNums l)] w fun r w' => ∃ A c, r = .returned (.tuple #[.agg (En.cells ((En.get l).getD Sx.zeroE) (.slice A ((En.get l).getD Sx.zeroE).evs.length c)), .int .i64 (if (En.get l).isNone then 2 else 0)]) ∧ w'.ownsRow w.heap.size 59 4 (.slice A ((En.get l).getD Sx.zeroE).evs.length c) ((En.get l).getD Sx.zeroE).evs.length (En.evCells ((En.get l).getD Sx.zeroE).evs) ∧ Below w.heap.size w w' := by
  refine (refget_own l w hB).mono ?_
  rintro r w' (⟨e, A, c, h1, rfl, h3, h4⟩ | ⟨h1, rfl, h4⟩)
  · exact ⟨A, c, by rw [h1]; rfl, by rw [h1]; exact h3, h4⟩
  · exact ⟨none, 0, by rw [h1]; rfl, by rw [h1]; exact World.ownsRow_nil _ _ _ _, h4⟩
theorem ent_few {l : List Int} (hB : Im.IsBytes l) : ((En.get l).getD Sx.zeroE).evs.length ≤ 16 := by
  cases h : En.get l with
  | none => exact Nat.zero_le _
  | some e => exact (En.get_some hB h).1.count
structure LogAt (w : World) (B : Nat) (q : Ms.S) (o : Option (List Int)) (k : Nat) (A : Option Addr) (c : Nat) (L : List En.S) (X : World) : Prop where
  rd : RIs X B (Sx.logAt o k).2
  es : L.map (·.e) = (Sx.logAt o k).1
  box : Box X w.heap.size 29 ({ q with m := { q.m with log := L }, al := A, cl := c } : Ms.S).cells
  res : Box X (w.heap.size + 1) 29 Ms.zeroM
  own : X.ownsRow w.heap.size 53 26 (.slice A k c) k (En.sCells L)
  ents : ∀ s ∈ L, EvR s X ∧ s.e.evs.length ≤ 16
  sol : Sol B w X
theorem LogAt.len {w X : World} {B k c : Nat} {q : Ms.S} {o : Option (List Int)} {A : Option Addr} {L : List En.S} (h : LogAt w B q o k A c L X) : L.length = k := by
  have e := congrArg List.length h.es
  rw [List.length_map] at e
  exact e.trans (Im.itAt_len o k)
theorem LogAt.step {w X X3 w7 : World} {B k c c7 : Nat} {q : Ms.S} {o : Option (List Int)} {A A7 : Option Addr} {L : List En.S} {O : Obj} {s : En.S} (h : LogAt w B q o k A c L X) (hlt : B < w.heap.size) (hs : s.e = Sx.logEnt (Sx.logAt o k).2) (hR : RIs X3 B (Sx.logRest (Sx.logAt o k).2)) (hS : Sol B X X3) (hv : EvR s X3 ∧ s.e.evs.length ≤ 16)
    (own7 : w7.ownsRow w.heap.size 53 26 (.slice A7 (k + 1) c7) (k + 1) (En.sCells L ++ s.cells)) (hg : (X3.alloc O).grownBy w7 (Value.slice A k c).ownBlock) :
    LogAt w B q o (k + 1) A7 c7 (L ++ [s]) (w7.setCell ⟨w.heap.size, 14, none⟩ (.slice A7 (k + 1) c7)) := by
  obtain ⟨cs, hbx⟩ := h.rd.boxed
  have o3 := own_solW h.own hS hbx (by decide)
  have b3 := h.box.sol hS (by omega)
  have r3 := h.res.sol hS (by omega)
  have b7 := grown_box b3 o3 (by decide) hg
  have r7 := grown_box r3 o3 (by decide) hg
  have hl := h.len
  have e1 : (L ++ [s]).length = k + 1 := by rw [List.length_append, hl]; rfl
  have e2 : En.sCells (L ++ [s]) = En.sCells L ++ s.cells := by unfold En.sCells; rw [List.flatMap_append, List.flatMap_cons, List.flatMap_nil, List.append_nil]
  have hk : ∀ g cs, Box X3 g 59 cs → Box (w7.setCell ⟨w.heap.size, 14, none⟩ (.slice A7 (k + 1) c7)) g 59 cs := fun g cs kx => by
    have k2 := grown_box kx o3 (by decide) hg
    exact k2.far (p := ⟨w.heap.size, 14, none⟩) (Box.apart k2 b7 (by decide)) _
  refine ⟨?_, ?_, ?_, r7.far (p := ⟨w.heap.size, 14, none⟩) (show w.heap.size + 1 ≠ w.heap.size by omega) _, ?_, ?_, ?_⟩
  · exact (hR.mapb fun cs hc => grown_box hc o3 (by decide) hg).set (by omega) 14 _
  · show (L ++ [s]).map (·.e) = (Sx.logAt o k).1 ++ [Sx.logEnt (Sx.logAt o k).2]
    rw [List.map_append, h.es, List.map_cons, List.map_nil, hs]
  · have kk := b7.put 14 (.slice A7 (k + 1) c7)
    have ee : ({ q with m := { q.m with log := L }, al := A, cl := c } : Ms.S).cells.setIfInBounds 14 (.slice A7 (k + 1) c7) = ({ q with m := { q.m with log := L ++ [s] }, al := A7, cl := c7 } : Ms.S).cells := by
      unfold Ms.S.cells Ms.cells Ms.S.sl
      dsimp only
      rw [e1]
      rfl
    rw [ee] at kk
    exact kk
  · rw [e2]
    exact ownsRow_setCell_other (a := ⟨w.heap.size, 14, none⟩) own7 (b7.unowned own7 (by decide)) _
  · intro x hx
    rcases List.mem_append.1 hx with hx | hx
    · exact ⟨(h.ents x hx).1.keep fun g cs kx => hk g cs (kx.sol hS (Box.apart kx hbx (by decide))), (h.ents x hx).2⟩
    · obtain rfl := List.mem_singleton.1 hx; exact ⟨hv.1.keep hk, hv.2⟩
  · have s3 := h.sol.trans hS
    have g7 := below_gone ((one_below X3 O).mono s3.size) hg (own_at h.own) s3.size
    have s7 : Sol B w w7 := ⟨g7.os.trans s3.os, g7.tape.trans s3.tape, g7.output.trans s3.output, Nat.le_trans s3.size g7.size, fun i hi hne => (g7.block i hi).trans (s3.block i hi hne)⟩
    exact s7.fresh (p := ⟨w.heap.size, 14, none⟩) (Nat.le_refl _) _
def SaysLogD (B N : Nat) (q : Ms.S) (o : Option (List Int)) (w : World) (e : Ending) (w' : World) : Prop := ∃ k A c L, k ≤ N ∧ (k = N ∨ (Sx.logAt o k).2 = none) ∧ ReadTo B { q with m := { q.m with log := L }, al := A, cl := c } (Sx.logAt o k).2 w e w' ∧ L.map (·.e) = (Sx.logAt o k).1 ∧ L.length = k ∧ w'.ownsRow w.heap.size 53 26 (.slice A k c) k (En.sCells L) ∧ ∀ s ∈ L, EvR s w' ∧ s.e.evs.length ≤ 16
end Go.Proofs.Ytgmlbimgcifenaa
namespace Go.Proofs.Ytgmlbimgcifenaa
open Go.RowKit Go.Shelf
def FewE (s : En.S) : Prop := s.e.evs.length ≤ 16
theorem refread_log (q : Ms.S) (hq : Ms.NL q) (o : Option (List Int)) (B : Nat) (w : World) (hB : ∀ l, o = some l → Im.IsBytes l) (h : RIs w B o) :
    Calls Try.prog 44 #[.agg q.cells, .pointer (some ⟨B, 0, none⟩), .int .u8 108] w (SaysLogD B (Sx.num 1 o).toNat q (Sx.rest 1 o) w) := by
  obtain ⟨W, hW⟩ : ∃ W, W = (w.alloc (.cells q.cells 29)).alloc (.cells Ms.zeroM 29) := ⟨_, rfl⟩
  have KW := qh (show Below w.heap.size w W by rw [hW]; exact (one_below w _).alloc (by simp) _)
  have P1 := qh (show Box W w.heap.size 29 q.cells by rw [hW]; exact (Box.made w _ _).alloc _)
  have P2 := qh (show Box W (w.heap.size + 1) 29 Ms.zeroM by rw [hW]; exact Box.made_at (n := w.heap.size + 1) _ _ _ (by simp))
  have hlt := h.lt
  have c1 := qh (rint_any 1 1 rfl o B W (by decide) hB (h.on KW.out))
  have nb := Sx.num_lt (n := 1) hB
  simp only [Nat.reduceMul, Int.reducePow] at nb
  have hb1 := qh (Sx.logAt_bytes (Sx.rest_bytes (n := 1) hB))
  obtain ⟨N, hN⟩ : ∃ N : Nat, Sx.num 1 o = (N : Int) := ⟨(Sx.num 1 o).toNat, by omega⟩
  have hN2 : (Sx.num 1 o).toNat = N := by omega
  rw [hN2]
  rw [hN] at c1 nb
  clear hN hN2
  generalize Sx.rest 1 o = o1 at *
  have HW := qh hW.symm
  have HQ := qh hq
  clear hW h hB hq
  obtain ⟨j0, hj0, hx0, hx1, hx2⟩ := info_parts zen_infoZ
  have nI := qh hj0
  have nZ := qh hx0
  have nS := qh hx1
  have nY := qh hx2
  clear hj0 hx0 hx1 hx2
  go_enter Try.func44, Try.ntmps44
  go_upto_region 27 with (first | (with_reducible refine alloc_msg rfl rfl ?_) | (go_at_call 42; (rw [HW.out]; (with_reducible refine (c1.out).mono ?_); rintro e w1 ⟨rfl, hR, hS⟩; have R1 := qh hR; have S1 := qh hS; have Q1 := qh (P1.out.sol hS (by omega)); have Q2 := qh (P2.out.sol hS (by omega)); clear hR hS c1)))
  have I0 := qh (show LogAt w B q o1 0 none 0 [] w1 from ⟨R1.out, rfl, by
      obtain ⟨a, b, c⟩ := HQ.out
      have e : ({ q with m := { q.m with log := [] }, al := none, cl := 0 } : Ms.S) = q := by
        cases q with | mk m ai ci al cl ad cd => cases m; simp_all
      rw [e]; exact Q1.out, Q2.out, World.ownsRow_nil _ _ _ _, (fun s hs => (by cases hs)), ((Sol.refl B w).call KW.out).trans S1.out⟩)
  go_wp2_with fail
  go_loopw [10, 12] (fun i _ wr => ∃ (k : Nat) (A : Option Addr) (c : Nat) (L : List En.S), k ≤ N ∧ i = .int .i64 k ∧ LogAt w B q o1 k A c L wr) (fun i _ _ => N - (intOf i).toNat)
  case atStart => exact ⟨0, none, 0, [], Nat.zero_le _, rfl, I0.out⟩
  case round =>
    obtain ⟨k, A, c, L, hk, rfl, hI⟩ := hrel
    have II := qh hI
    have hBI := hb1.out k
    obtain ⟨os, hos⟩ : ∃ os, os = (Sx.logAt o1 k).2 := ⟨_, rfl⟩
    have HOS := qh hos
    rw [← hos] at hBI
    have hrd := hI.rd
    rw [← hos] at hrd
    clear hos
    go_upto_region 28 with fail
    go_cut [97] from 88 to 124 (fun b wx => b = .bool (decide (k < N ∧ os.isSome = true)) ∧ wx = wr)
    case first =>
      by_cases hlt2 : k < N
      · have hk8 : (k : Int) < N := by omega
        cases os with
        | none =>
          obtain ⟨s, hs⟩ := hrd
          have r1 := hs.cell 1
          go_wp2_with fail
          go_meet
          exact ⟨by simp, rfl⟩
        | some r =>
          have hs : Box wr B 82 #[.string (strOfNums r), .bool false] := hrd
          have r1 := hs.cell 1
          go_wp2_with fail
          go_meet
          exact ⟨by simp [hlt2], rfl⟩
      · have hk8 : ¬ (k : Int) < N := by omega
        go_wp2_with fail
        go_meet
        exact ⟨by simp [hlt2], rfl⟩
    case rest =>
      obtain ⟨rfl, rfl⟩ := hcut
      by_cases hgo : k < N ∧ os.isSome = true
      · rw [decide_eq_true hgo]
        obtain ⟨hkN, -⟩ := hgo
        have nb2 := Sx.num_lt (n := 2) hBI
        simp only [Nat.reduceMul, Int.reducePow] at nb2
        have ci := fun X hX => qh (rint_any 2 2 rfl os B X (by decide) hBI hX)
        have cs : ∀ X, RIs X B (Sx.rest 2 os) → Hid (Calls Try.prog 63 #[.pointer (some ⟨B, 0, none⟩), .int .i64 (Sx.num 2 os)] X fun e w' => e = .returned (.string (strOfNums (Sx.logS os))) ∧ RIs w' B (Sx.logA os) ∧ Sol B X w') := fun X hX => qh (rsome_any (Sx.num 2 os).toNat (Sx.num 2 os) (by omega) (Sx.rest 2 os) B X (by omega) hX)
        have hSb : Im.IsBytes (Sx.logS os) := Sx.some_bytes (Sx.rest_bytes hBI)
        have cg := fun X => qh (refget_ent (Sx.logS os) X hSb)
        have HE := qh (show Sx.logEnt (Sx.logAt o1 k).2 = (En.get (Sx.logS os)).getD Sx.zeroE by rw [← HOS.out]; rfl)
        have HRr := qh (show Sx.logRest (Sx.logAt o1 k).2 = (En.get (Sx.logS os)).bind fun _ => Sx.logA os by rw [← HOS.out]; rfl)
        have hfew := ent_few hSb
        clear hSb nb2
        generalize En.get (Sx.logS os) = G at *
        generalize Sx.logS os = SS at *
        generalize Sx.logA os = oA at *
        generalize Sx.num 2 os = z at *
        generalize Sx.rest 2 os = o2 at *
        generalize hE : G.getD Sx.zeroE = E at *
        generalize hfl : (if G.isNone = true then (2 : Int) else 0) = fl at *
        have HFL := qh hfl
        have kS := II.out.sol.size
        obtain ⟨csB, hbB⟩ := hrd.boxed
        have HBB := qh hbB
        have HRD := qh hrd
        clear hI hrd hbB hE hfl
        go_upto_region 31 with (first | (with_reducible refine alloc_en rfl rfl ?_) | (with_reducible refine en_store_new rfl rfl rfl rfl En.zeroC_size rfl ?_) | (go_at_call 42; ((with_reducible refine ((ci _ HRD.out).out).mono ?_); rintro e v1 ⟨rfl, hR, hS⟩; have V1 := qh hR; have T1 := qh hS; clear hR hS)) | (go_at_call 63; ((with_reducible refine ((cs _ V1.out).out).mono ?_); rintro e v2 ⟨rfl, hR, hS⟩; have V2 := qh hR; have T2 := qh (T1.out.trans hS); clear hR hS)) | (go_at_call 62; ((with_reducible refine ((cg _).out).mono ?_); rintro e v3 ⟨A3, c3, rfl, hO, hb⟩; have V3 := qh (V2.out.on hb); have T3 := qh (T2.out.call hb); have OE := qh hO; clear hO hb)))
        obtain ⟨X0, rfl⟩ : ∃ X0, X0 = wc := ⟨_, rfl⟩
        have EV3 := qh (show EvR ⟨E, A3, c3⟩ v3 by
          obtain ⟨_, h0 | ⟨g, cur, h1, h2, h3⟩⟩ := own_rowbox OE.out
          · exact .inl (List.eq_nil_of_length_eq_zero h0)
          · exact .inr ⟨g, cur, h1, h2, h3⟩)
        have hb3 := one_below v3 (.cells (En.cells E (.slice A3 E.evs.length c3)) 53)
        have EV4 := qh (EV3.out.keep fun g cs kx => kx.below hb3 kx.lt)
        have ME4 := qh (Box.made v3 53 (En.cells E (.slice A3 E.evs.length c3)))
        have R4 := qh (V3.out.on hb3)
        have T4 := qh (T3.out.call hb3)
        clear hb3 EV3
        generalize v3.alloc (.cells (En.cells E (.slice A3 E.evs.length c3)) 53) = W4 at *
        obtain ⟨sB, bB, hbx⟩ := R4.out.box
        have HB4 := qh hbx
        have r1 := hbx.cell 1
        have rf := hbx.free 1
        have rl := hbx.lt
        clear hbx
        go_cut [116] from 88 to 124 (fun b wx => wx = W4.setCell ⟨B, 1, none⟩ (.bool (bB || G.isNone)))
        case first =>
          have hfl := HFL.out
          cases G <;> cases bB <;> simp at hfl <;> subst hfl
          all_goals (
            go_wp2_with fail
            go_meet
            rfl)
        case rest =>
          have R5 := qh (show RIs wc B (Sx.logRest (Sx.logAt o1 k).2) by rw [hcut, HRr.out]; exact R4.out.isBad HB4.out G)
          have T5 := qh (show Sol B X0 wc by rw [hcut]; exact T4.out.put 1 _)
          have ME5 := qh (show Box wc v3.heap.size 53 (En.cells E (.slice A3 E.evs.length c3)) by rw [hcut]; exact ME4.out.far (p := ⟨B, 1, none⟩) (Box.apart ME4.out HB4.out (by decide)) _)
          have EV5 := qh (show EvR ⟨E, A3, c3⟩ wc by rw [hcut]; exact EV4.out.keep fun g cs kx => kx.far (p := ⟨B, 1, none⟩) (Box.apart kx HB4.out (by decide)) _)
          clear hcut r1 rf rl
          have MB := qh (II.out.box.sol T5.out (show w.heap.size ≠ B by omega))
          have OW := qh (own_solW II.out.own T5.out HBB.out (by decide))
          have hLk := II.out.len
          have d14 := (MB.out.cell 14).trans (show _ = some (Value.slice A L.length c) from rfl)
          rw [hLk] at d14
          have f14 := MB.out.free 14
          have l14 := MB.out.lt
          have ES := qh (show (En.cells E (.slice A3 E.evs.length c3)).toList = En.S.cells ⟨E, A3, c3⟩ from rfl)
          have kS5 := T5.out.size
          have hkb : k < 256 := by omega
          have HFEW := qh (show FewE ⟨E, A3, c3⟩ from hfew)
          clear hLk
          generalize E.evs.length = ne at *
          go_wp2_with (first | ((with_reducible refine en_load rfl rfl ?_); apply LoadEn.mk rfl; (focus (with_reducible exact ME5.out)); dsimp only) | ((with_reducible refine en_build rfl rfl ?_); apply BuildEn.mk rfl) | ((with_reducible refine append_gate (t := 26) (e := 53) (size := 26) (bytes := 56) rfl rfl Try.underlying26 nI.out nZ.out nS.out nY.out rfl (by decide) ?_); refine Appends.mk (base := w.heap.size) (n := k) (xs := En.sCells L) rfl (OW.out.alloc _) (Lies.boxed (n := 1) (size := 26) (xs := (En.cells E (.slice A3 ne c3)).toList) (by rw [Array.toArray_toList]; exact Box.made wc 53 (En.cells E (.slice A3 ne c3))) rfl) (fun u hu => by have := En.cells_one E (.slice A3 ne c3) rfl; rw [Array.all_eq_true'] at this; exact this u (Array.mem_toList_iff.1 hu)) (by unfold maxLen; omega) (by omega) (by simp; omega) ?_; intro A7 c7 w7 own7 hg7; have OW7 := qh own7; have HG7 := qh (show World.grownBy (wc.alloc _) w7 (Value.slice A k c).ownBlock from hg7); have B7 := qh (grown_box MB.out OW.out (by decide) hg7); have b7 := (B7.out.cell 14).trans (show _ = some (Value.slice A L.length c) from rfl); have f7 := B7.out.free 14; have l7 := B7.out.lt; clear own7 hg7))
          go_roundw
          case rel => exact ⟨k + 1, _, _, L ++ [⟨E, A3, c3⟩], by omega, by go_num, LogAt.step (s := ⟨E, A3, c3⟩) II.out (by omega) HE.out.symm R5.out T5.out ⟨EV5.out, HFEW.out⟩ (by have o := OW7.out; rw [ES.out] at o; exact o) HG7.out⟩
          case measure => simp [intOf]; omega
      · rw [decide_eq_false hgo]
        have KX := qh (show k = N ∨ (Sx.logAt o1 k).2 = none by
          rw [← HOS.out]
          by_cases h1 : k < N
          · right
            cases os with
            | none => rfl
            | some r => exact absurd ⟨h1, rfl⟩ hgo
          · left; omega)
        have Q7 := qh hI.box
        have Q8 := qh hI.res
        have hle := II.out.len
        clear hgo
        go_wp2_with (first | ((with_reducible refine ms_load rfl rfl ?_); apply LoadMs.mk rfl (by with_reducible exact Q7.out) (ms_size _)) | ((with_reducible refine blk_gate (t := 29) rfl rfl msg_info16 ?_); apply StoreBlk.mk rfl rfl (by with_reducible exact Q8.out) (msg_one _) (ms_size _) Ms.zeroM_size))
        have HB := qh (Q8.out.row ({ q with m := { q.m with log := L }, al := A, cl := c } : Ms.S).cells)
        exact bodyPost_ret (results_cellW rfl _ _ (w.heap.size + 1) 29 _ _ rfl HB.out Try.underlying29 rfl msg_info16) rfl ⟨k, A, c, L, hk, KX.out, ⟨rfl, II.out.rd.row (by omega) _, II.out.sol.freshRow (Nat.le_succ _) _⟩, II.out.es, II.out.len, own_setRow II.out.own (Q8.out.unowned II.out.own (by decide)) _, fun s hs => ⟨(II.out.ents s hs).1.keep fun g cs kx => kx.row_far (Box.apart kx Q8.out (by decide)) _, (II.out.ents s hs).2⟩⟩
end Go.Proofs.Ytgmlbimgcifenaa