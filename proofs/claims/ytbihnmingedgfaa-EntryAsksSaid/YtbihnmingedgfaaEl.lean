/-
The document's entry out of a string: one step at a time; an input read.
-/
import Derived.Test.YtbihnmingedgfaaEp
namespace Sx
open Go Im En
set_option linter.unusedVariables false
/-- An event, an input, as the reader gives them; what it leaves. -/
def ev (o : Option (List Int)) : Ev := ⟨num 1 o, num 1 (rest 1 o), num 2 (rest 1 (rest 1 o)), num 1 (rest 2 (rest 1 (rest 1 o)))⟩
def evRest (o : Option (List Int)) : Option (List Int) := rest 1 (rest 2 (rest 1 (rest 1 o)))
def inp (o : Option (List Int)) : Gm.In := ⟨IntKind.i8.wrap (num 1 o), IntKind.i8.wrap (num 1 (rest 1 o)), num 1 (rest 1 (rest 1 o))⟩
def inRest (o : Option (List Int)) : Option (List Int) := rest 1 (rest 1 (rest 1 o))
theorem ev_step (r : List Int) : match evRest (some r) with | none => decEv r = none | some r' => decEv r = some (ev (some r), r') := by
  unfold evRest ev decEv
  cases h1 : rdn 1 r with
  | none => rw [(num_none h1).2]; rfl
  | some q1 =>
    have h1' : rdn 1 r = some (q1.1, q1.2) := h1
    rw [(num_some h1').2, (num_some h1').1, Option.bind_some]
    cases h2 : rdn 1 q1.2 with
    | none => rw [(num_none h2).2]; rfl
    | some q2 =>
      have h2' : rdn 1 q1.2 = some (q2.1, q2.2) := h2
      rw [(num_some h2').2, (num_some h2').1, Option.bind_some]
      cases h3 : rdn 2 q2.2 with
      | none => rw [(num_none h3).2]; rfl
      | some q3 =>
        have h3' : rdn 2 q2.2 = some (q3.1, q3.2) := h3
        rw [(num_some h3').2, (num_some h3').1, Option.bind_some]
        cases h4 : rdn 1 q3.2 with
        | none => rw [(num_none h4).2]; rfl
        | some q4 =>
          have h4' : rdn 1 q3.2 = some (q4.1, q4.2) := h4
          rw [(num_some h4').2, (num_some h4').1]
          rfl
theorem in_step (r : List Int) : match inRest (some r) with | none => decIn r = none | some r' => decIn r = if zero (inp (some r)) then none else some (inp (some r), r') := by
  unfold inRest inp decIn
  cases h1 : rdn 1 r with
  | none => rw [(num_none h1).2]; rfl
  | some q1 =>
    have h1' : rdn 1 r = some (q1.1, q1.2) := h1
    rw [(num_some h1').2, (num_some h1').1, Option.bind_some]
    cases h2 : rdn 1 q1.2 with
    | none => rw [(num_none h2).2]; rfl
    | some q2 =>
      have h2' : rdn 1 q1.2 = some (q2.1, q2.2) := h2
      rw [(num_some h2').2, (num_some h2').1, Option.bind_some]
      cases h3 : rdn 1 q2.2 with
      | none => rw [(num_none h3).2]; rfl
      | some q3 =>
        have h3' : rdn 1 q2.2 = some (q3.1, q3.2) := h3
        rw [(num_some h3').2, (num_some h3').1]
        rfl
/-- The whole T is what f makes of what is left; behind a fault it is none. -/
def St {α : Type} (T : Option α) (f : List Int → Option α) : Option (List Int) → Prop
  | none => T = none
  | some r => T = f r
theorem St.num {α : Type} {T : Option α} {f : List Int → Option α} {g : Int → List Int → Option α} {o : Option (List Int)} (n : Nat) (h : St T f o) (hf : ∀ r, f r = (rdn n r).bind fun q => g q.1 q.2) : St T (g (num n o)) (rest n o) := by
  match o with
  | none => exact h
  | some r =>
    have hT : T = f r := h
    rw [hf r] at hT
    cases hr : rdn n r with
    | none => rw [(num_none hr).2]; rw [hr] at hT; exact hT
    | some q =>
      have hr' : rdn n r = some (q.1, q.2) := hr
      rw [(num_some hr').2, (num_some hr').1]
      rw [hr] at hT
      exact hT
theorem inp_ty {o : Option (List Int)} (hB : ∀ l, o = some l → IsBytes l) : Gm.tyIn (inp o) := by
  have h1 := num_lt (n := 1) hB
  have h2 := num_lt (n := 1) (rest_bytes (n := 1) hB)
  have h3 := num_lt (n := 1) (rest_bytes (n := 1) (rest_bytes (n := 1) hB))
  unfold Gm.tyIn inp
  dsimp only
  rw [Im.wrap_i8, Im.wrap_i8]
  omega
/-- Behind the frame, the number of events, k of them. -/
def fEv (fr : Int) (n k : Nat) (acc : List Ev) (r : List Int) : Option (E × List Int) :=
  (decEvs (n - k) acc r).bind fun l => (decInputs in0 l.2).bind fun f => some (⟨fr, l.1, f.1⟩, f.2)
def fIn (fr : Int) (evs : List Ev) (m k : Nat) (f : Nat → Gm.In) (r : List Int) : Option (E × List Int) :=
  (decIns m k (8 - k) f r).bind fun g => some (⟨fr, evs, g.1⟩, g.2)
theorem St.ev {fr : Int} {T : Option (E × List Int)} {n k : Nat} {acc : List Ev} {r : List Int} (hk : k < n) (h : St T (fEv fr n k acc) (some r)) : St T (fEv fr n (k + 1) (acc ++ [ev (some r)])) (evRest (some r)) := by
  have hT : T = fEv fr n k acc r := h
  have hs := ev_step r
  unfold fEv at hT
  rw [show n - k = (n - (k + 1)) + 1 by omega] at hT
  cases he : evRest (some r) with
  | none =>
    rw [he] at hs
    simp only at hs
    show T = none
    rw [hT]
    show ((decEv r).bind _).bind _ = none
    rw [hs]; rfl
  | some r' =>
    rw [he] at hs
    simp only at hs
    show T = fEv fr n (k + 1) (acc ++ [Sx.ev (some r)]) r'
    rw [hT]
    show ((decEv r).bind fun q => decEvs (n - (k + 1)) (acc ++ [q.1]) q.2).bind _ = _
    rw [hs]; rfl
theorem St.evs_end {fr : Int} {T : Option (E × List Int)} {n : Nat} {acc : List Ev} {o : Option (List Int)} (h : St T (fEv fr n n acc) o) : St T (fun r => (rdn 1 r).bind fun q => fIn fr acc q.1.toNat 0 in0 q.2) o := by
  match o with
  | none => exact h
  | some r =>
    have hT : T = fEv fr n n acc r := h
    show T = _
    rw [hT]
    unfold fEv fIn
    rw [Nat.sub_self]
    show (decInputs in0 r).bind _ = _
    unfold decInputs
    rw [Option.bind_assoc]
theorem St.skip {fr : Int} {evs : List Ev} {T : Option (E × List Int)} {m k : Nat} {f : Nat → Gm.In} {o : Option (List Int)} (hk : k < 8) (hm : m.testBit k = false) (h : St T (fIn fr evs m k f) o) : St T (fIn fr evs m (k + 1) f) o := by
  match o with
  | none => exact h
  | some r =>
    have hT : T = fIn fr evs m k f r := h
    show T = _
    rw [hT]
    unfold fIn
    rw [show 8 - k = (8 - (k + 1)) + 1 by omega]
    show (if m.testBit k then _ else _ : Option _).bind _ = _
    rw [hm]; rfl
/-- Behind an input: bad if it was, or if the input is nothing. -/
def inAfter (o : Option (List Int)) : Option (List Int) := if zero (inp o) then none else inRest o
theorem St.input {fr : Int} {evs : List Ev} {T : Option (E × List Int)} {m k : Nat} {f : Nat → Gm.In} {o : Option (List Int)} (hk : k < 8) (hm : m.testBit k = true) (h : St T (fIn fr evs m k f) o) : St T (fIn fr evs m (k + 1) (upd f k (inp o))) (inAfter o) := by
  match o with
  | none =>
    have hT : T = none := h
    unfold inAfter
    split
    · exact hT
    · exact hT
  | some r =>
    have hT : T = fIn fr evs m k f r := h
    have hs := in_step r
    unfold fIn at hT
    rw [show 8 - k = (8 - (k + 1)) + 1 by omega] at hT
    have hT2 : T = ((decIn r).bind fun q => decIns m (k + 1) (8 - (k + 1)) (upd f k q.1) q.2).bind fun g => some (⟨fr, evs, g.1⟩, g.2) := by
      rw [hT]
      show (if m.testBit k then _ else _ : Option _).bind _ = _
      rw [hm]; rfl
    clear hT
    unfold inAfter
    cases he : inRest (some r) with
    | none =>
      rw [he] at hs
      simp only at hs
      rw [hs] at hT2
      split <;> exact hT2
    | some r' =>
      rw [he] at hs
      simp only at hs
      rw [hs] at hT2
      cases hz : zero (Sx.inp (some r))
      · rw [hz] at hT2
        simp only [Bool.false_eq_true, if_false]
        exact hT2
      · rw [hz] at hT2
        simp only [if_true]
        exact hT2
end Sx
namespace Go.Proofs.Ytbihnmingedgfaa
open Go.RowKit Go.Shelf
set_option linter.unusedVariables false
set_option linter.unusedSimpArgs false

theorem in_built (x : Int) : Try.prog.built 37 [(0, .int .i8 x)] = some #[.int .i8 x, .int .i8 0, .int .u8 0] := by kernel_rfl
theorem results_cell1 {P : Program} {fn : Func} {p : Tmp} {ty : TypeId} (h : fn.results = #[.cell p ty]) (tmps : Array Value) (w : World) (g : Nat) (t : TypeId) (cs : Array Value) (d : TypeDesc)
    (hp : tmps.getD p undef = .pointer (some ⟨g, 0, none⟩)) (hg : Box w g t cs) (hu : P.underlying ty = some d) (hd : d.isRow = true) (hi : (P.info? ty).map (·.size) = some cs.size) :
    (results fn tmps).run P w = .ok (.agg cs) w := by
  have hp' : tmps[p]?.getD undef = .pointer (some ⟨g, 0, none⟩) := by simpa using hp
  have hl := run_loadVar_row (P := P) w g t ty cs (0, 0) d hg.is hu (by cases d <;> first | rfl | cases hd) hi
  simp [results, h, hp', asAddr, hl]
theorem in_size : (Try.prog.info? 37).map (·.size) = some 3 := by kernel_rfl
set_option maxRecDepth 100000 in
set_option maxHeartbeats 2000000 in
theorem rinput_any (o : Option (List Int)) (B : Nat) (w : World) (hB : ∀ l, o = some l → Im.IsBytes l) (h : RIs w B o) :
    Calls Try.prog 96 #[.pointer (some ⟨B, 0, none⟩)] w fun e w' => e = .returned (.agg #[.int .i8 (Sx.inp o).x, .int .i8 (Sx.inp o).y, .int .u8 (Sx.inp o).b]) ∧ RIs w' B (Sx.inRest o) ∧ Sol B w w' := by
  have c1 := fun X hX => Lib.hid (rnum_any 1 1 rfl o B X (by decide) hB hX)
  have c2 := fun X hX => Lib.hid (rnum_any 1 1 rfl (Sx.rest 1 o) B X (by decide) (Sx.rest_bytes hB) hX)
  have c3 := fun X hX => Lib.hid (rnum_any 1 1 rfl (Sx.rest 1 (Sx.rest 1 o)) B X (by decide) (Sx.rest_bytes (Sx.rest_bytes hB)) hX)
  have h3 := Sx.num_lt (n := 1) (Sx.rest_bytes (n := 1) (Sx.rest_bytes (n := 1) hB))
  have HR := Lib.hid (show Sx.inRest o = Sx.rest 1 (Sx.rest 1 (Sx.rest 1 o)) from rfl)
  have HX := Lib.hid (show (Sx.inp o).x = IntKind.i8.wrap (Sx.num 1 o) from rfl)
  have HY := Lib.hid (show (Sx.inp o).y = IntKind.i8.wrap (Sx.num 1 (Sx.rest 1 o)) from rfl)
  have HBB := Lib.hid (show (Sx.inp o).b = Sx.num 1 (Sx.rest 1 (Sx.rest 1 o)) from rfl)
  rw [HX.out, HY.out, HBB.out, HR.out]
  generalize Sx.rest 1 (Sx.rest 1 (Sx.rest 1 o)) = o3 at *
  generalize Sx.num 1 (Sx.rest 1 (Sx.rest 1 o)) = v3 at *
  generalize Sx.num 1 (Sx.rest 1 o) = v2 at *
  generalize Sx.num 1 o = v1 at *
  have hw3 : IntKind.u8.wrap v3 = v3 := by rw [IntKind.wrap_u8]; omega
  have R0 := Lib.hid (h.alloc (.cells #[.int .i8 0, .int .i8 0, .int .u8 0] 37))
  have lt0 := h.lt
  clear h hB h3
  go_enter Try.func96, Try.ntmps96
  go_upto_region 2 with (go_at_call 86; ((with_reducible refine ((c1 _ R0.out).out).mono ?_); rintro e w1 ⟨rfl, h1, h2⟩; have R1 := Lib.hid h1; have S1 := Lib.hid h2; clear h1 h2 c1))
  have sz1 := S1.out.size
  have lt1 : B < w1.heap.size := by simp at sz1; omega
  have Q1 := Lib.hid (Box.made w1 37 #[.int .i8 (IntKind.i8.wrap v1), .int .i8 0, .int .u8 0])
  have T1 := Lib.hid (((Box.made w 37 #[.int .i8 0, .int .i8 0, .int .u8 0]).sol S1.out (by omega)).alloc (.cells #[.int .i8 (IntKind.i8.wrap v1), .int .i8 0, .int .u8 0] 37))
  have RR := Lib.hid (R1.out.alloc (.cells #[.int .i8 (IntKind.i8.wrap v1), .int .i8 0, .int .u8 0] 37))
  have SS := Lib.hid ((((Sol.refl B w).call (one_below w (.cells #[.int .i8 0, .int .i8 0, .int .u8 0] 37))).trans S1.out).call (one_below w1 (.cells #[.int .i8 (IntKind.i8.wrap v1), .int .i8 0, .int .u8 0] 37)))
  have hne1 : w1.heap.size ≠ B := by omega
  have hne0 : w.heap.size ≠ B := by omega
  have hne01 : w.heap.size ≠ w1.heap.size := by simp at sz1; omega
  clear R1 S1 R0
  go_upto_region 3 with (go_at_call 86; ((with_reducible refine ((c2 _ RR.out).out).mono ?_); rintro e w2 ⟨rfl, h1, h2⟩; have R2 := Lib.hid h1; have S2 := Lib.hid (SS.out.trans h2); have Q2 := Lib.hid (Q1.out.sol h2 hne1); have T2 := Lib.hid (T1.out.sol h2 hne0); have q2 := Q2.out.cell; have f2 := Q2.out.free; have l2 := Q2.out.lt; clear h1 h2 c2))
  have R3 := Lib.hid (R2.out.off (p := ⟨w1.heap.size, 1, none⟩) Q2.out (by decide) (.int .i8 (IntKind.i8.wrap v2)))
  have S3 := Lib.hid (S2.out.fresh (p := ⟨w1.heap.size, 1, none⟩) (by show w.heap.size ≤ w1.heap.size; simp at sz1; omega) (.int .i8 (IntKind.i8.wrap v2)))
  have Q3 := Lib.hid (Q2.out.put 1 (.int .i8 (IntKind.i8.wrap v2)))
  have T3 := Lib.hid (T2.out.far (p := ⟨w1.heap.size, 1, none⟩) hne01 (.int .i8 (IntKind.i8.wrap v2)))
  generalize w2.setCell ⟨w1.heap.size, 1, none⟩ (.int .i8 (IntKind.i8.wrap v2)) = W3 at *
  clear q2 f2 R2 S2 Q2 T2 l2
  go_upto_region 4 with (go_at_call 86; ((with_reducible refine ((c3 _ R3.out).out).mono ?_); rintro e w4 ⟨rfl, h1, h2⟩; have R4 := Lib.hid h1; have S4 := Lib.hid (S3.out.trans h2); have Q4 := Lib.hid (Q3.out.sol h2 hne1); have T4 := Lib.hid (T3.out.sol h2 hne0); have q4 := Q4.out.cell; have f4 := Q4.out.free; clear h1 h2 c3))
  have R5 := Lib.hid (R4.out.off (p := ⟨w1.heap.size, 2, none⟩) Q4.out (by decide) (.int .u8 v3))
  have S5 := Lib.hid (S4.out.fresh (p := ⟨w1.heap.size, 2, none⟩) (by show w.heap.size ≤ w1.heap.size; simp at sz1; omega) (.int .u8 v3))
  have Q5 := Lib.hid (Q4.out.put 2 (.int .u8 v3))
  have T5 := Lib.hid (T4.out.far (p := ⟨w1.heap.size, 2, none⟩) hne01 (.int .u8 v3))
  generalize w4.setCell ⟨w1.heap.size, 2, none⟩ (.int .u8 v3) = W5 at *
  clear q4 f4 R4 S4 Q4 T4
  have q5 := Q5.out.cell
  have t5 := T5.out.cell
  have u5 := T5.out.free
  go_wp2
  have T6 := ((T5.out.put 0 (.int .i8 (IntKind.i8.wrap v1))).put 1 (.int .i8 (IntKind.i8.wrap v2))).put 2 (.int .u8 v3)
  have R6 := ((R5.out.off (p := ⟨w.heap.size, 0, none⟩) T5.out (by decide) (.int .i8 (IntKind.i8.wrap v1))).off (p := ⟨w.heap.size, 1, none⟩) (T5.out.put 0 (.int .i8 (IntKind.i8.wrap v1))) (by decide) (.int .i8 (IntKind.i8.wrap v2))).off (p := ⟨w.heap.size, 2, none⟩) ((T5.out.put 0 (.int .i8 (IntKind.i8.wrap v1))).put 1 (.int .i8 (IntKind.i8.wrap v2))) (by decide) (.int .u8 v3)
  have S6 := ((S5.out.fresh (p := ⟨w.heap.size, 0, none⟩) (Nat.le_refl _) (.int .i8 (IntKind.i8.wrap v1))).fresh (p := ⟨w.heap.size, 1, none⟩) (Nat.le_refl _) (.int .i8 (IntKind.i8.wrap v2))).fresh (p := ⟨w.heap.size, 2, none⟩) (Nat.le_refl _) (.int .u8 v3)
  exact bodyPost_ret (results_cell1 rfl _ _ w.heap.size 37 _ _ rfl T6 Try.underlying37 rfl in_size) rfl ⟨rfl, R6, S6⟩
end Go.Proofs.Ytbihnmingedgfaa
