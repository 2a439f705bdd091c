/-
EntryEvents: two events may stand so just if who leaves stands ahead of who joins, each by slots.
-/
import Derived.Test.YtbihnmingedgfaaEv
import Derived.Test.YtbihnmingedgfaaRj
namespace Go.Proofs.Ytbihnmingedgfaa
open Go.RowKit Go.Shelf
set_option linter.unusedVariables false
set_option linter.unusedSimpArgs false

theorem ev_built (A : Option Addr) (n c : Nat) : Try.prog.built 72 [(1, .slice A n c)] = some (En.cells ⟨0, [], En.in0⟩ (.slice A n c)) := by kernel_rfl
theorem ev_fill1 (k s g p : Int) : Instr.fill (fun i => some (i * 4, 4)) ((Array.range (1 * 4)).map ((Value.agg #[.int .i64 0, .int .i64 0, .int .i64 0, .int .i64 0]).cells[· % (Value.agg #[.int .i64 0, .int .i64 0, .int .i64 0, .int .i64 0]).cells.size]!)) [(0, .agg #[.int .i64 k, .int .i64 s, .int .i64 g, .int .i64 p])] = some #[.int .i64 k, .int .i64 s, .int .i64 g, .int .i64 p] := by kernel_rfl
theorem ev_fill2 (k s g p k' s' g' p' : Int) : Instr.fill (fun i => some (i * 4, 4)) ((Array.range (2 * 4)).map ((Value.agg #[.int .i64 0, .int .i64 0, .int .i64 0, .int .i64 0]).cells[· % (Value.agg #[.int .i64 0, .int .i64 0, .int .i64 0, .int .i64 0]).cells.size]!)) [(0, .agg #[.int .i64 k, .int .i64 s, .int .i64 g, .int .i64 p]), (1, .agg #[.int .i64 k', .int .i64 s', .int .i64 g', .int .i64 p'])] = some #[.int .i64 k, .int .i64 s, .int .i64 g, .int .i64 p, .int .i64 k', .int .i64 s', .int .i64 g', .int .i64 p'] := by kernel_rfl
theorem ev_slice1 (k s g p : Int) (W : World) : (Instr.buildSlice 70 1 #[(0, .agg #[.int .i64 k, .int .i64 s, .int .i64 g, .int .i64 p])]).run Try.prog W = .ok (.slice (some ⟨W.heap.size, 0, none⟩) 1 1) (W.alloc (.cells #[.int .i64 k, .int .i64 s, .int .i64 g, .int .i64 p] 83)) := by
  have h1 := ev_info
  cases hq : Try.prog.info? 83 with
  | none => rw [hq] at h1; cases h1
  | some ie =>
    rw [hq] at h1
    simp only [Option.map_some, Option.some.injEq, Prod.mk.injEq] at h1
    obtain ⟨hz, hs, hb⟩ := h1
    exact run_buildSlice W _ _ 1 _ _ ie _ Try.underlying70 hq hz (by rw [hs]; decide) (by rw [hs]; decide) (by rw [hs]; exact ev_fill1 k s g p)
theorem ev_slice2 (k s g p k' s' g' p' : Int) (W : World) : (Instr.buildSlice 70 2 #[(0, .agg #[.int .i64 k, .int .i64 s, .int .i64 g, .int .i64 p]), (1, .agg #[.int .i64 k', .int .i64 s', .int .i64 g', .int .i64 p'])]).run Try.prog W = .ok (.slice (some ⟨W.heap.size, 0, none⟩) 2 2) (W.alloc (.cells #[.int .i64 k, .int .i64 s, .int .i64 g, .int .i64 p, .int .i64 k', .int .i64 s', .int .i64 g', .int .i64 p'] 83)) := by
  have h1 := ev_info
  cases hq : Try.prog.info? 83 with
  | none => rw [hq] at h1; cases h1
  | some ie =>
    rw [hq] at h1
    simp only [Option.map_some, Option.some.injEq, Prod.mk.injEq] at h1
    obtain ⟨hz, hs, hb⟩ := h1
    exact run_buildSlice W _ _ 2 _ _ ie _ Try.underlying70 hq hz (by rw [hs]; decide) (by rw [hs]; decide) (by rw [hs]; exact ev_fill2 k s g p k' s' g' p')

theorem exec_alloc_y {P : Program} {o : Oper} {a : Act} {w : World} {t : TypeId} {z : Value} {cs : Array Value} (ho : o.op = .alloc t) (hz : (P.info? t).map (·.zero) = some (some z)) (hc : z.cells = cs) :
    (execOp a.eval o).run P w = .ok (.value (.pointer (some ⟨w.heap.size, 0, none⟩))) (w.alloc (.cells cs t)) := by
  have hz' : (zeroValue t).run P w = .ok z w := by
    cases hq : P.info? t with
    | none => simp [hq] at hz
    | some i => simp [hq] at hz; simp [zeroValue, typeInfo, hq, hz]
  subst hc
  unfold execOp
  simp only [ho, Instr.alloc, Sem.run_bind, hz', Result.andThen_ok]
  rfl
theorem exec_slice1 {o : Oper} {a : Act} {w : World} {x : Operand} {k s g p : Int} (ho : o.op = .buildSlice 70 1 #[(0, x)]) (hx : a.eval x = .agg #[.int .i64 k, .int .i64 s, .int .i64 g, .int .i64 p]) :
    (execOp a.eval o).run Try.prog w = .ok (.value (.slice (some ⟨w.heap.size, 0, none⟩) 1 1)) (w.alloc (.cells #[.int .i64 k, .int .i64 s, .int .i64 g, .int .i64 p] 83)) := by
  have hr := ev_slice1 k s g p w
  unfold execOp
  simp only [ho, List.map_toArray, List.map_cons, List.map_nil, hx, Sem.run_bind, hr, Result.andThen_ok, Sem.run_pure]
theorem exec_build1 {o : Oper} {a : Act} {w : World} {x : Operand} {A : Option Addr} {n c : Nat} (ho : o.op = .build 72 #[(1, x)]) (hx : a.eval x = .slice A n c) :
    (execOp a.eval o).run Try.prog w = .ok (.value (.agg (En.cells ⟨0, [], En.in0⟩ (.slice A n c)))) w := by
  have hb := run_build (P := Try.prog) w 72 #[(1, .slice A n c)] _ (ev_built A n c)
  unfold execOp
  simp only [ho, List.map_toArray, List.map_cons, List.map_nil, hx, Sem.run_bind, hb, Result.andThen_ok, Sem.run_pure]
theorem exec_load_ev {o : Oper} {a : Act} {w : World} {x : Operand} {B : Nat} {cs : Array Value} (ho : o.op = .load 83 x) (hx : a.eval x = .pointer (some ⟨B, 0, none⟩)) (hB : Box w B 83 cs) (hs : cs.size = 4) :
    (execOp a.eval o).run Try.prog w = .ok (.value (.agg cs)) w := exec_load_blk ho hx hB Try.underlying83 rfl (by rw [hs]; have := ev_info; cases hq : Try.prog.info? 83 with | none => rw [hq] at this; cases this | some i => rw [hq] at this; simp at this; simp [this.2.1])

theorem exec_store_y {P : Program} {o : Oper} {a : Act} {w : World} {x y : Operand} {B : Nat} {t : TypeId} {cs old : Array Value} (ho : o.op = .store t x y) (hx : a.eval x = .pointer (some ⟨B, 0, none⟩)) (hy : a.eval y = .agg cs) (hB : Box w B t old) (hi : (P.info? t).map (·.size) = some cs.size) (hs : old.size = cs.size) (h1 : cs.all (·.oneCell') = true) :
    (execOp a.eval o).run P w = .ok .skip (w.setRow B cs) := by
  have hs := run_storeVar_row (P := P) w B t t old cs hB.is hi hs h1
  unfold execOp
  simp only [ho, hx, hy, Instr.storeAt, Instr.sureAddr, Sem.run_bind, Sem.run_pure, Result.andThen_ok, hs]
theorem head_all {P : Program} {K : World → Prop} {M T : Act → Prop} {a : Act} (R : Act → Prop) (hR : R a) (hM : ∀ A, R A → M A) (hT : T a) : Rz.wpHead P K (fun A => M A ∧ T A) [] a := ⟨hM a hR, hT⟩
/-- What stands behind each of the acts: two lists made, two entries of them, two variables. -/
def evV (a b : Array Value) (base : Nat) (j : Nat) (vm : Nat → Value) (w : World) : Prop :=
  match j with
  | 1 => ∃ S : Nat, vm 1 = .slice (some ⟨S, 0, none⟩) 1 1 ∧ Box w S 83 a
  | 2 => ∃ S : Nat, vm 2 = .agg (En.cells ⟨0, [], En.in0⟩ (.slice (some ⟨S, 0, none⟩) 1 1)) ∧ Box w S 83 a
  | 3 => vm 3 = .agg b
  | 4 => ∃ S : Nat, vm 4 = .slice (some ⟨S, 0, none⟩) 1 1 ∧ Box w S 83 b
  | 5 => ∃ S : Nat, vm 5 = .agg (En.cells ⟨0, [], En.in0⟩ (.slice (some ⟨S, 0, none⟩) 1 1)) ∧ Box w S 83 b
  | 6 => ∃ (B : Nat) (old : Array Value), vm 6 = .pointer (some ⟨B, 0, none⟩) ∧ base ≤ B ∧ Box w B 72 old ∧ old.size = 26
  | 7 => ∃ B : Nat, vm 7 = .pointer (some ⟨B, 0, none⟩) ∧ base ≤ B ∧ Box w B 72 En.zeroC
  | 8 => ∃ B S : Nat, vm 6 = .pointer (some ⟨B, 0, none⟩) ∧ base ≤ B ∧ Box w B 72 (En.cells ⟨0, [], En.in0⟩ (.slice (some ⟨S, 0, none⟩) 1 1)) ∧ Box w S 83 a
  | _ => True
theorem evV_below {a b : Array Value} {base j : Nat} {vm : Nat → Value} {w w' : World} (h : evV a b base j vm w) (hb : Below w.heap.size w w') : evV a b base j vm w' := by
  unfold evV at *
  split at h
  · obtain ⟨S, e, hB⟩ := h; exact ⟨S, e, hB.below hb hB.lt⟩
  · obtain ⟨S, e, hB⟩ := h; exact ⟨S, e, hB.below hb hB.lt⟩
  · exact h
  · obtain ⟨S, e, hB⟩ := h; exact ⟨S, e, hB.below hb hB.lt⟩
  · obtain ⟨S, e, hB⟩ := h; exact ⟨S, e, hB.below hb hB.lt⟩
  · obtain ⟨S, old, e, h1, hB, hs⟩ := h; exact ⟨S, old, e, h1, hB.below hb hB.lt, hs⟩
  · obtain ⟨S, e, h1, hB⟩ := h; exact ⟨S, e, h1, hB.below hb hB.lt⟩
  · obtain ⟨B, S, e, h1, hB, hS⟩ := h; exact ⟨B, S, e, h1, hB.below hb hB.lt, hS.below hb hS.lt⟩
  · trivial
theorem ev_apart {w : World} {S B : Nat} {a cs : Array Value} (hS : Box w S 83 a) (hB : Box w B 72 cs) : S ≠ B := Box.apart hS hB (by decide)
theorem evV_row {a b : Array Value} {base j B : Nat} {vm : Nat → Value} {w : World} {old cs : Array Value} (h : evV a b base j vm w) (h6 : vm 6 = .pointer (some ⟨B, 0, none⟩)) (hB : Box w B 72 old) (hs : cs.size = 26) (h7 : j = 7 → vm 6 ≠ vm 7) (h8 : j ≠ 8) : evV a b base j vm (w.setRow B cs) := by
  unfold evV at *
  split at h
  · obtain ⟨S, e, hS⟩ := h; exact ⟨S, e, hS.row_far (ev_apart hS hB) _⟩
  · obtain ⟨S, e, hS⟩ := h; exact ⟨S, e, hS.row_far (ev_apart hS hB) _⟩
  · exact h
  · obtain ⟨S, e, hS⟩ := h; exact ⟨S, e, hS.row_far (ev_apart hS hB) _⟩
  · obtain ⟨S, e, hS⟩ := h; exact ⟨S, e, hS.row_far (ev_apart hS hB) _⟩
  · obtain ⟨S, old', e, h1, hS, hs'⟩ := h
    have eb : S = B := by rw [e] at h6; injection h6 with h6; injection h6 with h6; injection h6
    subst eb
    exact ⟨S, cs, e, h1, hS.row _, hs⟩
  · obtain ⟨S, e, h1, hS⟩ := h
    refine ⟨S, e, h1, hS.row_far (fun eb => ?_) _⟩
    subst eb
    exact h7 rfl (h6.trans e.symm)
  · exact absurd rfl h8
  · trivial
theorem evV_congr {a b : Array Value} {base j : Nat} {vm vm' : Nat → Value} {w : World} (h : evV a b base j vm w) (he : vm j = vm' j) (h8 : j = 8 → vm 6 = vm' 6) : evV a b base j vm' w := by
  unfold evV at *
  split at h <;> first | (rw [← he]; exact h) | (rw [← h8 rfl]; exact h) | trivial

set_option maxRecDepth 100000 in
set_option maxHeartbeats 4000000 in
theorem events9_law (a b : En.Ev) (w : World) (ha : En.tyEv a) (hb : En.tyEv b) :
    Calls Try.prog 11 #[.agg a.cells.toArray, .agg b.cells.toArray] w fun e w' => e = .returned (.bool true) ∧ Below w.heap.size w w' := by
  have ct := fun X => Lib.hid (told9_any X)
  have P0 := Lib.hid ((Box.made w 83 a.cells.toArray).alloc (.cells b.cells.toArray 83))
  have Q0 := Lib.hid (Box.made_at (n := w.heap.size + 1) (w.alloc (.cells a.cells.toArray 83)) 83 b.cells.toArray (by simp))
  have K0 := Lib.hid (two_below' w (.cells a.cells.toArray 83) (.cells b.cells.toArray 83))
  have cm1 := fun S X (hB : Box X S 83 a.cells.toArray) => Lib.hid (show Calls Try.prog 43 #[.agg (En.cells ⟨0, [], En.in0⟩ (.slice (some ⟨S, 0, none⟩) 1 1))] X fun r w' => r = .returned (.bool (decide (En.Ok ⟨0, [a], En.in0⟩))) ∧ Below X.heap.size X w' from enmay_any ⟨0, [a], En.in0⟩ (some ⟨S, 0, none⟩) 1 1 X rfl (by decide) (Lies.boxed (xs := En.evCells [a]) (by rw [show (En.evCells [a]).toArray = a.cells.toArray from by simp [En.evCells]]; exact hB) (En.evCells_len _)))
  have cm2 := fun S X (hB : Box X S 83 b.cells.toArray) => Lib.hid (show Calls Try.prog 43 #[.agg (En.cells ⟨0, [], En.in0⟩ (.slice (some ⟨S, 0, none⟩) 1 1))] X fun r w' => r = .returned (.bool (decide (En.Ok ⟨0, [b], En.in0⟩))) ∧ Below X.heap.size X w' from enmay_any ⟨0, [b], En.in0⟩ (some ⟨S, 0, none⟩) 1 1 X rfl (by decide) (Lies.boxed (xs := En.evCells [b]) (by rw [show (En.evCells [b]).toArray = b.cells.toArray from by simp [En.evCells]]; exact hB) (En.evCells_len _)))
  have cm3 := fun S X (hB : Box X S 83 (En.evCells [a, b]).toArray) => Lib.hid (show Calls Try.prog 43 #[.agg (En.cells ⟨0, [], En.in0⟩ (.slice (some ⟨S, 0, none⟩) 2 2))] X fun r w' => r = .returned (.bool (decide (En.Ok ⟨0, [a, b], En.in0⟩))) ∧ Below X.heap.size X w' from enmay_any ⟨0, [a, b], En.in0⟩ (some ⟨S, 0, none⟩) 2 2 X rfl (by decide) (Lies.boxed (xs := En.evCells [a, b]) (hB) (En.evCells_len _)))
  obtain ⟨ak, az, ag, ap⟩ := a
  obtain ⟨bk, bz, bg, bp⟩ := b
  simp only [En.Ev.cells] at *
  have s3 := ev_slice2 ak az ag ap bk bz bg bp
  go_enter Try.func11, Try.ntmps11
  go_upto_region 1 with fail
  generalize hV : (w.alloc (.cells #[.int .i64 ak, .int .i64 az, .int .i64 ag, .int .i64 ap] 83)).alloc (.cells #[.int .i64 bk, .int .i64 bz, .int .i64 bg, .int .i64 bp] 83) = V at *
  have VS : V.heap.size = w.heap.size + 1 + 1 := by rw [← hV]; simp
  clear hV
  have HP := Lib.hid (fun X (hX : Below V.heap.size V X) => P0.out.below hX P0.out.lt)
  have HQ := Lib.hid (fun X (hX : Below V.heap.size V X) => Q0.out.below hX Q0.out.lt)
  refine Rj.wp_region_j (by kernel_rfl) 1 9 (by kernel_rfl) (fun X => Below V.heap.size V X) (fun j vm X => evV #[.int .i64 ak, .int .i64 az, .int .i64 ag, .int .i64 ap] #[.int .i64 bk, .int .i64 bz, .int .i64 bg, .int .i64 bp] V.heap.size j vm X) (fun S vm _ => S 6 = true → S 7 = true → vm 6 ≠ vm 7) ((Below.refl _ _).drew) (fun _ h => by cases h) (fun S vm vm' X he h h6 h7 => by rw [← he 6 (by decide), ← he 7 (by decide)]; exact h h6 h7) (fun j vm vm' X h1 h2 he hV => evV_congr hV (he j (.inl rfl)) (fun e => he 6 (.inr (by subst e; kernel_rfl)))) ?_
  simp only [List.take_succ_cons, List.take_zero, List.drop_succ_cons, List.drop_zero, Nat.reduceSub]
  apply Rz.head_op
  · intro W hW
    exact exec_load_ev rfl rfl (HP.out W hW) rfl
  refine head_all (fun A => A.tmps.size = 57 ∧ A.eval (.tmp 9) = .agg #[.int .i64 ak, .int .i64 az, .int .i64 ag, .int .i64 ap] ∧ A.eval (.tmp 3) = .pointer (some ⟨w.heap.size + 1, 0, none⟩)) ⟨by simp only [Rz.put_size]; rfl, ?_, ?_⟩ ?_ ?_
  · exact Rz.put_same (show 9 < 57 by decide)
  · exact (Rz.put_other (by decide)).trans (by first | done | simp [Act.eval])
  · intro A ⟨hAs, hA9, hA3⟩
    refine ⟨?_, ?_, ?_, ?_, ?_, ?_, ?_, ?_, trivial⟩
    · intro S vm X hX hSi hS hV hD
      refine gives_val (v := .slice (some ⟨X.heap.size, 0, none⟩) 1 1) (w' := X.alloc (.cells #[.int .i64 ak, .int .i64 az, .int .i64 ag, .int .i64 ap] 83)) (exec_slice1 (k := ak) (s := az) (g := ag) (p := ap) rfl ?_) ⟨⟨X.heap.size, rfl, Box.made _ _ _⟩, hX.alloc hX.size _, fun j _ _ _ _ h => evV_below h (one_below _ _), fun h6 h7 => by simpa [Rz.upd, Rj.also] using hD (by simpa [Rj.also] using h6) (by simpa [Rj.also] using h7)⟩
      · simp only [Rz.putAll]
        rw [Rz.put_none, Rz.put_other (by decide), Rz.put_other (by decide), Rz.put_other (by decide), Rz.put_other (by decide), Rz.put_other (by decide), Rz.put_other (by decide), Rz.put_other (by decide)]
        exact hA9
    · intro S vm X hX hSi hS hV hD
      obtain ⟨S5, e1, hB⟩ := hV 1 (by omega) (by omega) (hS 1 (by omega) (by omega) (by kernel_rfl))
      refine gives_val (exec_build1 (A := some ⟨S5, 0, none⟩) (n := 1) (c := 1) rfl ?_) ⟨⟨S5, by simp [Rz.upd], hB⟩, hX, fun j _ _ _ _ h => h, fun h6 h7 => by simpa [Rz.upd, Rj.also] using hD (by simpa [Rj.also] using h6) (by simpa [Rj.also] using h7)⟩
      · simp only [Rz.putAll]
        rw [Rz.put_none, Rz.put_other (by decide), Rz.put_other (by decide), Rz.put_other (by decide), Rz.put_other (by decide), Rz.put_other (by decide), Rz.put_other (by decide), Rz.put_same (by simp only [Rz.put_size, hAs]; decide)]
        exact e1
    · intro S vm X hX hSi hS hV hD
      refine gives_val (exec_load_ev rfl ?_ (HQ.out X hX) rfl) ⟨by simp [evV, Rz.upd], hX, fun j _ _ _ _ h => h, fun h6 h7 => by simpa [Rz.upd, Rj.also] using hD (by simpa [Rj.also] using h6) (by simpa [Rj.also] using h7)⟩
      · simp only [Rz.putAll]
        rw [Rz.put_none, Rz.put_other (by decide), Rz.put_other (by decide), Rz.put_other (by decide), Rz.put_other (by decide), Rz.put_other (by decide), Rz.put_other (by decide), Rz.put_other (by decide)]
        exact hA3
    · intro S vm X hX hSi hS hV hD
      have e3 : vm 3 = _ := hV 3 (by omega) (by omega) (hS 3 (by omega) (by omega) (by kernel_rfl))
      refine gives_val (v := .slice (some ⟨X.heap.size, 0, none⟩) 1 1) (w' := X.alloc (.cells #[.int .i64 bk, .int .i64 bz, .int .i64 bg, .int .i64 bp] 83)) (exec_slice1 (k := bk) (s := bz) (g := bg) (p := bp) rfl ?_) ⟨⟨X.heap.size, rfl, Box.made _ _ _⟩, hX.alloc hX.size _, fun j _ _ _ _ h => evV_below h (one_below _ _), fun h6 h7 => by simpa [Rz.upd, Rj.also] using hD (by simpa [Rj.also] using h6) (by simpa [Rj.also] using h7)⟩
      · simp only [Rz.putAll]
        rw [Rz.put_none, Rz.put_other (by decide), Rz.put_other (by decide), Rz.put_other (by decide), Rz.put_other (by decide), Rz.put_same (by simp only [Rz.put_size, hAs]; decide)]
        exact e3
    · intro S vm X hX hSi hS hV hD
      obtain ⟨S5, e1, hB⟩ := hV 4 (by omega) (by omega) (hS 4 (by omega) (by omega) (by kernel_rfl))
      refine gives_val (exec_build1 (A := some ⟨S5, 0, none⟩) (n := 1) (c := 1) rfl ?_) ⟨⟨S5, by simp [Rz.upd], hB⟩, hX, fun j _ _ _ _ h => h, fun h6 h7 => by simpa [Rz.upd, Rj.also] using hD (by simpa [Rj.also] using h6) (by simpa [Rj.also] using h7)⟩
      · simp only [Rz.putAll]
        rw [Rz.put_none, Rz.put_other (by decide), Rz.put_other (by decide), Rz.put_other (by decide), Rz.put_same (by simp only [Rz.put_size, hAs]; decide)]
        exact e1
    · intro S vm X hX hSi hS hV hD
      refine gives_val (exec_alloc_y rfl en_zero rfl) ⟨⟨_, _, by simp [Rz.upd], hX.size, Box.made _ _ _, En.zeroC_size⟩, hX.alloc hX.size _, fun j _ _ _ _ h => evV_below h (one_below _ _), fun h6 h7 => ?_⟩
      obtain ⟨B, e7, _, hB⟩ := hV 7 (by omega) (by omega) (by simpa [Rj.also] using h7)
      have hl := hB.lt
      show Value.pointer (some ⟨X.heap.size, 0, none⟩) ≠ vm 7
      rw [e7]
      intro e
      injection e with e; injection e with e; injection e with e; omega
    · intro S vm X hX hSi hS hV hD
      refine gives_val (exec_alloc_y rfl en_zero rfl) ⟨⟨_, by simp [Rz.upd], hX.size, Box.made _ _ _⟩, hX.alloc hX.size _, fun j _ _ _ _ h => evV_below h (one_below _ _), fun h6 h7 => ?_⟩
      obtain ⟨B, old, e7, _, hB, _⟩ := hV 6 (by omega) (by omega) (by simpa [Rj.also] using h6)
      have hl := hB.lt
      show vm 6 ≠ Value.pointer (some ⟨X.heap.size, 0, none⟩)
      rw [e7]
      intro e
      injection e with e; injection e with e; injection e with e; omega
    · intro S vm X hX hSi hS hV hD
      obtain ⟨B, old, e6, hbB, hB, hs⟩ := hV 6 (by omega) (by omega) (hS 6 (by omega) (by omega) (by kernel_rfl))
      obtain ⟨S5, e2, hS5⟩ := hV 2 (by omega) (by omega) (hS 2 (by omega) (by omega) (by kernel_rfl))
      refine gives_skip (exec_store_y (B := B) (cs := En.cells ⟨0, [], En.in0⟩ (.slice (some ⟨S5, 0, none⟩) 1 1)) rfl ?_ ?_ hB en_info hs (En.cells_one _ _ rfl)) ⟨⟨B, S5, by simpa [Rz.upd] using e6, hbB, hB.row _, hS5.row_far (ev_apart hS5 hB) _⟩, Below.setRow' hX hbB _, fun j h1 h2 h3 h4 h => evV_row h e6 hB (En.cells_size _ _) (fun e => hD (hS 6 (by omega) (by omega) (by kernel_rfl)) (by rw [← e]; exact h4)) h3, fun h6 h7 => by simpa [Rz.upd, Rj.also] using hD (by simpa [Rj.also] using h6) (by simpa [Rj.also] using h7)⟩
      · simp only [Rz.putAll]
        rw [Rz.put_none, Rz.put_other (by decide), Rz.put_same (by simp only [Rz.put_size, hAs]; decide)]
        exact e6
      · simp only [Rz.putAll]
        rw [Rz.put_none, Rz.put_other (by decide), Rz.put_other (by decide), Rz.put_other (by decide), Rz.put_other (by decide), Rz.put_other (by decide), Rz.put_same (by simp only [Rz.put_size, hAs]; decide)]
        exact e2
  · intro S vm X hX hS hV hD
    have hne := hD (hS 6 (by omega) (by omega)) (hS 7 (by omega) (by omega))
    obtain ⟨B5, S5, e6, hb5, hB5, hS5⟩ := hV 8 (by omega) (by omega)
    obtain ⟨B6, e7, hb6, hB6⟩ := hV 7 (by omega) (by omega)
    obtain ⟨S6, e5, hS6⟩ := hV 5 (by omega) (by omega)
    clear hS hV hD
    simp only [Rz.putAll, Nat.reduceAdd, e6, e7, e5]
    rw [e6, e7] at hne
    have n56 : B5 ≠ B6 := fun e => hne (by rw [e])
    clear hne
    generalize vm 1 = v1
    generalize vm 2 = v2
    generalize vm 3 = v3
    generalize vm 4 = v4
    generalize vm 8 = v8
    have P1 := Lib.hid (hB5.row_far n56 (En.cells ⟨0, [], En.in0⟩ (.slice (some ⟨S6, 0, none⟩) 1 1)))
    have Q1 := Lib.hid (hB6.row (En.cells ⟨0, [], En.in0⟩ (.slice (some ⟨S6, 0, none⟩) 1 1)))
    have A1 := Lib.hid (hS5.row_far (ev_apart hS5 hB6) (En.cells ⟨0, [], En.in0⟩ (.slice (some ⟨S6, 0, none⟩) 1 1)))
    have C1 := Lib.hid (hS6.row_far (ev_apart hS6 hB6) (En.cells ⟨0, [], En.in0⟩ (.slice (some ⟨S6, 0, none⟩) 1 1)))
    have E1 := Lib.hid ((HP.out X hX).row_far (ev_apart (HP.out X hX) hB6) (En.cells ⟨0, [], En.in0⟩ (.slice (some ⟨S6, 0, none⟩) 1 1)))
    have F1 := Lib.hid ((HQ.out X hX).row_far (ev_apart (HQ.out X hX) hB6) (En.cells ⟨0, [], En.in0⟩ (.slice (some ⟨S6, 0, none⟩) 1 1)))
    have K1 := Lib.hid (Below.setRow' (K0.out.trans (hX.mono (by rw [VS]; omega))) (by rw [VS] at hb6; omega : w.heap.size ≤ B6) (En.cells ⟨0, [], En.in0⟩ (.slice (some ⟨S6, 0, none⟩) 1 1)))
    have X6 := Lib.hid hB6
    clear hB5 hB6 hS5 hS6 hX HP HQ hb5 hb6 e6 e7 e5 n56
    simp only [Act.put, List.setIfInBounds_toArray, List.set_cons_succ, List.set_cons_zero]
    refine blk_gate (t := 72) (size := 26) rfl rfl en_info ?_
    refine StoreBlk.mk (B := B6) (cs := En.cells ⟨0, [], En.in0⟩ (.slice (some ⟨S6, 0, none⟩) 1 1)) rfl rfl X6.out ?_ (En.cells_size _ _) En.zeroC_size ?_
    · exact En.cells_one _ _ rfl
    generalize X.setRow B6 (En.cells ⟨0, [], En.in0⟩ (.slice (some ⟨S6, 0, none⟩) 1 1)) = Y at *
    clear X6
    by_cases h1 : En.Ok ⟨0, [⟨ak, az, ag, ap⟩], En.in0⟩
    · by_cases h2 : En.Ok ⟨0, [⟨bk, bz, bg, bp⟩], En.in0⟩
      · have hev1 := En.row1.1 h1.row
        have hev2 := En.row1.1 h2.row
        have h12 : En.Ok ⟨0, [⟨ak, az, ag, ap⟩, ⟨bk, bz, bg, bp⟩], En.in0⟩ ↔ (ak = bk ∧ az < bz) ∨ (ak = 2 ∧ bk = 1) := ⟨fun h => (En.row2 hev1 hev2).1 h.row, fun h => ⟨h1.frame, (En.row2 hev1 hev2).2 h, h1.ins⟩⟩
        have hk1 := hev1.1
        have hk2 := hev2.1
        dsimp only at hk1 hk2
        rw [decide_eq_true h1] at cm1
        rw [decide_eq_true h2] at cm2
        have H12 := Lib.hid h12
        have HK1 := Lib.hid hk1
        have HK2 := Lib.hid hk2
        clear h1 h2 hev1 hev2 h12 hk1 hk2 VS P0 Q0 K0 s3
        go_upto_region 4 with (first | ((with_reducible refine en_load rfl rfl ?_); apply LoadEn.mk rfl; (focus (with_reducible exact P1.out)); dsimp only) | ((with_reducible refine en_load_g ?_ rfl ?_); (focus first | rfl | kernel_rfl | simp [Region.wanted, yielded]); apply LoadEn.mk rfl; (focus (with_reducible exact Q2.out)); dsimp only) | (go_at_call 43; ((with_reducible refine ((cm1 _ _ A1.out).out).mono ?_); rintro r w2 ⟨rfl, hb⟩; have Q2 := Lib.hid (Q1.out.below hb Q1.out.lt); have C2 := Lib.hid (C1.out.below hb C1.out.lt); have E2 := Lib.hid (E1.out.below hb E1.out.lt); have F2 := Lib.hid (F1.out.below hb F1.out.lt); have K2 := Lib.hid (K1.out.trans (hb.mono K1.out.size)); clear hb cm1)) | (go_at_call 43; ((with_reducible refine ((cm2 _ _ C2.out).out).mono ?_); rintro r w3 ⟨rfl, hb⟩; have E3 := Lib.hid (E2.out.below hb E2.out.lt); have F3 := Lib.hid (F2.out.below hb F2.out.lt); have K3 := Lib.hid (K2.out.trans (hb.mono K2.out.size)); clear hb cm2)))
        have ec := E3.out.cell
        have fc := F3.out.cell
        have s3 := ev_slice2 ak az ag ap bk bz bg bp w3
        go_upto_region 5 with (first | (with_reducible refine alloc_en rfl rfl ?_) | (refine wpList_build_is rfl (t := 72) rfl rfl (ev_built _ _ _) ?_) | (with_reducible refine en_store_new rfl rfl rfl rfl En.zeroC_size rfl ?_))
        have M4 := Lib.hid (Box.made_at (n := w3.heap.size + 1) (w3.alloc (.cells #[.int .i64 ak, .int .i64 az, .int .i64 ag, .int .i64 ap, .int .i64 bk, .int .i64 bz, .int .i64 bg, .int .i64 bp] 83)) 72 (En.cells ⟨0, [], En.in0⟩ (.slice (some ⟨w3.heap.size, 0, none⟩) 2 2)) (by simp))
        have L4 := Lib.hid (show Box ((w3.alloc (.cells #[.int .i64 ak, .int .i64 az, .int .i64 ag, .int .i64 ap, .int .i64 bk, .int .i64 bz, .int .i64 bg, .int .i64 bp] 83)).alloc (.cells (En.cells ⟨0, [], En.in0⟩ (.slice (some ⟨w3.heap.size, 0, none⟩) 2 2)) 72)) w3.heap.size 83 (En.evCells [⟨ak, az, ag, ap⟩, ⟨bk, bz, bg, bp⟩]).toArray from (Box.made w3 83 #[.int .i64 ak, .int .i64 az, .int .i64 ag, .int .i64 ap, .int .i64 bk, .int .i64 bz, .int .i64 bg, .int .i64 bp]).alloc _)
        have E4 := Lib.hid ((E3.out.alloc (.cells #[.int .i64 ak, .int .i64 az, .int .i64 ag, .int .i64 ap, .int .i64 bk, .int .i64 bz, .int .i64 bg, .int .i64 bp] 83)).alloc (.cells (En.cells ⟨0, [], En.in0⟩ (.slice (some ⟨w3.heap.size, 0, none⟩) 2 2)) 72))
        have F4 := Lib.hid ((F3.out.alloc (.cells #[.int .i64 ak, .int .i64 az, .int .i64 ag, .int .i64 ap, .int .i64 bk, .int .i64 bz, .int .i64 bg, .int .i64 bp] 83)).alloc (.cells (En.cells ⟨0, [], En.in0⟩ (.slice (some ⟨w3.heap.size, 0, none⟩) 2 2)) 72))
        have K4 := Lib.hid (K3.out.trans ((two_below' w3 (.cells #[.int .i64 ak, .int .i64 az, .int .i64 ag, .int .i64 ap, .int .i64 bk, .int .i64 bz, .int .i64 bg, .int .i64 bp] 83) (.cells (En.cells ⟨0, [], En.in0⟩ (.slice (some ⟨w3.heap.size, 0, none⟩) 2 2)) 72)).mono K3.out.size))
        generalize (w3.alloc (.cells #[.int .i64 ak, .int .i64 az, .int .i64 ag, .int .i64 ap, .int .i64 bk, .int .i64 bz, .int .i64 bg, .int .i64 bp] 83)).alloc (.cells (En.cells ⟨0, [], En.in0⟩ (.slice (some ⟨w3.heap.size, 0, none⟩) 2 2)) 72) = Z at *
        clear ec fc s3 A1 P1 Q1 C1 E1 F1 K1 Q2 C2 E2 F2 K2 E3 F3 K3
        have e4 := E4.out.cell
        have f4 := F4.out.cell
        have HC := Lib.hid (cm3 w3.heap.size)
        clear cm3
        obtain ⟨d, hd⟩ : ∃ d, d = decide (En.Ok ⟨0, [⟨ak, az, ag, ap⟩, ⟨bk, bz, bg, bp⟩], En.in0⟩) := ⟨_, rfl⟩
        rw [← hd] at HC
        have hd2 : d = decide ((ak = bk ∧ az < bz) ∨ (ak = 2 ∧ bk = 1)) := by rw [hd]; exact decide_eq_decide.2 H12.out
        clear hd H12
        rcases HK1.out with rfl | rfl <;> rcases HK2.out with rfl | rfl <;> by_cases hz : az < bz
        · have hv : d = true := by rw [hd2]; exact decide_eq_true (by omega)
          subst hv
          clear hd2 HK1 HK2
          go_wp2_with (first | (go_at_call 40; ((with_reducible refine ((ct _).out).mono ?_); rintro r w5 ⟨rfl, hb⟩; have M5 := Lib.hid (M4.out.below hb M4.out.lt); have L5 := Lib.hid (L4.out.below hb L4.out.lt); have K5 := Lib.hid (K4.out.trans (hb.mono K4.out.size)); clear hb)) | ((with_reducible refine en_load_g ?_ rfl ?_); (focus first | rfl | kernel_rfl | simp [Region.wanted, yielded]); apply LoadEn.mk rfl; (focus (with_reducible exact M5.out)); dsimp only) | (go_at_call 43; ((with_reducible refine ((HC.out _ L5.out).out).mono ?_); rintro r w6 ⟨rfl, hb⟩; have K6 := Lib.hid (K5.out.trans (hb.mono K5.out.size)); clear hb)))
          go_ret
          exact ⟨ret_bool (by simp), K6.out⟩
        · have hv : d = false := by rw [hd2]; exact decide_eq_false (by omega)
          subst hv
          clear hd2 HK1 HK2
          go_wp2_with (first | (go_at_call 40; ((with_reducible refine ((ct _).out).mono ?_); rintro r w5 ⟨rfl, hb⟩; have M5 := Lib.hid (M4.out.below hb M4.out.lt); have L5 := Lib.hid (L4.out.below hb L4.out.lt); have K5 := Lib.hid (K4.out.trans (hb.mono K4.out.size)); clear hb)) | ((with_reducible refine en_load_g ?_ rfl ?_); (focus first | rfl | kernel_rfl | simp [Region.wanted, yielded]); apply LoadEn.mk rfl; (focus (with_reducible exact M5.out)); dsimp only) | (go_at_call 43; ((with_reducible refine ((HC.out _ L5.out).out).mono ?_); rintro r w6 ⟨rfl, hb⟩; have K6 := Lib.hid (K5.out.trans (hb.mono K5.out.size)); clear hb)))
          go_ret
          exact ⟨ret_bool (by simp), K6.out⟩
        · have hv : d = true := by rw [hd2]; exact decide_eq_true (by omega)
          subst hv
          clear hd2 HK1 HK2
          go_wp2_with (first | (go_at_call 40; ((with_reducible refine ((ct _).out).mono ?_); rintro r w5 ⟨rfl, hb⟩; have M5 := Lib.hid (M4.out.below hb M4.out.lt); have L5 := Lib.hid (L4.out.below hb L4.out.lt); have K5 := Lib.hid (K4.out.trans (hb.mono K4.out.size)); clear hb)) | ((with_reducible refine en_load_g ?_ rfl ?_); (focus first | rfl | kernel_rfl | simp [Region.wanted, yielded]); apply LoadEn.mk rfl; (focus (with_reducible exact M5.out)); dsimp only) | (go_at_call 43; ((with_reducible refine ((HC.out _ L5.out).out).mono ?_); rintro r w6 ⟨rfl, hb⟩; have K6 := Lib.hid (K5.out.trans (hb.mono K5.out.size)); clear hb)))
          go_ret
          exact ⟨ret_bool (by simp), K6.out⟩
        · have hv : d = true := by rw [hd2]; exact decide_eq_true (by omega)
          subst hv
          clear hd2 HK1 HK2
          go_wp2_with (first | (go_at_call 40; ((with_reducible refine ((ct _).out).mono ?_); rintro r w5 ⟨rfl, hb⟩; have M5 := Lib.hid (M4.out.below hb M4.out.lt); have L5 := Lib.hid (L4.out.below hb L4.out.lt); have K5 := Lib.hid (K4.out.trans (hb.mono K4.out.size)); clear hb)) | ((with_reducible refine en_load_g ?_ rfl ?_); (focus first | rfl | kernel_rfl | simp [Region.wanted, yielded]); apply LoadEn.mk rfl; (focus (with_reducible exact M5.out)); dsimp only) | (go_at_call 43; ((with_reducible refine ((HC.out _ L5.out).out).mono ?_); rintro r w6 ⟨rfl, hb⟩; have K6 := Lib.hid (K5.out.trans (hb.mono K5.out.size)); clear hb)))
          go_ret
          exact ⟨ret_bool (by simp), K6.out⟩
        · have hv : d = false := by rw [hd2]; exact decide_eq_false (by omega)
          subst hv
          clear hd2 HK1 HK2
          go_wp2_with (first | (go_at_call 40; ((with_reducible refine ((ct _).out).mono ?_); rintro r w5 ⟨rfl, hb⟩; have M5 := Lib.hid (M4.out.below hb M4.out.lt); have L5 := Lib.hid (L4.out.below hb L4.out.lt); have K5 := Lib.hid (K4.out.trans (hb.mono K4.out.size)); clear hb)) | ((with_reducible refine en_load_g ?_ rfl ?_); (focus first | rfl | kernel_rfl | simp [Region.wanted, yielded]); apply LoadEn.mk rfl; (focus (with_reducible exact M5.out)); dsimp only) | (go_at_call 43; ((with_reducible refine ((HC.out _ L5.out).out).mono ?_); rintro r w6 ⟨rfl, hb⟩; have K6 := Lib.hid (K5.out.trans (hb.mono K5.out.size)); clear hb)))
          go_ret
          exact ⟨ret_bool (by simp), K6.out⟩
        · have hv : d = false := by rw [hd2]; exact decide_eq_false (by omega)
          subst hv
          clear hd2 HK1 HK2
          go_wp2_with (first | (go_at_call 40; ((with_reducible refine ((ct _).out).mono ?_); rintro r w5 ⟨rfl, hb⟩; have M5 := Lib.hid (M4.out.below hb M4.out.lt); have L5 := Lib.hid (L4.out.below hb L4.out.lt); have K5 := Lib.hid (K4.out.trans (hb.mono K4.out.size)); clear hb)) | ((with_reducible refine en_load_g ?_ rfl ?_); (focus first | rfl | kernel_rfl | simp [Region.wanted, yielded]); apply LoadEn.mk rfl; (focus (with_reducible exact M5.out)); dsimp only) | (go_at_call 43; ((with_reducible refine ((HC.out _ L5.out).out).mono ?_); rintro r w6 ⟨rfl, hb⟩; have K6 := Lib.hid (K5.out.trans (hb.mono K5.out.size)); clear hb)))
          go_ret
          exact ⟨ret_bool (by simp), K6.out⟩
        · have hv : d = true := by rw [hd2]; exact decide_eq_true (by omega)
          subst hv
          clear hd2 HK1 HK2
          go_wp2_with (first | (go_at_call 40; ((with_reducible refine ((ct _).out).mono ?_); rintro r w5 ⟨rfl, hb⟩; have M5 := Lib.hid (M4.out.below hb M4.out.lt); have L5 := Lib.hid (L4.out.below hb L4.out.lt); have K5 := Lib.hid (K4.out.trans (hb.mono K4.out.size)); clear hb)) | ((with_reducible refine en_load_g ?_ rfl ?_); (focus first | rfl | kernel_rfl | simp [Region.wanted, yielded]); apply LoadEn.mk rfl; (focus (with_reducible exact M5.out)); dsimp only) | (go_at_call 43; ((with_reducible refine ((HC.out _ L5.out).out).mono ?_); rintro r w6 ⟨rfl, hb⟩; have K6 := Lib.hid (K5.out.trans (hb.mono K5.out.size)); clear hb)))
          go_ret
          exact ⟨ret_bool (by simp), K6.out⟩
        · have hv : d = false := by rw [hd2]; exact decide_eq_false (by omega)
          subst hv
          clear hd2 HK1 HK2
          go_wp2_with (first | (go_at_call 40; ((with_reducible refine ((ct _).out).mono ?_); rintro r w5 ⟨rfl, hb⟩; have M5 := Lib.hid (M4.out.below hb M4.out.lt); have L5 := Lib.hid (L4.out.below hb L4.out.lt); have K5 := Lib.hid (K4.out.trans (hb.mono K4.out.size)); clear hb)) | ((with_reducible refine en_load_g ?_ rfl ?_); (focus first | rfl | kernel_rfl | simp [Region.wanted, yielded]); apply LoadEn.mk rfl; (focus (with_reducible exact M5.out)); dsimp only) | (go_at_call 43; ((with_reducible refine ((HC.out _ L5.out).out).mono ?_); rintro r w6 ⟨rfl, hb⟩; have K6 := Lib.hid (K5.out.trans (hb.mono K5.out.size)); clear hb)))
          go_ret
          exact ⟨ret_bool (by simp), K6.out⟩
      · rw [decide_eq_true h1] at cm1
        rw [decide_eq_false h2] at cm2
        clear h1 h2 VS P0 Q0 K0 s3 cm3
        go_wp2_with (first | ((with_reducible refine en_load rfl rfl ?_); apply LoadEn.mk rfl; (focus (with_reducible exact P1.out)); dsimp only) | ((with_reducible refine en_load_g ?_ rfl ?_); (focus first | rfl | kernel_rfl | simp [Region.wanted, yielded]); apply LoadEn.mk rfl; (focus (with_reducible exact Q2.out)); dsimp only) | (go_at_call 43; ((with_reducible refine ((cm1 _ _ A1.out).out).mono ?_); rintro r w2 ⟨rfl, hb⟩; have Q2 := Lib.hid (Q1.out.below hb Q1.out.lt); have C2 := Lib.hid (C1.out.below hb C1.out.lt); have K2 := Lib.hid (K1.out.trans (hb.mono K1.out.size)); clear hb cm1)) | (go_at_call 43; ((with_reducible refine ((cm2 _ _ C2.out).out).mono ?_); rintro r w3 ⟨rfl, hb⟩; have K3 := Lib.hid (K2.out.trans (hb.mono K2.out.size)); clear hb cm2)) | (go_at_call 40; ((with_reducible refine ((ct _).out).mono ?_); rintro r w5 ⟨rfl, hb⟩; have K5 := Lib.hid (K3.out.trans (hb.mono K3.out.size)); clear hb)))
        go_ret
        exact ⟨rfl, K5.out⟩
    · rw [decide_eq_false h1] at cm1
      clear h1 VS P0 Q0 K0 s3 cm3 cm2
      go_wp2_with (first | ((with_reducible refine en_load rfl rfl ?_); apply LoadEn.mk rfl; (focus (with_reducible exact P1.out)); dsimp only) | (go_at_call 43; ((with_reducible refine ((cm1 _ _ A1.out).out).mono ?_); rintro r w2 ⟨rfl, hb⟩; have K2 := Lib.hid (K1.out.trans (hb.mono K1.out.size)); clear hb cm1)) | (go_at_call 40; ((with_reducible refine ((ct _).out).mono ?_); rintro r w5 ⟨rfl, hb⟩; have K5 := Lib.hid (K2.out.trans (hb.mono K2.out.size)); clear hb)))
      go_ret
      exact ⟨rfl, K5.out⟩
end Go.Proofs.Ytbihnmingedgfaa
