/-
Several texts in one: Zt Zw.
-/
import Derived.Test.YtgmlbimgcifenaaVp10
namespace Ms
open Go
def zeroM : Array Value := cells (start 0 0 0 0 0) (.slice none 0 0) (.slice none 0 0) (.slice none 0 0)
theorem zeroM_size : zeroM.size = 16 := rfl
/-- The message that bytes are, if they are one. -/
noncomputable def getM (bs : List Int) : Option M := (decMsg bs).bind fun q => if q.2 = [] then (if okB q.1 then some q.1 else none) else none
noncomputable def getW (bs : List Int) : Option M := if bs.length ≤ 1200 then getM (bs.drop 4) else none
/-- Their check stands ahead. -/
def sumB (bs : List Int) : Bool := match Im.rdn 4 bs with
  | some (y, rest) => y == ((Crc.sum rest : Nat) : Int)
  | none => false
theorem plain_ok (m : M) : okB (plain m) = okB m := by
  have e : Ok (plain m) ↔ Ok m := by
    have h1 : no1 (plain m) = no1 m := by unfold no1 bare bareOf plain; simp
    have h2 : no2 (plain m) = no2 m := rfl
    have h3 : no3 (plain m) = no3 m := by unfold no3 plain; simp
    constructor
    · intro h
      refine ⟨h1 ▸ h.n1, h2 ▸ h.n2, h3 ▸ h.n3, h.ins, fun k hk => ?_⟩
      have := h.log k (by unfold plain; simpa using hk)
      simpa [plain] using this
    · intro h
      refine ⟨h1.trans h.n1, h2.trans h.n2, h3.trans h.n3, h.ins, fun k hk => ?_⟩
      have := h.log k (by unfold plain at hk; simpa using hk)
      simpa [plain] using this
  rw [Bool.eq_iff_iff, okB_iff, okB_iff, e]
theorem decMsg_evs {bs rest : List Int} {q : S} (hB : Im.IsBytes bs) (h : decMsg bs = some (plain q.m, rest)) : ∀ s ∈ q.m.log, s.e.evs.length ≤ maxLen := fun s hs => by
  have h2 := decMsg_log hB h
  have := (h2 ⟨s.e, none, 0⟩ (List.mem_map.2 ⟨s, hs, rfl⟩)).count
  unfold maxLen
  dsimp only at this
  omega
theorem plain_ty {m : M} (h : Ty (plain m)) : Ty m :=
  ⟨h.kind, h.frm, h.serial, h.ack, h.seen, h.slot, h.gen, h.frame, h.code, h.n, h.of, h.bits, h.sum, h.ins, fun s hs => h.log ⟨s.e, none, 0⟩ (List.mem_map.2 ⟨s, hs, rfl⟩), h.data⟩
end Ms
namespace Go.Proofs.Ytgmlbimgcifenaa
open Go.RowKit Go.Shelf
set_option linter.unusedVariables false
set_option linter.unusedSimpArgs false

theorem msg_zero : (Try.prog.info? 29).map (·.zero) = some (some (.agg Ms.zeroM)) := by kernel_rfl
theorem alloc_msg {ops : Array Oper} {Q : Exit → Act → World → Prop} {o : Oper} {rest : List Oper} {a : Act} {w : World} (hgd : o.guard = none) (ho : o.op = .alloc 29)
    (h : wpList Try.prog ops Q rest (a.put o.dst (.pointer (some ⟨w.heap.size, 0, none⟩))) (w.alloc (.cells Ms.zeroM 29))) : wpList Try.prog ops Q (o :: rest) a w :=
  wpList_alloc_z hgd ho msg_zero rfl h
theorem msg_built : Try.prog.built 29 [] = some Ms.zeroM := by kernel_rfl
theorem msg_zero_one : Ms.zeroM.all (·.oneCell') = true := msg_one ⟨Ms.start 0 0 0 0 0, none, 0, none, 0, none, 0⟩
/-- A message that was read lies well. -/
theorem lies_read {q : Ms.S} {X : World} (h1 : RI q X) (h2 : RL q X) (h3 : RD q X) (l1 : q.m.ins.length ≤ 255) (l2 : q.m.log.length ≤ 255) (l3 : q.m.data.length ≤ 255) (hok : ∀ s ∈ q.m.log, s.e.evs.length ≤ maxLen) : LiesM X X.heap.size q := by
  refine ⟨?_, ⟨?_, ?_, hok⟩, ?_, by unfold maxLen; omega, by unfold maxLen; omega, by unfold maxLen; omega⟩
  · rcases h1 with ⟨a, b, c⟩ | ⟨S, a, b, c⟩
    · rw [a, c]; exact Lies.empty
    · rw [a]; exact Lies.boxed c (by rw [Gm.inCells_len])
  · rcases h2 with ⟨a, b, c⟩ | ⟨S, a, b, c, d⟩
    · rw [a, c]; exact Lies.empty
    · rw [a]; exact Lies.boxed c (by rw [En.sCells_len])
  · intro s hs
    rcases h2 with ⟨a, b, c⟩ | ⟨S, a, b, c, d⟩
    · rw [c] at hs; cases hs
    · obtain ⟨S2, e1, e2, e3⟩ := d s hs
      rw [e1]; exact Lies.boxed e3 (by rw [En.evCells_len])
  · rcases h3 with ⟨a, b, c⟩ | ⟨S, a, b, c⟩
    · rw [a, c]; exact Lies.empty
    · rw [a]; exact Lies.boxed c (by rw [Im.u8s_len]; omega)
theorem RI.keep {q : Ms.S} {X X' : World} (h : RI q X) (hk : ∀ g t cs, Box X g t cs → t ≠ 29 → t ≠ 3 → Box X' g t cs) : RI q X' := by
  rcases h with h | ⟨S, h1, h2, h3⟩
  · exact .inl h
  · exact .inr ⟨S, h1, h2, hk _ _ _ h3 (by decide) (by decide)⟩
theorem RL.keep {q : Ms.S} {X X' : World} (h : RL q X) (hk : ∀ g t cs, Box X g t cs → t ≠ 29 → t ≠ 3 → Box X' g t cs) : RL q X' := by
  rcases h with h | ⟨S, h1, h2, h3, h4⟩
  · exact .inl h
  · refine .inr ⟨S, h1, h2, hk _ _ _ h3 (by decide) (by decide), fun s hs => ?_⟩
    obtain ⟨S2, g1, g2, g3⟩ := h4 s hs
    exact ⟨S2, g1, g2, hk _ _ _ g3 (by decide) (by decide)⟩
theorem RD.keep {q : Ms.S} {X X' : World} (h : RD q X) (hk : ∀ g t cs, Box X g t cs → t ≠ 29 → t ≠ 3 → Box X' g t cs) : RD q X' := by
  rcases h with h | ⟨S, h1, h2, h3⟩
  · exact .inl h
  · exact .inr ⟨S, h1, h2, hk _ _ _ h3 (by decide) (by decide)⟩
theorem RI.below {q : Ms.S} {X X' : World} (h : RI q X) (hb : Below X.heap.size X X') : RI q X' := by
  rcases h with h | ⟨S, h1, h2, h3⟩
  · exact .inl h
  · exact .inr ⟨S, h1, h2, h3.below hb h3.lt⟩
theorem RL.below {q : Ms.S} {X X' : World} (h : RL q X) (hb : Below X.heap.size X X') : RL q X' := by
  rcases h with h | ⟨S, h1, h2, h3, h4⟩
  · exact .inl h
  · refine .inr ⟨S, h1, h2, h3.below hb h3.lt, fun s hs => ?_⟩
    obtain ⟨S2, g1, g2, g3⟩ := h4 s hs
    exact ⟨S2, g1, g2, g3.below hb g3.lt⟩
theorem RD.below {q : Ms.S} {X X' : World} (h : RD q X) (hb : Below X.heap.size X X') : RD q X' := by
  rcases h with h | ⟨S, h1, h2, h3⟩
  · exact .inl h
  · exact .inr ⟨S, h1, h2, h3.below hb h3.lt⟩

set_option maxHeartbeats 1000000 in
theorem wcatch_get (Bw B Bc : Nat) (u : TypeId) (pv : Value) (older : List PanicEntry) (w : World) (z : Int) (hw : Box w Bw 3 #[.int .i64 z]) (Z : Array Value) (hZ : Z.size = 16) (hb : Box w B 29 Z) (y : Int) (hc : Box w Bc 3 #[.int .i64 y]) :
    CallsD Try.prog 40 #[.pointer (some ⟨Bw, 0, none⟩), .pointer (some ⟨B, 0, none⟩), .pointer (some ⟨Bc, 0, none⟩)] (.panicking ({ v := .iface u pv, recovered := false } :: older)) w fun e u' w' =>
      e = .returned (.tuple #[]) ∧ u' = .panicking ({ v := .iface u pv, recovered := true } :: older) ∧ w' = (w.setRow B Ms.zeroM).setCell ⟨Bc, 0, none⟩ (.int .i64 z) := by
  have ne : B ≠ Bc := Box.apart hb hc (by decide)
  have w0 := hw.cell 0
  have HB := Lib.hid hb
  have HC := Lib.hid (hc.row_far (fun e => ne e.symm) Ms.zeroM)
  have c2 := HC.out.cell 0
  have f2 := HC.out.free 0
  have HZ := Lib.hid hZ
  clear hb hc hZ hw
  refine callsD_of_wpS Try.func40 rfl fun c₀ cs hu => ?_
  apply wpS_seq
  apply wpS_region
  simp [wpOpsS, go_sem, recoverD, hu, Try.ntmps40, Exit.thenS]
  refine wpS_cond (t := true) (by simp [Act.eval, Array.replicate]) ?_
  simp only [if_true]
  refine wpS_of_wp ?_
  go_wp2_with (first | (refine wpList_build_is rfl (t := 29) (l := []) (vs := []) rfl rfl msg_built ?_) | ((with_reducible refine blk_gate (t := 29) rfl rfl msg_info16 ?_); apply StoreBlk.mk rfl rfl HB.out msg_zero_one Ms.zeroM_size HZ.out))
  simp [bodyPostS, results, Try.results40]
theorem wcatch_idle_get (o p q : Addr) (w : World) :
    CallsD Try.prog 40 #[.pointer (some o), .pointer (some p), .pointer (some q)] .returning w fun e u' w' => e = .returned (.tuple #[]) ∧ u' = .returning ∧ w' = w := by
  refine callsD_of_wpS Try.func40 rfl fun c₀ cs hu => ?_
  apply wpS_seq
  apply wpS_region
  simp [wpOpsS, go_sem, recoverD, hu, Try.ntmps40, Exit.thenS]
  refine wpS_cond (t := false) (by simp [Act.eval, Array.replicate]) ?_
  simp only [Bool.false_eq_true, if_false]
  refine wpS_of_wp (wp_skip ?_)
  cases c₀
  simp_all [bodyPostS, results, Try.results40]

/-- What Get says of bytes. -/
def SaysGet (bs : List Int) (w : World) (r : Ending) (w' : World) : Prop :=
  (Ms.sumB bs = false ∧ r = .returned (.tuple #[.agg Ms.zeroM, .int .i64 9]) ∧ Below w.heap.size w w') ∨
  (Ms.sumB bs = true ∧ Ms.getW bs = none ∧ r = .returned (.tuple #[.agg Ms.zeroM, .int .i64 2]) ∧ Below w.heap.size w w') ∨
  (Ms.sumB bs = true ∧ ∃ q, Ms.getW bs = some (Ms.plain q.m) ∧ r = .returned (.tuple #[.agg q.cells, .int .i64 0]) ∧ LiesM w' w'.heap.size q ∧ Below w.heap.size w w')

set_option maxRecDepth 100000 in
set_option maxHeartbeats 4000000 in
theorem wget_any (bs : List Int) (A : Option Addr) (n c : Nat) (w : World) (hn : n = bs.length) (hn63 : n ≤ maxLen) (hc : n ≤ c) (hBy : Im.IsBytes bs) (hL : Lies w w.heap.size 1 A n (Im.u8s bs)) :
    Calls Try.prog 19 #[.slice A n c] w (SaysGet bs w) := by
  have hmf : ∀ (fn : Fn) (first cap : Array Value) (w : World), (Instr.makeFunc fn first cap).run Try.prog w = .ok (.func fn first cap) w := fun _ _ _ _ => rfl
  obtain ⟨V, hV⟩ : ∃ V, V = ((((((w.alloc (.cells #[.slice A n c] 27)).alloc (.cells Ms.zeroM 29)).alloc (.cells #[.int .i64 0] 3)).alloc (.cells #[.int .i64 9] 3)).alloc (.cells #[.int .u32 0] 23)).alloc (.cells #[.pointer (some ⟨w.heap.size, 0, none⟩)] 68)) := ⟨_, rfl⟩
  have VB := Lib.hid (show Box V (w.heap.size) 27 #[.slice A n c] by rw [hV]; exact ((((((Box.made w _ _).alloc _).alloc _).alloc _).alloc _).alloc _))
  have M1 := Lib.hid (show Box V (w.heap.size + 1) 29 Ms.zeroM by rw [hV]; exact (((((Box.made_at (n := w.heap.size + 1) (w.alloc (.cells #[.slice A n c] 27)) _ _ (by simp)).alloc _).alloc _).alloc _).alloc _))
  have C1 := Lib.hid (show Box V (w.heap.size + 1 + 1) 3 #[.int .i64 0] by rw [hV]; exact ((((Box.made_at (n := w.heap.size + 1 + 1) ((w.alloc (.cells #[.slice A n c] 27)).alloc (.cells Ms.zeroM 29)) _ _ (by simp)).alloc _).alloc _).alloc _))
  have D1 := Lib.hid (show Box V (w.heap.size + 1 + 1 + 1) 3 #[.int .i64 9] by rw [hV]; exact (((Box.made_at (n := w.heap.size + 1 + 1 + 1) (((w.alloc (.cells #[.slice A n c] 27)).alloc (.cells Ms.zeroM 29)).alloc (.cells #[.int .i64 0] 3)) _ _ (by simp)).alloc _).alloc _))
  have X1 := Lib.hid (show Box V (w.heap.size + 1 + 1 + 1 + 1) 23 #[.int .u32 0] by rw [hV]; exact ((Box.made_at (n := w.heap.size + 1 + 1 + 1 + 1) ((((w.alloc (.cells #[.slice A n c] 27)).alloc (.cells Ms.zeroM 29)).alloc (.cells #[.int .i64 0] 3)).alloc (.cells #[.int .i64 9] 3)) _ _ (by simp)).alloc _))
  have R1 := Lib.hid (show Box V (w.heap.size + 1 + 1 + 1 + 1 + 1) 68 #[.pointer (some ⟨w.heap.size, 0, none⟩)] by rw [hV]; exact (Box.made_at (n := w.heap.size + 1 + 1 + 1 + 1 + 1) (((((w.alloc (.cells #[.slice A n c] 27)).alloc (.cells Ms.zeroM 29)).alloc (.cells #[.int .i64 0] 3)).alloc (.cells #[.int .i64 9] 3)).alloc (.cells #[.int .u32 0] 23)) _ _ (by simp)))
  have K1 := Lib.hid (show Below w.heap.size w V by rw [hV]; exact ((((((Below.refl w.heap.size w).alloc (Nat.le_refl _) _).alloc (by simp) _).alloc (by simp <;> omega) _).alloc (by simp <;> omega) _).alloc (by simp <;> omega) _).alloc (by simp <;> omega) _)
  have L1 := hL.below K1.out
  have RD1 : Rd w.heap.size w.heap.size (w.heap.size + 1 + 1 + 1 + 1 + 1) bs V := ⟨R1.out, A, c, by rw [← hn]; exact VB.out, by rw [← hn]; exact hc, by rw [← hn]; exact L1⟩
  have c1 := Lib.hid (part_u32 4 4 rfl 0 (w.heap.size + 1 + 1 + 1 + 1) 0 23 #[.int .u32 0] bs w.heap.size w.heap.size (w.heap.size + 1 + 1 + 1 + 1 + 1) V (by decide) hBy (Nat.le_refl _) (by omega) K1.out.size RD1 X1.out rfl (by decide) (by decide) (by decide))
  have HY := Lib.hid hBy
  have HN := Lib.hid hn.symm
  have HV := Lib.hid hV.symm
  have N63 := Lib.hid hn63
  unfold maxLen at hn63
  clear hn hL L1 RD1 hBy hV
  go_enter_defers Try.func19, Try.ntmps19
  go_upto_region 5 with (first | (with_reducible refine alloc_msg rfl rfl ?_) | (go_at_call 41; ((with_reducible refine (reader_any _ _).mono ?_); rintro e w3 ⟨rfl, rfl⟩)))
  rw [HV.out]
  go_upto_region 6 with (go_at_call 33; ((with_reducible refine (c1.out).mono ?_); rintro r w4 (⟨y, rest, hr, rfl, hI, hK, hB⟩ | ⟨hn, ⟨ss, rfl⟩, hK, cs', hB, hs⟩); (all_goals first | (have R4 := Lib.hid hr; have Y4 := Lib.hid (Im.rdn_inv HY.out hr); have I4 := Lib.hid hI; have X4 := Lib.hid hB; have M4 := Lib.hid (hK.kb _ _ _ M1.out (by omega) (by decide) (by decide)); have C4 := Lib.hid (hK.kb _ _ _ C1.out (by omega) (by decide) (by decide)); have D4 := Lib.hid (hK.kb _ _ _ D1.out (by omega) (by decide) (by decide)); have K4 := Lib.hid (K1.out.trans hK.below); clear hr hI hK hB c1) | (have N4 := Lib.hid hn; have M4 := Lib.hid (hK.kb _ _ _ M1.out (by omega) (by decide) (by decide)); have C4 := Lib.hid (hK.kb _ _ _ C1.out (by omega) (by decide) (by decide)); have D4 := Lib.hid (hK.kb _ _ _ D1.out (by omega) (by decide) (by decide)); have K4 := Lib.hid (K1.out.trans hK.below); clear hn hK hB hs c1))))
  rotate_left
  · have hs : Ms.sumB bs = false := by unfold Ms.sumB; rw [N4.out]
    refine leaves_cons (f := 40) (args := #[.pointer (some ⟨w.heap.size + 1 + 1 + 1, 0, none⟩), .pointer (some ⟨w.heap.size + 1, 0, none⟩), .pointer (some ⟨w.heap.size + 1 + 1, 0, none⟩)]) (by simp) (by simp [go_sem]) ?_
    refine (wcatch_get (w.heap.size + 1 + 1 + 1) (w.heap.size + 1) (w.heap.size + 1 + 1) _ _ [] _ _ D4.out _ Ms.zeroM_size M4.out _ C4.out).mono ?_
    rintro r u' w'' ⟨rfl, rfl, rfl⟩
    have B8 := (M4.out.row Ms.zeroM).far (p := ⟨w.heap.size + 1 + 1, 0, none⟩) (show w.heap.size + 1 ≠ w.heap.size + 1 + 1 by omega) (.int .i64 9)
    have C8 := (C4.out.row_far (show w.heap.size + 1 + 1 ≠ w.heap.size + 1 by omega) Ms.zeroM).put 0 (.int .i64 9)
    have K8 := (Below.setRow' (g := w.heap.size + 1) K4.out (Nat.le_succ _) Ms.zeroM).setCell (p := ⟨w.heap.size + 1 + 1, 0, none⟩) (by show w.heap.size ≤ w.heap.size + 1 + 1; omega) (.int .i64 9)
    have hr := fun (tmps : Array Value) h1 h2 => results_cells2 (fn := Try.f19) (p := 2) (q := 3) rfl tmps _ (w.heap.size + 1) (w.heap.size + 1 + 1) 29 Ms.zeroM _ 9 h1 h2 B8 (by simpa using C8) Try.underlying29 rfl (by rw [Ms.zeroM_size]; exact msg_info16)
    show Leaves Try.prog _ _ _ [] .returning _
    exact ⟨_, hr _ rfl rfl, .inl ⟨hs, rfl, K8⟩⟩
  obtain ⟨hp4, A4, c4, hv4, hc4, hl4⟩ := I4.out
  have VB4 := Lib.hid hv4
  have HL4 := Lib.hid hl4
  have s4 : w.heap.size ≤ w4.heap.size := K4.out.size
  have ln4 : rest.length ≤ 9223372036854775807 := by
    have h1 := congrArg List.length Y4.out.1
    rw [List.length_append, Im.bytesOf_len, HN.out] at h1
    omega
  have cc := fun X (hX : Below w.heap.size w4 X) => Lib.hid (wcheck_any rest A4 rest.length c4 X Y4.out.2.2.2 (by unfold maxLen; omega) ((HL4.out.below hX).wider (Nat.le_trans s4 hX.size)))
  clear hp4 hv4 hc4 hl4
  have XB4 := Lib.hid (show Box w4 (w.heap.size + 1 + 1 + 1 + 1) 23 #[.int .u32 y] from X4.out)
  have CB := Lib.hid (show w4.drew = w4.drew from rfl)
  by_cases hsum : y = ((Crc.sum rest : Nat) : Int)
  · have hs := Lib.hid (show Ms.sumB bs = true by unfold Ms.sumB; rw [R4.out]; simpa using hsum)
    have hyb : (y == ((Crc.sum rest : Nat) : Int)) = true := by simpa using hsum
    clear hsum
    refine Rx.wp_region_lex (X := fun _ _ => False) (by kernel_rfl) [] (by kernel_rfl) (· = w4.drew) (fun W => Box W (w.heap.size + 1 + 1 + 1 + 1) 23 #[.int .u32 y] ∧ Box W w.heap.size 27 #[.slice A4 rest.length c4]) (fun _ => True) rfl (fun W hW => ⟨hW ▸ ⟨XB4.out.drew, VB4.out.drew⟩, trivial⟩) (fun _ _ _ _ _ h => h.elim) ?_
    repeat (first
      | (apply Rx.lex_free rfl rfl; focus (intro _; go_simp; first | done | rfl))
      | (apply Rx.lex_look rfl rfl rfl rfl; focus (intro W hW; obtain ⟨hW1, hW2⟩ := hW; have q0 := Box.cell hW1; have q1 := Box.cell hW2; clear hW1 hW2; go_simp; first | done | rfl)))
    refine Rx.lex_call (C' := (· = w4.drew)) (v := .int .u32 ((Crc.sum rest : Nat) : Int)) (f := 23) (args := #[.slice A4 rest.length c4]) rfl ?_ ?_ ?_ ?_
    · intro Z hZ; clear hZ; go_simp; first | done | rfl | exact ⟨rfl, rfl⟩
    · intro Z hZ
      subst hZ
      refine ((cc _ ((one_below' w4).mono s4)).out).mono ?_
      rintro e Z2 ⟨rfl, rfl⟩
      exact .inl ⟨rfl, rfl⟩
    · exact fun Z hZ => ⟨hZ ▸ ⟨XB4.out.drew, VB4.out.drew⟩, trivial⟩
    repeat (first
      | (apply Rx.lex_free rfl rfl; focus (intro _; go_simp; first | done | rfl))
      | (apply Rx.lex_look rfl rfl rfl rfl; focus (intro W hW; obtain ⟨hW1, hW2⟩ := hW; have q0 := Box.cell hW1; have q1 := Box.cell hW2; clear hW1 hW2; go_simp; first | done | rfl)))
    refine Rx.lex_call (C' := (· = w4.drew)) (v := .tuple #[]) (f := 30) (args := #[.bool true, .string ⟨#[115, 112, 111, 105, 108, 116]⟩]) rfl ?_ ?_ ?_ ?_
    · intro Z hZ; clear hZ; go_simp; first | done | rfl | exact ⟨rfl, rfl⟩
    · intro Z hZ
      subst hZ
      refine (need_yes _ _).mono ?_
      rintro e Z2 ⟨rfl, rfl⟩
      exact .inl ⟨rfl, rfl⟩
    · exact fun Z hZ => ⟨hZ ▸ ⟨XB4.out.drew, VB4.out.drew⟩, trivial⟩
    refine Rx.lex_end fun W3 hW3 => ?_
    subst hW3
    simp only [Act.put, List.setIfInBounds_toArray, List.set_cons_succ, List.set_cons_zero]
    have M5 := Lib.hid M4.out.drew
    have C5 := Lib.hid C4.out.drew
    have D5 := Lib.hid D4.out.drew
    have K5 := Lib.hid (K4.out.trans ((one_below' w4).mono s4))
    have I5 := Lib.hid (I4.out.call (one_below' w4) s4)
    have d5 := D5.out.cell 0
    have g5 := D5.out.free 0
    have s5 : w.heap.size ≤ w4.drew.heap.size := s4
    generalize w4.drew = w5 at *
    clear M4 C4 D4 XB4 VB4 HL4 cc CB s4 I4 X4
    have drop4 := Lib.hid (show bs.drop 4 = rest by
      have := Y4.out.1
      rw [this]
      exact (List.drop_left' (Im.bytesOf_len 4 y)))
    have YR := Lib.hid Y4.out.2.2.2
    go_upto_region 8 with fail
    obtain ⟨U, hU⟩ : ∃ U, U = w5.setCell ⟨w.heap.size + 1 + 1 + 1, 0, none⟩ (.int .i64 2) := ⟨_, rfl⟩
    have DU := Lib.hid (show Box U (w.heap.size + 1 + 1 + 1) 3 #[.int .i64 2] by rw [hU]; exact D5.out.put 0 _)
    have MU := Lib.hid (show Box U (w.heap.size + 1) 29 Ms.zeroM by rw [hU]; exact M5.out.far (p := ⟨w.heap.size + 1 + 1 + 1, 0, none⟩) (by show w.heap.size + 1 ≠ w.heap.size + 1 + 1 + 1; omega) _)
    have CU := Lib.hid (show Box U (w.heap.size + 1 + 1) 3 #[.int .i64 0] by rw [hU]; exact C5.out.far (p := ⟨w.heap.size + 1 + 1 + 1, 0, none⟩) (by show w.heap.size + 1 + 1 ≠ w.heap.size + 1 + 1 + 1; omega) _)
    have KU := Lib.hid (show Below w.heap.size w U by rw [hU]; exact K5.out.setCell (p := ⟨w.heap.size + 1 + 1 + 1, 0, none⟩) (by show w.heap.size ≤ w.heap.size + 1 + 1 + 1; omega) _)
    have IU := Lib.hid (show Rd w.heap.size w.heap.size (w.heap.size + 1 + 1 + 1 + 1 + 1) rest U by rw [hU]; exact I5.out.off (p := ⟨w.heap.size + 1 + 1 + 1, 0, none⟩) D5.out (by decide) (by decide) (by show w.heap.size ≤ w.heap.size + 1 + 1 + 1; omega) _)
    rw [← hU]
    have sU := KU.out.size
    have cl := Lib.hid (laymsg_r (w.heap.size + 1) rest w.heap.size w.heap.size (w.heap.size + 1 + 1 + 1 + 1 + 1) U YR.out (Nat.le_refl _) (by omega) sU IU.out MU.out)
    have HGW := Lib.hid (show Ms.getW bs = if bs.length ≤ 1200 then Ms.getM (bs.drop 4) else none from rfl)
    rw [HN.out, drop4.out] at HGW
    have HGM := Lib.hid (show Ms.getM rest = (Ms.decMsg rest).bind fun q => if q.2 = [] then (if Ms.okB q.1 then some q.1 else none) else none from rfl)
    clear hU d5 g5 s5 K5 C5 D5 M5 I5 hyb
    by_cases hle : n ≤ 1200
    · have hle' : (n : Int) ≤ 1200 := by omega
      rw [if_pos hle] at HGW
      go_upto_region 10 with (first | (go_at_call 30; ((with_reducible refine (need_yes _ _).mono ?_); rintro r wn ⟨rfl, rfl⟩)) | (go_at_call 31; ((with_reducible refine (cl.out).mono ?_); rintro r w6 (⟨q, r2, hr, rfl, hy, hI, hB, hri, hrl, hrd, hb, hK⟩ | ⟨hn, ⟨ss, rfl⟩, hb, hK, cs6, hB, hs6⟩); (all_goals first | (have R6 := Lib.hid hr; have I6 := Lib.hid hI; have M6 := Lib.hid hB; have RI6 := Lib.hid hri; have RL6 := Lib.hid hrl; have RD6 := Lib.hid hrd; have C6 := Lib.hid (hK _ _ _ CU.out (by omega) (by decide) (by decide)); have D6 := Lib.hid (hK _ _ _ DU.out (by omega) (by decide) (by decide)); have K6 := Lib.hid (KU.out.trans hb); clear hr hy hI hB hri hrl hrd hb hK cl) | (have N6 := Lib.hid hn; have M6 := Lib.hid hB; have S6 := Lib.hid hs6; have C6 := Lib.hid (hK _ _ _ CU.out (by omega) (by decide) (by decide)); have D6 := Lib.hid (hK _ _ _ DU.out (by omega) (by decide) (by decide)); have K6 := Lib.hid (KU.out.trans hb); clear hn hb hK hB hs6 cl)))))
      rotate_left
      · have hg : Ms.getW bs = none := by rw [HGW.out, HGM.out, N6.out]; rfl
        refine leaves_cons (f := 40) (args := #[.pointer (some ⟨w.heap.size + 1 + 1 + 1, 0, none⟩), .pointer (some ⟨w.heap.size + 1, 0, none⟩), .pointer (some ⟨w.heap.size + 1 + 1, 0, none⟩)]) (by simp) (by simp [go_sem]) ?_
        refine (wcatch_get (w.heap.size + 1 + 1 + 1) (w.heap.size + 1) (w.heap.size + 1 + 1) _ _ [] _ _ D6.out _ S6.out M6.out _ C6.out).mono ?_
        rintro r u' w'' ⟨rfl, rfl, rfl⟩
        have B8 := (M6.out.row Ms.zeroM).far (p := ⟨w.heap.size + 1 + 1, 0, none⟩) (show w.heap.size + 1 ≠ w.heap.size + 1 + 1 by omega) (.int .i64 2)
        have C8 := (C6.out.row_far (show w.heap.size + 1 + 1 ≠ w.heap.size + 1 by omega) Ms.zeroM).put 0 (.int .i64 2)
        have K8 := (Below.setRow' (g := w.heap.size + 1) K6.out (Nat.le_succ _) Ms.zeroM).setCell (p := ⟨w.heap.size + 1 + 1, 0, none⟩) (by show w.heap.size ≤ w.heap.size + 1 + 1; omega) (.int .i64 2)
        have hr := fun (tmps : Array Value) h1 h2 => results_cells2 (fn := Try.f19) (p := 2) (q := 3) rfl tmps _ (w.heap.size + 1) (w.heap.size + 1 + 1) 29 Ms.zeroM _ 2 h1 h2 B8 (by simpa using C8) Try.underlying29 rfl (by rw [Ms.zeroM_size]; exact msg_info16)
        show Leaves Try.prog _ _ _ [] .returning _
        exact ⟨_, hr _ rfl rfl, .inr (.inl ⟨hs.out, hg, rfl, K8⟩)⟩
      obtain ⟨_, A6, c6, hv6, _, _⟩ := I6.out
      have v6 := hv6.cell 0
      obtain ⟨hbody, hty, _, hkd, hl1, hl2, hl3, _⟩ := Ms.decMsg_inv YR.out R6.out
      have HTY := Lib.hid (Ms.plain_ty hty)
      have hpl : (Ms.plain q.m).log.length = q.m.log.length := by unfold Ms.plain; simp
      have HB1 := Lib.hid (show q.m.ins.length ≤ 255 ∧ q.m.log.length ≤ 255 ∧ q.m.data.length ≤ 255 from ⟨hl1, by omega, hl3⟩)
      have HEV := Lib.hid (Ms.decMsg_evs YR.out R6.out)
      clear hv6 hbody hty hkd hl1 hl2 hl3 hpl
      cases hr2 : r2 with
      | cons x xs =>
        have hg : Ms.getW bs = none := by rw [HGW.out, HGM.out, R6.out, Option.bind_some]; dsimp only; rw [hr2, if_neg (by simp)]
        have hl0 : ((r2.length : Int) == 0) = false := by rw [hr2]; simp; omega
        generalize r2.length = m at *
        have HG := Lib.hid hg
        clear hr2 hg
        go_wp2_with (go_at_call 30; ((with_reducible refine (need_no _ _).mono ?_); rintro r wn ⟨rfl, rfl⟩))
        refine leaves_cons (f := 40) (args := #[.pointer (some ⟨w.heap.size + 1 + 1 + 1, 0, none⟩), .pointer (some ⟨w.heap.size + 1, 0, none⟩), .pointer (some ⟨w.heap.size + 1 + 1, 0, none⟩)]) (by simp) (by simp [go_sem]) ?_
        refine (wcatch_get (w.heap.size + 1 + 1 + 1) (w.heap.size + 1) (w.heap.size + 1 + 1) _ _ [] _ _ D6.out _ rfl M6.out _ C6.out).mono ?_
        rintro r u' w'' ⟨rfl, rfl, rfl⟩
        have B8 := (M6.out.row Ms.zeroM).far (p := ⟨w.heap.size + 1 + 1, 0, none⟩) (show w.heap.size + 1 ≠ w.heap.size + 1 + 1 by omega) (.int .i64 2)
        have C8 := (C6.out.row_far (show w.heap.size + 1 + 1 ≠ w.heap.size + 1 by omega) Ms.zeroM).put 0 (.int .i64 2)
        have K8 := (Below.setRow' (g := w.heap.size + 1) K6.out (Nat.le_succ _) Ms.zeroM).setCell (p := ⟨w.heap.size + 1 + 1, 0, none⟩) (by show w.heap.size ≤ w.heap.size + 1 + 1; omega) (.int .i64 2)
        have hr := fun (tmps : Array Value) h1 h2 => results_cells2 (fn := Try.f19) (p := 2) (q := 3) rfl tmps _ (w.heap.size + 1) (w.heap.size + 1 + 1) 29 Ms.zeroM _ 2 h1 h2 B8 (by simpa using C8) Try.underlying29 rfl (by rw [Ms.zeroM_size]; exact msg_info16)
        show Leaves Try.prog _ _ _ [] .returning _
        exact ⟨_, hr _ rfl rfl, .inr (.inl ⟨hs.out, HG.out, rfl, K8⟩)⟩
      | nil =>
        rw [hr2] at v6
        have HR2 := Lib.hid hr2
        clear hr2
        have LM := Lib.hid (lies_read RI6.out RL6.out RD6.out HB1.out.1 HB1.out.2.1 HB1.out.2.2 HEV.out)
        have cm := Lib.hid (wmay_any q w6 HTY.out LM.out)
        have HGQ := Lib.hid (show Ms.getW bs = if Ms.okB q.m then some (Ms.plain q.m) else none by rw [HGW.out, HGM.out, R6.out, Option.bind_some]; dsimp only; rw [HR2.out, if_pos rfl, Ms.plain_ok])
        cases hok : Ms.okB q.m with
        | false =>
          rw [hok] at cm HGQ
          clear hok
          go_wp2_with (first | (go_at_call 30; first | ((with_reducible refine (need_yes _ _).mono ?_); rintro r wn ⟨rfl, rfl⟩) | ((with_reducible refine (need_no _ _).mono ?_); rintro r wn ⟨rfl, rfl⟩)) | ((with_reducible refine load_at_gate rfl rfl Try.underlying29 rfl msg_info16 ?_); apply LoadAt.mk (cs := q.cells.toList) rfl (fun j v hv => by rw [addr_cell, Nat.zero_add, M6.out.cell]; simpa using hv) rfl; rw [Array.toArray_toList]) | (go_at_call 15; ((with_reducible refine (cm.out).mono ?_); rintro r w7 ⟨rfl, hb⟩; have M7 := Lib.hid (M6.out.below hb M6.out.lt); have D7 := Lib.hid (D6.out.below hb D6.out.lt); have C7 := Lib.hid (C6.out.below hb C6.out.lt); have K7 := Lib.hid (K6.out.trans (hb.mono K6.out.size)); clear hb)))
          refine leaves_cons (f := 40) (args := #[.pointer (some ⟨w.heap.size + 1 + 1 + 1, 0, none⟩), .pointer (some ⟨w.heap.size + 1, 0, none⟩), .pointer (some ⟨w.heap.size + 1 + 1, 0, none⟩)]) (by simp) (by simp [go_sem]) ?_
          refine (wcatch_get (w.heap.size + 1 + 1 + 1) (w.heap.size + 1) (w.heap.size + 1 + 1) _ _ [] _ _ D7.out _ rfl M7.out _ C7.out).mono ?_
          rintro r u' w'' ⟨rfl, rfl, rfl⟩
          have B8 := (M7.out.row Ms.zeroM).far (p := ⟨w.heap.size + 1 + 1, 0, none⟩) (show w.heap.size + 1 ≠ w.heap.size + 1 + 1 by omega) (.int .i64 2)
          have C8 := (C7.out.row_far (show w.heap.size + 1 + 1 ≠ w.heap.size + 1 by omega) Ms.zeroM).put 0 (.int .i64 2)
          have K8 := (Below.setRow' (g := w.heap.size + 1) K7.out (Nat.le_succ _) Ms.zeroM).setCell (p := ⟨w.heap.size + 1 + 1, 0, none⟩) (by show w.heap.size ≤ w.heap.size + 1 + 1; omega) (.int .i64 2)
          have hr := fun (tmps : Array Value) h1 h2 => results_cells2 (fn := Try.f19) (p := 2) (q := 3) rfl tmps _ (w.heap.size + 1) (w.heap.size + 1 + 1) 29 Ms.zeroM _ 2 h1 h2 B8 (by simpa using C8) Try.underlying29 rfl (by rw [Ms.zeroM_size]; exact msg_info16)
          show Leaves Try.prog _ _ _ [] .returning _
          exact ⟨_, hr _ rfl rfl, .inr (.inl ⟨hs.out, HGQ.out, rfl, K8⟩)⟩
        | true =>
          rw [hok] at cm HGQ
          clear hok
          go_upto_region 12 with (first | (go_at_call 30; ((with_reducible refine (need_yes _ _).mono ?_); rintro r wn ⟨rfl, rfl⟩)) | ((with_reducible refine load_at_gate rfl rfl Try.underlying29 rfl msg_info16 ?_); apply LoadAt.mk (cs := q.cells.toList) rfl (fun j v hv => by rw [addr_cell, Nat.zero_add, M6.out.cell]; simpa using hv) rfl; rw [Array.toArray_toList]) | (go_at_call 15; ((with_reducible refine (cm.out).mono ?_); rintro r w7 ⟨rfl, hb⟩; have M7 := Lib.hid (M6.out.below hb M6.out.lt); have D7 := Lib.hid (D6.out.below hb D6.out.lt); have C7 := Lib.hid (C6.out.below hb C6.out.lt); have K7 := Lib.hid (K6.out.trans (hb.mono K6.out.size)); have RI7 := Lib.hid (RI6.out.below hb); have RL7 := Lib.hid (RL6.out.below hb); have RD7 := Lib.hid (RD6.out.below hb); clear hb)))
          have C8 := Lib.hid (C7.out.row_far (show w.heap.size + 1 + 1 ≠ w.heap.size + 1 by omega) q.cells)
          have c8 := C8.out.cell 0
          have f8 := C8.out.free 0
          go_wp2_with (first | ((with_reducible refine load_at_gate rfl rfl Try.underlying29 rfl msg_info16 ?_); apply LoadAt.mk (cs := q.cells.toList) rfl (fun j v hv => by rw [addr_cell, Nat.zero_add, M7.out.cell]; simpa using hv) rfl; rw [Array.toArray_toList]) | ((with_reducible refine blk_gate (t := 29) rfl rfl msg_info16 ?_); apply StoreBlk.mk rfl rfl M7.out (msg_one q) rfl rfl))
          have ne : w.heap.size + 1 ≠ w.heap.size + 1 + 1 := by omega
          have B9 := (M7.out.row q.cells).far (p := ⟨w.heap.size + 1 + 1, 0, none⟩) ne (.int .i64 0)
          have C9 := C8.out.put 0 (.int .i64 0)
          have K9 := (Below.setRow' (g := w.heap.size + 1) K7.out (Nat.le_succ _) q.cells).setCell (p := ⟨w.heap.size + 1 + 1, 0, none⟩) (by show w.heap.size ≤ w.heap.size + 1 + 1; omega) (.int .i64 0)
          have hkeep : ∀ g t cs, Box w7 g t cs → t ≠ 29 → t ≠ 3 → Box ((w7.setRow (w.heap.size + 1) q.cells).setCell ⟨w.heap.size + 1 + 1, 0, none⟩ (.int .i64 0)) g t cs := fun g t cs hg h1 h2 => (hg.row_far (Box.apart hg M7.out h1) q.cells).far (p := ⟨w.heap.size + 1 + 1, 0, none⟩) (Box.apart hg C7.out h2) _
          have LF := lies_read (RI7.out.keep hkeep) (RL7.out.keep hkeep) (RD7.out.keep hkeep) HB1.out.1 HB1.out.2.1 HB1.out.2.2 HEV.out
          refine leaves_cons (f := 40) (args := #[.pointer (some ⟨w.heap.size + 1 + 1 + 1, 0, none⟩), .pointer (some ⟨w.heap.size + 1, 0, none⟩), .pointer (some ⟨w.heap.size + 1 + 1, 0, none⟩)]) (by simp) (by simp [go_sem]) ?_
          refine (wcatch_idle_get _ _ _ _).mono ?_
          rintro r u' w'' ⟨rfl, rfl, rfl⟩
          have hr := fun (tmps : Array Value) h1 h2 => results_cells2 (fn := Try.f19) (p := 2) (q := 3) rfl tmps _ (w.heap.size + 1) (w.heap.size + 1 + 1) 29 q.cells _ 0 h1 h2 B9 (by simpa using C9) Try.underlying29 rfl msg_info16
          show Leaves Try.prog _ _ _ [] .returning _
          exact ⟨_, hr _ rfl rfl, .inr (.inr ⟨hs.out, q, by rw [HGQ.out]; simp, rfl, LF, K9⟩)⟩
    · have hle' : ¬ (n : Int) ≤ 1200 := by omega
      have hg : Ms.getW bs = none := by rw [HGW.out, if_neg hle]
      have HG := Lib.hid hg
      clear hg cl
      go_wp2_with (go_at_call 30; ((with_reducible refine (need_no _ _).mono ?_); rintro r wn ⟨rfl, rfl⟩))
      refine leaves_cons (f := 40) (args := #[.pointer (some ⟨w.heap.size + 1 + 1 + 1, 0, none⟩), .pointer (some ⟨w.heap.size + 1, 0, none⟩), .pointer (some ⟨w.heap.size + 1 + 1, 0, none⟩)]) (by simp) (by simp [go_sem]) ?_
      refine (wcatch_get (w.heap.size + 1 + 1 + 1) (w.heap.size + 1) (w.heap.size + 1 + 1) _ _ [] _ _ DU.out _ Ms.zeroM_size MU.out _ CU.out).mono ?_
      rintro r u' w'' ⟨rfl, rfl, rfl⟩
      have B8 := (MU.out.row Ms.zeroM).far (p := ⟨w.heap.size + 1 + 1, 0, none⟩) (show w.heap.size + 1 ≠ w.heap.size + 1 + 1 by omega) (.int .i64 2)
      have C8 := (CU.out.row_far (show w.heap.size + 1 + 1 ≠ w.heap.size + 1 by omega) Ms.zeroM).put 0 (.int .i64 2)
      have K8 := (Below.setRow' (g := w.heap.size + 1) KU.out (Nat.le_succ _) Ms.zeroM).setCell (p := ⟨w.heap.size + 1 + 1, 0, none⟩) (by show w.heap.size ≤ w.heap.size + 1 + 1; omega) (.int .i64 2)
      have hr := fun (tmps : Array Value) h1 h2 => results_cells2 (fn := Try.f19) (p := 2) (q := 3) rfl tmps _ (w.heap.size + 1) (w.heap.size + 1 + 1) 29 Ms.zeroM _ 2 h1 h2 B8 (by simpa using C8) Try.underlying29 rfl (by rw [Ms.zeroM_size]; exact msg_info16)
      show Leaves Try.prog _ _ _ [] .returning _
      exact ⟨_, hr _ rfl rfl, .inr (.inl ⟨hs.out, HG.out, rfl, K8⟩)⟩
  · have hs := Lib.hid (show Ms.sumB bs = false by unfold Ms.sumB; rw [R4.out]; simpa using hsum)
    have hyb : (y == ((Crc.sum rest : Nat) : Int)) = false := by simpa using hsum
    clear hsum
    refine Rx.wp_region_lex (X := fun ch Z => Z = w4.drew ∧ ∃ s : ByteArray, ch = [{ v := .iface 9 (.string s), recovered := false }]) (by kernel_rfl) [] (by kernel_rfl) (· = w4.drew) (fun W => Box W (w.heap.size + 1 + 1 + 1 + 1) 23 #[.int .u32 y] ∧ Box W w.heap.size 27 #[.slice A4 rest.length c4]) (fun _ => True) rfl (fun W hW => ⟨hW ▸ ⟨XB4.out.drew, VB4.out.drew⟩, trivial⟩) ?_ ?_
    · rintro a' ha' ht ch Z ⟨rfl, ss, rfl⟩
      have t2 := ht 2 (by simp)
      have t3 := ht 3 (by simp)
      simp only [Exit.then, bodyPostD]
      rw [ha']
      have M5 := Lib.hid M4.out.drew
      have C5 := Lib.hid C4.out.drew
      have D5 := Lib.hid D4.out.drew
      have K5 := Lib.hid (K4.out.trans ((one_below' w4).mono s4))
      refine leaves_cons (f := 40) (args := #[.pointer (some ⟨w.heap.size + 1 + 1 + 1, 0, none⟩), .pointer (some ⟨w.heap.size + 1, 0, none⟩), .pointer (some ⟨w.heap.size + 1 + 1, 0, none⟩)]) (by simp) (by simp [go_sem]) ?_
      refine (wcatch_get (w.heap.size + 1 + 1 + 1) (w.heap.size + 1) (w.heap.size + 1 + 1) _ _ [] _ _ D5.out _ Ms.zeroM_size M5.out _ C5.out).mono ?_
      rintro r u' w'' ⟨rfl, rfl, rfl⟩
      have B8 := (M5.out.row Ms.zeroM).far (p := ⟨w.heap.size + 1 + 1, 0, none⟩) (show w.heap.size + 1 ≠ w.heap.size + 1 + 1 by omega) (.int .i64 9)
      have C8 := (C5.out.row_far (show w.heap.size + 1 + 1 ≠ w.heap.size + 1 by omega) Ms.zeroM).put 0 (.int .i64 9)
      have K8 := (Below.setRow' (g := w.heap.size + 1) K5.out (Nat.le_succ _) Ms.zeroM).setCell (p := ⟨w.heap.size + 1 + 1, 0, none⟩) (by show w.heap.size ≤ w.heap.size + 1 + 1; omega) (.int .i64 9)
      have hr := fun (tmps : Array Value) h1 h2 => results_cells2 (fn := Try.f19) (p := 2) (q := 3) rfl tmps _ (w.heap.size + 1) (w.heap.size + 1 + 1) 29 Ms.zeroM _ 9 h1 h2 B8 (by simpa using C8) Try.underlying29 rfl (by rw [Ms.zeroM_size]; exact msg_info16)
      show Leaves Try.prog _ _ _ [] .returning _
      exact ⟨_, hr _ (by rw [Array.getD_eq_getD_getElem?, t2]; rfl) (by rw [Array.getD_eq_getD_getElem?, t3]; rfl), .inl ⟨hs.out, rfl, K8⟩⟩
    repeat (first
      | (apply Rx.lex_free rfl rfl; focus (intro _; go_simp; first | done | rfl))
      | (apply Rx.lex_look rfl rfl rfl rfl; focus (intro W hW; obtain ⟨hW1, hW2⟩ := hW; have q0 := Box.cell hW1; have q1 := Box.cell hW2; clear hW1 hW2; go_simp; first | done | rfl)))
    refine Rx.lex_call (C' := (· = w4.drew)) (v := .int .u32 ((Crc.sum rest : Nat) : Int)) (f := 23) (args := #[.slice A4 rest.length c4]) rfl ?_ ?_ ?_ ?_
    · intro Z hZ; clear hZ; go_simp; first | done | rfl | exact ⟨rfl, rfl⟩
    · intro Z hZ
      subst hZ
      refine ((cc _ ((one_below' w4).mono s4)).out).mono ?_
      rintro e Z2 ⟨rfl, rfl⟩
      exact .inl ⟨rfl, rfl⟩
    · exact fun Z hZ => ⟨hZ ▸ ⟨XB4.out.drew, VB4.out.drew⟩, trivial⟩
    repeat (first
      | (apply Rx.lex_free rfl rfl; focus (intro _; go_simp; first | done | rfl))
      | (apply Rx.lex_look rfl rfl rfl rfl; focus (intro W hW; obtain ⟨hW1, hW2⟩ := hW; have q0 := Box.cell hW1; have q1 := Box.cell hW2; clear hW1 hW2; go_simp; first | done | rfl)))
    refine Rx.lex_call (C' := fun _ => False) (v := .tuple #[]) (f := 30) (args := #[.bool false, .string ⟨#[115, 112, 111, 105, 108, 116]⟩]) rfl ?_ ?_ ?_ ?_
    · intro Z hZ; clear hZ; go_simp; first | done | rfl | exact ⟨rfl, rfl⟩
    · intro Z hZ
      subst hZ
      refine (need_no _ _).mono ?_
      rintro e Z2 ⟨rfl, rfl⟩
      exact .inr ⟨_, rfl, rfl, _, rfl⟩
    · exact fun Z hZ => hZ.elim
    exact Rx.lex_end fun W3 hW3 => hW3.elim
end Go.Proofs.Ytgmlbimgcifenaa
namespace Ms
open Im Go.Proofs.Ytgmlbimgcifenaa
theorem Sim.nums {m n : M} (h : Sim m n) : n.kind = m.kind ∧ n.frm = m.frm ∧ n.serial = m.serial ∧ n.ack = m.ack ∧ n.seen = m.seen ∧ n.slot = m.slot ∧ n.gen = m.gen ∧ n.frame = m.frame ∧ n.code = m.code ∧ n.n = m.n ∧ n.of = m.of ∧ n.bits = m.bits ∧ n.sum = m.sum ∧ n.ins = m.ins ∧ n.data = m.data := by
  have e := h.eq
  rw [e]
  exact ⟨rfl, rfl, rfl, rfl, rfl, rfl, rfl, rfl, rfl, rfl, rfl, rfl, rfl, rfl, rfl⟩
/-- What is alike but for places is the same. -/
theorem Sim.same {m x : M} (h : Sim m (plain x)) : sameB x m = true := by
  obtain ⟨e1, e2, e3, e4, e5, e6, e7, e8, e9, e10, e11, e12, e13, e14, e15⟩ := h.nums
  have hl := h.len
  have hg := h.log
  simp only [plain] at e1 e2 e3 e4 e5 e6 e7 e8 e9 e10 e11 e12 e13 e14 e15 hl
  rw [List.length_map] at hl
  refine sameB_iff.2 ⟨?_, fun k h1 h2 => ?_, En.frontB_yes ⟨Nat.le_of_eq hl, fun j h1 h2 => ?_⟩⟩
  · unfold differ
    rw [e1, e2, e3, e4, e5, e6, e7, e8, e9, e10, e11, e12, e13, e14, e15, hl]
    simp
  · exact List.getElem_of_eq e14 h1
  · have := hg j h2 (by simpa [plain] using h1)
    simp only [plain, List.getElem_map] at this
    obtain ⟨a, b, c⟩ := this
    exact ⟨a.symm, b.symm, fun i hi => (c i hi).symm⟩
/-- It may be, too. -/
theorem Sim.ok {m n : M} (h : Sim m n) (hok : Ok m) (hn : ∀ s ∈ n.log, En.Ok s.e) : Ok n := by
  obtain ⟨e1, e2, e3, e4, e5, e6, e7, e8, e9, e10, e11, e12, e13, e14, e15⟩ := h.nums
  have hl := h.len
  have hg := h.log
  refine ⟨?_, ?_, ?_, ?_, fun k hk => ⟨hn _ (List.getElem_mem hk), ?_⟩⟩
  · rw [← hok.n1]; unfold no1 bare bareOf; rw [e1, e2, e6, e7, e8, e9, e10, e11, e12, e13, e14, e15, hl]
  · rw [← hok.n2]; unfold no2; rw [e1, e7, e10, e11, e15]
  · rw [← hok.n3]; unfold no3; rw [e1, e14, hl]
  · rw [e14]; exact hok.ins
  · have h1 := (hok.log k (by omega)).2
    have h2 := (hg k (by omega) hk).1
    rw [← h2, h1, e8]
theorem body_plain (m : M) : body (plain m) = body m := by
  unfold body head part
  simp only [plain, List.length_map, List.flatMap_map]
  rfl
theorem put_len (m : M) : (put m).length = 4 + (body m).length := by unfold put; rw [List.length_append, bytesOf_len]
theorem put_drop (m : M) : (put m).drop 4 = body m := by
  unfold put
  rw [List.drop_append_of_le_length (by rw [bytesOf_len]; omega), List.drop_eq_nil_of_le (by rw [bytesOf_len]; omega), List.nil_append]
theorem sum_put {m : M} (hT : Ty m) : sumB (put m) = true := by
  have h := Crc.sum_lt (body_bytes hT)
  unfold sumB put
  rw [rdn_bytes]
  have e : ((Crc.sum (body m) : Nat) : Int) % 2 ^ (8 * 4) = ((Crc.sum (body m) : Nat) : Int) := Int.emod_eq_of_lt (by omega) (by rw [show (2 : Int) ^ (8 * 4) = 4294967296 from by decide]; omega)
  rw [e]
  simp
/-- The way there and back. -/
theorem get_put {m : M} (hT : Ty m) (hok : Ok m) (hl : (put m).length ≤ 1200) : sumB (put m) = true ∧ ∃ n, getW (put m) = some n ∧ Sim m n := by
  refine ⟨sum_put hT, ?_⟩
  obtain ⟨n, h1, h2⟩ := decMsg_put hT hok []
  rw [List.append_nil] at h1
  have hok2 := h2.ok hok (decMsg_log (body_bytes hT) h1)
  refine ⟨n, ?_, h2⟩
  unfold getW getM
  rw [if_pos hl, put_drop, h1]
  show (if ([] : List Int) = [] then (if okB n then some n else none) else none) = some n
  rw [if_pos rfl, if_pos (okB_iff.2 hok2)]
/-- What bytes are is a message that may be; and these are its bytes. -/
theorem got_put {bs : List Int} {x : M} (hB : IsBytes bs) (hs : sumB bs = true) (h : getW bs = some (plain x)) : put x = bs ∧ Ty x ∧ Ok x ∧ bs.length ≤ 1200 := by
  unfold getW getM at h
  by_cases hl : bs.length ≤ 1200
  · rw [if_pos hl] at h
    obtain ⟨⟨m, rest⟩, h1, h2⟩ := Option.bind_eq_some_iff.1 h
    dsimp only at h2
    by_cases hr : rest = []
    · rw [if_pos hr] at h2
      by_cases ho : okB m = true
      · rw [if_pos ho] at h2
        obtain rfl : m = plain x := Option.some.inj h2
        subst hr
        obtain ⟨b1, b2, _⟩ := decMsg_inv (fun y hy => hB y (List.mem_of_mem_drop hy)) h1
        rw [List.append_nil, body_plain] at b1
        refine ⟨?_, plain_ty b2, okB_iff.1 (by rw [← plain_ok]; exact ho), hl⟩
        unfold sumB at hs
        cases hr : rdn 4 bs with
        | none => rw [hr] at hs; cases hs
        | some p =>
          obtain ⟨y, r⟩ := p
          rw [hr] at hs
          have hy : y = ((Crc.sum r : Nat) : Int) := by simpa using hs
          obtain ⟨c1, _, _, _⟩ := rdn_inv hB hr
          have c2 : bs.drop 4 = r := by
            rw [c1, List.drop_append_of_le_length (by rw [bytesOf_len]; omega), List.drop_eq_nil_of_le (by rw [bytesOf_len]; omega), List.nil_append]
          unfold put
          rw [← b1, c2, ← hy]
          exact c1.symm
      · rw [if_neg ho] at h2; cases h2
    · rw [if_neg hr] at h2; cases h2
  · rw [if_neg hl] at h; cases h
/-- How a datagram that was made is read. -/
theorem got_back {m x : M} (hT : Ty m) (hok : Ok m) (hl : (put m).length ≤ 1200) (h : getW (put m) = some (plain x)) : sameB x m = true := by
  obtain ⟨_, n, h1, h2⟩ := get_put hT hok hl
  rw [h1] at h
  obtain rfl : n = plain x := Option.some.inj h
  exact h2.same
theorem get_not_none {m : M} (hT : Ty m) (hok : Ok m) (hl : (put m).length ≤ 1200) : getW (put m) ≠ none := by
  obtain ⟨_, n, h1, _⟩ := get_put hT hok hl
  rw [h1]
  exact fun h => by cases h
theorem body_pos (m : M) : 10 ≤ (body m).length := by
  unfold body head
  simp only [List.length_append, bytesOf_len]
  omega
end Ms
