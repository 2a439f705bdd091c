/-
The program's entry: a whole entry is read; Get of whatever bytes.
-/
import Derived.Test.YtbihnmingedgfaaEu
import Derived.Test.YtbihnmingedgfaaEy
namespace En
open Go
def zeroC : Array Value := cells ⟨0, [], in0⟩ (.slice none 0 0)
theorem zeroC_size : zeroC.size = 26 := rfl
end En
namespace Go.Proofs.Ytbihnmingedgfaa
open Go.RowKit Go.Shelf
set_option linter.unusedVariables false
set_option linter.unusedSimpArgs false

theorem en_zero : (Try.prog.info? 72).map (·.zero) = some (some (.agg En.zeroC)) := by kernel_rfl
theorem alloc_en {ops : Array Oper} {Q : Exit → Act → World → Prop} {o : Oper} {rest : List Oper} {a : Act} {w : World} (hgd : o.guard = none) (ho : o.op = .alloc 72)
    (h : wpList Try.prog ops Q rest (a.put o.dst (.pointer (some ⟨w.heap.size, 0, none⟩))) (w.alloc (.cells En.zeroC 72))) : wpList Try.prog ops Q (o :: rest) a w :=
  wpList_alloc_z hgd ho en_zero rfl h
theorem en_built : Try.prog.built 72 [] = some En.zeroC := by kernel_rfl
theorem en_zero_one : En.zeroC.all (·.oneCell') = true := En.cells_one _ _ rfl

theorem Lies.boxed {W : World} {S n size : Nat} {t : TypeId} {xs : List Value} (h : Box W S t xs.toArray) (hl : xs.length = n * size) : Lies W W.heap.size size (some ⟨S, 0, none⟩) n xs :=
  ⟨hl, fun _ => ⟨_, rfl, h.lt⟩, fun ad e _ j u hj => by
    injection e with e
    subst e
    have hadd : (⟨S, 0, none⟩ : Addr).add j = ⟨S, j, none⟩ := by unfold Addr.add; split <;> simp_all
    rw [hadd, h.cell j, ← hj]
    simp⟩
/-- What is left behind an entry. -/
def GotEn (b Bb Bp B : Nat) (bs : List Int) (w : World) (r : Ending) (w' : World) : Prop :=
  (∃ e rest S, En.dec bs = some (e, rest) ∧ r = .returned (.tuple #[]) ∧ Rd b Bb Bp rest w' ∧ Rk b Bb B w w' ∧ Box w' B 72 (En.cells e (.slice (some ⟨S, 0, none⟩) e.evs.length e.evs.length)) ∧ Box w' S 83 (En.evCells e.evs).toArray) ∨
  (En.dec bs = none ∧ Pan r ∧ Rk b Bb B w w' ∧ ∃ cs', Box w' B 72 cs' ∧ cs'.size = 26)

set_option maxRecDepth 100000 in
set_option maxHeartbeats 4000000 in
theorem layentry_r (B : Nat) (bs : List Int) (b Bb Bp : Nat) (w : World) (hBy : Im.IsBytes bs) (hbB : b ≤ Bb) (hbP : b ≤ B) (hbw : b ≤ w.heap.size) (h : Rd b Bb Bp bs w) (hP : Box w B 72 En.zeroC) :
    Calls Try.prog 91 #[.func (.func 130) #[] #[.pointer (some ⟨Bp, 0, none⟩)], .pointer (some ⟨B, 0, none⟩)] w (GotEn b Bb Bp B bs w) := by
  have c1 := Lib.hid (part_int 4 4 rfl 0 B 0 72 En.zeroC bs b Bb Bp w (by decide) hBy hbB hbP hbw h hP rfl (by decide) (by decide) (by decide))
  have c2 := fun f bs' X hy h1 h2 h3 => Lib.hid (layevents_r B 72 (En.cells ⟨f, [], En.in0⟩ (.slice none 0 0)) bs' b Bb Bp X hy hbB hbP h1 h2 h3 rfl (by decide) (by decide) (by decide) (by decide))
  have c3 := fun f l S bs' X hy h1 h2 h3 => Lib.hid (layinputs_r f l (.slice (some ⟨S, 0, none⟩) l.length l.length) B bs' b Bb Bp X hy hbB hbP h1 h2 h3)
  have ltP := hP.lt
  have HW := Lib.hid hbw
  have HY := Lib.hid hBy
  have HD := Lib.hid (show En.dec bs = (Im.rdn 4 bs).bind fun a => (En.decEvents a.2).bind fun l => (En.decInputs En.in0 l.2).bind fun f => some (⟨a.1, l.1, f.1⟩, f.2) from rfl)
  clear h hP hbw hBy
  go_enter Try.func91, Try.ntmps91
  go_wp2_with (first | (go_at_call 124; ((with_reducible refine (c1.out).mono ?_); rintro r w1 (⟨f, r1, hr, rfl, hI, hK, hB⟩ | ⟨hn, ⟨ss, rfl⟩, hK, cs', hB, hs⟩); (all_goals first | (have R1 := Lib.hid hr; have Y1 := Lib.hid (Im.rdn_inv HY.out hr).2.2.2; have P1 := Lib.hid (show Box w1 B 72 (En.cells ⟨f, [], En.in0⟩ (.slice none 0 0)) from hB); have I1 := Lib.hid hI; have K1 := Lib.hid hK; clear hr hI hK hB c1) | (have N1 := Lib.hid hn; have F1 := Lib.hid hK; have G1 := Lib.hid hB; have S1 := Lib.hid hs; clear hn hK hB hs c1)))) | (go_at_call 131; ((with_reducible refine ((c2 _ _ _ Y1.out (Nat.le_trans HW.out K1.out.below.size) I1.out P1.out).out).mono ?_); rintro r w2 (⟨l, r2, S, hr, rfl, hI, hK, hB, hE⟩ | ⟨hn, ⟨ss, rfl⟩, hK, cs', hB, hs⟩); (all_goals first | (have R2 := Lib.hid hr; rw [En.cells_evs] at hB; have P2 := Lib.hid (show Box w2 B 72 (En.cells ⟨f, l, En.in0⟩ (.slice (some ⟨S, 0, none⟩) l.length l.length)) from hB); have I2 := Lib.hid hI; have E2 := Lib.hid hE; have K2 := Lib.hid (K1.out.trans hK); clear hr hI hK hB hE c2) | (have N2 := Lib.hid hn; have F2 := Lib.hid (K1.out.trans hK); have G2 := Lib.hid hB; have S2 := Lib.hid hs; clear hn hK hB hs c2)))) | (go_at_call 132; ((with_reducible refine ((c3 _ _ _ _ _ (En.events_left Y1.out R2.out) (Nat.le_trans HW.out K2.out.below.size) I2.out P2.out).out).mono ?_); rintro r w3 (⟨g, r3, hr, rfl, hI, hK, hB⟩ | ⟨hn, ⟨ss, rfl⟩, hK, cs', hB, hs⟩); (all_goals first | (have R3 := Lib.hid hr; have P3 := Lib.hid hB; have I3 := Lib.hid hI; have E3 := Lib.hid (hK.kb _ _ _ E2.out (Box.apart P2.out E2.out (by decide)).symm (by decide) (by decide)); have K3 := Lib.hid (K2.out.trans hK); clear hr hI hK hB c3) | (have N3 := Lib.hid hn; have F3 := Lib.hid (K2.out.trans hK); have G3 := Lib.hid hB; have S3 := Lib.hid hs; clear hn hK hB hs c3)))))
  · go_end0
    refine .inl ⟨⟨f, l, g⟩, r3, S, ?_, rfl, I3.out, K3.out, P3.out, E3.out⟩
    rw [HD.out, R1.out, Option.bind_some, R2.out, Option.bind_some, R3.out, Option.bind_some]
  · refine ⟨rfl, .inr ⟨?_, ⟨_, rfl⟩, F3.out, _, G3.out, S3.out⟩⟩
    rw [HD.out, R1.out, Option.bind_some, R2.out, Option.bind_some, N3.out, Option.bind_none]
  · refine ⟨rfl, .inr ⟨?_, ⟨_, rfl⟩, F2.out, _, G2.out, S2.out⟩⟩
    rw [HD.out, R1.out, Option.bind_some, N2.out, Option.bind_none]
  · refine ⟨rfl, .inr ⟨?_, ⟨_, rfl⟩, F1.out, _, G1.out, S1.out⟩⟩
    rw [HD.out, N1.out, Option.bind_none]

set_option maxHeartbeats 1000000 in
theorem encatch_get (B Bc : Nat) (u : TypeId) (pv : Value) (older : List PanicEntry) (w : World) (Z : Array Value) (hZ : Z.size = 26) (hb : Box w B 72 Z) (y : Int) (hc : Box w Bc 3 #[.int .i64 y]) :
    CallsD Try.prog 95 #[.pointer (some ⟨B, 0, none⟩), .pointer (some ⟨Bc, 0, none⟩)] (.panicking ({ v := .iface u pv, recovered := false } :: older)) w fun e u' w' =>
      e = .returned (.tuple #[]) ∧ u' = .panicking ({ v := .iface u pv, recovered := true } :: older) ∧ w' = (w.setRow B En.zeroC).setCell ⟨Bc, 0, none⟩ (.int .i64 2) := by
  have ne : B ≠ Bc := Box.apart hb hc (by decide)
  have HB := Lib.hid hb
  have HC := Lib.hid (hc.row_far (fun e => ne e.symm) En.zeroC)
  have c2 := HC.out.cell 0
  have f2 := HC.out.free 0
  have HZ := Lib.hid hZ
  clear hb hc hZ
  refine callsD_of_wpS Try.func95 rfl fun c₀ cs hu => ?_
  apply wpS_seq
  apply wpS_region
  simp [wpOpsS, go_sem, recoverD, hu, Try.ntmps95, Exit.thenS]
  refine wpS_cond (t := true) (by simp [Act.eval, Array.replicate]) ?_
  simp only [if_true]
  refine wpS_of_wp ?_
  go_wp2_with (first | (refine wpList_build_is rfl (t := 72) (l := []) (vs := []) rfl rfl en_built ?_) | ((with_reducible refine blk_gate (t := 72) rfl rfl en_info ?_); apply StoreBlk.mk rfl rfl HB.out en_zero_one En.zeroC_size HZ.out))
  simp [bodyPostS, results, Try.results95]

theorem encatch_idle_get (p q : Addr) (w : World) :
    CallsD Try.prog 95 #[.pointer (some p), .pointer (some q)] .returning w fun e u' w' => e = .returned (.tuple #[]) ∧ u' = .returning ∧ w' = w := by
  refine callsD_of_wpS Try.func95 rfl fun c₀ cs hu => ?_
  apply wpS_seq
  apply wpS_region
  simp [wpOpsS, go_sem, recoverD, hu, Try.ntmps95, Exit.thenS]
  refine wpS_cond (t := false) (by simp [Act.eval, Array.replicate]) ?_
  simp only [Bool.false_eq_true, if_false]
  refine wpS_of_wp (wp_skip ?_)
  cases c₀
  simp_all [bodyPostS, results, Try.results95]

/-- What Get says of bytes. -/
def SaysEn (bs : List Int) (w : World) (r : Ending) (w' : World) : Prop :=
  (∃ e S, En.get bs = some e ∧ r = .returned (.tuple #[.agg (En.cells e (.slice (some ⟨S, 0, none⟩) e.evs.length e.evs.length)), .int .i64 0]) ∧ Box w' S 83 (En.evCells e.evs).toArray ∧ Below w.heap.size w w') ∨
  (En.get bs = none ∧ r = .returned (.tuple #[.agg En.zeroC, .int .i64 2]) ∧ Below w.heap.size w w')

set_option maxRecDepth 100000 in
set_option maxHeartbeats 4000000 in
theorem enget_any (bs : List Int) (A : Option Addr) (n c : Nat) (w : World) (hn : n = bs.length) (hc : n ≤ c) (hBy : Im.IsBytes bs) (hL : Lies w w.heap.size 1 A n (Im.u8s bs)) :
    Calls Try.prog 45 #[.slice A n c] w (SaysEn bs w) := by
  have hmf : ∀ (fn : Fn) (first cap : Array Value) (w : World), (Instr.makeFunc fn first cap).run Try.prog w = .ok (.func fn first cap) w := fun _ _ _ _ => rfl
  have V1 := Lib.hid (((Box.made w 54 #[.slice A n c]).alloc (.cells En.zeroC 72)).alloc (.cells #[.int .i64 0] 3))
  have B1 := Lib.hid ((Box.made_at (n := w.heap.size + 1) (w.alloc (.cells #[.slice A n c] 54)) 72 En.zeroC (by simp)).alloc (.cells #[.int .i64 0] 3))
  have C1 := Lib.hid (Box.made_at (n := w.heap.size + 1 + 1) ((w.alloc (.cells #[.slice A n c] 54)).alloc (.cells En.zeroC 72)) 3 #[.int .i64 0] (by simp))
  have K1 := Lib.hid ((((Below.refl w.heap.size w).alloc (Nat.le_refl _) (.cells #[.slice A n c] 54)).alloc (by simp) (.cells En.zeroC 72)).alloc (by simp <;> omega) (.cells #[.int .i64 0] 3))
  have B2 := Lib.hid (B1.out.alloc (.cells #[.pointer (some ⟨w.heap.size, 0, none⟩)] 120))
  have C2 := Lib.hid (C1.out.alloc (.cells #[.pointer (some ⟨w.heap.size, 0, none⟩)] 120))
  have V2 := Lib.hid (V1.out.alloc (.cells #[.pointer (some ⟨w.heap.size, 0, none⟩)] 120))
  have K2 := Lib.hid (K1.out.alloc K1.out.size (.cells #[.pointer (some ⟨w.heap.size, 0, none⟩)] 120))
  have P2 := Box.made_at (n := w.heap.size + 1 + 1 + 1) (((w.alloc (.cells #[.slice A n c] 54)).alloc (.cells En.zeroC 72)).alloc (.cells #[.int .i64 0] 3)) 120 #[.pointer (some ⟨w.heap.size, 0, none⟩)] (by simp)
  have L2 := hL.below K2.out
  have RD : Rd w.heap.size w.heap.size (w.heap.size + 1 + 1 + 1) bs _ := ⟨P2, A, c, by rw [← hn]; exact V2.out, by rw [← hn]; exact hc, by rw [← hn]; exact L2⟩
  have cl := Lib.hid (layentry_r (w.heap.size + 1) bs w.heap.size w.heap.size _ _ hBy (Nat.le_refl _) (Nat.le_succ _) K2.out.size RD B2.out)
  have HG := Lib.hid (show En.get bs = (En.dec bs).bind fun q => if q.2 = [] ∧ En.Ok q.1 then some q.1 else none from rfl)
  have HY := Lib.hid hBy
  clear hn hL L2 RD P2 hBy
  go_enter_defers Try.func45, Try.ntmps45
  go_upto_region 3 with (first | (with_reducible refine alloc_en rfl rfl ?_) | (go_at_call 84; ((with_reducible refine (reader_any _ _).mono ?_); rintro e w3 ⟨rfl, rfl⟩)) | (go_at_call 91; ((with_reducible refine (cl.out).mono ?_); rintro r w4 (⟨e, rest, S, hr, rfl, hI, hK, hB, hE⟩ | ⟨hn, ⟨ss, rfl⟩, hK, cs', hB, hs⟩); (all_goals first | (obtain ⟨_, A4, c4, hV, _, _⟩ := hI; have R4 := Lib.hid hr; have v4 := hV.cell 0; have B4 := Lib.hid hB; have E4 := Lib.hid hE; have C4 := Lib.hid (hK.kb _ _ _ C2.out (by omega) (by decide) (by decide)); have K4 := Lib.hid (K2.out.trans hK.below); clear hr hV hB hK hE cl) | (have N4 := Lib.hid hn; have B4 := Lib.hid hB; have S4 := Lib.hid hs; have C4 := Lib.hid (hK.kb _ _ _ C2.out (by omega) (by decide) (by decide)); have K4 := Lib.hid (K2.out.trans hK.below); clear hn hB hK hs cl)))))
  rotate_left
  · refine leaves_cons (f := 95) (args := #[.pointer (some ⟨w.heap.size + 1, 0, none⟩), .pointer (some ⟨w.heap.size + 1 + 1, 0, none⟩)]) (by simp) (by simp [go_sem]) ?_
    refine (encatch_get (w.heap.size + 1) (w.heap.size + 1 + 1) _ _ [] _ _ S4.out B4.out _ C4.out).mono ?_
    rintro r u' w'' ⟨rfl, rfl, rfl⟩
    have B8 := (B4.out.row En.zeroC).far (p := ⟨w.heap.size + 1 + 1, 0, none⟩) (show w.heap.size + 1 ≠ w.heap.size + 1 + 1 by omega) (.int .i64 2)
    have C8 := (C4.out.row_far (show w.heap.size + 1 + 1 ≠ w.heap.size + 1 by omega) En.zeroC).put 0 (.int .i64 2)
    have K8 := (Below.setRow' (g := w.heap.size + 1) K4.out (Nat.le_succ _) En.zeroC).setCell (p := ⟨w.heap.size + 1 + 1, 0, none⟩) (by show w.heap.size ≤ w.heap.size + 1 + 1; omega) (.int .i64 2)
    have hr := fun (tmps : Array Value) h1 h2 => results_cells2 (fn := Try.f45) (p := 2) (q := 3) rfl tmps _ (w.heap.size + 1) (w.heap.size + 1 + 1) 72 En.zeroC _ 2 h1 h2 B8 (by simpa using C8) Try.underlying72 rfl (by rw [En.zeroC_size]; exact en_info)
    show Leaves Try.prog _ _ _ [] .returning _
    exact ⟨_, hr _ rfl rfl, .inr ⟨by rw [HG.out, N4.out]; rfl, rfl, K8⟩⟩
  have HDI := Lib.hid (En.dec_inv HY.out R4.out)
  have ltS := E4.out.lt
  clear V1 B1 C1 K1 B2 C2 V2 K2
  cases hrest : rest with
  | cons x xs =>
    have HNE := Lib.hid (show ¬ (rest = [] ∧ En.Ok e) from fun h => by rw [hrest] at h; cases h.1)
    have hl0 : ((rest.length : Int) == 0) = false := by rw [hrest]; simp; omega
    generalize rest.length = m at *
    clear hrest
    go_wp2_with (go_at_call 76; ((with_reducible refine (need_no _ _).mono ?_); rintro r wn ⟨rfl, rfl⟩))
    refine leaves_cons (f := 95) (args := #[.pointer (some ⟨w.heap.size + 1, 0, none⟩), .pointer (some ⟨w.heap.size + 1 + 1, 0, none⟩)]) (by simp) (by simp [go_sem]) ?_
    refine (encatch_get (w.heap.size + 1) (w.heap.size + 1 + 1) _ _ [] _ _ (En.cells_size _ _) B4.out _ C4.out).mono ?_
    rintro r u' w'' ⟨rfl, rfl, rfl⟩
    have B8 := (B4.out.row En.zeroC).far (p := ⟨w.heap.size + 1 + 1, 0, none⟩) (show w.heap.size + 1 ≠ w.heap.size + 1 + 1 by omega) (.int .i64 2)
    have C8 := (C4.out.row_far (show w.heap.size + 1 + 1 ≠ w.heap.size + 1 by omega) En.zeroC).put 0 (.int .i64 2)
    have K8 := (Below.setRow' (g := w.heap.size + 1) K4.out (Nat.le_succ _) En.zeroC).setCell (p := ⟨w.heap.size + 1 + 1, 0, none⟩) (by show w.heap.size ≤ w.heap.size + 1 + 1; omega) (.int .i64 2)
    have hr := fun (tmps : Array Value) h1 h2 => results_cells2 (fn := Try.f45) (p := 2) (q := 3) rfl tmps _ (w.heap.size + 1) (w.heap.size + 1 + 1) 72 En.zeroC _ 2 h1 h2 B8 (by simpa using C8) Try.underlying72 rfl (by rw [En.zeroC_size]; exact en_info)
    show Leaves Try.prog _ _ _ [] .returning _
    exact ⟨_, hr _ rfl rfl, .inr ⟨by rw [HG.out, R4.out, Option.bind_some, if_neg HNE.out], rfl, K8⟩⟩
  | nil =>
    rw [hrest] at v4
    have HNE := Lib.hid hrest
    clear hrest
    have cm := fun X hX => Lib.hid (enmay_any e (some ⟨S, 0, none⟩) e.evs.length e.evs.length X rfl (by have := En.dec_few HY.out R4.out; unfold maxLen; omega) hX)
    have L4 := fun X (hX : Below w4.heap.size w4 X) => (Lies.boxed (E4.out.below hX E4.out.lt) (En.evCells_len _) : Lies X X.heap.size 4 (some ⟨S, 0, none⟩) e.evs.length (En.evCells e.evs))
    obtain ⟨v, hv⟩ : ∃ v, v = decide (En.Ok e) := ⟨_, rfl⟩
    rw [← hv] at cm
    have HV := Lib.hid hv
    clear hv
    have cmw := cm w4 (L4 w4 (Below.refl _ _))
    go_upto_region 5 with (first | (go_at_call 76; first | ((with_reducible refine (need_yes _ _).mono ?_); rintro r wn ⟨rfl, rfl⟩) | ((with_reducible refine (need_any _ _ _).mono ?_); rintro r wn (⟨hz, rfl, rfl⟩ | ⟨hz, ⟨ss, rfl⟩, rfl⟩))) | ((with_reducible refine en_load rfl rfl ?_); apply LoadEn.mk rfl; (focus (with_reducible exact B4.out)); dsimp only) | (go_at_call 43; ((with_reducible refine (cmw.out).mono ?_); rintro r w5 ⟨rfl, hb⟩; have B5 := Lib.hid (B4.out.below hb B4.out.lt); have C5 := Lib.hid (C4.out.below hb C4.out.lt); have E5 := Lib.hid (E4.out.below hb E4.out.lt); have K5 := Lib.hid (K4.out.trans (hb.mono K4.out.size)); clear hb)))
    rotate_left
    · have HNO := Lib.hid (show ¬ (rest = [] ∧ En.Ok e) from fun h => by have := HV.out; rw [hz] at this; exact absurd h.2 (of_decide_eq_false this.symm))
      refine leaves_cons (f := 95) (args := #[.pointer (some ⟨w.heap.size + 1, 0, none⟩), .pointer (some ⟨w.heap.size + 1 + 1, 0, none⟩)]) (by simp) (by simp [go_sem]) ?_
      refine (encatch_get (w.heap.size + 1) (w.heap.size + 1 + 1) _ _ [] _ _ (En.cells_size _ _) B5.out _ C5.out).mono ?_
      rintro r u' w'' ⟨rfl, rfl, rfl⟩
      have B8 := (B5.out.row En.zeroC).far (p := ⟨w.heap.size + 1 + 1, 0, none⟩) (show w.heap.size + 1 ≠ w.heap.size + 1 + 1 by omega) (.int .i64 2)
      have C8 := (C5.out.row_far (show w.heap.size + 1 + 1 ≠ w.heap.size + 1 by omega) En.zeroC).put 0 (.int .i64 2)
      have K8 := (Below.setRow' (g := w.heap.size + 1) K5.out (Nat.le_succ _) En.zeroC).setCell (p := ⟨w.heap.size + 1 + 1, 0, none⟩) (by show w.heap.size ≤ w.heap.size + 1 + 1; omega) (.int .i64 2)
      have hr := fun (tmps : Array Value) h1 h2 => results_cells2 (fn := Try.f45) (p := 2) (q := 3) rfl tmps _ (w.heap.size + 1) (w.heap.size + 1 + 1) 72 En.zeroC _ 2 h1 h2 B8 (by simpa using C8) Try.underlying72 rfl (by rw [En.zeroC_size]; exact en_info)
      show Leaves Try.prog _ _ _ [] .returning _
      exact ⟨_, hr _ rfl rfl, .inr ⟨by rw [HG.out, R4.out, Option.bind_some, if_neg HNO.out], rfl, K8⟩⟩
    have HYES := Lib.hid (show rest = [] ∧ En.Ok e from ⟨HNE.out, of_decide_eq_true (by rw [← HV.out]; exact hz)⟩)
    clear cm cmw
    have C6 := Lib.hid (C5.out.row_far (show w.heap.size + 1 + 1 ≠ w.heap.size + 1 by omega) (En.cells e (.slice (some ⟨S, 0, none⟩) e.evs.length e.evs.length)))
    have c6 := C6.out.cell 0
    have f6 := C6.out.free 0
    go_wp2_with (first | ((with_reducible refine en_load rfl rfl ?_); apply LoadEn.mk rfl; (focus (with_reducible exact B5.out)); dsimp only) | ((with_reducible refine blk_gate (t := 72) rfl rfl en_info ?_); apply StoreBlk.mk rfl rfl B5.out (En.cells_one _ _ rfl) (En.cells_size _ _) (En.cells_size _ _)))
    have ne : w.heap.size + 1 ≠ w.heap.size + 1 + 1 := by omega
    have B7 := (B5.out.row (En.cells e (.slice (some ⟨S, 0, none⟩) e.evs.length e.evs.length))).far (p := ⟨w.heap.size + 1 + 1, 0, none⟩) ne (.int .i64 0)
    have C7 := C6.out.put 0 (.int .i64 0)
    have E7 := (E5.out.row_far (Box.apart E5.out B5.out (by decide)) (En.cells e (.slice (some ⟨S, 0, none⟩) e.evs.length e.evs.length))).far (p := ⟨w.heap.size + 1 + 1, 0, none⟩) (Box.apart E5.out C5.out (by decide)) (.int .i64 0)
    have K7 := (Below.setRow' (g := w.heap.size + 1) K5.out (Nat.le_succ _) (En.cells e (.slice (some ⟨S, 0, none⟩) e.evs.length e.evs.length))).setCell (p := ⟨w.heap.size + 1 + 1, 0, none⟩) (by show w.heap.size ≤ w.heap.size + 1 + 1; omega) (.int .i64 0)
    refine leaves_cons (f := 95) (args := #[.pointer (some ⟨w.heap.size + 1, 0, none⟩), .pointer (some ⟨w.heap.size + 1 + 1, 0, none⟩)]) (by simp) (by simp [go_sem]) ?_
    refine (encatch_idle_get _ _ _).mono ?_
    rintro r u' w'' ⟨rfl, rfl, rfl⟩
    have hr := fun (tmps : Array Value) h1 h2 => results_cells2 (fn := Try.f45) (p := 2) (q := 3) rfl tmps _ (w.heap.size + 1) (w.heap.size + 1 + 1) 72 (En.cells e (.slice (some ⟨S, 0, none⟩) e.evs.length e.evs.length)) _ 0 h1 h2 B7 (by simpa using C7) Try.underlying72 rfl (by rw [En.cells_size]; exact en_info)
    show Leaves Try.prog _ _ _ [] .returning _
    exact ⟨_, hr _ rfl rfl, .inl ⟨e, S, by rw [HG.out, R4.out, Option.bind_some, if_pos HYES.out], rfl, E7, K7⟩⟩
end Go.Proofs.Ytbihnmingedgfaa
