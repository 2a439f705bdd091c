/-
The program's Step.
-/
import Derived.Test.YtbihnmingedgfaaHo
import Derived.Test.YtbihnmingedgfaaHu
import Derived.Deep.CutRange
import Derived.Deep.CutBlock
import Derived.Deep.DeepCutAuto
namespace Go.Proofs.Ytbihnmingedgfaa
open Go.RowKit Go.Shelf
set_option linter.unusedVariables false
attribute [local go_sem] Oper.semAt_some

set_option maxRecDepth 100000 in
set_option maxHeartbeats 8000000 in
theorem step_yes (ps : Nat → Gm.In) (g : Gm.G) (A : Option Addr) (n c : Nat) (w : World) (hg : Gm.ok g) (hf : g.frame < 1048576) (hd : 0 ≤ g.dice ∧ g.dice ≤ 18446744073709551615) (hp : ∀ i, i < 8 → Gm.tyIn (ps i)) (hn : n = g.shots.length) (hr : Lies w w.heap.size 6 A n (Gm.shotCells g.shots)) :
    Calls Try.prog 19 #[.agg (Gm.cells g (.slice A n c)), .agg (Gm.insCells ps).toArray] w (Out (Gm.step ps g) 0 w) := by
  have b1 : Box (((w.alloc (.cells (Gm.cells g (.slice A n c)) 30)).alloc (.cells (Gm.insCells ps).toArray 38)).alloc (.cells (Gm.cells zeroG (.slice none 0 0)) 30)) w.heap.size 30 (Gm.cells g (.slice A n c)) := ((Box.made _ _ _).alloc _).alloc _
  have b2 : Box (((w.alloc (.cells (Gm.cells g (.slice A n c)) 30)).alloc (.cells (Gm.insCells ps).toArray 38)).alloc (.cells (Gm.cells zeroG (.slice none 0 0)) 30)) (w.heap.size + 1) 38 (Gm.insCells ps).toArray := (Box.made_at _ _ _ (by simp)).alloc _
  have b3 : Box (((w.alloc (.cells (Gm.cells g (.slice A n c)) 30)).alloc (.cells (Gm.insCells ps).toArray 38)).alloc (.cells (Gm.cells zeroG (.slice none 0 0)) 30)) (w.heap.size + 1 + 1) 30 (Gm.cells zeroG (.slice none 0 0)) := Box.made_at _ _ _ (by simp)
  have hb0 : Below w.heap.size w (((w.alloc (.cells (Gm.cells g (.slice A n c)) 30)).alloc (.cells (Gm.insCells ps).toArray 38)).alloc (.cells (Gm.cells zeroG (.slice none 0 0)) 30)) := (two_below' w _ _).alloc (by simp <;> omega) _
  have co := Lib.hid (own_any g A n c _ hn (by have := hg.2.2.1; omega) ((hr.below hb0).wider hb0.size))
  have cm := fun X (hX : Below w.heap.size w X) => Lib.hid (may_yes g A n c X hg hn ((hr.below hX).wider hX.size))
  have fr : (g.frame == 1048576) = false := by simpa using Int.ne_of_lt hf
  have e0 := Gm.cells_0 g (.slice A n c)
  have hN := Lib.hid hn
  have B1 := Lib.hid b1
  have B2 := Lib.hid b2
  have B3 := Lib.hid b3
  have HB := Lib.hid hb0
  clear hn b1 b2 b3 hb0 hr
  refine (callsIn_wide (n := 10)).1 (callsIn_of_wp_marks Try.func19 rfl trivial (wpIn_wide.2 ?_) rfl)
  simp only [Try.ntmps19, List.size_toArray, List.length_cons, List.length_nil, Nat.reduceAdd, Nat.reduceSub, Array.replicate_succ, Array.replicate_zero, List.push_toArray, List.append_toArray, List.nil_append, List.cons_append]
  go_upto_block 0 with (first | (refine wpList_alloc_game rfl rfl ?_) | ((with_reducible refine load_gate rfl rfl ?_); apply LoadGame.mk rfl; (with_reducible exact B1.out)) | ((with_reducible refine load_gate rfl rfl ?_); apply LoadGame.mk rfl; (with_reducible exact D1.out)) | (go_at_call 53; ((with_reducible refine (co.out).mono ?_); rintro e w1 ⟨A1, c1, rfl, ho1, hb1⟩; have HB1 := Lib.hid ((HB.out.trans (hb1.mono HB.out.size)).alloc (by have := hb1.size; simp at this; omega) (.cells (Gm.cells g (.slice A1 n c1)) 30)); have H1 := Lib.hid (has_made (w := w) hN.out (own_rebase ho1 (by simp; omega))); have D1 := Lib.hid ((B1.out.below hb1 (by simp <;> omega)).alloc (.cells (Gm.cells g (.slice A1 n c1)) 30)); have D2 := Lib.hid ((B2.out.below hb1 (by simp <;> omega)).alloc (.cells (Gm.cells g (.slice A1 n c1)) 30)); have D3 := Lib.hid ((B3.out.below hb1 (by simp <;> omega)).alloc (.cells (Gm.cells g (.slice A1 n c1)) 30)); have s1 : w.heap.size + 1 + 1 < w1.heap.size := (by have := hb1.size; simp at this; omega); clear ho1 hb1)) | (refine wpList_store_game_new rfl rfl rfl rfl rfl rfl ?_) | (go_at_call 51; ((with_reducible refine ((cm _ HB1.out).out).mono ?_); rintro e w2 ⟨rfl, hb2⟩; have HB2 := Lib.hid (HB1.out.trans (hb2.mono HB1.out.size)); have H2 := Lib.hid (H1.out.call hb2); have E1 := (D1.out.below hb2 D1.out.lt).cell; have E2 := Lib.hid (D2.out.below hb2 D2.out.lt); have E3 := Lib.hid (D3.out.below hb2 D3.out.lt); clear hb2)) | (go_at_call 58; ((with_reducible refine (flying_any _ _).mono ?_); rintro e w3 ⟨rfl, rfl⟩)))
  have M0 : Mid w.heap.size w1.heap.size (w.heap.size + 1) (w.heap.size + 1 + 1) w2.heap.size ps w g (w2.alloc (.cells #[.pointer (some ⟨w1.heap.size, 0, none⟩)] 91)) :=
    ⟨H2.out.alloc _, E2.out.alloc _, E3.out.alloc _, Box.made _ _ _, HB2.out.alloc HB2.out.size _⟩
  generalize hW0 : w2.alloc (.cells #[.pointer (some ⟨w1.heap.size, 0, none⟩)] 91) = W0 at M0 ⊢
  generalize w2.heap.size = Bg at M0 ⊢
  generalize w1.heap.size = Bn at M0 s1 ⊢
  have MM0 := Lib.hid M0
  have fit0 : Fit (fun i => (g.ship i).on) g := ⟨hg.2.2.2.1, hg.way.shots, hg.2.2.1, fun _ _ => rfl⟩
  have FIT := Lib.hid fit0
  have hfl0 : Flying Bn Bg (fun i => (g.ship i).on) W0 := ⟨M0.fly.cell 0, fun k hk => M0.has.flags k hk⟩
  have HOK := Lib.hid hg
  clear hW0 M0 fit0 H1 D1 D2 D3 H2 E2 E3 HB2 HB1 E1 e0 fr co cm B1 B2 B3 HB hN hg
  refine (wpIn_wide (n := 10)).1 ?_
  refine wpIn_block ?_
  refine wpIn_rangeFunc_ownF (n := 10) (w := W0) rfl (by omega) (gf := 110) (lb := #[.pointer (some ⟨Bg, 0, none⟩)]) rfl trivial (enters_of Try.func110 (by kernel_rfl) rfl)
    (flying1_stops (fun i => (g.ship i).on) Bn Bg _ W0 hfl0) flykp_t (flykp_b (n := W0.heap.size)) (Below.refl _ _) (fun _ => rfl)
    (fun pre W => Mid w.heap.size Bn (w.heap.size + 1) (w.heap.size + 1 + 1) Bg ps w (over ps g pre) W)
    (fun _ _ _ => False)
    (fun pre W W' row h hgr hr => h.turned (Nat.le_refl _) hgr (fun r e => ⟨Nat.le_trans MM0.out.below.size (hr r e).1, (hr r e).2⟩))
    (fun _ _ _ _ _ hs _ _ => hs)
    MM0.out
    (fun x => { tmps := #[.agg (Gm.cells g (.slice A n c)), .agg (Gm.insCells ps).toArray, .pointer (some ⟨w.heap.size, 0, none⟩), .pointer (some ⟨w.heap.size + 1, 0, none⟩), .pointer (some ⟨w.heap.size + 1 + 1, 0, none⟩), .int .i64 0,
          .pointer (some ⟨Bn, 0, none⟩), .int .i64 x.1, .pointer (some ⟨Bn, 2 + x.1 * 7, none⟩), undef,
          .agg (Gm.cells g (.slice A n c)), .agg (Gm.cells g (.slice A1 n c1)), .agg (Gm.cells g (.slice A n c)), .bool true, .bool false, undef,
          .pointer (some ⟨w.heap.size, 0, none⟩), .int .i64 g.frame, .bool false, undef, .func (.func 110) #[] #[.pointer (some ⟨Bg, 0, none⟩)], .int .i64 x.1, .pointer (some ⟨Bn, 2 + x.1 * 7, none⟩),
          undef, undef, undef, undef, undef, undef, undef, undef, undef, undef, undef, undef, undef, undef, undef, undef, undef], defers := [] }) ?assign ?body ?done ?stop
  case assign =>
    intro l x W K hK
    gi_wp2
    exact hK
  case body =>
    rintro l pre x W hM hlen
    have hfit := over_fit (ps := ps) FIT.out pre
    generalize hX : over ps g pre = X at hM hfit
    have hsn : over ps g (pre ++ [x]) = stepOne ps X x.1 := by rw [over_snoc, hX]
    obtain ⟨k, hk, hon⟩ := x
    have hk8 : (k : Int) < 8 := by omega
    obtain ⟨pk, hpk⟩ : ∃ p, ps k = p := ⟨_, rfl⟩
    obtain ⟨px, py, pb⟩ := pk
    have hty := hp k hk
    rw [hpk] at hty
    obtain ⟨wx, wy, wp⟩ := hty
    dsimp only at wx wy wp
    have ch := fun Y => Lib.hid (held_any ⟨px, py, pb⟩ ⟨wx, wy, wp⟩ Y)
    have tx := Gf.tame_bd wx
    have ty := Gf.tame_bd wy
    have hstep := shot_step ps X k (by rw [hfit.flags k hk]; exact hon) (hfit.ships k hk).2.2.2.2.2.1
    rw [hpk] at hstep
    simp only [Gm.In.cells, Gm.tameIn] at ch
    dsimp only at hstep
    generalize Gf.tame px = TX at ch tx hstep
    generalize Gf.tame py = TY at ch ty hstep
    have hin := hM.ins.cell
    have hil := hM.ins.lt
    have q0 : (Gm.insCells ps).toArray[k * 3]? = some (.int .i8 px) := (Gm.insCells_at ps k 0 hk (by omega)).trans (by rw [hpk]; rfl)
    have q1 : (Gm.insCells ps).toArray[k * 3 + 1]? = some (.int .i8 py) := (Gm.insCells_at ps k 1 hk (by omega)).trans (by rw [hpk]; rfl)
    have q2 : (Gm.insCells ps).toArray[k * 3 + 2]? = some (.int .u8 pb) := (Gm.insCells_at ps k 2 hk (by omega)).trans (by rw [hpk]; rfl)
    have HM := Lib.hid hM
    have HX := Lib.hid hsn
    have HFIT := Lib.hid hfit
    have HST := Lib.hid hstep
    clear hM hsn hfit hstep hX hlen
    have hbB : w.heap.size ≤ Bn := by omega
    have hWn : Bn < W.heap.size := HM.out.has.lt
    have hty2 := (HFIT.out.ships k hk).ty
    have hcool : 0 ≤ ((shipG X k (steered (X.ship k) TX TY)).ship k).cool ∧ ((shipG X k (steered (X.ship k) TX TY)).ship k).cool ≤ 10 := by
      rw [show (shipG X k (steered (X.ship k) TX TY)).ship k = steered (X.ship k) TX TY from Gm.upd_same _ _ _]
      have := HFIT.out.ships k hk
      exact ⟨this.2.2.2.2.2.1, this.2.2.2.2.2.2.1⟩
    have HC := Lib.hid hcool
    have HTY := Lib.hid hty2
    clear hcool hty2
    gi_wp2_with (first | (gi_at_call 59; ((with_reducible refine (CallsIn.inRound l (callsIn_wide.2 (ch _).out)).mono ?_); rintro e v1 ⟨rfl, hb1⟩; have H1 := Lib.hid ((HM.out.has.call hb1).alloc (.cells #[.int .i8 TX, .int .i8 TY, .int .u8 pb] 37)); have K1 := Lib.hid (((Keep.refl hbB W).call hb1).alloc (.cells #[.int .i8 TX, .int .i8 TY, .int .u8 pb] 37)); have v1n : v1.heap.size ≠ Bn := (by have := hb1.size; omega); clear hb1)) | (refine ⟨trivial, ?_⟩; gi_at_call 59; ((with_reducible refine (CallsIn.inRound l (callsIn_wide.2 (ch _).out)).mono ?_); rintro e v1 ⟨rfl, hb1⟩; have H1 := Lib.hid ((HM.out.has.call hb1).alloc (.cells #[.int .i8 TX, .int .i8 TY, .int .u8 pb] 37)); have K1 := Lib.hid (((Keep.refl hbB W).call hb1).alloc (.cells #[.int .i8 TX, .int .i8 TY, .int .u8 pb] 37)); have v1n : v1.heap.size ≠ Bn := (by have := hb1.size; omega); clear hb1)) | (gi_at_call 60; ((with_reducible refine (CallsIn.inRound l (callsIn_wide.2 (steer_any X w.heap.size Bn k TX TY pb _ hbB hk H1.out HTY.out (by omega) (by omega)))).mono ?_); rintro e v2 ⟨⟨r2, rfl⟩, hH2, hK2⟩; have H2 := Lib.hid hH2; have K2 := Lib.hid (K1.out.trans hK2); have D9 := (Box.made v1 37 #[.int .i8 TX, .int .i8 TY, .int .u8 pb]).keep hK2 v1n (by decide); have d9 := D9.cell; have l9 := D9.lt; clear hH2 hK2 D9)) | (refine ⟨trivial, ?_⟩; gi_at_call 60; ((with_reducible refine (CallsIn.inRound l (callsIn_wide.2 (steer_any X w.heap.size Bn k TX TY pb _ hbB hk H1.out HTY.out (by omega) (by omega)))).mono ?_); rintro e v2 ⟨⟨r2, rfl⟩, hH2, hK2⟩; have H2 := Lib.hid hH2; have K2 := Lib.hid (K1.out.trans hK2); have D9 := (Box.made v1 37 #[.int .i8 TX, .int .i8 TY, .int .u8 pb]).keep hK2 v1n (by decide); have d9 := D9.cell; have l9 := D9.lt; clear hH2 hK2 D9)) | (gi_at_call 61; ((with_reducible refine (CallsIn.inRound l (callsIn_wide.2 (shoot_any (shipG X k (steered (X.ship k) TX TY)) w.heap.size Bn k TX TY pb _ hbB hk H2.out HC.out (by omega) (by omega) wp))).mono ?_); rintro e v3 ⟨⟨r3, rfl⟩, hH3, hK3⟩; rw [HST.out] at hH3; have H3 := Lib.hid hH3; have K3 := Lib.hid (K2.out.trans hK3); clear hH3 hK3)) | (refine ⟨trivial, ?_⟩; gi_at_call 61; ((with_reducible refine (CallsIn.inRound l (callsIn_wide.2 (shoot_any (shipG X k (steered (X.ship k) TX TY)) w.heap.size Bn k TX TY pb _ hbB hk H2.out HC.out (by omega) (by omega) wp))).mono ?_); rintro e v3 ⟨⟨r3, rfl⟩, hH3, hK3⟩; rw [HST.out] at hH3; have H3 := Lib.hid hH3; have K3 := Lib.hid (K2.out.trans hK3); clear hH3 hK3)))
    have M3 : Mid w.heap.size Bn (w.heap.size + 1) (w.heap.size + 1 + 1) Bg ps w (stepOne ps X k) v3 := HM.out.kept (Nat.le_refl _) (by omega) H3.out K3.out
    have fit3 := stepOne_fit (ps := ps) HFIT.out hk
    obtain ⟨A9, c9, hB9, _⟩ := HM.out.has
    refine ⟨K3.out.others hB9, fun _ => ⟨M3.fly.cell 0, fun i hi => (M3.has.flags i hi).trans (by rw [fit3.flags i hi])⟩, ?_⟩
    show Mid _ _ _ _ _ _ _ (over ps g (pre ++ [⟨k, hk, hon⟩])) v3
    rw [HX.out]
    exact M3
  case done =>
    rintro D xs W hD rfl hM hK
    have e1 := over_all (on := fun i => (g.ship i).on) ps g (fun _ _ => rfl)
    have hM : Mid w.heap.size Bn (w.heap.size + 1) (w.heap.size + 1 + 1) Bg ps w (over ps g (flies (fun i => (g.ship i).on) 8 0)) W := hM
    have hfit := over_fit (ps := ps) FIT.out (flies (fun i => (g.ship i).on) 8 0)
    rw [e1] at hM hfit
    obtain ⟨F, hF⟩ : ∃ F, F = (Gm.ph1 ps g 8).1 := ⟨_, rfl⟩
    obtain ⟨l, hl⟩ : ∃ l, l = (Gm.ph1 ps g 8).2 := ⟨_, rfl⟩
    rw [← hF, ← hl] at hM hfit
    obtain ⟨fin, hfin⟩ : ∃ fin, fin = Gm.ph2 ⟨g.dice, F, []⟩ l := ⟨_, rfl⟩
    have hstep : Gm.step ps g = ⟨g.frame + 1, fin.dice, fin.ship, fin.left⟩ := by rw [hfin, hF, hl]; rfl
    have ck := Lib.hid (keep_any { g with ship := F, shots := l } w.heap.size Bn W (by omega) hM.has hfit.shots hfit.ships hd hfit.len fin hfin)
    have hmf : ∀ (fn : Fn) (first cap : Array Value) (w : World), (Instr.makeFunc fn first cap).run Try.prog w = .ok (.func fn first cap) w := fun _ _ _ _ => rfl
    have hwrap : IntKind.i64.wrap (g.frame + 1) = g.frame + 1 := by rw [IntKind.wrap_i64]; have := HOK.out.1; omega
    have hDw : w.heap.size ≤ D := Nat.le_trans MM0.out.below.size hD
    have HMM := Lib.hid hM
    obtain ⟨A9, c9, hB9, _⟩ := hM.has
    have HB9 := Lib.hid hB9
    clear hB9
    have HK := Lib.hid hK
    have HST := Lib.hid hstep
    clear hM hfit hF hl hfin hstep e1 hK
    go_wp2_with (first | (go_at_call 62; ((with_reducible refine (ck.out).mono ?_); rintro e w4 ⟨rfl, h4, k4⟩; obtain ⟨A4, c4, B4, O4⟩ := h4; have ne4 : w.heap.size + 1 + 1 ≠ Bn := (by omega); have R4 := HMM.out.res.keep k4 ne4 (by decide); have b4 := B4.cell; have f4 := B4.free; have e4 := Gm.cells_0 { g with dice := fin.dice, ship := fin.ship, shots := fin.left } (.slice A4 fin.left.length c4); have G5 := Lib.hid (blk_frame B4 (g.frame + 1)); have R5 := Lib.hid (R4.far (p := ⟨Bn, 0, none⟩) ne4 (.int .i64 (g.frame + 1))); have nO := B4.unowned O4 (by decide); have O5 := Lib.hid (ownsRow_setCell_other (a := ⟨Bn, 0, none⟩) O4 nO (.int .i64 (g.frame + 1))); have K5 := Lib.hid ((HMM.out.below.trans (k4.to HMM.out.below.size)).setCell (p := ⟨Bn, 0, none⟩) (by show w.heap.size ≤ Bn; omega) (.int .i64 (g.frame + 1))); have T5 := Lib.hid (((k4.others HB9.out).trans (KeepsOthers.setCell w4 ⟨Bn, 0, none⟩ (.int .i64 (g.frame + 1)))).same D _ HK.out rfl); clear B4 O4 R4 k4 nO)) | ((with_reducible refine load_gate rfl rfl ?_); apply LoadGame.mk rfl; exact G5.out) | ((with_reducible refine store_gate rfl rfl ?_); apply StoreGame.mk rfl rfl rfl; exact R5.out))
    have hDr : D ≠ w.heap.size + 1 + 1 := fun e => by
      have h1 := T5.out
      rw [e, R5.out.is] at h1
      injection h1 with h1
      cases h1
    have T6 : ((w4.setCell ⟨Bn, 0, none⟩ (.int .i64 (g.frame + 1))).setRow (w.heap.size + 1 + 1) (Gm.cells { g with frame := g.frame + 1, dice := fin.dice, ship := fin.ship, shots := fin.left } (.slice A4 fin.left.length c4))).heap[D]? = some (.deferred (some [])) :=
      (setRow_other _ _ D _ hDr).trans T5.out
    refine ⟨by simp, .inl ⟨_, _, rfl, run_takeDeferred T6, ?_⟩⟩
    refine ⟨.tuple #[.agg (Gm.cells { g with frame := g.frame + 1, dice := fin.dice, ship := fin.ship, shots := fin.left } (.slice A4 fin.left.length c4)), .int .i64 0], ?_, ?_⟩
    · exact results_cell_tmp (p := 4) (q := 5) rfl _ _ _ _ (Gm.cells { g with frame := g.frame + 1, dice := fin.dice, ship := fin.ship, shots := fin.left } (.slice A4 fin.left.length c4)) _ rfl ((Box.row R5.out _).turned (grownBy_putObj' _ D (.deferred none)) (fun r e => by cases e; exact ⟨_, T6, rfl⟩)) Try.underlying30 rfl game_info
    · rw [HST.out]
      refine ⟨A4, c4, rfl, ?_, ?_⟩
      · exact Lies.owned (ownsRow_putObj (own_setRow O5.out (R5.out.unowned O5.out (by decide)) _) _ T6 rfl)
      · exact (Below.setRow' K5.out (by omega) _).grown (grownBy_putObj' _ D (.deferred none)) (by have := (Array.getElem?_eq_some_iff.1 T6).1; omega) (fun k e => by cases e; exact hDw)
  case stop =>
    rintro D c' pre W _ _ h _
    exact h.elim
end Go.Proofs.Ytbihnmingedgfaa
