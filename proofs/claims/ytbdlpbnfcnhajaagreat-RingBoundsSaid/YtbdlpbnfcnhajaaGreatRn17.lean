/-
Several texts in one: Rpg Lrc.
-/
import Derived.Test.YtbdlpbnfcnhajaaGreatRn16
set_option maxRecDepth 100000
set_option maxHeartbeats 8000000
set_option linter.unusedVariables false
set_option linter.unusedSimpArgs false
namespace Go.Proofs.YtbdlpbnfcnhajaaGreat
open Go.RowKit
theorem mk_nine (W : World) : (Instr.makeSlice 42 (.int .i64 0) (.int .i64 9)).run Tryz.prog W = .ok (.slice (some ⟨W.heap.size, 0, none⟩) 0 9) (W.alloc (.cells (madeCells (Value.agg Im.zero).cells (9 * 76)) 40)) := by
 obtain ⟨i0, hi0, hz0, hz1, hz2⟩ := st_bytes
 have := run_make (P := Tryz.prog) W 42 40 i0 _ Tryz.underlying42 hi0 hz0 .i64 .i64 0 9 (by omega) (by omega) (by omega) (by omega)
 rw [this, hz1]
 rfl
theorem ringp_built (a : Option Addr) (m c : Nat) : Tryz.prog.built 89 [(0, .slice a m c)] = some #[.slice a m c] := by kernel_rfl
theorem rgnew_yes (q : Rg.St) (hty : Gm.ty q.g) (hok : Im.Ok q.g q.r) (hn : q.g.shots.length ≤ 60) (X : World) (hL : Lies X X.heap.size 6 q.A q.g.shots.length (Gm.shotCells q.g.shots)) :
 Calls Tryz.prog 10 #[.agg q.arr] X fun e X' => ∃ g B A' c', e = .returned (.pointer (some ⟨B, 0, none⟩)) ∧ Box X' B 89 #[.slice (some ⟨g, 0, none⟩) 1 9] ∧ PRow g [⟨q.g, q.r, A', c'⟩] X' ∧ Lies X' X'.heap.size 6 A' q.g.shots.length (Gm.shotCells q.g.shots) ∧ (q.g.shots.length ≠ 0 → ∀ ad, A' = some ad → X.heap.size ≤ ad.block ∧ ad.block ≠ g ∧ ad.block ≠ B) ∧ Below X.heap.size X X' ∧ X.heap.size ≤ g ∧ X.heap.size ≤ B := by
 have cput := fun B g w h1 h2 h3 => rgput_any B g [] q (by decide) hn w h1 h2 h3
 obtain ⟨G, r, A, c⟩ := q
 dsimp only at hty hok hn hL cput ⊢
 have hnm : G.shots.length ≤ maxLen := by unfold maxLen; omega
 obtain ⟨X1, hX1⟩ : ∃ X1, X1 = X.alloc (.cells (Im.cells G (.slice A G.shots.length c) r) 40) := ⟨_, rfl⟩
 have B0 := qh (show Box X1 X.heap.size 40 (Im.cells G (.slice A G.shots.length c) r) by rw [hX1]; exact Box.made _ _ _)
 have K0 := qh (show Below X.heap.size X X1 by rw [hX1]; exact one_below _ _)
 have L0 := qh ((hL.below K0.out).wider K0.out.size)
 have cm := qh (foldmay_any G r A G.shots.length c X1 hty hnm rfl L0.out)
 have HOK := qh hok
 obtain ⟨Z, hZ⟩ : ∃ Z, Z = madeCells (Value.agg Im.zero).cells (9 * 76) := ⟨_, rfl⟩
 have HZ := qh (show Z.size = 684 by rw [hZ, size_madeCells])
 have hmk := mk_nine
 rw [← hZ] at hmk
 have rb := fun m => ringp_built (some ⟨m, 0, none⟩) 0 9
 unfold Rg.St.arr
 dsimp only
 unfold Rg.St.arr at cput
 have CP := qh cput
 clear hok hL hZ cput
 go_enter Tryz.func10, Tryz.ntmps10
 go_upto_region 1 with fail
 rw [← hX1]
 clear hX1
 go_upto_region 4 with (first
  | ((with_reducible refine im_load_state rfl rfl ?_); apply LoadIm.mk rfl; (focus (with_reducible exact B0.out)); dsimp only)
  | (go_at_call 39; ((with_reducible refine ((cm).out).mono ?_); rintro x w1 ⟨⟨v, rfl, hv⟩, hb⟩; obtain rfl : v = true := hv.2 HOK.out; have B2 := qh (B0.out.below hb B0.out.lt); have L2 := qh ((L0.out.below hb).wider hb.size); have K2 := qh (K0.out.trans (hb.mono K0.out.size)); have S2 := qh hb.size; clear hb hv))
  | (refine wpList_build_is rfl (t := 89) (vs := [(0, .slice (some ⟨_, 0, none⟩) 0 9)]) rfl rfl (rb _) ?_))
 obtain ⟨X3, hX3⟩ : ∃ X3, X3 = (w1.alloc (.cells Z 40)).alloc (.cells #[.slice (some ⟨w1.heap.size, 0, none⟩) 0 9] 89) := ⟨_, rfl⟩
 have D1 : Box X3 w1.heap.size 40 Z := by rw [hX3]; exact (Box.made _ _ _).alloc _
 have D2 : Box X3 (w1.heap.size + 1) 89 #[.slice (some ⟨w1.heap.size, 0, none⟩) 0 9] := by rw [hX3]; exact Box.made_at _ _ _ (by simp)
 have hb3 : Below w1.heap.size w1 X3 := by rw [hX3]; exact two_below' w1 _ _
 have B3 := qh (B2.out.below hb3 B2.out.lt)
 have c3 := qh (CP.out (w1.heap.size + 1) w1.heap.size X3 D2 ⟨Nat.zero_le _, Z, D1, HZ.out, by simp⟩ ((L2.out.below hb3).wider hb3.size))
 have K3 := qh (K2.out.trans (hb3.mono K2.out.size))
 have hsz := qh (show X.heap.size ≤ w1.heap.size from K2.out.size)
 have d1 := qh D1.lt
 have d2 := qh D2.lt
 have S3 := qh hb3.size
 rw [← hX3]
 clear D1 D2 hb3 hX3 hmk
 generalize w1.heap.size = g at *
 go_wp2_with (first
  | ((with_reducible refine im_load_state rfl rfl ?_); apply LoadIm.mk rfl; (focus (with_reducible exact B3.out)); dsimp only)
  | (go_at_call 40; ((with_reducible refine ((c3).out).mono ?_); rintro e w5 ⟨rfl, A', c', p1, p2, p3, p4, p5⟩; have P1 := qh p1; have P2 := qh p2; have P3 := qh p3; have P4 := qh p4; have P5 := qh p5; clear p1 p2 p3 p4 p5)))
 go_ret
 have h1 := hsz.out
 have h2 := d1.out
 have h3 := d2.out
 have h4 := S3.out
 refine ⟨g, g + 1, A', c', rfl, P1.out, P2.out, P3.out, fun h0 ad ea => ?_, ?_, h1, by omega⟩
 · have := P4.out h0 ad ea
   omega
 · exact K3.out.trans (P5.out.below (fun k hk => by rcases hk with hk | hk <;> omega) K3.out.size)
theorem rgnew_no (q : Rg.St) (hty : Gm.ty q.g) (hok : ¬ Im.Ok q.g q.r) (hnm : q.g.shots.length ≤ maxLen) (X : World) (hL : Lies X X.heap.size 6 q.A q.g.shots.length (Gm.shotCells q.g.shots)) :
 Calls Tryz.prog 10 #[.agg q.arr] X fun e X' => e = .returned (.pointer none) ∧ Below X.heap.size X X' := by
 obtain ⟨G, r, A, c⟩ := q
 dsimp only at hty hok hnm hL ⊢
 obtain ⟨X1, hX1⟩ : ∃ X1, X1 = X.alloc (.cells (Im.cells G (.slice A G.shots.length c) r) 40) := ⟨_, rfl⟩
 have B0 := qh (show Box X1 X.heap.size 40 (Im.cells G (.slice A G.shots.length c) r) by rw [hX1]; exact Box.made _ _ _)
 have K0 := qh (show Below X.heap.size X X1 by rw [hX1]; exact one_below _ _)
 have L0 := qh ((hL.below K0.out).wider K0.out.size)
 have cm := qh (foldmay_any G r A G.shots.length c X1 hty hnm rfl L0.out)
 have HOK := qh hok
 unfold Rg.St.arr
 dsimp only
 clear hok hL
 go_enter Tryz.func10, Tryz.ntmps10
 go_upto_region 1 with fail
 rw [← hX1]
 clear hX1
 go_wp2_with (first
  | ((with_reducible refine im_load_state rfl rfl ?_); apply LoadIm.mk rfl; (focus (with_reducible exact B0.out)); dsimp only)
  | (go_at_call 39; ((with_reducible refine ((cm).out).mono ?_); rintro x w1 ⟨⟨v, rfl, hv⟩, hb⟩; obtain rfl : v = false := (by cases v with | false => rfl | true => exact absurd (hv.1 rfl) HOK.out); have K2 := qh (K0.out.trans (hb.mono K0.out.size)); clear hb hv)))
 go_ret
 exact ⟨rfl, K2.out⟩
theorem rgpush_nil (q : Rg.St) (X : World) :
 Calls Tryz.prog 12 #[.pointer none, .agg q.arr] X fun e X' => e = .returned (.bool false) ∧ Below X.heap.size X X' := by
 obtain ⟨X1, hX1⟩ : ∃ X1, X1 = X.alloc (.cells q.arr 40) := ⟨_, rfl⟩
 have K0 := qh (show Below X.heap.size X X1 by rw [hX1]; exact one_below _ _)
 have cl := qh (fun (w : Ext X1.heap.size X1) => (rglen_nil w.w).mono fun e w' hh => show e = .returned (.int .i64 0) ∧ Below w.w.heap.size w.w w' from ⟨hh.1, by rw [← hh.2]; exact Below.refl _ _⟩)
 generalize q.arr = arr at *
 go_enter Tryz.func12, Tryz.ntmps12
 go_upto_region 1 with fail
 rw [← hX1]
 clear hX1
 refine wp_region_ext X1.heap.size X1 (by kernel_rfl) (by kernel_rfl) (Below.refl _ _) ?_
 repeat (go_big_quiet_step (first | (go_at_call 22; with_reducible exact Calls.ext_of (Nat.le_refl _) (cl.out _)) | fail))
 refine wpQuiet_nil ?_
 intro _ hw'
 obtain ⟨q5, hw''⟩ := hw'
 subst hw''
 have R5 := qh (K0.out.trans (q5.h.mono K0.out.size))
 go_wp2_with fail
 go_ret
 exact ⟨rfl, R5.out⟩
theorem rgpush_full (B g k : Nat) (L : List Rg.St) (q l : Rg.St) (hk : L.length = k + 1) (hl : L[k]? = some l) (hlo : 0 ≤ l.g.frame ∧ l.g.frame ≤ 1048576) (hty : Gm.ty q.g) (hnm : q.g.shots.length ≤ maxLen) (hk8 : k = 8) (X : World) (hB : Box X B 89 #[.slice (some ⟨g, 0, none⟩) L.length 9]) (hR : PRow g L X) (hq : Lies X X.heap.size 6 q.A q.g.shots.length (Gm.shotCells q.g.shots)) :
 Calls Tryz.prog 12 #[.pointer (some ⟨B, 0, none⟩), .agg q.arr] X fun e X' => e = .returned (.bool false) ∧ Below X.heap.size X X' := by
 obtain ⟨G, r, Aq, cq⟩ := q
 dsimp only at *
 obtain ⟨X1, hX1⟩ : ∃ X1, X1 = X.alloc (.cells (Im.cells G (.slice Aq G.shots.length cq) r) 40) := ⟨_, rfl⟩
 have hb1 : Below X.heap.size X X1 := by rw [hX1]; exact one_below X _
 have P1 := qh (show Box X1 X.heap.size 40 (Im.cells G (.slice Aq G.shots.length cq) r) by rw [hX1]; exact Box.made _ _ _)
 have K1 := qh hb1
 have L1 := qh ((hq.below hb1).wider hb1.size)
 have HX := qh hX1
 have BB := qh (hB.below hb1 hB.lt)
 have RR := qh (hR.kept (hb1.block _ hR.lt))
 have h9 := hR.few
 have ek : ((L.length : Nat) : Int) = (k : Int) + 1 := by omega
 have cl := qh (fun (w : Ext X1.heap.size X1) => show Calls Tryz.prog 22 #[.pointer (some ⟨B, 0, none⟩)] w.w fun e w' => e = .returned (.int .i64 ((k : Int) + 1)) ∧ Below w.w.heap.size w.w w' from by
  refine (rglen_any B L.length 9 _ w.w ((BB.out.below w.h BB.out.lt).cell 0)).mono fun e w' hh => ?_
  rw [← ek]
  exact ⟨hh.1, by rw [← hh.2]; exact Below.refl _ _⟩)
 have z0 : ∀ w : Ext X1.heap.size X1, w.w.cell? ⟨X.heap.size, 0, none⟩ = some (.int .i64 G.frame) := fun w => w.cell P1.out.lt ((P1.out.cell 0).trans (Rg.St.first ⟨G, r, Aq, cq⟩))
 have PX := qh (fun (w : Ext X1.heap.size X1) => P1.out.below w.h P1.out.lt)
 have hwf : IntKind.i64.wrap (l.g.frame + 1) = l.g.frame + 1 := by rw [IntKind.wrap_i64]; omega
 have hwf2 : wrap64 (l.g.frame + 1) = l.g.frame + 1 := IntWalk.wrap64_in _ (by omega)
 have hne : ((k : Int) + 1 == 0) = false := by simp; omega
 have h8i : (9 : Int) ≤ (k : Int) + 1 := by omega
 have h8j : (8 : Int) ≤ (k : Int) := by omega
 have HK := qh hk
 unfold Rg.St.arr
 dsimp only
 clear hX1 hb1 hq hB hR hl hlo hty ek h9 hk
 generalize hfl : l.g.frame = fl at *
 generalize hfq : G.frame = fq at *
 clear hfl hfq
 go_enter Tryz.func12, Tryz.ntmps12
 go_upto_region 1 with fail
 rw [← HX.out]
 refine wp_region_ext X1.heap.size X1 (by kernel_rfl) (by kernel_rfl) (Below.refl _ _) ?_
 repeat (first | (go_big_quiet_want; (refine fq_state rfl rfl PX.out ?_); simp only [Act.put, List.setIfInBounds_toArray, List.set_cons_succ, List.set_cons_zero]; go_big_quiet_on) | go_big_quiet_step (first | (go_at_call 22; with_reducible exact Calls.ext_of (Nat.le_refl _) (cl.out _)) | fail))
 refine wpQuiet_nil ?_
 intro _ hw'
 obtain ⟨q5, hw''⟩ := hw'
 subst hw''
 have R5 := qh (K1.out.trans (q5.h.mono K1.out.size))
 clear z0 cl PX
 go_wp2_with fail
 go_ret
 exact ⟨rfl, R5.out⟩
theorem rgpush_far (B g k : Nat) (L : List Rg.St) (q l : Rg.St) (hk : L.length = k + 1) (hl : L[k]? = some l) (hlo : 0 ≤ l.g.frame ∧ l.g.frame ≤ 1048576) (hty : Gm.ty q.g) (hnm : q.g.shots.length ≤ maxLen) (h8 : L.length ≤ 8) (hfr : q.g.frame ≠ l.g.frame + 1) (X : World) (hB : Box X B 89 #[.slice (some ⟨g, 0, none⟩) L.length 9]) (hR : PRow g L X) (hq : Lies X X.heap.size 6 q.A q.g.shots.length (Gm.shotCells q.g.shots)) :
 Calls Tryz.prog 12 #[.pointer (some ⟨B, 0, none⟩), .agg q.arr] X fun e X' => e = .returned (.bool false) ∧ Below X.heap.size X X' := by
 obtain ⟨G, r, Aq, cq⟩ := q
 dsimp only at *
 obtain ⟨X1, hX1⟩ : ∃ X1, X1 = X.alloc (.cells (Im.cells G (.slice Aq G.shots.length cq) r) 40) := ⟨_, rfl⟩
 have hb1 : Below X.heap.size X X1 := by rw [hX1]; exact one_below X _
 have P1 := qh (show Box X1 X.heap.size 40 (Im.cells G (.slice Aq G.shots.length cq) r) by rw [hX1]; exact Box.made _ _ _)
 have K1 := qh hb1
 have L1 := qh ((hq.below hb1).wider hb1.size)
 have HX := qh hX1
 have BB := qh (hB.below hb1 hB.lt)
 have RR := qh (hR.kept (hb1.block _ hR.lt))
 have h9 := hR.few
 have ek : ((L.length : Nat) : Int) = (k : Int) + 1 := by omega
 have cl := qh (fun (w : Ext X1.heap.size X1) => show Calls Tryz.prog 22 #[.pointer (some ⟨B, 0, none⟩)] w.w fun e w' => e = .returned (.int .i64 ((k : Int) + 1)) ∧ Below w.w.heap.size w.w w' from by
  refine (rglen_any B L.length 9 _ w.w ((BB.out.below w.h BB.out.lt).cell 0)).mono fun e w' hh => ?_
  rw [← ek]
  exact ⟨hh.1, by rw [← hh.2]; exact Below.refl _ _⟩)
 have ca := qh (fun (w : Ext X1.heap.size X1) => rglast_any B g k L l hk hl w.w (BB.out.below w.h BB.out.lt) (RR.out.kept (w.h.block _ RR.out.lt)))
 have z0 : ∀ w : Ext X1.heap.size X1, w.w.cell? ⟨X.heap.size, 0, none⟩ = some (.int .i64 G.frame) := fun w => w.cell P1.out.lt ((P1.out.cell 0).trans (Rg.St.first ⟨G, r, Aq, cq⟩))
 have PX := qh (fun (w : Ext X1.heap.size X1) => P1.out.below w.h P1.out.lt)
 have hwf : IntKind.i64.wrap (l.g.frame + 1) = l.g.frame + 1 := by rw [IntKind.wrap_i64]; omega
 have hwf2 : wrap64 (l.g.frame + 1) = l.g.frame + 1 := IntWalk.wrap64_in _ (by omega)
 have hne : ((k : Int) + 1 == 0) = false := by simp; omega
 have h8i : ¬ (9 : Int) ≤ (k : Int) + 1 := by omega
 have h8j : (k : Int) + 1 < 9 := by omega
 have h8k : (k : Int) < 8 := by omega
 have hfn : (G.frame != l.g.frame + 1) = true := by simpa using hfr
 clear hfr
 have HK := qh hk
 unfold Rg.St.arr
 dsimp only
 clear hX1 hb1 hq hB hR hl hlo hty ek h9 hk
 generalize hfl : l.g.frame = fl at *
 generalize hfq : G.frame = fq at *
 clear hfl hfq
 go_enter Tryz.func12, Tryz.ntmps12
 go_upto_region 1 with fail
 rw [← HX.out]
 refine wp_region_ext X1.heap.size X1 (by kernel_rfl) (by kernel_rfl) (Below.refl _ _) ?_
 repeat (first | (go_big_quiet_want; (refine fq_state rfl rfl PX.out ?_); simp only [Act.put, List.setIfInBounds_toArray, List.set_cons_succ, List.set_cons_zero]; go_big_quiet_on) | go_big_quiet_step (first | (go_at_call 22; with_reducible exact Calls.ext_of (Nat.le_refl _) (cl.out _)) | (go_at_call 24; with_reducible exact Calls.ext_of (Nat.le_refl _) (ca.out _)) | fail))
 refine wpQuiet_nil ?_
 intro _ hw'
 obtain ⟨q5, hw''⟩ := hw'
 subst hw''
 have R5 := qh (K1.out.trans (q5.h.mono K1.out.size))
 clear z0 cl ca PX
 go_wp2_with fail
 go_ret
 exact ⟨rfl, R5.out⟩
theorem rgpush_not (B g k : Nat) (L : List Rg.St) (q l : Rg.St) (hk : L.length = k + 1) (hl : L[k]? = some l) (hlo : 0 ≤ l.g.frame ∧ l.g.frame ≤ 1048576) (hty : Gm.ty q.g) (hnm : q.g.shots.length ≤ maxLen) (h8 : L.length ≤ 8) (hfr : q.g.frame = l.g.frame + 1) (hok : ¬ Im.Ok q.g q.r) (X : World) (hB : Box X B 89 #[.slice (some ⟨g, 0, none⟩) L.length 9]) (hR : PRow g L X) (hq : Lies X X.heap.size 6 q.A q.g.shots.length (Gm.shotCells q.g.shots)) :
 Calls Tryz.prog 12 #[.pointer (some ⟨B, 0, none⟩), .agg q.arr] X fun e X' => e = .returned (.bool false) ∧ Below X.heap.size X X' := by
 obtain ⟨G, r, Aq, cq⟩ := q
 dsimp only at *
 obtain ⟨X1, hX1⟩ : ∃ X1, X1 = X.alloc (.cells (Im.cells G (.slice Aq G.shots.length cq) r) 40) := ⟨_, rfl⟩
 have hb1 : Below X.heap.size X X1 := by rw [hX1]; exact one_below X _
 have P1 := qh (show Box X1 X.heap.size 40 (Im.cells G (.slice Aq G.shots.length cq) r) by rw [hX1]; exact Box.made _ _ _)
 have K1 := qh hb1
 have L1 := qh ((hq.below hb1).wider hb1.size)
 have HX := qh hX1
 have BB := qh (hB.below hb1 hB.lt)
 have RR := qh (hR.kept (hb1.block _ hR.lt))
 have h9 := hR.few
 have ek : ((L.length : Nat) : Int) = (k : Int) + 1 := by omega
 have cl := qh (fun (w : Ext X1.heap.size X1) => show Calls Tryz.prog 22 #[.pointer (some ⟨B, 0, none⟩)] w.w fun e w' => e = .returned (.int .i64 ((k : Int) + 1)) ∧ Below w.w.heap.size w.w w' from by
  refine (rglen_any B L.length 9 _ w.w ((BB.out.below w.h BB.out.lt).cell 0)).mono fun e w' hh => ?_
  rw [← ek]
  exact ⟨hh.1, by rw [← hh.2]; exact Below.refl _ _⟩)
 have ca := qh (fun (w : Ext X1.heap.size X1) => rglast_any B g k L l hk hl w.w (BB.out.below w.h BB.out.lt) (RR.out.kept (w.h.block _ RR.out.lt)))
 have cm := qh (fun (w : Ext X1.heap.size X1) => (foldmay_any G r Aq G.shots.length cq w.w hty hnm rfl ((L1.out.below w.h).wider w.h.size)).mono fun e w' hh => show e = .returned (.bool false) ∧ Below w.w.heap.size w.w w' from ⟨by obtain ⟨⟨v, e1, e2⟩, _⟩ := hh; rw [e1]; obtain rfl : v = false := (by cases v with | false => rfl | true => exact absurd (e2.1 rfl) hok); rfl, hh.2⟩)
 have z0 : ∀ w : Ext X1.heap.size X1, w.w.cell? ⟨X.heap.size, 0, none⟩ = some (.int .i64 G.frame) := fun w => w.cell P1.out.lt ((P1.out.cell 0).trans (Rg.St.first ⟨G, r, Aq, cq⟩))
 have PX := qh (fun (w : Ext X1.heap.size X1) => P1.out.below w.h P1.out.lt)
 have hwf : IntKind.i64.wrap (l.g.frame + 1) = l.g.frame + 1 := by rw [IntKind.wrap_i64]; omega
 have hwf2 : wrap64 (l.g.frame + 1) = l.g.frame + 1 := IntWalk.wrap64_in _ (by omega)
 have hne : ((k : Int) + 1 == 0) = false := by simp; omega
 have h8i : ¬ (9 : Int) ≤ (k : Int) + 1 := by omega
 have h8j : (k : Int) + 1 < 9 := by omega
 have h8k : (k : Int) < 8 := by omega
 have hfn : (G.frame != l.g.frame + 1) = false := by simpa using hfr
 clear hfr
 have HK := qh hk
 unfold Rg.St.arr
 dsimp only
 clear hX1 hb1 hq hB hR hl hlo hty ek h9 hk
 generalize hfl : l.g.frame = fl at *
 generalize hfq : G.frame = fq at *
 clear hfl hfq
 go_enter Tryz.func12, Tryz.ntmps12
 go_upto_region 1 with fail
 rw [← HX.out]
 refine wp_region_ext X1.heap.size X1 (by kernel_rfl) (by kernel_rfl) (Below.refl _ _) ?_
 repeat (first | (go_big_quiet_want; (refine fq_state rfl rfl PX.out ?_); simp only [Act.put, List.setIfInBounds_toArray, List.set_cons_succ, List.set_cons_zero]; go_big_quiet_on) | go_big_quiet_step (first | (go_at_call 22; with_reducible exact Calls.ext_of (Nat.le_refl _) (cl.out _)) | (go_at_call 24; with_reducible exact Calls.ext_of (Nat.le_refl _) (ca.out _)) | (go_at_call 39; with_reducible exact Calls.ext_of (Nat.le_refl _) (cm.out _)) | fail))
 refine wpQuiet_nil ?_
 intro _ hw'
 obtain ⟨q5, hw''⟩ := hw'
 subst hw''
 have R5 := qh (K1.out.trans (q5.h.mono K1.out.size))
 clear z0 cl ca cm PX
 go_wp2_with fail
 go_ret
 exact ⟨rfl, R5.out⟩
theorem rgpush_yes (B g k : Nat) (L : List Rg.St) (q l : Rg.St) (hk : L.length = k + 1) (hl : L[k]? = some l) (hlo : 0 ≤ l.g.frame ∧ l.g.frame ≤ 1048576) (hty : Gm.ty q.g) (hnm : q.g.shots.length ≤ maxLen) (h8 : L.length ≤ 8) (hfr : q.g.frame = l.g.frame + 1) (hok : Im.Ok q.g q.r) (hn60 : q.g.shots.length ≤ 60) (X : World) (hB : Box X B 89 #[.slice (some ⟨g, 0, none⟩) L.length 9]) (hR : PRow g L X) (hq : Lies X X.heap.size 6 q.A q.g.shots.length (Gm.shotCells q.g.shots)) :
 Calls Tryz.prog 12 #[.pointer (some ⟨B, 0, none⟩), .agg q.arr] X fun e X' => e = .returned (.bool true) ∧ ∃ A' c', Box X' B 89 #[.slice (some ⟨g, 0, none⟩) (L.length + 1) 9] ∧ PRow g (L ++ [⟨q.g, q.r, A', c'⟩]) X' ∧ Lies X' X'.heap.size 6 A' q.g.shots.length (Gm.shotCells q.g.shots) ∧ (q.g.shots.length ≠ 0 → ∀ ad, A' = some ad → X.heap.size ≤ ad.block) ∧ KeepL (fun k => k = g ∨ k = B) X X' := by
 have cput := fun w h1 h2 h3 => rgput_any B g L q h8 hn60 w h1 h2 h3
 obtain ⟨G, r, Aq, cq⟩ := q
 dsimp only at *
 obtain ⟨X1, hX1⟩ : ∃ X1, X1 = X.alloc (.cells (Im.cells G (.slice Aq G.shots.length cq) r) 40) := ⟨_, rfl⟩
 have hb1 : Below X.heap.size X X1 := by rw [hX1]; exact one_below X _
 have P1 := qh (show Box X1 X.heap.size 40 (Im.cells G (.slice Aq G.shots.length cq) r) by rw [hX1]; exact Box.made _ _ _)
 have K1 := qh hb1
 have L1 := qh ((hq.below hb1).wider hb1.size)
 have HX := qh hX1
 have BB := qh (hB.below hb1 hB.lt)
 have RR := qh (hR.kept (hb1.block _ hR.lt))
 have h9 := hR.few
 have ek : ((L.length : Nat) : Int) = (k : Int) + 1 := by omega
 have cl := qh (fun (w : Ext X1.heap.size X1) => show Calls Tryz.prog 22 #[.pointer (some ⟨B, 0, none⟩)] w.w fun e w' => e = .returned (.int .i64 ((k : Int) + 1)) ∧ Below w.w.heap.size w.w w' from by
  refine (rglen_any B L.length 9 _ w.w ((BB.out.below w.h BB.out.lt).cell 0)).mono fun e w' hh => ?_
  rw [← ek]
  exact ⟨hh.1, by rw [← hh.2]; exact Below.refl _ _⟩)
 have ca := qh (fun (w : Ext X1.heap.size X1) => rglast_any B g k L l hk hl w.w (BB.out.below w.h BB.out.lt) (RR.out.kept (w.h.block _ RR.out.lt)))
 have cm := qh (fun (w : Ext X1.heap.size X1) => (foldmay_any G r Aq G.shots.length cq w.w hty hnm rfl ((L1.out.below w.h).wider w.h.size)).mono fun e w' hh => show e = .returned (.bool true) ∧ Below w.w.heap.size w.w w' from ⟨by obtain ⟨⟨v, e1, e2⟩, _⟩ := hh; rw [e1]; obtain rfl : v = true := e2.2 hok; rfl, hh.2⟩)
 have z0 : ∀ w : Ext X1.heap.size X1, w.w.cell? ⟨X.heap.size, 0, none⟩ = some (.int .i64 G.frame) := fun w => w.cell P1.out.lt ((P1.out.cell 0).trans (Rg.St.first ⟨G, r, Aq, cq⟩))
 have PX := qh (fun (w : Ext X1.heap.size X1) => P1.out.below w.h P1.out.lt)
 have hwf : IntKind.i64.wrap (l.g.frame + 1) = l.g.frame + 1 := by rw [IntKind.wrap_i64]; omega
 have hwf2 : wrap64 (l.g.frame + 1) = l.g.frame + 1 := IntWalk.wrap64_in _ (by omega)
 have hne : ((k : Int) + 1 == 0) = false := by simp; omega
 have h8i : ¬ (9 : Int) ≤ (k : Int) + 1 := by omega
 have h8j : (k : Int) + 1 < 9 := by omega
 have h8k : (k : Int) < 8 := by omega
 have hfn : (G.frame != l.g.frame + 1) = false := by simpa using hfr
 clear hfr
 have HK := qh hk
 unfold Rg.St.arr at cput
 have CP := qh cput
 clear cput
 unfold Rg.St.arr
 dsimp only
 clear hX1 hb1 hq hB hR hl hlo hty ek h9 hk
 generalize hfl : l.g.frame = fl at *
 generalize hfq : G.frame = fq at *
 clear hfl hfq
 go_enter Tryz.func12, Tryz.ntmps12
 go_upto_region 1 with fail
 rw [← HX.out]
 refine wp_region_ext X1.heap.size X1 (by kernel_rfl) (by kernel_rfl) (Below.refl _ _) ?_
 repeat (first | (go_big_quiet_want; (refine fq_state rfl rfl PX.out ?_); simp only [Act.put, List.setIfInBounds_toArray, List.set_cons_succ, List.set_cons_zero]; go_big_quiet_on) | go_big_quiet_step (first | (go_at_call 22; with_reducible exact Calls.ext_of (Nat.le_refl _) (cl.out _)) | (go_at_call 24; with_reducible exact Calls.ext_of (Nat.le_refl _) (ca.out _)) | (go_at_call 39; with_reducible exact Calls.ext_of (Nat.le_refl _) (cm.out _)) | fail))
 refine wpQuiet_nil ?_
 intro _ hw'
 obtain ⟨q5, hw''⟩ := hw'
 subst hw''
 have R5 := qh (K1.out.trans (q5.h.mono K1.out.size))
 clear z0 cl ca cm PX
 have B5 := BB.out.below q5.h BB.out.lt
 have P5 := qh (P1.out.below q5.h P1.out.lt)
 have c5 := qh (CP.out q5.w B5 (RR.out.kept (q5.h.block _ RR.out.lt)) ((L1.out.below q5.h).wider q5.h.size))
 clear B5
 generalize q5.w = X5 at *
 go_wp2_with (first
  | ((with_reducible refine im_load_state rfl rfl ?_); apply LoadIm.mk rfl; (focus (with_reducible exact P5.out)); dsimp only)
  | (go_at_call 40; ((with_reducible refine ((c5).out).mono ?_); rintro e w5 ⟨rfl, A', c', p1, p2, p3, p4, p5⟩; have P1 := qh p1; have P2 := qh p2; have P3 := qh p3; have P4 := qh p4; have P5 := qh p5; clear p1 p2 p3 p4 p5)))
 go_ret
 have hs := R5.out.size
 refine ⟨rfl, A', c', P1.out, P2.out, P3.out, fun h0 ad ea => Nat.le_trans hs (P4.out h0 ad ea), ?_⟩
 have h0 : KeepL (fun k => k = g ∨ k = B) X X5 := (KeepL.of_below' R5.out).wideR fun j hj => hj.elim
 exact h0.trans P5.out (fun j hj => .inl hj)
section
variable {b g B : Nat} {F : Nat → Prop} {L : List Rg.St} {X X' : World}
def ShotsIn (F : Nat → Prop) (g B : Nat) (L : List Rg.St) (X : World) : Prop := ∀ q ∈ L, Lies X X.heap.size 6 q.A q.g.shots.length (Gm.shotCells q.g.shots) ∧ (q.g.shots.length ≠ 0 → ∀ ad, q.A = some ad → F ad.block ∧ ad.block ≠ g ∧ ad.block ≠ B)
theorem ShotsIn.old (hs : ShotsIn F g B L X) (hup : ∀ k, F k → k < X.heap.size) (hK : KeepL (fun k => k = g ∨ k = B) X X') : ShotsIn F g B L X' := fun q hq =>
 ⟨lies_kept (hs q hq).1 hK.size fun h0 ad e => by
  obtain ⟨h1, h2, h3⟩ := (hs q hq).2 h0 ad e
  exact hK.block _ (hup _ h1) (by rintro (h | h) <;> contradiction), (hs q hq).2⟩
theorem ShotsIn.sub {L' : List Rg.St} (hs : ShotsIn F g B L X) (h : ∀ q ∈ L', q ∈ L) : ShotsIn F g B L' X := fun q hq => hs q (h q hq)
theorem PrgR.says {L' : List Rg.St} {v : Bool} (hB : Box X' B 89 #[.slice (some ⟨g, 0, none⟩) L'.length 9]) (hR : PRow g L' X') (hs : ShotsIn F g B L' X') (hg : F g) (hF : F B) (hup : ∀ k, F k → b ≤ k ∧ k < X.heap.size) (hK : KeepL (fun k => k = g ∨ k = B) X X') : SaysO PrgR b F B (L'.map Rg.St.s) (.bool v) X (.returned (.bool v)) X' :=
 ⟨rfl, F, fun k hk => .inl hk, ⟨⟨g, L', rfl, hB, hR, hg, hs⟩, hF, fun k hk => ⟨(hup k hk).1, Nat.lt_of_lt_of_le (hup k hk).2 hK.size⟩⟩, hK.wideR fun j hj => by rcases hj with rfl | rfl <;> assumption⟩
theorem PrgR.quiet {M : List Fd.S} {v : Value} (h : PrgR b F B M X) (hb : Below X.heap.size X X') : SaysO PrgR b F B M v X (.returned v) X' :=
 ⟨rfl, F, fun k hk => .inl hk, PrgR.obj.keep h (KeepL.of_below' hb) (fun _ _ h => h), (KeepL.of_below' hb).wideR fun j hj => hj.elim⟩
end
theorem rg_few {M : List Fd.S} {L : List Rg.St} (ho : Rg.Ok M) (e : M = L.map Rg.St.s) {q : Rg.St} (hq : q ∈ L) : q.g.shots.length ≤ 60 := by
 have h := (ho.all q.s (by rw [e]; exact List.mem_map_of_mem hq)).1.1.2.2.1
 have h2 : q.g.shots.length ≤ 32 := h
 omega
theorem rg_last {M : List Fd.S} {L : List Rg.St} (ho : Rg.Ok M) (e : M = L.map Rg.St.s) : ∃ k l, L.length = k + 1 ∧ L[k]? = some l ∧ l.g.frame = Rg.last M ∧ 0 ≤ l.g.frame ∧ l.g.frame ≤ 1048576 := by
 have hl : 0 < L.length := by have := Rg.len_pos ho.some; rw [e, List.length_map] at this; exact this
 obtain ⟨k, hk⟩ : ∃ k, L.length = k + 1 := ⟨L.length - 1, by omega⟩
 have hlt : k < L.length := by omega
 refine ⟨k, L[k], hk, List.getElem?_eq_getElem hlt, ?_, ?_⟩
 · have := ho.runs k (L[k]).s (by rw [e]; exact Rg.map_at (List.getElem?_eq_getElem hlt))
   have h2 : (L[k]).g.frame = Rg.first M + (k : Int) := this
   unfold Rg.last
   rw [h2, e, List.length_map]
   omega
 · have h := (ho.all (L[k]).s (by rw [e]; exact List.mem_map_of_mem (List.getElem_mem _))).1.1
   exact ⟨h.1, h.2.1⟩
theorem ringC : RingC PrgR where
 ob := PrgR.obj
 new_yes := fun b q X hb hty hok hL => (rgnew_yes q hty hok (by have := hok.1.2.2.1; omega) X hL).mono fun e X' h => by
  obtain ⟨g, B, A', c', rfl, h1, h2, h3, h4, h5, h6, h7⟩ := h
  refine ⟨B, fun k => X.heap.size ≤ k ∧ k < X'.heap.size, rfl, ⟨⟨g, [⟨q.g, q.r, A', c'⟩], rfl, h1, h2, ⟨h6, h2.lt⟩, fun x hx => ?_⟩, ⟨h7, h1.lt⟩, fun k hk => ⟨Nat.le_trans hb hk.1, hk.2⟩⟩, h5, fun k hk => hk.1⟩
  obtain rfl := List.mem_singleton.1 hx
  refine ⟨h3, fun h0 ad ea => ?_⟩
  obtain ⟨a1, a2, a3⟩ := h4 h0 ad ea
  obtain ⟨ad', ea', hb'⟩ := h3.start h0
  have ea2 : A' = some ad := ea
  rw [ea2] at ea'; injection ea' with ea'; subst ea'
  exact ⟨⟨a1, hb'⟩, a2, a3⟩
 new_no := fun q X hty hok hn hL => rgnew_no q hty hok hn X hL
 push := fun b F B M ho q hty hn X h hb hL => by
  obtain ⟨g, L, e, hB, hR, hg, hs⟩ := h.box
  obtain ⟨k, l, hk, hl, hfl, hlo⟩ := rg_last ho e
  have hlen : M.length = L.length := by rw [e, List.length_map]
  have hno : ¬ (Im.Ok q.g q.r ∧ q.g.frame = Rg.last M + 1 ∧ M.length ≤ 8) → (Calls Tryz.prog 12 #[.pointer (some ⟨B, 0, none⟩), .agg q.arr] X fun e X' => e = .returned (.bool false) ∧ Below X.heap.size X X') → Calls Tryz.prog 12 #[.pointer (some ⟨B, 0, none⟩), .agg q.arr] X (SaysO PrgR b F B (Rg.push M q.s) (.bool (Rg.pushB M q.s)) X) := fun hc hcall => by
   have hp : Rg.pushB M q.s = false := Rg.pushB_no hc
   rw [Rg.push_no hp, hp]
   exact hcall.mono fun e X' hh => by rw [hh.1]; exact h.quiet hh.2
  by_cases h8 : L.length ≤ 8
  · by_cases hfr : q.g.frame = l.g.frame + 1
    · by_cases hok : Im.Ok q.g q.r
      · have hp : Rg.pushB M q.s = true := Rg.pushB_yes hok (by rw [← hfl]; exact hfr) (by omega)
        rw [Rg.push_yes hp, hp]
        have hn60 : q.g.shots.length ≤ 60 := by have := hok.1.2.2.1; omega
        refine (rgpush_yes B g k L q l hk hl hlo hty hn h8 hfr hok hn60 X hB hR hL).mono fun e' X' hh => ?_
        obtain ⟨rfl, A', c', h1, h2, h3, h4, h5⟩ := hh
        have hsz := h5.size
        refine ⟨rfl, fun k => F k ∨ (X.heap.size ≤ k ∧ k < X'.heap.size), fun k hk => hk.imp id And.left, ⟨⟨g, L ++ [⟨q.g, q.r, A', c'⟩], by rw [e, List.map_append]; rfl, by rw [List.length_append]; exact h1, h2, .inl hg, fun x hx => ?_⟩, .inl h.own, fun k hk => ?_⟩, h5.wideR fun j hj => hj.elim (fun e => e ▸ hg) (fun e => e ▸ h.own)⟩
        · rcases List.mem_append.1 hx with hx | hx
          · have := (ShotsIn.old hs (fun k hk => (h.up k hk).2) h5) x hx
            exact ⟨this.1, fun h0 ad ea => ⟨.inl (this.2 h0 ad ea).1, (this.2 h0 ad ea).2⟩⟩
          · obtain rfl := List.mem_singleton.1 hx
            refine ⟨h3, fun h0 ad ea => ?_⟩
            have a1 := h4 h0 ad ea
            obtain ⟨ad', ea', hb'⟩ := h3.start h0
            have ea2 : A' = some ad := ea
            rw [ea2] at ea'; injection ea' with ea'; subst ea'
            have g1 := (h.up g hg).2
            have g2 := (h.up B h.own).2
            exact ⟨.inr ⟨a1, hb'⟩, by omega, by omega⟩
        · rcases hk with hk | hk
          · exact ⟨(h.up k hk).1, Nat.lt_of_lt_of_le (h.up k hk).2 hsz⟩
          · exact ⟨Nat.le_trans hb hk.1, hk.2⟩
      · exact hno (fun hc => hok hc.1) (rgpush_not B g k L q l hk hl hlo hty hn h8 hfr hok X hB hR hL)
    · exact hno (fun hc => hfr (by rw [hfl]; exact hc.2.1)) (rgpush_far B g k L q l hk hl hlo hty hn h8 hfr X hB hR hL)
  · have h9 := hR.few
    exact hno (fun hc => h8 (by rw [← hlen]; exact hc.2.2)) (rgpush_full B g k L q l hk hl hlo hty hn (by omega) X hB hR hL)
 at_yes := fun b F B M ho f s hs X h => by
  obtain ⟨g, L, e, hB, hR, hg, hsh⟩ := h.box
  obtain ⟨hp, hat⟩ := Rg.at_some hs
  rw [e] at hp hat
  obtain ⟨hv, hi⟩ := Rg.place_yes (by rw [← e]; exact ho) hp
  have hm := List.getElem_mem hi
  have hq := Rg.map_at (List.getElem?_eq_getElem hi)
  rw [hq] at hat
  injection hat with hat
  rw [← hat]
  exact rgat_some B g L f _ hi hv X hB hR (rg_few ho e hm) (hsh _ hm).1
 at_no := fun b F B M ho f hf hs X h => by
  obtain ⟨g, L, e, hB, hR, hg, hsh⟩ := h.box
  have hp := Rg.at_none hs
  rw [e] at hp ho
  exact rgat_none B g L f (Rg.place_no ho hp) X hB hR
 cut := fun b F B M ho f hf X h hb => by
  obtain ⟨g, L, e, hB, hR, hg, hsh⟩ := h.box
  subst e
  cases hp : Rg.hasB (L.map Rg.St.s) f with
  | false =>
   have ec : Rg.cut (L.map Rg.St.s) f = L.map Rg.St.s := by unfold Rg.cut; rw [hp]; rfl
   rw [ec]
   exact (rgcut_none B g L f (Rg.place_no ho hp) X hB hR).mono fun e X' hh => by rw [hh.1]; exact h.quiet hh.2
  | true =>
   obtain ⟨hv, hi⟩ := Rg.place_yes ho hp
   have ec : Rg.cut (L.map Rg.St.s) f = (L.take ((f - Rg.first (L.map Rg.St.s)).toNat + 1)).map Rg.St.s := by unfold Rg.cut; rw [hp, if_pos rfl, List.map_take]
   rw [ec]
   refine (rgcut_some B g L f _ hi hv X hB hR).mono fun e X' hh => ?_
   obtain ⟨rfl, h1, h2, h3⟩ := hh
   exact PrgR.says h1 h2 ((ShotsIn.old hsh (fun k hk => (h.up k hk).2) h3).sub fun q hq => List.mem_of_mem_take hq) hg h.own h.up h3
 drop := fun b F B M ho f hf X h hb => by
  obtain ⟨g, L, e, hB, hR, hg, hsh⟩ := h.box
  subst e
  cases hp : Rg.hasB (L.map Rg.St.s) f with
  | false =>
   have ec : Rg.drop (L.map Rg.St.s) f = L.map Rg.St.s := by unfold Rg.drop; rw [hp]; rfl
   rw [ec]
   exact (rgdrop_none B g L f (Rg.place_no ho hp) X hB hR).mono fun e X' hh => by rw [hh.1]; exact h.quiet hh.2
  | true =>
   obtain ⟨hv, hi⟩ := Rg.place_yes ho hp
   have ec : Rg.drop (L.map Rg.St.s) f = (L.drop (f - Rg.first (L.map Rg.St.s)).toNat).map Rg.St.s := by unfold Rg.drop; rw [hp, if_pos rfl, List.map_drop]
   rw [ec]
   refine (rgdrop_some B g L f _ hi hv X hB hR).mono fun e X' hh => ?_
   obtain ⟨rfl, h1, h2, h3⟩ := hh
   exact PrgR.says h1 h2 ((ShotsIn.old hsh (fun k hk => (h.up k hk).2) h3).sub fun q hq => List.mem_of_mem_drop hq) hg h.own h.up h3
 len := fun b F B M ho X h => by
  obtain ⟨g, L, e, hB, hR, hg, hsh⟩ := h.box
  rw [e, List.length_map]
  exact (rglen_any B L.length 9 _ X (hB.cell 0)).mono fun e X' hh => ⟨hh.1, by rw [← hh.2]; exact Below.refl _ _⟩
 first := fun b F B M ho X h => by
  obtain ⟨g, L, e, hB, hR, hg, hsh⟩ := h.box
  obtain ⟨k, l, hk, _⟩ := rg_last ho e
  have h0 : L[0]? = some (L[0]'(by omega)) := List.getElem?_eq_getElem (by omega)
  have hf : (L[0]'(by omega)).g.frame = Rg.first M := ho.first_at (by rw [e]; exact Rg.map_at h0)
  rw [← hf]
  exact (rgfirst_any B g k L _ hk h0 X hB hR).mono fun e X' hh => ⟨hh.1, by rw [← hh.2]; exact Below.refl _ _⟩
 last := fun b F B M ho X h => by
  obtain ⟨g, L, e, hB, hR, hg, hsh⟩ := h.box
  obtain ⟨k, l, hk, hl, hfl, _⟩ := rg_last ho e
  rw [← hfl]
  exact rglast_any B g k L l hk hl X hB hR
 push0 := fun q X _ _ _ => rgpush_nil q X
 cut0 := fun f X => rgcut_nil f X
 drop0 := fun f X => rgdrop_nil f X
 len0 := fun X => (rglen_nil X).mono fun e X' hh => ⟨hh.1, by rw [← hh.2]; exact Below.refl _ _⟩
end Go.Proofs.YtbdlpbnfcnhajaaGreat