/-
Several texts in one: Hx Rm Tf Tg Th Sc Sd.
-/
import Derived.Test.YtmiopphcfdlneaaGreatCx10
set_option maxRecDepth 100000
set_option maxHeartbeats 8000000
set_option linter.unusedVariables false
set_option linter.unusedSimpArgs false
namespace Go.Proofs.YtmiopphcfdlneaaGreat
open Go.RowKit
theorem qmp (g : Gm.G) (A : Option Addr) (n c i : Nat) (w : World) (hg : Gm.ok g) (hn : n = g.qaa.length) (hr : Lies w w.heap.size 6 A n (Gm.qad g.qaa)) (hi : i < 8) (ho : (g.ship i).on = true) (h0 : g.qaa = []) :
 Calls Tryz.prog 122 #[.agg (Gm.cells g (.slice A n c)), .int .i64 i] w (Out { g with ship := Gm.upd g.ship i Gm.Ship.none } 0 w) := by
 have b1 : Box (((w.alloc (.cells (Gm.cells g (.slice A n c)) 31)).alloc (.cells #[.int .i64 i] 3)).alloc (.cells (Gm.cells qbx (.slice none 0 0)) 31)) w.heap.size 31 (Gm.cells g (.slice A n c)) := ((Box.made _ _ _).alloc _).alloc _
 have b2 : Box (((w.alloc (.cells (Gm.cells g (.slice A n c)) 31)).alloc (.cells #[.int .i64 i] 3)).alloc (.cells (Gm.cells qbx (.slice none 0 0)) 31)) (w.heap.size + 1 + 1) 31 (Gm.cells qbx (.slice none 0 0)) := Box.qaq _ _ _ (by simp)
 have b3 : Box (((w.alloc (.cells (Gm.cells g (.slice A n c)) 31)).alloc (.cells #[.int .i64 i] 3)).alloc (.cells (Gm.cells qbx (.slice none 0 0)) 31)) (w.heap.size + 1) 3 #[.int .i64 i] := (Box.qaq _ _ _ (by simp)).alloc _
 have hb0 := (qap w (.cells (Gm.cells g (.slice A n c)) 31) (.cells #[.int .i64 i] 3)).alloc (by simp <;> omega) (.cells (Gm.cells qbx (.slice none 0 0)) 31)
 have co := qh (qiA g A n c _ hn (by have := hg.2.2.1; omega) ((hr.below hb0).wider hb0.size))
 have cm := fun X (hX : Below w.heap.size w X) => qh (qgW g A n c X hg hn ((hr.below hX).wider hX.size))
 have cs := fun X => qh (qdr i (by omega) X)
 rw [decide_eq_true (show (0 : Int) <= i by omega), decide_eq_true (show (i : Int) < 8 by omega), Bool.and_self] at cs
 have q0 : (Gm.cells g (.slice A n c))[2 + i * 7]? = some (.bool true) := (Gm.qae g _ i 0 hi (by omega)).trans (by show some (Value.bool (g.ship i).on) = _; rw [ho])
 have hi8 : (i : Int) < 8 := by omega
 obtain ⟨t, ht⟩ : ∃ t, t = g.ship i := ⟨_, rfl⟩
 have r0 : ∀ s, (Gm.cells g s)[2 + i * 7]? = some (.bool t.on) := fun s => (Gm.qae g s i 0 hi (by omega)).trans (by rw [ht]; rfl)
 have r1 : ∀ s, (Gm.cells g s)[2 + i * 7 + 1]? = some (.int .i32 t.x) := fun s => (Gm.qae g s i 1 hi (by omega)).trans (by rw [ht]; rfl)
 have r2 : ∀ s, (Gm.cells g s)[2 + i * 7 + 2]? = some (.int .i32 t.y) := fun s => (Gm.qae g s i 2 hi (by omega)).trans (by rw [ht]; rfl)
 have r3 : ∀ s, (Gm.cells g s)[2 + i * 7 + 3]? = some (.int .i32 t.vx) := fun s => (Gm.qae g s i 3 hi (by omega)).trans (by rw [ht]; rfl)
 have r4 : ∀ s, (Gm.cells g s)[2 + i * 7 + 4]? = some (.int .i32 t.vy) := fun s => (Gm.qae g s i 4 hi (by omega)).trans (by rw [ht]; rfl)
 have r5 : ∀ s, (Gm.cells g s)[2 + i * 7 + 5]? = some (.int .i64 t.cool) := fun s => (Gm.qae g s i 5 hi (by omega)).trans (by rw [ht]; rfl)
 have r6 : ∀ s, (Gm.cells g s)[2 + i * 7 + 6]? = some (.int .i64 t.score) := fun s => (Gm.qae g s i 6 hi (by omega)).trans (by rw [ht]; rfl)
 have hN := qh hn
 have H0 := qh h0
 have HB := qh hb0
 have B1 := qh b1
 have B2 := qh b2
 have B3 := qh b3
 clear hr hn b1 b2 b3 hb0 ho hg ht h0
 go_enter Tryz.func122, Tryz.ntmps122
 go_upto_region 5 with (first | (refine qaK rfl rfl ?_) | ((with_reducible refine qaF rfl rfl ?_); apply qaN.mk rfl; (with_reducible exact B1.out)) | ((with_reducible refine qaF rfl rfl ?_); apply qaN.mk rfl; (with_reducible exact D1.out)) | ((with_reducible refine qaF rfl rfl ?_); apply qaN.mk rfl; exact F1.out) | (go_at_call 123; ((with_reducible refine (co.out).mono ?_); rintro e w1 ⟨A1, c1, rfl, ho1, hb1⟩; have HB1 := qh ((HB.out.trans (hb1.mono HB.out.size)).alloc (by have := hb1.size; simp at this; omega) (.cells (Gm.cells g (.slice A1 n c1)) 31)); have O1 := qh ((qbE (base' := w.heap.size) ho1 (by simp; omega)).alloc (.cells (Gm.cells g (.slice A1 n c1)) 31)); have D1 := qh ((B1.out.below hb1 (by simp <;> omega)).alloc (.cells (Gm.cells g (.slice A1 n c1)) 31)); have D2 := qh ((B2.out.below hb1 (by simp <;> omega)).alloc (.cells (Gm.cells g (.slice A1 n c1)) 31)); have D3 := qh ((B3.out.below hb1 (by simp <;> omega)).alloc (.cells (Gm.cells g (.slice A1 n c1)) 31)); have s1 : w.heap.size + 1 + 1 < w1.heap.size := (by have := hb1.size; simp at this; omega); have ho1H := qh ho1; clear ho1 hb1)) | (refine qaL rfl rfl rfl rfl rfl rfl ?_) | (go_at_call 124; ((with_reducible refine ((cm _ HB1.out).out).mono ?_); rintro e w2 ⟨rfl, hb2⟩; have HB2 := qh (HB1.out.trans (hb2.mono HB1.out.size)); have O2 := qh (own_below O1.out hb2 (Nat.le_refl _)); have F1 := qh ((Box.made w1 31 (Gm.cells g (.slice A1 n c1))).below hb2 (by simp)); have f1c := F1.out.cell; have f1f := F1.out.free; have H9 := qh ((qgd (w := w) hN.out (qbE (base' := w.heap.size) ho1H.out (by simp; omega))).call hb2); have E1 := (D1.out.below hb2 D1.out.lt).cell; have E3' := D3.out.below hb2 D3.out.lt; have E3 := E3'.cell; have E3H := qh E3'; have G2 := qh (D2.out.below hb2 D2.out.lt); clear hb2)) | (go_at_call 150; ((with_reducible refine ((cs _).out).mono ?_); rintro e w' ⟨rfl, rfl⟩)) | ((with_reducible refine qbq rfl rfl ?_); apply qbm.mk rfl rfl rfl; exact G2.out))
 have W5 : Has w.heap.size w1.heap.size { g with ship := Gm.upd g.ship i Gm.Ship.none } (stored w2 w1.heap.size i Gm.Ship.none) := H9.out.stored hi _
 have K5 := (Keep.refl (show w.heap.size <= w1.heap.size by omega) w2).stored (k := i) Gm.Ship.none
 obtain ⟨W, hW⟩ : ∃ W, W = stored w2 w1.heap.size i Gm.Ship.none := ⟨_, rfl⟩
 rw [<- hW] at W5 K5
 simp only [stored, Gm.Ship.none] at hW
 rw [<- hW]
 have ck := qh (qjO { g with ship := Gm.upd g.ship i Gm.Ship.none } w.heap.size w1.heap.size (.func (.func 152) #[] #[.pointer (some ⟨w.heap.size + 1, 0, none⟩)]) W (by omega) W5 H0.out)
 have hmf : ∀ (fn : Fn) (first cap : Array Value) (w : World), (Instr.makeFunc fn first cap).run Tryz.prog w = .ok (.func fn first cap) w := fun _ _ _ _ => rfl
 have ne2 : w.heap.size + 1 + 1 ≠ w1.heap.size := by omega
 have R5 := qh (G2.out.keep K5 ne2 (by decide))
 have KK5 := qh (HB2.out.trans (K5.to HB2.out.size))
 clear hW W5 K5 E1 E3 f1c f1f r0 r1 r2 r3 r4 r5 r6
 go_wp2_with (first | (go_at_call 129; ((with_reducible refine (ck.out).mono ?_); rintro e w4 ⟨rfl, h4, k4⟩; obtain ⟨A4, c4, B4, O4⟩ := h4; have F4 := qh B4; have O4H := qh O4; have R4 := qh (R5.out.keep k4 ne2 (by decide)); have K4 := qh (KK5.out.trans (k4.to KK5.out.size)); clear B4 O4 k4)) | ((with_reducible refine qaF rfl rfl ?_); apply qaN.mk rfl; exact F4.out) | ((with_reducible refine qbq rfl rfl ?_); apply qbm.mk rfl rfl rfl; exact R4.out))
 refine bodyPost_ret (v := .tuple #[.agg (Gm.cells { g with ship := Gm.upd g.ship i Gm.Ship.none } (.slice A4 g.qaa.length c4)), .int .i64 0]) ?_ ?_ ?_
 · exact results_cell_tmp (p := 4) (q := 5) rfl _ _ _ _ (Gm.cells { g with ship := Gm.upd g.ship i Gm.Ship.none } (.slice A4 g.qaa.length c4)) _ rfl (Box.row R4.out _) Tryz.underlying31 rfl qbh
 · rfl
 · exact ⟨A4, c4, rfl, Lies.owned (qbi O4H.out (R4.out.qaM O4H.out (by decide)) _), Below.setRow' K4.out (by omega) _⟩
open Go.RowKit Go.Shelf
theorem qaW.draws {b B : Nat} {A : Option Addr} {c : Nat} {g : Gm.G} {w : World} (h : qaW b B A c g w) (n : Nat) : qaW b B A c g (w.drewN n) := ⟨⟨h.game.is⟩, h.own⟩
theorem qaW.qgv {b B c gs i : Nat} {G : Gm.G} {W : World} (h : qaW b B (some ⟨gs, 0, none⟩) c G W) (hi : i < G.qaa.length) (j : Nat) (hj : j < 6) : W.cell? ⟨gs, i * 6 + j, none⟩ = G.qaa[i].cells[j]? := by
 have h1 := h.own
 rw [h1.cellAt (i * 6 + j) (by omega), Gm.qbz _ i j hi hj]
theorem Keep.draws {b B : Nat} {w w' : World} (h : Keep b B w w') (n : Nat) : Keep b B w (w'.drewN n) := ⟨h.os, h.tape, h.output, h.size, h.low, h.block⟩
theorem qkX (G : Gm.G) (b B c gs j Bi : Nat) (i : Int) (w : World) (hbB : b <= B) (hj : j < G.qaa.length) (h : qaW b B (some ⟨gs, 0, none⟩) c G w) (hi : Box w Bi 3 #[.int .i64 i]) :
 Calls Tryz.prog 152 #[.pointer (some ⟨gs, j * 6, none⟩), .pointer (some ⟨Bi, 0, none⟩)] w fun e w' => e = .returned (.bool (decide (G.qaa[j].owner ≠ i))) /\ qaW b B (some ⟨gs, 0, none⟩) c G w' /\ Keep b B w w' /\ Box w' Bi 3 #[.int .i64 i] := by
 have q0 := h.qgv hj 0 (by omega)
 generalize hs : G.qaa[j] = s at q0 ⊢
 obtain ⟨so, sx, sy, svx, svy, sl⟩ := s
 simp only [Gm.Shot.cells, List.getElem?_cons_zero, Nat.add_zero] at q0
 have r0 := hi.cell 0
 simp only [List.getElem?_toArray, List.getElem?_cons_zero] at r0
 have H := qh h
 have HI := qh hi
 clear h hs hi
 go_enter Tryz.func152, Tryz.ntmps152
 by_cases ho : so = i
 · subst ho
   go_upto_region 1 with fail
   go_quiet (fail)
   go_wp2
   go_ret
   exact ⟨by simp, H.out.draws _, (Keep.refl hbB _).draws _, ⟨HI.out.is⟩⟩
 · have hne : (so != i) = true := by simpa using ho
   go_upto_region 1 with fail
   go_quiet (fail)
   go_wp2
   go_ret
   exact ⟨by simp [ho], H.out.draws _, (Keep.refl hbB _).draws _, ⟨HI.out.is⟩⟩
def oth (i : Int) : Gm.Shot -> Bool := fun s => decide (s.owner ≠ i)
theorem qlN (i : Int) (l : List Gm.Shot) (j : Nat) (hj : j < l.length) : (l.take (j + 1)).filter (oth i) = (l.take j).filter (oth i) ++ (if oth i l[j] then [l[j]] else []) := by
 rw [List.take_succ_eq_append_getElem hj, List.filter_append]
 congr 1
 cases h : oth i l[j] <;> simp [h]
theorem qol (g : Gm.G) (b B Bi : Nat) (iv : Int) (w : World) (hbB : b <= B) (h : Has b B g w) (hne : g.qaa.length ≠ 0) (hlen : g.qaa.length <= 32) (hi : Box w Bi 3 #[.int .i64 iv]) :
 Calls Tryz.prog 129 #[.pointer (some ⟨B, 0, none⟩), .func (.func 152) #[] #[.pointer (some ⟨Bi, 0, none⟩)]] w fun e w' => e = .returned (.tuple #[]) /\ Has b B { g with qaa := g.qaa.filter (oth iv) } w' /\ Keep b B w w' := by
 obtain ⟨A, c, hB, hO⟩ := h
 have h : qaW b B A c g w := ⟨hB, hO⟩
 obtain ⟨gs, rfl, hbg, _⟩ := h.len hne
 obtain ⟨m, hm⟩ : ∃ m, m = g.qaa.length := ⟨_, rfl⟩
 have start : qkn b B c gs 0 w g ⟨g.dice, g.ship, []⟩ g.qaa (.slice (some ⟨gs, 0, none⟩) 0 c) w :=
  ⟨rfl, Nat.le_refl _, rfl, fun _ _ => rfl, rfl, h, Keep.refl hbB w⟩
 have START := qh start
 have HI0 := qh hi
 have hcc := hB.cell
 have e58 := Gm.qbc g (.slice (some ⟨gs, 0, none⟩) g.qaa.length c)
 rw [<- hm] at hcc e58 hne hlen
 obtain ⟨i0, hi0, hz0, hz1, hz2⟩ := info_parts qdo
 have hI := qh hi0
 have hS := qh hz1
 have HM := qh hm
 clear hB hO h start hi0 hz0 hz1 hz2 hm hi
 go_enter Tryz.func129, Tryz.ntmps129
 go_wp2
 go_loopg [4, 16] m (fun gg s4 i wr => ∃ (j : Nat) (L : List Gm.Shot), j <= m /\ gg = m - j /\ i = .int .i64 j /\ qkn b B c gs j w g ⟨g.dice, g.ship, (g.qaa.take j).filter (oth iv)⟩ L s4 wr /\ Box wr Bi 3 #[.int .i64 iv])
 case atStart => exact ⟨0, g.qaa, by omega, rfl, rfl, START.out, HI0.out⟩
 case round =>
  obtain ⟨j, L, hj, rfl, rfl, hR, hQ⟩ := hrel
  clear hcc e58
  have hLm : L.length = m := by rw [hR.len, HM.out]
  have r58 := Gm.qbc { g with qaa := L } (.slice (some ⟨gs, 0, none⟩) L.length c)
  have rc := hR.has.game.cell
  have rf := hR.has.game.free
  dsimp only at rc
  rw [hLm] at rc r58
  by_cases hlt : j < m
  · have hjm : (j : Int) < m := by omega
    have hjl : j < g.qaa.length := by rw [<- HM.out]; exact hlt
    have hsn := qh (qlN iv g.qaa j hjl)
    have hLj : L[j]'(by rw [hLm]; exact hlt) = g.qaa[j] := by
     have := hR.rest j (Nat.le_refl _)
     rw [List.getElem?_eq_getElem (by rw [hLm]; exact hlt), List.getElem?_eq_getElem hjl] at this
     injection this
    generalize hst : (g.qaa.take j).filter (oth iv) = left at *
    obtain ⟨s, hs⟩ : ∃ s, s = g.qaa[j] := ⟨_, rfl⟩
    rw [<- hs] at hLj
    have cst := qkX { g with qaa := L } b B c gs j Bi iv wr hbB (by rw [hLm]; exact hlt) hR.has hQ
    dsimp only at cst
    rw [hLj] at cst
    have hget := qh (show ∀ h : j < L.length, L[j]'h = s from fun _ => hLj)
    have hset : Hid (L.set j s = L) := qh (by rw [<- hLj]; exact List.set_getElem_self _)
    have HR := qh hR
    have HQ := qh hQ
    have HSS := qh hs
    have hs4 := hR.left
    have hfew := hR.few
    clear hR hs hLj hQ
    dsimp only at hs4 hfew
    subst hs4
    have hso : Hid (oth iv s = decide (s.owner ≠ iv)) := qh rfl
    by_cases h1 : s.owner = iv
    · rw [decide_eq_false (by simpa using h1)] at cst
      have CST := qh cst
      have HO := qh (show oth iv s = false from hso.out.trans (decide_eq_false (by simpa using h1)))
      clear cst hst h1
      go_wp2_with (go_at_call 152; ((with_reducible refine (CST.out).mono ?_); rintro e w1 ⟨rfl, h1', k1', b1'⟩; have H1 := qh h1'; have K1 := qh k1'; have Q1 := qh b1'; clear h1' k1' b1'))
      go_roundg (m - (j + 1))
      case measure => omega
      case rel =>
       refine ⟨j + 1, L.set j s, by omega, rfl, by go_num, ?_, Q1.out⟩
       rw [hsn.out, <- HSS.out, HO.out]
       simp only [Bool.false_eq_true, if_false, List.append_nil]
       exact qif HR.out rfl s (by rw [hset.out]; exact H1.out) (HR.out.keep.trans K1.out)
    · rw [decide_eq_true (by simpa using h1)] at cst
      have CST := qh cst
      have HO := qh (show oth iv s = true from hso.out.trans (decide_eq_true (by simpa using h1)))
      clear cst hst h1 hso
      obtain ⟨fo, fx, fy, fvx, fvy, fl⟩ := s
      have n32 : left.length + 1 <= 33 := by omega
      go_wp2_with (first | (go_at_call 152; ((with_reducible refine (CST.out).mono ?_); rintro e w1 ⟨rfl, h1', k1', b1'⟩; have a58 := Gm.qbc { g with qaa := L } (.slice (some ⟨gs, 0, none⟩) L.length c); have a0 := h1'.game.cell; have q0 := h1'.qgv (by rw [hLm]; exact hlt) 0 (by omega); have q1 := h1'.qgv (by rw [hLm]; exact hlt) 1 (by omega); have q2 := h1'.qgv (by rw [hLm]; exact hlt) 2 (by omega); have q3 := h1'.qgv (by rw [hLm]; exact hlt) 3 (by omega); have q4 := h1'.qgv (by rw [hLm]; exact hlt) 4 (by omega); have q5 := h1'.qgv (by rw [hLm]; exact hlt) 5 (by omega); have R1 := (h1'.alloc (.cells #[.int .i64 fo, .int .i32 fx, .int .i32 fy, .int .i32 fvx, .int .i32 fvy, .int .i64 fl] 80)).room (n := left.length) (by show left.length < L.length; rw [hLm]; omega) ⟨fo, fx, fy, fvx, fvy, fl⟩; obtain ⟨cur, r1, r2, r3, r4⟩ := R1; have RB := qh r1; have R4 := qh r4; have KK := qh ((HR.out.keep.trans k1').alloc (.cells #[.int .i64 fo, .int .i32 fx, .int .i32 fy, .int .i32 fvx, .int .i32 fvy, .int .i64 fl] 80)); have RL := qh (qhV w1 ⟨fo, fx, fy, fvx, fvy, fl⟩); rw [hget.out] at q0 q1 q2 q3 q4 q5; simp only [Gm.Shot.cells, List.getElem?_cons_zero, List.getElem?_cons_succ, Nat.add_zero, hLm] at q0 q1 q2 q3 q4 q5 a58 a0; have QB := fun cs' => qh ((b1'.alloc (.cells #[.int .i64 fo, .int .i32 fx, .int .i32 fy, .int .i32 fvx, .int .i32 fvy, .int .i64 fl] 80)).qbn (show Bi ≠ _ from Box.apart (b1'.alloc _) r1 (by decide)) cs'); clear h1' k1' b1' r1 r4 rc rf r58)) | ((with_reducible refine qjj (x := .tmp 27) (y := .tmp 35) (t := 29) (e := 80) (size := 6) rfl rfl Tryz.underlying29 hI.out hS.out ?_); refine qdY.mk rfl rfl RB.out RL.out (qjJ ⟨fo, fx, fy, fvx, fvy, fl⟩) r2 r3 ?_))
      go_roundg (m - (j + 1))
      case measure => omega
      case rel =>
       refine ⟨j + 1, (L.set j ⟨fo, fx, fy, fvx, fvy, fl⟩).set left.length ⟨fo, fx, fy, fvx, fvy, fl⟩, by omega, rfl, by go_num, ?_, (QB _).out⟩
       rw [hsn.out, <- HSS.out, HO.out]
       simp only [if_true]
       exact qhH HR.out hjl ⟨fo, fx, fy, fvx, fvy, fl⟩ (by have h := R4.out; rw [List.append_assoc] at h; rw [hset.out]; exact h) (KK.out.row RB.out hbg _)
  · have hjm : ¬ (j : Int) < m := by omega
    have hje : j = m := by omega
    subst hje
    rw [HM.out, List.take_length] at hR
    rw [HM.out] at rc r58
    generalize hfin : g.qaa.filter (oth iv) = fin at *
    obtain ⟨h1, h2, h3, h4, h5, h6, h7⟩ := hR
    subst h5
    have own2 := qhQ (n := fin.length) h6.own (by show fin.length <= L.length; rw [h1]; exact h2)
    dsimp only at own2
    rw [h3] at own2
    have res : Has b B { g with qaa := fin } (wr.setCell ⟨B, 58, none⟩ (.slice (some ⟨gs, 0, none⟩) fin.length c)) :=
     ⟨some ⟨gs, 0, none⟩, c, qch (g := { g with qaa := fin }) h6.game _, ownsRow_setCell_other (a := ⟨B, 58, none⟩) own2 (by intro e; injection e with e; exact h6.apart e) _⟩
    have RES := qh res
    have K7 := qh (h7.put 58 (.slice (some ⟨gs, 0, none⟩) fin.length c))
    have HF := qh hfin
    clear h1 h2 h3 h4 h6 h7 own2 res hfin
    go_wp2
    go_end0
    rw [HF.out]
    exact ⟨rfl, RES.out, K7.out⟩
theorem qjo (g : Gm.G) (A : Option Addr) (n c i : Nat) (w : World) (hg : Gm.ok g) (hn : n = g.qaa.length) (hr : Lies w w.heap.size 6 A n (Gm.qad g.qaa)) (hi : i < 8) (ho : (g.ship i).on = true) (h0 : g.qaa.length ≠ 0) :
 Calls Tryz.prog 122 #[.agg (Gm.cells g (.slice A n c)), .int .i64 i] w (Out (Gm.remove g i) 0 w) := by
 have b1 : Box (((w.alloc (.cells (Gm.cells g (.slice A n c)) 31)).alloc (.cells #[.int .i64 i] 3)).alloc (.cells (Gm.cells qbx (.slice none 0 0)) 31)) w.heap.size 31 (Gm.cells g (.slice A n c)) := ((Box.made _ _ _).alloc _).alloc _
 have b2 : Box (((w.alloc (.cells (Gm.cells g (.slice A n c)) 31)).alloc (.cells #[.int .i64 i] 3)).alloc (.cells (Gm.cells qbx (.slice none 0 0)) 31)) (w.heap.size + 1 + 1) 31 (Gm.cells qbx (.slice none 0 0)) := Box.qaq _ _ _ (by simp)
 have b3 : Box (((w.alloc (.cells (Gm.cells g (.slice A n c)) 31)).alloc (.cells #[.int .i64 i] 3)).alloc (.cells (Gm.cells qbx (.slice none 0 0)) 31)) (w.heap.size + 1) 3 #[.int .i64 i] := (Box.qaq _ _ _ (by simp)).alloc _
 have hb0 := (qap w (.cells (Gm.cells g (.slice A n c)) 31) (.cells #[.int .i64 i] 3)).alloc (by simp <;> omega) (.cells (Gm.cells qbx (.slice none 0 0)) 31)
 have co := qh (qiA g A n c _ hn (by have := hg.2.2.1; omega) ((hr.below hb0).wider hb0.size))
 have cm := fun X (hX : Below w.heap.size w X) => qh (qgW g A n c X hg hn ((hr.below hX).wider hX.size))
 have cs := fun X => qh (qdr i (by omega) X)
 rw [decide_eq_true (show (0 : Int) <= i by omega), decide_eq_true (show (i : Int) < 8 by omega), Bool.and_self] at cs
 have q0 : (Gm.cells g (.slice A n c))[2 + i * 7]? = some (.bool true) := (Gm.qae g _ i 0 hi (by omega)).trans (by show some (Value.bool (g.ship i).on) = _; rw [ho])
 have hi8 : (i : Int) < 8 := by omega
 obtain ⟨t, ht⟩ : ∃ t, t = g.ship i := ⟨_, rfl⟩
 have r0 : ∀ s, (Gm.cells g s)[2 + i * 7]? = some (.bool t.on) := fun s => (Gm.qae g s i 0 hi (by omega)).trans (by rw [ht]; rfl)
 have r1 : ∀ s, (Gm.cells g s)[2 + i * 7 + 1]? = some (.int .i32 t.x) := fun s => (Gm.qae g s i 1 hi (by omega)).trans (by rw [ht]; rfl)
 have r2 : ∀ s, (Gm.cells g s)[2 + i * 7 + 2]? = some (.int .i32 t.y) := fun s => (Gm.qae g s i 2 hi (by omega)).trans (by rw [ht]; rfl)
 have r3 : ∀ s, (Gm.cells g s)[2 + i * 7 + 3]? = some (.int .i32 t.vx) := fun s => (Gm.qae g s i 3 hi (by omega)).trans (by rw [ht]; rfl)
 have r4 : ∀ s, (Gm.cells g s)[2 + i * 7 + 4]? = some (.int .i32 t.vy) := fun s => (Gm.qae g s i 4 hi (by omega)).trans (by rw [ht]; rfl)
 have r5 : ∀ s, (Gm.cells g s)[2 + i * 7 + 5]? = some (.int .i64 t.cool) := fun s => (Gm.qae g s i 5 hi (by omega)).trans (by rw [ht]; rfl)
 have r6 : ∀ s, (Gm.cells g s)[2 + i * 7 + 6]? = some (.int .i64 t.score) := fun s => (Gm.qae g s i 6 hi (by omega)).trans (by rw [ht]; rfl)
 have hN := qh hn
 have H0 := qh h0
 have hl32 := hg.2.2.1
 have HB := qh hb0
 have B1 := qh b1
 have B2 := qh b2
 have B3 := qh b3
 clear hr hn b1 b2 b3 hb0 ho hg ht h0
 go_enter Tryz.func122, Tryz.ntmps122
 go_upto_region 5 with (first | (refine qaK rfl rfl ?_) | ((with_reducible refine qaF rfl rfl ?_); apply qaN.mk rfl; (with_reducible exact B1.out)) | ((with_reducible refine qaF rfl rfl ?_); apply qaN.mk rfl; (with_reducible exact D1.out)) | ((with_reducible refine qaF rfl rfl ?_); apply qaN.mk rfl; exact F1.out) | (go_at_call 123; ((with_reducible refine (co.out).mono ?_); rintro e w1 ⟨A1, c1, rfl, ho1, hb1⟩; have HB1 := qh ((HB.out.trans (hb1.mono HB.out.size)).alloc (by have := hb1.size; simp at this; omega) (.cells (Gm.cells g (.slice A1 n c1)) 31)); have O1 := qh ((qbE (base' := w.heap.size) ho1 (by simp; omega)).alloc (.cells (Gm.cells g (.slice A1 n c1)) 31)); have D1 := qh ((B1.out.below hb1 (by simp <;> omega)).alloc (.cells (Gm.cells g (.slice A1 n c1)) 31)); have D2 := qh ((B2.out.below hb1 (by simp <;> omega)).alloc (.cells (Gm.cells g (.slice A1 n c1)) 31)); have D3 := qh ((B3.out.below hb1 (by simp <;> omega)).alloc (.cells (Gm.cells g (.slice A1 n c1)) 31)); have s1 : w.heap.size + 1 + 1 < w1.heap.size := (by have := hb1.size; simp at this; omega); have ho1H := qh ho1; clear ho1 hb1)) | (refine qaL rfl rfl rfl rfl rfl rfl ?_) | (go_at_call 124; ((with_reducible refine ((cm _ HB1.out).out).mono ?_); rintro e w2 ⟨rfl, hb2⟩; have HB2 := qh (HB1.out.trans (hb2.mono HB1.out.size)); have O2 := qh (own_below O1.out hb2 (Nat.le_refl _)); have F1 := qh ((Box.made w1 31 (Gm.cells g (.slice A1 n c1))).below hb2 (by simp)); have f1c := F1.out.cell; have f1f := F1.out.free; have H9 := qh ((qgd (w := w) hN.out (qbE (base' := w.heap.size) ho1H.out (by simp; omega))).call hb2); have E1 := (D1.out.below hb2 D1.out.lt).cell; have E3' := D3.out.below hb2 D3.out.lt; have E3 := E3'.cell; have E3H := qh E3'; have G2 := qh (D2.out.below hb2 D2.out.lt); clear hb2)) | (go_at_call 150; ((with_reducible refine ((cs _).out).mono ?_); rintro e w' ⟨rfl, rfl⟩)) | ((with_reducible refine qbq rfl rfl ?_); apply qbm.mk rfl rfl rfl; exact G2.out))
 have W5 : Has w.heap.size w1.heap.size { g with ship := Gm.upd g.ship i Gm.Ship.none } (stored w2 w1.heap.size i Gm.Ship.none) := H9.out.stored hi _
 have K5 := (Keep.refl (show w.heap.size <= w1.heap.size by omega) w2).stored (k := i) Gm.Ship.none
 obtain ⟨W, hW⟩ : ∃ W, W = stored w2 w1.heap.size i Gm.Ship.none := ⟨_, rfl⟩
 rw [<- hW] at W5 K5
 simp only [stored, Gm.Ship.none] at hW
 rw [<- hW]
 have ck := qh (qol { g with ship := Gm.upd g.ship i Gm.Ship.none } w.heap.size w1.heap.size (w.heap.size + 1) i W (by omega) W5 H0.out hl32 (E3H.out.keep K5 (by omega) (by decide)))
 have hmf : ∀ (fn : Fn) (first cap : Array Value) (w : World), (Instr.makeFunc fn first cap).run Tryz.prog w = .ok (.func fn first cap) w := fun _ _ _ _ => rfl
 have ne2 : w.heap.size + 1 + 1 ≠ w1.heap.size := by omega
 have R5 := qh (G2.out.keep K5 ne2 (by decide))
 have KK5 := qh (HB2.out.trans (K5.to HB2.out.size))
 clear hW W5 K5 E1 E3 f1c f1f r0 r1 r2 r3 r4 r5 r6
 go_wp2_with (first | (go_at_call 129; ((with_reducible refine (ck.out).mono ?_); rintro e w4 ⟨rfl, h4, k4⟩; obtain ⟨A4, c4, B4, O4⟩ := h4; have F4 := qh B4; have O4H := qh O4; have R4 := qh (R5.out.keep k4 ne2 (by decide)); have K4 := qh (KK5.out.trans (k4.to KK5.out.size)); clear B4 O4 k4)) | ((with_reducible refine qaF rfl rfl ?_); apply qaN.mk rfl; exact F4.out) | ((with_reducible refine qbq rfl rfl ?_); apply qbm.mk rfl rfl rfl; exact R4.out))
 refine bodyPost_ret (v := .tuple #[.agg (Gm.cells (Gm.remove g i) (.slice A4 (g.qaa.filter (oth i)).length c4)), .int .i64 0]) ?_ ?_ ?_
 · exact results_cell_tmp (p := 4) (q := 5) rfl _ _ _ _ (Gm.cells (Gm.remove g i) (.slice A4 (g.qaa.filter (oth i)).length c4)) _ rfl (Box.row R4.out _) Tryz.underlying31 rfl qbh
 · rfl
 · exact ⟨A4, c4, rfl, Lies.owned (qbi O4H.out (R4.out.qaM O4H.out (by decide)) _), Below.setRow' K4.out (by omega) _⟩
theorem qmq (g : Gm.G) (A : Option Addr) (n c i : Nat) (w : World) (hg : Gm.ok g) (hn : n = g.qaa.length) (hr : Lies w w.heap.size 6 A n (Gm.qad g.qaa)) (hi : i < 8) (ho : (g.ship i).on = true) :
 Calls Tryz.prog 122 #[.agg (Gm.cells g (.slice A n c)), .int .i64 i] w (Out (Gm.remove g i) 0 w) := by
 by_cases h0 : g.qaa.length = 0
 · have h0' : g.qaa = [] := List.eq_nil_of_length_eq_zero h0
   have e : Gm.remove g i = { g with ship := Gm.upd g.ship i Gm.Ship.none } := by unfold Gm.remove; rw [h0']; rfl
   rw [e]
   exact qmp g A n c i w hg hn hr hi ho h0'
 · exact qjo g A n c i w hg hn hr hi ho h0
attribute [local go_sem] Oper.semAt_some
section
variable {B Bg Bf Bl : Nat} {w0 W W' : World} {r : Ros.R} {st : Int × Int}
end
section
variable {B Bg Bm m : Nat} {w0 W W' : World} {r : Ros.R}
end
end Go.Proofs.YtmiopphcfdlneaaGreat
namespace Go.Proofs.YtmiopphcfdlneaaGreat
open Go.RowKit Go.Shelf
theorem qcN (r : Ros.R) (s : Int) (w : World) :
 Calls Tryz.prog 175 #[.agg (Ros.cells r), .int .i64 s] w fun e w' => e = .returned (.bool (decide ((Ros.Ok r /\ r.version < 1073741824) /\ 0 <= s /\ s < 8))) /\ Below w.heap.size w w' := by
 have cm := fun X => qh (qfj r X)
 have cs := fun X => qh (qdx s X)
 have P0 := qh (Box.made w 36 (Ros.cells r))
 have PB := qh (qac w (.cells (Ros.cells r) 36))
 have c0 := Ros.qa1 r
 by_cases hok : Ros.Ok r
 · have hmay : Ros.may r = true := decide_eq_true hok
   rw [hmay] at cm
   by_cases hv : r.version < 1073741824
   · have dv : decide (r.version < 1073741824) = true := decide_eq_true hv
     by_cases hs : 0 <= s /\ s < 8
     · rw [decide_eq_true hs] at cs
       have HD : Hid (decide ((Ros.Ok r /\ r.version < 1073741824) /\ 0 <= s /\ s < 8) = true) := qh (decide_eq_true ⟨⟨hok, hv⟩, hs⟩)
       clear hok hmay hv hs
       go_enter Tryz.func175, Tryz.ntmps175
       go_wp2_with (first | ((with_reducible refine qav rfl rfl ?_); apply qas.mk rfl; (focus (with_reducible exact P0.out)); (focus (exact qah))) | (go_at_call 167; ((with_reducible refine ((cm _).out).mono ?_); rintro e w1 ⟨rfl, hb1⟩; have Q0 := qh (P0.out.below hb1 P0.out.lt); have QB := qh (PB.out.trans (hb1.mono PB.out.size)); have q0 := Q0.out.cell; clear hb1)) | (go_at_call 148; ((with_reducible refine ((cs _).out).mono ?_); rintro e w2 ⟨rfl, rfl⟩)))
       go_ret
       exact ⟨by rw [HD.out]; rfl, QB.out⟩
     · rw [decide_eq_false hs] at cs
       have HD : Hid (decide ((Ros.Ok r /\ r.version < 1073741824) /\ 0 <= s /\ s < 8) = false) := qh (decide_eq_false fun h => hs h.2)
       clear hok hmay hv hs
       go_enter Tryz.func175, Tryz.ntmps175
       go_wp2_with (first | ((with_reducible refine qav rfl rfl ?_); apply qas.mk rfl; (focus (with_reducible exact P0.out)); (focus (exact qah))) | (go_at_call 167; ((with_reducible refine ((cm _).out).mono ?_); rintro e w1 ⟨rfl, hb1⟩; have Q0 := qh (P0.out.below hb1 P0.out.lt); have QB := qh (PB.out.trans (hb1.mono PB.out.size)); have q0 := Q0.out.cell; clear hb1)) | (go_at_call 148; ((with_reducible refine ((cs _).out).mono ?_); rintro e w2 ⟨rfl, rfl⟩)))
       go_ret
       exact ⟨by rw [HD.out]; rfl, QB.out⟩
   · have dv : decide (r.version < 1073741824) = false := decide_eq_false hv
     have HD : Hid (decide ((Ros.Ok r /\ r.version < 1073741824) /\ 0 <= s /\ s < 8) = false) := qh (decide_eq_false fun h => hv h.1.2)
     clear hok hmay hv
     go_enter Tryz.func175, Tryz.ntmps175
     go_wp2_with (first | ((with_reducible refine qav rfl rfl ?_); apply qas.mk rfl; (focus (with_reducible exact P0.out)); (focus (exact qah))) | (go_at_call 167; ((with_reducible refine ((cm _).out).mono ?_); rintro e w1 ⟨rfl, hb1⟩; have Q0 := qh (P0.out.below hb1 P0.out.lt); have QB := qh (PB.out.trans (hb1.mono PB.out.size)); have q0 := Q0.out.cell; clear hb1)) | (go_at_call 148; ((with_reducible refine ((cs _).out).mono ?_); rintro e w2 ⟨rfl, rfl⟩)))
     go_ret
     exact ⟨by rw [HD.out]; rfl, QB.out⟩
 · have hmay : Ros.may r = false := decide_eq_false hok
   rw [hmay] at cm
   have HD : Hid (decide ((Ros.Ok r /\ r.version < 1073741824) /\ 0 <= s /\ s < 8) = false) := qh (decide_eq_false fun h => hok h.1.1)
   clear hok hmay
   go_enter Tryz.func175, Tryz.ntmps175
   go_wp2_with (first | ((with_reducible refine qav rfl rfl ?_); apply qas.mk rfl; (focus (with_reducible exact P0.out)); (focus (exact qah))) | (go_at_call 167; ((with_reducible refine ((cm _).out).mono ?_); rintro e w1 ⟨rfl, hb1⟩; have Q0 := qh (P0.out.below hb1 P0.out.lt); have QB := qh (PB.out.trans (hb1.mono PB.out.size)); have q0 := Q0.out.cell; clear hb1)) | (go_at_call 148; ((with_reducible refine ((cs _).out).mono ?_); rintro e w2 ⟨rfl, rfl⟩)))
   go_ret
   exact ⟨by rw [HD.out]; rfl, QB.out⟩
theorem Box.rosv {w : World} {B : Nat} {r : Ros.R} (h : Box w B 36 (Ros.cells r)) (v : Int) : Box (w.setCell ⟨B, 0, none⟩ (.int .i64 v)) B 36 (Ros.cells { r with version := v }) := Ros.qm6 r v ▸ h.put 0 _
theorem Box.rosp {w : World} {B k : Nat} {r : Ros.R} (h : Box w B 36 (Ros.cells r)) (hk : k < 8) (v : Int) : Box (w.setCell ⟨B, 1 + k * 2, none⟩ (.int .i64 v)) B 36 (Ros.cells { r with peer := Ros.upd r.peer k v }) := Ros.qh4 r k hk v ▸ h.put _ _
theorem Box.rosg {w : World} {B k : Nat} {r : Ros.R} (h : Box w B 36 (Ros.cells r)) (hk : k < 8) (v : Int) : Box (w.setCell ⟨B, 1 + k * 2 + 1, none⟩ (.int .i64 v)) B 36 (Ros.cells { r with gen := Ros.upd r.gen k v }) := Ros.qm7 r k hk v ▸ h.put _ _
theorem qmh (r : Ros.R) (s : Int) (w : World) (hno : ¬ Ros.qck r s) :
 Calls Tryz.prog 149 #[.agg (Ros.cells r), .int .i64 s] w fun e w' => e = .returned (.tuple #[.agg (Ros.cells r), .int .i64 1]) /\ Below w.heap.size w w' := by
 have cc := fun X => qh (qcN r s X)
 have P0 := qh ((Box.made w 36 (Ros.cells r)).alloc (.cells (Ros.cells qau) 36))
 have P1 := qh (Box.qaq (n := w.heap.size + 1) (w.alloc (.cells (Ros.cells r) 36)) 36 (Ros.cells qau) (by simp))
 have PB := qh (qap w (.cells (Ros.cells r) 36) (.cells (Ros.cells qau) 36))
 have c0 := Ros.qa1 r
 by_cases hch : (Ros.Ok r /\ r.version < 1073741824) /\ 0 <= s /\ s < 8
 · rw [decide_eq_true hch] at cc
   have hp : r.peer s.toNat = -1 := Decidable.byContradiction fun h => hno ⟨hch, h⟩
   obtain ⟨k, rfl⟩ : ∃ k : Nat, s = k := ⟨s.toNat, by omega⟩
   have hk : k < 8 := by omega
   have hk8 : (k : Int) < 8 := by omega
   have cpk := Ros.qaQ r k hk
   rw [show r.peer k = -1 from hp] at cpk
   clear hch hp hno
   go_enter Tryz.func149, Tryz.ntmps149
   go_wp2_with (first | ((with_reducible refine qaU rfl rfl ?_)) | ((with_reducible refine qav rfl rfl ?_); apply qas.mk rfl; (focus (with_reducible exact P0.out)); (focus (exact qah))) | (go_at_call 175; ((with_reducible refine ((cc _).out).mono ?_); rintro e w1 ⟨rfl, hb⟩; have Q0 := qh (P0.out.below hb P0.out.lt); have Q1 := qh (P1.out.below hb P1.out.lt); have QB := qh (PB.out.trans (hb.mono PB.out.size)); have q0 := Q0.out.cell; have qf := Q0.out.free; clear hb)) | ((with_reducible refine qav rfl rfl ?_); apply qas.mk rfl; (focus (with_reducible exact Q0.out)); (focus (exact qah))) | ((with_reducible refine qa5 rfl rfl ?_); apply qa6.mk rfl rfl; (focus (with_reducible exact Q1.out)); (focus (exact qah)); (focus rfl); (focus (exact qbr _))))
   have hE := Q1.out.row (Ros.cells r)
   refine bodyPost_ret (v := .tuple #[.agg (Ros.cells r), .int .i64 1]) ?_ rfl ?_
   · exact results_cell_tmp (p := 4) (q := 5) rfl _ _ _ _ (Ros.cells r) _ rfl hE Tryz.underlying36 rfl qah
   · exact ⟨rfl, Below.setRow' QB.out (by omega) _⟩
 · rw [decide_eq_false hch] at cc
   clear hch hno
   go_enter Tryz.func149, Tryz.ntmps149
   go_wp2_with (first | ((with_reducible refine qaU rfl rfl ?_)) | ((with_reducible refine qav rfl rfl ?_); apply qas.mk rfl; (focus (with_reducible exact P0.out)); (focus (exact qah))) | (go_at_call 175; ((with_reducible refine ((cc _).out).mono ?_); rintro e w1 ⟨rfl, hb⟩; have Q0 := qh (P0.out.below hb P0.out.lt); have Q1 := qh (P1.out.below hb P1.out.lt); have QB := qh (PB.out.trans (hb.mono PB.out.size)); have q0 := Q0.out.cell; have qf := Q0.out.free; clear hb)) | ((with_reducible refine qav rfl rfl ?_); apply qas.mk rfl; (focus (with_reducible exact Q0.out)); (focus (exact qah))) | ((with_reducible refine qa5 rfl rfl ?_); apply qa6.mk rfl rfl; (focus (with_reducible exact Q1.out)); (focus (exact qah)); (focus rfl); (focus (exact qbr _))))
   have hE := Q1.out.row (Ros.cells r)
   refine bodyPost_ret (v := .tuple #[.agg (Ros.cells r), .int .i64 1]) ?_ rfl ?_
   · exact results_cell_tmp (p := 4) (q := 5) rfl _ _ _ _ (Ros.cells r) _ rfl hE Tryz.underlying36 rfl qah
   · exact ⟨rfl, Below.setRow' QB.out (by omega) _⟩
theorem qkC (r : Ros.R) (k : Nat) (w : World) (hyes : Ros.qck r k) :
 Calls Tryz.prog 149 #[.agg (Ros.cells r), .int .i64 k] w fun e w' => e = .returned (.tuple #[.agg (Ros.cells (Ros.give r k)), .int .i64 0]) /\ Below w.heap.size w w' := by
 have cc := fun X => qh (qcN r k X)
 have P0 := qh ((Box.made w 36 (Ros.cells r)).alloc (.cells (Ros.cells qau) 36))
 have P1 := qh (Box.qaq (n := w.heap.size + 1) (w.alloc (.cells (Ros.cells r) 36)) 36 (Ros.cells qau) (by simp))
 have PB := qh (qap w (.cells (Ros.cells r) 36) (.cells (Ros.cells qau) 36))
 have c0 := Ros.qa1 r
 obtain ⟨hch, hp⟩ := hyes
 rw [decide_eq_true hch] at cc
 have hk : k < 8 := by omega
 have hk8 : (k : Int) < 8 := by omega
 have cpk := Ros.qaQ r k hk
 obtain ⟨pk, hpk⟩ : ∃ pk, r.peer k = pk := ⟨_, rfl⟩
 have hp' : r.peer k ≠ -1 := hp
 rw [hpk] at cpk hp'
 have hb : (pk == -1) = false := by simpa using hp'
 have hwrap : IntKind.i64.wrap (r.version + 1) = r.version + 1 := by rw [IntKind.wrap_i64]; have := hch.1.1.1; omega
 clear hch hp hp' hpk
 go_enter Tryz.func149, Tryz.ntmps149
 go_upto_region 5 with (first | ((with_reducible refine qaU rfl rfl ?_)) | ((with_reducible refine qav rfl rfl ?_); apply qas.mk rfl; (focus (with_reducible exact P0.out)); (focus (exact qah))) | (go_at_call 175; ((with_reducible refine ((cc _).out).mono ?_); rintro e w1 ⟨rfl, hb⟩; have Q0 := qh (P0.out.below hb P0.out.lt); have Q1 := qh (P1.out.below hb P1.out.lt); have QB := qh (PB.out.trans (hb.mono PB.out.size)); have q0 := Q0.out.cell; have qf := Q0.out.free; clear hb)))
 obtain ⟨U, hU⟩ : ∃ U, U = (w1.setCell ⟨w.heap.size, 1 + k * 2, none⟩ (.int .i64 (-1))).setCell ⟨w.heap.size, 0, none⟩ (.int .i64 (r.version + 1)) := ⟨_, rfl⟩
 have U0 : Box U w.heap.size 36 (Ros.cells (Ros.give r k)) := by rw [hU]; exact (Q0.out.rosp hk (-1)).rosv _
 have U1 : Box U (w.heap.size + 1) 36 (Ros.cells qau) := by rw [hU]; exact (Q1.out.far (by show _ ≠ _; simp) _).far (by show _ ≠ _; simp) _
 have UB : Below w.heap.size w U := by rw [hU]; exact (QB.out.setCell (Nat.le_refl _) _).setCell (Nat.le_refl _) _
 rw [<- hU]
 have V0 := qh U0
 have V1 := qh U1
 have VB := qh UB
 clear hU U0 U1 UB Q0 Q1 QB q0 qf
 go_wp2_with (first | ((with_reducible refine qav rfl rfl ?_); apply qas.mk rfl; (focus (with_reducible exact V0.out)); (focus (exact qah))) | ((with_reducible refine qa5 rfl rfl ?_); apply qa6.mk rfl rfl; (focus (with_reducible exact V1.out)); (focus (exact qah)); (focus rfl); (focus (exact qbr _))))
 have hE := V1.out.row (Ros.cells (Ros.give r k))
 refine bodyPost_ret (v := .tuple #[.agg (Ros.cells (Ros.give r k)), .int .i64 0]) ?_ rfl ?_
 · exact results_cell_tmp (p := 4) (q := 5) rfl _ _ _ _ (Ros.cells (Ros.give r k)) _ rfl hE Tryz.underlying36 rfl qah
 · exact ⟨rfl, Below.setRow' VB.out (by omega) _⟩
theorem qmg (r : Ros.R) (s p : Int) (w : World) (hno : ¬ Ros.qbS r s p) :
 Calls Tryz.prog 147 #[.agg (Ros.cells r), .int .i64 s, .int .i64 p] w fun e w' => e = .returned (.tuple #[.agg (Ros.cells r), .int .i64 1]) /\ Below w.heap.size w w' := by
 have cc := fun X => qh (qcN r s X)
 have cp := fun X => qh (qdy p X)
 have co := fun X => qh (qji r p X)
 have P0 := qh ((Box.made w 36 (Ros.cells r)).alloc (.cells (Ros.cells qau) 36))
 have P1 := qh (Box.qaq (n := w.heap.size + 1) (w.alloc (.cells (Ros.cells r) 36)) 36 (Ros.cells qau) (by simp))
 have PB := qh (qap w (.cells (Ros.cells r) 36) (.cells (Ros.cells qau) 36))
 have c0 := Ros.qa1 r
 by_cases hch : (Ros.Ok r /\ r.version < 1073741824) /\ 0 <= s /\ s < 8
 · rw [decide_eq_true hch] at cc
   by_cases hp : 0 <= p /\ p < 12
   · rw [decide_eq_true hp] at cp
     by_cases ho : Ros.of r p = -1
     · rw [ho] at co
       obtain ⟨k, rfl⟩ : ∃ k : Nat, s = k := ⟨s.toNat, by omega⟩
       have hk : k < 8 := by omega
       have hk8 : (k : Int) < 8 := by omega
       have cpk := Ros.qaQ r k hk
       have cgk := Ros.qbs r k hk
       by_cases hpk : r.peer k = -1
       · have hgk : r.gen k = 60000 := Decidable.byContradiction fun h => hno ⟨⟨hch, hp, ho⟩, hpk, h⟩
         rw [hpk] at cpk
         rw [hgk] at cgk
         clear hno hch hp ho hpk hgk
         go_enter Tryz.func147, Tryz.ntmps147
         go_wp2_with (first | ((with_reducible refine qaU rfl rfl ?_)) | ((with_reducible refine qav rfl rfl ?_); apply qas.mk rfl; (focus (with_reducible exact P0.out)); (focus (exact qah))) | (go_at_call 175; ((with_reducible refine ((cc _).out).mono ?_); rintro e w1 ⟨rfl, hb⟩; have Q0 := qh (P0.out.below hb P0.out.lt); have Q1 := qh (P1.out.below hb P1.out.lt); have QB := qh (PB.out.trans (hb.mono PB.out.size)); have q0 := Q0.out.cell; have qf := Q0.out.free; clear hb)) | (go_at_call 176; ((with_reducible refine ((cp _).out).mono ?_); rintro e w9 ⟨rfl, rfl⟩)) | (go_at_call 177; ((with_reducible refine ((co _).out).mono ?_); rintro e w2 ⟨rfl, hb⟩; have S0 := qh (Q0.out.below hb Q0.out.lt); have S1 := qh (Q1.out.below hb Q1.out.lt); have SB := qh (QB.out.trans (hb.mono QB.out.size)); have s0 := S0.out.cell; have sf := S0.out.free; clear hb)) | ((with_reducible refine qb6 ?_ rfl ?_); (focus first | rfl | kernel_rfl | simp [Region.wanted, yielded]); apply qas.mk rfl; (focus (with_reducible exact Q0.out)); (focus (exact qah))) | ((with_reducible refine qav rfl rfl ?_); apply qas.mk rfl; (focus (with_reducible exact S0.out)); (focus (exact qah))) | ((with_reducible refine qa5 rfl rfl ?_); apply qa6.mk rfl rfl; (focus (with_reducible exact S1.out)); (focus (exact qah)); (focus rfl); (focus (exact qbr _))))
         have hE := S1.out.row (Ros.cells r)
         refine bodyPost_ret (v := .tuple #[.agg (Ros.cells r), .int .i64 1]) ?_ rfl ?_
         · exact results_cell_tmp (p := 6) (q := 7) rfl _ _ _ _ (Ros.cells r) _ rfl hE Tryz.underlying36 rfl qah
         · exact ⟨rfl, Below.setRow' SB.out (by omega) _⟩
       · obtain ⟨pk, hpe⟩ : ∃ pk, r.peer k = pk := ⟨_, rfl⟩
         rw [hpe] at cpk hpk
         have hb : (pk == -1) = false := by simpa using hpk
         have hb' : (pk != -1) = true := by simpa using hpk
         clear hno hch hp ho hpk hpe
         go_enter Tryz.func147, Tryz.ntmps147
         go_wp2_with (first | ((with_reducible refine qaU rfl rfl ?_)) | ((with_reducible refine qav rfl rfl ?_); apply qas.mk rfl; (focus (with_reducible exact P0.out)); (focus (exact qah))) | (go_at_call 175; ((with_reducible refine ((cc _).out).mono ?_); rintro e w1 ⟨rfl, hb⟩; have Q0 := qh (P0.out.below hb P0.out.lt); have Q1 := qh (P1.out.below hb P1.out.lt); have QB := qh (PB.out.trans (hb.mono PB.out.size)); have q0 := Q0.out.cell; have qf := Q0.out.free; clear hb)) | (go_at_call 176; ((with_reducible refine ((cp _).out).mono ?_); rintro e w9 ⟨rfl, rfl⟩)) | (go_at_call 177; ((with_reducible refine ((co _).out).mono ?_); rintro e w2 ⟨rfl, hb⟩; have S0 := qh (Q0.out.below hb Q0.out.lt); have S1 := qh (Q1.out.below hb Q1.out.lt); have SB := qh (QB.out.trans (hb.mono QB.out.size)); have s0 := S0.out.cell; have sf := S0.out.free; clear hb)) | ((with_reducible refine qb6 ?_ rfl ?_); (focus first | rfl | kernel_rfl | simp [Region.wanted, yielded]); apply qas.mk rfl; (focus (with_reducible exact Q0.out)); (focus (exact qah))) | ((with_reducible refine qav rfl rfl ?_); apply qas.mk rfl; (focus (with_reducible exact S0.out)); (focus (exact qah))) | ((with_reducible refine qa5 rfl rfl ?_); apply qa6.mk rfl rfl; (focus (with_reducible exact S1.out)); (focus (exact qah)); (focus rfl); (focus (exact qbr _))))
         have hE := S1.out.row (Ros.cells r)
         refine bodyPost_ret (v := .tuple #[.agg (Ros.cells r), .int .i64 1]) ?_ rfl ?_
         · exact results_cell_tmp (p := 6) (q := 7) rfl _ _ _ _ (Ros.cells r) _ rfl hE Tryz.underlying36 rfl qah
         · exact ⟨rfl, Below.setRow' SB.out (by omega) _⟩
     · have hb' : (Ros.of r p != -1) = true := by simpa using ho
       generalize Ros.of r p = o at co hb'
       clear hno hch hp ho
       go_enter Tryz.func147, Tryz.ntmps147
       go_wp2_with (first | ((with_reducible refine qaU rfl rfl ?_)) | ((with_reducible refine qav rfl rfl ?_); apply qas.mk rfl; (focus (with_reducible exact P0.out)); (focus (exact qah))) | (go_at_call 175; ((with_reducible refine ((cc _).out).mono ?_); rintro e w1 ⟨rfl, hb⟩; have Q0 := qh (P0.out.below hb P0.out.lt); have Q1 := qh (P1.out.below hb P1.out.lt); have QB := qh (PB.out.trans (hb.mono PB.out.size)); have q0 := Q0.out.cell; have qf := Q0.out.free; clear hb)) | (go_at_call 176; ((with_reducible refine ((cp _).out).mono ?_); rintro e w9 ⟨rfl, rfl⟩)) | (go_at_call 177; ((with_reducible refine ((co _).out).mono ?_); rintro e w2 ⟨rfl, hb⟩; have S0 := qh (Q0.out.below hb Q0.out.lt); have S1 := qh (Q1.out.below hb Q1.out.lt); have SB := qh (QB.out.trans (hb.mono QB.out.size)); have s0 := S0.out.cell; have sf := S0.out.free; clear hb)) | ((with_reducible refine qb6 ?_ rfl ?_); (focus first | rfl | kernel_rfl | simp [Region.wanted, yielded]); apply qas.mk rfl; (focus (with_reducible exact Q0.out)); (focus (exact qah))) | ((with_reducible refine qav rfl rfl ?_); apply qas.mk rfl; (focus (with_reducible exact S0.out)); (focus (exact qah))) | ((with_reducible refine qa5 rfl rfl ?_); apply qa6.mk rfl rfl; (focus (with_reducible exact S1.out)); (focus (exact qah)); (focus rfl); (focus (exact qbr _))))
       have hE := S1.out.row (Ros.cells r)
       refine bodyPost_ret (v := .tuple #[.agg (Ros.cells r), .int .i64 1]) ?_ rfl ?_
       · exact results_cell_tmp (p := 6) (q := 7) rfl _ _ _ _ (Ros.cells r) _ rfl hE Tryz.underlying36 rfl qah
       · exact ⟨rfl, Below.setRow' SB.out (by omega) _⟩
   · rw [decide_eq_false hp] at cp
     clear hno hch hp
     go_enter Tryz.func147, Tryz.ntmps147
     go_wp2_with (first | ((with_reducible refine qaU rfl rfl ?_)) | ((with_reducible refine qav rfl rfl ?_); apply qas.mk rfl; (focus (with_reducible exact P0.out)); (focus (exact qah))) | (go_at_call 175; ((with_reducible refine ((cc _).out).mono ?_); rintro e w1 ⟨rfl, hb⟩; have Q0 := qh (P0.out.below hb P0.out.lt); have Q1 := qh (P1.out.below hb P1.out.lt); have QB := qh (PB.out.trans (hb.mono PB.out.size)); have q0 := Q0.out.cell; have qf := Q0.out.free; clear hb)) | (go_at_call 176; ((with_reducible refine ((cp _).out).mono ?_); rintro e w9 ⟨rfl, rfl⟩)) | ((with_reducible refine qav rfl rfl ?_); apply qas.mk rfl; (focus (with_reducible exact Q0.out)); (focus (exact qah))) | ((with_reducible refine qa5 rfl rfl ?_); apply qa6.mk rfl rfl; (focus (with_reducible exact Q1.out)); (focus (exact qah)); (focus rfl); (focus (exact qbr _))))
     have hE := Q1.out.row (Ros.cells r)
     refine bodyPost_ret (v := .tuple #[.agg (Ros.cells r), .int .i64 1]) ?_ rfl ?_
     · exact results_cell_tmp (p := 6) (q := 7) rfl _ _ _ _ (Ros.cells r) _ rfl hE Tryz.underlying36 rfl qah
     · exact ⟨rfl, Below.setRow' QB.out (by omega) _⟩
 · rw [decide_eq_false hch] at cc
   clear hch hno
   go_enter Tryz.func147, Tryz.ntmps147
   go_wp2_with (first | ((with_reducible refine qaU rfl rfl ?_)) | ((with_reducible refine qav rfl rfl ?_); apply qas.mk rfl; (focus (with_reducible exact P0.out)); (focus (exact qah))) | (go_at_call 175; ((with_reducible refine ((cc _).out).mono ?_); rintro e w1 ⟨rfl, hb⟩; have Q0 := qh (P0.out.below hb P0.out.lt); have Q1 := qh (P1.out.below hb P1.out.lt); have QB := qh (PB.out.trans (hb.mono PB.out.size)); have q0 := Q0.out.cell; have qf := Q0.out.free; clear hb)) | ((with_reducible refine qav rfl rfl ?_); apply qas.mk rfl; (focus (with_reducible exact Q0.out)); (focus (exact qah))) | ((with_reducible refine qa5 rfl rfl ?_); apply qa6.mk rfl rfl; (focus (with_reducible exact Q1.out)); (focus (exact qah)); (focus rfl); (focus (exact qbr _))))
   have hE := Q1.out.row (Ros.cells r)
   refine bodyPost_ret (v := .tuple #[.agg (Ros.cells r), .int .i64 1]) ?_ rfl ?_
   · exact results_cell_tmp (p := 6) (q := 7) rfl _ _ _ _ (Ros.cells r) _ rfl hE Tryz.underlying36 rfl qah
   · exact ⟨rfl, Below.setRow' QB.out (by omega) _⟩
theorem qgD (r : Ros.R) (k : Nat) (p : Int) (w : World) (hyes : Ros.qbS r k p) :
 Calls Tryz.prog 147 #[.agg (Ros.cells r), .int .i64 k, .int .i64 p] w fun e w' => e = .returned (.tuple #[.agg (Ros.cells (Ros.take r k p)), .int .i64 0]) /\ Below w.heap.size w w' := by
 have cc := fun X => qh (qcN r k X)
 have cp := fun X => qh (qdy p X)
 have co := fun X => qh (qji r p X)
 have P0 := qh ((Box.made w 36 (Ros.cells r)).alloc (.cells (Ros.cells qau) 36))
 have P1 := qh (Box.qaq (n := w.heap.size + 1) (w.alloc (.cells (Ros.cells r) 36)) 36 (Ros.cells qau) (by simp))
 have PB := qh (qap w (.cells (Ros.cells r) 36) (.cells (Ros.cells qau) 36))
 have c0 := Ros.qa1 r
 obtain ⟨⟨hch, hp, ho⟩, hpk, hgk⟩ := hyes
 rw [decide_eq_true hch] at cc
 rw [decide_eq_true hp] at cp
 rw [ho] at co
 have hk : k < 8 := by omega
 have hk8 : (k : Int) < 8 := by omega
 have cpk := Ros.qaQ r k hk
 have cgk := Ros.qbs r k hk
 rw [show r.peer k = -1 from hpk] at cpk
 have hgk' : r.gen k ≠ 60000 := hgk
 have hgb := (Ros.Ok.seat hch.1.1 k hk).1
 obtain ⟨gk, hge⟩ : ∃ gk, r.gen k = gk := ⟨_, rfl⟩
 have HGE := qh hge
 rw [hge] at cgk hgk' hgb
 have hb : (gk == 60000) = false := by simpa using hgk'
 have hwg : IntKind.i64.wrap (gk + 1) = gk + 1 := by rw [IntKind.wrap_i64]; omega
 have hwrap : IntKind.i64.wrap (r.version + 1) = r.version + 1 := by rw [IntKind.wrap_i64]; have := hch.1.1.1; omega
 clear hch hp ho hpk hgk hgk' hge hgb
 go_enter Tryz.func147, Tryz.ntmps147
 go_upto_region 9 with (first | ((with_reducible refine qaU rfl rfl ?_)) | ((with_reducible refine qav rfl rfl ?_); apply qas.mk rfl; (focus (with_reducible exact P0.out)); (focus (exact qah))) | (go_at_call 175; ((with_reducible refine ((cc _).out).mono ?_); rintro e w1 ⟨rfl, hb⟩; have Q0 := qh (P0.out.below hb P0.out.lt); have Q1 := qh (P1.out.below hb P1.out.lt); have QB := qh (PB.out.trans (hb.mono PB.out.size)); have q0 := Q0.out.cell; have qf := Q0.out.free; clear hb)) | (go_at_call 176; ((with_reducible refine ((cp _).out).mono ?_); rintro e w9 ⟨rfl, rfl⟩)) | (go_at_call 177; ((with_reducible refine ((co _).out).mono ?_); rintro e w2 ⟨rfl, hb⟩; have S0 := qh (Q0.out.below hb Q0.out.lt); have S1 := qh (Q1.out.below hb Q1.out.lt); have SB := qh (QB.out.trans (hb.mono QB.out.size)); have s0 := S0.out.cell; have sf := S0.out.free; clear hb)) | ((with_reducible refine qb6 ?_ rfl ?_); (focus first | rfl | kernel_rfl | simp [Region.wanted, yielded]); apply qas.mk rfl; (focus (with_reducible exact Q0.out)); (focus (exact qah))))
 obtain ⟨U, hU⟩ : ∃ U, U = ((w2.setCell ⟨w.heap.size, 1 + k * 2, none⟩ (.int .i64 p)).setCell ⟨w.heap.size, 1 + k * 2 + 1, none⟩ (.int .i64 (gk + 1))).setCell ⟨w.heap.size, 0, none⟩ (.int .i64 (r.version + 1)) := ⟨_, rfl⟩
 have U0 : Box U w.heap.size 36 (Ros.cells (Ros.take r k p)) := by rw [hU]; unfold Ros.take; rw [HGE.out]; exact ((S0.out.rosp hk p).rosg hk _).rosv _
 have U1 : Box U (w.heap.size + 1) 36 (Ros.cells qau) := by rw [hU]; exact ((S1.out.far (by show _ ≠ _; simp) _).far (by show _ ≠ _; simp) _).far (by show _ ≠ _; simp) _
 have UB : Below w.heap.size w U := by rw [hU]; exact ((SB.out.setCell (Nat.le_refl _) _).setCell (Nat.le_refl _) _).setCell (Nat.le_refl _) _
 rw [<- hU]
 have V0 := qh U0
 have V1 := qh U1
 have VB := qh UB
 clear hU U0 U1 UB S0 S1 SB s0 sf Q0 Q1 QB q0 qf
 go_wp2_with (first | ((with_reducible refine qav rfl rfl ?_); apply qas.mk rfl; (focus (with_reducible exact V0.out)); (focus (exact qah))) | ((with_reducible refine qa5 rfl rfl ?_); apply qa6.mk rfl rfl; (focus (with_reducible exact V1.out)); (focus (exact qah)); (focus rfl); (focus (exact qbr _))))
 have hE := V1.out.row (Ros.cells (Ros.take r k p))
 refine bodyPost_ret (v := .tuple #[.agg (Ros.cells (Ros.take r k p)), .int .i64 0]) ?_ rfl ?_
 · exact results_cell_tmp (p := 6) (q := 7) rfl _ _ _ _ (Ros.cells (Ros.take r k p)) _ rfl hE Tryz.underlying36 rfl qah
 · exact ⟨rfl, Below.setRow' VB.out (by omega) _⟩
theorem qfl (r : Ros.R) (k : Nat) (g p : Int) (w : World) (h : Ros.qbS r k p) (hg : g = r.gen k + 1) :
 Calls Tryz.prog 120 #[.agg (Ros.cells r), .agg #[.int .i64 1, .int .i64 k, .int .i64 g, .int .i64 p]] w fun e w' => e = .returned (.tuple #[.agg (Ros.cells (Ros.take r k p)), .int .i64 0]) /\ Below w.heap.size w w' := by
 have ct := fun X => qh (qgD r k p X h)
 have P0 := qh (((Box.made w 36 (Ros.cells r)).alloc (.cells #[.int .i64 1, .int .i64 k, .int .i64 g, .int .i64 p] 76)).alloc (.cells (Ros.cells qau) 36))
 have P1 := qh ((Box.qaq (n := w.heap.size + 1) (w.alloc (.cells (Ros.cells r) 36)) 76 #[.int .i64 1, .int .i64 k, .int .i64 g, .int .i64 p] (by simp)).alloc (.cells (Ros.cells qau) 36))
 have P2 := qh (Box.qaq (n := w.heap.size + 1 + 1) ((w.alloc (.cells (Ros.cells r) 36)).alloc (.cells #[.int .i64 1, .int .i64 k, .int .i64 g, .int .i64 p] 76)) 36 (Ros.cells qau) (by simp))
 have PB := qh ((qap w (.cells (Ros.cells r) 36) (.cells #[.int .i64 1, .int .i64 k, .int .i64 g, .int .i64 p] 76)).alloc (by simp <;> omega) (.cells (Ros.cells qau) 36))
 have hk : k < 8 := by have := h.1.1.2; omega
 have hk8 : (k : Int) < 8 := by omega
 have cgk := Ros.qbs (Ros.take r k p) k hk
 rw [show (Ros.take r k p).gen k = r.gen k + 1 from Ros.upd_same _ _ _] at cgk
 obtain ⟨g', hg'⟩ : ∃ g', g' = r.gen k + 1 := ⟨_, rfl⟩
 rw [<- hg'] at cgk hg
 subst hg
 clear h hg'
 have p1 := P1.out.cell
 go_enter Tryz.func120, Tryz.ntmps120
 go_upto_region 4 with (first | ((with_reducible refine qaU rfl rfl ?_)) | ((with_reducible refine qaZ rfl rfl rfl rfl rfl ?_)) | ((with_reducible refine qav rfl rfl ?_); apply qas.mk rfl; (focus (with_reducible exact P0.out)); (focus (exact qah))) | (go_at_call 147; ((with_reducible refine ((ct _).out).mono ?_); rintro e w1 ⟨rfl, hb⟩; have Q0 := qh ((P0.out.below hb P0.out.lt).alloc (.cells (Ros.cells (Ros.take r k p)) 36)); have Q1 := qh ((P1.out.below hb P1.out.lt).alloc (.cells (Ros.cells (Ros.take r k p)) 36)); have Q2 := qh ((P2.out.below hb P2.out.lt).alloc (.cells (Ros.cells (Ros.take r k p)) 36)); have QB := qh (PB.out.trans (hb.mono PB.out.size)); have q1 := Q1.out.cell; clear hb)))
 have N0 := qh (Box.made w1 36 (Ros.cells (Ros.take r k p)))
 have n0 := N0.out.cell
 have NB := qh (QB.out.alloc QB.out.size (.cells (Ros.cells (Ros.take r k p)) 36))
 go_quiet (fail)
 go_wp2_with (first | ((with_reducible refine qav rfl rfl ?_); apply qas.mk rfl; (focus (with_reducible exact N0.out.draws _)); (focus (exact qah))) | ((with_reducible refine qa5 rfl rfl ?_); apply qa6.mk rfl rfl; (focus (with_reducible exact Q2.out.draws _)); (focus (exact qah)); (focus rfl); (focus (exact qbr _))))
 have hE := (Q2.out.draws nq).row (Ros.cells (Ros.take r k p))
 refine bodyPost_ret (v := .tuple #[.agg (Ros.cells (Ros.take r k p)), .int .i64 0]) ?_ rfl ?_
 · exact results_cell_tmp (p := 4) (q := 5) rfl _ _ _ _ (Ros.cells (Ros.take r k p)) _ rfl hE Tryz.underlying36 rfl qah
 · exact ⟨rfl, Below.setRow' (qaA NB.out nq) (by omega) _⟩
theorem qfm (r : Ros.R) (k : Nat) (g p : Int) (w : World) (h : Ros.qbS r k p) (hg : g ≠ r.gen k + 1) :
 Calls Tryz.prog 120 #[.agg (Ros.cells r), .agg #[.int .i64 1, .int .i64 k, .int .i64 g, .int .i64 p]] w fun e w' => e = .returned (.tuple #[.agg (Ros.cells r), .int .i64 1]) /\ Below w.heap.size w w' := by
 have ct := fun X => qh (qgD r k p X h)
 have P0 := qh (((Box.made w 36 (Ros.cells r)).alloc (.cells #[.int .i64 1, .int .i64 k, .int .i64 g, .int .i64 p] 76)).alloc (.cells (Ros.cells qau) 36))
 have P1 := qh ((Box.qaq (n := w.heap.size + 1) (w.alloc (.cells (Ros.cells r) 36)) 76 #[.int .i64 1, .int .i64 k, .int .i64 g, .int .i64 p] (by simp)).alloc (.cells (Ros.cells qau) 36))
 have P2 := qh (Box.qaq (n := w.heap.size + 1 + 1) ((w.alloc (.cells (Ros.cells r) 36)).alloc (.cells #[.int .i64 1, .int .i64 k, .int .i64 g, .int .i64 p] 76)) 36 (Ros.cells qau) (by simp))
 have PB := qh ((qap w (.cells (Ros.cells r) 36) (.cells #[.int .i64 1, .int .i64 k, .int .i64 g, .int .i64 p] 76)).alloc (by simp <;> omega) (.cells (Ros.cells qau) 36))
 have hk : k < 8 := by have := h.1.1.2; omega
 have hk8 : (k : Int) < 8 := by omega
 have cgk := Ros.qbs (Ros.take r k p) k hk
 rw [show (Ros.take r k p).gen k = r.gen k + 1 from Ros.upd_same _ _ _] at cgk
 obtain ⟨g', hg'⟩ : ∃ g', g' = r.gen k + 1 := ⟨_, rfl⟩
 rw [<- hg'] at cgk hg
 have hb : (g' == g) = false := by simp; omega
 clear h hg'
 have p1 := P1.out.cell
 go_enter Tryz.func120, Tryz.ntmps120
 go_upto_region 4 with (first | ((with_reducible refine qaU rfl rfl ?_)) | ((with_reducible refine qaZ rfl rfl rfl rfl rfl ?_)) | ((with_reducible refine qav rfl rfl ?_); apply qas.mk rfl; (focus (with_reducible exact P0.out)); (focus (exact qah))) | (go_at_call 147; ((with_reducible refine ((ct _).out).mono ?_); rintro e w1 ⟨rfl, hb⟩; have Q0 := qh ((P0.out.below hb P0.out.lt).alloc (.cells (Ros.cells (Ros.take r k p)) 36)); have Q1 := qh ((P1.out.below hb P1.out.lt).alloc (.cells (Ros.cells (Ros.take r k p)) 36)); have Q2 := qh ((P2.out.below hb P2.out.lt).alloc (.cells (Ros.cells (Ros.take r k p)) 36)); have QB := qh (PB.out.trans (hb.mono PB.out.size)); have q1 := Q1.out.cell; clear hb)))
 have N0 := qh (Box.made w1 36 (Ros.cells (Ros.take r k p)))
 have n0 := N0.out.cell
 have NB := qh (QB.out.alloc QB.out.size (.cells (Ros.cells (Ros.take r k p)) 36))
 go_quiet (fail)
 go_wp2_with (first | ((with_reducible refine qav rfl rfl ?_); apply qas.mk rfl; (focus (with_reducible exact Q0.out.draws _)); (focus (exact qah))) | ((with_reducible refine qa5 rfl rfl ?_); apply qa6.mk rfl rfl; (focus (with_reducible exact Q2.out.draws _)); (focus (exact qah)); (focus rfl); (focus (exact qbr _))))
 have hE := (Q2.out.draws nq).row (Ros.cells r)
 refine bodyPost_ret (v := .tuple #[.agg (Ros.cells r), .int .i64 1]) ?_ rfl ?_
 · exact results_cell_tmp (p := 4) (q := 5) rfl _ _ _ _ (Ros.cells r) _ rfl hE Tryz.underlying36 rfl qah
 · exact ⟨rfl, Below.setRow' (qaA NB.out nq) (by omega) _⟩
theorem qfW (r : Ros.R) (s g p : Int) (w : World) (h : ¬ Ros.qbS r s p) :
 Calls Tryz.prog 120 #[.agg (Ros.cells r), .agg #[.int .i64 1, .int .i64 s, .int .i64 g, .int .i64 p]] w fun e w' => e = .returned (.tuple #[.agg (Ros.cells r), .int .i64 1]) /\ Below w.heap.size w w' := by
 have ct := fun X => qh (qmg r s p X h)
 have P0 := qh (((Box.made w 36 (Ros.cells r)).alloc (.cells #[.int .i64 1, .int .i64 s, .int .i64 g, .int .i64 p] 76)).alloc (.cells (Ros.cells qau) 36))
 have P1 := qh ((Box.qaq (n := w.heap.size + 1) (w.alloc (.cells (Ros.cells r) 36)) 76 #[.int .i64 1, .int .i64 s, .int .i64 g, .int .i64 p] (by simp)).alloc (.cells (Ros.cells qau) 36))
 have P2 := qh (Box.qaq (n := w.heap.size + 1 + 1) ((w.alloc (.cells (Ros.cells r) 36)).alloc (.cells #[.int .i64 1, .int .i64 s, .int .i64 g, .int .i64 p] 76)) 36 (Ros.cells qau) (by simp))
 have PB := qh ((qap w (.cells (Ros.cells r) 36) (.cells #[.int .i64 1, .int .i64 s, .int .i64 g, .int .i64 p] 76)).alloc (by simp <;> omega) (.cells (Ros.cells qau) 36))
 clear h
 have p1 := P1.out.cell
 go_enter Tryz.func120, Tryz.ntmps120
 go_upto_region 4 with (first | ((with_reducible refine qaU rfl rfl ?_)) | ((with_reducible refine qaZ rfl rfl rfl rfl rfl ?_)) | ((with_reducible refine qav rfl rfl ?_); apply qas.mk rfl; (focus (with_reducible exact P0.out)); (focus (exact qah))) | (go_at_call 147; ((with_reducible refine ((ct _).out).mono ?_); rintro e w1 ⟨rfl, hb⟩; have Q0 := qh ((P0.out.below hb P0.out.lt).alloc (.cells (Ros.cells r) 36)); have Q1 := qh ((P1.out.below hb P1.out.lt).alloc (.cells (Ros.cells r) 36)); have Q2 := qh ((P2.out.below hb P2.out.lt).alloc (.cells (Ros.cells r) 36)); have QB := qh (PB.out.trans (hb.mono PB.out.size)); have q1 := Q1.out.cell; clear hb)))
 have NB := qh (QB.out.alloc QB.out.size (.cells (Ros.cells r) 36))
 go_quiet (fail)
 go_wp2_with (first | ((with_reducible refine qav rfl rfl ?_); apply qas.mk rfl; (focus (with_reducible exact Q0.out.draws _)); (focus (exact qah))) | ((with_reducible refine qa5 rfl rfl ?_); apply qa6.mk rfl rfl; (focus (with_reducible exact Q2.out.draws _)); (focus (exact qah)); (focus rfl); (focus (exact qbr _))))
 have hE := (Q2.out.draws nq).row (Ros.cells r)
 refine bodyPost_ret (v := .tuple #[.agg (Ros.cells r), .int .i64 1]) ?_ rfl ?_
 · exact results_cell_tmp (p := 4) (q := 5) rfl _ _ _ _ (Ros.cells r) _ rfl hE Tryz.underlying36 rfl qah
 · exact ⟨rfl, Below.setRow' (qaA NB.out nq) (by omega) _⟩
theorem qf4 (a b c d : Int) (w : World) : (binOp .eql 33 (.agg #[.int .i64 a, .int .i64 b]) (.agg #[.int .i64 c, .int .i64 d])).run Tryz.prog w = .ok (.bool (decide (a = c /\ b = d))) w := by
 by_cases h1 : a = c
 · by_cases h2 : b = d
   · subst h1 h2; go_simp <;> simp
   · have h3 : (b == d) = false := by simpa using h2
     subst h1; go_simp <;> simp [h2]
 · have h3 : (a == c) = false := by simpa using h1
   go_simp <;> simp [h1]
theorem qep (r : Ros.R) (k : Nat) (g p : Int) (w : World) (hk : k < 8) (h : ¬ (r.peer k = p /\ r.gen k = g)) :
 Calls Tryz.prog 120 #[.agg (Ros.cells r), .agg #[.int .i64 2, .int .i64 k, .int .i64 g, .int .i64 p]] w fun e w' => e = .returned (.tuple #[.agg (Ros.cells r), .int .i64 1]) /\ Below w.heap.size w w' := by
 have cs := fun X => qh (qdx k X)
 have P0 := qh (((Box.made w 36 (Ros.cells r)).alloc (.cells #[.int .i64 2, .int .i64 k, .int .i64 g, .int .i64 p] 76)).alloc (.cells (Ros.cells qau) 36))
 have P1 := qh ((Box.qaq (n := w.heap.size + 1) (w.alloc (.cells (Ros.cells r) 36)) 76 #[.int .i64 2, .int .i64 k, .int .i64 g, .int .i64 p] (by simp)).alloc (.cells (Ros.cells qau) 36))
 have P2 := qh (Box.qaq (n := w.heap.size + 1 + 1) ((w.alloc (.cells (Ros.cells r) 36)).alloc (.cells #[.int .i64 2, .int .i64 k, .int .i64 g, .int .i64 p] 76)) 36 (Ros.cells qau) (by simp))
 have PB := qh ((qap w (.cells (Ros.cells r) 36) (.cells #[.int .i64 2, .int .i64 k, .int .i64 g, .int .i64 p] 76)).alloc (by simp <;> omega) (.cells (Ros.cells qau) 36))
 have hk8 : (k : Int) < 8 := by omega
 rw [decide_eq_true (show (0 : Int) <= k /\ (k : Int) < 8 from by omega)] at cs
 have cpk := Ros.qaQ r k hk
 have cgk := Ros.qbs r k hk
 obtain ⟨pk, hpk⟩ : ∃ pk, r.peer k = pk := ⟨_, rfl⟩
 obtain ⟨gk, hgk⟩ : ∃ gk, r.gen k = gk := ⟨_, rfl⟩
 rw [hpk] at cpk h
 rw [hgk] at cgk h
 have he := fun W => qf4 pk gk p g W
 simp only [decide_eq_false h] at he
 clear h hpk hgk
 have p0 := P0.out.cell
 have p1 := P1.out.cell
 go_enter Tryz.func120, Tryz.ntmps120
 go_upto_region 7 with (first | ((with_reducible refine qaU rfl rfl ?_)) | ((with_reducible refine qaZ rfl rfl rfl rfl rfl ?_)))
 go_quiet ((go_at_call 148; with_reducible exact qb9 (cs _).out))
 go_wp2_with (first | ((with_reducible refine qav rfl rfl ?_); apply qas.mk rfl; (focus (with_reducible exact P0.out.draws _)); (focus (exact qah))) | ((with_reducible refine qa5 rfl rfl ?_); apply qa6.mk rfl rfl; (focus (with_reducible exact P2.out.draws _)); (focus (exact qah)); (focus rfl); (focus (exact qbr _))))
 have hE := (P2.out.draws nq).row (Ros.cells r)
 refine bodyPost_ret (v := .tuple #[.agg (Ros.cells r), .int .i64 1]) ?_ rfl ?_
 · exact results_cell_tmp (p := 4) (q := 5) rfl _ _ _ _ (Ros.cells r) _ rfl hE Tryz.underlying36 rfl qah
 · exact ⟨rfl, Below.setRow' (qaA PB.out nq) (by omega) _⟩
theorem qeF (r : Ros.R) (k : Nat) (w : World) (h : Ros.qck r k) (g p : Int) (hp : r.peer k = p) (hg : r.gen k = g) :
 Calls Tryz.prog 120 #[.agg (Ros.cells r), .agg #[.int .i64 2, .int .i64 k, .int .i64 g, .int .i64 p]] w fun e w' => e = .returned (.tuple #[.agg (Ros.cells (Ros.give r k)), .int .i64 0]) /\ Below w.heap.size w w' := by
 have cs := fun X => qh (qdx k X)
 have P0 := qh (((Box.made w 36 (Ros.cells r)).alloc (.cells #[.int .i64 2, .int .i64 k, .int .i64 g, .int .i64 p] 76)).alloc (.cells (Ros.cells qau) 36))
 have P1 := qh ((Box.qaq (n := w.heap.size + 1) (w.alloc (.cells (Ros.cells r) 36)) 76 #[.int .i64 2, .int .i64 k, .int .i64 g, .int .i64 p] (by simp)).alloc (.cells (Ros.cells qau) 36))
 have P2 := qh (Box.qaq (n := w.heap.size + 1 + 1) ((w.alloc (.cells (Ros.cells r) 36)).alloc (.cells #[.int .i64 2, .int .i64 k, .int .i64 g, .int .i64 p] 76)) 36 (Ros.cells qau) (by simp))
 have PB := qh ((qap w (.cells (Ros.cells r) 36) (.cells #[.int .i64 2, .int .i64 k, .int .i64 g, .int .i64 p] 76)).alloc (by simp <;> omega) (.cells (Ros.cells qau) 36))
 have hk : k < 8 := by have := h.1.2; omega
 have cg := fun X => qh (qkC r k X h)
 have hk8 : (k : Int) < 8 := by omega
 rw [decide_eq_true (show (0 : Int) <= k /\ (k : Int) < 8 from by omega)] at cs
 have cpk := Ros.qaQ r k hk
 have cgk := Ros.qbs r k hk
 rw [hp] at cpk
 rw [hg] at cgk
 have he := fun W => qf4 p g p g W
 simp only [decide_eq_true (show p = p /\ g = g from ⟨rfl, rfl⟩)] at he
 clear h hp hg
 have p0 := P0.out.cell
 have p1 := P1.out.cell
 go_enter Tryz.func120, Tryz.ntmps120
 go_upto_region 7 with (first | ((with_reducible refine qaU rfl rfl ?_)) | ((with_reducible refine qaZ rfl rfl rfl rfl rfl ?_)))
 go_quiet ((go_at_call 148; with_reducible exact qb9 (cs _).out))
 go_wp2_with (first | ((with_reducible refine qav rfl rfl ?_); apply qas.mk rfl; (focus (with_reducible exact P0.out.draws _)); (focus (exact qah))) | (go_at_call 149; ((with_reducible refine ((cg _).out).mono ?_); rintro e w1 ⟨rfl, hb⟩; have Q2 := qh ((P2.out.draws nq).below hb P2.out.lt); have QB := qh ((qaA PB.out nq).trans (hb.mono PB.out.size)); clear hb)) | ((with_reducible refine qa5 rfl rfl ?_); apply qa6.mk rfl rfl; (focus (with_reducible exact Q2.out)); (focus (exact qah)); (focus rfl); (focus (exact qbr _))))
 have hE := Q2.out.row (Ros.cells (Ros.give r k))
 refine bodyPost_ret (v := .tuple #[.agg (Ros.cells (Ros.give r k)), .int .i64 0]) ?_ rfl ?_
 · exact results_cell_tmp (p := 4) (q := 5) rfl _ _ _ _ (Ros.cells (Ros.give r k)) _ rfl hE Tryz.underlying36 rfl qah
 · exact ⟨rfl, Below.setRow' QB.out (by omega) _⟩
theorem qfk (r : Ros.R) (k : Nat) (w : World) (hk : k < 8) (h : ¬ Ros.qck r k) (g p : Int) (hp : r.peer k = p) (hg : r.gen k = g) :
 Calls Tryz.prog 120 #[.agg (Ros.cells r), .agg #[.int .i64 2, .int .i64 k, .int .i64 g, .int .i64 p]] w fun e w' => e = .returned (.tuple #[.agg (Ros.cells r), .int .i64 1]) /\ Below w.heap.size w w' := by
 have cs := fun X => qh (qdx k X)
 have P0 := qh (((Box.made w 36 (Ros.cells r)).alloc (.cells #[.int .i64 2, .int .i64 k, .int .i64 g, .int .i64 p] 76)).alloc (.cells (Ros.cells qau) 36))
 have P1 := qh ((Box.qaq (n := w.heap.size + 1) (w.alloc (.cells (Ros.cells r) 36)) 76 #[.int .i64 2, .int .i64 k, .int .i64 g, .int .i64 p] (by simp)).alloc (.cells (Ros.cells qau) 36))
 have P2 := qh (Box.qaq (n := w.heap.size + 1 + 1) ((w.alloc (.cells (Ros.cells r) 36)).alloc (.cells #[.int .i64 2, .int .i64 k, .int .i64 g, .int .i64 p] 76)) 36 (Ros.cells qau) (by simp))
 have PB := qh ((qap w (.cells (Ros.cells r) 36) (.cells #[.int .i64 2, .int .i64 k, .int .i64 g, .int .i64 p] 76)).alloc (by simp <;> omega) (.cells (Ros.cells qau) 36))
 have cg := fun X => qh (qmh r k X h)
 have hk8 : (k : Int) < 8 := by omega
 rw [decide_eq_true (show (0 : Int) <= k /\ (k : Int) < 8 from by omega)] at cs
 have cpk := Ros.qaQ r k hk
 have cgk := Ros.qbs r k hk
 rw [hp] at cpk
 rw [hg] at cgk
 have he := fun W => qf4 p g p g W
 simp only [decide_eq_true (show p = p /\ g = g from ⟨rfl, rfl⟩)] at he
 clear h hp hg
 have p0 := P0.out.cell
 have p1 := P1.out.cell
 go_enter Tryz.func120, Tryz.ntmps120
 go_upto_region 7 with (first | ((with_reducible refine qaU rfl rfl ?_)) | ((with_reducible refine qaZ rfl rfl rfl rfl rfl ?_)))
 go_quiet ((go_at_call 148; with_reducible exact qb9 (cs _).out))
 go_wp2_with (first | ((with_reducible refine qav rfl rfl ?_); apply qas.mk rfl; (focus (with_reducible exact P0.out.draws _)); (focus (exact qah))) | (go_at_call 149; ((with_reducible refine ((cg _).out).mono ?_); rintro e w1 ⟨rfl, hb⟩; have Q2 := qh ((P2.out.draws nq).below hb P2.out.lt); have QB := qh ((qaA PB.out nq).trans (hb.mono PB.out.size)); clear hb)) | ((with_reducible refine qa5 rfl rfl ?_); apply qa6.mk rfl rfl; (focus (with_reducible exact Q2.out)); (focus (exact qah)); (focus rfl); (focus (exact qbr _))))
 have hE := Q2.out.row (Ros.cells r)
 refine bodyPost_ret (v := .tuple #[.agg (Ros.cells r), .int .i64 1]) ?_ rfl ?_
 · exact results_cell_tmp (p := 4) (q := 5) rfl _ _ _ _ (Ros.cells r) _ rfl hE Tryz.underlying36 rfl qah
 · exact ⟨rfl, Below.setRow' QB.out (by omega) _⟩
theorem qeV : (Tryz.prog.info? 76).map (·.size) = some (#[.int .i64 0, .int .i64 0, .int .i64 0, .int .i64 0] : Array Value).size := by kernel_rfl
theorem qiq (s : Fd.S) (v : En.Ev) (w : World) (hv : En.evOk v) (hno : ¬ Fd.qcK s v) :
 Calls Tryz.prog 120 #[.agg (Ros.cells s.r), .agg #[.int .i64 v.kind, .int .i64 v.slot, .int .i64 v.gen, .int .i64 v.peer]] w fun e w' => e = .returned (.tuple #[.agg (Ros.cells s.r), .int .i64 1]) /\ Below w.heap.size w w' := by
 obtain ⟨q, sl, gn, pe⟩ := v
 obtain ⟨hk, hs, hg, hp⟩ := hv
 dsimp only at *
 obtain ⟨k, rfl⟩ : ∃ k : Nat, sl = k := ⟨sl.toNat, by omega⟩
 have hk8 : k < 8 := by omega
 rcases hk with rfl | rfl
 · by_cases h1 : s.r.peer k = pe /\ s.r.gen k = gn
   · refine qfk s.r k w hk8 (fun h => hno (.inr ⟨rfl, h, by simpa using h1.1, by simpa using h1.2⟩)) gn pe h1.1 h1.2
   · exact qep s.r k gn pe w hk8 h1
 · by_cases h1 : Ros.qbS s.r k pe
   · exact qfm s.r k gn pe w h1 (fun h => hno (.inl ⟨rfl, h1, by simpa using h⟩))
   · exact qfW s.r k gn pe w h1
theorem qe1 (s : Fd.S) (v : En.Ev) (A : Option Addr) (n c : Nat) (w : World) (hv : En.evOk v) (hno : ¬ Fd.qcK s v) :
 Calls Tryz.prog 90 #[.agg (Im.cells s.g (.slice A n c) s.r), .agg #[.int .i64 v.kind, .int .i64 v.slot, .int .i64 v.gen, .int .i64 v.peer]] w (qe6 1 w) := by
 have ca := fun X => qh (qiq s v X hv hno)
 have cn := fun X => qh (qgT X)
 obtain ⟨q, sl, gn, pe⟩ := v
 obtain ⟨g, r⟩ := s
 dsimp only at *
 clear hv hno
 obtain ⟨C, hC⟩ : ∃ C, C = Im.cells g (.slice A n c) r := ⟨_, rfl⟩
 have P0 := qh ((((Box.made w 38 (Im.cells g (.slice A n c) r)).alloc (.cells #[.int .i64 q, .int .i64 sl, .int .i64 gn, .int .i64 pe] 76))).alloc (.cells Im.zero 38))
 have E0 := qh ((Box.qaq (n := w.heap.size + 1) (w.alloc (.cells (Im.cells g (.slice A n c) r) 38)) 76 #[.int .i64 q, .int .i64 sl, .int .i64 gn, .int .i64 pe] (by simp)).alloc (.cells Im.zero 38))
 have K0 := qh ((qap w (.cells (Im.cells g (.slice A n c) r) 38) (.cells #[.int .i64 q, .int .i64 sl, .int .i64 gn, .int .i64 pe] 76)).alloc (by simp <;> omega) (.cells Im.zero 38))
 go_enter Tryz.func90, Tryz.ntmps90
 go_wp2_with (first | (with_reducible refine qaz rfl rfl ?_) | ((with_reducible refine qcY rfl rfl ?_); apply qaC.mk rfl; (focus (with_reducible exact P0.out)); dsimp only) | ((with_reducible refine qd4 rfl rfl Tryz.underlying76 rfl ?_); apply qas.mk rfl; (focus (with_reducible exact E0.out)); (focus (exact qeV))) | (go_at_call 120; ((with_reducible refine ((ca _).out).mono ?_); rintro e w1 ⟨rfl, hb⟩; have K1 := qh (K0.out.trans (hb.mono K0.out.size)); clear hb)) | (with_reducible refine qaU rfl rfl ?_) | ((with_reducible refine qaZ rfl rfl rfl rfl rfl ?_)) | (go_at_call 92; ((with_reducible refine ((cn _).out).mono ?_); rintro e w2 ⟨rfl, hb⟩; have K2 := qh ((K1.out.alloc K1.out.size (.cells (Ros.cells r) 36)).trans (hb.mono (K1.out.alloc K1.out.size (.cells (Ros.cells r) 36)).size)); clear hb)))
 exact ⟨rfl, rfl, K2.out⟩
structure Ch (w : World) (g : Gm.G) (s : Value) (r : Ros.R) (E : Array Value) (W : World) : Prop where
 st : Box W w.heap.size 38 (Im.cells g s r)
 ev : Box W (w.heap.size + 1) 76 E
 out : Box W (w.heap.size + 1 + 1) 38 Im.zero
 below : Below w.heap.size w W
theorem Ch.call {w W W' : World} {g : Gm.G} {s : Value} {r : Ros.R} {E : Array Value} (h : Ch w g s r E W) (hb : Below W.heap.size W W') : Ch w g s r E W' :=
 ⟨h.st.below hb h.st.lt, h.ev.below hb h.ev.lt, h.out.below hb h.out.lt, h.below.trans (hb.mono h.below.size)⟩
theorem Ch.alloc {w W : World} {g : Gm.G} {s : Value} {r : Ros.R} {E : Array Value} (h : Ch w g s r E W) (o : Obj) : Ch w g s r E (W.alloc o) := h.call (qac W o)
theorem Ch.store {w W : World} {g g' : Gm.G} {s s' : Value} {r r' : Ros.R} {E : Array Value} (h : Ch w g s r E W) : Ch w g' s' r' E (W.setRow w.heap.size (Im.cells g' s' r')) :=
 ⟨h.st.row _, h.ev.qbn (by omega) _, h.out.qbn (by omega) _, Below.setRow' h.below (Nat.le_refl _) _⟩
theorem ql1 (w : World) (g : Gm.G) (s : Value) (r : Ros.R) (E : Array Value) : Ch w g s r E (((w.alloc (.cells (Im.cells g s r) 38)).alloc (.cells E 76)).alloc (.cells Im.zero 38)) :=
 ⟨((Box.made w 38 (Im.cells g s r)).alloc (.cells E 76)).alloc (.cells Im.zero 38), (Box.qaq (n := w.heap.size + 1) (w.alloc (.cells (Im.cells g s r) 38)) 76 E (by simp)).alloc (.cells Im.zero 38), Box.qaq _ _ _ (by simp),
   (qap w (.cells (Im.cells g s r) 38) (.cells E 76)).alloc (by simp <;> omega) (.cells Im.zero 38)⟩
theorem qln (g : Gm.G) (r : Ros.R) (k : Nat) (gn pe : Int) (A : Option Addr) (n c : Nat) (w : World) (hok : Im.Ok g r) (hd : 0 <= g.dice /\ g.dice <= 18446744073709551615) (hk : k < 8) (hn : n = g.qaa.length) (hr : Lies w w.heap.size 6 A n (Gm.qad g.qaa)) (ht : Ros.qbS r k pe) (hg : gn = r.gen k + 1) :
 Calls Tryz.prog 90 #[.agg (Im.cells g (.slice A n c) r), .agg #[.int .i64 1, .int .i64 (k : Int), .int .i64 gn, .int .i64 pe]] w (SOne (Gm.spawn g k) (Ros.take r k pe) w) := by
 have hpk : r.peer k = -1 := ht.2.1
 have hoff : (g.ship k).on = false := (hok.2.2 k hk).trans (decide_eq_false (by omega))
 have ca := fun X => qh (qfl r k gn pe X ht hg)
 have cs := fun X hX => qh (qnz g A n c k X hok.1 hd hn hX hk hoff)
 have cn := fun X => qh (qkY X)
 clear hok hd ht hg hpk hoff
 have C0 := qh (ql1 w g (.slice A n c) r #[.int .i64 1, .int .i64 (k : Int), .int .i64 gn, .int .i64 pe])
 have L0 := qh (hr.below C0.out.below)
 have hN := qh hn
 clear hr hn
 go_enter Tryz.func90, Tryz.ntmps90
 go_upto_region 4 with (first | (with_reducible refine qaz rfl rfl ?_) | ((with_reducible refine qcY rfl rfl ?_); apply qaC.mk rfl; (focus (with_reducible exact C0.out.st)); dsimp only) | ((with_reducible refine qd4 rfl rfl Tryz.underlying76 rfl ?_); apply qas.mk rfl; (focus (with_reducible exact C0.out.ev)); (focus (exact qeV))) | (go_at_call 120; ((with_reducible refine ((ca _).out).mono ?_); rintro e w1 ⟨rfl, hb⟩; have C1 := qh ((C0.out.call hb).alloc (.cells (Ros.cells (Ros.take r k pe)) 36)); have Q1 := qh (Box.made w1 36 (Ros.cells (Ros.take r k pe))); have L1 := qh ((L0.out.below (hb.mono C0.out.below.size)).below ((qac w1 (.cells (Ros.cells (Ros.take r k pe)) 36)).mono (Nat.le_trans C0.out.below.size hb.size))); clear hb)) | (with_reducible refine qaU rfl rfl ?_) | ((with_reducible refine qaZ rfl rfl rfl rfl rfl ?_)) | (go_at_call 92; ((with_reducible refine ((cn _).out).mono ?_); rintro e w2 ⟨rfl, hb⟩; have C2 := qh (C1.out.call hb); have Q2 := qh (Q1.out.below hb Q1.out.lt); have L2 := qh (L1.out.below (hb.mono C1.out.below.size)); have C3 := qh (C2.out.store (g' := g) (s' := .slice A n c) (r' := Ros.take r k pe)); have L3 := qh (L2.out.qoa (Nat.le_refl _) (Im.cells g (.slice A n c) (Ros.take r k pe))); have LL := qh (L3.out.wider C3.out.below.size); have k3 := C3.out.ev.cell; clear hb)) | ((with_reducible refine qav rfl rfl ?_); apply qas.mk rfl; (focus (with_reducible exact Q2.out)); (focus (exact qah))) | ((with_reducible refine qdc rfl rfl ?_); apply qhn.mk rfl rfl; (focus (with_reducible exact C2.out.st))))
 go_wp2_with (first | ((with_reducible refine qbb rfl rfl ?_); apply qaC.mk rfl; (focus (with_reducible exact C3.out.st)); dsimp only) | (go_at_call 121; ((with_reducible refine ((cs _ LL.out).out).mono ?_); rintro e w4 ⟨A4, c4, rfl, hL, hb⟩; have C4 := qh (C3.out.call hb); have C5 := qh (C4.out.store (g' := Gm.spawn g k) (s' := .slice A4 (Gm.spawn g k).qaa.length c4) (r' := Ros.take r k pe)); have L5 := qh (hL.qa8 rfl C4.out.st (Im.cells (Gm.spawn g k) (.slice A4 (Gm.spawn g k).qaa.length c4) (Ros.take r k pe))); clear hb hL)) | ((with_reducible refine qbU rfl rfl ?_); apply qe9.mk rfl rfl; (focus (with_reducible exact C4.out.st)); (focus rfl)) | (go_at_call 92; ((with_reducible refine ((cn _).out).mono ?_); rintro e w6 ⟨rfl, hb⟩; have C6 := qh (C5.out.call hb); have L6 := qh (L5.out.call hb); clear hb)) | ((with_reducible refine qak rfl rfl ?_); apply qaC.mk rfl; (focus (with_reducible exact C6.out.st)); dsimp only) | ((with_reducible refine qaI rfl rfl ?_); apply qcj.mk rfl rfl; (focus (with_reducible exact C6.out.out)); (focus (exact Im.qaO)); (focus rfl)))
 refine bodyPost_ret (v := .agg (Im.cells (Gm.spawn g k) (.slice A4 (Gm.spawn g k).qaa.length c4) (Ros.take r k pe))) ?_ ?_ ?_
 · exact results_cell_row rfl _ _ _ _ (Im.cells (Gm.spawn g k) (.slice A4 (Gm.spawn g k).qaa.length c4) (Ros.take r k pe)) (0, 0) _ rfl (C6.out.out.row _).is Tryz.underlying38 rfl (by rw [Im.qaf]; exact qax)
 · rfl
 · exact ⟨A4, c4, rfl, L6.out.qcM rfl C6.out.out _, Below.setRow' C6.out.below (by omega) _⟩
theorem qke (g : Gm.G) (r : Ros.R) (k : Nat) (gn pe : Int) (A : Option Addr) (n c : Nat) (w : World) (hok : Im.Ok g r) (hd : 0 <= g.dice /\ g.dice <= 18446744073709551615) (hk : k < 8) (hn : n = g.qaa.length) (hr : Lies w w.heap.size 6 A n (Gm.qad g.qaa)) (ht : Ros.qck r k) (hp : r.peer k = pe) (hg : r.gen k = gn) :
 Calls Tryz.prog 90 #[.agg (Im.cells g (.slice A n c) r), .agg #[.int .i64 2, .int .i64 (k : Int), .int .i64 gn, .int .i64 pe]] w (SOne (Gm.remove g k) (Ros.give r k) w) := by
 have hpk : 0 <= r.peer k := by
  rcases (hok.2.1.seat k hk).2 with h | h
  · exact absurd h (by simpa using ht.2)
  · exact h.1.1
 have hon : (g.ship k).on = true := (hok.2.2 k hk).trans (decide_eq_true hpk)
 have ca := fun X => qh (qeF r k X ht gn pe hp hg)
 have cs := fun X hX => qh (qmq g A n c k X hok.1 hn hX hk hon)
 have cn := fun X => qh (qkY X)
 clear hok hd ht hg hpk hon hp
 have C0 := qh (ql1 w g (.slice A n c) r #[.int .i64 2, .int .i64 (k : Int), .int .i64 gn, .int .i64 pe])
 have L0 := qh (hr.below C0.out.below)
 have hN := qh hn
 clear hr hn
 go_enter Tryz.func90, Tryz.ntmps90
 go_upto_region 4 with (first | (with_reducible refine qaz rfl rfl ?_) | ((with_reducible refine qcY rfl rfl ?_); apply qaC.mk rfl; (focus (with_reducible exact C0.out.st)); dsimp only) | ((with_reducible refine qd4 rfl rfl Tryz.underlying76 rfl ?_); apply qas.mk rfl; (focus (with_reducible exact C0.out.ev)); (focus (exact qeV))) | (go_at_call 120; ((with_reducible refine ((ca _).out).mono ?_); rintro e w1 ⟨rfl, hb⟩; have C1 := qh ((C0.out.call hb).alloc (.cells (Ros.cells (Ros.give r k)) 36)); have Q1 := qh (Box.made w1 36 (Ros.cells (Ros.give r k))); have L1 := qh ((L0.out.below (hb.mono C0.out.below.size)).below ((qac w1 (.cells (Ros.cells (Ros.give r k)) 36)).mono (Nat.le_trans C0.out.below.size hb.size))); clear hb)) | (with_reducible refine qaU rfl rfl ?_) | ((with_reducible refine qaZ rfl rfl rfl rfl rfl ?_)) | (go_at_call 92; ((with_reducible refine ((cn _).out).mono ?_); rintro e w2 ⟨rfl, hb⟩; have C2 := qh (C1.out.call hb); have Q2 := qh (Q1.out.below hb Q1.out.lt); have L2 := qh (L1.out.below (hb.mono C1.out.below.size)); have C3 := qh (C2.out.store (g' := g) (s' := .slice A n c) (r' := Ros.give r k)); have L3 := qh (L2.out.qoa (Nat.le_refl _) (Im.cells g (.slice A n c) (Ros.give r k))); have LL := qh (L3.out.wider C3.out.below.size); have k3 := C3.out.ev.cell; clear hb)) | ((with_reducible refine qav rfl rfl ?_); apply qas.mk rfl; (focus (with_reducible exact Q2.out)); (focus (exact qah))) | ((with_reducible refine qdc rfl rfl ?_); apply qhn.mk rfl rfl; (focus (with_reducible exact C2.out.st))))
 go_wp2_with (first | ((with_reducible refine qbb rfl rfl ?_); apply qaC.mk rfl; (focus (with_reducible exact C3.out.st)); dsimp only) | (go_at_call 122; ((with_reducible refine ((cs _ LL.out).out).mono ?_); rintro e w4 ⟨A4, c4, rfl, hL, hb⟩; have C4 := qh (C3.out.call hb); have C5 := qh (C4.out.store (g' := Gm.remove g k) (s' := .slice A4 (Gm.remove g k).qaa.length c4) (r' := Ros.give r k)); have L5 := qh (hL.qa8 rfl C4.out.st (Im.cells (Gm.remove g k) (.slice A4 (Gm.remove g k).qaa.length c4) (Ros.give r k))); clear hb hL)) | ((with_reducible refine qbU rfl rfl ?_); apply qe9.mk rfl rfl; (focus (with_reducible exact C4.out.st)); (focus rfl)) | (go_at_call 92; ((with_reducible refine ((cn _).out).mono ?_); rintro e w6 ⟨rfl, hb⟩; have C6 := qh (C5.out.call hb); have L6 := qh (L5.out.call hb); clear hb)) | ((with_reducible refine qak rfl rfl ?_); apply qaC.mk rfl; (focus (with_reducible exact C6.out.st)); dsimp only) | ((with_reducible refine qaI rfl rfl ?_); apply qcj.mk rfl rfl; (focus (with_reducible exact C6.out.out)); (focus (exact Im.qaO)); (focus rfl)))
 refine bodyPost_ret (v := .agg (Im.cells (Gm.remove g k) (.slice A4 (Gm.remove g k).qaa.length c4) (Ros.give r k))) ?_ ?_ ?_
 · exact results_cell_row rfl _ _ _ _ (Im.cells (Gm.remove g k) (.slice A4 (Gm.remove g k).qaa.length c4) (Ros.give r k)) (0, 0) _ rfl (C6.out.out.row _).is Tryz.underlying38 rfl (by rw [Im.qaf]; exact qax)
 · rfl
 · exact ⟨A4, c4, rfl, L6.out.qcM rfl C6.out.out _, Below.setRow' C6.out.below (by omega) _⟩
theorem qcv (s : Fd.S) (v : En.Ev) (A : Option Addr) (n c : Nat) (w : World) (hs : Fd.Fine s) (hv : Fd.qcK s v) (hn : n = s.g.qaa.length) (hr : Lies w w.heap.size 6 A n (Gm.qad s.g.qaa)) :
 Calls Tryz.prog 90 #[.agg (Im.cells s.g (.slice A n c) s.r), .agg #[.int .i64 v.kind, .int .i64 v.slot, .int .i64 v.gen, .int .i64 v.peer]] w (SOne (Fd.after s v).g (Fd.after s v).r w) := by
 rcases hv with ⟨hk, ht, hg⟩ | ⟨hk, ht, hp, hg⟩
 · obtain ⟨k, hk8, e, e', hpk, ht', hp0⟩ := Fd.qie ht
   unfold Fd.after
   rw [if_pos hk, e', hk, e]
   exact qln s.g s.r k v.gen v.peer A n c w hs.ok hs.dice hk8 hn hr ht' (by rw [hg, e'])
 · obtain ⟨k, hk8, e, e', hpk, ht'⟩ := Fd.qiN ht
   unfold Fd.after
   rw [if_neg (by omega), e', hk, e]
   exact qke s.g s.r k v.gen v.peer A n c w hs.ok hs.dice hk8 hn hr ht' (by rw [<- hp, e']) (by rw [<- hg, e'])
end Go.Proofs.YtmiopphcfdlneaaGreat