/-
Several texts in one: Rm Tf Tg Th Sc So Sd.
-/
import Derived.Test.YtiahpncglpfjeaaGreatFp7
namespace Go.Proofs.YtiahpncglpfjeaaGreat
open Go.RowKit Go.Shelf
set_option linter.unusedVariables false
set_option linter.unusedSimpArgs false

theorem HasAt.draws {b B : Nat} {A : Option Addr} {c : Nat} {g : Gm.G} {w : World} (h : HasAt b B A c g w) (n : Nat) : HasAt b B A c g (w.drewN n) := ⟨⟨h.game.is⟩, h.own⟩
theorem HasAt.shotIs {b B c gs i : Nat} {G : Gm.G} {W : World} (h : HasAt b B (some ⟨gs, 0, none⟩) c G W) (hi : i < G.shots.length) (j : Nat) (hj : j < 6) : W.cell? ⟨gs, i * 6 + j, none⟩ = G.shots[i].cells[j]? := by
  have h1 := h.own
  rw [h1.cellAt (i * 6 + j) (by omega), Gm.shotCells_at _ i j hi hj]
theorem Keep.draws {b B : Nat} {w w' : World} (h : Keep b B w w') (n : Nat) : Keep b B w (w'.drewN n) := ⟨h.os, h.tape, h.output, h.size, h.low, h.block⟩

set_option maxHeartbeats 1000000 in
theorem other_owner (G : Gm.G) (b B c gs j Bi : Nat) (i : Int) (w : World) (hbB : b ≤ B) (hj : j < G.shots.length) (h : HasAt b B (some ⟨gs, 0, none⟩) c G w) (hi : Box w Bi 3 #[.int .i64 i]) :
    Calls Tryz.prog 127 #[.pointer (some ⟨gs, j * 6, none⟩), .pointer (some ⟨Bi, 0, none⟩)] w fun e w' => e = .returned (.bool (decide (G.shots[j].owner ≠ i))) ∧ HasAt b B (some ⟨gs, 0, none⟩) c G w' ∧ Keep b B w w' ∧ Box w' Bi 3 #[.int .i64 i] := by
  have q0 := h.shotIs hj 0 (by omega)
  generalize hs : G.shots[j] = s at q0 ⊢
  obtain ⟨so, sx, sy, svx, svy, sl⟩ := s
  simp only [Gm.Shot.cells, List.getElem?_cons_zero, Nat.add_zero] at q0
  have r0 := hi.cell 0
  simp only [List.getElem?_toArray, List.getElem?_cons_zero] at r0
  have H := Lib.hid h
  have HI := Lib.hid hi
  clear h hs hi
  go_enter Tryz.func127, Tryz.ntmps127
  by_cases ho : so = i
  · subst ho
    go_upto_region 1 with fail
    go_quiet (fail)
    go_wp2
    go_ret
    exact ⟨by simp, H.out.draws _, (Keep.refl hbB _).draws _, ⟨HI.out.is⟩⟩
  · have hne : (so != i) = true := by simpa using ho
    go_upto_region 1 with fail
    go_quiet (fail)
    go_wp2
    go_ret
    exact ⟨by simp [ho], H.out.draws _, (Keep.refl hbB _).draws _, ⟨HI.out.is⟩⟩

def oth (i : Int) : Gm.Shot → Bool := fun s => decide (s.owner ≠ i)
theorem oth_snoc (i : Int) (l : List Gm.Shot) (j : Nat) (hj : j < l.length) : (l.take (j + 1)).filter (oth i) = (l.take j).filter (oth i) ++ (if oth i l[j] then [l[j]] else []) := by
  rw [List.take_succ_eq_append_getElem hj, List.filter_append]
  congr 1
  cases h : oth i l[j] <;> simp [h]
set_option maxRecDepth 100000 in
set_option maxHeartbeats 4000000 in
theorem keep_rest (g : Gm.G) (b B Bi : Nat) (iv : Int) (w : World) (hbB : b ≤ B) (h : Has b B g w) (hne : g.shots.length ≠ 0) (hlen : g.shots.length ≤ 32) (hi : Box w Bi 3 #[.int .i64 iv]) :
    Calls Tryz.prog 103 #[.pointer (some ⟨B, 0, none⟩), .func (.func 127) #[] #[.pointer (some ⟨Bi, 0, none⟩)]] w fun e w' => e = .returned (.tuple #[]) ∧ Has b B { g with shots := g.shots.filter (oth iv) } w' ∧ Keep b B w w' := by
  obtain ⟨A, c, hB, hO⟩ := h
  have h : HasAt b B A c g w := ⟨hB, hO⟩
  obtain ⟨gs, rfl, hbg, _⟩ := h.len hne
  obtain ⟨m, hm⟩ : ∃ m, m = g.shots.length := ⟨_, rfl⟩
  have start : Stays b B c gs 0 w g ⟨g.dice, g.ship, []⟩ g.shots (.slice (some ⟨gs, 0, none⟩) 0 c) w :=
    ⟨rfl, Nat.le_refl _, rfl, fun _ _ => rfl, rfl, h, Keep.refl hbB w⟩
  have START := Lib.hid start
  have HI0 := Lib.hid hi
  have hcc := hB.cell
  have e58 := Gm.cells_58 g (.slice (some ⟨gs, 0, none⟩) g.shots.length c)
  rw [← hm] at hcc e58 hne hlen
  obtain ⟨i0, hi0, hz0, hz1, hz2⟩ := info_parts shot_info
  have hI := Lib.hid hi0
  have hS := Lib.hid hz1
  have HM := Lib.hid hm
  clear hB hO h start hi0 hz0 hz1 hz2 hm hi
  go_enter Tryz.func103, Tryz.ntmps103
  go_wp2
  go_loopg [4, 16] m (fun gg s4 i wr => ∃ (j : Nat) (L : List Gm.Shot), j ≤ m ∧ gg = m - j ∧ i = .int .i64 j ∧ Stays b B c gs j w g ⟨g.dice, g.ship, (g.shots.take j).filter (oth iv)⟩ L s4 wr ∧ Box wr Bi 3 #[.int .i64 iv])
  case atStart => exact ⟨0, g.shots, by omega, rfl, rfl, START.out, HI0.out⟩
  case round =>
    obtain ⟨j, L, hj, rfl, rfl, hR, hQ⟩ := hrel
    clear hcc e58
    have hLm : L.length = m := by rw [hR.len, HM.out]
    have r58 := Gm.cells_58 { g with shots := L } (.slice (some ⟨gs, 0, none⟩) L.length c)
    have rc := hR.has.game.cell
    have rf := hR.has.game.free
    dsimp only at rc
    rw [hLm] at rc r58
    by_cases hlt : j < m
    · have hjm : (j : Int) < m := by omega
      have hjl : j < g.shots.length := by rw [← HM.out]; exact hlt
      have hsn := Lib.hid (oth_snoc iv g.shots j hjl)
      have hLj : L[j]'(by rw [hLm]; exact hlt) = g.shots[j] := by
        have := hR.rest j (Nat.le_refl _)
        rw [List.getElem?_eq_getElem (by rw [hLm]; exact hlt), List.getElem?_eq_getElem hjl] at this
        injection this
      generalize hst : (g.shots.take j).filter (oth iv) = left at *
      obtain ⟨s, hs⟩ : ∃ s, s = g.shots[j] := ⟨_, rfl⟩
      rw [← hs] at hLj
      have cst := other_owner { g with shots := L } b B c gs j Bi iv wr hbB (by rw [hLm]; exact hlt) hR.has hQ
      dsimp only at cst
      rw [hLj] at cst
      have hget := Lib.hid (show ∀ h : j < L.length, L[j]'h = s from fun _ => hLj)
      have hset : Hid (L.set j s = L) := Lib.hid (by rw [← hLj]; exact List.set_getElem_self _)
      have HR := Lib.hid hR
      have HQ := Lib.hid hQ
      have HSS := Lib.hid hs
      have hs4 := hR.left
      have hfew := hR.few
      clear hR hs hLj hQ
      dsimp only at hs4 hfew
      subst hs4
      have hso : Hid (oth iv s = decide (s.owner ≠ iv)) := Lib.hid rfl
      by_cases h1 : s.owner = iv
      · rw [decide_eq_false (by simpa using h1)] at cst
        have CST := Lib.hid cst
        have HO := Lib.hid (show oth iv s = false from hso.out.trans (decide_eq_false (by simpa using h1)))
        clear cst hst h1
        go_wp2_with (go_at_call 127; ((with_reducible refine (CST.out).mono ?_); rintro e w1 ⟨rfl, h1', k1', b1'⟩; have H1 := Lib.hid h1'; have K1 := Lib.hid k1'; have Q1 := Lib.hid b1'; clear h1' k1' b1'))
        go_roundg (m - (j + 1))
        case measure => omega
        case rel =>
          refine ⟨j + 1, L.set j s, by omega, rfl, by go_num, ?_, Q1.out⟩
          rw [hsn.out, ← HSS.out, HO.out]
          simp only [Bool.false_eq_true, if_false, List.append_nil]
          exact stays_go HR.out rfl s (by rw [hset.out]; exact H1.out) (HR.out.keep.trans K1.out)
      · rw [decide_eq_true (by simpa using h1)] at cst
        have CST := Lib.hid cst
        have HO := Lib.hid (show oth iv s = true from hso.out.trans (decide_eq_true (by simpa using h1)))
        clear cst hst h1 hso
        obtain ⟨fo, fx, fy, fvx, fvy, fl⟩ := s
        have n32 : left.length + 1 ≤ 33 := by omega
        go_wp2_with (first | (go_at_call 127; ((with_reducible refine (CST.out).mono ?_); rintro e w1 ⟨rfl, h1', k1', b1'⟩; have a58 := Gm.cells_58 { g with shots := L } (.slice (some ⟨gs, 0, none⟩) L.length c); have a0 := h1'.game.cell; have q0 := h1'.shotIs (by rw [hLm]; exact hlt) 0 (by omega); have q1 := h1'.shotIs (by rw [hLm]; exact hlt) 1 (by omega); have q2 := h1'.shotIs (by rw [hLm]; exact hlt) 2 (by omega); have q3 := h1'.shotIs (by rw [hLm]; exact hlt) 3 (by omega); have q4 := h1'.shotIs (by rw [hLm]; exact hlt) 4 (by omega); have q5 := h1'.shotIs (by rw [hLm]; exact hlt) 5 (by omega); have R1 := (h1'.alloc (.cells #[.int .i64 fo, .int .i32 fx, .int .i32 fy, .int .i32 fvx, .int .i32 fvy, .int .i64 fl] 90)).room (n := left.length) (by show left.length < L.length; rw [hLm]; omega) ⟨fo, fx, fy, fvx, fvy, fl⟩; obtain ⟨cur, r1, r2, r3, r4⟩ := R1; have RB := Lib.hid r1; have R4 := Lib.hid r4; have KK := Lib.hid ((HR.out.keep.trans k1').alloc (.cells #[.int .i64 fo, .int .i32 fx, .int .i32 fy, .int .i32 fvx, .int .i32 fvy, .int .i64 fl] 90)); have RL := Lib.hid (lies_cells w1 ⟨fo, fx, fy, fvx, fvy, fl⟩); rw [hget.out] at q0 q1 q2 q3 q4 q5; simp only [Gm.Shot.cells, List.getElem?_cons_zero, List.getElem?_cons_succ, Nat.add_zero, hLm] at q0 q1 q2 q3 q4 q5 a58 a0; have QB := fun cs' => Lib.hid ((b1'.alloc (.cells #[.int .i64 fo, .int .i32 fx, .int .i32 fy, .int .i32 fvx, .int .i32 fvy, .int .i64 fl] 90)).row_far (show Bi ≠ _ from Box.apart (b1'.alloc _) r1 (by decide)) cs'); clear h1' k1' b1' r1 r4 rc rf r58)) | ((with_reducible refine room_gate (x := .tmp 27) (y := .tmp 35) (t := 26) (e := 90) (size := 6) rfl rfl Tryz.underlying26 hI.out hS.out ?_); refine AppendsIn.mk rfl rfl RB.out RL.out (one_cells ⟨fo, fx, fy, fvx, fvy, fl⟩) r2 r3 ?_))
        go_roundg (m - (j + 1))
        case measure => omega
        case rel =>
          refine ⟨j + 1, (L.set j ⟨fo, fx, fy, fvx, fvy, fl⟩).set left.length ⟨fo, fx, fy, fvx, fvy, fl⟩, by omega, rfl, by go_num, ?_, (QB _).out⟩
          rw [hsn.out, ← HSS.out, HO.out]
          simp only [if_true]
          exact stays_stay HR.out hjl ⟨fo, fx, fy, fvx, fvy, fl⟩ (by have h := R4.out; rw [List.append_assoc] at h; rw [hset.out]; exact h) (KK.out.row RB.out hbg _)
    · have hjm : ¬ (j : Int) < m := by omega
      have hje : j = m := by omega
      subst hje
      rw [HM.out, List.take_length] at hR
      rw [HM.out] at rc r58
      generalize hfin : g.shots.filter (oth iv) = fin at *
      obtain ⟨h1, h2, h3, h4, h5, h6, h7⟩ := hR
      subst h5
      have own2 := own_prefix (n := fin.length) h6.own (by show fin.length ≤ L.length; rw [h1]; exact h2)
      dsimp only at own2
      rw [h3] at own2
      have res : Has b B { g with shots := fin } (wr.setCell ⟨B, 58, none⟩ (.slice (some ⟨gs, 0, none⟩) fin.length c)) :=
        ⟨some ⟨gs, 0, none⟩, c, blk_shots (g := { g with shots := fin }) h6.game _, ownsRow_setCell_other (a := ⟨B, 58, none⟩) own2 (by intro e; injection e with e; exact h6.apart e) _⟩
      have RES := Lib.hid res
      have K7 := Lib.hid (h7.put 58 (.slice (some ⟨gs, 0, none⟩) fin.length c))
      have HF := Lib.hid hfin
      clear h1 h2 h3 h4 h6 h7 own2 res hfin
      go_wp2
      go_end0
      rw [HF.out]
      exact ⟨rfl, RES.out, K7.out⟩
set_option maxRecDepth 100000 in
set_option maxHeartbeats 2000000 in
theorem remove_shots (g : Gm.G) (A : Option Addr) (n c i : Nat) (w : World) (hg : Gm.ok g) (hn : n = g.shots.length) (hr : Lies w w.heap.size 6 A n (Gm.shotCells g.shots)) (hi : i < 8) (ho : (g.ship i).on = true) (h0 : g.shots.length ≠ 0) :
    Calls Tryz.prog 97 #[.agg (Gm.cells g (.slice A n c)), .int .i64 i] w (Out (Gm.remove g i) 0 w) := by
  have b1 : Box (((w.alloc (.cells (Gm.cells g (.slice A n c)) 28)).alloc (.cells #[.int .i64 i] 3)).alloc (.cells (Gm.cells zeroG (.slice none 0 0)) 28)) w.heap.size 28 (Gm.cells g (.slice A n c)) := ((Box.made _ _ _).alloc _).alloc _
  have b2 : Box (((w.alloc (.cells (Gm.cells g (.slice A n c)) 28)).alloc (.cells #[.int .i64 i] 3)).alloc (.cells (Gm.cells zeroG (.slice none 0 0)) 28)) (w.heap.size + 1 + 1) 28 (Gm.cells zeroG (.slice none 0 0)) := Box.made_at _ _ _ (by simp)
  have b3 : Box (((w.alloc (.cells (Gm.cells g (.slice A n c)) 28)).alloc (.cells #[.int .i64 i] 3)).alloc (.cells (Gm.cells zeroG (.slice none 0 0)) 28)) (w.heap.size + 1) 3 #[.int .i64 i] := (Box.made_at _ _ _ (by simp)).alloc _
  have hb0 := (two_below' w (.cells (Gm.cells g (.slice A n c)) 28) (.cells #[.int .i64 i] 3)).alloc (by simp <;> omega) (.cells (Gm.cells zeroG (.slice none 0 0)) 28)
  have co := Lib.hid (own_any g A n c _ hn (by have := hg.2.2.1; omega) ((hr.below hb0).wider hb0.size))
  have cm := fun X (hX : Below w.heap.size w X) => Lib.hid (may_yes g A n c X hg hn ((hr.below hX).wider hX.size))
  have cs := fun X => Lib.hid (isslot_any i (by omega) X)
  rw [decide_eq_true (show (0 : Int) ≤ i by omega), decide_eq_true (show (i : Int) < 8 by omega), Bool.and_self] at cs
  have q0 : (Gm.cells g (.slice A n c))[2 + i * 7]? = some (.bool true) := (Gm.cells_ship g _ i 0 hi (by omega)).trans (by show some (Value.bool (g.ship i).on) = _; rw [ho])
  have hi8 : (i : Int) < 8 := by omega
  obtain ⟨t, ht⟩ : ∃ t, t = g.ship i := ⟨_, rfl⟩
  have r0 : ∀ s, (Gm.cells g s)[2 + i * 7]? = some (.bool t.on) := fun s => (Gm.cells_ship g s i 0 hi (by omega)).trans (by rw [ht]; rfl)
  have r1 : ∀ s, (Gm.cells g s)[2 + i * 7 + 1]? = some (.int .i32 t.x) := fun s => (Gm.cells_ship g s i 1 hi (by omega)).trans (by rw [ht]; rfl)
  have r2 : ∀ s, (Gm.cells g s)[2 + i * 7 + 2]? = some (.int .i32 t.y) := fun s => (Gm.cells_ship g s i 2 hi (by omega)).trans (by rw [ht]; rfl)
  have r3 : ∀ s, (Gm.cells g s)[2 + i * 7 + 3]? = some (.int .i32 t.vx) := fun s => (Gm.cells_ship g s i 3 hi (by omega)).trans (by rw [ht]; rfl)
  have r4 : ∀ s, (Gm.cells g s)[2 + i * 7 + 4]? = some (.int .i32 t.vy) := fun s => (Gm.cells_ship g s i 4 hi (by omega)).trans (by rw [ht]; rfl)
  have r5 : ∀ s, (Gm.cells g s)[2 + i * 7 + 5]? = some (.int .i64 t.cool) := fun s => (Gm.cells_ship g s i 5 hi (by omega)).trans (by rw [ht]; rfl)
  have r6 : ∀ s, (Gm.cells g s)[2 + i * 7 + 6]? = some (.int .i64 t.score) := fun s => (Gm.cells_ship g s i 6 hi (by omega)).trans (by rw [ht]; rfl)
  have hN := Lib.hid hn
  have H0 := Lib.hid h0
  have hl32 := hg.2.2.1
  have HB := Lib.hid hb0
  have B1 := Lib.hid b1
  have B2 := Lib.hid b2
  have B3 := Lib.hid b3
  clear hr hn b1 b2 b3 hb0 ho hg ht h0
  go_enter Tryz.func97, Tryz.ntmps97
  go_upto_region 5 with (first | (refine wpList_alloc_game rfl rfl ?_) | ((with_reducible refine load_gate rfl rfl ?_); apply LoadGame.mk rfl; (with_reducible exact B1.out)) | ((with_reducible refine load_gate rfl rfl ?_); apply LoadGame.mk rfl; (with_reducible exact D1.out)) | ((with_reducible refine load_gate rfl rfl ?_); apply LoadGame.mk rfl; exact F1.out) | (go_at_call 98; ((with_reducible refine (co.out).mono ?_); rintro e w1 ⟨A1, c1, rfl, ho1, hb1⟩; have HB1 := Lib.hid ((HB.out.trans (hb1.mono HB.out.size)).alloc (by have := hb1.size; simp at this; omega) (.cells (Gm.cells g (.slice A1 n c1)) 28)); have O1 := Lib.hid ((own_rebase (base' := w.heap.size) ho1 (by simp; omega)).alloc (.cells (Gm.cells g (.slice A1 n c1)) 28)); have D1 := Lib.hid ((B1.out.below hb1 (by simp <;> omega)).alloc (.cells (Gm.cells g (.slice A1 n c1)) 28)); have D2 := Lib.hid ((B2.out.below hb1 (by simp <;> omega)).alloc (.cells (Gm.cells g (.slice A1 n c1)) 28)); have D3 := Lib.hid ((B3.out.below hb1 (by simp <;> omega)).alloc (.cells (Gm.cells g (.slice A1 n c1)) 28)); have s1 : w.heap.size + 1 + 1 < w1.heap.size := (by have := hb1.size; simp at this; omega); have ho1H := Lib.hid ho1; clear ho1 hb1)) | (refine wpList_store_game_new rfl rfl rfl rfl rfl rfl ?_) | (go_at_call 24; ((with_reducible refine ((cm _ HB1.out).out).mono ?_); rintro e w2 ⟨rfl, hb2⟩; have HB2 := Lib.hid (HB1.out.trans (hb2.mono HB1.out.size)); have O2 := Lib.hid (own_below O1.out hb2 (Nat.le_refl _)); have F1 := Lib.hid ((Box.made w1 28 (Gm.cells g (.slice A1 n c1))).below hb2 (by simp)); have f1c := F1.out.cell; have f1f := F1.out.free; have H9 := Lib.hid ((has_made (w := w) hN.out (own_rebase (base' := w.heap.size) ho1H.out (by simp; omega))).call hb2); have E1 := (D1.out.below hb2 D1.out.lt).cell; have E3' := D3.out.below hb2 D3.out.lt; have E3 := E3'.cell; have E3H := Lib.hid E3'; have G2 := Lib.hid (D2.out.below hb2 D2.out.lt); clear hb2)) | (go_at_call 91; ((with_reducible refine ((cs _).out).mono ?_); rintro e w' ⟨rfl, rfl⟩)) | ((with_reducible refine store_gate rfl rfl ?_); apply StoreGame.mk rfl rfl rfl; exact G2.out))
  have W5 : Has w.heap.size w1.heap.size { g with ship := Gm.upd g.ship i Gm.Ship.none } (stored w2 w1.heap.size i Gm.Ship.none) := H9.out.stored hi _
  have K5 := (Keep.refl (show w.heap.size ≤ w1.heap.size by omega) w2).stored (k := i) Gm.Ship.none
  obtain ⟨W, hW⟩ : ∃ W, W = stored w2 w1.heap.size i Gm.Ship.none := ⟨_, rfl⟩
  rw [← hW] at W5 K5
  simp only [stored, Gm.Ship.none] at hW
  rw [← hW]
  have ck := Lib.hid (keep_rest { g with ship := Gm.upd g.ship i Gm.Ship.none } w.heap.size w1.heap.size (w.heap.size + 1) i W (by omega) W5 H0.out hl32 (E3H.out.keep K5 (by omega) (by decide)))
  have hmf : ∀ (fn : Fn) (first cap : Array Value) (w : World), (Instr.makeFunc fn first cap).run Tryz.prog w = .ok (.func fn first cap) w := fun _ _ _ _ => rfl
  have ne2 : w.heap.size + 1 + 1 ≠ w1.heap.size := by omega
  have R5 := Lib.hid (G2.out.keep K5 ne2 (by decide))
  have KK5 := Lib.hid (HB2.out.trans (K5.to HB2.out.size))
  clear hW W5 K5 E1 E3 f1c f1f r0 r1 r2 r3 r4 r5 r6
  go_wp2_with (first | (go_at_call 103; ((with_reducible refine (ck.out).mono ?_); rintro e w4 ⟨rfl, h4, k4⟩; obtain ⟨A4, c4, B4, O4⟩ := h4; have F4 := Lib.hid B4; have O4H := Lib.hid O4; have R4 := Lib.hid (R5.out.keep k4 ne2 (by decide)); have K4 := Lib.hid (KK5.out.trans (k4.to KK5.out.size)); clear B4 O4 k4)) | ((with_reducible refine load_gate rfl rfl ?_); apply LoadGame.mk rfl; exact F4.out) | ((with_reducible refine store_gate rfl rfl ?_); apply StoreGame.mk rfl rfl rfl; exact R4.out))
  refine bodyPost_ret (v := .tuple #[.agg (Gm.cells (Gm.remove g i) (.slice A4 (g.shots.filter (oth i)).length c4)), .int .i64 0]) ?_ ?_ ?_
  · exact results_cell_tmp (p := 4) (q := 5) rfl _ _ _ _ (Gm.cells (Gm.remove g i) (.slice A4 (g.shots.filter (oth i)).length c4)) _ rfl (Box.row R4.out _) Tryz.underlying28 rfl game_info
  · rfl
  · exact ⟨A4, c4, rfl, Lies.owned (own_setRow O4H.out (R4.out.unowned O4H.out (by decide)) _), Below.setRow' K4.out (by omega) _⟩

theorem remove_all (g : Gm.G) (A : Option Addr) (n c i : Nat) (w : World) (hg : Gm.ok g) (hn : n = g.shots.length) (hr : Lies w w.heap.size 6 A n (Gm.shotCells g.shots)) (hi : i < 8) (ho : (g.ship i).on = true) :
    Calls Tryz.prog 97 #[.agg (Gm.cells g (.slice A n c)), .int .i64 i] w (Out (Gm.remove g i) 0 w) := by
  by_cases h0 : g.shots.length = 0
  · have h0' : g.shots = [] := List.eq_nil_of_length_eq_zero h0
    have e : Gm.remove g i = { g with ship := Gm.upd g.ship i Gm.Ship.none } := by unfold Gm.remove; rw [h0']; rfl
    rw [e]
    exact remove_yes g A n c i w hg hn hr hi ho h0'
  · exact remove_shots g A n c i w hg hn hr hi ho h0
end Go.Proofs.YtiahpncglpfjeaaGreat
namespace Go.Proofs.YtiahpncglpfjeaaGreat
open Go.RowKit Go.Shelf
set_option linter.unusedVariables false
set_option linter.unusedSimpArgs false
attribute [local go_sem] Oper.semAt_some
/-- What Free knows on its way. -/
structure Freeing (B Bg Bf Bl : Nat) (w0 : World) (r : Ros.R) (st : Int × Int) (W : World) : Prop where
  sit : Sit B Bg w0 r W
  fr : Box W Bf 3 #[.int .i64 st.1]
  le : Box W Bl 3 #[.int .i64 st.2]
section
variable {B Bg Bf Bl : Nat} {w0 W W' : World} {r : Ros.R} {st : Int × Int}
theorem Freeing.turned {row : Option Nat} (h : Freeing B Bg Bf Bl w0 r st W) (hg : W.grownBy W' row) (hr : ∀ r, row = some r → w0.heap.size ≤ r ∧ ∃ o : Obj, W.heap[r]? = some o ∧ o.isCells = false) : Freeing B Bg Bf Bl w0 r st W' :=
  ⟨h.sit.turned hg hr, h.fr.turned hg fun r e => (hr r e).2, h.le.turned hg fun r e => (hr r e).2⟩
theorem Freeing.call (h : Freeing B Bg Bf Bl w0 r st W) (hb : Below W.heap.size W W') : Freeing B Bg Bf Bl w0 r st W' :=
  ⟨h.sit.call hb, h.fr.below hb h.fr.lt, h.le.below hb h.le.lt⟩
theorem Freeing.drew (h : Freeing B Bg Bf Bl w0 r st W) : Freeing B Bg Bf Bl w0 r st W.drew := ⟨h.sit.drew, h.fr.drew, h.le.drew⟩
end

/-- What Mask knows on its way. -/
structure Masking (B Bg Bm : Nat) (w0 : World) (r : Ros.R) (m : Nat) (W : World) : Prop where
  sit : Sit B Bg w0 r W
  bits : Box W Bm 3 #[.int .i64 (m : Int)]
section
variable {B Bg Bm m : Nat} {w0 W W' : World} {r : Ros.R}
theorem Masking.turned {row : Option Nat} (h : Masking B Bg Bm w0 r m W) (hg : W.grownBy W' row) (hr : ∀ r, row = some r → w0.heap.size ≤ r ∧ ∃ o : Obj, W.heap[r]? = some o ∧ o.isCells = false) : Masking B Bg Bm w0 r m W' :=
  ⟨h.sit.turned hg hr, h.bits.turned hg fun r e => (hr r e).2⟩
theorem Masking.drew (h : Masking B Bg Bm w0 r m W) : Masking B Bg Bm w0 r m W.drew := ⟨h.sit.drew, h.bits.drew⟩
theorem Masking.put (h : Masking B Bg Bm w0 r m W) (hl : w0.heap.size ≤ Bm) (n : Nat) : Masking B Bg Bm w0 r n (W.setCell ⟨Bm, 0, none⟩ (.int .i64 (n : Int))) :=
  ⟨h.sit.far (p := ⟨Bm, 0, none⟩) h.bits (by decide) (by decide) hl, h.bits.put 0 _⟩
end

end Go.Proofs.YtiahpncglpfjeaaGreat
namespace Go.Proofs.YtiahpncglpfjeaaGreat
open Go.RowKit Go.Shelf
set_option linter.unusedVariables false
set_option linter.unusedSimpArgs false

set_option maxRecDepth 100000 in
set_option maxHeartbeats 2000000 in
theorem roschange_any (r : Ros.R) (s : Int) (w : World) :
    Calls Tryz.prog 82 #[.agg (Ros.cells r), .int .i64 s] w fun e w' => e = .returned (.bool (decide ((Ros.Ok r ∧ r.version < 1073741824) ∧ 0 ≤ s ∧ s < 8))) ∧ Below w.heap.size w w' := by
  have cm := fun X => Lib.hid (rosmay_any r X)
  have cs := fun X => Lib.hid (rosslot_any s X)
  have P0 := Lib.hid (Box.made w 33 (Ros.cells r))
  have PB := Lib.hid (one_below w (.cells (Ros.cells r) 33))
  have c0 := Ros.cells_0 r
  by_cases hok : Ros.Ok r
  · have hmay : Ros.may r = true := decide_eq_true hok
    rw [hmay] at cm
    by_cases hv : r.version < 1073741824
    · have dv : decide (r.version < 1073741824) = true := decide_eq_true hv
      by_cases hs : 0 ≤ s ∧ s < 8
      · rw [decide_eq_true hs] at cs
        have HD : Hid (decide ((Ros.Ok r ∧ r.version < 1073741824) ∧ 0 ≤ s ∧ s < 8) = true) := Lib.hid (decide_eq_true ⟨⟨hok, hv⟩, hs⟩)
        clear hok hmay hv hs
        go_enter Tryz.func82, Tryz.ntmps82
        go_wp2_with (first | ((with_reducible refine ros_load rfl rfl ?_); apply LoadRow.mk rfl; (focus (with_reducible exact P0.out)); (focus (exact ros_info))) | (go_at_call 54; ((with_reducible refine ((cm _).out).mono ?_); rintro e w1 ⟨rfl, hb1⟩; have Q0 := Lib.hid (P0.out.below hb1 P0.out.lt); have QB := Lib.hid (PB.out.trans (hb1.mono PB.out.size)); have q0 := Q0.out.cell; clear hb1)) | (go_at_call 48; ((with_reducible refine ((cs _).out).mono ?_); rintro e w2 ⟨rfl, rfl⟩)))
        go_ret
        exact ⟨by rw [HD.out]; rfl, QB.out⟩
      · rw [decide_eq_false hs] at cs
        have HD : Hid (decide ((Ros.Ok r ∧ r.version < 1073741824) ∧ 0 ≤ s ∧ s < 8) = false) := Lib.hid (decide_eq_false fun h => hs h.2)
        clear hok hmay hv hs
        go_enter Tryz.func82, Tryz.ntmps82
        go_wp2_with (first | ((with_reducible refine ros_load rfl rfl ?_); apply LoadRow.mk rfl; (focus (with_reducible exact P0.out)); (focus (exact ros_info))) | (go_at_call 54; ((with_reducible refine ((cm _).out).mono ?_); rintro e w1 ⟨rfl, hb1⟩; have Q0 := Lib.hid (P0.out.below hb1 P0.out.lt); have QB := Lib.hid (PB.out.trans (hb1.mono PB.out.size)); have q0 := Q0.out.cell; clear hb1)) | (go_at_call 48; ((with_reducible refine ((cs _).out).mono ?_); rintro e w2 ⟨rfl, rfl⟩)))
        go_ret
        exact ⟨by rw [HD.out]; rfl, QB.out⟩
    · have dv : decide (r.version < 1073741824) = false := decide_eq_false hv
      have HD : Hid (decide ((Ros.Ok r ∧ r.version < 1073741824) ∧ 0 ≤ s ∧ s < 8) = false) := Lib.hid (decide_eq_false fun h => hv h.1.2)
      clear hok hmay hv
      go_enter Tryz.func82, Tryz.ntmps82
      go_wp2_with (first | ((with_reducible refine ros_load rfl rfl ?_); apply LoadRow.mk rfl; (focus (with_reducible exact P0.out)); (focus (exact ros_info))) | (go_at_call 54; ((with_reducible refine ((cm _).out).mono ?_); rintro e w1 ⟨rfl, hb1⟩; have Q0 := Lib.hid (P0.out.below hb1 P0.out.lt); have QB := Lib.hid (PB.out.trans (hb1.mono PB.out.size)); have q0 := Q0.out.cell; clear hb1)) | (go_at_call 48; ((with_reducible refine ((cs _).out).mono ?_); rintro e w2 ⟨rfl, rfl⟩)))
      go_ret
      exact ⟨by rw [HD.out]; rfl, QB.out⟩
  · have hmay : Ros.may r = false := decide_eq_false hok
    rw [hmay] at cm
    have HD : Hid (decide ((Ros.Ok r ∧ r.version < 1073741824) ∧ 0 ≤ s ∧ s < 8) = false) := Lib.hid (decide_eq_false fun h => hok h.1.1)
    clear hok hmay
    go_enter Tryz.func82, Tryz.ntmps82
    go_wp2_with (first | ((with_reducible refine ros_load rfl rfl ?_); apply LoadRow.mk rfl; (focus (with_reducible exact P0.out)); (focus (exact ros_info))) | (go_at_call 54; ((with_reducible refine ((cm _).out).mono ?_); rintro e w1 ⟨rfl, hb1⟩; have Q0 := Lib.hid (P0.out.below hb1 P0.out.lt); have QB := Lib.hid (PB.out.trans (hb1.mono PB.out.size)); have q0 := Q0.out.cell; clear hb1)) | (go_at_call 48; ((with_reducible refine ((cs _).out).mono ?_); rintro e w2 ⟨rfl, rfl⟩)))
    go_ret
    exact ⟨by rw [HD.out]; rfl, QB.out⟩

/-- A roster in its block is stored to. -/
theorem Box.rosv {w : World} {B : Nat} {r : Ros.R} (h : Box w B 33 (Ros.cells r)) (v : Int) : Box (w.setCell ⟨B, 0, none⟩ (.int .i64 v)) B 33 (Ros.cells { r with version := v }) := Ros.cells_setv r v ▸ h.put 0 _
theorem Box.rosp {w : World} {B k : Nat} {r : Ros.R} (h : Box w B 33 (Ros.cells r)) (hk : k < 8) (v : Int) : Box (w.setCell ⟨B, 1 + k * 2, none⟩ (.int .i64 v)) B 33 (Ros.cells { r with peer := Ros.upd r.peer k v }) := Ros.cells_setp r k hk v ▸ h.put _ _
theorem Box.rosg {w : World} {B k : Nat} {r : Ros.R} (h : Box w B 33 (Ros.cells r)) (hk : k < 8) (v : Int) : Box (w.setCell ⟨B, 1 + k * 2 + 1, none⟩ (.int .i64 v)) B 33 (Ros.cells { r with gen := Ros.upd r.gen k v }) := Ros.cells_setg r k hk v ▸ h.put _ _

set_option maxRecDepth 100000 in
set_option maxHeartbeats 2000000 in
theorem rosgive_no (r : Ros.R) (s : Int) (w : World) (hno : ¬ Ros.MayGive r s) :
    Calls Tryz.prog 49 #[.agg (Ros.cells r), .int .i64 s] w fun e w' => e = .returned (.tuple #[.agg (Ros.cells r), .int .i64 1]) ∧ Below w.heap.size w w' := by
  have cc := fun X => Lib.hid (roschange_any r s X)
  have P0 := Lib.hid ((Box.made w 33 (Ros.cells r)).alloc (.cells (Ros.cells rosZero) 33))
  have P1 := Lib.hid (Box.made_at (n := w.heap.size + 1) (w.alloc (.cells (Ros.cells r) 33)) 33 (Ros.cells rosZero) (by simp))
  have PB := Lib.hid (two_below' w (.cells (Ros.cells r) 33) (.cells (Ros.cells rosZero) 33))
  have c0 := Ros.cells_0 r
  by_cases hch : (Ros.Ok r ∧ r.version < 1073741824) ∧ 0 ≤ s ∧ s < 8
  · rw [decide_eq_true hch] at cc
    have hp : r.peer s.toNat = -1 := Decidable.byContradiction fun h => hno ⟨hch, h⟩
    obtain ⟨k, rfl⟩ : ∃ k : Nat, s = k := ⟨s.toNat, by omega⟩
    have hk : k < 8 := by omega
    have hk8 : (k : Int) < 8 := by omega
    have cpk := Ros.cells_peer r k hk
    rw [show r.peer k = -1 from hp] at cpk
    clear hch hp hno
    go_enter Tryz.func49, Tryz.ntmps49
    go_wp2_with (first | ((with_reducible refine ros_alloc rfl rfl ?_)) | ((with_reducible refine ros_load rfl rfl ?_); apply LoadRow.mk rfl; (focus (with_reducible exact P0.out)); (focus (exact ros_info))) | (go_at_call 82; ((with_reducible refine ((cc _).out).mono ?_); rintro e w1 ⟨rfl, hb⟩; have Q0 := Lib.hid (P0.out.below hb P0.out.lt); have Q1 := Lib.hid (P1.out.below hb P1.out.lt); have QB := Lib.hid (PB.out.trans (hb.mono PB.out.size)); have q0 := Q0.out.cell; have qf := Q0.out.free; clear hb)) | ((with_reducible refine ros_load rfl rfl ?_); apply LoadRow.mk rfl; (focus (with_reducible exact Q0.out)); (focus (exact ros_info))) | ((with_reducible refine ros_store rfl rfl ?_); apply StoreRow.mk rfl rfl; (focus (with_reducible exact Q1.out)); (focus (exact ros_info)); (focus rfl); (focus (exact ros_one _))))
    have hE := Q1.out.row (Ros.cells r)
    refine bodyPost_ret (v := .tuple #[.agg (Ros.cells r), .int .i64 1]) ?_ rfl ?_
    · exact results_cell_tmp (p := 4) (q := 5) rfl _ _ _ _ (Ros.cells r) _ rfl hE Tryz.underlying33 rfl ros_info
    · exact ⟨rfl, Below.setRow' QB.out (by omega) _⟩
  · rw [decide_eq_false hch] at cc
    clear hch hno
    go_enter Tryz.func49, Tryz.ntmps49
    go_wp2_with (first | ((with_reducible refine ros_alloc rfl rfl ?_)) | ((with_reducible refine ros_load rfl rfl ?_); apply LoadRow.mk rfl; (focus (with_reducible exact P0.out)); (focus (exact ros_info))) | (go_at_call 82; ((with_reducible refine ((cc _).out).mono ?_); rintro e w1 ⟨rfl, hb⟩; have Q0 := Lib.hid (P0.out.below hb P0.out.lt); have Q1 := Lib.hid (P1.out.below hb P1.out.lt); have QB := Lib.hid (PB.out.trans (hb.mono PB.out.size)); have q0 := Q0.out.cell; have qf := Q0.out.free; clear hb)) | ((with_reducible refine ros_load rfl rfl ?_); apply LoadRow.mk rfl; (focus (with_reducible exact Q0.out)); (focus (exact ros_info))) | ((with_reducible refine ros_store rfl rfl ?_); apply StoreRow.mk rfl rfl; (focus (with_reducible exact Q1.out)); (focus (exact ros_info)); (focus rfl); (focus (exact ros_one _))))
    have hE := Q1.out.row (Ros.cells r)
    refine bodyPost_ret (v := .tuple #[.agg (Ros.cells r), .int .i64 1]) ?_ rfl ?_
    · exact results_cell_tmp (p := 4) (q := 5) rfl _ _ _ _ (Ros.cells r) _ rfl hE Tryz.underlying33 rfl ros_info
    · exact ⟨rfl, Below.setRow' QB.out (by omega) _⟩

set_option maxRecDepth 100000 in
set_option maxHeartbeats 2000000 in
theorem rosgive_yes (r : Ros.R) (k : Nat) (w : World) (hyes : Ros.MayGive r k) :
    Calls Tryz.prog 49 #[.agg (Ros.cells r), .int .i64 k] w fun e w' => e = .returned (.tuple #[.agg (Ros.cells (Ros.give r k)), .int .i64 0]) ∧ Below w.heap.size w w' := by
  have cc := fun X => Lib.hid (roschange_any r k X)
  have P0 := Lib.hid ((Box.made w 33 (Ros.cells r)).alloc (.cells (Ros.cells rosZero) 33))
  have P1 := Lib.hid (Box.made_at (n := w.heap.size + 1) (w.alloc (.cells (Ros.cells r) 33)) 33 (Ros.cells rosZero) (by simp))
  have PB := Lib.hid (two_below' w (.cells (Ros.cells r) 33) (.cells (Ros.cells rosZero) 33))
  have c0 := Ros.cells_0 r
  obtain ⟨hch, hp⟩ := hyes
  rw [decide_eq_true hch] at cc
  have hk : k < 8 := by omega
  have hk8 : (k : Int) < 8 := by omega
  have cpk := Ros.cells_peer r k hk
  obtain ⟨pk, hpk⟩ : ∃ pk, r.peer k = pk := ⟨_, rfl⟩
  have hp' : r.peer k ≠ -1 := hp
  rw [hpk] at cpk hp'
  have hb : (pk == -1) = false := by simpa using hp'
  have hwrap : IntKind.i64.wrap (r.version + 1) = r.version + 1 := by rw [IntKind.wrap_i64]; have := hch.1.1.1; omega
  clear hch hp hp' hpk
  go_enter Tryz.func49, Tryz.ntmps49
  go_upto_region 5 with (first | ((with_reducible refine ros_alloc rfl rfl ?_)) | ((with_reducible refine ros_load rfl rfl ?_); apply LoadRow.mk rfl; (focus (with_reducible exact P0.out)); (focus (exact ros_info))) | (go_at_call 82; ((with_reducible refine ((cc _).out).mono ?_); rintro e w1 ⟨rfl, hb⟩; have Q0 := Lib.hid (P0.out.below hb P0.out.lt); have Q1 := Lib.hid (P1.out.below hb P1.out.lt); have QB := Lib.hid (PB.out.trans (hb.mono PB.out.size)); have q0 := Q0.out.cell; have qf := Q0.out.free; clear hb)))
  obtain ⟨U, hU⟩ : ∃ U, U = (w1.setCell ⟨w.heap.size, 1 + k * 2, none⟩ (.int .i64 (-1))).setCell ⟨w.heap.size, 0, none⟩ (.int .i64 (r.version + 1)) := ⟨_, rfl⟩
  have U0 : Box U w.heap.size 33 (Ros.cells (Ros.give r k)) := by rw [hU]; exact (Q0.out.rosp hk (-1)).rosv _
  have U1 : Box U (w.heap.size + 1) 33 (Ros.cells rosZero) := by rw [hU]; exact (Q1.out.far (by show _ ≠ _; simp) _).far (by show _ ≠ _; simp) _
  have UB : Below w.heap.size w U := by rw [hU]; exact (QB.out.setCell (Nat.le_refl _) _).setCell (Nat.le_refl _) _
  rw [← hU]
  have V0 := Lib.hid U0
  have V1 := Lib.hid U1
  have VB := Lib.hid UB
  clear hU U0 U1 UB Q0 Q1 QB q0 qf
  go_wp2_with (first | ((with_reducible refine ros_load rfl rfl ?_); apply LoadRow.mk rfl; (focus (with_reducible exact V0.out)); (focus (exact ros_info))) | ((with_reducible refine ros_store rfl rfl ?_); apply StoreRow.mk rfl rfl; (focus (with_reducible exact V1.out)); (focus (exact ros_info)); (focus rfl); (focus (exact ros_one _))))
  have hE := V1.out.row (Ros.cells (Ros.give r k))
  refine bodyPost_ret (v := .tuple #[.agg (Ros.cells (Ros.give r k)), .int .i64 0]) ?_ rfl ?_
  · exact results_cell_tmp (p := 4) (q := 5) rfl _ _ _ _ (Ros.cells (Ros.give r k)) _ rfl hE Tryz.underlying33 rfl ros_info
  · exact ⟨rfl, Below.setRow' VB.out (by omega) _⟩

set_option maxRecDepth 100000 in
set_option maxHeartbeats 2000000 in
theorem rostake_no (r : Ros.R) (s p : Int) (w : World) (hno : ¬ Ros.MayTake r s p) :
    Calls Tryz.prog 47 #[.agg (Ros.cells r), .int .i64 s, .int .i64 p] w fun e w' => e = .returned (.tuple #[.agg (Ros.cells r), .int .i64 1]) ∧ Below w.heap.size w w' := by
  have cc := fun X => Lib.hid (roschange_any r s X)
  have cp := fun X => Lib.hid (rospeer_any p X)
  have co := fun X => Lib.hid (rosof_any r p X)
  have P0 := Lib.hid ((Box.made w 33 (Ros.cells r)).alloc (.cells (Ros.cells rosZero) 33))
  have P1 := Lib.hid (Box.made_at (n := w.heap.size + 1) (w.alloc (.cells (Ros.cells r) 33)) 33 (Ros.cells rosZero) (by simp))
  have PB := Lib.hid (two_below' w (.cells (Ros.cells r) 33) (.cells (Ros.cells rosZero) 33))
  have c0 := Ros.cells_0 r
  by_cases hch : (Ros.Ok r ∧ r.version < 1073741824) ∧ 0 ≤ s ∧ s < 8
  · rw [decide_eq_true hch] at cc
    by_cases hp : 0 ≤ p ∧ p < 12
    · rw [decide_eq_true hp] at cp
      by_cases ho : Ros.of r p = -1
      · rw [ho] at co
        obtain ⟨k, rfl⟩ : ∃ k : Nat, s = k := ⟨s.toNat, by omega⟩
        have hk : k < 8 := by omega
        have hk8 : (k : Int) < 8 := by omega
        have cpk := Ros.cells_peer r k hk
        have cgk := Ros.cells_gen r k hk
        by_cases hpk : r.peer k = -1
        · have hgk : r.gen k = 60000 := Decidable.byContradiction fun h => hno ⟨⟨hch, hp, ho⟩, hpk, h⟩
          rw [hpk] at cpk
          rw [hgk] at cgk
          clear hno hch hp ho hpk hgk
          go_enter Tryz.func47, Tryz.ntmps47
          go_wp2_with (first | ((with_reducible refine ros_alloc rfl rfl ?_)) | ((with_reducible refine ros_load rfl rfl ?_); apply LoadRow.mk rfl; (focus (with_reducible exact P0.out)); (focus (exact ros_info))) | (go_at_call 82; ((with_reducible refine ((cc _).out).mono ?_); rintro e w1 ⟨rfl, hb⟩; have Q0 := Lib.hid (P0.out.below hb P0.out.lt); have Q1 := Lib.hid (P1.out.below hb P1.out.lt); have QB := Lib.hid (PB.out.trans (hb.mono PB.out.size)); have q0 := Q0.out.cell; have qf := Q0.out.free; clear hb)) | (go_at_call 83; ((with_reducible refine ((cp _).out).mono ?_); rintro e w9 ⟨rfl, rfl⟩)) | (go_at_call 84; ((with_reducible refine ((co _).out).mono ?_); rintro e w2 ⟨rfl, hb⟩; have S0 := Lib.hid (Q0.out.below hb Q0.out.lt); have S1 := Lib.hid (Q1.out.below hb Q1.out.lt); have SB := Lib.hid (QB.out.trans (hb.mono QB.out.size)); have s0 := S0.out.cell; have sf := S0.out.free; clear hb)) | ((with_reducible refine ros_load_g ?_ rfl ?_); (focus first | rfl | kernel_rfl | simp [Region.wanted, yielded]); apply LoadRow.mk rfl; (focus (with_reducible exact Q0.out)); (focus (exact ros_info))) | ((with_reducible refine ros_load rfl rfl ?_); apply LoadRow.mk rfl; (focus (with_reducible exact S0.out)); (focus (exact ros_info))) | ((with_reducible refine ros_store rfl rfl ?_); apply StoreRow.mk rfl rfl; (focus (with_reducible exact S1.out)); (focus (exact ros_info)); (focus rfl); (focus (exact ros_one _))))
          have hE := S1.out.row (Ros.cells r)
          refine bodyPost_ret (v := .tuple #[.agg (Ros.cells r), .int .i64 1]) ?_ rfl ?_
          · exact results_cell_tmp (p := 6) (q := 7) rfl _ _ _ _ (Ros.cells r) _ rfl hE Tryz.underlying33 rfl ros_info
          · exact ⟨rfl, Below.setRow' SB.out (by omega) _⟩
        · obtain ⟨pk, hpe⟩ : ∃ pk, r.peer k = pk := ⟨_, rfl⟩
          rw [hpe] at cpk hpk
          have hb : (pk == -1) = false := by simpa using hpk
          have hb' : (pk != -1) = true := by simpa using hpk
          clear hno hch hp ho hpk hpe
          go_enter Tryz.func47, Tryz.ntmps47
          go_wp2_with (first | ((with_reducible refine ros_alloc rfl rfl ?_)) | ((with_reducible refine ros_load rfl rfl ?_); apply LoadRow.mk rfl; (focus (with_reducible exact P0.out)); (focus (exact ros_info))) | (go_at_call 82; ((with_reducible refine ((cc _).out).mono ?_); rintro e w1 ⟨rfl, hb⟩; have Q0 := Lib.hid (P0.out.below hb P0.out.lt); have Q1 := Lib.hid (P1.out.below hb P1.out.lt); have QB := Lib.hid (PB.out.trans (hb.mono PB.out.size)); have q0 := Q0.out.cell; have qf := Q0.out.free; clear hb)) | (go_at_call 83; ((with_reducible refine ((cp _).out).mono ?_); rintro e w9 ⟨rfl, rfl⟩)) | (go_at_call 84; ((with_reducible refine ((co _).out).mono ?_); rintro e w2 ⟨rfl, hb⟩; have S0 := Lib.hid (Q0.out.below hb Q0.out.lt); have S1 := Lib.hid (Q1.out.below hb Q1.out.lt); have SB := Lib.hid (QB.out.trans (hb.mono QB.out.size)); have s0 := S0.out.cell; have sf := S0.out.free; clear hb)) | ((with_reducible refine ros_load_g ?_ rfl ?_); (focus first | rfl | kernel_rfl | simp [Region.wanted, yielded]); apply LoadRow.mk rfl; (focus (with_reducible exact Q0.out)); (focus (exact ros_info))) | ((with_reducible refine ros_load rfl rfl ?_); apply LoadRow.mk rfl; (focus (with_reducible exact S0.out)); (focus (exact ros_info))) | ((with_reducible refine ros_store rfl rfl ?_); apply StoreRow.mk rfl rfl; (focus (with_reducible exact S1.out)); (focus (exact ros_info)); (focus rfl); (focus (exact ros_one _))))
          have hE := S1.out.row (Ros.cells r)
          refine bodyPost_ret (v := .tuple #[.agg (Ros.cells r), .int .i64 1]) ?_ rfl ?_
          · exact results_cell_tmp (p := 6) (q := 7) rfl _ _ _ _ (Ros.cells r) _ rfl hE Tryz.underlying33 rfl ros_info
          · exact ⟨rfl, Below.setRow' SB.out (by omega) _⟩
      · have hb' : (Ros.of r p != -1) = true := by simpa using ho
        generalize Ros.of r p = o at co hb'
        clear hno hch hp ho
        go_enter Tryz.func47, Tryz.ntmps47
        go_wp2_with (first | ((with_reducible refine ros_alloc rfl rfl ?_)) | ((with_reducible refine ros_load rfl rfl ?_); apply LoadRow.mk rfl; (focus (with_reducible exact P0.out)); (focus (exact ros_info))) | (go_at_call 82; ((with_reducible refine ((cc _).out).mono ?_); rintro e w1 ⟨rfl, hb⟩; have Q0 := Lib.hid (P0.out.below hb P0.out.lt); have Q1 := Lib.hid (P1.out.below hb P1.out.lt); have QB := Lib.hid (PB.out.trans (hb.mono PB.out.size)); have q0 := Q0.out.cell; have qf := Q0.out.free; clear hb)) | (go_at_call 83; ((with_reducible refine ((cp _).out).mono ?_); rintro e w9 ⟨rfl, rfl⟩)) | (go_at_call 84; ((with_reducible refine ((co _).out).mono ?_); rintro e w2 ⟨rfl, hb⟩; have S0 := Lib.hid (Q0.out.below hb Q0.out.lt); have S1 := Lib.hid (Q1.out.below hb Q1.out.lt); have SB := Lib.hid (QB.out.trans (hb.mono QB.out.size)); have s0 := S0.out.cell; have sf := S0.out.free; clear hb)) | ((with_reducible refine ros_load_g ?_ rfl ?_); (focus first | rfl | kernel_rfl | simp [Region.wanted, yielded]); apply LoadRow.mk rfl; (focus (with_reducible exact Q0.out)); (focus (exact ros_info))) | ((with_reducible refine ros_load rfl rfl ?_); apply LoadRow.mk rfl; (focus (with_reducible exact S0.out)); (focus (exact ros_info))) | ((with_reducible refine ros_store rfl rfl ?_); apply StoreRow.mk rfl rfl; (focus (with_reducible exact S1.out)); (focus (exact ros_info)); (focus rfl); (focus (exact ros_one _))))
        have hE := S1.out.row (Ros.cells r)
        refine bodyPost_ret (v := .tuple #[.agg (Ros.cells r), .int .i64 1]) ?_ rfl ?_
        · exact results_cell_tmp (p := 6) (q := 7) rfl _ _ _ _ (Ros.cells r) _ rfl hE Tryz.underlying33 rfl ros_info
        · exact ⟨rfl, Below.setRow' SB.out (by omega) _⟩
    · rw [decide_eq_false hp] at cp
      clear hno hch hp
      go_enter Tryz.func47, Tryz.ntmps47
      go_wp2_with (first | ((with_reducible refine ros_alloc rfl rfl ?_)) | ((with_reducible refine ros_load rfl rfl ?_); apply LoadRow.mk rfl; (focus (with_reducible exact P0.out)); (focus (exact ros_info))) | (go_at_call 82; ((with_reducible refine ((cc _).out).mono ?_); rintro e w1 ⟨rfl, hb⟩; have Q0 := Lib.hid (P0.out.below hb P0.out.lt); have Q1 := Lib.hid (P1.out.below hb P1.out.lt); have QB := Lib.hid (PB.out.trans (hb.mono PB.out.size)); have q0 := Q0.out.cell; have qf := Q0.out.free; clear hb)) | (go_at_call 83; ((with_reducible refine ((cp _).out).mono ?_); rintro e w9 ⟨rfl, rfl⟩)) | ((with_reducible refine ros_load rfl rfl ?_); apply LoadRow.mk rfl; (focus (with_reducible exact Q0.out)); (focus (exact ros_info))) | ((with_reducible refine ros_store rfl rfl ?_); apply StoreRow.mk rfl rfl; (focus (with_reducible exact Q1.out)); (focus (exact ros_info)); (focus rfl); (focus (exact ros_one _))))
      have hE := Q1.out.row (Ros.cells r)
      refine bodyPost_ret (v := .tuple #[.agg (Ros.cells r), .int .i64 1]) ?_ rfl ?_
      · exact results_cell_tmp (p := 6) (q := 7) rfl _ _ _ _ (Ros.cells r) _ rfl hE Tryz.underlying33 rfl ros_info
      · exact ⟨rfl, Below.setRow' QB.out (by omega) _⟩
  · rw [decide_eq_false hch] at cc
    clear hch hno
    go_enter Tryz.func47, Tryz.ntmps47
    go_wp2_with (first | ((with_reducible refine ros_alloc rfl rfl ?_)) | ((with_reducible refine ros_load rfl rfl ?_); apply LoadRow.mk rfl; (focus (with_reducible exact P0.out)); (focus (exact ros_info))) | (go_at_call 82; ((with_reducible refine ((cc _).out).mono ?_); rintro e w1 ⟨rfl, hb⟩; have Q0 := Lib.hid (P0.out.below hb P0.out.lt); have Q1 := Lib.hid (P1.out.below hb P1.out.lt); have QB := Lib.hid (PB.out.trans (hb.mono PB.out.size)); have q0 := Q0.out.cell; have qf := Q0.out.free; clear hb)) | ((with_reducible refine ros_load rfl rfl ?_); apply LoadRow.mk rfl; (focus (with_reducible exact Q0.out)); (focus (exact ros_info))) | ((with_reducible refine ros_store rfl rfl ?_); apply StoreRow.mk rfl rfl; (focus (with_reducible exact Q1.out)); (focus (exact ros_info)); (focus rfl); (focus (exact ros_one _))))
    have hE := Q1.out.row (Ros.cells r)
    refine bodyPost_ret (v := .tuple #[.agg (Ros.cells r), .int .i64 1]) ?_ rfl ?_
    · exact results_cell_tmp (p := 6) (q := 7) rfl _ _ _ _ (Ros.cells r) _ rfl hE Tryz.underlying33 rfl ros_info
    · exact ⟨rfl, Below.setRow' QB.out (by omega) _⟩

set_option maxRecDepth 100000 in
set_option maxHeartbeats 2000000 in
theorem rostake_yes (r : Ros.R) (k : Nat) (p : Int) (w : World) (hyes : Ros.MayTake r k p) :
    Calls Tryz.prog 47 #[.agg (Ros.cells r), .int .i64 k, .int .i64 p] w fun e w' => e = .returned (.tuple #[.agg (Ros.cells (Ros.take r k p)), .int .i64 0]) ∧ Below w.heap.size w w' := by
  have cc := fun X => Lib.hid (roschange_any r k X)
  have cp := fun X => Lib.hid (rospeer_any p X)
  have co := fun X => Lib.hid (rosof_any r p X)
  have P0 := Lib.hid ((Box.made w 33 (Ros.cells r)).alloc (.cells (Ros.cells rosZero) 33))
  have P1 := Lib.hid (Box.made_at (n := w.heap.size + 1) (w.alloc (.cells (Ros.cells r) 33)) 33 (Ros.cells rosZero) (by simp))
  have PB := Lib.hid (two_below' w (.cells (Ros.cells r) 33) (.cells (Ros.cells rosZero) 33))
  have c0 := Ros.cells_0 r
  obtain ⟨⟨hch, hp, ho⟩, hpk, hgk⟩ := hyes
  rw [decide_eq_true hch] at cc
  rw [decide_eq_true hp] at cp
  rw [ho] at co
  have hk : k < 8 := by omega
  have hk8 : (k : Int) < 8 := by omega
  have cpk := Ros.cells_peer r k hk
  have cgk := Ros.cells_gen r k hk
  rw [show r.peer k = -1 from hpk] at cpk
  have hgk' : r.gen k ≠ 60000 := hgk
  have hgb := (Ros.Ok.seat hch.1.1 k hk).1
  obtain ⟨gk, hge⟩ : ∃ gk, r.gen k = gk := ⟨_, rfl⟩
  have HGE := Lib.hid hge
  rw [hge] at cgk hgk' hgb
  have hb : (gk == 60000) = false := by simpa using hgk'
  have hwg : IntKind.i64.wrap (gk + 1) = gk + 1 := by rw [IntKind.wrap_i64]; omega
  have hwrap : IntKind.i64.wrap (r.version + 1) = r.version + 1 := by rw [IntKind.wrap_i64]; have := hch.1.1.1; omega
  clear hch hp ho hpk hgk hgk' hge hgb
  go_enter Tryz.func47, Tryz.ntmps47
  go_upto_region 9 with (first | ((with_reducible refine ros_alloc rfl rfl ?_)) | ((with_reducible refine ros_load rfl rfl ?_); apply LoadRow.mk rfl; (focus (with_reducible exact P0.out)); (focus (exact ros_info))) | (go_at_call 82; ((with_reducible refine ((cc _).out).mono ?_); rintro e w1 ⟨rfl, hb⟩; have Q0 := Lib.hid (P0.out.below hb P0.out.lt); have Q1 := Lib.hid (P1.out.below hb P1.out.lt); have QB := Lib.hid (PB.out.trans (hb.mono PB.out.size)); have q0 := Q0.out.cell; have qf := Q0.out.free; clear hb)) | (go_at_call 83; ((with_reducible refine ((cp _).out).mono ?_); rintro e w9 ⟨rfl, rfl⟩)) | (go_at_call 84; ((with_reducible refine ((co _).out).mono ?_); rintro e w2 ⟨rfl, hb⟩; have S0 := Lib.hid (Q0.out.below hb Q0.out.lt); have S1 := Lib.hid (Q1.out.below hb Q1.out.lt); have SB := Lib.hid (QB.out.trans (hb.mono QB.out.size)); have s0 := S0.out.cell; have sf := S0.out.free; clear hb)) | ((with_reducible refine ros_load_g ?_ rfl ?_); (focus first | rfl | kernel_rfl | simp [Region.wanted, yielded]); apply LoadRow.mk rfl; (focus (with_reducible exact Q0.out)); (focus (exact ros_info))))
  obtain ⟨U, hU⟩ : ∃ U, U = ((w2.setCell ⟨w.heap.size, 1 + k * 2, none⟩ (.int .i64 p)).setCell ⟨w.heap.size, 1 + k * 2 + 1, none⟩ (.int .i64 (gk + 1))).setCell ⟨w.heap.size, 0, none⟩ (.int .i64 (r.version + 1)) := ⟨_, rfl⟩
  have U0 : Box U w.heap.size 33 (Ros.cells (Ros.take r k p)) := by rw [hU]; unfold Ros.take; rw [HGE.out]; exact ((S0.out.rosp hk p).rosg hk _).rosv _
  have U1 : Box U (w.heap.size + 1) 33 (Ros.cells rosZero) := by rw [hU]; exact ((S1.out.far (by show _ ≠ _; simp) _).far (by show _ ≠ _; simp) _).far (by show _ ≠ _; simp) _
  have UB : Below w.heap.size w U := by rw [hU]; exact ((SB.out.setCell (Nat.le_refl _) _).setCell (Nat.le_refl _) _).setCell (Nat.le_refl _) _
  rw [← hU]
  have V0 := Lib.hid U0
  have V1 := Lib.hid U1
  have VB := Lib.hid UB
  clear hU U0 U1 UB S0 S1 SB s0 sf Q0 Q1 QB q0 qf
  go_wp2_with (first | ((with_reducible refine ros_load rfl rfl ?_); apply LoadRow.mk rfl; (focus (with_reducible exact V0.out)); (focus (exact ros_info))) | ((with_reducible refine ros_store rfl rfl ?_); apply StoreRow.mk rfl rfl; (focus (with_reducible exact V1.out)); (focus (exact ros_info)); (focus rfl); (focus (exact ros_one _))))
  have hE := V1.out.row (Ros.cells (Ros.take r k p))
  refine bodyPost_ret (v := .tuple #[.agg (Ros.cells (Ros.take r k p)), .int .i64 0]) ?_ rfl ?_
  · exact results_cell_tmp (p := 6) (q := 7) rfl _ _ _ _ (Ros.cells (Ros.take r k p)) _ rfl hE Tryz.underlying33 rfl ros_info
  · exact ⟨rfl, Below.setRow' VB.out (by omega) _⟩
end Go.Proofs.YtiahpncglpfjeaaGreat
namespace Go.Proofs.YtiahpncglpfjeaaGreat
open Go.RowKit Go.Shelf
set_option linter.unusedVariables false
set_option linter.unusedSimpArgs false

set_option maxRecDepth 100000 in
set_option maxHeartbeats 2000000 in
theorem rosapply_join_yes (r : Ros.R) (k : Nat) (g p : Int) (w : World) (h : Ros.MayTake r k p) (hg : g = r.gen k + 1) :
    Calls Tryz.prog 23 #[.agg (Ros.cells r), .agg #[.int .i64 1, .int .i64 k, .int .i64 g, .int .i64 p]] w fun e w' => e = .returned (.tuple #[.agg (Ros.cells (Ros.take r k p)), .int .i64 0]) ∧ Below w.heap.size w w' := by
  have ct := fun X => Lib.hid (rostake_yes r k p X h)
  have P0 := Lib.hid (((Box.made w 33 (Ros.cells r)).alloc (.cells #[.int .i64 1, .int .i64 k, .int .i64 g, .int .i64 p] 61)).alloc (.cells (Ros.cells rosZero) 33))
  have P1 := Lib.hid ((Box.made_at (n := w.heap.size + 1) (w.alloc (.cells (Ros.cells r) 33)) 61 #[.int .i64 1, .int .i64 k, .int .i64 g, .int .i64 p] (by simp)).alloc (.cells (Ros.cells rosZero) 33))
  have P2 := Lib.hid (Box.made_at (n := w.heap.size + 1 + 1) ((w.alloc (.cells (Ros.cells r) 33)).alloc (.cells #[.int .i64 1, .int .i64 k, .int .i64 g, .int .i64 p] 61)) 33 (Ros.cells rosZero) (by simp))
  have PB := Lib.hid ((two_below' w (.cells (Ros.cells r) 33) (.cells #[.int .i64 1, .int .i64 k, .int .i64 g, .int .i64 p] 61)).alloc (by simp <;> omega) (.cells (Ros.cells rosZero) 33))
  have hk : k < 8 := by have := h.1.1.2; omega
  have hk8 : (k : Int) < 8 := by omega
  have cgk := Ros.cells_gen (Ros.take r k p) k hk
  rw [show (Ros.take r k p).gen k = r.gen k + 1 from Ros.upd_same _ _ _] at cgk
  obtain ⟨g', hg'⟩ : ∃ g', g' = r.gen k + 1 := ⟨_, rfl⟩
  rw [← hg'] at cgk hg
  subst hg
  clear h hg'
  have p1 := P1.out.cell
  go_enter Tryz.func23, Tryz.ntmps23
  go_upto_region 4 with (first | ((with_reducible refine ros_alloc rfl rfl ?_)) | ((with_reducible refine ros_store_new rfl rfl rfl rfl rfl ?_)) | ((with_reducible refine ros_load rfl rfl ?_); apply LoadRow.mk rfl; (focus (with_reducible exact P0.out)); (focus (exact ros_info))) | (go_at_call 47; ((with_reducible refine ((ct _).out).mono ?_); rintro e w1 ⟨rfl, hb⟩; have Q0 := Lib.hid ((P0.out.below hb P0.out.lt).alloc (.cells (Ros.cells (Ros.take r k p)) 33)); have Q1 := Lib.hid ((P1.out.below hb P1.out.lt).alloc (.cells (Ros.cells (Ros.take r k p)) 33)); have Q2 := Lib.hid ((P2.out.below hb P2.out.lt).alloc (.cells (Ros.cells (Ros.take r k p)) 33)); have QB := Lib.hid (PB.out.trans (hb.mono PB.out.size)); have q1 := Q1.out.cell; clear hb)))
  have N0 := Lib.hid (Box.made w1 33 (Ros.cells (Ros.take r k p)))
  have n0 := N0.out.cell
  have NB := Lib.hid (QB.out.alloc QB.out.size (.cells (Ros.cells (Ros.take r k p)) 33))
  go_quiet (fail)
  go_wp2_with (first | ((with_reducible refine ros_load rfl rfl ?_); apply LoadRow.mk rfl; (focus (with_reducible exact N0.out.draws _)); (focus (exact ros_info))) | ((with_reducible refine ros_store rfl rfl ?_); apply StoreRow.mk rfl rfl; (focus (with_reducible exact Q2.out.draws _)); (focus (exact ros_info)); (focus rfl); (focus (exact ros_one _))))
  have hE := (Q2.out.draws nq).row (Ros.cells (Ros.take r k p))
  refine bodyPost_ret (v := .tuple #[.agg (Ros.cells (Ros.take r k p)), .int .i64 0]) ?_ rfl ?_
  · exact results_cell_tmp (p := 4) (q := 5) rfl _ _ _ _ (Ros.cells (Ros.take r k p)) _ rfl hE Tryz.underlying33 rfl ros_info
  · exact ⟨rfl, Below.setRow' (draws_below NB.out nq) (by omega) _⟩
set_option maxRecDepth 100000 in
set_option maxHeartbeats 2000000 in
theorem rosapply_join_gen (r : Ros.R) (k : Nat) (g p : Int) (w : World) (h : Ros.MayTake r k p) (hg : g ≠ r.gen k + 1) :
    Calls Tryz.prog 23 #[.agg (Ros.cells r), .agg #[.int .i64 1, .int .i64 k, .int .i64 g, .int .i64 p]] w fun e w' => e = .returned (.tuple #[.agg (Ros.cells r), .int .i64 1]) ∧ Below w.heap.size w w' := by
  have ct := fun X => Lib.hid (rostake_yes r k p X h)
  have P0 := Lib.hid (((Box.made w 33 (Ros.cells r)).alloc (.cells #[.int .i64 1, .int .i64 k, .int .i64 g, .int .i64 p] 61)).alloc (.cells (Ros.cells rosZero) 33))
  have P1 := Lib.hid ((Box.made_at (n := w.heap.size + 1) (w.alloc (.cells (Ros.cells r) 33)) 61 #[.int .i64 1, .int .i64 k, .int .i64 g, .int .i64 p] (by simp)).alloc (.cells (Ros.cells rosZero) 33))
  have P2 := Lib.hid (Box.made_at (n := w.heap.size + 1 + 1) ((w.alloc (.cells (Ros.cells r) 33)).alloc (.cells #[.int .i64 1, .int .i64 k, .int .i64 g, .int .i64 p] 61)) 33 (Ros.cells rosZero) (by simp))
  have PB := Lib.hid ((two_below' w (.cells (Ros.cells r) 33) (.cells #[.int .i64 1, .int .i64 k, .int .i64 g, .int .i64 p] 61)).alloc (by simp <;> omega) (.cells (Ros.cells rosZero) 33))
  have hk : k < 8 := by have := h.1.1.2; omega
  have hk8 : (k : Int) < 8 := by omega
  have cgk := Ros.cells_gen (Ros.take r k p) k hk
  rw [show (Ros.take r k p).gen k = r.gen k + 1 from Ros.upd_same _ _ _] at cgk
  obtain ⟨g', hg'⟩ : ∃ g', g' = r.gen k + 1 := ⟨_, rfl⟩
  rw [← hg'] at cgk hg
  have hb : (g' == g) = false := by simp; omega
  clear h hg'
  have p1 := P1.out.cell
  go_enter Tryz.func23, Tryz.ntmps23
  go_upto_region 4 with (first | ((with_reducible refine ros_alloc rfl rfl ?_)) | ((with_reducible refine ros_store_new rfl rfl rfl rfl rfl ?_)) | ((with_reducible refine ros_load rfl rfl ?_); apply LoadRow.mk rfl; (focus (with_reducible exact P0.out)); (focus (exact ros_info))) | (go_at_call 47; ((with_reducible refine ((ct _).out).mono ?_); rintro e w1 ⟨rfl, hb⟩; have Q0 := Lib.hid ((P0.out.below hb P0.out.lt).alloc (.cells (Ros.cells (Ros.take r k p)) 33)); have Q1 := Lib.hid ((P1.out.below hb P1.out.lt).alloc (.cells (Ros.cells (Ros.take r k p)) 33)); have Q2 := Lib.hid ((P2.out.below hb P2.out.lt).alloc (.cells (Ros.cells (Ros.take r k p)) 33)); have QB := Lib.hid (PB.out.trans (hb.mono PB.out.size)); have q1 := Q1.out.cell; clear hb)))
  have N0 := Lib.hid (Box.made w1 33 (Ros.cells (Ros.take r k p)))
  have n0 := N0.out.cell
  have NB := Lib.hid (QB.out.alloc QB.out.size (.cells (Ros.cells (Ros.take r k p)) 33))
  go_quiet (fail)
  go_wp2_with (first | ((with_reducible refine ros_load rfl rfl ?_); apply LoadRow.mk rfl; (focus (with_reducible exact Q0.out.draws _)); (focus (exact ros_info))) | ((with_reducible refine ros_store rfl rfl ?_); apply StoreRow.mk rfl rfl; (focus (with_reducible exact Q2.out.draws _)); (focus (exact ros_info)); (focus rfl); (focus (exact ros_one _))))
  have hE := (Q2.out.draws nq).row (Ros.cells r)
  refine bodyPost_ret (v := .tuple #[.agg (Ros.cells r), .int .i64 1]) ?_ rfl ?_
  · exact results_cell_tmp (p := 4) (q := 5) rfl _ _ _ _ (Ros.cells r) _ rfl hE Tryz.underlying33 rfl ros_info
  · exact ⟨rfl, Below.setRow' (draws_below NB.out nq) (by omega) _⟩
set_option maxRecDepth 100000 in
set_option maxHeartbeats 2000000 in
theorem rosapply_join_no (r : Ros.R) (s g p : Int) (w : World) (h : ¬ Ros.MayTake r s p) :
    Calls Tryz.prog 23 #[.agg (Ros.cells r), .agg #[.int .i64 1, .int .i64 s, .int .i64 g, .int .i64 p]] w fun e w' => e = .returned (.tuple #[.agg (Ros.cells r), .int .i64 1]) ∧ Below w.heap.size w w' := by
  have ct := fun X => Lib.hid (rostake_no r s p X h)
  have P0 := Lib.hid (((Box.made w 33 (Ros.cells r)).alloc (.cells #[.int .i64 1, .int .i64 s, .int .i64 g, .int .i64 p] 61)).alloc (.cells (Ros.cells rosZero) 33))
  have P1 := Lib.hid ((Box.made_at (n := w.heap.size + 1) (w.alloc (.cells (Ros.cells r) 33)) 61 #[.int .i64 1, .int .i64 s, .int .i64 g, .int .i64 p] (by simp)).alloc (.cells (Ros.cells rosZero) 33))
  have P2 := Lib.hid (Box.made_at (n := w.heap.size + 1 + 1) ((w.alloc (.cells (Ros.cells r) 33)).alloc (.cells #[.int .i64 1, .int .i64 s, .int .i64 g, .int .i64 p] 61)) 33 (Ros.cells rosZero) (by simp))
  have PB := Lib.hid ((two_below' w (.cells (Ros.cells r) 33) (.cells #[.int .i64 1, .int .i64 s, .int .i64 g, .int .i64 p] 61)).alloc (by simp <;> omega) (.cells (Ros.cells rosZero) 33))
  clear h
  have p1 := P1.out.cell
  go_enter Tryz.func23, Tryz.ntmps23
  go_upto_region 4 with (first | ((with_reducible refine ros_alloc rfl rfl ?_)) | ((with_reducible refine ros_store_new rfl rfl rfl rfl rfl ?_)) | ((with_reducible refine ros_load rfl rfl ?_); apply LoadRow.mk rfl; (focus (with_reducible exact P0.out)); (focus (exact ros_info))) | (go_at_call 47; ((with_reducible refine ((ct _).out).mono ?_); rintro e w1 ⟨rfl, hb⟩; have Q0 := Lib.hid ((P0.out.below hb P0.out.lt).alloc (.cells (Ros.cells r) 33)); have Q1 := Lib.hid ((P1.out.below hb P1.out.lt).alloc (.cells (Ros.cells r) 33)); have Q2 := Lib.hid ((P2.out.below hb P2.out.lt).alloc (.cells (Ros.cells r) 33)); have QB := Lib.hid (PB.out.trans (hb.mono PB.out.size)); have q1 := Q1.out.cell; clear hb)))
  have NB := Lib.hid (QB.out.alloc QB.out.size (.cells (Ros.cells r) 33))
  go_quiet (fail)
  go_wp2_with (first | ((with_reducible refine ros_load rfl rfl ?_); apply LoadRow.mk rfl; (focus (with_reducible exact Q0.out.draws _)); (focus (exact ros_info))) | ((with_reducible refine ros_store rfl rfl ?_); apply StoreRow.mk rfl rfl; (focus (with_reducible exact Q2.out.draws _)); (focus (exact ros_info)); (focus rfl); (focus (exact ros_one _))))
  have hE := (Q2.out.draws nq).row (Ros.cells r)
  refine bodyPost_ret (v := .tuple #[.agg (Ros.cells r), .int .i64 1]) ?_ rfl ?_
  · exact results_cell_tmp (p := 4) (q := 5) rfl _ _ _ _ (Ros.cells r) _ rfl hE Tryz.underlying33 rfl ros_info
  · exact ⟨rfl, Below.setRow' (draws_below NB.out nq) (by omega) _⟩
theorem seat_eql (a b c d : Int) (w : World) : (binOp .eql 30 (.agg #[.int .i64 a, .int .i64 b]) (.agg #[.int .i64 c, .int .i64 d])).run Tryz.prog w = .ok (.bool (decide (a = c ∧ b = d))) w := by
  by_cases h1 : a = c
  · by_cases h2 : b = d
    · subst h1 h2; go_simp <;> simp
    · have h3 : (b == d) = false := by simpa using h2
      subst h1; go_simp <;> simp [h2]
  · have h3 : (a == c) = false := by simpa using h1
    go_simp <;> simp [h1]
set_option maxRecDepth 100000 in
set_option maxHeartbeats 2000000 in
theorem rosapply_leave_seat (r : Ros.R) (k : Nat) (g p : Int) (w : World) (hk : k < 8) (h : ¬ (r.peer k = p ∧ r.gen k = g)) :
    Calls Tryz.prog 23 #[.agg (Ros.cells r), .agg #[.int .i64 2, .int .i64 k, .int .i64 g, .int .i64 p]] w fun e w' => e = .returned (.tuple #[.agg (Ros.cells r), .int .i64 1]) ∧ Below w.heap.size w w' := by
  have cs := fun X => Lib.hid (rosslot_any k X)
  have P0 := Lib.hid (((Box.made w 33 (Ros.cells r)).alloc (.cells #[.int .i64 2, .int .i64 k, .int .i64 g, .int .i64 p] 61)).alloc (.cells (Ros.cells rosZero) 33))
  have P1 := Lib.hid ((Box.made_at (n := w.heap.size + 1) (w.alloc (.cells (Ros.cells r) 33)) 61 #[.int .i64 2, .int .i64 k, .int .i64 g, .int .i64 p] (by simp)).alloc (.cells (Ros.cells rosZero) 33))
  have P2 := Lib.hid (Box.made_at (n := w.heap.size + 1 + 1) ((w.alloc (.cells (Ros.cells r) 33)).alloc (.cells #[.int .i64 2, .int .i64 k, .int .i64 g, .int .i64 p] 61)) 33 (Ros.cells rosZero) (by simp))
  have PB := Lib.hid ((two_below' w (.cells (Ros.cells r) 33) (.cells #[.int .i64 2, .int .i64 k, .int .i64 g, .int .i64 p] 61)).alloc (by simp <;> omega) (.cells (Ros.cells rosZero) 33))
  have hk8 : (k : Int) < 8 := by omega
  rw [decide_eq_true (show (0 : Int) ≤ k ∧ (k : Int) < 8 from by omega)] at cs
  have cpk := Ros.cells_peer r k hk
  have cgk := Ros.cells_gen r k hk
  obtain ⟨pk, hpk⟩ : ∃ pk, r.peer k = pk := ⟨_, rfl⟩
  obtain ⟨gk, hgk⟩ : ∃ gk, r.gen k = gk := ⟨_, rfl⟩
  rw [hpk] at cpk h
  rw [hgk] at cgk h
  have he := fun W => seat_eql pk gk p g W
  simp only [decide_eq_false h] at he
  clear h hpk hgk
  have p0 := P0.out.cell
  have p1 := P1.out.cell
  go_enter Tryz.func23, Tryz.ntmps23
  go_upto_region 7 with (first | ((with_reducible refine ros_alloc rfl rfl ?_)) | ((with_reducible refine ros_store_new rfl rfl rfl rfl rfl ?_)))
  go_quiet ((go_at_call 48; with_reducible exact draws_left (cs _).out))
  go_wp2_with (first | ((with_reducible refine ros_load rfl rfl ?_); apply LoadRow.mk rfl; (focus (with_reducible exact P0.out.draws _)); (focus (exact ros_info))) | ((with_reducible refine ros_store rfl rfl ?_); apply StoreRow.mk rfl rfl; (focus (with_reducible exact P2.out.draws _)); (focus (exact ros_info)); (focus rfl); (focus (exact ros_one _))))
  have hE := (P2.out.draws nq).row (Ros.cells r)
  refine bodyPost_ret (v := .tuple #[.agg (Ros.cells r), .int .i64 1]) ?_ rfl ?_
  · exact results_cell_tmp (p := 4) (q := 5) rfl _ _ _ _ (Ros.cells r) _ rfl hE Tryz.underlying33 rfl ros_info
  · exact ⟨rfl, Below.setRow' (draws_below PB.out nq) (by omega) _⟩
set_option maxRecDepth 100000 in
set_option maxHeartbeats 2000000 in
theorem rosapply_leave_yes (r : Ros.R) (k : Nat) (w : World) (h : Ros.MayGive r k) (g p : Int) (hp : r.peer k = p) (hg : r.gen k = g) :
    Calls Tryz.prog 23 #[.agg (Ros.cells r), .agg #[.int .i64 2, .int .i64 k, .int .i64 g, .int .i64 p]] w fun e w' => e = .returned (.tuple #[.agg (Ros.cells (Ros.give r k)), .int .i64 0]) ∧ Below w.heap.size w w' := by
  have cs := fun X => Lib.hid (rosslot_any k X)
  have P0 := Lib.hid (((Box.made w 33 (Ros.cells r)).alloc (.cells #[.int .i64 2, .int .i64 k, .int .i64 g, .int .i64 p] 61)).alloc (.cells (Ros.cells rosZero) 33))
  have P1 := Lib.hid ((Box.made_at (n := w.heap.size + 1) (w.alloc (.cells (Ros.cells r) 33)) 61 #[.int .i64 2, .int .i64 k, .int .i64 g, .int .i64 p] (by simp)).alloc (.cells (Ros.cells rosZero) 33))
  have P2 := Lib.hid (Box.made_at (n := w.heap.size + 1 + 1) ((w.alloc (.cells (Ros.cells r) 33)).alloc (.cells #[.int .i64 2, .int .i64 k, .int .i64 g, .int .i64 p] 61)) 33 (Ros.cells rosZero) (by simp))
  have PB := Lib.hid ((two_below' w (.cells (Ros.cells r) 33) (.cells #[.int .i64 2, .int .i64 k, .int .i64 g, .int .i64 p] 61)).alloc (by simp <;> omega) (.cells (Ros.cells rosZero) 33))
  have hk : k < 8 := by have := h.1.2; omega
  have cg := fun X => Lib.hid (rosgive_yes r k X h)
  have hk8 : (k : Int) < 8 := by omega
  rw [decide_eq_true (show (0 : Int) ≤ k ∧ (k : Int) < 8 from by omega)] at cs
  have cpk := Ros.cells_peer r k hk
  have cgk := Ros.cells_gen r k hk
  rw [hp] at cpk
  rw [hg] at cgk
  have he := fun W => seat_eql p g p g W
  simp only [decide_eq_true (show p = p ∧ g = g from ⟨rfl, rfl⟩)] at he
  clear h hp hg
  have p0 := P0.out.cell
  have p1 := P1.out.cell
  go_enter Tryz.func23, Tryz.ntmps23
  go_upto_region 7 with (first | ((with_reducible refine ros_alloc rfl rfl ?_)) | ((with_reducible refine ros_store_new rfl rfl rfl rfl rfl ?_)))
  go_quiet ((go_at_call 48; with_reducible exact draws_left (cs _).out))
  go_wp2_with (first | ((with_reducible refine ros_load rfl rfl ?_); apply LoadRow.mk rfl; (focus (with_reducible exact P0.out.draws _)); (focus (exact ros_info))) | (go_at_call 49; ((with_reducible refine ((cg _).out).mono ?_); rintro e w1 ⟨rfl, hb⟩; have Q2 := Lib.hid ((P2.out.draws nq).below hb P2.out.lt); have QB := Lib.hid ((draws_below PB.out nq).trans (hb.mono PB.out.size)); clear hb)) | ((with_reducible refine ros_store rfl rfl ?_); apply StoreRow.mk rfl rfl; (focus (with_reducible exact Q2.out)); (focus (exact ros_info)); (focus rfl); (focus (exact ros_one _))))
  have hE := Q2.out.row (Ros.cells (Ros.give r k))
  refine bodyPost_ret (v := .tuple #[.agg (Ros.cells (Ros.give r k)), .int .i64 0]) ?_ rfl ?_
  · exact results_cell_tmp (p := 4) (q := 5) rfl _ _ _ _ (Ros.cells (Ros.give r k)) _ rfl hE Tryz.underlying33 rfl ros_info
  · exact ⟨rfl, Below.setRow' QB.out (by omega) _⟩
set_option maxRecDepth 100000 in
set_option maxHeartbeats 2000000 in
theorem rosapply_leave_no (r : Ros.R) (k : Nat) (w : World) (hk : k < 8) (h : ¬ Ros.MayGive r k) (g p : Int) (hp : r.peer k = p) (hg : r.gen k = g) :
    Calls Tryz.prog 23 #[.agg (Ros.cells r), .agg #[.int .i64 2, .int .i64 k, .int .i64 g, .int .i64 p]] w fun e w' => e = .returned (.tuple #[.agg (Ros.cells r), .int .i64 1]) ∧ Below w.heap.size w w' := by
  have cs := fun X => Lib.hid (rosslot_any k X)
  have P0 := Lib.hid (((Box.made w 33 (Ros.cells r)).alloc (.cells #[.int .i64 2, .int .i64 k, .int .i64 g, .int .i64 p] 61)).alloc (.cells (Ros.cells rosZero) 33))
  have P1 := Lib.hid ((Box.made_at (n := w.heap.size + 1) (w.alloc (.cells (Ros.cells r) 33)) 61 #[.int .i64 2, .int .i64 k, .int .i64 g, .int .i64 p] (by simp)).alloc (.cells (Ros.cells rosZero) 33))
  have P2 := Lib.hid (Box.made_at (n := w.heap.size + 1 + 1) ((w.alloc (.cells (Ros.cells r) 33)).alloc (.cells #[.int .i64 2, .int .i64 k, .int .i64 g, .int .i64 p] 61)) 33 (Ros.cells rosZero) (by simp))
  have PB := Lib.hid ((two_below' w (.cells (Ros.cells r) 33) (.cells #[.int .i64 2, .int .i64 k, .int .i64 g, .int .i64 p] 61)).alloc (by simp <;> omega) (.cells (Ros.cells rosZero) 33))
  have cg := fun X => Lib.hid (rosgive_no r k X h)
  have hk8 : (k : Int) < 8 := by omega
  rw [decide_eq_true (show (0 : Int) ≤ k ∧ (k : Int) < 8 from by omega)] at cs
  have cpk := Ros.cells_peer r k hk
  have cgk := Ros.cells_gen r k hk
  rw [hp] at cpk
  rw [hg] at cgk
  have he := fun W => seat_eql p g p g W
  simp only [decide_eq_true (show p = p ∧ g = g from ⟨rfl, rfl⟩)] at he
  clear h hp hg
  have p0 := P0.out.cell
  have p1 := P1.out.cell
  go_enter Tryz.func23, Tryz.ntmps23
  go_upto_region 7 with (first | ((with_reducible refine ros_alloc rfl rfl ?_)) | ((with_reducible refine ros_store_new rfl rfl rfl rfl rfl ?_)))
  go_quiet ((go_at_call 48; with_reducible exact draws_left (cs _).out))
  go_wp2_with (first | ((with_reducible refine ros_load rfl rfl ?_); apply LoadRow.mk rfl; (focus (with_reducible exact P0.out.draws _)); (focus (exact ros_info))) | (go_at_call 49; ((with_reducible refine ((cg _).out).mono ?_); rintro e w1 ⟨rfl, hb⟩; have Q2 := Lib.hid ((P2.out.draws nq).below hb P2.out.lt); have QB := Lib.hid ((draws_below PB.out nq).trans (hb.mono PB.out.size)); clear hb)) | ((with_reducible refine ros_store rfl rfl ?_); apply StoreRow.mk rfl rfl; (focus (with_reducible exact Q2.out)); (focus (exact ros_info)); (focus rfl); (focus (exact ros_one _))))
  have hE := Q2.out.row (Ros.cells r)
  refine bodyPost_ret (v := .tuple #[.agg (Ros.cells r), .int .i64 1]) ?_ rfl ?_
  · exact results_cell_tmp (p := 4) (q := 5) rfl _ _ _ _ (Ros.cells r) _ rfl hE Tryz.underlying33 rfl ros_info
  · exact ⟨rfl, Below.setRow' QB.out (by omega) _⟩
end Go.Proofs.YtiahpncglpfjeaaGreat
namespace Go.Proofs.YtiahpncglpfjeaaGreat
open Go.RowKit Go.Shelf
set_option linter.unusedVariables false
set_option linter.unusedSimpArgs false


theorem ev4_size : (Tryz.prog.info? 61).map (·.size) = some (#[.int .i64 0, .int .i64 0, .int .i64 0, .int .i64 0] : Array Value).size := by kernel_rfl
theorem rosapply_fail (s : Fd.S) (v : En.Ev) (w : World) (hv : En.evOk v) (hno : ¬ Fd.MayEv s v) :
    Calls Tryz.prog 23 #[.agg (Ros.cells s.r), .agg #[.int .i64 v.kind, .int .i64 v.slot, .int .i64 v.gen, .int .i64 v.peer]] w fun e w' => e = .returned (.tuple #[.agg (Ros.cells s.r), .int .i64 1]) ∧ Below w.heap.size w w' := by
  obtain ⟨q, sl, gn, pe⟩ := v
  obtain ⟨hk, hs, hg, hp⟩ := hv
  dsimp only at *
  obtain ⟨k, rfl⟩ : ∃ k : Nat, sl = k := ⟨sl.toNat, by omega⟩
  have hk8 : k < 8 := by omega
  rcases hk with rfl | rfl
  · by_cases h1 : s.r.peer k = pe ∧ s.r.gen k = gn
    · refine rosapply_leave_no s.r k w hk8 (fun h => hno (.inr ⟨rfl, h, by simpa using h1.1, by simpa using h1.2⟩)) gn pe h1.1 h1.2
    · exact rosapply_leave_seat s.r k gn pe w hk8 h1
  · by_cases h1 : Ros.MayTake s.r k pe
    · exact rosapply_join_gen s.r k gn pe w h1 (fun h => hno (.inl ⟨rfl, h1, by simpa using h⟩))
    · exact rosapply_join_no s.r k gn pe w h1

set_option maxRecDepth 100000 in
set_option maxHeartbeats 2000000 in
theorem change_no (s : Fd.S) (v : En.Ev) (A : Option Addr) (n c : Nat) (w : World) (hv : En.evOk v) (hno : ¬ Fd.MayEv s v) :
    Calls Tryz.prog 59 #[.agg (Im.cells s.g (.slice A n c) s.r), .agg #[.int .i64 v.kind, .int .i64 v.slot, .int .i64 v.gen, .int .i64 v.peer]] w (Thrown 1 w) := by
  have ca := fun X => Lib.hid (rosapply_fail s v X hv hno)
  have cn := fun X => Lib.hid (need_throws X)
  obtain ⟨q, sl, gn, pe⟩ := v
  obtain ⟨g, r⟩ := s
  dsimp only at *
  clear hv hno
  obtain ⟨C, hC⟩ : ∃ C, C = Im.cells g (.slice A n c) r := ⟨_, rfl⟩
  have P0 := Lib.hid ((((Box.made w 35 (Im.cells g (.slice A n c) r)).alloc (.cells #[.int .i64 q, .int .i64 sl, .int .i64 gn, .int .i64 pe] 61))).alloc (.cells Im.zero 35))
  have E0 := Lib.hid ((Box.made_at (n := w.heap.size + 1) (w.alloc (.cells (Im.cells g (.slice A n c) r) 35)) 61 #[.int .i64 q, .int .i64 sl, .int .i64 gn, .int .i64 pe] (by simp)).alloc (.cells Im.zero 35))
  have K0 := Lib.hid ((two_below' w (.cells (Im.cells g (.slice A n c) r) 35) (.cells #[.int .i64 q, .int .i64 sl, .int .i64 gn, .int .i64 pe] 61)).alloc (by simp <;> omega) (.cells Im.zero 35))
  go_enter Tryz.func59, Tryz.ntmps59
  go_wp2_with (first | (with_reducible refine alloc_state rfl rfl ?_) | ((with_reducible refine im_load_ros rfl rfl ?_); apply LoadIm.mk rfl; (focus (with_reducible exact P0.out)); dsimp only) | ((with_reducible refine row_load rfl rfl Tryz.underlying61 rfl ?_); apply LoadRow.mk rfl; (focus (with_reducible exact E0.out)); (focus (exact ev4_size))) | (go_at_call 23; ((with_reducible refine ((ca _).out).mono ?_); rintro e w1 ⟨rfl, hb⟩; have K1 := Lib.hid (K0.out.trans (hb.mono K0.out.size)); clear hb)) | (with_reducible refine ros_alloc rfl rfl ?_) | ((with_reducible refine ros_store_new rfl rfl rfl rfl rfl ?_)) | (go_at_call 61; ((with_reducible refine ((cn _).out).mono ?_); rintro e w2 ⟨rfl, hb⟩; have K2 := Lib.hid ((K1.out.alloc K1.out.size (.cells (Ros.cells r) 33)).trans (hb.mono (K1.out.alloc K1.out.size (.cells (Ros.cells r) 33)).size)); clear hb)))
  exact ⟨rfl, rfl, K2.out⟩
end Go.Proofs.YtiahpncglpfjeaaGreat
namespace Go.Proofs.YtiahpncglpfjeaaGreat
open Go.RowKit
set_option linter.unusedVariables false

def stateTags : List Nat := gameTags ++ List.replicate 17 1
theorem state_tags (g : Gm.G) (A : Option Addr) (n c : Nat) (r : Ros.R) (o : Nat) : ((Im.cells g (.slice A n c) r)[o]?).map tagV = stateTags[o]? := by
  rw [show (Im.cells g (.slice A n c) r)[o]? = ((([Value.int .i64 g.frame, Value.int .u64 g.dice] ++ Gm.shipCells g.ship ++ [Value.slice A n c]) ++ (Value.int .i64 r.version :: Ros.seatCells r))[o]?) from by unfold Im.cells Gm.cells Ros.cells; simp]
  rw [← List.getElem?_map]
  rfl
theorem no_shot_in_state : ∀ o, o < 76 → ¬ (stateTags[o]? = some 1 ∧ stateTags[o + 1]? = some 2) := by decide
theorem Lies.off_state {w : World} {B BG n m : Nat} {A A' : Option Addr} {c : Nat} {l : List Gm.Shot} {g : Gm.G} {r : Ros.R} (h : Lies w B 6 A n (Gm.shotCells l)) (hn : n = l.length) (hB : Box w BG 35 (Im.cells g (.slice A' m c) r)) (h0 : n ≠ 0) (ad : Addr) (e : A = some ad) : ad.block ≠ BG := by
  intro eb
  subst hn
  have hlt : 0 < l.length := by omega
  have hc := h.cell ad e h0
  have e0 := hc 0 (.int .i64 l[0].owner) (by have := Gm.shotCells_at l 0 0 hlt (by omega); simpa [Gm.Shot.cells] using this)
  have e1 := hc 1 (.int .i32 l[0].x) (by have := Gm.shotCells_at l 0 1 hlt (by omega); simpa [Gm.Shot.cells] using this)
  rw [show ad.add 0 = ad from rfl] at e0
  rw [show ad.add 1 = ⟨ad.block, ad.off + 1, none⟩ from rfl] at e1
  rw [eb, hB.cell] at e1
  have e0' : (Im.cells g (.slice A' m c) r)[ad.off]? = some (.int .i64 l[0].owner) := by
    unfold World.cell? at e0
    rw [eb, hB.is] at e0
    dsimp only at e0
    split at e0
    · cases e0
    · exact e0
  have t0 := state_tags g A' m c r ad.off
  have t1 := state_tags g A' m c r (ad.off + 1)
  rw [e0'] at t0
  rw [e1] at t1
  have hlt' : ad.off < 76 := by have := (Array.getElem?_eq_some_iff.1 e0').1; rwa [Im.cells_size] at this
  exact no_shot_in_state _ hlt' ⟨t0.symm, t1.symm⟩
/-- A state's block is stored: the shots stay. -/
theorem Lies.state_row {w : World} {n BG m : Nat} {A A' : Option Addr} {c : Nat} {l : List Gm.Shot} {g : Gm.G} {r : Ros.R} (h : Lies w w.heap.size 6 A n (Gm.shotCells l)) (hn : n = l.length) (hB : Box w BG 35 (Im.cells g (.slice A' m c) r)) (cs : Array Value) : Lies (w.setRow BG cs) (w.setRow BG cs).heap.size 6 A n (Gm.shotCells l) := by
  refine ⟨h.len, fun hn => by obtain ⟨ad, e, hb⟩ := h.start hn; exact ⟨ad, e, by rw [setRow_size]; exact hb⟩, fun ad e h0 j u hu => ?_⟩
  have hne := h.off_state hn hB h0 ad e
  rw [World.cell?_of_block (w := w) (by rw [add_block]; exact setRow_other w BG _ cs hne)]
  exact h.cell ad e h0 j u hu
/-- The shots' list lies somewhere that the world holds: a block of another type that is stored leaves it. -/
theorem Lies.zero_row {w : World} {n BG : Nat} {A : Option Addr} {l : List Gm.Shot} (h : Lies w w.heap.size 6 A n (Gm.shotCells l)) (hn : n = l.length) (hB : Box w BG 35 Im.zero) (cs : Array Value) : Lies (w.setRow BG cs) (w.setRow BG cs).heap.size 6 A n (Gm.shotCells l) :=
  h.state_row hn hB cs
/-- A row of cells that lies somewhere, in no fresh block. -/
theorem Lies.old_row {w0 w : World} {n B size : Nat} {A : Option Addr} {xs : List Value} (h : Lies w w0.heap.size size A n xs) (hB : w0.heap.size ≤ B) (cs : Array Value) : Lies (w.setRow B cs) w0.heap.size size A n xs :=
  h.stays fun b hb => setRow_other w B b cs (by omega)
end Go.Proofs.YtiahpncglpfjeaaGreat
namespace Go.Proofs.YtiahpncglpfjeaaGreat
open Go.RowKit Go.Shelf
set_option linter.unusedVariables false
set_option linter.unusedSimpArgs false


/-- What lies there while an event is done: the state, the event, the answer's room. -/
structure Ch (w : World) (g : Gm.G) (s : Value) (r : Ros.R) (E : Array Value) (W : World) : Prop where
  st : Box W w.heap.size 35 (Im.cells g s r)
  ev : Box W (w.heap.size + 1) 61 E
  out : Box W (w.heap.size + 1 + 1) 35 Im.zero
  below : Below w.heap.size w W
theorem Ch.call {w W W' : World} {g : Gm.G} {s : Value} {r : Ros.R} {E : Array Value} (h : Ch w g s r E W) (hb : Below W.heap.size W W') : Ch w g s r E W' :=
  ⟨h.st.below hb h.st.lt, h.ev.below hb h.ev.lt, h.out.below hb h.out.lt, h.below.trans (hb.mono h.below.size)⟩
theorem Ch.alloc {w W : World} {g : Gm.G} {s : Value} {r : Ros.R} {E : Array Value} (h : Ch w g s r E W) (o : Obj) : Ch w g s r E (W.alloc o) := h.call (one_below W o)
theorem Ch.store {w W : World} {g g' : Gm.G} {s s' : Value} {r r' : Ros.R} {E : Array Value} (h : Ch w g s r E W) : Ch w g' s' r' E (W.setRow w.heap.size (Im.cells g' s' r')) :=
  ⟨h.st.row _, h.ev.row_far (by omega) _, h.out.row_far (by omega) _, Below.setRow' h.below (Nat.le_refl _) _⟩
theorem ch_start (w : World) (g : Gm.G) (s : Value) (r : Ros.R) (E : Array Value) : Ch w g s r E (((w.alloc (.cells (Im.cells g s r) 35)).alloc (.cells E 61)).alloc (.cells Im.zero 35)) :=
  ⟨((Box.made w 35 (Im.cells g s r)).alloc (.cells E 61)).alloc (.cells Im.zero 35), (Box.made_at (n := w.heap.size + 1) (w.alloc (.cells (Im.cells g s r) 35)) 61 E (by simp)).alloc (.cells Im.zero 35), Box.made_at _ _ _ (by simp),
    (two_below' w (.cells (Im.cells g s r) 35) (.cells E 61)).alloc (by simp <;> omega) (.cells Im.zero 35)⟩

set_option maxRecDepth 100000 in
set_option maxHeartbeats 2000000 in
theorem change_join (g : Gm.G) (r : Ros.R) (k : Nat) (gn pe : Int) (A : Option Addr) (n c : Nat) (w : World) (hok : Im.Ok g r) (hd : 0 ≤ g.dice ∧ g.dice ≤ 18446744073709551615) (hk : k < 8) (hn : n = g.shots.length) (hr : Lies w w.heap.size 6 A n (Gm.shotCells g.shots)) (ht : Ros.MayTake r k pe) (hg : gn = r.gen k + 1) :
    Calls Tryz.prog 59 #[.agg (Im.cells g (.slice A n c) r), .agg #[.int .i64 1, .int .i64 (k : Int), .int .i64 gn, .int .i64 pe]] w (SOne (Gm.spawn g k) (Ros.take r k pe) w) := by
  have hpk : r.peer k = -1 := ht.2.1
  have hoff : (g.ship k).on = false := (hok.2.2 k hk).trans (decide_eq_false (by omega))
  have ca := fun X => Lib.hid (rosapply_join_yes r k gn pe X ht hg)
  have cs := fun X hX => Lib.hid (spawn_yes g A n c k X hok.1 hd hn hX hk hoff)
  have cn := fun X => Lib.hid (need_ok X)
  clear hok hd ht hg hpk hoff
  have C0 := Lib.hid (ch_start w g (.slice A n c) r #[.int .i64 1, .int .i64 (k : Int), .int .i64 gn, .int .i64 pe])
  have L0 := Lib.hid (hr.below C0.out.below)
  have hN := Lib.hid hn
  clear hr hn
  go_enter Tryz.func59, Tryz.ntmps59
  go_upto_region 4 with (first | (with_reducible refine alloc_state rfl rfl ?_) | ((with_reducible refine im_load_ros rfl rfl ?_); apply LoadIm.mk rfl; (focus (with_reducible exact C0.out.st)); dsimp only) | ((with_reducible refine row_load rfl rfl Tryz.underlying61 rfl ?_); apply LoadRow.mk rfl; (focus (with_reducible exact C0.out.ev)); (focus (exact ev4_size))) | (go_at_call 23; ((with_reducible refine ((ca _).out).mono ?_); rintro e w1 ⟨rfl, hb⟩; have C1 := Lib.hid ((C0.out.call hb).alloc (.cells (Ros.cells (Ros.take r k pe)) 33)); have Q1 := Lib.hid (Box.made w1 33 (Ros.cells (Ros.take r k pe))); have L1 := Lib.hid ((L0.out.below (hb.mono C0.out.below.size)).below ((one_below w1 (.cells (Ros.cells (Ros.take r k pe)) 33)).mono (Nat.le_trans C0.out.below.size hb.size))); clear hb)) | (with_reducible refine ros_alloc rfl rfl ?_) | ((with_reducible refine ros_store_new rfl rfl rfl rfl rfl ?_)) | (go_at_call 61; ((with_reducible refine ((cn _).out).mono ?_); rintro e w2 ⟨rfl, hb⟩; have C2 := Lib.hid (C1.out.call hb); have Q2 := Lib.hid (Q1.out.below hb Q1.out.lt); have L2 := Lib.hid (L1.out.below (hb.mono C1.out.below.size)); have C3 := Lib.hid (C2.out.store (g' := g) (s' := .slice A n c) (r' := Ros.take r k pe)); have L3 := Lib.hid (L2.out.old_row (Nat.le_refl _) (Im.cells g (.slice A n c) (Ros.take r k pe))); have LL := Lib.hid (L3.out.wider C3.out.below.size); have k3 := C3.out.ev.cell; clear hb)) | ((with_reducible refine ros_load rfl rfl ?_); apply LoadRow.mk rfl; (focus (with_reducible exact Q2.out)); (focus (exact ros_info))) | ((with_reducible refine im_store_ros rfl rfl ?_); apply StoreR.mk rfl rfl; (focus (with_reducible exact C2.out.st))))
  go_wp2_with (first | ((with_reducible refine im_load_game rfl rfl ?_); apply LoadIm.mk rfl; (focus (with_reducible exact C3.out.st)); dsimp only) | (go_at_call 96; ((with_reducible refine ((cs _ LL.out).out).mono ?_); rintro e w4 ⟨A4, c4, rfl, hL, hb⟩; have C4 := Lib.hid (C3.out.call hb); have C5 := Lib.hid (C4.out.store (g' := Gm.spawn g k) (s' := .slice A4 (Gm.spawn g k).shots.length c4) (r' := Ros.take r k pe)); have L5 := Lib.hid (hL.state_row rfl C4.out.st (Im.cells (Gm.spawn g k) (.slice A4 (Gm.spawn g k).shots.length c4) (Ros.take r k pe))); clear hb hL)) | ((with_reducible refine im_store_game rfl rfl ?_); apply StoreG.mk rfl rfl; (focus (with_reducible exact C4.out.st)); (focus rfl)) | (go_at_call 61; ((with_reducible refine ((cn _).out).mono ?_); rintro e w6 ⟨rfl, hb⟩; have C6 := Lib.hid (C5.out.call hb); have L6 := Lib.hid (L5.out.call hb); clear hb)) | ((with_reducible refine im_load_state rfl rfl ?_); apply LoadIm.mk rfl; (focus (with_reducible exact C6.out.st)); dsimp only) | ((with_reducible refine im_store_state rfl rfl ?_); apply StoreS.mk rfl rfl; (focus (with_reducible exact C6.out.out)); (focus (exact Im.zero_size)); (focus rfl)))
  refine bodyPost_ret (v := .agg (Im.cells (Gm.spawn g k) (.slice A4 (Gm.spawn g k).shots.length c4) (Ros.take r k pe))) ?_ ?_ ?_
  · exact results_cell_row rfl _ _ _ _ (Im.cells (Gm.spawn g k) (.slice A4 (Gm.spawn g k).shots.length c4) (Ros.take r k pe)) (0, 0) _ rfl (C6.out.out.row _).is Tryz.underlying35 rfl (by rw [Im.cells_size]; exact state_info)
  · rfl
  · exact ⟨A4, c4, rfl, L6.out.zero_row rfl C6.out.out _, Below.setRow' C6.out.below (by omega) _⟩
set_option maxRecDepth 100000 in
set_option maxHeartbeats 2000000 in
theorem change_leave (g : Gm.G) (r : Ros.R) (k : Nat) (gn pe : Int) (A : Option Addr) (n c : Nat) (w : World) (hok : Im.Ok g r) (hd : 0 ≤ g.dice ∧ g.dice ≤ 18446744073709551615) (hk : k < 8) (hn : n = g.shots.length) (hr : Lies w w.heap.size 6 A n (Gm.shotCells g.shots)) (ht : Ros.MayGive r k) (hp : r.peer k = pe) (hg : r.gen k = gn) :
    Calls Tryz.prog 59 #[.agg (Im.cells g (.slice A n c) r), .agg #[.int .i64 2, .int .i64 (k : Int), .int .i64 gn, .int .i64 pe]] w (SOne (Gm.remove g k) (Ros.give r k) w) := by
  have hpk : 0 ≤ r.peer k := by
    rcases (hok.2.1.seat k hk).2 with h | h
    · exact absurd h (by simpa using ht.2)
    · exact h.1.1
  have hon : (g.ship k).on = true := (hok.2.2 k hk).trans (decide_eq_true hpk)
  have ca := fun X => Lib.hid (rosapply_leave_yes r k X ht gn pe hp hg)
  have cs := fun X hX => Lib.hid (remove_all g A n c k X hok.1 hn hX hk hon)
  have cn := fun X => Lib.hid (need_ok X)
  clear hok hd ht hg hpk hon hp
  have C0 := Lib.hid (ch_start w g (.slice A n c) r #[.int .i64 2, .int .i64 (k : Int), .int .i64 gn, .int .i64 pe])
  have L0 := Lib.hid (hr.below C0.out.below)
  have hN := Lib.hid hn
  clear hr hn
  go_enter Tryz.func59, Tryz.ntmps59
  go_upto_region 4 with (first | (with_reducible refine alloc_state rfl rfl ?_) | ((with_reducible refine im_load_ros rfl rfl ?_); apply LoadIm.mk rfl; (focus (with_reducible exact C0.out.st)); dsimp only) | ((with_reducible refine row_load rfl rfl Tryz.underlying61 rfl ?_); apply LoadRow.mk rfl; (focus (with_reducible exact C0.out.ev)); (focus (exact ev4_size))) | (go_at_call 23; ((with_reducible refine ((ca _).out).mono ?_); rintro e w1 ⟨rfl, hb⟩; have C1 := Lib.hid ((C0.out.call hb).alloc (.cells (Ros.cells (Ros.give r k)) 33)); have Q1 := Lib.hid (Box.made w1 33 (Ros.cells (Ros.give r k))); have L1 := Lib.hid ((L0.out.below (hb.mono C0.out.below.size)).below ((one_below w1 (.cells (Ros.cells (Ros.give r k)) 33)).mono (Nat.le_trans C0.out.below.size hb.size))); clear hb)) | (with_reducible refine ros_alloc rfl rfl ?_) | ((with_reducible refine ros_store_new rfl rfl rfl rfl rfl ?_)) | (go_at_call 61; ((with_reducible refine ((cn _).out).mono ?_); rintro e w2 ⟨rfl, hb⟩; have C2 := Lib.hid (C1.out.call hb); have Q2 := Lib.hid (Q1.out.below hb Q1.out.lt); have L2 := Lib.hid (L1.out.below (hb.mono C1.out.below.size)); have C3 := Lib.hid (C2.out.store (g' := g) (s' := .slice A n c) (r' := Ros.give r k)); have L3 := Lib.hid (L2.out.old_row (Nat.le_refl _) (Im.cells g (.slice A n c) (Ros.give r k))); have LL := Lib.hid (L3.out.wider C3.out.below.size); have k3 := C3.out.ev.cell; clear hb)) | ((with_reducible refine ros_load rfl rfl ?_); apply LoadRow.mk rfl; (focus (with_reducible exact Q2.out)); (focus (exact ros_info))) | ((with_reducible refine im_store_ros rfl rfl ?_); apply StoreR.mk rfl rfl; (focus (with_reducible exact C2.out.st))))
  go_wp2_with (first | ((with_reducible refine im_load_game rfl rfl ?_); apply LoadIm.mk rfl; (focus (with_reducible exact C3.out.st)); dsimp only) | (go_at_call 97; ((with_reducible refine ((cs _ LL.out).out).mono ?_); rintro e w4 ⟨A4, c4, rfl, hL, hb⟩; have C4 := Lib.hid (C3.out.call hb); have C5 := Lib.hid (C4.out.store (g' := Gm.remove g k) (s' := .slice A4 (Gm.remove g k).shots.length c4) (r' := Ros.give r k)); have L5 := Lib.hid (hL.state_row rfl C4.out.st (Im.cells (Gm.remove g k) (.slice A4 (Gm.remove g k).shots.length c4) (Ros.give r k))); clear hb hL)) | ((with_reducible refine im_store_game rfl rfl ?_); apply StoreG.mk rfl rfl; (focus (with_reducible exact C4.out.st)); (focus rfl)) | (go_at_call 61; ((with_reducible refine ((cn _).out).mono ?_); rintro e w6 ⟨rfl, hb⟩; have C6 := Lib.hid (C5.out.call hb); have L6 := Lib.hid (L5.out.call hb); clear hb)) | ((with_reducible refine im_load_state rfl rfl ?_); apply LoadIm.mk rfl; (focus (with_reducible exact C6.out.st)); dsimp only) | ((with_reducible refine im_store_state rfl rfl ?_); apply StoreS.mk rfl rfl; (focus (with_reducible exact C6.out.out)); (focus (exact Im.zero_size)); (focus rfl)))
  refine bodyPost_ret (v := .agg (Im.cells (Gm.remove g k) (.slice A4 (Gm.remove g k).shots.length c4) (Ros.give r k))) ?_ ?_ ?_
  · exact results_cell_row rfl _ _ _ _ (Im.cells (Gm.remove g k) (.slice A4 (Gm.remove g k).shots.length c4) (Ros.give r k)) (0, 0) _ rfl (C6.out.out.row _).is Tryz.underlying35 rfl (by rw [Im.cells_size]; exact state_info)
  · rfl
  · exact ⟨A4, c4, rfl, L6.out.zero_row rfl C6.out.out _, Below.setRow' C6.out.below (by omega) _⟩
theorem change_yes (s : Fd.S) (v : En.Ev) (A : Option Addr) (n c : Nat) (w : World) (hs : Fd.Fine s) (hv : Fd.MayEv s v) (hn : n = s.g.shots.length) (hr : Lies w w.heap.size 6 A n (Gm.shotCells s.g.shots)) :
    Calls Tryz.prog 59 #[.agg (Im.cells s.g (.slice A n c) s.r), .agg #[.int .i64 v.kind, .int .i64 v.slot, .int .i64 v.gen, .int .i64 v.peer]] w (SOne (Fd.after s v).g (Fd.after s v).r w) := by
  rcases hv with ⟨hk, ht, hg⟩ | ⟨hk, ht, hp, hg⟩
  · obtain ⟨k, hk8, e, e', hpk, ht', hp0⟩ := Fd.take_on ht
    unfold Fd.after
    rw [if_pos hk, e', hk, e]
    exact change_join s.g s.r k v.gen v.peer A n c w hs.ok hs.dice hk8 hn hr ht' (by rw [hg, e'])
  · obtain ⟨k, hk8, e, e', hpk, ht'⟩ := Fd.give_on ht
    unfold Fd.after
    rw [if_neg (by omega), e', hk, e]
    exact change_leave s.g s.r k v.gen v.peer A n c w hs.ok hs.dice hk8 hn hr ht' (by rw [← hp, e']) (by rw [← hg, e'])
end Go.Proofs.YtiahpncglpfjeaaGreat
