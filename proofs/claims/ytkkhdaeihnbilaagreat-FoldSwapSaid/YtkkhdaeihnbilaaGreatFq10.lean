/-
Several texts in one: Rm Sc Rv Rr Gk Ed Bd Op Ec Ee Ol Ls Et Es Eh Ek Rn.
-/
import Derived.Test.YtkkhdaeihnbilaaGreatFq9
namespace Go.Proofs.YtkkhdaeihnbilaaGreat
open Go.RowKit Go.Shelf
set_option linter.unusedVariables false
set_option linter.unusedSimpArgs false

theorem HasAt.draws {b B : Nat} {A : Option Addr} {c : Nat} {g : Gm.G} {w : World} (h : HasAt b B A c g w) (n : Nat) : HasAt b B A c g (w.drewN n) := ⟨⟨h.game.is⟩, h.own⟩
theorem HasAt.shotIs {b B c gs i : Nat} {G : Gm.G} {W : World} (h : HasAt b B (some ⟨gs, 0, none⟩) c G W) (hi : i < G.shots.length) (j : Nat) (hj : j < 6) : W.cell? ⟨gs, i * 6 + j, none⟩ = G.shots[i].cells[j]? := by
  have h1 := h.own
  rw [h1.cellAt (i * 6 + j) (by omega), Gm.shotCells_at _ i j hi hj]
theorem Keep.draws {b B : Nat} {w w' : World} (h : Keep b B w w') (n : Nat) : Keep b B w (w'.drewN n) := ⟨h.os, h.tape, h.output, h.size, h.low, h.block⟩

set_option maxHeartbeats 1000000 in
theorem other_owner (G : Gm.G) (b B c gs j Bi : Nat) (i : Int) (w : World) (hbB : b ≤ B) (hj : j < G.shots.length) (h : HasAt b B (some ⟨gs, 0, none⟩) c G w) (hi : Box w Bi 3 #[.int .i64 i]) :
    Calls Tryz.prog 126 #[.pointer (some ⟨gs, j * 6, none⟩), .pointer (some ⟨Bi, 0, none⟩)] w fun e w' => e = .returned (.bool (decide (G.shots[j].owner ≠ i))) ∧ HasAt b B (some ⟨gs, 0, none⟩) c G w' ∧ Keep b B w w' ∧ Box w' Bi 3 #[.int .i64 i] := by
  have q0 := h.shotIs hj 0 (by omega)
  generalize hs : G.shots[j] = s at q0 ⊢
  obtain ⟨so, sx, sy, svx, svy, sl⟩ := s
  simp only [Gm.Shot.cells, List.getElem?_cons_zero, Nat.add_zero] at q0
  have r0 := hi.cell 0
  simp only [List.getElem?_toArray, List.getElem?_cons_zero] at r0
  have H := Lib.hid h
  have HI := Lib.hid hi
  clear h hs hi
  go_enter Tryz.func126, Tryz.ntmps126
  by_cases ho : so = i
  · subst ho
    go_upto_region 1 with fail
    go_quiet (fail)
    go_wp2
    go_ret
    exact ⟨by simp, H.out.draws _, (Keep.refl hbB _).draws _, ⟨HI.out.is⟩⟩
  · have hne : (so != i) = true := by simpa using ho
    go_upto_region 1 with fail
    go_quiet (fail)
    go_wp2
    go_ret
    exact ⟨by simp [ho], H.out.draws _, (Keep.refl hbB _).draws _, ⟨HI.out.is⟩⟩

def oth (i : Int) : Gm.Shot → Bool := fun s => decide (s.owner ≠ i)
theorem oth_snoc (i : Int) (l : List Gm.Shot) (j : Nat) (hj : j < l.length) : (l.take (j + 1)).filter (oth i) = (l.take j).filter (oth i) ++ (if oth i l[j] then [l[j]] else []) := by
  rw [List.take_succ_eq_append_getElem hj, List.filter_append]
  congr 1
  cases h : oth i l[j] <;> simp [h]
set_option maxRecDepth 100000 in
set_option maxHeartbeats 4000000 in
theorem keep_rest (g : Gm.G) (b B Bi : Nat) (iv : Int) (w : World) (hbB : b ≤ B) (h : Has b B g w) (hne : g.shots.length ≠ 0) (hlen : g.shots.length ≤ 32) (hi : Box w Bi 3 #[.int .i64 iv]) :
    Calls Tryz.prog 103 #[.pointer (some ⟨B, 0, none⟩), .func (.func 126) #[] #[.pointer (some ⟨Bi, 0, none⟩)]] w fun e w' => e = .returned (.tuple #[]) ∧ Has b B { g with shots := g.shots.filter (oth iv) } w' ∧ Keep b B w w' := by
  obtain ⟨A, c, hB, hO⟩ := h
  have h : HasAt b B A c g w := ⟨hB, hO⟩
  obtain ⟨gs, rfl, hbg, _⟩ := h.len hne
  obtain ⟨m, hm⟩ : ∃ m, m = g.shots.length := ⟨_, rfl⟩
  have start : Stays b B c gs 0 w g ⟨g.dice, g.ship, []⟩ g.shots (.slice (some ⟨gs, 0, none⟩) 0 c) w :=
    ⟨rfl, Nat.le_refl _, rfl, fun _ _ => rfl, rfl, h, Keep.refl hbB w⟩
  have START := Lib.hid start
  have HI0 := Lib.hid hi
  have hcc := hB.cell
  have e58 := Gm.cells_58 g (.slice (some ⟨gs, 0, none⟩) g.shots.length c)
  rw [← hm] at hcc e58 hne hlen
  obtain ⟨i0, hi0, hz0, hz1, hz2⟩ := info_parts shot_info
  have hI := Lib.hid hi0
  have hS := Lib.hid hz1
  have HM := Lib.hid hm
  clear hB hO h start hi0 hz0 hz1 hz2 hm hi
  go_enter Tryz.func103, Tryz.ntmps103
  go_wp2
  go_loopg [4, 16] m (fun gg s4 i wr => ∃ (j : Nat) (L : List Gm.Shot), j ≤ m ∧ gg = m - j ∧ i = .int .i64 j ∧ Stays b B c gs j w g ⟨g.dice, g.ship, (g.shots.take j).filter (oth iv)⟩ L s4 wr ∧ Box wr Bi 3 #[.int .i64 iv])
  case atStart => exact ⟨0, g.shots, by omega, rfl, rfl, START.out, HI0.out⟩
  case round =>
    obtain ⟨j, L, hj, rfl, rfl, hR, hQ⟩ := hrel
    clear hcc e58
    have hLm : L.length = m := by rw [hR.len, HM.out]
    have r58 := Gm.cells_58 { g with shots := L } (.slice (some ⟨gs, 0, none⟩) L.length c)
    have rc := hR.has.game.cell
    have rf := hR.has.game.free
    dsimp only at rc
    rw [hLm] at rc r58
    by_cases hlt : j < m
    · have hjm : (j : Int) < m := by omega
      have hjl : j < g.shots.length := by rw [← HM.out]; exact hlt
      have hsn := Lib.hid (oth_snoc iv g.shots j hjl)
      have hLj : L[j]'(by rw [hLm]; exact hlt) = g.shots[j] := by
        have := hR.rest j (Nat.le_refl _)
        rw [List.getElem?_eq_getElem (by rw [hLm]; exact hlt), List.getElem?_eq_getElem hjl] at this
        injection this
      generalize hst : (g.shots.take j).filter (oth iv) = left at *
      obtain ⟨s, hs⟩ : ∃ s, s = g.shots[j] := ⟨_, rfl⟩
      rw [← hs] at hLj
      have cst := other_owner { g with shots := L } b B c gs j Bi iv wr hbB (by rw [hLm]; exact hlt) hR.has hQ
      dsimp only at cst
      rw [hLj] at cst
      have hget := Lib.hid (show ∀ h : j < L.length, L[j]'h = s from fun _ => hLj)
      have hset : Hid (L.set j s = L) := Lib.hid (by rw [← hLj]; exact List.set_getElem_self _)
      have HR := Lib.hid hR
      have HQ := Lib.hid hQ
      have HSS := Lib.hid hs
      have hs4 := hR.left
      have hfew := hR.few
      clear hR hs hLj hQ
      dsimp only at hs4 hfew
      subst hs4
      have hso : Hid (oth iv s = decide (s.owner ≠ iv)) := Lib.hid rfl
      by_cases h1 : s.owner = iv
      · rw [decide_eq_false (by simpa using h1)] at cst
        have CST := Lib.hid cst
        have HO := Lib.hid (show oth iv s = false from hso.out.trans (decide_eq_false (by simpa using h1)))
        clear cst hst h1
        go_wp2_with (go_at_call 126; ((with_reducible refine (CST.out).mono ?_); rintro e w1 ⟨rfl, h1', k1', b1'⟩; have H1 := Lib.hid h1'; have K1 := Lib.hid k1'; have Q1 := Lib.hid b1'; clear h1' k1' b1'))
        go_roundg (m - (j + 1))
        case measure => omega
        case rel =>
          refine ⟨j + 1, L.set j s, by omega, rfl, by go_num, ?_, Q1.out⟩
          rw [hsn.out, ← HSS.out, HO.out]
          simp only [Bool.false_eq_true, if_false, List.append_nil]
          exact stays_go HR.out rfl s (by rw [hset.out]; exact H1.out) (HR.out.keep.trans K1.out)
      · rw [decide_eq_true (by simpa using h1)] at cst
        have CST := Lib.hid cst
        have HO := Lib.hid (show oth iv s = true from hso.out.trans (decide_eq_true (by simpa using h1)))
        clear cst hst h1 hso
        obtain ⟨fo, fx, fy, fvx, fvy, fl⟩ := s
        have n32 : left.length + 1 ≤ 33 := by omega
        go_wp2_with (first | (go_at_call 126; ((with_reducible refine (CST.out).mono ?_); rintro e w1 ⟨rfl, h1', k1', b1'⟩; have a58 := Gm.cells_58 { g with shots := L } (.slice (some ⟨gs, 0, none⟩) L.length c); have a0 := h1'.game.cell; have q0 := h1'.shotIs (by rw [hLm]; exact hlt) 0 (by omega); have q1 := h1'.shotIs (by rw [hLm]; exact hlt) 1 (by omega); have q2 := h1'.shotIs (by rw [hLm]; exact hlt) 2 (by omega); have q3 := h1'.shotIs (by rw [hLm]; exact hlt) 3 (by omega); have q4 := h1'.shotIs (by rw [hLm]; exact hlt) 4 (by omega); have q5 := h1'.shotIs (by rw [hLm]; exact hlt) 5 (by omega); have R1 := (h1'.alloc (.cells #[.int .i64 fo, .int .i32 fx, .int .i32 fy, .int .i32 fvx, .int .i32 fvy, .int .i64 fl] 90)).room (n := left.length) (by show left.length < L.length; rw [hLm]; omega) ⟨fo, fx, fy, fvx, fvy, fl⟩; obtain ⟨cur, r1, r2, r3, r4⟩ := R1; have RB := Lib.hid r1; have R4 := Lib.hid r4; have KK := Lib.hid ((HR.out.keep.trans k1').alloc (.cells #[.int .i64 fo, .int .i32 fx, .int .i32 fy, .int .i32 fvx, .int .i32 fvy, .int .i64 fl] 90)); have RL := Lib.hid (lies_cells w1 ⟨fo, fx, fy, fvx, fvy, fl⟩); rw [hget.out] at q0 q1 q2 q3 q4 q5; simp only [Gm.Shot.cells, List.getElem?_cons_zero, List.getElem?_cons_succ, Nat.add_zero, hLm] at q0 q1 q2 q3 q4 q5 a58 a0; have QB := fun cs' => Lib.hid ((b1'.alloc (.cells #[.int .i64 fo, .int .i32 fx, .int .i32 fy, .int .i32 fvx, .int .i32 fvy, .int .i64 fl] 90)).row_far (show Bi ≠ _ from Box.apart (b1'.alloc _) r1 (by decide)) cs'); clear h1' k1' b1' r1 r4 rc rf r58)) | ((with_reducible refine room_gate (x := .tmp 27) (y := .tmp 35) (t := 26) (e := 90) (size := 6) rfl rfl Tryz.underlying26 hI.out hS.out ?_); refine AppendsIn.mk rfl rfl RB.out RL.out (one_cells ⟨fo, fx, fy, fvx, fvy, fl⟩) r2 r3 ?_))
        go_roundg (m - (j + 1))
        case measure => omega
        case rel =>
          refine ⟨j + 1, (L.set j ⟨fo, fx, fy, fvx, fvy, fl⟩).set left.length ⟨fo, fx, fy, fvx, fvy, fl⟩, by omega, rfl, by go_num, ?_, (QB _).out⟩
          rw [hsn.out, ← HSS.out, HO.out]
          simp only [if_true]
          exact stays_stay HR.out hjl ⟨fo, fx, fy, fvx, fvy, fl⟩ (by have h := R4.out; rw [List.append_assoc] at h; rw [hset.out]; exact h) (KK.out.row RB.out hbg _)
    · have hjm : ¬ (j : Int) < m := by omega
      have hje : j = m := by omega
      subst hje
      rw [HM.out, List.take_length] at hR
      rw [HM.out] at rc r58
      generalize hfin : g.shots.filter (oth iv) = fin at *
      obtain ⟨h1, h2, h3, h4, h5, h6, h7⟩ := hR
      subst h5
      have own2 := own_prefix (n := fin.length) h6.own (by show fin.length ≤ L.length; rw [h1]; exact h2)
      dsimp only at own2
      rw [h3] at own2
      have res : Has b B { g with shots := fin } (wr.setCell ⟨B, 58, none⟩ (.slice (some ⟨gs, 0, none⟩) fin.length c)) :=
        ⟨some ⟨gs, 0, none⟩, c, blk_shots (g := { g with shots := fin }) h6.game _, ownsRow_setCell_other (a := ⟨B, 58, none⟩) own2 (by intro e; injection e with e; exact h6.apart e) _⟩
      have RES := Lib.hid res
      have K7 := Lib.hid (h7.put 58 (.slice (some ⟨gs, 0, none⟩) fin.length c))
      have HF := Lib.hid hfin
      clear h1 h2 h3 h4 h6 h7 own2 res hfin
      go_wp2
      go_end0
      rw [HF.out]
      exact ⟨rfl, RES.out, K7.out⟩
set_option maxRecDepth 100000 in
set_option maxHeartbeats 2000000 in
theorem remove_shots (g : Gm.G) (A : Option Addr) (n c i : Nat) (w : World) (hg : Gm.ok g) (hn : n = g.shots.length) (hr : Lies w w.heap.size 6 A n (Gm.shotCells g.shots)) (hi : i < 8) (ho : (g.ship i).on = true) (h0 : g.shots.length ≠ 0) :
    Calls Tryz.prog 97 #[.agg (Gm.cells g (.slice A n c)), .int .i64 i] w (Out (Gm.remove g i) 0 w) := by
  have b1 : Box (((w.alloc (.cells (Gm.cells g (.slice A n c)) 28)).alloc (.cells #[.int .i64 i] 3)).alloc (.cells (Gm.cells zeroG (.slice none 0 0)) 28)) w.heap.size 28 (Gm.cells g (.slice A n c)) := ((Box.made _ _ _).alloc _).alloc _
  have b2 : Box (((w.alloc (.cells (Gm.cells g (.slice A n c)) 28)).alloc (.cells #[.int .i64 i] 3)).alloc (.cells (Gm.cells zeroG (.slice none 0 0)) 28)) (w.heap.size + 1 + 1) 28 (Gm.cells zeroG (.slice none 0 0)) := Box.made_at _ _ _ (by simp)
  have b3 : Box (((w.alloc (.cells (Gm.cells g (.slice A n c)) 28)).alloc (.cells #[.int .i64 i] 3)).alloc (.cells (Gm.cells zeroG (.slice none 0 0)) 28)) (w.heap.size + 1) 3 #[.int .i64 i] := (Box.made_at _ _ _ (by simp)).alloc _
  have hb0 := (two_below' w (.cells (Gm.cells g (.slice A n c)) 28) (.cells #[.int .i64 i] 3)).alloc (by simp <;> omega) (.cells (Gm.cells zeroG (.slice none 0 0)) 28)
  have co := Lib.hid (own_any g A n c _ hn (by have := hg.2.2.1; omega) ((hr.below hb0).wider hb0.size))
  have cm := fun X (hX : Below w.heap.size w X) => Lib.hid (may_yes g A n c X hg hn ((hr.below hX).wider hX.size))
  have cs := fun X => Lib.hid (isslot_any i (by omega) X)
  rw [decide_eq_true (show (0 : Int) ≤ i by omega), decide_eq_true (show (i : Int) < 8 by omega), Bool.and_self] at cs
  have q0 : (Gm.cells g (.slice A n c))[2 + i * 7]? = some (.bool true) := (Gm.cells_ship g _ i 0 hi (by omega)).trans (by show some (Value.bool (g.ship i).on) = _; rw [ho])
  have hi8 : (i : Int) < 8 := by omega
  obtain ⟨t, ht⟩ : ∃ t, t = g.ship i := ⟨_, rfl⟩
  have r0 : ∀ s, (Gm.cells g s)[2 + i * 7]? = some (.bool t.on) := fun s => (Gm.cells_ship g s i 0 hi (by omega)).trans (by rw [ht]; rfl)
  have r1 : ∀ s, (Gm.cells g s)[2 + i * 7 + 1]? = some (.int .i32 t.x) := fun s => (Gm.cells_ship g s i 1 hi (by omega)).trans (by rw [ht]; rfl)
  have r2 : ∀ s, (Gm.cells g s)[2 + i * 7 + 2]? = some (.int .i32 t.y) := fun s => (Gm.cells_ship g s i 2 hi (by omega)).trans (by rw [ht]; rfl)
  have r3 : ∀ s, (Gm.cells g s)[2 + i * 7 + 3]? = some (.int .i32 t.vx) := fun s => (Gm.cells_ship g s i 3 hi (by omega)).trans (by rw [ht]; rfl)
  have r4 : ∀ s, (Gm.cells g s)[2 + i * 7 + 4]? = some (.int .i32 t.vy) := fun s => (Gm.cells_ship g s i 4 hi (by omega)).trans (by rw [ht]; rfl)
  have r5 : ∀ s, (Gm.cells g s)[2 + i * 7 + 5]? = some (.int .i64 t.cool) := fun s => (Gm.cells_ship g s i 5 hi (by omega)).trans (by rw [ht]; rfl)
  have r6 : ∀ s, (Gm.cells g s)[2 + i * 7 + 6]? = some (.int .i64 t.score) := fun s => (Gm.cells_ship g s i 6 hi (by omega)).trans (by rw [ht]; rfl)
  have hN := Lib.hid hn
  have H0 := Lib.hid h0
  have hl32 := hg.2.2.1
  have HB := Lib.hid hb0
  have B1 := Lib.hid b1
  have B2 := Lib.hid b2
  have B3 := Lib.hid b3
  clear hr hn b1 b2 b3 hb0 ho hg ht h0
  go_enter Tryz.func97, Tryz.ntmps97
  go_upto_region 5 with (first | (refine wpList_alloc_game rfl rfl ?_) | ((with_reducible refine load_gate rfl rfl ?_); apply LoadGame.mk rfl; (with_reducible exact B1.out)) | ((with_reducible refine load_gate rfl rfl ?_); apply LoadGame.mk rfl; (with_reducible exact D1.out)) | ((with_reducible refine load_gate rfl rfl ?_); apply LoadGame.mk rfl; exact F1.out) | (go_at_call 98; ((with_reducible refine (co.out).mono ?_); rintro e w1 ⟨A1, c1, rfl, ho1, hb1⟩; have HB1 := Lib.hid ((HB.out.trans (hb1.mono HB.out.size)).alloc (by have := hb1.size; simp at this; omega) (.cells (Gm.cells g (.slice A1 n c1)) 28)); have O1 := Lib.hid ((own_rebase (base' := w.heap.size) ho1 (by simp; omega)).alloc (.cells (Gm.cells g (.slice A1 n c1)) 28)); have D1 := Lib.hid ((B1.out.below hb1 (by simp <;> omega)).alloc (.cells (Gm.cells g (.slice A1 n c1)) 28)); have D2 := Lib.hid ((B2.out.below hb1 (by simp <;> omega)).alloc (.cells (Gm.cells g (.slice A1 n c1)) 28)); have D3 := Lib.hid ((B3.out.below hb1 (by simp <;> omega)).alloc (.cells (Gm.cells g (.slice A1 n c1)) 28)); have s1 : w.heap.size + 1 + 1 < w1.heap.size := (by have := hb1.size; simp at this; omega); have ho1H := Lib.hid ho1; clear ho1 hb1)) | (refine wpList_store_game_new rfl rfl rfl rfl rfl rfl ?_) | (go_at_call 24; ((with_reducible refine ((cm _ HB1.out).out).mono ?_); rintro e w2 ⟨rfl, hb2⟩; have HB2 := Lib.hid (HB1.out.trans (hb2.mono HB1.out.size)); have O2 := Lib.hid (own_below O1.out hb2 (Nat.le_refl _)); have F1 := Lib.hid ((Box.made w1 28 (Gm.cells g (.slice A1 n c1))).below hb2 (by simp)); have f1c := F1.out.cell; have f1f := F1.out.free; have H9 := Lib.hid ((has_made (w := w) hN.out (own_rebase (base' := w.heap.size) ho1H.out (by simp; omega))).call hb2); have E1 := (D1.out.below hb2 D1.out.lt).cell; have E3' := D3.out.below hb2 D3.out.lt; have E3 := E3'.cell; have E3H := Lib.hid E3'; have G2 := Lib.hid (D2.out.below hb2 D2.out.lt); clear hb2)) | (go_at_call 91; ((with_reducible refine ((cs _).out).mono ?_); rintro e w' ⟨rfl, rfl⟩)) | ((with_reducible refine store_gate rfl rfl ?_); apply StoreGame.mk rfl rfl rfl; exact G2.out))
  have W5 : Has w.heap.size w1.heap.size { g with ship := Gm.upd g.ship i Gm.Ship.none } (stored w2 w1.heap.size i Gm.Ship.none) := H9.out.stored hi _
  have K5 := (Keep.refl (show w.heap.size ≤ w1.heap.size by omega) w2).stored (k := i) Gm.Ship.none
  obtain ⟨W, hW⟩ : ∃ W, W = stored w2 w1.heap.size i Gm.Ship.none := ⟨_, rfl⟩
  rw [← hW] at W5 K5
  simp only [stored, Gm.Ship.none] at hW
  rw [← hW]
  have ck := Lib.hid (keep_rest { g with ship := Gm.upd g.ship i Gm.Ship.none } w.heap.size w1.heap.size (w.heap.size + 1) i W (by omega) W5 H0.out hl32 (E3H.out.keep K5 (by omega) (by decide)))
  have hmf : ∀ (fn : Fn) (first cap : Array Value) (w : World), (Instr.makeFunc fn first cap).run Tryz.prog w = .ok (.func fn first cap) w := fun _ _ _ _ => rfl
  have ne2 : w.heap.size + 1 + 1 ≠ w1.heap.size := by omega
  have R5 := Lib.hid (G2.out.keep K5 ne2 (by decide))
  have KK5 := Lib.hid (HB2.out.trans (K5.to HB2.out.size))
  clear hW W5 K5 E1 E3 f1c f1f r0 r1 r2 r3 r4 r5 r6
  go_wp2_with (first | (go_at_call 103; ((with_reducible refine (ck.out).mono ?_); rintro e w4 ⟨rfl, h4, k4⟩; obtain ⟨A4, c4, B4, O4⟩ := h4; have F4 := Lib.hid B4; have O4H := Lib.hid O4; have R4 := Lib.hid (R5.out.keep k4 ne2 (by decide)); have K4 := Lib.hid (KK5.out.trans (k4.to KK5.out.size)); clear B4 O4 k4)) | ((with_reducible refine load_gate rfl rfl ?_); apply LoadGame.mk rfl; exact F4.out) | ((with_reducible refine store_gate rfl rfl ?_); apply StoreGame.mk rfl rfl rfl; exact R4.out))
  refine bodyPost_ret (v := .tuple #[.agg (Gm.cells (Gm.remove g i) (.slice A4 (g.shots.filter (oth i)).length c4)), .int .i64 0]) ?_ ?_ ?_
  · exact results_cell_tmp (p := 4) (q := 5) rfl _ _ _ _ (Gm.cells (Gm.remove g i) (.slice A4 (g.shots.filter (oth i)).length c4)) _ rfl (Box.row R4.out _) Tryz.underlying28 rfl game_info
  · rfl
  · exact ⟨A4, c4, rfl, Lies.owned (own_setRow O4H.out (R4.out.unowned O4H.out (by decide)) _), Below.setRow' K4.out (by omega) _⟩

theorem remove_all (g : Gm.G) (A : Option Addr) (n c i : Nat) (w : World) (hg : Gm.ok g) (hn : n = g.shots.length) (hr : Lies w w.heap.size 6 A n (Gm.shotCells g.shots)) (hi : i < 8) (ho : (g.ship i).on = true) :
    Calls Tryz.prog 97 #[.agg (Gm.cells g (.slice A n c)), .int .i64 i] w (Out (Gm.remove g i) 0 w) := by
  by_cases h0 : g.shots.length = 0
  · have h0' : g.shots = [] := List.eq_nil_of_length_eq_zero h0
    have e : Gm.remove g i = { g with ship := Gm.upd g.ship i Gm.Ship.none } := by unfold Gm.remove; rw [h0']; rfl
    rw [e]
    exact remove_yes g A n c i w hg hn hr hi ho h0'
  · exact remove_shots g A n c i w hg hn hr hi ho h0
end Go.Proofs.YtkkhdaeihnbilaaGreat
namespace Go.Proofs.YtkkhdaeihnbilaaGreat
open Go.RowKit Go.Shelf
set_option linter.unusedVariables false
set_option linter.unusedSimpArgs false


theorem ev4_size : (Tryz.prog.info? 61).map (·.size) = some (#[.int .i64 0, .int .i64 0, .int .i64 0, .int .i64 0] : Array Value).size := by kernel_rfl
theorem rosapply_fail (s : Fd.S) (v : En.Ev) (w : World) (hv : En.evOk v) (hno : ¬ Fd.MayEv s v) :
    Calls Tryz.prog 23 #[.agg (Ros.cells s.r), .agg #[.int .i64 v.kind, .int .i64 v.slot, .int .i64 v.gen, .int .i64 v.peer]] w fun e w' => e = .returned (.tuple #[.agg (Ros.cells s.r), .int .i64 1]) ∧ Below w.heap.size w w' := by
  obtain ⟨q, sl, gn, pe⟩ := v
  obtain ⟨hk, hs, hg, hp⟩ := hv
  dsimp only at *
  obtain ⟨k, rfl⟩ : ∃ k : Nat, sl = k := ⟨sl.toNat, by omega⟩
  have hk8 : k < 8 := by omega
  rcases hk with rfl | rfl
  · by_cases h1 : s.r.peer k = pe ∧ s.r.gen k = gn
    · refine rosapply_leave_no s.r k w hk8 (fun h => hno (.inr ⟨rfl, h, by simpa using h1.1, by simpa using h1.2⟩)) gn pe h1.1 h1.2
    · exact rosapply_leave_seat s.r k gn pe w hk8 h1
  · by_cases h1 : Ros.MayTake s.r k pe
    · exact rosapply_join_gen s.r k gn pe w h1 (fun h => hno (.inl ⟨rfl, h1, by simpa using h⟩))
    · exact rosapply_join_no s.r k gn pe w h1

set_option maxRecDepth 100000 in
set_option maxHeartbeats 2000000 in
theorem change_no (s : Fd.S) (v : En.Ev) (A : Option Addr) (n c : Nat) (w : World) (hv : En.evOk v) (hno : ¬ Fd.MayEv s v) :
    Calls Tryz.prog 59 #[.agg (Im.cells s.g (.slice A n c) s.r), .agg #[.int .i64 v.kind, .int .i64 v.slot, .int .i64 v.gen, .int .i64 v.peer]] w (Thrown 1 w) := by
  have ca := fun X => Lib.hid (rosapply_fail s v X hv hno)
  have cn := fun X => Lib.hid (need_throws X)
  obtain ⟨q, sl, gn, pe⟩ := v
  obtain ⟨g, r⟩ := s
  dsimp only at *
  clear hv hno
  obtain ⟨C, hC⟩ : ∃ C, C = Im.cells g (.slice A n c) r := ⟨_, rfl⟩
  have P0 := Lib.hid ((((Box.made w 35 (Im.cells g (.slice A n c) r)).alloc (.cells #[.int .i64 q, .int .i64 sl, .int .i64 gn, .int .i64 pe] 61))).alloc (.cells Im.zero 35))
  have E0 := Lib.hid ((Box.made_at (n := w.heap.size + 1) (w.alloc (.cells (Im.cells g (.slice A n c) r) 35)) 61 #[.int .i64 q, .int .i64 sl, .int .i64 gn, .int .i64 pe] (by simp)).alloc (.cells Im.zero 35))
  have K0 := Lib.hid ((two_below' w (.cells (Im.cells g (.slice A n c) r) 35) (.cells #[.int .i64 q, .int .i64 sl, .int .i64 gn, .int .i64 pe] 61)).alloc (by simp <;> omega) (.cells Im.zero 35))
  go_enter Tryz.func59, Tryz.ntmps59
  go_wp2_with (first | (with_reducible refine alloc_state rfl rfl ?_) | ((with_reducible refine im_load_ros rfl rfl ?_); apply LoadIm.mk rfl; (focus (with_reducible exact P0.out)); dsimp only) | ((with_reducible refine row_load rfl rfl Tryz.underlying61 rfl ?_); apply LoadRow.mk rfl; (focus (with_reducible exact E0.out)); (focus (exact ev4_size))) | (go_at_call 23; ((with_reducible refine ((ca _).out).mono ?_); rintro e w1 ⟨rfl, hb⟩; have K1 := Lib.hid (K0.out.trans (hb.mono K0.out.size)); clear hb)) | (with_reducible refine ros_alloc rfl rfl ?_) | ((with_reducible refine ros_store_new rfl rfl rfl rfl rfl ?_)) | (go_at_call 61; ((with_reducible refine ((cn _).out).mono ?_); rintro e w2 ⟨rfl, hb⟩; have K2 := Lib.hid ((K1.out.alloc K1.out.size (.cells (Ros.cells r) 33)).trans (hb.mono (K1.out.alloc K1.out.size (.cells (Ros.cells r) 33)).size)); clear hb)))
  exact ⟨rfl, rfl, K2.out⟩
end Go.Proofs.YtkkhdaeihnbilaaGreat
namespace Go.Proofs.YtkkhdaeihnbilaaGreat
open Go.RowKit Go.Shelf
set_option linter.unusedVariables false
set_option linter.unusedSimpArgs false


theorem seat_neq (a b c d : Int) (w : World) : (binOp .neq 30 (.agg #[.int .i64 a, .int .i64 b]) (.agg #[.int .i64 c, .int .i64 d])).run Tryz.prog w = .ok (.bool (!decide (a = c ∧ b = d))) w := by
  have h : (Op.equalIn 10000 30 (.agg #[.int .i64 a, .int .i64 b]) (.agg #[.int .i64 c, .int .i64 d])).run Tryz.prog w = .ok (decide (a = c ∧ b = d)) w := by
    by_cases h1 : a = c
    · by_cases h2 : b = d
      · subst h1 h2; go_simp <;> simp
      · have h4 : (b == d) = false := by simpa using h2
        subst h1; go_simp <;> simp [h4, h2]
    · have h4 : (a == c) = false := by simpa using h1
      go_simp <;> simp [h4, h1]
  generalize #[Value.int .i64 a, .int .i64 b] = F at *
  generalize #[Value.int .i64 c, .int .i64 d] = G at *
  go_simp

set_option maxRecDepth 100000 in
set_option maxHeartbeats 2000000 in
theorem refevent_join (r : Ros.R) (k : Nat) (gn pe : Int) (w : World) (ht : Ros.MayTake r k pe) (hg : gn = r.gen k + 1) :
    Calls Tryz.prog 31 #[.agg (Ros.cells r), .agg #[.int .i64 1, .int .i64 (k : Int), .int .i64 gn, .int .i64 pe]] w fun e w' => e = .returned (.tuple #[.agg (Ros.cells (Ros.take r k pe)), .int .i64 0]) ∧ Below w.heap.size w w' := by
  have R0 := Lib.hid (((Box.made w 33 (Ros.cells r)).alloc (.cells #[.int .i64 1, .int .i64 (k : Int), .int .i64 gn, .int .i64 pe] 61)).alloc (.cells (Ros.cells rosZero) 33))
  have E0 := Lib.hid ((Box.made_at (n := w.heap.size + 1) (w.alloc (.cells (Ros.cells r) 33)) 61 #[.int .i64 1, .int .i64 (k : Int), .int .i64 gn, .int .i64 pe] (by simp)).alloc (.cells (Ros.cells rosZero) 33))
  have Z0 := Lib.hid (Box.made_at (n := w.heap.size + 1 + 1) ((w.alloc (.cells (Ros.cells r) 33)).alloc (.cells #[.int .i64 1, .int .i64 (k : Int), .int .i64 gn, .int .i64 pe] 61)) 33 (Ros.cells rosZero) (by simp))
  have K0 := Lib.hid ((two_below' w (.cells (Ros.cells r) 33) (.cells #[.int .i64 1, .int .i64 (k : Int), .int .i64 gn, .int .i64 pe] 61)).alloc (by simp <;> omega) (.cells (Ros.cells rosZero) 33))
  have ct := fun X => Lib.hid (reftake_yes r k pe X ht)
  have hk8 : k < 8 := by have := ht.1.1.2; omega
  have hk8' : (k : Int) < 8 := by omega
  have hk0 : 0 ≤ (k : Int) := by omega
  have qg : (Ros.cells (Ros.take r k pe))[1 + k * 2 + 1]? = some (.int .i64 (r.gen k + 1)) := (Ros.cells_gen _ k hk8).trans (by show some (Value.int .i64 (Ros.upd r.gen k (r.gen k + 1) k)) = _; rw [Ros.upd_same])
  have hne : (r.gen k + 1 != gn) = false := by simp [hg]
  clear ht hg
  go_enter Tryz.func31, Tryz.ntmps31
  go_upto_region 4 with (first | (with_reducible refine ros_alloc rfl rfl ?_) | ((with_reducible refine ros_load rfl rfl ?_); apply LoadRow.mk rfl; (focus first | (with_reducible exact R0.out)); (focus (exact ros_info))) | (go_at_call 63; ((with_reducible refine ((ct _).out).mono ?_); rintro e w1 ⟨rfl, hb⟩; have R1 := Lib.hid ((R0.out.below hb R0.out.lt).alloc (.cells (Ros.cells (Ros.take r k pe)) 33)); have E1 := Lib.hid ((E0.out.below hb E0.out.lt).alloc (.cells (Ros.cells (Ros.take r k pe)) 33)); have Z1 := Lib.hid ((Z0.out.below hb Z0.out.lt).alloc (.cells (Ros.cells (Ros.take r k pe)) 33)); have N1 := Lib.hid (Box.made w1 33 (Ros.cells (Ros.take r k pe))); have K1 := Lib.hid ((K0.out.trans (hb.mono K0.out.size)).alloc (Nat.le_trans K0.out.size hb.size) (.cells (Ros.cells (Ros.take r k pe)) 33)); clear hb)) | ((with_reducible refine ros_store_new rfl rfl rfl rfl rfl ?_)))
  generalize hW1 : w1.alloc (.cells (Ros.cells (Ros.take r k pe)) 33) = W1 at R1 E1 Z1 N1 K1 ⊢
  generalize w1.heap.size = bn at N1 ⊢
  clear hW1 R0 E0 Z0 K0
  have e1 := E1.out.cell
  have n1 := N1.out.cell
  have r1 := R1.out.cell
  have R3 := fun m => Lib.hid (R1.out.draws m)
  have N3 := fun m => Lib.hid (N1.out.draws m)
  have Z3 := fun m => Lib.hid (Z1.out.draws m)
  have K3 := fun m => Lib.hid (draws_below K1.out m)
  go_quiet (fail)
  go_wp2_with (first | ((with_reducible refine ros_load rfl rfl ?_); apply LoadRow.mk rfl; (focus first | (with_reducible exact (N3 _).out)); (focus (exact ros_info))) | ((with_reducible refine ros_store rfl rfl ?_); apply StoreRow.mk rfl rfl; (focus (with_reducible exact (Z3 _).out)); (focus (exact ros_info)); (focus rfl); (focus (exact ros_one _))))
  refine bodyPost_ret (v := .tuple #[.agg (Ros.cells (Ros.take r k pe)), .int .i64 0]) ?_ ?_ ?_
  · exact results_cell_tmp (p := 4) (q := 5) rfl _ _ _ _ (Ros.cells (Ros.take r k pe)) _ rfl (Box.row (Z3 _).out _) Tryz.underlying33 rfl ros_info
  · rfl
  · exact ⟨rfl, Below.setRow' (K3 _).out (by omega) _⟩

set_option maxRecDepth 100000 in
set_option maxHeartbeats 2000000 in
theorem refevent_join_gen (r : Ros.R) (k : Nat) (gn pe : Int) (w : World) (ht : Ros.MayTake r k pe) (hg : gn ≠ r.gen k + 1) :
    Calls Tryz.prog 31 #[.agg (Ros.cells r), .agg #[.int .i64 1, .int .i64 (k : Int), .int .i64 gn, .int .i64 pe]] w fun e w' => e = .returned (.tuple #[.agg (Ros.cells (r)), .int .i64 1]) ∧ Below w.heap.size w w' := by
  have R0 := Lib.hid (((Box.made w 33 (Ros.cells r)).alloc (.cells #[.int .i64 1, .int .i64 (k : Int), .int .i64 gn, .int .i64 pe] 61)).alloc (.cells (Ros.cells rosZero) 33))
  have E0 := Lib.hid ((Box.made_at (n := w.heap.size + 1) (w.alloc (.cells (Ros.cells r) 33)) 61 #[.int .i64 1, .int .i64 (k : Int), .int .i64 gn, .int .i64 pe] (by simp)).alloc (.cells (Ros.cells rosZero) 33))
  have Z0 := Lib.hid (Box.made_at (n := w.heap.size + 1 + 1) ((w.alloc (.cells (Ros.cells r) 33)).alloc (.cells #[.int .i64 1, .int .i64 (k : Int), .int .i64 gn, .int .i64 pe] 61)) 33 (Ros.cells rosZero) (by simp))
  have K0 := Lib.hid ((two_below' w (.cells (Ros.cells r) 33) (.cells #[.int .i64 1, .int .i64 (k : Int), .int .i64 gn, .int .i64 pe] 61)).alloc (by simp <;> omega) (.cells (Ros.cells rosZero) 33))
  have ct := fun X => Lib.hid (reftake_yes r k pe X ht)
  have hk8 : k < 8 := by have := ht.1.1.2; omega
  have hk8' : (k : Int) < 8 := by omega
  have hk0 : 0 ≤ (k : Int) := by omega
  have qg : (Ros.cells (Ros.take r k pe))[1 + k * 2 + 1]? = some (.int .i64 (r.gen k + 1)) := (Ros.cells_gen _ k hk8).trans (by show some (Value.int .i64 (Ros.upd r.gen k (r.gen k + 1) k)) = _; rw [Ros.upd_same])
  have hne : (r.gen k + 1 != gn) = true := by simpa using fun h => hg h.symm
  clear ht hg
  go_enter Tryz.func31, Tryz.ntmps31
  go_upto_region 4 with (first | (with_reducible refine ros_alloc rfl rfl ?_) | ((with_reducible refine ros_load rfl rfl ?_); apply LoadRow.mk rfl; (focus first | (with_reducible exact R0.out)); (focus (exact ros_info))) | (go_at_call 63; ((with_reducible refine ((ct _).out).mono ?_); rintro e w1 ⟨rfl, hb⟩; have R1 := Lib.hid ((R0.out.below hb R0.out.lt).alloc (.cells (Ros.cells (Ros.take r k pe)) 33)); have E1 := Lib.hid ((E0.out.below hb E0.out.lt).alloc (.cells (Ros.cells (Ros.take r k pe)) 33)); have Z1 := Lib.hid ((Z0.out.below hb Z0.out.lt).alloc (.cells (Ros.cells (Ros.take r k pe)) 33)); have N1 := Lib.hid (Box.made w1 33 (Ros.cells (Ros.take r k pe))); have K1 := Lib.hid ((K0.out.trans (hb.mono K0.out.size)).alloc (Nat.le_trans K0.out.size hb.size) (.cells (Ros.cells (Ros.take r k pe)) 33)); clear hb)) | ((with_reducible refine ros_store_new rfl rfl rfl rfl rfl ?_)))
  generalize hW1 : w1.alloc (.cells (Ros.cells (Ros.take r k pe)) 33) = W1 at R1 E1 Z1 N1 K1 ⊢
  generalize w1.heap.size = bn at N1 ⊢
  clear hW1 R0 E0 Z0 K0
  have e1 := E1.out.cell
  have n1 := N1.out.cell
  have r1 := R1.out.cell
  have R3 := fun m => Lib.hid (R1.out.draws m)
  have N3 := fun m => Lib.hid (N1.out.draws m)
  have Z3 := fun m => Lib.hid (Z1.out.draws m)
  have K3 := fun m => Lib.hid (draws_below K1.out m)
  go_quiet (fail)
  go_wp2_with (first | ((with_reducible refine ros_load rfl rfl ?_); apply LoadRow.mk rfl; (focus first | (with_reducible exact (R3 _).out)); (focus (exact ros_info))) | ((with_reducible refine ros_store rfl rfl ?_); apply StoreRow.mk rfl rfl; (focus (with_reducible exact (Z3 _).out)); (focus (exact ros_info)); (focus rfl); (focus (exact ros_one _))))
  refine bodyPost_ret (v := .tuple #[.agg (Ros.cells (r)), .int .i64 1]) ?_ ?_ ?_
  · exact results_cell_tmp (p := 4) (q := 5) rfl _ _ _ _ (Ros.cells (r)) _ rfl (Box.row (Z3 _).out _) Tryz.underlying33 rfl ros_info
  · rfl
  · exact ⟨rfl, Below.setRow' (K3 _).out (by omega) _⟩

set_option maxRecDepth 100000 in
set_option maxHeartbeats 2000000 in
theorem refevent_join_no (r : Ros.R) (sl gn pe : Int) (w : World) (ht : ¬ Ros.MayTake r sl pe) :
    Calls Tryz.prog 31 #[.agg (Ros.cells r), .agg #[.int .i64 1, .int .i64 sl, .int .i64 gn, .int .i64 pe]] w fun e w' => e = .returned (.tuple #[.agg (Ros.cells (r)), .int .i64 1]) ∧ Below w.heap.size w w' := by
  have R0 := Lib.hid (((Box.made w 33 (Ros.cells r)).alloc (.cells #[.int .i64 1, .int .i64 sl, .int .i64 gn, .int .i64 pe] 61)).alloc (.cells (Ros.cells rosZero) 33))
  have E0 := Lib.hid ((Box.made_at (n := w.heap.size + 1) (w.alloc (.cells (Ros.cells r) 33)) 61 #[.int .i64 1, .int .i64 sl, .int .i64 gn, .int .i64 pe] (by simp)).alloc (.cells (Ros.cells rosZero) 33))
  have Z0 := Lib.hid (Box.made_at (n := w.heap.size + 1 + 1) ((w.alloc (.cells (Ros.cells r) 33)).alloc (.cells #[.int .i64 1, .int .i64 sl, .int .i64 gn, .int .i64 pe] 61)) 33 (Ros.cells rosZero) (by simp))
  have K0 := Lib.hid ((two_below' w (.cells (Ros.cells r) 33) (.cells #[.int .i64 1, .int .i64 sl, .int .i64 gn, .int .i64 pe] 61)).alloc (by simp <;> omega) (.cells (Ros.cells rosZero) 33))
  have ct := fun X => Lib.hid (reftake_no r sl pe X ht)
  clear ht
  go_enter Tryz.func31, Tryz.ntmps31
  go_upto_region 4 with (first | (with_reducible refine ros_alloc rfl rfl ?_) | ((with_reducible refine ros_load rfl rfl ?_); apply LoadRow.mk rfl; (focus first | (with_reducible exact R0.out)); (focus (exact ros_info))) | (go_at_call 63; ((with_reducible refine ((ct _).out).mono ?_); rintro e w1 ⟨rfl, hb⟩; have R1 := Lib.hid ((R0.out.below hb R0.out.lt).alloc (.cells (Ros.cells (r)) 33)); have E1 := Lib.hid ((E0.out.below hb E0.out.lt).alloc (.cells (Ros.cells (r)) 33)); have Z1 := Lib.hid ((Z0.out.below hb Z0.out.lt).alloc (.cells (Ros.cells (r)) 33)); have N1 := Lib.hid (Box.made w1 33 (Ros.cells (r))); have K1 := Lib.hid ((K0.out.trans (hb.mono K0.out.size)).alloc (Nat.le_trans K0.out.size hb.size) (.cells (Ros.cells (r)) 33)); clear hb)) | ((with_reducible refine ros_store_new rfl rfl rfl rfl rfl ?_)))
  generalize hW1 : w1.alloc (.cells (Ros.cells (r)) 33) = W1 at R1 E1 Z1 N1 K1 ⊢
  generalize w1.heap.size = bn at N1 ⊢
  clear hW1 R0 E0 Z0 K0
  have e1 := E1.out.cell
  have n1 := N1.out.cell
  have r1 := R1.out.cell
  have R3 := fun m => Lib.hid (R1.out.draws m)
  have N3 := fun m => Lib.hid (N1.out.draws m)
  have Z3 := fun m => Lib.hid (Z1.out.draws m)
  have K3 := fun m => Lib.hid (draws_below K1.out m)
  go_quiet (fail)
  go_wp2_with (first | ((with_reducible refine ros_load rfl rfl ?_); apply LoadRow.mk rfl; (focus first | (with_reducible exact (R3 _).out)); (focus (exact ros_info))) | ((with_reducible refine ros_store rfl rfl ?_); apply StoreRow.mk rfl rfl; (focus (with_reducible exact (Z3 _).out)); (focus (exact ros_info)); (focus rfl); (focus (exact ros_one _))))
  refine bodyPost_ret (v := .tuple #[.agg (Ros.cells (r)), .int .i64 1]) ?_ ?_ ?_
  · exact results_cell_tmp (p := 4) (q := 5) rfl _ _ _ _ (Ros.cells (r)) _ rfl (Box.row (Z3 _).out _) Tryz.underlying33 rfl ros_info
  · rfl
  · exact ⟨rfl, Below.setRow' (K3 _).out (by omega) _⟩

set_option maxRecDepth 100000 in
set_option maxHeartbeats 2000000 in
theorem refevent_leave (r : Ros.R) (k : Nat) (gn pe : Int) (w : World) (ht : Ros.MayGive r k) (hp : r.peer k = pe) (hg : r.gen k = gn) :
    Calls Tryz.prog 31 #[.agg (Ros.cells r), .agg #[.int .i64 2, .int .i64 (k : Int), .int .i64 gn, .int .i64 pe]] w fun e w' => e = .returned (.tuple #[.agg (Ros.cells (Ros.give r k)), .int .i64 0]) ∧ Below w.heap.size w w' := by
  have R0 := Lib.hid (((Box.made w 33 (Ros.cells r)).alloc (.cells #[.int .i64 2, .int .i64 (k : Int), .int .i64 gn, .int .i64 pe] 61)).alloc (.cells (Ros.cells rosZero) 33))
  have E0 := Lib.hid ((Box.made_at (n := w.heap.size + 1) (w.alloc (.cells (Ros.cells r) 33)) 61 #[.int .i64 2, .int .i64 (k : Int), .int .i64 gn, .int .i64 pe] (by simp)).alloc (.cells (Ros.cells rosZero) 33))
  have Z0 := Lib.hid (Box.made_at (n := w.heap.size + 1 + 1) ((w.alloc (.cells (Ros.cells r) 33)).alloc (.cells #[.int .i64 2, .int .i64 (k : Int), .int .i64 gn, .int .i64 pe] 61)) 33 (Ros.cells rosZero) (by simp))
  have K0 := Lib.hid ((two_below' w (.cells (Ros.cells r) 33) (.cells #[.int .i64 2, .int .i64 (k : Int), .int .i64 gn, .int .i64 pe] 61)).alloc (by simp <;> omega) (.cells (Ros.cells rosZero) 33))
  have ct := fun X => Lib.hid (refgive_yes r k X ht)
  have hk8 : k < 8 := by have := ht.1.2; omega
  have hk8' : (k : Int) < 8 := by omega
  have hk0 : 0 ≤ (k : Int) := by omega
  have qp := Ros.cells_peer r k hk8
  have qg := Ros.cells_gen r k hk8
  have hne := fun W => seat_neq (r.peer k) (r.gen k) pe gn W
  rw [decide_eq_true (And.intro hp hg), Bool.not_true] at hne
  clear ht hg hp
  go_enter Tryz.func31, Tryz.ntmps31
  go_upto_region 9 with (first | (with_reducible refine ros_alloc rfl rfl ?_) | ((with_reducible refine ros_load rfl rfl ?_); apply LoadRow.mk rfl; (focus first | (with_reducible exact R0.out)); (focus (exact ros_info))) | (go_at_call 64; ((with_reducible refine ((ct _).out).mono ?_); rintro e w1 ⟨rfl, hb⟩; have R1 := Lib.hid ((R0.out.below hb R0.out.lt).alloc (.cells (Ros.cells (Ros.give r k)) 33)); have E1 := Lib.hid ((E0.out.below hb E0.out.lt).alloc (.cells (Ros.cells (Ros.give r k)) 33)); have Z1 := Lib.hid ((Z0.out.below hb Z0.out.lt).alloc (.cells (Ros.cells (Ros.give r k)) 33)); have N1 := Lib.hid (Box.made w1 33 (Ros.cells (Ros.give r k))); have K1 := Lib.hid ((K0.out.trans (hb.mono K0.out.size)).alloc (Nat.le_trans K0.out.size hb.size) (.cells (Ros.cells (Ros.give r k)) 33)); clear hb)) | ((with_reducible refine ros_store_new rfl rfl rfl rfl rfl ?_)))
  generalize hW1 : w1.alloc (.cells (Ros.cells (Ros.give r k)) 33) = W1 at R1 E1 Z1 N1 K1 ⊢
  generalize w1.heap.size = bn at N1 ⊢
  clear hW1 R0 E0 Z0 K0
  have e1 := E1.out.cell
  have n1 := N1.out.cell
  have r1 := R1.out.cell
  have R3 := fun m => Lib.hid (R1.out.draws m)
  have N3 := fun m => Lib.hid (N1.out.draws m)
  have Z3 := fun m => Lib.hid (Z1.out.draws m)
  have K3 := fun m => Lib.hid (draws_below K1.out m)
  go_quiet (fail)
  go_wp2_with (first | ((with_reducible refine ros_load rfl rfl ?_); apply LoadRow.mk rfl; (focus first | (with_reducible exact (N3 _).out)); (focus (exact ros_info))) | ((with_reducible refine ros_store rfl rfl ?_); apply StoreRow.mk rfl rfl; (focus (with_reducible exact (Z3 _).out)); (focus (exact ros_info)); (focus rfl); (focus (exact ros_one _))))
  refine bodyPost_ret (v := .tuple #[.agg (Ros.cells (Ros.give r k)), .int .i64 0]) ?_ ?_ ?_
  · exact results_cell_tmp (p := 4) (q := 5) rfl _ _ _ _ (Ros.cells (Ros.give r k)) _ rfl (Box.row (Z3 _).out _) Tryz.underlying33 rfl ros_info
  · rfl
  · exact ⟨rfl, Below.setRow' (K3 _).out (by omega) _⟩

set_option maxRecDepth 100000 in
set_option maxHeartbeats 2000000 in
theorem refevent_leave_seat (r : Ros.R) (k : Nat) (gn pe : Int) (w : World) (ht : Ros.MayGive r k) (hp : ¬ (r.peer k = pe ∧ r.gen k = gn)) :
    Calls Tryz.prog 31 #[.agg (Ros.cells r), .agg #[.int .i64 2, .int .i64 (k : Int), .int .i64 gn, .int .i64 pe]] w fun e w' => e = .returned (.tuple #[.agg (Ros.cells (r)), .int .i64 1]) ∧ Below w.heap.size w w' := by
  have R0 := Lib.hid (((Box.made w 33 (Ros.cells r)).alloc (.cells #[.int .i64 2, .int .i64 (k : Int), .int .i64 gn, .int .i64 pe] 61)).alloc (.cells (Ros.cells rosZero) 33))
  have E0 := Lib.hid ((Box.made_at (n := w.heap.size + 1) (w.alloc (.cells (Ros.cells r) 33)) 61 #[.int .i64 2, .int .i64 (k : Int), .int .i64 gn, .int .i64 pe] (by simp)).alloc (.cells (Ros.cells rosZero) 33))
  have Z0 := Lib.hid (Box.made_at (n := w.heap.size + 1 + 1) ((w.alloc (.cells (Ros.cells r) 33)).alloc (.cells #[.int .i64 2, .int .i64 (k : Int), .int .i64 gn, .int .i64 pe] 61)) 33 (Ros.cells rosZero) (by simp))
  have K0 := Lib.hid ((two_below' w (.cells (Ros.cells r) 33) (.cells #[.int .i64 2, .int .i64 (k : Int), .int .i64 gn, .int .i64 pe] 61)).alloc (by simp <;> omega) (.cells (Ros.cells rosZero) 33))
  have ct := fun X => Lib.hid (refgive_yes r k X ht)
  have hk8 : k < 8 := by have := ht.1.2; omega
  have hk8' : (k : Int) < 8 := by omega
  have hk0 : 0 ≤ (k : Int) := by omega
  have qp := Ros.cells_peer r k hk8
  have qg := Ros.cells_gen r k hk8
  have hne := fun W => seat_neq (r.peer k) (r.gen k) pe gn W
  rw [decide_eq_false hp, Bool.not_false] at hne
  clear ht hp
  go_enter Tryz.func31, Tryz.ntmps31
  go_upto_region 9 with (first | (with_reducible refine ros_alloc rfl rfl ?_) | ((with_reducible refine ros_load rfl rfl ?_); apply LoadRow.mk rfl; (focus first | (with_reducible exact R0.out)); (focus (exact ros_info))) | (go_at_call 64; ((with_reducible refine ((ct _).out).mono ?_); rintro e w1 ⟨rfl, hb⟩; have R1 := Lib.hid ((R0.out.below hb R0.out.lt).alloc (.cells (Ros.cells (Ros.give r k)) 33)); have E1 := Lib.hid ((E0.out.below hb E0.out.lt).alloc (.cells (Ros.cells (Ros.give r k)) 33)); have Z1 := Lib.hid ((Z0.out.below hb Z0.out.lt).alloc (.cells (Ros.cells (Ros.give r k)) 33)); have N1 := Lib.hid (Box.made w1 33 (Ros.cells (Ros.give r k))); have K1 := Lib.hid ((K0.out.trans (hb.mono K0.out.size)).alloc (Nat.le_trans K0.out.size hb.size) (.cells (Ros.cells (Ros.give r k)) 33)); clear hb)) | ((with_reducible refine ros_store_new rfl rfl rfl rfl rfl ?_)))
  generalize hW1 : w1.alloc (.cells (Ros.cells (Ros.give r k)) 33) = W1 at R1 E1 Z1 N1 K1 ⊢
  generalize w1.heap.size = bn at N1 ⊢
  clear hW1 R0 E0 Z0 K0
  have e1 := E1.out.cell
  have n1 := N1.out.cell
  have r1 := R1.out.cell
  have R3 := fun m => Lib.hid (R1.out.draws m)
  have N3 := fun m => Lib.hid (N1.out.draws m)
  have Z3 := fun m => Lib.hid (Z1.out.draws m)
  have K3 := fun m => Lib.hid (draws_below K1.out m)
  go_quiet (fail)
  go_wp2_with (first | ((with_reducible refine ros_load rfl rfl ?_); apply LoadRow.mk rfl; (focus first | (with_reducible exact (R3 _).out)); (focus (exact ros_info))) | ((with_reducible refine ros_store rfl rfl ?_); apply StoreRow.mk rfl rfl; (focus (with_reducible exact (Z3 _).out)); (focus (exact ros_info)); (focus rfl); (focus (exact ros_one _))))
  refine bodyPost_ret (v := .tuple #[.agg (Ros.cells (r)), .int .i64 1]) ?_ ?_ ?_
  · exact results_cell_tmp (p := 4) (q := 5) rfl _ _ _ _ (Ros.cells (r)) _ rfl (Box.row (Z3 _).out _) Tryz.underlying33 rfl ros_info
  · rfl
  · exact ⟨rfl, Below.setRow' (K3 _).out (by omega) _⟩

set_option maxRecDepth 100000 in
set_option maxHeartbeats 2000000 in
theorem refevent_leave_no (r : Ros.R) (sl gn pe : Int) (w : World) (ht : ¬ Ros.MayGive r sl) :
    Calls Tryz.prog 31 #[.agg (Ros.cells r), .agg #[.int .i64 2, .int .i64 sl, .int .i64 gn, .int .i64 pe]] w fun e w' => e = .returned (.tuple #[.agg (Ros.cells (r)), .int .i64 1]) ∧ Below w.heap.size w w' := by
  have R0 := Lib.hid (((Box.made w 33 (Ros.cells r)).alloc (.cells #[.int .i64 2, .int .i64 sl, .int .i64 gn, .int .i64 pe] 61)).alloc (.cells (Ros.cells rosZero) 33))
  have E0 := Lib.hid ((Box.made_at (n := w.heap.size + 1) (w.alloc (.cells (Ros.cells r) 33)) 61 #[.int .i64 2, .int .i64 sl, .int .i64 gn, .int .i64 pe] (by simp)).alloc (.cells (Ros.cells rosZero) 33))
  have Z0 := Lib.hid (Box.made_at (n := w.heap.size + 1 + 1) ((w.alloc (.cells (Ros.cells r) 33)).alloc (.cells #[.int .i64 2, .int .i64 sl, .int .i64 gn, .int .i64 pe] 61)) 33 (Ros.cells rosZero) (by simp))
  have K0 := Lib.hid ((two_below' w (.cells (Ros.cells r) 33) (.cells #[.int .i64 2, .int .i64 sl, .int .i64 gn, .int .i64 pe] 61)).alloc (by simp <;> omega) (.cells (Ros.cells rosZero) 33))
  have ct := fun X => Lib.hid (refgive_no r sl X ht)
  clear ht
  go_enter Tryz.func31, Tryz.ntmps31
  go_upto_region 9 with (first | (with_reducible refine ros_alloc rfl rfl ?_) | ((with_reducible refine ros_load rfl rfl ?_); apply LoadRow.mk rfl; (focus first | (with_reducible exact R0.out)); (focus (exact ros_info))) | (go_at_call 64; ((with_reducible refine ((ct _).out).mono ?_); rintro e w1 ⟨rfl, hb⟩; have R1 := Lib.hid ((R0.out.below hb R0.out.lt).alloc (.cells (Ros.cells (r)) 33)); have E1 := Lib.hid ((E0.out.below hb E0.out.lt).alloc (.cells (Ros.cells (r)) 33)); have Z1 := Lib.hid ((Z0.out.below hb Z0.out.lt).alloc (.cells (Ros.cells (r)) 33)); have N1 := Lib.hid (Box.made w1 33 (Ros.cells (r))); have K1 := Lib.hid ((K0.out.trans (hb.mono K0.out.size)).alloc (Nat.le_trans K0.out.size hb.size) (.cells (Ros.cells (r)) 33)); clear hb)) | ((with_reducible refine ros_store_new rfl rfl rfl rfl rfl ?_)))
  generalize hW1 : w1.alloc (.cells (Ros.cells (r)) 33) = W1 at R1 E1 Z1 N1 K1 ⊢
  generalize w1.heap.size = bn at N1 ⊢
  clear hW1 R0 E0 Z0 K0
  have e1 := E1.out.cell
  have n1 := N1.out.cell
  have r1 := R1.out.cell
  have R3 := fun m => Lib.hid (R1.out.draws m)
  have N3 := fun m => Lib.hid (N1.out.draws m)
  have Z3 := fun m => Lib.hid (Z1.out.draws m)
  have K3 := fun m => Lib.hid (draws_below K1.out m)
  go_quiet (fail)
  go_wp2_with (first | ((with_reducible refine ros_load rfl rfl ?_); apply LoadRow.mk rfl; (focus first | (with_reducible exact (R3 _).out)); (focus (exact ros_info))) | ((with_reducible refine ros_store rfl rfl ?_); apply StoreRow.mk rfl rfl; (focus (with_reducible exact (Z3 _).out)); (focus (exact ros_info)); (focus rfl); (focus (exact ros_one _))))
  refine bodyPost_ret (v := .tuple #[.agg (Ros.cells (r)), .int .i64 1]) ?_ ?_ ?_
  · exact results_cell_tmp (p := 4) (q := 5) rfl _ _ _ _ (Ros.cells (r)) _ rfl (Box.row (Z3 _).out _) Tryz.underlying33 rfl ros_info
  · rfl
  · exact ⟨rfl, Below.setRow' (K3 _).out (by omega) _⟩

theorem refevent_yes (s : Fd.S) (v : En.Ev) (w : World) (hv : Fd.MayEv s v) :
    Calls Tryz.prog 31 #[.agg (Ros.cells s.r), .agg #[.int .i64 v.kind, .int .i64 v.slot, .int .i64 v.gen, .int .i64 v.peer]] w fun e w' => e = .returned (.tuple #[.agg (Ros.cells (Fd.after s v).r), .int .i64 0]) ∧ Below w.heap.size w w' := by
  rcases hv with ⟨hk, ht, hg⟩ | ⟨hk, ht, hp, hg⟩
  · obtain ⟨k, hk8, e, e', hpk, ht', hp0⟩ := Fd.take_on ht
    unfold Fd.after
    rw [if_pos hk, e', hk, e]
    exact refevent_join s.r k v.gen v.peer w ht' (by rw [hg, e'])
  · obtain ⟨k, hk8, e, e', hpk, ht'⟩ := Fd.give_on ht
    unfold Fd.after
    rw [if_neg (by omega), e', hk, e]
    exact refevent_leave s.r k v.gen v.peer w ht' (by rw [← hp, e']) (by rw [← hg, e'])
theorem refevent_no (s : Fd.S) (v : En.Ev) (w : World) (hv : En.evOk v) (hno : ¬ Fd.MayEv s v) :
    Calls Tryz.prog 31 #[.agg (Ros.cells s.r), .agg #[.int .i64 v.kind, .int .i64 v.slot, .int .i64 v.gen, .int .i64 v.peer]] w fun e w' => e = .returned (.tuple #[.agg (Ros.cells s.r), .int .i64 1]) ∧ Below w.heap.size w w' := by
  obtain ⟨q, sl, gn, pe⟩ := v
  obtain ⟨hk, hs, hg, hp⟩ := hv
  dsimp only at *
  obtain ⟨k, rfl⟩ : ∃ k : Nat, sl = k := ⟨sl.toNat, by omega⟩
  have hk8 : k < 8 := by omega
  rcases hk with rfl | rfl
  · by_cases h0 : Ros.MayGive s.r k
    · exact refevent_leave_seat s.r k gn pe w h0 (fun h1 => hno (.inr ⟨rfl, h0, by simpa using h1.1, by simpa using h1.2⟩))
    · exact refevent_leave_no s.r k gn pe w h0
  · by_cases h1 : Ros.MayTake s.r k pe
    · exact refevent_join_gen s.r k gn pe w h1 (fun h => hno (.inl ⟨rfl, h1, by simpa using h⟩))
    · exact refevent_join_no s.r k gn pe w h1
end Go.Proofs.YtkkhdaeihnbilaaGreat
namespace Go.Proofs.YtkkhdaeihnbilaaGreat
open Go.RowKit Go.Shelf
set_option linter.unusedVariables false
set_option linter.unusedSimpArgs false


theorem ship_info7 : (Tryz.prog.info? 24).map (·.size) = some 7 := by kernel_rfl
theorem ship_splice (g : Gm.G) (s : Value) (i : Nat) (hi : i < 8) (u : Gm.Ship) : splice (Gm.cells g s) (2 + i * 7) u.cells = Gm.cells { g with ship := Gm.upd g.ship i u } s := by
  match i, hi with
  | 0, _ | 1, _ | 2, _ | 3, _ | 4, _ | 5, _ | 6, _ | 7, _ => rfl
section
variable {ops : Array Oper} {rest : List Oper} {o : Oper} {a : Act} {w : World} {Q : Exit → Act → World → Prop} {x y : Operand} {dst : Option Tmp} {p v : Value}
/-- What the store of a game's ship wants. -/
def StoreShip (ops : Array Oper) (Q : Exit → Act → World → Prop) (rest : List Oper) (dst : Option Tmp) (p v : Value) (a : Act) (w : World) : Prop :=
  ∃ (B i : Nat) (g : Gm.G) (s : Value) (u : Gm.Ship), p = .pointer (some ⟨B, 2 + i * 7, none⟩) ∧ v = .agg u.cells.toArray ∧ i < 8 ∧ Box w B 28 (Gm.cells g s) ∧ wpList Tryz.prog ops Q rest (a.put dst undef) (w.setRow B (Gm.cells { g with ship := Gm.upd g.ship i u } s))
theorem StoreShip.mk {B i : Nat} {g : Gm.G} {s : Value} {u : Gm.Ship} (hp : p = .pointer (some ⟨B, 2 + i * 7, none⟩)) (hv : v = .agg u.cells.toArray) (hi : i < 8) (hB : Box w B 28 (Gm.cells g s)) (h : wpList Tryz.prog ops Q rest (a.put dst undef) (w.setRow B (Gm.cells { g with ship := Gm.upd g.ship i u } s))) : StoreShip ops Q rest dst p v a w := ⟨B, i, g, s, u, hp, hv, hi, hB, h⟩
theorem gm_store_ship (hgd : o.guard = none) (ho : o.op = .store 24 x y) (h : StoreShip ops Q rest o.dst (a.eval x) (a.eval y) a w) : wpList Tryz.prog ops Q (o :: rest) a w := by
  obtain ⟨B, i, g, s, u, hx, hy, hi, hB, h⟩ := h
  refine wpList_store_mid hgd 24 x y ho B (2 + i * 7) u.cells.toArray hx hy (hB.there _ _ (by rw [Gm.cells_size]; show 2 + i * 7 + 7 ≤ 59; omega)) ship_info7 (by simp [Gm.Ship.cells, Value.oneCell']) ?_
  rw [setCells_row B 28 _ (2 + i * 7) (Gm.cells g s) w hB.is (by rw [Gm.cells_size]; show 2 + i * 7 + 7 ≤ 59; omega), ship_splice g s i hi u]
  exact h
end

set_option maxRecDepth 100000 in
set_option maxHeartbeats 4000000 in
theorem refremove_yes (g : Gm.G) (A : Option Addr) (n c i : Nat) (w : World) (hg : Gm.ok g) (hn : n = g.shots.length) (hr : Lies w w.heap.size 6 A n (Gm.shotCells g.shots)) (hi : i < 8) (ho : (g.ship i).on = true) :
    Calls Tryz.prog 32 #[.agg (Gm.cells g (.slice A n c)), .int .i64 i] w (Out (Gm.remove g i) 0 w) := by
  have b1 : Box ((w.alloc (.cells (Gm.cells g (.slice A n c)) 28)).alloc (.cells (Gm.cells zeroG (.slice none 0 0)) 28)) w.heap.size 28 (Gm.cells g (.slice A n c)) := (Box.made _ _ _).alloc _
  have b2 : Box ((w.alloc (.cells (Gm.cells g (.slice A n c)) 28)).alloc (.cells (Gm.cells zeroG (.slice none 0 0)) 28)) (w.heap.size + 1) 28 (Gm.cells zeroG (.slice none 0 0)) := Box.made_at _ _ _ (by simp)
  have hb0 := two_below' w (.cells (Gm.cells g (.slice A n c)) 28) (.cells (Gm.cells zeroG (.slice none 0 0)) 28)
  have cm := Lib.hid (refmay_yes g A n c _ hg hn ((hr.below hb0).wider hb0.size))
  have q0 : (Gm.cells g (.slice A n c))[2 + i * 7]? = some (.bool true) := (Gm.cells_ship g _ i 0 hi (by omega)).trans (by show some (Value.bool (g.ship i).on) = _; rw [ho])
  have hi8 : (i : Int) < 8 := by omega
  have hi0 : ¬ (i : Int) < 0 := by omega
  obtain ⟨i0, hi1, hz0, hz1, hz2⟩ := info_parts shot_info
  have hI := Lib.hid hi1
  have hZ := Lib.hid hz0
  have hS := Lib.hid hz1
  have hY := Lib.hid hz2
  have HI := Lib.hid hi
  have HR := Lib.hid hr
  have hN := Lib.hid hn
  have h32 : n ≤ 32 := by rw [hn]; exact hg.2.2.1
  have HB := Lib.hid hb0
  have B1 := Lib.hid b1
  have B2 := Lib.hid b2
  clear hr hn b1 b2 hb0 ho hg hi1 hz0 hz1 hz2 hi
  go_enter Tryz.func32, Tryz.ntmps32
  go_upto_region 3 with (first | (refine wpList_alloc_game rfl rfl ?_) | ((with_reducible refine load_gate rfl rfl ?_); apply LoadGame.mk rfl; (with_reducible exact B1.out)) | (go_at_call 36; ((with_reducible refine (cm.out).mono ?_); rintro e w1 ⟨rfl, hb⟩; have C1 := Lib.hid (B1.out.below hb (by simp <;> omega)); have C2 := Lib.hid (B2.out.below hb (by simp <;> omega)); have cc := C1.out.cell; have cl := C1.out.lt; have hbb := HB.out.trans (hb.mono HB.out.size); have HBB := Lib.hid hbb; have s1 : w.heap.size + 1 + 1 ≤ w1.heap.size := (by have := hb.size; simp at this; omega); clear hb hbb)))
  obtain ⟨G, hG⟩ : ∃ G : Gm.G, G = { g with ship := Gm.upd g.ship i Gm.Ship.none } := ⟨_, rfl⟩
  have D1 := Lib.hid (C1.out.row (Gm.cells G (.slice A n c)))
  have D2 := Lib.hid (C2.out.row_far (show w.heap.size + 1 ≠ w.heap.size by omega) (Gm.cells G (.slice A n c)))
  have DD := Lib.hid (Below.setRow' HBB.out (Nat.le_refl _) (Gm.cells G (.slice A n c)))
  have hsz : (w1.setRow w.heap.size (Gm.cells G (.slice A n c))).heap.size = w1.heap.size := setRow_size _ _ _
  have HG := Lib.hid hG
  subst hG
  go_upto_region 4 with ((with_reducible refine gm_store_ship rfl rfl ?_); apply StoreShip.mk (u := Gm.Ship.none) rfl rfl HI.out; (focus (with_reducible exact C1.out)); dsimp only)
  generalize hW2 : w1.setRow w.heap.size (Gm.cells { g with ship := Gm.upd g.ship i Gm.Ship.none } (.slice A n c)) = W2 at D1 D2 DD hsz ⊢
  clear C1 C2 cc cl hW2 HBB B1 B2 HB cm q0
  have hn := hN.out
  subst hn
  have X0 := Lib.hid (show Shoots g g.shots ⟨g.dice, Gm.upd g.ship i Gm.Ship.none, []⟩ A c w W2 (w.heap.size + 1) w.heap.size (w.heap.size + 1 + 1) (.slice none 0 0) from
    ⟨D1.out, ((HR.out.below DD.out).wider (by omega)), ⟨none, 0, rfl, World.ownsRow_nil _ _ _ _⟩, D2.out, DD.out, by omega⟩)
  clear D1 D2 DD hsz
  go_wp2
  go_loopw [6, 7] (fun s6 ii wr => ∃ k : Nat, k ≤ g.shots.length ∧ ii = .int .i64 k ∧ Shoots g g.shots ⟨g.dice, Gm.upd g.ship i Gm.Ship.none, (g.shots.take k).filter (oth i)⟩ A c w wr (w.heap.size + 1) w.heap.size (w.heap.size + 1 + 1) s6) (fun _ ii _ => g.shots.length - (intOf ii).toNat)
  case atStart => exact ⟨0, Nat.zero_le _, rfl, X0.out⟩
  case round =>
    obtain ⟨k, hk, rfl, hX⟩ := hrel
    clear X0
    have e58 := Gm.cells_58 { g with dice := g.dice, ship := Gm.upd g.ship i Gm.Ship.none } (.slice A g.shots.length c)
    have gc := hX.game.cell
    have gl := hX.game.lt
    dsimp only at gc
    by_cases hlt : k < g.shots.length
    · have hk8 : (k : Int) < g.shots.length := by omega
      obtain ⟨ad, rfl, hbl, a0, a1, a2, a3, a4, a5⟩ := shots_at hX.shots rfl k hlt
      have hsn := Lib.hid (oth_snoc i g.shots k hlt)
      obtain ⟨A3, c3, hs6, hO⟩ := hX.left
      have hlen : ((g.shots.take k).filter (oth i)).length ≤ k := Nat.le_trans (List.length_filter_le _ _) (by rw [List.length_take]; omega)
      generalize hLF : (g.shots.take k).filter (oth i) = left at *
      obtain ⟨s, hs⟩ : ∃ s, s = g.shots[k] := ⟨_, rfl⟩
      rw [← hs] at a0 a1 a2 a3 a4 a5
      have HSS := Lib.hid hs
      have hso : Hid (oth i s = decide (s.owner ≠ i)) := Lib.hid rfl
      obtain ⟨so, sx, sy, svx, svy, sl⟩ := s
      dsimp only at a0 a1 a2 a3 a4 a5 hs6 hO
      subst hs6
      have HX := Lib.hid hX
      have HOO := Lib.hid hO
      have ltA : ad.block < wr.heap.size := by have := hX.size; omega
      have hsz2 := hX.size
      clear hs hX hO hLF
      by_cases h1 : so = i
      · have HO := Lib.hid (show oth i ⟨so, sx, sy, svx, svy, sl⟩ = false from hso.out.trans (decide_eq_false (by simpa using h1)))
        subst h1
        go_wp2
        go_roundw
        case rel =>
          refine ⟨k + 1, by omega, by go_num, ?_⟩
          rw [hsn.out, ← HSS.out, HO.out]
          simp only [Bool.false_eq_true, if_false, List.append_nil]
          exact HX.out
        case measure => simp [intOf]; omega
      · have HO := Lib.hid (show oth i ⟨so, sx, sy, svx, svy, sl⟩ = true from hso.out.trans (decide_eq_true (by simpa using h1)))
        have hne : (so != i) = true := by simpa using h1
        clear hso
        go_wp2_with ((with_reducible refine append_gate (x := .tmp 47) (y := .tmp 53) (t := 26) (e := 90) (size := 6) (bytes := 32) rfl rfl Tryz.underlying26 hI.out hZ.out hS.out hY.out rfl (by decide) ?_); refine Appends.mk rfl (HOO.out.alloc _) (lies_made wr 90 ⟨so, sx, sy, svx, svy, sl⟩) (shotCells_one _) (by unfold maxLen; omega) (by omega) (by simp <;> omega) ?_; intro A4 k4 w2 own2 hg2; have SH2 := Lib.hid (shoots_kept HX.out HOO.out own2 hg2 (by omega)); clear own2 hg2)
        go_roundw
        case rel =>
          refine ⟨k + 1, by omega, by go_num, ?_⟩
          rw [hsn.out, ← HSS.out, HO.out]
          exact SH2.out
        case measure => simp [intOf]; omega
    · have hk8 : ¬ (k : Int) < g.shots.length := by omega
      obtain rfl : k = g.shots.length := by omega
      rw [List.take_length] at hX
      obtain ⟨A3, c3, hs6, hO⟩ := hX.left
      dsimp only at hs6 hO
      generalize hfin : g.shots.filter (oth i) = fin at *
      subst hs6
      have HF := Lib.hid hfin
      have nO := hX.game.unowned hO (by decide)
      have G4 := Lib.hid (show Box (wr.setCell ⟨w.heap.size, 58, none⟩ (.slice A3 fin.length c3)) w.heap.size 28 (Gm.cells (Gm.remove g i) (.slice A3 fin.length c3)) from blk_shots (g := Gm.remove g i) hX.game _)
      have R4 := Lib.hid (hX.res.far (p := ⟨w.heap.size, 58, none⟩) (show w.heap.size + 1 ≠ w.heap.size by omega) (.slice A3 fin.length c3))
      have O4 := Lib.hid (ownsRow_setCell_other (a := ⟨w.heap.size, 58, none⟩) hO nO (.slice A3 fin.length c3))
      have K4 := Lib.hid (hX.below.setCell (p := ⟨w.heap.size, 58, none⟩) (Nat.le_refl _) (.slice A3 fin.length c3))
      have gf := hX.game.free
      clear hX hO hfin nO
      go_wp2_with (first | ((with_reducible refine load_gate rfl rfl ?_); apply LoadGame.mk rfl; exact G4.out) | ((with_reducible refine store_gate rfl rfl ?_); apply StoreGame.mk rfl rfl rfl; exact R4.out))
      have hfl : Hid ((Gm.remove g i).shots.length = fin.length) := Lib.hid (by rw [← HF.out]; rfl)
      refine bodyPost_ret (v := .tuple #[.agg (Gm.cells (Gm.remove g i) (.slice A3 fin.length c3)), .int .i64 0]) ?_ ?_ ?_
      · exact results_cell_tmp (p := 4) (q := 5) rfl _ _ _ _ (Gm.cells (Gm.remove g i) (.slice A3 fin.length c3)) _ rfl (Box.row R4.out _) Tryz.underlying28 rfl game_info
      · rfl
      · refine ⟨A3, c3, by rw [hfl.out], ?_, Below.setRow' K4.out (by omega) _⟩
        have := Lies.owned (own_setRow O4.out (R4.out.unowned O4.out (by decide)) (Gm.cells (Gm.remove g i) (.slice A3 fin.length c3)))
        rw [hfl.out, show Gm.shotCells (Gm.remove g i).shots = Gm.shotCells fin from by rw [← HF.out]; rfl]
        exact this
end Go.Proofs.YtkkhdaeihnbilaaGreat
namespace Go.Proofs.YtkkhdaeihnbilaaGreat
open Go.RowKit
set_option linter.unusedVariables false

/-- The world behind a spawn. -/
def spawned (w1 : World) (B i : Nat) (x y d : Int) : World :=
  (((((((w1.setCell ⟨B, 1, none⟩ (.int .u64 d)).setCell ⟨B, 2 + i * 7, none⟩ (.bool true)).setCell ⟨B, 2 + i * 7 + 1, none⟩ (.int .i32 x)).setCell ⟨B, 2 + i * 7 + 2, none⟩ (.int .i32 y)).setCell ⟨B, 2 + i * 7 + 3, none⟩ (.int .i32 0)).setCell ⟨B, 2 + i * 7 + 4, none⟩ (.int .i32 0)).setCell ⟨B, 2 + i * 7 + 5, none⟩ (.int .i64 0)).setCell ⟨B, 2 + i * 7 + 6, none⟩ (.int .i64 0)
theorem spawned_own {w1 : World} {B i : Nat} {g : Gm.G} {s : Value} (c1 : Box w1 B 28 (Gm.cells g s)) (hi : i < 8) (x y d : Int) :
    Box (spawned w1 B i x y d) B 28 (Gm.cells { g with dice := d, ship := Gm.upd g.ship i ⟨true, x, y, 0, 0, 0, 0⟩ } s) := blk_ship (blk_dice c1 d) hi ⟨true, x, y, 0, 0, 0, 0⟩
theorem spawned_other {w1 : World} {B B' i : Nat} {t : TypeId} {cs : Array Value} (c2 : Box w1 B' t cs) (hne : B' ≠ B) (x y d : Int) : Box (spawned w1 B i x y d) B' t cs :=
  (((((((c2.far hne _).far hne _).far hne _).far hne _).far hne _).far hne _).far hne _).far hne _
theorem spawned_below {w0 w1 : World} {C B i : Nat} (h : Below C w0 w1) (hC : C ≤ B) (x y d : Int) : Below C w0 (spawned w1 B i x y d) :=
  (((((((h.setCell hC _).setCell hC _).setCell hC _).setCell hC _).setCell hC _).setCell hC _).setCell hC _).setCell hC _

set_option maxRecDepth 100000 in
set_option maxHeartbeats 400000 in
theorem refspawn_walk (g : Gm.G) (A : Option Addr) (n c i : Nat) (x y d : Int) (w : World) (hg : Gm.ok g) (hd : 0 ≤ g.dice ∧ g.dice ≤ 18446744073709551615) (hn : n = g.shots.length) (hr : Lies w w.heap.size 6 A n (Gm.shotCells g.shots)) (hi : i < 8) (ho : (g.ship i).on = false)
    (hx : Dn.share (Dn.next g.dice) 16777216 = x) (hy : Dn.share (Dn.next (Dn.next g.dice)) 16777216 = y) (hdd : Dn.next (Dn.next g.dice) = d) :
    Calls Tryz.prog 33 #[.agg (Gm.cells g (.slice A n c)), .int .i64 i] w fun e w' => e = .returned (.tuple #[.agg (Gm.cells { g with dice := d, ship := Gm.upd g.ship i ⟨true, x, y, 0, 0, 0, 0⟩ } (.slice A n c)), .int .i64 0]) ∧ Below w.heap.size w w' := by
  have b1 : Box ((w.alloc (.cells (Gm.cells g (.slice A n c)) 28)).alloc (.cells (Gm.cells zeroG (.slice none 0 0)) 28)) w.heap.size 28 (Gm.cells g (.slice A n c)) := (Box.made _ _ _).alloc _
  have b2 : Box ((w.alloc (.cells (Gm.cells g (.slice A n c)) 28)).alloc (.cells (Gm.cells zeroG (.slice none 0 0)) 28)) (w.heap.size + 1) 28 (Gm.cells zeroG (.slice none 0 0)) := Box.made_at _ _ _ (by simp)
  have hb0 := two_below' w (.cells (Gm.cells g (.slice A n c)) 28) (.cells (Gm.cells zeroG (.slice none 0 0)) 28)
  have cm := Lib.hid (refmay_yes g A n c _ hg hn ((hr.below hb0).wider hb0.size))
  have cp := fun X => Lib.hid (refplace_any g.dice hd X)
  rw [hx, hy, hdd] at cp
  have hi8 : (i : Int) < 8 := by omega
  obtain ⟨t, ht⟩ : ∃ t, t = g.ship i := ⟨_, rfl⟩
  have q0 : (Gm.cells g (.slice A n c))[2 + i * 7]? = some (.bool false) := (Gm.cells_ship g _ i 0 hi (by omega)).trans (by show some (Value.bool (g.ship i).on) = _; rw [ho])
  have q1 : (Gm.cells g (.slice A n c))[2 + i * 7 + 1]? = some (.int .i32 t.x) := (Gm.cells_ship g _ i 1 hi (by omega)).trans (by rw [ht]; rfl)
  have q2 : (Gm.cells g (.slice A n c))[2 + i * 7 + 2]? = some (.int .i32 t.y) := (Gm.cells_ship g _ i 2 hi (by omega)).trans (by rw [ht]; rfl)
  have q3 : (Gm.cells g (.slice A n c))[2 + i * 7 + 3]? = some (.int .i32 t.vx) := (Gm.cells_ship g _ i 3 hi (by omega)).trans (by rw [ht]; rfl)
  have q4 : (Gm.cells g (.slice A n c))[2 + i * 7 + 4]? = some (.int .i32 t.vy) := (Gm.cells_ship g _ i 4 hi (by omega)).trans (by rw [ht]; rfl)
  have q5 : (Gm.cells g (.slice A n c))[2 + i * 7 + 5]? = some (.int .i64 t.cool) := (Gm.cells_ship g _ i 5 hi (by omega)).trans (by rw [ht]; rfl)
  have q6 : (Gm.cells g (.slice A n c))[2 + i * 7 + 6]? = some (.int .i64 t.score) := (Gm.cells_ship g _ i 6 hi (by omega)).trans (by rw [ht]; rfl)
  have e1 := Gm.cells_1 g (.slice A n c)
  have hbz := Lib.hid hb0
  have B1 := Lib.hid b1
  have B2 := Lib.hid b2
  clear ht hn hr hb0 b1 b2 hx hy hdd ho hg
  go_enter Tryz.func33, Tryz.ntmps33
  go_wp2_with (first | (refine wpList_alloc_game rfl rfl ?_) | ((with_reducible refine load_gate rfl rfl ?_); apply LoadGame.mk rfl; (with_reducible exact B1.out)) | ((with_reducible refine load_gate rfl rfl ?_); apply LoadGame.mk rfl; exact F1.out) | (go_at_call 36; ((with_reducible refine (cm.out).mono ?_); rintro e w1 ⟨rfl, hb⟩; have c1 := B1.out.below hb (by simp; omega); have c2 := B2.out.below hb (by simp); have cc := c1.cell; have cf := c1.free; have cl := c1.lt; have hbb := Lib.hid (hbz.out.trans (hb.mono hbz.out.size)); have F1 := Lib.hid (spawned_own c1 hi x y d); have F2 := Lib.hid (spawned_other (B := w.heap.size) (i := i) c2 (by omega) x y d); clear c1 c2 hb)) | (go_at_call 65; ((with_reducible refine ((cp _).out).mono ?_); rintro e w' ⟨rfl, rfl⟩)) | (refine wpList_build_is rfl (t := 24) (vs := [(0, .bool true), (1, .int .i32 x), (2, .int .i32 y)]) rfl rfl (built_ship0 _ _) ?_) | ((with_reducible refine store_gate rfl rfl ?_); apply StoreGame.mk rfl rfl rfl; exact F2.out))
  refine bodyPost_ret (v := .tuple #[.agg (Gm.cells { g with dice := d, ship := Gm.upd g.ship i ⟨true, x, y, 0, 0, 0, 0⟩ } (.slice A n c)), .int .i64 0]) ?_ ?_ ?_
  · exact results_cell_tmp (p := 4) (q := 5) rfl _ _ _ _ (Gm.cells { g with dice := d, ship := Gm.upd g.ship i ⟨true, x, y, 0, 0, 0, 0⟩ } (.slice A n c)) _ rfl (Box.row F2.out _) Tryz.underlying28 rfl game_info
  · rfl
  · exact ⟨rfl, Below.setRow' (spawned_below hbb.out (Nat.le_refl _) x y d) (by omega) _⟩
theorem refspawn_yes (g : Gm.G) (A : Option Addr) (n c i : Nat) (w : World) (hg : Gm.ok g) (hd : 0 ≤ g.dice ∧ g.dice ≤ 18446744073709551615) (hn : n = g.shots.length) (hr : Lies w w.heap.size 6 A n (Gm.shotCells g.shots)) (hi : i < 8) (ho : (g.ship i).on = false) :
    Calls Tryz.prog 33 #[.agg (Gm.cells g (.slice A n c)), .int .i64 i] w fun e w' => e = .returned (.tuple #[.agg (Gm.cells (Gm.spawn g i) (.slice A n c)), .int .i64 0]) ∧ Below w.heap.size w w' :=
  refspawn_walk g A n c i _ _ _ w hg hd hn hr hi ho rfl rfl rfl
end Go.Proofs.YtkkhdaeihnbilaaGreat
namespace En
open Go Im
def in0 : Nat → Gm.In := fun _ => ⟨0, 0, 0⟩
theorem zero_is {p : Gm.In} (h : zero p = true) : p = ⟨0, 0, 0⟩ := by
  unfold zero at h
  have := of_decide_eq_true h
  obtain ⟨x, y, b⟩ := p
  dsimp only at this
  obtain ⟨rfl, rfl, rfl⟩ := this
  rfl
end En
namespace Bd
open Go
theorem i8 {a : Int} (h : (Lit.int .i8 a).wf = true) : -128 ≤ a ∧ a ≤ 127 := by
  simpa [Lit.wf, IntKind.min, IntKind.max, IntKind.signed, IntKind.bits] using h
theorem i32 {a : Int} (h : (Lit.int .i32 a).wf = true) : -2147483648 ≤ a ∧ a ≤ 2147483647 := by
  simpa [Lit.wf, IntKind.min, IntKind.max, IntKind.signed, IntKind.bits] using h
theorem i64 {a : Int} (h : (Lit.int .i64 a).wf = true) : -9223372036854775808 ≤ a ∧ a ≤ 9223372036854775807 := by
  simpa [Lit.wf, IntKind.min, IntKind.max, IntKind.signed, IntKind.bits] using h
theorem u8 {a : Int} (h : (Lit.int .u8 a).wf = true) : 0 ≤ a ∧ a ≤ 255 := by
  simpa [Lit.wf, IntKind.min, IntKind.max, IntKind.signed, IntKind.bits] using h
theorem u64 {a : Int} (h : (Lit.int .u64 a).wf = true) : 0 ≤ a ∧ a ≤ 18446744073709551615 := by
  simpa [Lit.wf, IntKind.min, IntKind.max, IntKind.signed, IntKind.bits] using h
end Bd
namespace Go.Proofs.YtkkhdaeihnbilaaGreat
open Go.ChangeShapes Go.WideShapes Go.ChangeAt Go.RowKit Go.Joins Go.ChangeMaps Go.Deep
set_option linter.unusedVariables false

theorem cells?_cell' {w : World} {base : Nat} {a : Addr} {n : Nat} {cs : List Value} (h : w.cells? base a n = some cs) : cs.length = n ∧ ∀ j, j < n → w.cell? (a.add j) = cs[j]? := by
  unfold World.cells? at h
  split at h
  · have hl := mapM_some_length h
    refine ⟨by simpa using hl, fun j hj => ?_⟩
    have := mapM_some_get h j j (by simp [hj])
    rw [this]
  · cases h
theorem cells_one_of' {v x : Value} (h : ∀ cs, v ≠ .agg cs) (hv : v.cells.toList = [x]) : v = x := by
  cases v <;> first | exact absurd rfl (h _) | simpa [Value.cells] using hv
section
variable {α : Type} {cells : α → List Value} {c : Nat}
theorem flat_len (hc : ∀ a, (cells a).length = c) (l : List α) : (l.flatMap cells).length = l.length * c := by
  induction l with
  | nil => simp
  | cons s l ih => rw [List.flatMap_cons, List.length_append, ih, List.length_cons, hc, Nat.succ_mul]; omega
theorem flat_at (hc : ∀ a, (cells a).length = c) (l : List α) (k j : Nat) (hk : k < l.length) (hj : j < c) : (l.flatMap cells)[k * c + j]? = (cells l[k])[j]? := by
  induction l generalizing k with
  | nil => simp at hk
  | cons s l ih =>
    rw [List.flatMap_cons]
    match k with
    | 0 => rw [List.getElem?_append_left (by rw [hc]; omega)]; simp
    | k + 1 =>
      rw [List.getElem?_append_right (by rw [hc, Nat.succ_mul]; omega)]
      have := ih k (by simpa using hk)
      rw [show (k + 1) * c + j - (cells s).length = k * c + j from by rw [hc, Nat.succ_mul]; omega, this]
      simp
end
section
variable {H : Type} {enc : TypeId × Value → H} {w : World} {base : Nat} {spare : Nat → Bool} {held : Bool}
set_option maxRecDepth 100000 in
theorem open_slice_c {α : Type} {t e : TypeId} (cells : α → List Value) (c : Nat) (ty : α → Prop) (z : α) (hu : Tryz.prog.underlying t = some (.slice e)) (hce : Tryz.prog.cellsOf e = c) (hc0 : 0 < c) (hlen : ∀ a, (cells a).length = c)
    (hel : ∀ {base : Nat} {spare : Nat → Bool} {held : Bool} {fuel : Nat} {l : List Value} {y : DataW H × List MemPlace}, l.length = c → DataW.trod enc Tryz.prog w base spare held fuel e l = some y → ∃ q : α, l = cells q ∧ ty q)
    {v : Value} {d : DataW H} {p : List MemPlace} (hag : ∀ cs, v ≠ .agg cs) (h : DataW.Trod enc Tryz.prog w base spare held t v d p) : ∃ (A : Option Addr) (cc : Nat) (l : List α), v = .slice A l.length cc ∧ (∀ x ∈ l, ty x) ∧ l.length ≤ maxLen ∧ Lies w w.heap.size c A l.length (l.flatMap cells) ∧ l.length ≤ cc := by
  obtain ⟨fuel, hf⟩ := h
  rcases DataW.trod_slice hu hf with ⟨hv, _⟩ | ⟨a, len, cap, elems, rest, n, rfl, hv, _, _, hlc, hcm, hlen', hel', _, _⟩
  · have ev : v = .slice none 0 0 := cells_one_of' hag hv
    exact ⟨none, 0, [], ev, fun x hx => (by cases hx), Nat.zero_le _, Lies.empty, Nat.le_refl _⟩
  · have ev : v = .slice (some a) len cap := cells_one_of' hag hv
    simp only [hce] at hel'
    have key : ∀ i, i < len → ∃ q : α, w.cells? base (a.add (i * c)) c = some (cells q) ∧ ty q := by
      intro i hi
      obtain ⟨y, hy⟩ : ∃ y, elems[i]? = some y := ⟨elems[i]'(by omega), List.getElem?_eq_getElem (by omega)⟩
      have h := hel' i hi
      rw [hy, Option.bind_eq_some_iff] at h
      obtain ⟨cs, hcs, ht⟩ := h
      have hl := (cells?_cell' hcs).1
      obtain ⟨q, h1, h2⟩ := hel hl ht
      exact ⟨q, by rw [hcs, h1], h2⟩
    have hch : ∃ ps : Nat → α, ∀ i, i < len → (w.cells? base (a.add (i * c)) c = some (cells (ps i)) ∧ ty (ps i)) :=
      ⟨fun i => if h : i < len then (key i h).choose else z, fun i hi => by dsimp only; rw [dif_pos hi]; exact (key i hi).choose_spec⟩
    obtain ⟨ps, hps⟩ := hch
    have ll : ((List.range len).map ps).length = len := by simp
    have lf : (((List.range len).map ps).flatMap cells).length = len * c := by rw [flat_len hlen, ll]
    refine ⟨some a, cap, (List.range len).map ps, by rw [ll]; exact ev, fun x hx => ?_, by rw [ll]; omega, ⟨?_, fun h0 => ?_, fun ad e h0 j u hu => ?_⟩, by rw [ll]; exact hlc⟩
    · obtain ⟨i, hi, rfl⟩ := List.mem_map.1 hx
      exact (hps i (by simpa using hi)).2
    · rw [lf, ll]
    · rw [ll] at h0
      exact ⟨a, rfl, by have := World.cells?_block (hps 0 (by omega)).1 hc0; simpa [Addr.add] using this⟩
    · injection e with e
      subst e
      have hjl : j < len * c := by have := (List.getElem?_eq_some_iff.1 hu).1; rwa [lf] at this
      have hjc : j / c < len := (Nat.div_lt_iff_lt_mul hc0).2 hjl
      have hjm : j % c < c := Nat.mod_lt _ hc0
      have hjj : j / c * c + j % c = j := by rw [Nat.mul_comm]; exact Nat.div_add_mod j c
      have hq := (cells?_cell' (hps (j / c) hjc).1).2 (j % c) hjm
      rw [add_twice, hjj] at hq
      rw [hq, ← hu]
      have := flat_at hlen ((List.range len).map ps) (j / c) (j % c) (by rw [ll]; exact hjc) hjm
      rw [hjj] at this
      rw [this]
      simp
/-- A list of whole numbers. -/
theorem open_slice {α : Type} {t e : TypeId} (cells : α → List Value) (c : Nat) (ty : α → Prop) (z : α) (hu : Tryz.prog.underlying t = some (.slice e)) (hce : Tryz.prog.cellsOf e = c) (hc0 : 0 < c) (hlen : ∀ a, (cells a).length = c)
    (hel : ∀ {base : Nat} {spare : Nat → Bool} {held : Bool} {fuel : Nat} {l : List Value} {y : DataW H × List MemPlace}, l.length = c → DataW.trod enc Tryz.prog w base spare held fuel e l = some y → ∃ q : α, l = cells q ∧ ty q)
    {v : Value} {d : DataW H} {p : List MemPlace} (hag : ∀ cs, v ≠ .agg cs) (h : DataW.Trod enc Tryz.prog w base spare held t v d p) : ∃ (A : Option Addr) (cc : Nat) (l : List α), v = .slice A l.length cc ∧ (∀ x ∈ l, ty x) ∧ l.length ≤ maxLen ∧ Lies w w.heap.size c A l.length (l.flatMap cells) := by
  obtain ⟨A, cc, l, h1, h2, h3, h4, _⟩ := open_slice_c cells c ty z hu hce hc0 hlen hel hag h
  exact ⟨A, cc, l, h1, h2, h3, h4⟩

end
end Go.Proofs.YtkkhdaeihnbilaaGreat
namespace Go.Proofs.YtkkhdaeihnbilaaGreat
open Go.RowKit Go.Shelf
set_option linter.unusedVariables false
set_option linter.unusedSimpArgs false

theorem en_info : (Tryz.prog.info? 42).map (·.size) = some 26 := by kernel_rfl
theorem ins_info : (Tryz.prog.info? 40).map (·.size) = some 24 := by kernel_rfl

theorem stickmay_any (x y b : Int) (w : World) :
    Calls Tryz.prog 95 #[.agg #[.int .i8 x, .int .i8 y, .int .u8 b]] w fun e w' => e = .returned (.bool (decide (-127 ≤ x ∧ -127 ≤ y))) ∧ Below w.heap.size w w' := by
  by_cases hx : -127 ≤ x
  · go_enter Tryz.func95, Tryz.ntmps95
    go_wp2
    go_ret
    exact ⟨ret_bool (by (try rw [Bool.eq_iff_iff]) <;> simp <;> omega), one_below _ _⟩
  · go_enter Tryz.func95, Tryz.ntmps95
    go_wp2
    go_ret
    exact ⟨ret_bool (by (try rw [Bool.eq_iff_iff]) <;> simp <;> omega), one_below _ _⟩

set_option maxHeartbeats 1000000 in
theorem mayevent_any (k s g p : Int) (w : World) :
    Calls Tryz.prog 123 #[.agg #[.int .i64 k, .int .i64 s, .int .i64 g, .int .i64 p]] w fun e w' => e = .returned (.bool (decide (En.evOk ⟨k, s, g, p⟩))) ∧ Below w.heap.size w w' := by
  obtain ⟨r, hr⟩ : ∃ r, r = decide (En.evOk ⟨k, s, g, p⟩) := ⟨_, rfl⟩
  rw [← hr]
  unfold En.evOk at hr
  dsimp only at hr
  by_cases hk : k = 2 ∨ k = 1
  · have hkb : (if (k == 2) = true then true else k == 1) = true := by rcases hk with rfl | rfl <;> rfl
    by_cases hs : 0 ≤ s ∧ s < 8
    · by_cases hg : 1 ≤ g ∧ g ≤ 60000
      · have hr' : r = decide (0 ≤ p ∧ p < 12) := by
          rw [hr]
          by_cases hp : 0 ≤ p ∧ p < 12
          · rw [decide_eq_true hp]; exact decide_eq_true ⟨hk, hs, hg, hp⟩
          · rw [decide_eq_false hp]; exact decide_eq_false fun h => hp h.2.2.2
        have HR := Lib.hid hr'
        clear hr hr'
        obtain ⟨hs1, hs2⟩ := hs
        obtain ⟨hg1, hg2⟩ := hg
        rcases hk with rfl | rfl
        all_goals
          by_cases hp1 : 0 ≤ p
          all_goals
            go_enter Tryz.func123, Tryz.ntmps123
            go_wp2
            go_ret
            exact ⟨ret_bool (by rw [HR.out]; (try rw [Bool.eq_iff_iff]) <;> simp <;> omega), one_below _ _⟩
      · have hr' : r = false := by rw [hr]; exact decide_eq_false (by omega)
        subst hr'
        obtain ⟨hs1, hs2⟩ := hs
        clear hr
        rcases hk with rfl | rfl
        all_goals
          by_cases hg1 : 1 ≤ g
          · have hg2 : ¬ g ≤ 60000 := by omega
            go_enter Tryz.func123, Tryz.ntmps123
            go_wp2
            go_ret
            exact ⟨rfl, one_below _ _⟩
          · go_enter Tryz.func123, Tryz.ntmps123
            go_wp2
            go_ret
            exact ⟨rfl, one_below _ _⟩
    · have hr' : r = false := by rw [hr]; exact decide_eq_false (by omega)
      subst hr'
      clear hr
      rcases hk with rfl | rfl
      all_goals
        by_cases hs1 : 0 ≤ s
        · have hs2 : ¬ s < 8 := by omega
          go_enter Tryz.func123, Tryz.ntmps123
          go_wp2
          go_ret
          exact ⟨rfl, one_below _ _⟩
        · go_enter Tryz.func123, Tryz.ntmps123
          go_wp2
          go_ret
          exact ⟨rfl, one_below _ _⟩
  · have hr' : r = false := by rw [hr]; exact decide_eq_false (by omega)
    subst hr'
    have h2 : (k == 2) = false := by simp; omega
    have h1 : (k == 1) = false := by simp; omega
    clear hr hk
    go_enter Tryz.func123, Tryz.ntmps123
    go_wp2
    go_ret
    exact ⟨rfl, one_below _ _⟩

theorem enplace_any (k s g p : Int) (w : World) (h : En.evOk ⟨k, s, g, p⟩) :
    Calls Tryz.prog 124 #[.agg #[.int .i64 k, .int .i64 s, .int .i64 g, .int .i64 p]] w fun e w' => e = .returned (.int .i64 (En.place ⟨k, s, g, p⟩)) ∧ Below w.heap.size w w' := by
  obtain ⟨h1, h2, _⟩ := h
  dsimp only at h1 h2
  have hw : IntKind.i64.wrap (8 + s) = 8 + s := by rw [IntKind.wrap_i64]; omega
  rcases h1 with rfl | rfl
  · go_enter Tryz.func124, Tryz.ntmps124
    go_wp2
    go_ret
    exact ⟨rfl, one_below _ _⟩
  · go_enter Tryz.func124, Tryz.ntmps124
    go_wp2
    go_ret
    exact ⟨rfl, one_below _ _⟩

theorem evs_at {w : World} {B n : Nat} {A : Option Addr} {l : List En.Ev} (h : Lies w B 4 A n (En.evCells l)) (hn : n = l.length) (k : Nat) (hk : k < l.length) :
    ∃ ad, A = some ad ∧ ad.block < B ∧ w.cell? (ad.add (k * 4)) = some (.int .i64 l[k].kind) ∧ w.cell? ⟨(ad.add (k * 4)).block, (ad.add (k * 4)).off + 1, none⟩ = some (.int .i64 l[k].slot) ∧
      w.cell? ⟨(ad.add (k * 4)).block, (ad.add (k * 4)).off + 2, none⟩ = some (.int .i64 l[k].gen) ∧ w.cell? ⟨(ad.add (k * 4)).block, (ad.add (k * 4)).off + 3, none⟩ = some (.int .i64 l[k].peer) := by
  obtain ⟨ad, rfl, hb⟩ := h.start (by omega)
  have hc := h.cell ad rfl (by omega)
  have hj : ∀ j v, j < 4 → l[k].cells[j]? = some v → w.cell? ((ad.add (k * 4)).add j) = some v := fun j v hj hv => by
    rw [add_twice]
    exact hc _ v (by rw [En.evCells_at l k j hk hj, hv])
  exact ⟨ad, rfl, hb, hj 0 _ (by decide) rfl, hj 1 _ (by decide) rfl, hj 2 _ (by decide) rfl, hj 3 _ (by decide) rfl⟩

set_option maxHeartbeats 2000000 in
theorem mayrow_any (l : List En.Ev) (A : Option Addr) (n c : Nat) (w : World) (hn : n = l.length) (hn63 : n ≤ maxLen) (hL : Lies w w.heap.size 4 A n (En.evCells l)) :
    Calls Tryz.prog 94 #[.slice A n c] w fun e w' => e = .returned (.bool (decide (En.Row (-1) l))) ∧ Below w.heap.size w w' := by
  obtain ⟨r, hr⟩ : ∃ r, r = decide (En.Row (-1) l) := ⟨_, rfl⟩
  rw [← hr]
  have HR := Lib.hid hr
  have HN := Lib.hid hn
  have n63 : (n : Int) ≤ 9223372036854775807 := by unfold maxLen at hn63; omega
  clear hr hn hn63
  go_enter Tryz.func94, Tryz.ntmps94
  go_wp2
  go_loopw [3, 8] (fun la i wr => ∃ (k : Nat) (z : Int), k ≤ n ∧ i = .int .i64 k ∧ la = .int .i64 z ∧ (-1 ≤ z ∧ z < 16) ∧ (En.Row (-1) l ↔ En.Row z (l.drop k)) ∧ Below w.heap.size w wr) (fun _ i _ => n - (intOf i).toNat)
  case atStart => exact ⟨0, -1, by omega, rfl, rfl, by omega, Iff.rfl, Below.refl _ _⟩
  case round =>
    obtain ⟨k, z, hk, rfl, rfl, hz, hrow, hb⟩ := hrel
    by_cases hlt : k < n
    · have hk8 : (k : Int) < n := by omega
      have hkl : k < l.length := by have := HN.out; omega
      obtain ⟨ad, rfl, hbl, e0, e1, e2, e3⟩ := evs_at (hL.below hb) HN.out k hkl
      rw [List.drop_eq_getElem_cons hkl] at hrow
      generalize hv : l[k] = v at e0 e1 e2 e3 hrow
      obtain ⟨vk, vs, vg, vp⟩ := v
      dsimp only at e0 e1 e2 e3
      have hrow' : En.Row (-1) l ↔ (En.evOk ⟨vk, vs, vg, vp⟩ ∧ z < En.place ⟨vk, vs, vg, vp⟩) ∧ En.Row (En.place ⟨vk, vs, vg, vp⟩) (l.drop (k + 1)) := hrow
      have HW := Lib.hid hrow'
      have HB := Lib.hid hb
      have sz := hb.size
      have ltA : ad.block < wr.heap.size := by omega
      by_cases hev : En.evOk ⟨vk, vs, vg, vp⟩
      · have cm := fun X => Lib.hid (mayevent_any vk vs vg vp X)
        rw [decide_eq_true hev] at cm
        have cp := fun X => Lib.hid (enplace_any vk vs vg vp X hev)
        have hpl := En.place_lt hev
        have hevH := Lib.hid hev
        generalize hp : En.place ⟨vk, vs, vg, vp⟩ = pl at cp hpl HW
        clear hrow hrow' hb hv hL hev hp
        by_cases hlp : z < pl
        · have hnp : ¬ pl ≤ z := by omega
          go_wp2_with (first | (go_at_call 123; ((with_reducible refine ((cm _).out).mono ?_); rintro e w1 ⟨rfl, hb1⟩; have K1 := Lib.hid (((HB.out.alloc sz _).trans (hb1.mono (by simp <;> omega)))); have P1 := Lib.hid ((Box.made wr 61 #[.int .i64 vk, .int .i64 vs, .int .i64 vg, .int .i64 vp]).below hb1 (by simp)); have p1 := P1.out.cell; clear hb1)) | (go_at_call 124; ((with_reducible refine ((cp _).out).mono ?_); rintro e w2 ⟨rfl, hb2⟩; first | (have K3 := Lib.hid (K2.out.trans (hb2.mono K2.out.size))) | (have K2 := Lib.hid (K1.out.trans (hb2.mono K1.out.size)); have P2 := Lib.hid (P1.out.below hb2 P1.out.lt); have p2 := P2.out.cell); clear hb2)))
          go_roundw
          case rel => exact ⟨k + 1, pl, by omega, by go_num, rfl, by omega, HW.out.trans ⟨fun h => h.2, fun h => ⟨⟨hevH.out, hlp⟩, h⟩⟩, K3.out⟩
          case measure => simp [intOf]; omega
        · have hnp : pl ≤ z := by omega
          go_wp2_with (first | (go_at_call 123; ((with_reducible refine ((cm _).out).mono ?_); rintro e w1 ⟨rfl, hb1⟩; have K1 := Lib.hid (((HB.out.alloc sz _).trans (hb1.mono (by simp <;> omega)))); have P1 := Lib.hid ((Box.made wr 61 #[.int .i64 vk, .int .i64 vs, .int .i64 vg, .int .i64 vp]).below hb1 (by simp)); have p1 := P1.out.cell; clear hb1)) | (go_at_call 124; ((with_reducible refine ((cp _).out).mono ?_); rintro e w2 ⟨rfl, hb2⟩; have K2 := Lib.hid (K1.out.trans (hb2.mono K1.out.size)); clear hb2)))
          go_ret
          exact ⟨ret_bool (by rw [HR.out]; exact (decide_eq_false fun h => absurd (HW.out.1 h).1.2 (by omega)).symm), K2.out⟩
      · have cm := fun X => Lib.hid (mayevent_any vk vs vg vp X)
        rw [decide_eq_false hev] at cm
        have hevH := Lib.hid hev
        clear hrow hrow' hb hv hL hev
        go_wp2_with (go_at_call 123; ((with_reducible refine ((cm _).out).mono ?_); rintro e w1 ⟨rfl, hb1⟩; have K1 := Lib.hid (((HB.out.alloc sz _).trans (hb1.mono (by simp <;> omega)))); clear hb1))
        go_ret
        exact ⟨ret_bool (by rw [HR.out]; exact (decide_eq_false fun h => hevH.out (HW.out.1 h).1.1).symm), K1.out⟩
    · have hk8 : ¬ (k : Int) < n := by omega
      obtain rfl : k = n := by omega
      have hd : l.drop k = [] := List.drop_eq_nil_of_le (by have := HN.out; omega)
      rw [hd] at hrow
      have HW := Lib.hid hrow
      have HB := Lib.hid hb
      clear hrow hb hL
      go_wp2
      go_ret
      exact ⟨ret_bool (by rw [HR.out]; exact (decide_eq_true (HW.out.2 trivial)).symm), HB.out⟩
end Go.Proofs.YtkkhdaeihnbilaaGreat
namespace Go.Proofs.YtkkhdaeihnbilaaGreat
open Go.RowKit Go.Shelf
set_option linter.unusedVariables false
set_option linter.unusedSimpArgs false

section
variable {ops : Array Oper} {rest : List Oper} {o : Oper} {a : Act} {w : World} {Q : Exit → Act → World → Prop} {x y : Operand} {dst : Option Tmp} {p : Value}
/-- What the load of an entry, or of a part of it, wants. -/
def LoadEn (ops : Array Oper) (Q : Exit → Act → World → Prop) (rest : List Oper) (dst : Option Tmp) (p : Value) (off : Nat) (pick : En.E → Value → Array Value) (a : Act) (w : World) : Prop :=
  ∃ (B : Nat) (e : En.E) (s : Value), p = .pointer (some ⟨B, off, none⟩) ∧ Box w B 42 (En.cells e s) ∧ wpList Tryz.prog ops Q rest (a.put dst (.agg (pick e s))) w
theorem LoadEn.mk {off : Nat} {pick : En.E → Value → Array Value} {B : Nat} {e : En.E} {s : Value} (hp : p = .pointer (some ⟨B, off, none⟩)) (hB : Box w B 42 (En.cells e s)) (h : wpList Tryz.prog ops Q rest (a.put dst (.agg (pick e s))) w) : LoadEn ops Q rest dst p off pick a w := ⟨B, e, s, hp, hB, h⟩
theorem en_load (hgd : o.guard = none) (ho : o.op = .load 42 x) (h : LoadEn ops Q rest o.dst (a.eval x) 0 (fun e s => En.cells e s) a w) : wpList Tryz.prog ops Q (o :: rest) a w := by
  obtain ⟨B, e, s, hx, hB, h⟩ := h
  exact wpList_load_blk hgd ho hx hB Tryz.underlying42 rfl en_info h
theorem en_load_g (hw : Region.wanted o (yielded ops a.tmps) = true) (ho : o.op = .load 42 x) (h : LoadEn ops Q rest o.dst (a.eval x) 0 (fun e s => En.cells e s) a w) : wpList Tryz.prog ops Q (o :: rest) a w := by
  obtain ⟨B, e, s, hx, hB, h⟩ := h
  refine wpList_load_part_g hw ho hx hB (En.cells e s).toList (fun j v hv => ?_) Tryz.underlying42 rfl (by rw [Array.length_toList, En.cells_size]; exact en_info) (by rw [Array.toArray_toList]; exact h)
  rw [Nat.zero_add]
  simpa using hv
theorem en_load_ins (hgd : o.guard = none) (ho : o.op = .load 40 x) (h : LoadEn ops Q rest o.dst (a.eval x) 2 (fun e _ => (Gm.insCells e.inp).toArray) a w) : wpList Tryz.prog ops Q (o :: rest) a w := by
  obtain ⟨B, e, s, hx, hB, h⟩ := h
  exact wpList_load_part hgd ho hx hB (Gm.insCells e.inp) (En.cells_ins e s) Tryz.underlying40 rfl ins_info h
end

theorem in_info : (Tryz.prog.info? 39).map (·.size) = some 3 := by kernel_rfl
theorem insCells_list (f : Nat → Gm.In) (i : Nat) (hi : i < 8) : ((Gm.insCells f).drop (i * 3)).take 3 = (f i).cells := by
  match i, hi with
  | 0, _ | 1, _ | 2, _ | 3, _ | 4, _ | 5, _ | 6, _ | 7, _ => rfl
theorem in_part (f : Nat → Gm.In) (i : Nat) (hi : i < 8) (w : World) : (part 39 (Gm.insCells f).toArray (i * 3)).run Tryz.prog w = .ok (.agg (f i).cells.toArray) w := by
  have h := insCells_list f i hi
  cases hq : Tryz.prog.info? 39 with
  | none => have := in_info; simp [hq] at this
  | some j =>
    have hs : j.size = 3 := by have := in_info; simpa [hq] using this
    simp [part, isAgg, sizeOf, typeInfo, hq, hs, run_underlying (Tryz.underlying39) w, h]
theorem in_index (f : Nat → Gm.In) (k : Nat) (hk : k < 8) (W : World) : (Instr.index 40 (.agg (Gm.insCells f).toArray) (.int .i64 (k : Int))).run Tryz.prog W = .ok (.agg #[.int .i8 (f k).x, .int .i8 (f k).y, .int .u8 (f k).b]) W := by
  have h := in_part f k hk W
  rw [show (f k).cells.toArray = #[.int .i8 (f k).x, .int .i8 (f k).y, .int .u8 (f k).b] from rfl] at h
  have hk8 : (k : Int) < 8 := by omega
  have hc : Tryz.prog.cellsOf 39 = 3 := by kernel_rfl
  cases hq : Tryz.prog.info? 39 with
  | none => have := in_info; simp [hq] at this
  | some i =>
    have hi : i.size = 3 := by have := in_info; simpa [hq] using this
    simp [Instr.index, run_underlying (Tryz.underlying40) W, h, hk8, sizeOf, typeInfo, hq, hi, go_sem]
    rw [if_pos hk, insCells_list f k hk]
    rfl
set_option maxRecDepth 100000 in
set_option maxHeartbeats 2000000 in
theorem enmay_any (e : En.E) (A : Option Addr) (n c : Nat) (w : World) (hn : n = e.evs.length) (hn63 : n ≤ maxLen) (hL : Lies w w.heap.size 4 A n (En.evCells e.evs)) :
    Calls Tryz.prog 58 #[.agg (En.cells e (.slice A n c))] w fun r w' => r = .returned (.bool (decide (En.Ok e))) ∧ Below w.heap.size w w' := by
  obtain ⟨v, hv⟩ : ∃ v, v = decide (En.Ok e) := ⟨_, rfl⟩
  rw [← hv]
  have HV := Lib.hid hv
  clear hv
  have P0 := Lib.hid (Box.made w 42 (En.cells e (.slice A n c)))
  have K0 := Lib.hid (one_below w (.cells (En.cells e (.slice A n c)) 42))
  have hr0 := Lib.hid ((hL.below K0.out).wider K0.out.size)
  have c0 := P0.out.cell 0
  have c1 := P0.out.cell 1
  rw [En.cells_0] at c0
  rw [En.cells_1] at c1
  have cm := fun X hX => Lib.hid (mayrow_any e.evs A n c X hn hn63 hX)
  clear hL hn hn63
  by_cases hf1 : e.frame < 0
  · have hno := Lib.hid (show ¬ En.Ok e from fun h => by have := h.frame; omega)
    go_enter Tryz.func58, Tryz.ntmps58
    go_wp2
    go_ret
    exact ⟨ret_bool (by rw [HV.out]; exact (decide_eq_false hno.out).symm), K0.out⟩
  by_cases hf2 : 1048576 ≤ e.frame
  · have hno := Lib.hid (show ¬ En.Ok e from fun h => by have := h.frame; omega)
    go_enter Tryz.func58, Tryz.ntmps58
    go_wp2
    go_ret
    exact ⟨ret_bool (by rw [HV.out]; exact (decide_eq_false hno.out).symm), K0.out⟩
  by_cases hrow : En.Row (-1) e.evs
  · rw [decide_eq_true hrow] at cm
    have HF := Lib.hid (show 0 ≤ e.frame ∧ e.frame < 1048576 by omega)
    have HW := Lib.hid hrow
    clear hrow
    go_enter Tryz.func58, Tryz.ntmps58
    go_wp2_with (first | ((with_reducible refine en_load_ins rfl rfl ?_); apply LoadEn.mk rfl; (focus (with_reducible exact P1.out)); dsimp only) | (go_at_call 94; ((with_reducible refine ((cm _ hr0.out).out).mono ?_); rintro r w1 ⟨rfl, hb⟩; have P1 := Lib.hid (P0.out.below hb P0.out.lt); have K1 := Lib.hid (K0.out.trans (hb.mono K0.out.size)); clear hb)))
    go_loopw [21] (fun i wr => ∃ k : Nat, k ≤ 8 ∧ i = .int .i64 k ∧ Below w.heap.size w wr ∧ ∀ j, j < k → En.inOk (e.inp j)) (fun i _ => 8 - (intOf i).toNat)
    case atStart => exact ⟨0, by omega, rfl, K1.out, fun j hj => absurd hj (Nat.not_lt_zero j)⟩
    case round =>
      obtain ⟨k, hk, rfl, hb, hall⟩ := hrel
      clear P0 K0 P1 K1 hr0 c0 c1 cm
      by_cases hlt : k < 8
      · have hk8 : (k : Int) < 8 := by omega
        have hpart := in_index e.inp k hlt
        have hok : En.inOk (e.inp k) ↔ (-127 ≤ (e.inp k).x ∧ -127 ≤ (e.inp k).y) := Iff.rfl
        have HK := Lib.hid (show ∀ j, j < k + 1 → j = k ∨ j < k from fun j hj => by omega)
        obtain ⟨p, hp⟩ : ∃ p, p = e.inp k := ⟨_, rfl⟩
        rw [← hp] at hpart hok
        obtain ⟨x, y, b⟩ := p
        dsimp only at hpart hok
        have HP := Lib.hid hp
        have HALL := Lib.hid hall
        have HB := Lib.hid hb
        have cs := fun X => Lib.hid (stickmay_any x y b X)
        have sz := hb.size
        clear hp hall hb
        by_cases hi : -127 ≤ x ∧ -127 ≤ y
        · rw [decide_eq_true hi] at cs
          have hnew := Lib.hid (show ∀ j, j < k + 1 → En.inOk (e.inp j) from fun j hj => by
            rcases HK.out j hj with rfl | h
            · rw [← HP.out]; exact hok.2 hi
            · exact HALL.out j h)
          clear hok hi
          go_wp2_with (go_at_call 95; ((with_reducible refine ((cs _).out).mono ?_); rintro r w2 ⟨rfl, hb⟩; have K2 := Lib.hid ((HB.out.alloc sz (.cells #[.int .i8 x, .int .i8 y, .int .u8 b] 39)).trans (hb.mono (by simp <;> omega))); clear hb))
          go_roundw
          case rel => exact ⟨k + 1, by omega, by go_num, K2.out, hnew.out⟩
          case measure => simp [intOf]; omega
        · rw [decide_eq_false hi] at cs
          have hno := Lib.hid (show ¬ En.Ok e from fun h => hi (by have := h.ins k hlt; rw [← HP.out] at this; exact this))
          clear hok hi
          go_wp2_with (go_at_call 95; ((with_reducible refine ((cs _).out).mono ?_); rintro r w2 ⟨rfl, hb⟩; have K2 := Lib.hid ((HB.out.alloc sz (.cells #[.int .i8 x, .int .i8 y, .int .u8 b] 39)).trans (hb.mono (by simp <;> omega))); clear hb))
          go_ret
          exact ⟨ret_bool (by rw [HV.out]; exact (decide_eq_false hno.out).symm), K2.out⟩
      · have hk8 : ¬ (k : Int) < 8 := by omega
        obtain rfl : k = 8 := by omega
        have hyes := Lib.hid (show En.Ok e from ⟨HF.out, HW.out, hall⟩)
        have HB := Lib.hid hb
        clear hall hb
        go_wp2
        go_ret
        exact ⟨ret_bool (by rw [HV.out]; exact (decide_eq_true hyes.out).symm), HB.out⟩
  · rw [decide_eq_false hrow] at cm
    have hno := Lib.hid (show ¬ En.Ok e from fun h => hrow h.row)
    clear hrow
    go_enter Tryz.func58, Tryz.ntmps58
    go_wp2_with (go_at_call 94; ((with_reducible refine ((cm _ hr0.out).out).mono ?_); rintro r w1 ⟨rfl, hb⟩; have K1 := Lib.hid (K0.out.trans (hb.mono K0.out.size)); clear hb))
    go_ret
    exact ⟨ret_bool (by rw [HV.out]; exact (decide_eq_false hno.out).symm), K1.out⟩
end Go.Proofs.YtkkhdaeihnbilaaGreat
namespace Go.Proofs.YtkkhdaeihnbilaaGreat
open Go.RowKit
set_option linter.unusedVariables false

section
variable {P : Program} {ops : Array Oper} {rest : List Oper} {o : Oper} {a : Act} {w : World} {Q : Exit → Act → World → Prop}
theorem run_loadVar_any (w : World) (ad : Addr) (ty : TypeId) (cs : List Value) (d : TypeDesc) (hc : ∀ j v, cs[j]? = some v → w.cell? (ad.add j) = some v)
    (hu : P.underlying ty = some d) (hd : d.isRow = true) (hi : (P.info? ty).map (·.size) = some cs.length) :
    (loadVar ty ad).run P w = .ok (.agg cs.toArray) w := by
  have hl : (loadCells ad cs.length).run P w = .ok cs.toArray w := run_loadCells_list (P := P) w ad cs hc
  cases hq : P.info? ty with
  | none => simp [hq] at hi
  | some i =>
    have hs : i.size = cs.length := by simpa [hq] using hi
    have hagg : (isAgg ty).run P w = .ok true w := by
      unfold isAgg
      rw [Sem.run_bind, run_underlying hu w]
      cases d <;> simp_all
    simp [loadVar, Sem.run_bind, hagg, sizeOf, typeInfo, hq, hs, hl]
/-- What the load of a struct at an address wants. -/
def LoadAt (P : Program) (ops : Array Oper) (Q : Exit → Act → World → Prop) (rest : List Oper) (dst : Option Tmp) (p : Value) (size : Nat) (a : Act) (w : World) : Prop :=
  ∃ (ad : Addr) (cs : List Value), p = .pointer (some ad) ∧ (∀ j v, cs[j]? = some v → w.cell? (ad.add j) = some v) ∧ cs.length = size ∧ wpList P ops Q rest (a.put dst (.agg cs.toArray)) w
theorem LoadAt.mk {dst : Option Tmp} {p : Value} {size : Nat} {ad : Addr} {cs : List Value} (hp : p = .pointer (some ad)) (hc : ∀ j v, cs[j]? = some v → w.cell? (ad.add j) = some v) (hs : cs.length = size) (h : wpList P ops Q rest (a.put dst (.agg cs.toArray)) w) : LoadAt P ops Q rest dst p size a w := ⟨ad, cs, hp, hc, hs, h⟩
theorem load_at_gate {ty : TypeId} {x : Operand} {size : Nat} {d : TypeDesc} (hgd : o.guard = none) (ho : o.op = .load ty x) (hu : P.underlying ty = some d) (hd : d.isRow = true) (hi : (P.info? ty).map (·.size) = some size) (h : LoadAt P ops Q rest o.dst (a.eval x) size a w) : wpList P ops Q (o :: rest) a w := by
  obtain ⟨ad, cs, hx, hc, hs, h⟩ := h
  refine wpList_plain hgd fun _ hK => ?_
  unfold Oper.wp execOp
  simp only [ho, hx, Instr.loadAt, Instr.sureAddr, Sem.run_bind, Sem.run_pure, Result.andThen_ok, run_loadVar_any w ad ty cs d hc hu hd (by rw [hi, hs])]
  exact hK _ _ h
theorem exec_load_any {x : Operand} {ty : TypeId} {ad : Addr} {cs : List Value} {d : TypeDesc} (ho : o.op = .load ty x) (hx : a.eval x = .pointer (some ad)) (hc : ∀ j v, cs[j]? = some v → w.cell? (ad.add j) = some v) (hu : P.underlying ty = some d) (hd : d.isRow = true) (hi : (P.info? ty).map (·.size) = some cs.length) :
    (execOp a.eval o).run P w = .ok (.value (.agg cs.toArray)) w := by
  unfold execOp
  simp only [ho, hx, Instr.loadAt, Instr.sureAddr, Sem.run_bind, Sem.run_pure, Result.andThen_ok, run_loadVar_any w ad ty cs d hc hu hd hi]
end
/-- The first n of a slice. -/
theorem run_slice_to {P : Program} {t e : TypeId} {sz : Nat} (a : Option Addr) (len cap n : Nat) (hu : P.underlying t = some (.slice e)) (hs : (P.info? e).map (·.size) = some sz) (h : n ≤ cap) (w : World) :
    (Instr.slice t (.slice a len cap) none (some (.int .i64 (n : Int))) none).run P w = .ok (.slice a n cap) w := by
  have h0 : (0 : Int) ≤ n := by omega
  have h1 : (n : Int) ≤ cap := by omega
  cases hq : P.info? e with
  | none => simp [hq] at hs
  | some i =>
    have ea : (if cap = 0 then a else a.map fun x => x.add 0) = a := by
      split
      · rfl
      · cases a
        · rfl
        · simp [Addr.add]
    simp [Instr.slice, run_underlying hu, Instr.sliceBounds, Instr.sliceBound, asIntOf, sizeOf, typeInfo, hq, h, Addr.add]
end Go.Proofs.YtkkhdaeihnbilaaGreat
namespace En
open Go
def zeroC : Array Value := cells ⟨0, [], in0⟩ (.slice none 0 0)
theorem zeroC_size : zeroC.size = 26 := rfl
/-- An entry, and where its events lie. -/
structure S where
  e : E
  adr : Option Addr
  cap : Nat
def S.sl (q : S) : Value := .slice q.adr q.e.evs.length q.cap
def S.cells (q : S) : List Value := (En.cells q.e q.sl).toList
def sCells (l : List S) : List Value := l.flatMap S.cells
theorem S.cells_len (q : S) : q.cells.length = 26 := rfl
theorem S.cells_arr (q : S) : q.cells.toArray = En.cells q.e q.sl := by unfold S.cells; exact Array.toArray_toList
theorem sCells_len (l : List S) : (sCells l).length = l.length * 26 := by
  induction l with
  | nil => rfl
  | cons s l ih => unfold sCells at *; rw [List.flatMap_cons, List.length_append, ih, List.length_cons, S.cells_len]; omega
theorem sCells_at (l : List S) (k j : Nat) (hk : k < l.length) (hj : j < 26) : (sCells l)[k * 26 + j]? = l[k].cells[j]? := by
  induction l generalizing k with
  | nil => simp at hk
  | cons s l ih =>
    unfold sCells at *
    rw [List.flatMap_cons]
    match k with
    | 0 => rw [List.getElem?_append_left (by rw [S.cells_len]; omega)]; simp
    | k + 1 =>
      rw [List.getElem?_append_right (by rw [S.cells_len]; omega)]
      have := ih k (by simpa using hk)
      rw [show (k + 1) * 26 + j - s.cells.length = k * 26 + j from by rw [S.cells_len]; omega, this]
      simp
theorem sCells_one (l : List S) : ∀ u ∈ sCells l, u.oneCell' = true := by
  intro u hu
  obtain ⟨q, _, hq⟩ := List.mem_flatMap.1 hu
  have := cells_one q.e q.sl rfl
  rw [Array.all_eq_true'] at this
  exact this u (by unfold S.cells at hq; simpa using hq)
end En
namespace Go.Proofs.YtkkhdaeihnbilaaGreat
open Go.RowKit Go.Shelf
set_option linter.unusedVariables false
set_option linter.unusedSimpArgs false

theorem en_zero : (Tryz.prog.info? 42).map (·.zero) = some (some (.agg En.zeroC)) := by kernel_rfl
theorem alloc_en {ops : Array Oper} {Q : Exit → Act → World → Prop} {o : Oper} {rest : List Oper} {a : Act} {w : World} (hgd : o.guard = none) (ho : o.op = .alloc 42)
    (h : wpList Tryz.prog ops Q rest (a.put o.dst (.pointer (some ⟨w.heap.size, 0, none⟩))) (w.alloc (.cells En.zeroC 42))) : wpList Tryz.prog ops Q (o :: rest) a w :=
  wpList_alloc_z hgd ho en_zero rfl h
theorem en_info26 : (Tryz.prog.info? 42).map (·.size) = some 26 := en_info
theorem en_store_new {ops : Array Oper} {Q : Exit → Act → World → Prop} {o : Oper} {rest : List Oper} {a : Act} {x y : Operand} {v : World} {old : Array Value} {e : En.E} {s : Value} (hgd : o.guard = none) (ho : o.op = .store 42 x y) (hx : a.eval x = .pointer (some ⟨v.heap.size, 0, none⟩)) (hy : a.eval y = .agg (En.cells e s))
    (hold : old.size = 26) (hs : s.oneCell' = true) (h : wpList Tryz.prog ops Q rest (a.put o.dst undef) (v.alloc (.cells (En.cells e s) 42))) : wpList Tryz.prog ops Q (o :: rest) a (v.alloc (.cells old 42)) :=
  wpList_store_new hgd ho hx hy rfl rfl en_info (by rw [En.cells_size]; exact hold) (En.cells_one _ _ hs) h

/-- Entries lie one behind the other, and the events of each. -/
structure LiesS (w : World) (B : Nat) (A : Option Addr) (n : Nat) (l : List En.S) : Prop where
  row : Lies w B 26 A n (En.sCells l)
  each : ∀ q ∈ l, Lies w B 4 q.adr q.e.evs.length (En.evCells q.e.evs)
  few : ∀ q ∈ l, q.e.evs.length ≤ maxLen
section
variable {w w' : World} {B B' n : Nat} {A : Option Addr} {l : List En.S}
theorem LiesS.below (h : LiesS w B A n l) (hb : Below B w w') : LiesS w' B A n l := ⟨h.row.below hb, fun q hq => (h.each q hq).below hb, h.few⟩
theorem LiesS.wider (h : LiesS w B A n l) (hB : B ≤ B') : LiesS w B' A n l := ⟨h.row.wider hB, fun q hq => (h.each q hq).wider hB, h.few⟩
theorem LiesS.len (h : LiesS w B A n l) : l.length = n := by have := h.row.len; rw [En.sCells_len] at this; omega
theorem LiesS.nil : LiesS w B A 0 [] := ⟨⟨rfl, fun h => absurd rfl h, fun _ _ h => absurd rfl h⟩, fun q h => (by cases h), fun q h => (by cases h)⟩
theorem LiesS.at (h : LiesS w B A n l) (k : Nat) (hk : k < l.length) : ∃ ad, A = some ad ∧ ad.block < B ∧ ∀ j v, l[k].cells[j]? = some v → w.cell? ((ad.add (k * 26)).add j) = some v := by
  have hn := h.len
  obtain ⟨ad, rfl, hb⟩ := h.row.start (by omega)
  refine ⟨ad, rfl, hb, fun j v hv => ?_⟩
  have hj : j < 26 := by have := (List.getElem?_eq_some_iff.1 hv).1; rwa [En.S.cells_len] at this
  rw [add_twice]
  exact h.row.cell ad rfl (by omega) _ v (by rw [En.sCells_at l k j hk hj, hv])
theorem LiesS.take (h : LiesS w B A n l) (k : Nat) (hk : k ≤ n) : LiesS w B A k (l.take k) := by
  have hn := h.len
  refine ⟨⟨by rw [En.sCells_len, List.length_take]; omega, fun h0 => h.row.start (by omega), fun ad e h0 j u hu => ?_⟩, fun q hq => h.each q (List.mem_of_mem_take hq), fun q hq => h.few q (List.mem_of_mem_take hq)⟩
  have hj : j < k * 26 := by have := (List.getElem?_eq_some_iff.1 hu).1; rw [En.sCells_len, List.length_take] at this; omega
  refine h.row.cell ad e (by omega) j u ?_
  have h1 := En.sCells_at l (j / 26) (j % 26) (by omega) (by omega)
  have h2 := En.sCells_at (l.take k) (j / 26) (j % 26) (by rw [List.length_take]; omega) (by omega)
  rw [show j / 26 * 26 + j % 26 = j by omega] at h1 h2
  rw [h1, ← hu, h2]
  congr 2
  simp
end

end Go.Proofs.YtkkhdaeihnbilaaGreat
namespace En
open Go
end En
namespace Go.Proofs.YtkkhdaeihnbilaaGreat
open Go.RowKit Go.Shelf
set_option linter.unusedVariables false
set_option linter.unusedSimpArgs false

theorem Lies.boxed {W : World} {S n size : Nat} {t : TypeId} {xs : List Value} (h : Box W S t xs.toArray) (hl : xs.length = n * size) : Lies W W.heap.size size (some ⟨S, 0, none⟩) n xs :=
  ⟨hl, fun _ => ⟨_, rfl, h.lt⟩, fun ad e _ j u hj => by
    injection e with e
    subst e
    have hadd : (⟨S, 0, none⟩ : Addr).add j = ⟨S, j, none⟩ := by unfold Addr.add; split <;> simp_all
    rw [hadd, h.cell j, ← hj]
    simp⟩
end Go.Proofs.YtkkhdaeihnbilaaGreat
namespace En
open Go
theorem Like.refl (e : E) : Like e e := ⟨rfl, rfl, fun _ _ => rfl⟩
theorem Like.symm {e o : E} (h : Like e o) : Like o e := ⟨h.1.symm, h.2.1.symm, fun i hi => (h.2.2 i hi).symm⟩
theorem Like.trans {e o u : E} (h : Like e o) (k : Like o u) : Like e u := ⟨h.1.trans k.1, h.2.1.trans k.2.1, fun i hi => (h.2.2 i hi).trans (k.2.2 i hi)⟩
end En
namespace Go.Proofs.YtkkhdaeihnbilaaGreat
open Go.RowKit Go.Shelf
set_option linter.unusedVariables false
set_option linter.unusedSimpArgs false

end Go.Proofs.YtkkhdaeihnbilaaGreat
namespace En
open Go
open Classical in
noncomputable def eqB (l m : List S) : Bool := decide (l.length = m.length ∧ ∀ j (h : j < l.length) (h' : j < m.length), Like l[j].e m[j].e)
end En
namespace Go.Proofs.YtkkhdaeihnbilaaGreat
open Go.RowKit Go.Shelf
set_option linter.unusedVariables false
set_option linter.unusedSimpArgs false

end Go.Proofs.YtkkhdaeihnbilaaGreat
namespace Go.Proofs.YtkkhdaeihnbilaaGreat
open Go.RowKit Go.Shelf
set_option linter.unusedVariables false
set_option linter.unusedSimpArgs false

section
variable {ops : Array Oper} {rest : List Oper} {o : Oper} {a : Act} {w : World} {Q : Exit → Act → World → Prop} {x : Operand} {dst : Option Tmp} {v : Value}
/-- What a list of one entry wants. -/
def BuildEn (ops : Array Oper) (Q : Exit → Act → World → Prop) (rest : List Oper) (dst : Option Tmp) (v : Value) (a : Act) (w : World) : Prop :=
  ∃ (e : En.E) (s : Value), v = .agg (En.cells e s) ∧ wpList Tryz.prog ops Q rest (a.put dst (.slice (some ⟨w.heap.size, 0, none⟩) 1 1)) (w.alloc (.cells (En.cells e s) 42))
theorem BuildEn.mk {e : En.E} {s : Value} (hv : v = .agg (En.cells e s)) (h : wpList Tryz.prog ops Q rest (a.put dst (.slice (some ⟨w.heap.size, 0, none⟩) 1 1)) (w.alloc (.cells (En.cells e s) 42))) : BuildEn ops Q rest dst v a w := ⟨e, s, hv, h⟩
end
theorem LiesS.one {W : World} {S : Nat} {e : En.E} {A : Option Addr} {c : Nat} (h : Box W S 42 (En.cells e (.slice A e.evs.length c))) (hL : Lies W W.heap.size 4 A e.evs.length (En.evCells e.evs)) (hf : e.evs.length ≤ maxLen) : LiesS W W.heap.size (some ⟨S, 0, none⟩) 1 [⟨e, A, c⟩] := by
  refine ⟨Lies.boxed (t := 42) ?_ rfl, fun q hq => ?_, fun q hq => ?_⟩
  · have e1 : (En.sCells [⟨e, A, c⟩]).toArray = En.cells e (.slice A e.evs.length c) := by unfold En.sCells; rw [List.flatMap_cons, List.flatMap_nil, List.append_nil]; exact En.S.cells_arr _
    rw [e1]; exact h
  · obtain rfl := List.mem_singleton.1 hq; exact hL
  · obtain rfl := List.mem_singleton.1 hq; exact hf

namespace En
end En
end Go.Proofs.YtkkhdaeihnbilaaGreat
namespace Go.Proofs.YtkkhdaeihnbilaaGreat
open Go Go.RowKit Go.Shelf
set_option linter.unusedVariables false
set_option linter.unusedSimpArgs false

/-- Where the rest of a slice begins. -/
def dropA (A : Option Addr) (cap k : Nat) : Option Addr := if cap - k = 0 then A else A.map fun x => x.add (k * 26)
theorem LiesS.drop {w : World} {B n c : Nat} {A : Option Addr} {l : List En.S} (h : LiesS w B A n l) (k : Nat) (hk : k ≤ n) (hc : n ≤ c) : LiesS w B (dropA A c k) (n - k) (l.drop k) := by
  have hn := h.len
  refine ⟨⟨by rw [En.sCells_len, List.length_drop, hn], fun h0 => ?_, fun ad e h0 j u hu => ?_⟩, fun q hq => h.each q (List.mem_of_mem_drop hq), fun q hq => h.few q (List.mem_of_mem_drop hq)⟩
  · obtain ⟨ad, e, hb⟩ := h.row.start (by omega)
    refine ⟨ad.add (k * 26), by unfold dropA; rw [if_neg (by omega), e]; rfl, by rw [add_block]; exact hb⟩
  · obtain ⟨ad0, e0, hb⟩ := h.row.start (by omega)
    have e1 : ad = ad0.add (k * 26) := by
      unfold dropA at e
      rw [if_neg (by omega), e0] at e
      exact (Option.some.inj e).symm
    have hj : j < (n - k) * 26 := by have := (List.getElem?_eq_some_iff.1 hu).1; rw [En.sCells_len, List.length_drop] at this; omega
    rw [e1, add_twice]
    refine h.row.cell ad0 e0 (by omega) _ u ?_
    have h1 := En.sCells_at (l.drop k) (j / 26) (j % 26) (by rw [List.length_drop]; omega) (by omega)
    have h2 := En.sCells_at l (k + j / 26) (j % 26) (by omega) (by omega)
    rw [show j / 26 * 26 + j % 26 = j by omega, hu] at h1
    rw [show (k + j / 26) * 26 + j % 26 = k * 26 + j by omega] at h2
    rw [h2, h1, List.getElem_drop]
theorem es_take (l : List En.S) (k : Nat) : (l.take k).map (·.e) = (l.map (·.e)).take k := List.map_take
theorem es_drop (l : List En.S) (k : Nat) : (l.drop k).map (·.e) = (l.map (·.e)).drop k := List.map_drop
/-- A slice from k on. -/
theorem run_slice_from {P : Program} {t : TypeId} (A : Option Addr) (len cap k : Nat) (hu : P.underlying t = some (.slice 42)) (hs : (P.info? 42).map (·.size) = some 26) (h : k ≤ len) (hc : len ≤ cap) (w : World) :
    (Instr.slice t (.slice A len cap) (some (.int .i64 (k : Int))) none none).run P w = .ok (.slice (dropA A cap k) (len - k) (cap - k)) w := by
  have h0 : (0 : Int) ≤ k := by omega
  have h1 : (k : Int) ≤ len := by omega
  cases hq : P.info? 42 with
  | none => simp [hq] at hs
  | some i =>
    have hs' : i.size = 26 := by simpa [hq] using hs
    simp [Instr.slice, run_underlying hu, Instr.sliceBounds, Instr.sliceBound, asIntOf, sizeOf, typeInfo, hq, h, dropA, hs', hc]
    by_cases hck : cap = k
    · rw [if_pos hck, if_pos (by omega)]
    · rw [if_neg hck, if_neg (by omega)]
end Go.Proofs.YtkkhdaeihnbilaaGreat
