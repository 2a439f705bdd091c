/-
The program's game: who leaves.
-/
import Derived.Test.YtbihnmingedgfaaHe
import Derived.Test.YtbihnmingedgfaaHt
namespace Go.Proofs.Ytbihnmingedgfaa
open Go.RowKit
set_option linter.unusedVariables false

set_option maxRecDepth 100000 in
set_option maxHeartbeats 2000000 in
theorem remove_no (g : Gm.G) (A : Option Addr) (n c i : Nat) (w : World) (hg : Gm.ok g) (hn : n = g.shots.length) (hr : Lies w w.heap.size 6 A n (Gm.shotCells g.shots)) (hi : i < 8) (ho : (g.ship i).on = false) :
    Calls Try.prog 50 #[.agg (Gm.cells g (.slice A n c)), .int .i64 i] w (Out g 1 w) := by
  have b1 : Box (((w.alloc (.cells (Gm.cells g (.slice A n c)) 30)).alloc (.cells #[.int .i64 i] 3)).alloc (.cells (Gm.cells zeroG (.slice none 0 0)) 30)) w.heap.size 30 (Gm.cells g (.slice A n c)) := ((Box.made _ _ _).alloc _).alloc _
  have b2 : Box (((w.alloc (.cells (Gm.cells g (.slice A n c)) 30)).alloc (.cells #[.int .i64 i] 3)).alloc (.cells (Gm.cells zeroG (.slice none 0 0)) 30)) (w.heap.size + 1 + 1) 30 (Gm.cells zeroG (.slice none 0 0)) := Box.made_at _ _ _ (by simp)
  have b3 : Box (((w.alloc (.cells (Gm.cells g (.slice A n c)) 30)).alloc (.cells #[.int .i64 i] 3)).alloc (.cells (Gm.cells zeroG (.slice none 0 0)) 30)) (w.heap.size + 1) 3 #[.int .i64 i] := (Box.made_at _ _ _ (by simp)).alloc _
  have hb0 := (two_below' w (.cells (Gm.cells g (.slice A n c)) 30) (.cells #[.int .i64 i] 3)).alloc (by simp <;> omega) (.cells (Gm.cells zeroG (.slice none 0 0)) 30)
  have co := Lib.hid (own_any g A n c _ hn (by have := hg.2.2.1; omega) ((hr.below hb0).wider hb0.size))
  have cm := fun X (hX : Below w.heap.size w X) => Lib.hid (may_yes g A n c X hg hn ((hr.below hX).wider hX.size))
  have cs := fun X => Lib.hid (isslot_any i (by omega) X)
  rw [decide_eq_true (show (0 : Int) ≤ i by omega), decide_eq_true (show (i : Int) < 8 by omega), Bool.and_self] at cs
  have q0 : (Gm.cells g (.slice A n c))[2 + i * 7]? = some (.bool false) := (Gm.cells_ship g _ i 0 hi (by omega)).trans (by show some (Value.bool (g.ship i).on) = _; rw [ho])
  have hi8 : (i : Int) < 8 := by omega
  have hN := Lib.hid hn
  have HB := Lib.hid hb0
  have B1 := Lib.hid b1
  have B2 := Lib.hid b2
  have B3 := Lib.hid b3
  clear hr hn b1 b2 b3 hb0 ho hg
  go_enter Try.func50, Try.ntmps50
  go_wp2_with (first | (refine wpList_alloc_game rfl rfl ?_) | ((with_reducible refine load_gate rfl rfl ?_); apply LoadGame.mk rfl; (with_reducible exact B1.out)) | ((with_reducible refine load_gate rfl rfl ?_); apply LoadGame.mk rfl; (with_reducible exact D1.out)) | ((with_reducible refine load_gate rfl rfl ?_); apply LoadGame.mk rfl; exact F1.out) | (go_at_call 53; ((with_reducible refine (co.out).mono ?_); rintro e w1 ⟨A1, c1, rfl, ho1, hb1⟩; have HB1 := Lib.hid ((HB.out.trans (hb1.mono HB.out.size)).alloc (by have := hb1.size; simp at this; omega) (.cells (Gm.cells g (.slice A1 n c1)) 30)); have O1 := Lib.hid ((own_rebase (base' := w.heap.size) ho1 (by simp; omega)).alloc (.cells (Gm.cells g (.slice A1 n c1)) 30)); have D1 := Lib.hid ((B1.out.below hb1 (by simp <;> omega)).alloc (.cells (Gm.cells g (.slice A1 n c1)) 30)); have D2 := Lib.hid ((B2.out.below hb1 (by simp <;> omega)).alloc (.cells (Gm.cells g (.slice A1 n c1)) 30)); have D3 := Lib.hid ((B3.out.below hb1 (by simp <;> omega)).alloc (.cells (Gm.cells g (.slice A1 n c1)) 30)); have s1 : w.heap.size + 1 + 1 < w1.heap.size := (by have := hb1.size; simp at this; omega); clear ho1 hb1)) | (refine wpList_store_game_new rfl rfl rfl rfl rfl rfl ?_) | (go_at_call 51; ((with_reducible refine ((cm _ HB1.out).out).mono ?_); rintro e w2 ⟨rfl, hb2⟩; have HB2 := Lib.hid (HB1.out.trans (hb2.mono HB1.out.size)); have O2 := Lib.hid (own_below O1.out hb2 (Nat.le_refl _)); have F1 := Lib.hid ((Box.made w1 30 (Gm.cells g (.slice A1 n c1))).below hb2 (by simp)); have E1 := (D1.out.below hb2 D1.out.lt).cell; have E3' := D3.out.below hb2 D3.out.lt; have E3 := E3'.cell; have E3H := Lib.hid E3'; have G2 := Lib.hid (D2.out.below hb2 D2.out.lt); clear hb2)) | (go_at_call 54; ((with_reducible refine ((cs _).out).mono ?_); rintro e w' ⟨rfl, rfl⟩)) | ((with_reducible refine store_gate rfl rfl ?_); apply StoreGame.mk rfl rfl rfl; exact G2.out))
  have hn := hN.out
  subst hn
  refine bodyPost_ret (v := .tuple #[.agg (Gm.cells g (.slice A1 g.shots.length c1)), .int .i64 1]) ?_ ?_ ?_
  · exact results_cell_tmp (p := 4) (q := 5) rfl _ _ _ _ (Gm.cells g (.slice A1 g.shots.length c1)) _ rfl (Box.row G2.out _) Try.underlying30 rfl game_info
  · rfl
  · exact ⟨A1, c1, rfl, Lies.owned (own_setRow O2.out (G2.out.unowned O2.out (by decide)) _), Below.setRow' HB2.out (by omega) _⟩
set_option maxRecDepth 100000 in
set_option maxHeartbeats 2000000 in
theorem remove_yes (g : Gm.G) (A : Option Addr) (n c i : Nat) (w : World) (hg : Gm.ok g) (hn : n = g.shots.length) (hr : Lies w w.heap.size 6 A n (Gm.shotCells g.shots)) (hi : i < 8) (ho : (g.ship i).on = true) (h0 : g.shots = []) :
    Calls Try.prog 50 #[.agg (Gm.cells g (.slice A n c)), .int .i64 i] w (Out { g with ship := Gm.upd g.ship i Gm.Ship.none } 0 w) := by
  have b1 : Box (((w.alloc (.cells (Gm.cells g (.slice A n c)) 30)).alloc (.cells #[.int .i64 i] 3)).alloc (.cells (Gm.cells zeroG (.slice none 0 0)) 30)) w.heap.size 30 (Gm.cells g (.slice A n c)) := ((Box.made _ _ _).alloc _).alloc _
  have b2 : Box (((w.alloc (.cells (Gm.cells g (.slice A n c)) 30)).alloc (.cells #[.int .i64 i] 3)).alloc (.cells (Gm.cells zeroG (.slice none 0 0)) 30)) (w.heap.size + 1 + 1) 30 (Gm.cells zeroG (.slice none 0 0)) := Box.made_at _ _ _ (by simp)
  have b3 : Box (((w.alloc (.cells (Gm.cells g (.slice A n c)) 30)).alloc (.cells #[.int .i64 i] 3)).alloc (.cells (Gm.cells zeroG (.slice none 0 0)) 30)) (w.heap.size + 1) 3 #[.int .i64 i] := (Box.made_at _ _ _ (by simp)).alloc _
  have hb0 := (two_below' w (.cells (Gm.cells g (.slice A n c)) 30) (.cells #[.int .i64 i] 3)).alloc (by simp <;> omega) (.cells (Gm.cells zeroG (.slice none 0 0)) 30)
  have co := Lib.hid (own_any g A n c _ hn (by have := hg.2.2.1; omega) ((hr.below hb0).wider hb0.size))
  have cm := fun X (hX : Below w.heap.size w X) => Lib.hid (may_yes g A n c X hg hn ((hr.below hX).wider hX.size))
  have cs := fun X => Lib.hid (isslot_any i (by omega) X)
  rw [decide_eq_true (show (0 : Int) ≤ i by omega), decide_eq_true (show (i : Int) < 8 by omega), Bool.and_self] at cs
  have q0 : (Gm.cells g (.slice A n c))[2 + i * 7]? = some (.bool true) := (Gm.cells_ship g _ i 0 hi (by omega)).trans (by show some (Value.bool (g.ship i).on) = _; rw [ho])
  have hi8 : (i : Int) < 8 := by omega
  obtain ⟨t, ht⟩ : ∃ t, t = g.ship i := ⟨_, rfl⟩
  have r0 : ∀ s, (Gm.cells g s)[2 + i * 7]? = some (.bool t.on) := fun s => (Gm.cells_ship g s i 0 hi (by omega)).trans (by rw [ht]; rfl)
  have r1 : ∀ s, (Gm.cells g s)[2 + i * 7 + 1]? = some (.int .i32 t.x) := fun s => (Gm.cells_ship g s i 1 hi (by omega)).trans (by rw [ht]; rfl)
  have r2 : ∀ s, (Gm.cells g s)[2 + i * 7 + 2]? = some (.int .i32 t.y) := fun s => (Gm.cells_ship g s i 2 hi (by omega)).trans (by rw [ht]; rfl)
  have r3 : ∀ s, (Gm.cells g s)[2 + i * 7 + 3]? = some (.int .i32 t.vx) := fun s => (Gm.cells_ship g s i 3 hi (by omega)).trans (by rw [ht]; rfl)
  have r4 : ∀ s, (Gm.cells g s)[2 + i * 7 + 4]? = some (.int .i32 t.vy) := fun s => (Gm.cells_ship g s i 4 hi (by omega)).trans (by rw [ht]; rfl)
  have r5 : ∀ s, (Gm.cells g s)[2 + i * 7 + 5]? = some (.int .i64 t.cool) := fun s => (Gm.cells_ship g s i 5 hi (by omega)).trans (by rw [ht]; rfl)
  have r6 : ∀ s, (Gm.cells g s)[2 + i * 7 + 6]? = some (.int .i64 t.score) := fun s => (Gm.cells_ship g s i 6 hi (by omega)).trans (by rw [ht]; rfl)
  have hN := Lib.hid hn
  have H0 := Lib.hid h0
  have HB := Lib.hid hb0
  have B1 := Lib.hid b1
  have B2 := Lib.hid b2
  have B3 := Lib.hid b3
  clear hr hn b1 b2 b3 hb0 ho hg ht h0
  go_enter Try.func50, Try.ntmps50
  go_upto_region 5 with (first | (refine wpList_alloc_game rfl rfl ?_) | ((with_reducible refine load_gate rfl rfl ?_); apply LoadGame.mk rfl; (with_reducible exact B1.out)) | ((with_reducible refine load_gate rfl rfl ?_); apply LoadGame.mk rfl; (with_reducible exact D1.out)) | ((with_reducible refine load_gate rfl rfl ?_); apply LoadGame.mk rfl; exact F1.out) | (go_at_call 53; ((with_reducible refine (co.out).mono ?_); rintro e w1 ⟨A1, c1, rfl, ho1, hb1⟩; have HB1 := Lib.hid ((HB.out.trans (hb1.mono HB.out.size)).alloc (by have := hb1.size; simp at this; omega) (.cells (Gm.cells g (.slice A1 n c1)) 30)); have O1 := Lib.hid ((own_rebase (base' := w.heap.size) ho1 (by simp; omega)).alloc (.cells (Gm.cells g (.slice A1 n c1)) 30)); have D1 := Lib.hid ((B1.out.below hb1 (by simp <;> omega)).alloc (.cells (Gm.cells g (.slice A1 n c1)) 30)); have D2 := Lib.hid ((B2.out.below hb1 (by simp <;> omega)).alloc (.cells (Gm.cells g (.slice A1 n c1)) 30)); have D3 := Lib.hid ((B3.out.below hb1 (by simp <;> omega)).alloc (.cells (Gm.cells g (.slice A1 n c1)) 30)); have s1 : w.heap.size + 1 + 1 < w1.heap.size := (by have := hb1.size; simp at this; omega); have ho1H := Lib.hid ho1; clear ho1 hb1)) | (refine wpList_store_game_new rfl rfl rfl rfl rfl rfl ?_) | (go_at_call 51; ((with_reducible refine ((cm _ HB1.out).out).mono ?_); rintro e w2 ⟨rfl, hb2⟩; have HB2 := Lib.hid (HB1.out.trans (hb2.mono HB1.out.size)); have O2 := Lib.hid (own_below O1.out hb2 (Nat.le_refl _)); have F1 := Lib.hid ((Box.made w1 30 (Gm.cells g (.slice A1 n c1))).below hb2 (by simp)); have f1c := F1.out.cell; have f1f := F1.out.free; have H9 := Lib.hid ((has_made (w := w) hN.out (own_rebase (base' := w.heap.size) ho1H.out (by simp; omega))).call hb2); have E1 := (D1.out.below hb2 D1.out.lt).cell; have E3' := D3.out.below hb2 D3.out.lt; have E3 := E3'.cell; have E3H := Lib.hid E3'; have G2 := Lib.hid (D2.out.below hb2 D2.out.lt); clear hb2)) | (go_at_call 54; ((with_reducible refine ((cs _).out).mono ?_); rintro e w' ⟨rfl, rfl⟩)) | ((with_reducible refine store_gate rfl rfl ?_); apply StoreGame.mk rfl rfl rfl; exact G2.out))
  have W5 : Has w.heap.size w1.heap.size { g with ship := Gm.upd g.ship i Gm.Ship.none } (stored w2 w1.heap.size i Gm.Ship.none) := H9.out.stored hi _
  have K5 := (Keep.refl (show w.heap.size ≤ w1.heap.size by omega) w2).stored (k := i) Gm.Ship.none
  obtain ⟨W, hW⟩ : ∃ W, W = stored w2 w1.heap.size i Gm.Ship.none := ⟨_, rfl⟩
  rw [← hW] at W5 K5
  simp only [stored, Gm.Ship.none] at hW
  rw [← hW]
  have ck := Lib.hid (keep_none { g with ship := Gm.upd g.ship i Gm.Ship.none } w.heap.size w1.heap.size (.func (.func 99) #[] #[.pointer (some ⟨w.heap.size + 1, 0, none⟩)]) W (by omega) W5 H0.out)
  have hmf : ∀ (fn : Fn) (first cap : Array Value) (w : World), (Instr.makeFunc fn first cap).run Try.prog w = .ok (.func fn first cap) w := fun _ _ _ _ => rfl
  have ne2 : w.heap.size + 1 + 1 ≠ w1.heap.size := by omega
  have R5 := Lib.hid (G2.out.keep K5 ne2 (by decide))
  have KK5 := Lib.hid (HB2.out.trans (K5.to HB2.out.size))
  clear hW W5 K5 E1 E3 f1c f1f r0 r1 r2 r3 r4 r5 r6
  go_wp2_with (first | (go_at_call 62; ((with_reducible refine (ck.out).mono ?_); rintro e w4 ⟨rfl, h4, k4⟩; obtain ⟨A4, c4, B4, O4⟩ := h4; have F4 := Lib.hid B4; have O4H := Lib.hid O4; have R4 := Lib.hid (R5.out.keep k4 ne2 (by decide)); have K4 := Lib.hid (KK5.out.trans (k4.to KK5.out.size)); clear B4 O4 k4)) | ((with_reducible refine load_gate rfl rfl ?_); apply LoadGame.mk rfl; exact F4.out) | ((with_reducible refine store_gate rfl rfl ?_); apply StoreGame.mk rfl rfl rfl; exact R4.out))
  refine bodyPost_ret (v := .tuple #[.agg (Gm.cells { g with ship := Gm.upd g.ship i Gm.Ship.none } (.slice A4 g.shots.length c4)), .int .i64 0]) ?_ ?_ ?_
  · exact results_cell_tmp (p := 4) (q := 5) rfl _ _ _ _ (Gm.cells { g with ship := Gm.upd g.ship i Gm.Ship.none } (.slice A4 g.shots.length c4)) _ rfl (Box.row R4.out _) Try.underlying30 rfl game_info
  · rfl
  · exact ⟨A4, c4, rfl, Lies.owned (own_setRow O4H.out (R4.out.unowned O4H.out (by decide)) _), Below.setRow' K4.out (by omega) _⟩
end Go.Proofs.Ytbihnmingedgfaa
