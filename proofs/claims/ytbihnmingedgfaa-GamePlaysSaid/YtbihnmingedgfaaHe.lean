/-
The program's game: who comes.
-/
import Derived.Outline
import Derived.Deep.CutRange
import Derived.Deep.CutBlock
import Derived.Deep.DeepCutAuto
import Derived.Test.YtbihnmingedgfaaHd
namespace Go.Proofs.Ytbihnmingedgfaa
open Go.RowKit
set_option linter.unusedVariables false

theorem has_made {w w1 : World} {A : Option Addr} {n c : Nat} {g : Gm.G} (hn : n = g.shots.length) (ho : w1.ownsRow w.heap.size 108 6 (.slice A n c) n (Gm.shotCells g.shots)) : Has w.heap.size w1.heap.size g (w1.alloc (.cells (Gm.cells g (.slice A n c)) 30)) := by
  subst hn; exact ⟨A, c, Box.made _ _ _, ho.alloc _⟩
theorem has_lies {b B : Nat} {g : Gm.G} {w : World} {A : Option Addr} {n c : Nat} (h : w.ownsRow b 108 6 (.slice A n c) n (Gm.shotCells g.shots)) : Lies w w.heap.size 6 A n (Gm.shotCells g.shots) := Lies.owned h

set_option maxRecDepth 100000 in
set_option maxHeartbeats 8000000 in
theorem spawn_walk (g : Gm.G) (A : Option Addr) (n c i : Nat) (x y d : Int) (w : World) (hg : Gm.ok g) (hd : 0 ≤ g.dice ∧ g.dice ≤ 18446744073709551615) (hn : n = g.shots.length) (hr : Lies w w.heap.size 6 A n (Gm.shotCells g.shots)) (hi : i < 8) (ho : (g.ship i).on = false)
    (hx : Dn.share (Dn.next g.dice) 16777216 = x) (hy : Dn.share (Dn.next (Dn.next g.dice)) 16777216 = y) (hdd : Dn.next (Dn.next g.dice) = d) :
    Calls Try.prog 17 #[.agg (Gm.cells g (.slice A n c)), .int .i64 i] w (Out { g with dice := d, ship := Gm.upd g.ship i ⟨true, x, y, 0, 0, 0, 0⟩ } 0 w) := by
  have b1 : Box ((w.alloc (.cells (Gm.cells g (.slice A n c)) 30)).alloc (.cells (Gm.cells zeroG (.slice none 0 0)) 30)) w.heap.size 30 (Gm.cells g (.slice A n c)) := (Box.made _ _ _).alloc _
  have b2 : Box ((w.alloc (.cells (Gm.cells g (.slice A n c)) 30)).alloc (.cells (Gm.cells zeroG (.slice none 0 0)) 30)) (w.heap.size + 1) 30 (Gm.cells zeroG (.slice none 0 0)) := Box.made_at _ _ _ (by simp)
  have hb0 := two_below' w (.cells (Gm.cells g (.slice A n c)) 30) (.cells (Gm.cells zeroG (.slice none 0 0)) 30)
  have co := Lib.hid (own_any g A n c _ hn (by have := hg.2.2.1; omega) ((hr.below hb0).wider hb0.size))
  have cm := fun X (hX : Below w.heap.size w X) => Lib.hid (may_yes g A n c X hg hn ((hr.below hX).wider hX.size))
  have cs := fun X => Lib.hid (isslot_any i (by omega) X)
  rw [decide_eq_true (show (0 : Int) ≤ i by omega), decide_eq_true (show (i : Int) < 8 by omega), Bool.and_self] at cs
  have cp := fun B X (hX : Has w.heap.size B g X) (hB : w.heap.size ≤ B) => Lib.hid (place_walk g w.heap.size B 0 x y d X hB hX hd hx hy hdd)
  have q0 : (Gm.cells g (.slice A n c))[2 + i * 7]? = some (.bool false) := (Gm.cells_ship g _ i 0 hi (by omega)).trans (by show some (Value.bool (g.ship i).on) = _; rw [ho])
  obtain ⟨t, ht⟩ : ∃ t, t = g.ship i := ⟨_, rfl⟩
  have r0 : ∀ s, (Gm.cells { g with dice := d } s)[2 + i * 7]? = some (.bool t.on) := fun s => (Gm.cells_ship { g with dice := d } s i 0 hi (by omega)).trans (by rw [ht]; rfl)
  have r1 : ∀ s, (Gm.cells { g with dice := d } s)[2 + i * 7 + 1]? = some (.int .i32 t.x) := fun s => (Gm.cells_ship { g with dice := d } s i 1 hi (by omega)).trans (by rw [ht]; rfl)
  have r2 : ∀ s, (Gm.cells { g with dice := d } s)[2 + i * 7 + 2]? = some (.int .i32 t.y) := fun s => (Gm.cells_ship { g with dice := d } s i 2 hi (by omega)).trans (by rw [ht]; rfl)
  have r3 : ∀ s, (Gm.cells { g with dice := d } s)[2 + i * 7 + 3]? = some (.int .i32 t.vx) := fun s => (Gm.cells_ship { g with dice := d } s i 3 hi (by omega)).trans (by rw [ht]; rfl)
  have r4 : ∀ s, (Gm.cells { g with dice := d } s)[2 + i * 7 + 4]? = some (.int .i32 t.vy) := fun s => (Gm.cells_ship { g with dice := d } s i 4 hi (by omega)).trans (by rw [ht]; rfl)
  have r5 : ∀ s, (Gm.cells { g with dice := d } s)[2 + i * 7 + 5]? = some (.int .i64 t.cool) := fun s => (Gm.cells_ship { g with dice := d } s i 5 hi (by omega)).trans (by rw [ht]; rfl)
  have r6 : ∀ s, (Gm.cells { g with dice := d } s)[2 + i * 7 + 6]? = some (.int .i64 t.score) := fun s => (Gm.cells_ship { g with dice := d } s i 6 hi (by omega)).trans (by rw [ht]; rfl)
  have hi8 : (i : Int) < 8 := by omega
  have hN := Lib.hid hn
  have HB := Lib.hid hb0
  have B1 := Lib.hid b1
  have B2 := Lib.hid b2
  clear hr hn b1 b2 hb0 ht hx hy hdd ho hg
  go_enter Try.func17, Try.ntmps17
  go_upto_region 5 with (first | (refine wpList_alloc_game rfl rfl ?_) | ((with_reducible refine load_gate rfl rfl ?_); apply LoadGame.mk rfl; (with_reducible exact B1.out)) | ((with_reducible refine load_gate rfl rfl ?_); apply LoadGame.mk rfl; (with_reducible exact D1.out)) | ((with_reducible refine load_gate rfl rfl ?_); apply LoadGame.mk rfl; exact F1.out) | (go_at_call 53; ((with_reducible refine (co.out).mono ?_); rintro e w1 ⟨A1, c1, rfl, ho1, hb1⟩; have HB1 := Lib.hid ((HB.out.trans (hb1.mono HB.out.size)).alloc (by have := hb1.size; simp at this; omega) (.cells (Gm.cells g (.slice A1 n c1)) 30)); have H1 := Lib.hid (has_made (w := w) hN.out (own_rebase ho1 (by simp; omega))); have D1 := Lib.hid ((B1.out.below hb1 (by simp <;> omega)).alloc (.cells (Gm.cells g (.slice A1 n c1)) 30)); have D2 := Lib.hid ((B2.out.below hb1 (by simp <;> omega)).alloc (.cells (Gm.cells g (.slice A1 n c1)) 30)); have s1 : w.heap.size + 1 < w1.heap.size := (by have := hb1.size; simp at this; omega); clear ho1 hb1)) | (refine wpList_store_game_new rfl rfl rfl rfl rfl rfl ?_) | (go_at_call 51; ((with_reducible refine ((cm _ HB1.out).out).mono ?_); rintro e w2 ⟨rfl, hb2⟩; have HB2 := Lib.hid (HB1.out.trans (hb2.mono HB1.out.size)); have H2 := Lib.hid (H1.out.call hb2); have E1 := (D1.out.below hb2 D1.out.lt).cell; have E2 := Lib.hid (D2.out.below hb2 D2.out.lt); clear hb2)) | (go_at_call 54; ((with_reducible refine ((cs _).out).mono ?_); rintro e w' ⟨rfl, rfl⟩)) | (go_at_call 55; ((with_reducible refine ((cp _ _ H2.out (by omega)).out).mono ?_); rintro e w3 ⟨rfl, H3, K3⟩; have ne2 : w.heap.size + 1 ≠ w1.heap.size := (by omega); obtain ⟨A3, c3, hB3, hO3⟩ := H3; have k3 := hB3.cell; have f3 := hB3.free; have G2 := Lib.hid (stored_far (B := w1.heap.size) (k := i) (E2.out.keep K3 ne2 (by decide)) ne2 ⟨true, x, y, 0, 0, 0, 0⟩); have F1 := Lib.hid (blk_ship hB3 hi ⟨true, x, y, 0, 0, 0, 0⟩); have hO3H := Lib.hid (stored_own hO3 (hB3.unowned hO3 (by decide)) ⟨true, x, y, 0, 0, 0, 0⟩ (B := w1.heap.size) (k := i)); have KK := Lib.hid (stored_below (B := w1.heap.size) (k := i) (HB2.out.trans ((K3.to HB2.out.size))) (by omega) ⟨true, x, y, 0, 0, 0, 0⟩); clear hB3 hO3 K3)) | ((with_reducible refine store_gate rfl rfl ?_); apply StoreGame.mk rfl rfl rfl; exact G2.out))
  go_wp2_with (first | ((with_reducible refine load_gate rfl rfl ?_); apply LoadGame.mk rfl; exact F1.out) | ((with_reducible refine store_gate rfl rfl ?_); apply StoreGame.mk rfl rfl rfl; exact G2.out))
  refine bodyPost_ret (v := .tuple #[.agg (Gm.cells { g with dice := d, ship := Gm.upd g.ship i ⟨true, x, y, 0, 0, 0, 0⟩ } (.slice A3 g.shots.length c3)), .int .i64 0]) ?_ ?_ ?_
  · have hh := results_cell_tmp (P := Try.prog) (fn := Try.f17) (p := 4) (q := 5) rfl
    exact hh _ _ _ _ (Gm.cells { g with dice := d, ship := Gm.upd g.ship i ⟨true, x, y, 0, 0, 0, 0⟩ } (.slice A3 g.shots.length c3)) _ rfl (Box.row G2.out _) Try.underlying30 rfl game_info
  · rfl
  · refine ⟨A3, c3, rfl, ?_, ?_⟩
    · exact Lies.owned (own_setRow hO3H.out (G2.out.unowned hO3H.out (by decide)) _)
    · exact Below.setRow' KK.out (by omega) _
theorem spawn_yes (g : Gm.G) (A : Option Addr) (n c i : Nat) (w : World) (hg : Gm.ok g) (hd : 0 ≤ g.dice ∧ g.dice ≤ 18446744073709551615) (hn : n = g.shots.length) (hr : Lies w w.heap.size 6 A n (Gm.shotCells g.shots)) (hi : i < 8) (ho : (g.ship i).on = false) :
    Calls Try.prog 17 #[.agg (Gm.cells g (.slice A n c)), .int .i64 i] w (Out (Gm.spawn g i) 0 w) :=
  spawn_walk g A n c i _ _ _ w hg hd hn hr hi ho rfl rfl rfl

set_option maxRecDepth 100000 in
set_option maxHeartbeats 2000000 in
theorem spawn_no (g : Gm.G) (A : Option Addr) (n c i : Nat) (w : World) (hg : Gm.ok g) (hn : n = g.shots.length) (hr : Lies w w.heap.size 6 A n (Gm.shotCells g.shots)) (hi : i < 8) (ho : (g.ship i).on = true) :
    Calls Try.prog 17 #[.agg (Gm.cells g (.slice A n c)), .int .i64 i] w (Out g 1 w) := by
  have b1 : Box ((w.alloc (.cells (Gm.cells g (.slice A n c)) 30)).alloc (.cells (Gm.cells zeroG (.slice none 0 0)) 30)) w.heap.size 30 (Gm.cells g (.slice A n c)) := (Box.made _ _ _).alloc _
  have b2 : Box ((w.alloc (.cells (Gm.cells g (.slice A n c)) 30)).alloc (.cells (Gm.cells zeroG (.slice none 0 0)) 30)) (w.heap.size + 1) 30 (Gm.cells zeroG (.slice none 0 0)) := Box.made_at _ _ _ (by simp)
  have hb0 := two_below' w (.cells (Gm.cells g (.slice A n c)) 30) (.cells (Gm.cells zeroG (.slice none 0 0)) 30)
  have co := Lib.hid (own_any g A n c _ hn (by have := hg.2.2.1; omega) ((hr.below hb0).wider hb0.size))
  have cm := fun X (hX : Below w.heap.size w X) => Lib.hid (may_yes g A n c X hg hn ((hr.below hX).wider hX.size))
  have cs := fun X => Lib.hid (isslot_any i (by omega) X)
  rw [decide_eq_true (show (0 : Int) ≤ i by omega), decide_eq_true (show (i : Int) < 8 by omega), Bool.and_self] at cs
  have q0 : (Gm.cells g (.slice A n c))[2 + i * 7]? = some (.bool true) := (Gm.cells_ship g _ i 0 hi (by omega)).trans (by show some (Value.bool (g.ship i).on) = _; rw [ho])
  have hi8 : (i : Int) < 8 := by omega
  have hN := Lib.hid hn
  have HB := Lib.hid hb0
  have B1 := Lib.hid b1
  have B2 := Lib.hid b2
  clear hr hn b1 b2 hb0 ho hg
  go_enter Try.func17, Try.ntmps17
  go_wp2_with (first | (refine wpList_alloc_game rfl rfl ?_) | ((with_reducible refine load_gate rfl rfl ?_); apply LoadGame.mk rfl; (with_reducible exact B1.out)) | ((with_reducible refine load_gate rfl rfl ?_); apply LoadGame.mk rfl; (with_reducible exact D1.out)) | ((with_reducible refine load_gate rfl rfl ?_); apply LoadGame.mk rfl; exact F1.out) | (go_at_call 53; ((with_reducible refine (co.out).mono ?_); rintro e w1 ⟨A1, c1, rfl, ho1, hb1⟩; have HB1 := Lib.hid ((HB.out.trans (hb1.mono HB.out.size)).alloc (by have := hb1.size; simp at this; omega) (.cells (Gm.cells g (.slice A1 n c1)) 30)); have O1 := Lib.hid ((own_rebase (base' := w.heap.size) ho1 (by simp; omega)).alloc (.cells (Gm.cells g (.slice A1 n c1)) 30)); have D1 := Lib.hid ((B1.out.below hb1 (by simp <;> omega)).alloc (.cells (Gm.cells g (.slice A1 n c1)) 30)); have D2 := Lib.hid ((B2.out.below hb1 (by simp <;> omega)).alloc (.cells (Gm.cells g (.slice A1 n c1)) 30)); have s1 : w.heap.size + 1 < w1.heap.size := (by have := hb1.size; simp at this; omega); clear ho1 hb1)) | (refine wpList_store_game_new rfl rfl rfl rfl rfl rfl ?_) | (go_at_call 51; ((with_reducible refine ((cm _ HB1.out).out).mono ?_); rintro e w2 ⟨rfl, hb2⟩; have HB2 := Lib.hid (HB1.out.trans (hb2.mono HB1.out.size)); have O2 := Lib.hid (own_below O1.out hb2 (Nat.le_refl _)); have F1 := Lib.hid ((Box.made w1 30 (Gm.cells g (.slice A1 n c1))).below hb2 (by simp)); have E1 := (D1.out.below hb2 D1.out.lt).cell; have G2 := Lib.hid (D2.out.below hb2 D2.out.lt); clear hb2)) | (go_at_call 54; ((with_reducible refine ((cs _).out).mono ?_); rintro e w' ⟨rfl, rfl⟩)) | ((with_reducible refine store_gate rfl rfl ?_); apply StoreGame.mk rfl rfl rfl; exact G2.out))
  have hn := hN.out
  subst hn
  refine bodyPost_ret (v := .tuple #[.agg (Gm.cells g (.slice A1 g.shots.length c1)), .int .i64 1]) ?_ ?_ ?_
  · exact results_cell_tmp (p := 4) (q := 5) rfl _ _ _ _ (Gm.cells g (.slice A1 g.shots.length c1)) _ rfl (Box.row G2.out _) Try.underlying30 rfl game_info
  · rfl
  · exact ⟨A1, c1, rfl, Lies.owned (own_setRow O2.out (G2.out.unowned O2.out (by decide)) _), Below.setRow' HB2.out (by omega) _⟩
end Go.Proofs.Ytbihnmingedgfaa
