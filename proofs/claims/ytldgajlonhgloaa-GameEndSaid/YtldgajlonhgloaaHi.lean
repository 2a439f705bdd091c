/-
Step at the last frame.
-/
import Derived.Test.YtldgajlonhgloaaHp
namespace Go.Proofs.Ytldgajlonhgloaa
open Go.RowKit Go.Shelf
set_option linter.unusedVariables false
set_option maxRecDepth 100000 in
set_option maxHeartbeats 8000000 in
theorem step_end (ps : Nat → Gm.In) (g : Gm.G) (A : Option Addr) (n c : Nat) (w : World) (hg : Gm.ok g) (hf : g.frame = 1048576) (hn : n = g.shots.length) (hr : Lies w w.heap.size 6 A n (Gm.shotCells g.shots)) :
    Calls Try.prog 15 #[.agg (Gm.cells g (.slice A n c)), .agg (Gm.insCells ps).toArray] w (Out g 7 w) := by
  have b1 : Box (((w.alloc (.cells (Gm.cells g (.slice A n c)) 30)).alloc (.cells (Gm.insCells ps).toArray 38)).alloc (.cells (Gm.cells zeroG (.slice none 0 0)) 30)) w.heap.size 30 (Gm.cells g (.slice A n c)) := ((Box.made _ _ _).alloc _).alloc _
  have b2 : Box (((w.alloc (.cells (Gm.cells g (.slice A n c)) 30)).alloc (.cells (Gm.insCells ps).toArray 38)).alloc (.cells (Gm.cells zeroG (.slice none 0 0)) 30)) (w.heap.size + 1) 38 (Gm.insCells ps).toArray := (Box.made_at _ _ _ (by simp)).alloc _
  have b3 : Box (((w.alloc (.cells (Gm.cells g (.slice A n c)) 30)).alloc (.cells (Gm.insCells ps).toArray 38)).alloc (.cells (Gm.cells zeroG (.slice none 0 0)) 30)) (w.heap.size + 1 + 1) 30 (Gm.cells zeroG (.slice none 0 0)) := Box.made_at _ _ _ (by simp)
  have hb0 : Below w.heap.size w (((w.alloc (.cells (Gm.cells g (.slice A n c)) 30)).alloc (.cells (Gm.insCells ps).toArray 38)).alloc (.cells (Gm.cells zeroG (.slice none 0 0)) 30)) := (two_below' w _ _).alloc (by simp <;> omega) _
  have co := Lib.hid (own_any g A n c _ hn (by have := hg.2.2.1; omega) ((hr.below hb0).wider hb0.size))
  have cm := fun X (hX : Below w.heap.size w X) => Lib.hid (may_yes g A n c X hg hn ((hr.below hX).wider hX.size))
  have fr : (g.frame == 1048576) = true := by simpa using hf
  have e0 := Gm.cells_0 g (.slice A n c)
  have hN := Lib.hid hn
  have B1 := Lib.hid b1
  have B2 := Lib.hid b2
  have B3 := Lib.hid b3
  have HB := Lib.hid hb0
  clear hn b1 b2 b3 hb0 hr
  refine (callsIn_wide (n := 10)).1 (callsIn_of_wp_marks Try.func15 rfl trivial (wpIn_wide.2 ?_) rfl)
  simp only [Try.ntmps15, List.size_toArray, List.length_cons, List.length_nil, Nat.reduceAdd, Nat.reduceSub, Array.replicate_succ, Array.replicate_zero, List.push_toArray, List.append_toArray, List.nil_append, List.cons_append]
  go_wp2_with (first | (refine wpList_alloc_game rfl rfl ?_) | ((with_reducible refine load_gate rfl rfl ?_); apply LoadGame.mk rfl; (with_reducible exact B1.out)) | ((with_reducible refine load_gate rfl rfl ?_); apply LoadGame.mk rfl; (with_reducible exact D1.out)) | ((with_reducible refine load_gate rfl rfl ?_); apply LoadGame.mk rfl; (with_reducible exact F1.out)) | (go_at_call 31; ((with_reducible refine (co.out).mono ?_); rintro e w1 ⟨A1, c1, rfl, ho1, hb1⟩; have HB1 := Lib.hid ((HB.out.trans (hb1.mono HB.out.size)).alloc (by have := hb1.size; simp at this; omega) (.cells (Gm.cells g (.slice A1 n c1)) 30)); have O1 := Lib.hid ((own_rebase (base' := w.heap.size) ho1 (by simp; omega)).alloc (.cells (Gm.cells g (.slice A1 n c1)) 30)); have D1 := Lib.hid ((B1.out.below hb1 (by simp <;> omega)).alloc (.cells (Gm.cells g (.slice A1 n c1)) 30)); have D3 := Lib.hid ((B3.out.below hb1 (by simp <;> omega)).alloc (.cells (Gm.cells g (.slice A1 n c1)) 30)); have s1 : w.heap.size + 1 + 1 < w1.heap.size := (by have := hb1.size; simp at this; omega); clear ho1 hb1)) | (refine wpList_store_game_new rfl rfl rfl rfl rfl rfl ?_) | (go_at_call 19; ((with_reducible refine ((cm _ HB1.out).out).mono ?_); rintro e w2 ⟨rfl, hb2⟩; have HB2 := Lib.hid (HB1.out.trans (hb2.mono HB1.out.size)); have O2 := Lib.hid (own_below O1.out hb2 (Nat.le_refl _)); have F1 := Lib.hid ((Box.made w1 30 (Gm.cells g (.slice A1 n c1))).below hb2 (by simp)); have E1 := (D1.out.below hb2 D1.out.lt).cell; have G2 := Lib.hid (D3.out.below hb2 D3.out.lt); clear hb2)) | ((with_reducible refine store_gate rfl rfl ?_); apply StoreGame.mk rfl rfl rfl; exact G2.out))
  have hn := hN.out
  subst hn
  refine ⟨.tuple #[.agg (Gm.cells g (.slice A1 g.shots.length c1)), .int .i64 7], ?_, ?_⟩
  · exact results_cell_tmp (p := 4) (q := 5) rfl _ _ _ _ (Gm.cells g (.slice A1 g.shots.length c1)) _ rfl (Box.row G2.out _) Try.underlying30 rfl game_info
  · exact ⟨A1, c1, rfl, Lies.owned (own_setRow O2.out (G2.out.unowned O2.out (by decide)) _), Below.setRow' HB2.out (by omega) _⟩
end Go.Proofs.Ytldgajlonhgloaa
