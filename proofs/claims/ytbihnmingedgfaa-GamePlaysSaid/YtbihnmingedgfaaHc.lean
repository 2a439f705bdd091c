/-
The program's game: a list of its own.
-/
import Derived.Test.YtbihnmingedgfaaGp
import Derived.Test.YtbihnmingedgfaaHb
namespace Go.Proofs.Ytbihnmingedgfaa
open Go.RowKit
set_option linter.unusedVariables false

theorem own_rebase {w : World} {base base' : Nat} {e : TypeId} {size n : Nat} {v : Value} {xs : List Value} (h : w.ownsRow base e size v n xs) (hb : base' ≤ base) : w.ownsRow base' e size v n xs := by
  obtain ⟨hl, h' | ⟨g, cap, cur, hv, hbg, hr⟩⟩ := h
  · exact ⟨hl, .inl h'⟩
  · exact ⟨hl, .inr ⟨g, cap, cur, hv, Nat.le_trans hb hbg, hr⟩⟩

set_option maxRecDepth 100000 in
set_option maxHeartbeats 1000000 in
theorem clone_any (l : List Gm.Shot) (A : Option Addr) (n c : Nat) (w : World) (hn : n = l.length) (hn32 : n ≤ 60) (hr : Lies w w.heap.size 6 A n (Gm.shotCells l)) :
    Calls Try.prog 105 #[.slice A n c] w fun e w' => ∃ A' c', e = .returned (.slice A' n c') ∧ w'.ownsRow w.heap.size 108 6 (.slice A' n c') n (Gm.shotCells l) ∧ Below w.heap.size w w' := by
  have hmf : ∀ (fn : Fn) (first cap : Array Value) (w : World), (Instr.makeFunc fn first cap).run Try.prog w = .ok (.func fn first cap) w := fun _ _ _ _ => rfl
  obtain ⟨i0, hi0, hz0, hz1, hz2⟩ := info_parts shot_info
  have hI := Lib.hid hi0
  have hZ := Lib.hid hz0
  have hS := Lib.hid hz1
  have hY := Lib.hid hz2
  have hL := Lib.hid hr
  have hN := Lib.hid hn
  clear hn hi0 hz0 hz1 hz2 hr
  cases A with
  | none =>
    have hn0 : n = 0 := by
      by_cases h : n = 0
      · exact h
      · obtain ⟨ad, he, _⟩ := hL.out.start h; cases he
    subst hn0
    have hnil : ∀ W : World, (binOp .eql 28 (.slice none 0 c) (.slice none 0 0)).run Try.prog W = .ok (.bool true) W := fun W => Lib.run_eql_slice_nil W _ _ none 0 c 0 0 Try.underlying28
    go_enter Try.func105, Try.ntmps105
    go_wp2
    go_ret
    refine ⟨none, 0, rfl, ?_, Below.refl _ _⟩
    have hl : l = [] := List.eq_nil_of_length_eq_zero hN.out.symm
    subst hl
    exact World.ownsRow_nil _ _ _ _
  | some ad =>
    have hnil : ∀ W : World, (binOp .eql 28 (.slice (some ad) n c) (.slice none 0 0)).run Try.prog W = .ok (.bool false) W := fun W => Lib.run_eql_slice_nil W _ _ (some ad) n c 0 0 Try.underlying28
    have own0 := Lib.hid (World.ownsRow_lit (base := w.heap.size) (e := 108) (size := 6) w #[] 0 (Nat.le_refl _) (by unfold maxLen; omega) rfl)
    have hb0 := Lib.hid (one_below w (.cells #[] 108))
    have hL1 := Lib.hid ((hL.out.below hb0.out).wider hb0.out.size)
    go_enter Try.func105, Try.ntmps105
    go_wp2_with ((with_reducible refine append_gate (x := .tmp 5) (y := .tmp 6) (t := 28) (e := 108) (size := 6) (bytes := 32) rfl rfl Try.underlying28 hI.out hZ.out hS.out hY.out rfl (by decide) ?_); refine Appends.mk (base := w.heap.size) (n := 0) (xs := []) rfl own0.out hL1.out (shotCells_one _) (by unfold maxLen; omega) (by omega) (by simp) ?_; intro A2 k2 w2 own2 hg2; have OW := Lib.hid own2; have HG := Lib.hid hg2; clear own2 hg2)
    go_ret
    refine ⟨A2, k2, by simp, ?_, ?_⟩
    · have h := OW.out
      simpa using h
    · exact (hb0.out).grown HG.out (by simp) (fun k hk => by injection hk with hk; have : w.heap.size = k := hk; omega)

set_option maxRecDepth 100000 in
set_option maxHeartbeats 1000000 in
theorem own_any (g : Gm.G) (A : Option Addr) (n c : Nat) (w : World) (hn : n = g.shots.length) (hn32 : n ≤ 60) (hr : Lies w w.heap.size 6 A n (Gm.shotCells g.shots)) :
    Calls Try.prog 53 #[.agg (Gm.cells g (.slice A n c))] w fun e w' => ∃ A' c', e = .returned (.agg (Gm.cells g (.slice A' n c'))) ∧ w'.ownsRow w.heap.size 108 6 (.slice A' n c') n (Gm.shotCells g.shots) ∧ Below w.heap.size w w' := by
  have b1 : Box ((w.alloc (.cells (Gm.cells g (.slice A n c)) 30)).alloc (.cells (Gm.cells zeroG (.slice none 0 0)) 30)) w.heap.size 30 (Gm.cells g (.slice A n c)) := (Box.made _ _ _).alloc _
  have b2 : Box ((w.alloc (.cells (Gm.cells g (.slice A n c)) 30)).alloc (.cells (Gm.cells zeroG (.slice none 0 0)) 30)) (w.heap.size + 1) 30 (Gm.cells zeroG (.slice none 0 0)) := Box.made_at _ _ _ (by simp)
  have hb0 := two_below' w (.cells (Gm.cells g (.slice A n c)) 30) (.cells (Gm.cells zeroG (.slice none 0 0)) 30)
  have c1 := Lib.hid (clone_any g.shots A n c _ hn hn32 ((hr.below hb0).wider hb0.size))
  have e58 := Gm.cells_58 g (.slice A n c)
  have hc := b1.cell
  have HB := Lib.hid hb0
  have B1 := Lib.hid b1
  have B2 := Lib.hid b2
  clear hr hn b1 b2 hb0
  go_enter Try.func53, Try.ntmps53
  go_wp2_with (first | (refine wpList_alloc_game rfl rfl ?_) | (go_at_call 105; ((with_reducible refine ((c1).out).mono ?_); rintro e w1 ⟨A', c', rfl, ho, hb⟩; have D1 := B1.out.below hb (by simp <;> omega); have D2 := B2.out.below hb (by simp <;> omega); have k1 := D1.cell; have f1 := D1.free; have O1 := Lib.hid ho; have HB1 := Lib.hid (HB.out.trans (hb.mono HB.out.size)); have F1 := Lib.hid (blk_shots D1 (.slice A' n c')); have ne1 : w.heap.size + 1 ≠ w.heap.size := (by omega); have F2 := Lib.hid (D2.far (p := ⟨w.heap.size, 58, none⟩) ne1 (.slice A' n c')); have nO := Lib.hid (D1.unowned ho (by decide)); have nO2 := Lib.hid (D2.unowned ho (by decide)); clear D1 D2 ho hb ne1)) | ((with_reducible refine load_gate rfl rfl ?_); apply LoadGame.mk rfl; exact F1.out) | ((with_reducible refine store_gate rfl rfl ?_); apply StoreGame.mk rfl rfl rfl; exact F2.out))
  refine bodyPost_ret (v := .agg (Gm.cells g (.slice A' n c'))) ?_ ?_ ?_
  · exact results_cell_row rfl _ _ _ _ (Gm.cells g (.slice A' n c')) (0, 0) _ rfl (Box.row F2.out _).is Try.underlying30 rfl game_info
  · rfl
  · refine ⟨A', c', rfl, ?_, ?_⟩
    · have h := own_setRow (ownsRow_setCell_other (a := ⟨w.heap.size, 58, none⟩) O1.out nO.out (.slice A' n c')) nO2.out (Gm.cells g (.slice A' n c'))
      exact own_rebase h (by simp; omega)
    · exact Below.setRow' (HB1.out.setCell (p := ⟨w.heap.size, 58, none⟩) (by simp) _) (by omega) _
end Go.Proofs.Ytbihnmingedgfaa
