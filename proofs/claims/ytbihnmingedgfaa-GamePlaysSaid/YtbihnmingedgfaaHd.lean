/-
The program's game: what a slot does, who is placed.
-/
import Derived.Test.YtbihnmingedgfaaHw
import Derived.Test.YtbihnmingedgfaaDp
namespace Go.Proofs.Ytbihnmingedgfaa
open Go.RowKit
set_option linter.unusedVariables false

theorem input_info : (Try.prog.info? 37).map (·.size) = some 3 := by kernel_rfl
theorem ship7_info : (Try.prog.info? 26).map (·.size) = some 7 := by kernel_rfl

set_option maxHeartbeats 1000000 in
theorem may_in (x y p : Int) (wx : -128 ≤ x ∧ x ≤ 127) (wy : -128 ≤ y ∧ y ≤ 127) (w : World) :
    Calls Try.prog 93 #[.agg #[.int .i8 x, .int .i8 y, .int .u8 p]] w fun e w' => e = .returned (.bool (decide (x ≠ -128) && decide (y ≠ -128))) ∧ Below w.heap.size w w' := by
  go_enter Try.func93, Try.ntmps93
  go_wp2
  all_goals
    go_ret
    exact ⟨ret_bool (by rw [Bool.eq_iff_iff]; simp_all <;> omega), one_below _ _⟩

def Gm.tameIn (p : Gm.In) : Gm.In := ⟨Gf.tame p.x, Gf.tame p.y, p.b⟩
theorem tame_max {x : Int} (h : -128 ≤ x) : max x (-127) = Gf.tame x := by unfold Gf.tame; split <;> omega

set_option maxHeartbeats 1000000 in
theorem held_any (p : Gm.In) (hp : Gm.tyIn p) (w : World) :
    Calls Try.prog 59 #[.agg p.cells.toArray] w fun e w' => e = .returned (.agg (Gm.tameIn p).cells.toArray) ∧ Below w.heap.size w w' := by
  obtain ⟨x, y, p⟩ := p
  obtain ⟨wx, wy, wp⟩ := hp
  dsimp only at wx wy wp
  have b1 : Box ((w.alloc (.cells #[.int .i8 x, .int .i8 y, .int .u8 p] 37)).alloc (.cells #[.int .i8 0, .int .i8 0, .int .u8 0] 37)) w.heap.size 37 #[.int .i8 x, .int .i8 y, .int .u8 p] := (Box.made _ _ _).alloc _
  have b2 : Box ((w.alloc (.cells #[.int .i8 x, .int .i8 y, .int .u8 p] 37)).alloc (.cells #[.int .i8 0, .int .i8 0, .int .u8 0] 37)) (w.heap.size + 1) 37 #[.int .i8 0, .int .i8 0, .int .u8 0] := Box.made_at _ _ _ (by simp)
  have hb0 := Lib.hid (two_below' w (.cells #[.int .i8 x, .int .i8 y, .int .u8 p] 37) (.cells #[.int .i8 0, .int .i8 0, .int .u8 0] 37))
  have hc := b1.cell
  have B1 := Lib.hid b1
  have B2 := Lib.hid b2
  clear b1 b2
  simp only [Gm.In.cells, Gm.tameIn]
  by_cases hm : x ≠ -128 ∧ y ≠ -128
  · have c1 := fun X => Lib.hid (may_in x y p wx wy X)
    rw [decide_eq_true hm.1, decide_eq_true hm.2, Bool.and_self] at c1
    rw [Gf.tame_same hm.1, Gf.tame_same hm.2]
    clear hm
    go_enter Try.func59, Try.ntmps59
    go_wp2_with (first | (go_at_call 93; ((with_reducible refine ((c1 _).out).mono ?_); rintro e w1 ⟨rfl, hb⟩; have D1 := B1.out.below hb (by simp <;> omega); have D2 := B2.out.below hb (by simp <;> omega); have k1 := D1.cell; have k2 := D2.cell; have f2 := D2.free; have l2 := D2.lt; have HB := Lib.hid hb; have DD := Lib.hid D2; clear D1 D2 hb hc)) | ((with_reducible refine blk_gate (t := 37) rfl rfl input_info ?_); apply StoreBlk.mk rfl rfl; exact DD.out; (focus (simp [Value.oneCell'])); (focus rfl); (focus rfl)))
    refine bodyPost_ret (v := .agg #[.int .i8 x, .int .i8 y, .int .u8 p]) ?_ ?_ ?_
    · exact results_cell_row rfl _ _ _ _ #[.int .i8 x, .int .i8 y, .int .u8 p] (0, 0) _ rfl (Box.row DD.out _).is Try.underlying37 rfl input_info
    · rfl
    · exact ⟨rfl, Below.setRow' (hb0.out.trans (HB.out.mono hb0.out.size)) (by omega) _⟩
  · have c1 := fun X => Lib.hid (may_in x y p wx wy X)
    rw [show (decide (x ≠ -128) && decide (y ≠ -128)) = false by simp; omega] at c1
    by_cases hx : x = -128
    · subst hx
      rw [show Gf.tame (-128) = -127 from rfl]
      by_cases hy : y = -128
      · subst hy
        rw [show Gf.tame (-128) = -127 from rfl]
        clear hm wx wy
        go_enter Try.func59, Try.ntmps59
        go_wp2_with (first | (go_at_call 93; ((with_reducible refine ((c1 _).out).mono ?_); rintro e w1 ⟨rfl, hb⟩; have D1 := B1.out.below hb (by simp <;> omega); have D2 := B2.out.below hb (by simp <;> omega); have k1 := D1.cell; have f1 := D1.free; have l1 := D1.lt; have k2 := D2.cell; have f2 := D2.free; have l2 := D2.lt; have HB := Lib.hid hb; have ne1 : w.heap.size + 1 ≠ w.heap.size := (by omega); have DD := Lib.hid ((D2.far (p := ⟨w.heap.size, 0, none⟩) ne1 (.int .i8 (-127))).far (p := ⟨w.heap.size, 1, none⟩) ne1 (.int .i8 (-127))); clear D1 D2 hb hc ne1)) | ((with_reducible refine blk_gate (t := 37) rfl rfl input_info ?_); apply StoreBlk.mk rfl rfl; exact DD.out; (focus (simp [Value.oneCell'])); (focus rfl); (focus rfl)))
        refine bodyPost_ret (v := .agg #[.int .i8 (-127), .int .i8 (-127), .int .u8 p]) ?_ ?_ ?_
        · exact results_cell_row rfl _ _ _ _ #[.int .i8 (-127), .int .i8 (-127), .int .u8 p] (0, 0) _ rfl (Box.row DD.out _).is Try.underlying37 rfl input_info
        · rfl
        · exact ⟨rfl, Below.setRow' (((hb0.out.trans (HB.out.mono hb0.out.size)).setCell (p := ⟨w.heap.size, 0, none⟩) (Nat.le_refl _) _).setCell (p := ⟨w.heap.size, 1, none⟩) (Nat.le_refl _) _) (by omega) _⟩
      · rw [Gf.tame_same hy]
        have hy' : -127 ≤ y := by omega
        clear hm wx
        go_enter Try.func59, Try.ntmps59
        go_wp2_with (first | (go_at_call 93; ((with_reducible refine ((c1 _).out).mono ?_); rintro e w1 ⟨rfl, hb⟩; have D1 := B1.out.below hb (by simp <;> omega); have D2 := B2.out.below hb (by simp <;> omega); have k1 := D1.cell; have f1 := D1.free; have l1 := D1.lt; have k2 := D2.cell; have f2 := D2.free; have l2 := D2.lt; have HB := Lib.hid hb; have ne1 : w.heap.size + 1 ≠ w.heap.size := (by omega); have DD := Lib.hid ((D2.far (p := ⟨w.heap.size, 0, none⟩) ne1 (.int .i8 (-127))).far (p := ⟨w.heap.size, 1, none⟩) ne1 (.int .i8 y)); clear D1 D2 hb hc ne1)) | ((with_reducible refine blk_gate (t := 37) rfl rfl input_info ?_); apply StoreBlk.mk rfl rfl; exact DD.out; (focus (simp [Value.oneCell'])); (focus rfl); (focus rfl)))
        refine bodyPost_ret (v := .agg #[.int .i8 (-127), .int .i8 y, .int .u8 p]) ?_ ?_ ?_
        · exact results_cell_row rfl _ _ _ _ #[.int .i8 (-127), .int .i8 y, .int .u8 p] (0, 0) _ rfl (Box.row DD.out _).is Try.underlying37 rfl input_info
        · rfl
        · exact ⟨rfl, Below.setRow' (((hb0.out.trans (HB.out.mono hb0.out.size)).setCell (p := ⟨w.heap.size, 0, none⟩) (Nat.le_refl _) _).setCell (p := ⟨w.heap.size, 1, none⟩) (Nat.le_refl _) _) (by omega) _⟩
    · have hy : y = -128 := by omega
      subst hy
      rw [Gf.tame_same hx, show Gf.tame (-128) = -127 from rfl]
      have hx' : -127 ≤ x := by omega
      clear hm wy
      go_enter Try.func59, Try.ntmps59
      go_wp2_with (first | (go_at_call 93; ((with_reducible refine ((c1 _).out).mono ?_); rintro e w1 ⟨rfl, hb⟩; have D1 := B1.out.below hb (by simp <;> omega); have D2 := B2.out.below hb (by simp <;> omega); have k1 := D1.cell; have f1 := D1.free; have l1 := D1.lt; have k2 := D2.cell; have f2 := D2.free; have l2 := D2.lt; have HB := Lib.hid hb; have ne1 : w.heap.size + 1 ≠ w.heap.size := (by omega); have DD := Lib.hid ((D2.far (p := ⟨w.heap.size, 0, none⟩) ne1 (.int .i8 x)).far (p := ⟨w.heap.size, 1, none⟩) ne1 (.int .i8 (-127))); clear D1 D2 hb hc ne1)) | ((with_reducible refine blk_gate (t := 37) rfl rfl input_info ?_); apply StoreBlk.mk rfl rfl; exact DD.out; (focus (simp [Value.oneCell'])); (focus rfl); (focus rfl)))
      refine bodyPost_ret (v := .agg #[.int .i8 x, .int .i8 (-127), .int .u8 p]) ?_ ?_ ?_
      · exact results_cell_row rfl _ _ _ _ #[.int .i8 x, .int .i8 (-127), .int .u8 p] (0, 0) _ rfl (Box.row DD.out _).is Try.underlying37 rfl input_info
      · rfl
      · exact ⟨rfl, Below.setRow' (((hb0.out.trans (HB.out.mono hb0.out.size)).setCell (p := ⟨w.heap.size, 0, none⟩) (Nat.le_refl _) _).setCell (p := ⟨w.heap.size, 1, none⟩) (Nat.le_refl _) _) (by omega) _⟩

set_option maxRecDepth 100000 in
set_option maxHeartbeats 1000000 in
theorem place_walk (g : Gm.G) (b B : Nat) (sc : Int) (x y d : Int) (w : World) (hbB : b ≤ B) (h : Has b B g w) (hd : 0 ≤ g.dice ∧ g.dice ≤ 18446744073709551615)
    (hx : Dn.share (Dn.next g.dice) 16777216 = x) (hy : Dn.share (Dn.next (Dn.next g.dice)) 16777216 = y) (hdd : Dn.next (Dn.next g.dice) = d) :
    Calls Try.prog 55 #[.pointer (some ⟨B, 0, none⟩), .int .i64 sc] w fun e w' => e = .returned (.agg #[.bool true, .int .i32 x, .int .i32 y, .int .i32 0, .int .i32 0, .int .i64 0, .int .i64 sc]) ∧ Has b B { g with dice := d } w' ∧ Keep b B w w' := by
  have c1 := fun X => Lib.hid (place_any g.dice hd X)
  rw [hx, hy, hdd] at c1
  have HH := Lib.hid (h.alloc (.cells #[.bool false, .int .i32 0, .int .i32 0, .int .i32 0, .int .i32 0, .int .i64 0, .int .i64 0] 26))
  have HK := Lib.hid ((Keep.refl hbB w).alloc (.cells #[.bool false, .int .i32 0, .int .i32 0, .int .i32 0, .int .i32 0, .int .i64 0, .int .i64 0] 26))
  have hBs := h.lt
  obtain ⟨A, c, hB, hO⟩ := h
  have bT : Box (w.alloc (.cells #[.bool false, .int .i32 0, .int .i32 0, .int .i32 0, .int .i32 0, .int .i64 0, .int .i64 0] 26)) w.heap.size 26 #[.bool false, .int .i32 0, .int .i32 0, .int .i32 0, .int .i32 0, .int .i64 0, .int .i64 0] := Box.made _ _ _
  have BT := Lib.hid bT
  have BG := Lib.hid (hB.alloc (.cells #[.bool false, .int .i32 0, .int .i32 0, .int .i32 0, .int .i32 0, .int .i64 0, .int .i64 0] 26))
  have hc := BG.out.cell
  have e1 := Gm.cells_1 g (.slice A g.shots.length c)
  clear bT hB hO hx hy hdd
  go_enter Try.func55, Try.ntmps55
  go_wp2_with (first | (go_at_call 106; ((with_reducible refine ((c1 _).out).mono ?_); rintro e w1 ⟨rfl, hb⟩; have D1 := BG.out.below hb (by simp <;> omega); have T1 := BT.out.below hb (by simp <;> omega); have k1 := D1.cell; have f1 := D1.free; have H1 := Lib.hid (HH.out.call hb); have K1 := Lib.hid ((HK.out.call hb).put 1 (.int .u64 d)); have ne1 : w.heap.size ≠ B := (by omega); have T2 := Lib.hid (T1.far (p := ⟨B, 1, none⟩) ne1 (.int .u64 d)); clear D1 T1 hb ne1)) | (refine wpList_build_is rfl (t := 26) (vs := [(0, .bool true), (1, .int .i32 x), (2, .int .i32 y), (6, .int .i64 sc)]) rfl rfl (built_ship _ _ _) ?_) | ((with_reducible refine blk_gate (t := 26) rfl rfl ship7_info ?_); apply StoreBlk.mk rfl rfl; exact T2.out; (focus (simp [Value.oneCell'])); (focus rfl); (focus rfl)))
  refine bodyPost_ret (v := .agg #[.bool true, .int .i32 x, .int .i32 y, .int .i32 0, .int .i32 0, .int .i64 0, .int .i64 sc]) ?_ ?_ ?_
  · exact results_cell_row rfl _ _ _ _ #[.bool true, .int .i32 x, .int .i32 y, .int .i32 0, .int .i32 0, .int .i64 0, .int .i64 sc] (0, 0) _ rfl (Box.row T2.out _).is Try.underlying26 rfl ship7_info
  · rfl
  · refine ⟨rfl, ?_, K1.out.freshRow (Nat.le_refl _) _⟩
    have h2 : Has b B { g with dice := d } (w1.setCell ⟨B, 1, none⟩ (.int .u64 d)) := H1.out.put rfl (fun _ hB => blk_dice hB d) (fun j hj => heap_setCell_other _ _ j _ hj)
    exact h2.offRow (by omega) T2.out (by decide) _
theorem place_game (g : Gm.G) (b B : Nat) (sc : Int) (w : World) (hbB : b ≤ B) (h : Has b B g w) (hd : 0 ≤ g.dice ∧ g.dice ≤ 18446744073709551615) :
    Calls Try.prog 55 #[.pointer (some ⟨B, 0, none⟩), .int .i64 sc] w fun e w' => e = .returned (.agg #[.bool true, .int .i32 (Gm.placeX g.dice), .int .i32 (Gm.placeY g.dice), .int .i32 0, .int .i32 0, .int .i64 0, .int .i64 sc]) ∧ Has b B { g with dice := Gm.placeD g.dice } w' ∧ Keep b B w w' :=
  place_walk g b B sc _ _ _ w hbB h hd rfl rfl rfl
end Go.Proofs.Ytbihnmingedgfaa
