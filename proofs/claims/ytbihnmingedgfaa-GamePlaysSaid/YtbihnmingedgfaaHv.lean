/-
The program's Same and New.
-/
import Derived.Test.YtbihnmingedgfaaHb
import Derived.Test.YtbihnmingedgfaaEq
import Derived.Test.YtbihnmingedgfaaDs
import Derived.Outline
import Derived.Deep.QuietTactic
import Derived.BigQuiet
namespace Go.Proofs.Ytbihnmingedgfaa
open Go.RowKit
set_option linter.unusedVariables false

theorem ships_info : (Try.prog.info? 27).map (·.size) = some 56 := by kernel_rfl
theorem ships_part (g : Gm.G) (v : Value) : ∀ j u, (Gm.shipCells g.ship)[j]? = some u → (Gm.cells g v)[2 + j]? = some u := fun j u hu => by
  have hj : j < 56 := by have := (List.getElem?_eq_some_iff.1 hu).1; rwa [Gm.shipCells_len] at this
  rw [Gm.cells_shipj _ _ _ hj]; exact hu

set_option maxRecDepth 100000 in
set_option maxHeartbeats 4000000 in
theorem equal_yes (l : List Gm.Shot) (A B : Option Addr) (n c d : Nat) (w : World) (hn : n = l.length) (n64 : n ≤ 9223372036854775807) (hr : Lies w w.heap.size 6 A n (Gm.shotCells l)) (hq : Lies w w.heap.size 6 B n (Gm.shotCells l)) :
    Calls Try.prog 70 #[.slice A n c, .slice B n d] w fun e w' => e = .returned (.bool true) ∧ Below w.heap.size w w' := by
  have hN : Hid (n = l.length) := Lib.hid hn
  clear hn
  go_enter Try.func70, Try.ntmps70
  go_wp2
  go_loopw [13] (fun i wr => ∃ k : Nat, k ≤ n ∧ i = .int .i64 k ∧ Below w.heap.size w wr) (fun i _ => n - (intOf i).toNat)
  case atStart => exact ⟨0, by omega, rfl, Below.refl _ _⟩
  case round =>
    obtain ⟨k, hk, rfl, hb⟩ := hrel
    by_cases hlt : k < n
    · obtain ⟨ad, rfl, hbl, a0, a1, a2, a3, a4, a5⟩ := shots_at (hr.below hb) hN.out k (by have := hN.out; omega)
      obtain ⟨bd, rfl, hbm, c0, c1, c2, c3, c4, c5⟩ := shots_at (hq.below hb) hN.out k (by have := hN.out; omega)
      generalize l[k]'(by have := hN.out; omega) = s at a0 a1 a2 a3 a4 a5 c0 c1 c2 c3 c4 c5
      obtain ⟨owner, x, y, vx, vy, left⟩ := s
      dsimp only at a0 a1 a2 a3 a4 a5 c0 c1 c2 c3 c4 c5
      have hk8 : (k : Int) < n := by omega
      clear hr hq
      go_wp2
      go_quiet (fail)
      go_wp2
      go_roundw
      case rel => exact ⟨k + 1, by omega, by go_num, draws_below hb _⟩
      case measure => simp [intOf]; omega
    · have hk8 : ¬ (k : Int) < n := by omega
      clear hr hq
      go_wp2
      go_ret
      exact ⟨rfl, hb⟩

set_option maxRecDepth 100000 in
set_option maxHeartbeats 4000000 in
theorem same_yes (g h : Gm.G) (A B : Option Addr) (n m c d : Nat) (w : World) (hn : n = g.shots.length) (hm : m = h.shots.length) (hr : Lies w w.heap.size 6 A n (Gm.shotCells g.shots)) (hq : Lies w w.heap.size 6 B m (Gm.shotCells h.shots))
    (n64 : n ≤ 9223372036854775807) (he : Gm.Eq g h) :
    Calls Try.prog 23 #[.agg (Gm.cells g (.slice A n c)), .agg (Gm.cells h (.slice B m d))] w fun e w' => e = .returned (.bool true) ∧ Below w.heap.size w w' := by
  obtain ⟨e1, e2, e3, e4⟩ := he
  obtain rfl : n = m := by rw [hn, hm, e4]
  rw [← e4] at hq
  have b1 : Box ((w.alloc (.cells (Gm.cells g (.slice A n c)) 30)).alloc (.cells (Gm.cells h (.slice B n d)) 30)) w.heap.size 30 (Gm.cells g (.slice A n c)) := (Box.made _ _ _).alloc _
  have b2 : Box ((w.alloc (.cells (Gm.cells g (.slice A n c)) 30)).alloc (.cells (Gm.cells h (.slice B n d)) 30)) (w.heap.size + 1) 30 (Gm.cells h (.slice B n d)) := Box.made_at _ _ _ (by simp)
  have hb0 := two_below' w (.cells (Gm.cells g (.slice A n c)) 30) (.cells (Gm.cells h (.slice B n d)) 30)
  have ce := Lib.hid (equal_yes g.shots A B n c d _ hn n64 ((hr.below hb0).wider hb0.size) ((hq.below hb0).wider hb0.size))
  have ne : ∀ W, (binOp .eql 27 (.agg (Gm.shipCells g.ship).toArray) (.agg (Gm.shipCells h.ship).toArray)).run Try.prog W = .ok (.bool true) W := fun W => by
    rw [ships_eql, Gm.shipsEq_iff.2 e3]
  have g0 := Gm.cells_0 g (.slice A n c)
  have g1 := Gm.cells_1 g (.slice A n c)
  have g58 := Gm.cells_58 g (.slice A n c)
  have h0 := Gm.cells_0 h (.slice B n d)
  have h1 := Gm.cells_1 h (.slice B n d)
  have h58 := Gm.cells_58 h (.slice B n d)
  rw [← e1] at h0
  rw [← e2] at h1
  have k1 := b1.cell
  have k2 := b2.cell
  have hB1 := Lib.hid b1
  have hB2 := Lib.hid b2
  have HB := Lib.hid hb0
  clear e1 e2 e3 e4 b1 b2 hn hm hr hq hb0
  go_enter Try.func23, Try.ntmps23
  go_wp2_with (first | (refine wpList_load_part_g (by rfl) (ty := 27) rfl rfl hB1.out _ (ships_part _ _) Try.underlying27 rfl ships_info ?_) | (refine wpList_load_part_g (by rfl) (ty := 27) rfl rfl hB2.out _ (ships_part _ _) Try.underlying27 rfl ships_info ?_) | (go_at_call 70; ((with_reducible refine (ce.out).mono ?_); rintro e w1 ⟨rfl, hb1⟩)))
  go_ret
  exact ⟨rfl, HB.out.trans (hb1.mono HB.out.size)⟩

set_option maxRecDepth 100000 in
set_option maxHeartbeats 1000000 in
theorem same_no (g h : Gm.G) (s t : Value) (w : World) (he : g.frame ≠ h.frame) :
    Calls Try.prog 23 #[.agg (Gm.cells g s), .agg (Gm.cells h t)] w fun e w' => e = .returned (.bool false) ∧ Below w.heap.size w w' := by
  have b1 : Box ((w.alloc (.cells (Gm.cells g s) 30)).alloc (.cells (Gm.cells h t) 30)) w.heap.size 30 (Gm.cells g s) := (Box.made _ _ _).alloc _
  have b2 : Box ((w.alloc (.cells (Gm.cells g s) 30)).alloc (.cells (Gm.cells h t) 30)) (w.heap.size + 1) 30 (Gm.cells h t) := Box.made_at _ _ _ (by simp)
  have k1 := b1.cell
  have k2 := b2.cell
  have g0 := Gm.cells_0 g s
  have h0 := Gm.cells_0 h t
  have hne : (g.frame == h.frame) = false := by simpa using he
  clear b1 b2
  go_enter Try.func23, Try.ntmps23
  go_wp2
  go_ret
  exact ⟨rfl, two_below' _ _ _⟩

set_option maxRecDepth 100000 in
set_option maxHeartbeats 4000000 in
theorem new_any (s : ByteArray) (w : World) (hs : s.size ≤ maxLen) :
    Calls Try.prog 15 #[.string s] w fun e w' => e = .returned (.agg (Gm.cells (Gm.new (Dn.seed s.data.toList)) (.slice none 0 0))) ∧ Below w.heap.size w w' := by
  have c1 := fun X => Lib.hid (seed_any s X hs)
  have hb0 := Lib.hid (one_below w (.cells (Gm.cells zeroG (.slice none 0 0)) 30))
  have B0 := Lib.hid (Box.made w 30 (Gm.cells zeroG (.slice none 0 0)))
  go_enter Try.func15, Try.ntmps15
  go_wp2_with (first | (go_at_call 52; ((with_reducible refine ((c1 _).out).mono ?_); rintro e w1 ⟨rfl, hb1⟩; have B1 := Lib.hid (B0.out.below hb1 B0.out.lt); have HB1 := Lib.hid (hb0.out.trans (hb1.mono hb0.out.size)); clear hb1)) | (refine wpList_alloc_game rfl rfl ?_) | (refine wpList_build_is rfl (t := 30) (vs := [(1, .int .u64 (Dn.seed s.data.toList))]) rfl rfl (built_new _) ?_) | ((with_reducible refine store_gate rfl rfl ?_); apply StoreGame.mk rfl rfl rfl; exact B1.out))
  refine bodyPost_ret (v := .agg (Gm.cells (Gm.new (Dn.seed s.data.toList)) (.slice none 0 0))) ?_ ?_ ?_
  · exact results_cell_row rfl _ _ _ _ (Gm.cells (Gm.new (Dn.seed s.data.toList)) (.slice none 0 0)) (0, 0) _ rfl (Box.row B1.out _).is Try.underlying30 rfl game_info
  · rfl
  · exact ⟨rfl, Below.setRow' HB1.out (Nat.le_refl _) _⟩
end Go.Proofs.Ytbihnmingedgfaa
