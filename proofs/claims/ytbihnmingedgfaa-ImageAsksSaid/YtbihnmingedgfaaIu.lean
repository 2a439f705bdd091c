/-
The document's Start; sums.
-/
import Derived.Test.YtbihnmingedgfaaIq
import Derived.Test.YtbihnmingedgfaaDs
import Derived.Laws.BytesArg
namespace Go.Proofs.Ytbihnmingedgfaa
open Go.RowKit Go.Shelf
set_option linter.unusedVariables false
set_option linter.unusedSimpArgs false

def Im.r (k : Nat) : Ros.R := ⟨0, fun i => if i < k then -1 else 0, fun _ => 0⟩
theorem Im.r_put (k : Nat) (hk : k < 8) : (Ros.cells (Im.r k)).setIfInBounds (1 + k * 2) (.int .i64 (-1)) = Ros.cells (Im.r (k + 1)) := by
  rw [Ros.cells_setp _ k hk]
  refine Ros.cells_congr rfl (fun i hi => ?_) (fun i hi => rfl)
  show Ros.upd (Im.r k).peer k (-1) i = if i < k + 1 then -1 else 0
  unfold Ros.upd Im.r
  by_cases e : i = k
  · subst e; simp
  · rw [if_neg e]
    dsimp only
    by_cases h : i < k
    · rw [if_pos h, if_pos (by omega)]
    · rw [if_neg h, if_neg (by omega)]
theorem Im.r_8 : Ros.cells (Im.r 8) = Ros.cells Ros.new := rfl
theorem Im.r_0 : Ros.cells rosZero = Ros.cells (Im.r 0) := rfl

set_option maxHeartbeats 1000000 in
theorem refros_any (w : World) : Calls Try.prog 122 #[] w fun e w' => e = .returned (.agg (Ros.cells Ros.new)) ∧ Below w.heap.size w w' := by
  have P0 := Lib.hid ((Box.made w 51 (Ros.cells rosZero)).alloc (.cells (Ros.cells rosZero) 51))
  have P1 := Lib.hid (Box.made_at (n := w.heap.size + 1) (w.alloc (.cells (Ros.cells rosZero) 51)) 51 (Ros.cells (Im.r 0)) (by simp))
  have K1 := Lib.hid (((Below.refl w.heap.size w).alloc (Nat.le_refl _) (.cells (Ros.cells rosZero) 51)).alloc (by simp) (.cells (Ros.cells rosZero) 51))
  go_enter Try.func122, Try.ntmps122
  go_wp2_with (with_reducible refine ros_alloc rfl rfl ?_)
  go_loopw [2] (fun i wr => ∃ k : Nat, k ≤ 8 ∧ i = .int .i64 k ∧ Box wr (w.heap.size + 1) 51 (Ros.cells (Im.r k)) ∧ Box wr w.heap.size 51 (Ros.cells rosZero) ∧ Below w.heap.size w wr) (fun i _ => 8 - (intOf i).toNat)
  case atStart => exact ⟨0, by omega, rfl, P1.out, P0.out, K1.out⟩
  case round =>
    obtain ⟨k, hk, rfl, hB, hZ, hK⟩ := hrel
    clear P0 P1 K1
    by_cases hlt : k < 8
    · have hk8 : (k : Int) < 8 := by omega
      have c0 := (hB.cell (1 + k * 2)).trans (Ros.cells_peer (Im.r k) k hlt)
      have f0 := hB.free (1 + k * 2)
      have hp := hB.put (1 + k * 2) (.int .i64 (-1))
      rw [Im.r_put k hlt] at hp
      have HB := Lib.hid hp
      have HZ := Lib.hid (hZ.far (p := ⟨w.heap.size + 1, 1 + k * 2, none⟩) (show w.heap.size ≠ w.heap.size + 1 by omega) (.int .i64 (-1)))
      have HK := Lib.hid (hK.setCell (p := ⟨w.heap.size + 1, 1 + k * 2, none⟩) (Nat.le_succ _) (.int .i64 (-1)))
      clear hB hZ hK hp
      go_wp2
      go_roundw
      case rel => exact ⟨k + 1, by omega, by go_num, HB.out, HZ.out, HK.out⟩
      case measure => simp [intOf]; omega
    · have hk8 : ¬ (k : Int) < 8 := by omega
      obtain rfl : k = 8 := by omega
      rw [Im.r_8] at hB
      have HB := Lib.hid hB
      have HZ := Lib.hid hZ
      have HK := Lib.hid hK
      clear hB hZ hK
      go_wp2_with (first | ((with_reducible refine ros_load rfl rfl ?_); apply LoadRow.mk rfl; (focus (with_reducible exact HB.out)); (focus (exact ros_info))) | ((with_reducible refine ros_store rfl rfl ?_); apply StoreRow.mk rfl rfl; (focus (with_reducible exact HZ.out)); (focus (exact ros_info)); (focus rfl); (focus (exact ros_one _))))
      refine bodyPost_ret (v := .agg (Ros.cells Ros.new)) ?_ ?_ ?_
      · exact results_cell_row rfl _ _ _ _ (Ros.cells Ros.new) (0, 0) _ rfl (HZ.out.row (Ros.cells Ros.new)).is Try.underlying51 rfl ros_info
      · rfl
      · exact ⟨rfl, Below.setRow' HK.out (Nat.le_refl _) (Ros.cells Ros.new)⟩

set_option maxRecDepth 100000 in
theorem refnew7_any (s : ByteArray) (w : World) (hs : s.size ≤ maxLen) :
    Calls Try.prog 16 #[.string s] w fun e w' => e = .returned (.agg (Gm.cells (Gm.new (Dn.seed s.data.toList)) (.slice none 0 0))) ∧ Below w.heap.size w w' := by
  have c1 := fun X => Lib.hid (refseed_any s X hs)
  have hr := Lib.hid (rfl : Try.f16.results = _)
  go_enter Try.func16, Try.ntmps16
  go_wp2_with (first | (go_at_call 36; ((with_reducible refine ((c1 _).out).mono ?_); rintro e w' ⟨rfl, rfl⟩)) | (refine wpList_alloc_z rfl (t := 30) rfl game_zero rfl ?_) | (refine wpList_build_is rfl (t := 30) (vs := [(1, .int .u64 (Dn.seed s.data.toList))]) rfl rfl (built_new _) ?_) | (refine wpList_store_new rfl (ty := 30) rfl rfl rfl rfl rfl game_info rfl (cells_one _ _ rfl) ?_))
  refine bodyPost_ret (v := .agg (Gm.cells (Gm.new (Dn.seed s.data.toList)) (.slice none 0 0))) ?_ ?_ ?_
  · exact results_cell_row rfl _ _ _ _ (Gm.cells (Gm.new (Dn.seed s.data.toList)) (.slice none 0 0)) (0, 0) _ rfl (Box.made _ _ _).is Try.underlying30 rfl game_info
  · rfl
  · exact ⟨rfl, one_below _ _⟩

theorem state_built2 (g : Gm.G) (s : Value) (r : Ros.R) : Try.prog.built 53 [(0, .agg (Gm.cells g s)), (1, .agg (Ros.cells r))] = some (Im.cells g s r) := by kernel_rfl

set_option maxHeartbeats 1000000 in
theorem start_any (s : ByteArray) (w : World) (hs : s.size ≤ maxLen) :
    Calls Try.prog 74 #[.string s] w fun e w' => e = .returned (.agg (Im.cells (Gm.new (Dn.seed s.data.toList)) (.slice none 0 0) Ros.new)) ∧ Below w.heap.size w w' := by
  have P1 := Lib.hid (Box.made w 53 Im.zero)
  have K1 := Lib.hid (one_below w (.cells Im.zero 53))
  have c1 := fun X => Lib.hid (refnew7_any s X hs)
  have c2 := fun X => Lib.hid (refros_any X)
  go_enter Try.func74, Try.ntmps74
  go_wp2_with (first | (with_reducible refine alloc_state rfl rfl ?_) | (go_at_call 16; ((with_reducible refine ((c1 _).out).mono ?_); rintro e w2 ⟨rfl, hb⟩; have P2 := Lib.hid (P1.out.below hb P1.out.lt); have K2 := Lib.hid (K1.out.trans (hb.mono K1.out.size)); clear hb)) | (go_at_call 122; ((with_reducible refine ((c2 _).out).mono ?_); rintro e w3 ⟨rfl, hb⟩; have P3 := Lib.hid (P2.out.below hb P2.out.lt); have K3 := Lib.hid (K2.out.trans (hb.mono K2.out.size)); clear hb)) | (refine wpList_build_is rfl (t := 53) (vs := [(0, .agg (Gm.cells (Gm.new (Dn.seed s.data.toList)) (.slice none 0 0))), (1, .agg (Ros.cells Ros.new))]) rfl rfl (state_built2 _ _ _) ?_) | ((with_reducible refine blk_gate (t := 53) rfl rfl state_info ?_); apply StoreBlk.mk rfl rfl P3.out (im_cells_one _ _ _ rfl) (Im.cells_size _ _ _) Im.zero_size))
  refine bodyPost_ret (v := .agg (Im.cells (Gm.new (Dn.seed s.data.toList)) (.slice none 0 0) Ros.new)) ?_ ?_ ?_
  · exact results_cell_row rfl _ _ _ _ (Im.cells (Gm.new (Dn.seed s.data.toList)) (.slice none 0 0) Ros.new) (0, 0) _ rfl (P3.out.row _).is Try.underlying53 rfl (by rw [Im.cells_size]; exact state_info)
  · rfl
  · exact ⟨rfl, Below.setRow' K3.out (Nat.le_refl _) _⟩

theorem sum_nil (w : World) : Calls Try.prog 35 #[.slice none 0 0] w fun e w' => e = .returned (.int .u64 14695981039346656037) ∧ Below w.heap.size w w' := by
  have hcv := fun (w : World) => run_convert_bytes_nil (P := Try.prog) (w := w) 54 5 Try.underlying54 Try.underlying5 0 0 9 Try.underlying9
  have cs := fun X => Lib.hid (seed_any ByteArray.empty X (Nat.zero_le _))
  rw [show Dn.seed ByteArray.empty.data.toList = 14695981039346656037 from rfl] at cs
  go_enter Try.func35, Try.ntmps35
  go_wp2_with (go_at_call 52; ((with_reducible refine ((cs _).out).mono ?_); rintro e w1 ⟨rfl, hb⟩))
  go_ret
  exact ⟨rfl, hb⟩

theorem of_no (g : Gm.G) (r : Ros.R) (A : Option Addr) (n c : Nat) (w : World) (hno : ¬ Im.Ok g r) (hty : Gm.ty g) (hn : n = g.shots.length) (hn63 : n ≤ maxLen) (hr : Lies w w.heap.size 6 A n (Gm.shotCells g.shots)) :
    Calls Try.prog 37 #[.agg (Im.cells g (.slice A n c) r)] w fun e w' => e = .returned (.int .u64 0) ∧ Below w.heap.size w w' := by
  have P0 := Lib.hid (Box.made w 53 (Im.cells g (.slice A n c) r))
  have K0 := Lib.hid (one_below w (.cells (Im.cells g (.slice A n c) r) 53))
  have cp := Lib.hid (put_no g r A n c _ hno hty hn hn63 ((hr.below K0.out).wider K0.out.size))
  clear hr hn hno hty
  go_enter Try.func37, Try.ntmps37
  go_wp2_with (first | ((with_reducible refine im_load_state rfl rfl ?_); apply LoadIm.mk rfl; (focus (with_reducible exact P0.out)); dsimp only) | (go_at_call 29; ((with_reducible refine (cp.out).mono ?_); rintro e w1 ⟨rfl, hb⟩; have K1 := Lib.hid (K0.out.trans (hb.mono K0.out.size)); clear hb)))
  go_ret
  exact ⟨rfl, K1.out⟩
end Go.Proofs.Ytbihnmingedgfaa
