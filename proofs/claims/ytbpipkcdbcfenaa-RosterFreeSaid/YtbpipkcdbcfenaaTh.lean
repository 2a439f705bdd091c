/-
The program's roster: an event.
-/
import Derived.Test.YtbpipkcdbcfenaaTg
import Derived.BigQuiet
import Derived.Laws.StructEq
namespace Go.Proofs.Ytbpipkcdbcfenaa
open Go.RowKit Go.Shelf
set_option linter.unusedVariables false
set_option linter.unusedSimpArgs false

set_option maxRecDepth 100000 in
set_option maxHeartbeats 2000000 in
theorem rosapply_join_yes (r : Ros.R) (k : Nat) (g p : Int) (w : World) (h : Ros.MayTake r k p) (hg : g = r.gen k + 1) :
    Calls Try.prog 45 #[.agg (Ros.cells r), .agg #[.int .i64 1, .int .i64 k, .int .i64 g, .int .i64 p]] w fun e w' => e = .returned (.tuple #[.agg (Ros.cells (Ros.take r k p)), .int .i64 0]) ∧ Below w.heap.size w w' := by
  have ct := fun X => Lib.hid (rostake_yes r k p X h)
  have P0 := Lib.hid (((Box.made w 51 (Ros.cells r)).alloc (.cells #[.int .i64 1, .int .i64 k, .int .i64 g, .int .i64 p] 81)).alloc (.cells (Ros.cells rosZero) 51))
  have P1 := Lib.hid ((Box.made_at (n := w.heap.size + 1) (w.alloc (.cells (Ros.cells r) 51)) 81 #[.int .i64 1, .int .i64 k, .int .i64 g, .int .i64 p] (by simp)).alloc (.cells (Ros.cells rosZero) 51))
  have P2 := Lib.hid (Box.made_at (n := w.heap.size + 1 + 1) ((w.alloc (.cells (Ros.cells r) 51)).alloc (.cells #[.int .i64 1, .int .i64 k, .int .i64 g, .int .i64 p] 81)) 51 (Ros.cells rosZero) (by simp))
  have PB := Lib.hid ((two_below' w (.cells (Ros.cells r) 51) (.cells #[.int .i64 1, .int .i64 k, .int .i64 g, .int .i64 p] 81)).alloc (by simp <;> omega) (.cells (Ros.cells rosZero) 51))
  have hk : k < 8 := by have := h.1.1.2; omega
  have hk8 : (k : Int) < 8 := by omega
  have cgk := Ros.cells_gen (Ros.take r k p) k hk
  rw [show (Ros.take r k p).gen k = r.gen k + 1 from Ros.upd_same _ _ _] at cgk
  obtain ⟨g', hg'⟩ : ∃ g', g' = r.gen k + 1 := ⟨_, rfl⟩
  rw [← hg'] at cgk hg
  subst hg
  clear h hg'
  have p1 := P1.out.cell
  go_enter Try.func45, Try.ntmps45
  go_upto_region 4 with (first | ((with_reducible refine ros_alloc rfl rfl ?_)) | ((with_reducible refine ros_store_new rfl rfl rfl rfl rfl ?_)) | ((with_reducible refine ros_load rfl rfl ?_); apply LoadRow.mk rfl; (focus (with_reducible exact P0.out)); (focus (exact ros_info))) | (go_at_call 41; ((with_reducible refine ((ct _).out).mono ?_); rintro e w1 ⟨rfl, hb⟩; have Q0 := Lib.hid ((P0.out.below hb P0.out.lt).alloc (.cells (Ros.cells (Ros.take r k p)) 51)); have Q1 := Lib.hid ((P1.out.below hb P1.out.lt).alloc (.cells (Ros.cells (Ros.take r k p)) 51)); have Q2 := Lib.hid ((P2.out.below hb P2.out.lt).alloc (.cells (Ros.cells (Ros.take r k p)) 51)); have QB := Lib.hid (PB.out.trans (hb.mono PB.out.size)); have q1 := Q1.out.cell; clear hb)))
  have N0 := Lib.hid (Box.made w1 51 (Ros.cells (Ros.take r k p)))
  have n0 := N0.out.cell
  have NB := Lib.hid (QB.out.alloc QB.out.size (.cells (Ros.cells (Ros.take r k p)) 51))
  go_quiet (fail)
  go_wp2_with (first | ((with_reducible refine ros_load rfl rfl ?_); apply LoadRow.mk rfl; (focus (with_reducible exact N0.out.draws _)); (focus (exact ros_info))) | ((with_reducible refine ros_store rfl rfl ?_); apply StoreRow.mk rfl rfl; (focus (with_reducible exact Q2.out.draws _)); (focus (exact ros_info)); (focus rfl); (focus (exact ros_one _))))
  have hE := (Q2.out.draws nq).row (Ros.cells (Ros.take r k p))
  refine bodyPost_ret (v := .tuple #[.agg (Ros.cells (Ros.take r k p)), .int .i64 0]) ?_ rfl ?_
  · exact results_cell_tmp (p := 4) (q := 5) rfl _ _ _ _ (Ros.cells (Ros.take r k p)) _ rfl hE Try.underlying51 rfl ros_info
  · exact ⟨rfl, Below.setRow' (draws_below NB.out nq) (by omega) _⟩
set_option maxRecDepth 100000 in
set_option maxHeartbeats 2000000 in
theorem rosapply_join_gen (r : Ros.R) (k : Nat) (g p : Int) (w : World) (h : Ros.MayTake r k p) (hg : g ≠ r.gen k + 1) :
    Calls Try.prog 45 #[.agg (Ros.cells r), .agg #[.int .i64 1, .int .i64 k, .int .i64 g, .int .i64 p]] w fun e w' => e = .returned (.tuple #[.agg (Ros.cells r), .int .i64 1]) ∧ Below w.heap.size w w' := by
  have ct := fun X => Lib.hid (rostake_yes r k p X h)
  have P0 := Lib.hid (((Box.made w 51 (Ros.cells r)).alloc (.cells #[.int .i64 1, .int .i64 k, .int .i64 g, .int .i64 p] 81)).alloc (.cells (Ros.cells rosZero) 51))
  have P1 := Lib.hid ((Box.made_at (n := w.heap.size + 1) (w.alloc (.cells (Ros.cells r) 51)) 81 #[.int .i64 1, .int .i64 k, .int .i64 g, .int .i64 p] (by simp)).alloc (.cells (Ros.cells rosZero) 51))
  have P2 := Lib.hid (Box.made_at (n := w.heap.size + 1 + 1) ((w.alloc (.cells (Ros.cells r) 51)).alloc (.cells #[.int .i64 1, .int .i64 k, .int .i64 g, .int .i64 p] 81)) 51 (Ros.cells rosZero) (by simp))
  have PB := Lib.hid ((two_below' w (.cells (Ros.cells r) 51) (.cells #[.int .i64 1, .int .i64 k, .int .i64 g, .int .i64 p] 81)).alloc (by simp <;> omega) (.cells (Ros.cells rosZero) 51))
  have hk : k < 8 := by have := h.1.1.2; omega
  have hk8 : (k : Int) < 8 := by omega
  have cgk := Ros.cells_gen (Ros.take r k p) k hk
  rw [show (Ros.take r k p).gen k = r.gen k + 1 from Ros.upd_same _ _ _] at cgk
  obtain ⟨g', hg'⟩ : ∃ g', g' = r.gen k + 1 := ⟨_, rfl⟩
  rw [← hg'] at cgk hg
  have hb : (g' == g) = false := by simp; omega
  clear h hg'
  have p1 := P1.out.cell
  go_enter Try.func45, Try.ntmps45
  go_upto_region 4 with (first | ((with_reducible refine ros_alloc rfl rfl ?_)) | ((with_reducible refine ros_store_new rfl rfl rfl rfl rfl ?_)) | ((with_reducible refine ros_load rfl rfl ?_); apply LoadRow.mk rfl; (focus (with_reducible exact P0.out)); (focus (exact ros_info))) | (go_at_call 41; ((with_reducible refine ((ct _).out).mono ?_); rintro e w1 ⟨rfl, hb⟩; have Q0 := Lib.hid ((P0.out.below hb P0.out.lt).alloc (.cells (Ros.cells (Ros.take r k p)) 51)); have Q1 := Lib.hid ((P1.out.below hb P1.out.lt).alloc (.cells (Ros.cells (Ros.take r k p)) 51)); have Q2 := Lib.hid ((P2.out.below hb P2.out.lt).alloc (.cells (Ros.cells (Ros.take r k p)) 51)); have QB := Lib.hid (PB.out.trans (hb.mono PB.out.size)); have q1 := Q1.out.cell; clear hb)))
  have N0 := Lib.hid (Box.made w1 51 (Ros.cells (Ros.take r k p)))
  have n0 := N0.out.cell
  have NB := Lib.hid (QB.out.alloc QB.out.size (.cells (Ros.cells (Ros.take r k p)) 51))
  go_quiet (fail)
  go_wp2_with (first | ((with_reducible refine ros_load rfl rfl ?_); apply LoadRow.mk rfl; (focus (with_reducible exact Q0.out.draws _)); (focus (exact ros_info))) | ((with_reducible refine ros_store rfl rfl ?_); apply StoreRow.mk rfl rfl; (focus (with_reducible exact Q2.out.draws _)); (focus (exact ros_info)); (focus rfl); (focus (exact ros_one _))))
  have hE := (Q2.out.draws nq).row (Ros.cells r)
  refine bodyPost_ret (v := .tuple #[.agg (Ros.cells r), .int .i64 1]) ?_ rfl ?_
  · exact results_cell_tmp (p := 4) (q := 5) rfl _ _ _ _ (Ros.cells r) _ rfl hE Try.underlying51 rfl ros_info
  · exact ⟨rfl, Below.setRow' (draws_below NB.out nq) (by omega) _⟩
set_option maxRecDepth 100000 in
set_option maxHeartbeats 2000000 in
theorem rosapply_join_no (r : Ros.R) (s g p : Int) (w : World) (h : ¬ Ros.MayTake r s p) :
    Calls Try.prog 45 #[.agg (Ros.cells r), .agg #[.int .i64 1, .int .i64 s, .int .i64 g, .int .i64 p]] w fun e w' => e = .returned (.tuple #[.agg (Ros.cells r), .int .i64 1]) ∧ Below w.heap.size w w' := by
  have ct := fun X => Lib.hid (rostake_no r s p X h)
  have P0 := Lib.hid (((Box.made w 51 (Ros.cells r)).alloc (.cells #[.int .i64 1, .int .i64 s, .int .i64 g, .int .i64 p] 81)).alloc (.cells (Ros.cells rosZero) 51))
  have P1 := Lib.hid ((Box.made_at (n := w.heap.size + 1) (w.alloc (.cells (Ros.cells r) 51)) 81 #[.int .i64 1, .int .i64 s, .int .i64 g, .int .i64 p] (by simp)).alloc (.cells (Ros.cells rosZero) 51))
  have P2 := Lib.hid (Box.made_at (n := w.heap.size + 1 + 1) ((w.alloc (.cells (Ros.cells r) 51)).alloc (.cells #[.int .i64 1, .int .i64 s, .int .i64 g, .int .i64 p] 81)) 51 (Ros.cells rosZero) (by simp))
  have PB := Lib.hid ((two_below' w (.cells (Ros.cells r) 51) (.cells #[.int .i64 1, .int .i64 s, .int .i64 g, .int .i64 p] 81)).alloc (by simp <;> omega) (.cells (Ros.cells rosZero) 51))
  clear h
  have p1 := P1.out.cell
  go_enter Try.func45, Try.ntmps45
  go_upto_region 4 with (first | ((with_reducible refine ros_alloc rfl rfl ?_)) | ((with_reducible refine ros_store_new rfl rfl rfl rfl rfl ?_)) | ((with_reducible refine ros_load rfl rfl ?_); apply LoadRow.mk rfl; (focus (with_reducible exact P0.out)); (focus (exact ros_info))) | (go_at_call 41; ((with_reducible refine ((ct _).out).mono ?_); rintro e w1 ⟨rfl, hb⟩; have Q0 := Lib.hid ((P0.out.below hb P0.out.lt).alloc (.cells (Ros.cells r) 51)); have Q1 := Lib.hid ((P1.out.below hb P1.out.lt).alloc (.cells (Ros.cells r) 51)); have Q2 := Lib.hid ((P2.out.below hb P2.out.lt).alloc (.cells (Ros.cells r) 51)); have QB := Lib.hid (PB.out.trans (hb.mono PB.out.size)); have q1 := Q1.out.cell; clear hb)))
  have NB := Lib.hid (QB.out.alloc QB.out.size (.cells (Ros.cells r) 51))
  go_quiet (fail)
  go_wp2_with (first | ((with_reducible refine ros_load rfl rfl ?_); apply LoadRow.mk rfl; (focus (with_reducible exact Q0.out.draws _)); (focus (exact ros_info))) | ((with_reducible refine ros_store rfl rfl ?_); apply StoreRow.mk rfl rfl; (focus (with_reducible exact Q2.out.draws _)); (focus (exact ros_info)); (focus rfl); (focus (exact ros_one _))))
  have hE := (Q2.out.draws nq).row (Ros.cells r)
  refine bodyPost_ret (v := .tuple #[.agg (Ros.cells r), .int .i64 1]) ?_ rfl ?_
  · exact results_cell_tmp (p := 4) (q := 5) rfl _ _ _ _ (Ros.cells r) _ rfl hE Try.underlying51 rfl ros_info
  · exact ⟨rfl, Below.setRow' (draws_below NB.out nq) (by omega) _⟩
set_option maxRecDepth 100000 in
set_option maxHeartbeats 2000000 in
theorem rosapply_leave_slot (r : Ros.R) (s g p : Int) (w : World) (h : ¬ (0 ≤ s ∧ s < 8)) :
    Calls Try.prog 45 #[.agg (Ros.cells r), .agg #[.int .i64 2, .int .i64 s, .int .i64 g, .int .i64 p]] w fun e w' => e = .returned (.tuple #[.agg (Ros.cells r), .int .i64 1]) ∧ Below w.heap.size w w' := by
  have cs := fun X => Lib.hid (rosslot_any s X)
  have P0 := Lib.hid (((Box.made w 51 (Ros.cells r)).alloc (.cells #[.int .i64 2, .int .i64 s, .int .i64 g, .int .i64 p] 81)).alloc (.cells (Ros.cells rosZero) 51))
  have P1 := Lib.hid ((Box.made_at (n := w.heap.size + 1) (w.alloc (.cells (Ros.cells r) 51)) 81 #[.int .i64 2, .int .i64 s, .int .i64 g, .int .i64 p] (by simp)).alloc (.cells (Ros.cells rosZero) 51))
  have P2 := Lib.hid (Box.made_at (n := w.heap.size + 1 + 1) ((w.alloc (.cells (Ros.cells r) 51)).alloc (.cells #[.int .i64 2, .int .i64 s, .int .i64 g, .int .i64 p] 81)) 51 (Ros.cells rosZero) (by simp))
  have PB := Lib.hid ((two_below' w (.cells (Ros.cells r) 51) (.cells #[.int .i64 2, .int .i64 s, .int .i64 g, .int .i64 p] 81)).alloc (by simp <;> omega) (.cells (Ros.cells rosZero) 51))
  rw [decide_eq_false h] at cs
  clear h
  have p0 := P0.out.cell
  have p1 := P1.out.cell
  go_enter Try.func45, Try.ntmps45
  go_upto_region 7 with (first | ((with_reducible refine ros_alloc rfl rfl ?_)) | ((with_reducible refine ros_store_new rfl rfl rfl rfl rfl ?_)))
  go_quiet ((go_at_call 89; with_reducible exact draws_left (cs _).out))
  go_wp2_with (first | ((with_reducible refine ros_load rfl rfl ?_); apply LoadRow.mk rfl; (focus (with_reducible exact P0.out.draws _)); (focus (exact ros_info))) | ((with_reducible refine ros_store rfl rfl ?_); apply StoreRow.mk rfl rfl; (focus (with_reducible exact P2.out.draws _)); (focus (exact ros_info)); (focus rfl); (focus (exact ros_one _))))
  have hE := (P2.out.draws nq).row (Ros.cells r)
  refine bodyPost_ret (v := .tuple #[.agg (Ros.cells r), .int .i64 1]) ?_ rfl ?_
  · exact results_cell_tmp (p := 4) (q := 5) rfl _ _ _ _ (Ros.cells r) _ rfl hE Try.underlying51 rfl ros_info
  · exact ⟨rfl, Below.setRow' (draws_below PB.out nq) (by omega) _⟩
theorem seat_eql (a b c d : Int) (w : World) : (binOp .eql 48 (.agg #[.int .i64 a, .int .i64 b]) (.agg #[.int .i64 c, .int .i64 d])).run Try.prog w = .ok (.bool (decide (a = c ∧ b = d))) w := by
  by_cases h1 : a = c
  · by_cases h2 : b = d
    · subst h1 h2; go_simp <;> simp
    · have h3 : (b == d) = false := by simpa using h2
      subst h1; go_simp <;> simp [h2]
  · have h3 : (a == c) = false := by simpa using h1
    go_simp <;> simp [h1]
set_option maxRecDepth 100000 in
set_option maxHeartbeats 2000000 in
theorem rosapply_leave_seat (r : Ros.R) (k : Nat) (g p : Int) (w : World) (hk : k < 8) (h : ¬ (r.peer k = p ∧ r.gen k = g)) :
    Calls Try.prog 45 #[.agg (Ros.cells r), .agg #[.int .i64 2, .int .i64 k, .int .i64 g, .int .i64 p]] w fun e w' => e = .returned (.tuple #[.agg (Ros.cells r), .int .i64 1]) ∧ Below w.heap.size w w' := by
  have cs := fun X => Lib.hid (rosslot_any k X)
  have P0 := Lib.hid (((Box.made w 51 (Ros.cells r)).alloc (.cells #[.int .i64 2, .int .i64 k, .int .i64 g, .int .i64 p] 81)).alloc (.cells (Ros.cells rosZero) 51))
  have P1 := Lib.hid ((Box.made_at (n := w.heap.size + 1) (w.alloc (.cells (Ros.cells r) 51)) 81 #[.int .i64 2, .int .i64 k, .int .i64 g, .int .i64 p] (by simp)).alloc (.cells (Ros.cells rosZero) 51))
  have P2 := Lib.hid (Box.made_at (n := w.heap.size + 1 + 1) ((w.alloc (.cells (Ros.cells r) 51)).alloc (.cells #[.int .i64 2, .int .i64 k, .int .i64 g, .int .i64 p] 81)) 51 (Ros.cells rosZero) (by simp))
  have PB := Lib.hid ((two_below' w (.cells (Ros.cells r) 51) (.cells #[.int .i64 2, .int .i64 k, .int .i64 g, .int .i64 p] 81)).alloc (by simp <;> omega) (.cells (Ros.cells rosZero) 51))
  have hk8 : (k : Int) < 8 := by omega
  rw [decide_eq_true (show (0 : Int) ≤ k ∧ (k : Int) < 8 from by omega)] at cs
  have cpk := Ros.cells_peer r k hk
  have cgk := Ros.cells_gen r k hk
  obtain ⟨pk, hpk⟩ : ∃ pk, r.peer k = pk := ⟨_, rfl⟩
  obtain ⟨gk, hgk⟩ : ∃ gk, r.gen k = gk := ⟨_, rfl⟩
  rw [hpk] at cpk h
  rw [hgk] at cgk h
  have he := fun W => seat_eql pk gk p g W
  simp only [decide_eq_false h] at he
  clear h hpk hgk
  have p0 := P0.out.cell
  have p1 := P1.out.cell
  go_enter Try.func45, Try.ntmps45
  go_upto_region 7 with (first | ((with_reducible refine ros_alloc rfl rfl ?_)) | ((with_reducible refine ros_store_new rfl rfl rfl rfl rfl ?_)))
  go_quiet ((go_at_call 89; with_reducible exact draws_left (cs _).out))
  go_wp2_with (first | ((with_reducible refine ros_load rfl rfl ?_); apply LoadRow.mk rfl; (focus (with_reducible exact P0.out.draws _)); (focus (exact ros_info))) | ((with_reducible refine ros_store rfl rfl ?_); apply StoreRow.mk rfl rfl; (focus (with_reducible exact P2.out.draws _)); (focus (exact ros_info)); (focus rfl); (focus (exact ros_one _))))
  have hE := (P2.out.draws nq).row (Ros.cells r)
  refine bodyPost_ret (v := .tuple #[.agg (Ros.cells r), .int .i64 1]) ?_ rfl ?_
  · exact results_cell_tmp (p := 4) (q := 5) rfl _ _ _ _ (Ros.cells r) _ rfl hE Try.underlying51 rfl ros_info
  · exact ⟨rfl, Below.setRow' (draws_below PB.out nq) (by omega) _⟩
set_option maxRecDepth 100000 in
set_option maxHeartbeats 2000000 in
theorem rosapply_leave_yes (r : Ros.R) (k : Nat) (w : World) (h : Ros.MayGive r k) (g p : Int) (hp : r.peer k = p) (hg : r.gen k = g) :
    Calls Try.prog 45 #[.agg (Ros.cells r), .agg #[.int .i64 2, .int .i64 k, .int .i64 g, .int .i64 p]] w fun e w' => e = .returned (.tuple #[.agg (Ros.cells (Ros.give r k)), .int .i64 0]) ∧ Below w.heap.size w w' := by
  have cs := fun X => Lib.hid (rosslot_any k X)
  have P0 := Lib.hid (((Box.made w 51 (Ros.cells r)).alloc (.cells #[.int .i64 2, .int .i64 k, .int .i64 g, .int .i64 p] 81)).alloc (.cells (Ros.cells rosZero) 51))
  have P1 := Lib.hid ((Box.made_at (n := w.heap.size + 1) (w.alloc (.cells (Ros.cells r) 51)) 81 #[.int .i64 2, .int .i64 k, .int .i64 g, .int .i64 p] (by simp)).alloc (.cells (Ros.cells rosZero) 51))
  have P2 := Lib.hid (Box.made_at (n := w.heap.size + 1 + 1) ((w.alloc (.cells (Ros.cells r) 51)).alloc (.cells #[.int .i64 2, .int .i64 k, .int .i64 g, .int .i64 p] 81)) 51 (Ros.cells rosZero) (by simp))
  have PB := Lib.hid ((two_below' w (.cells (Ros.cells r) 51) (.cells #[.int .i64 2, .int .i64 k, .int .i64 g, .int .i64 p] 81)).alloc (by simp <;> omega) (.cells (Ros.cells rosZero) 51))
  have hk : k < 8 := by have := h.1.2; omega
  have cg := fun X => Lib.hid (rosgive_yes r k X h)
  have hk8 : (k : Int) < 8 := by omega
  rw [decide_eq_true (show (0 : Int) ≤ k ∧ (k : Int) < 8 from by omega)] at cs
  have cpk := Ros.cells_peer r k hk
  have cgk := Ros.cells_gen r k hk
  rw [hp] at cpk
  rw [hg] at cgk
  have he := fun W => seat_eql p g p g W
  simp only [decide_eq_true (show p = p ∧ g = g from ⟨rfl, rfl⟩)] at he
  clear h hp hg
  have p0 := P0.out.cell
  have p1 := P1.out.cell
  go_enter Try.func45, Try.ntmps45
  go_upto_region 7 with (first | ((with_reducible refine ros_alloc rfl rfl ?_)) | ((with_reducible refine ros_store_new rfl rfl rfl rfl rfl ?_)))
  go_quiet ((go_at_call 89; with_reducible exact draws_left (cs _).out))
  go_wp2_with (first | ((with_reducible refine ros_load rfl rfl ?_); apply LoadRow.mk rfl; (focus (with_reducible exact P0.out.draws _)); (focus (exact ros_info))) | (go_at_call 40; ((with_reducible refine ((cg _).out).mono ?_); rintro e w1 ⟨rfl, hb⟩; have Q2 := Lib.hid ((P2.out.draws nq).below hb P2.out.lt); have QB := Lib.hid ((draws_below PB.out nq).trans (hb.mono PB.out.size)); clear hb)) | ((with_reducible refine ros_store rfl rfl ?_); apply StoreRow.mk rfl rfl; (focus (with_reducible exact Q2.out)); (focus (exact ros_info)); (focus rfl); (focus (exact ros_one _))))
  have hE := Q2.out.row (Ros.cells (Ros.give r k))
  refine bodyPost_ret (v := .tuple #[.agg (Ros.cells (Ros.give r k)), .int .i64 0]) ?_ rfl ?_
  · exact results_cell_tmp (p := 4) (q := 5) rfl _ _ _ _ (Ros.cells (Ros.give r k)) _ rfl hE Try.underlying51 rfl ros_info
  · exact ⟨rfl, Below.setRow' QB.out (by omega) _⟩
set_option maxRecDepth 100000 in
set_option maxHeartbeats 2000000 in
theorem rosapply_leave_no (r : Ros.R) (k : Nat) (w : World) (hk : k < 8) (h : ¬ Ros.MayGive r k) (g p : Int) (hp : r.peer k = p) (hg : r.gen k = g) :
    Calls Try.prog 45 #[.agg (Ros.cells r), .agg #[.int .i64 2, .int .i64 k, .int .i64 g, .int .i64 p]] w fun e w' => e = .returned (.tuple #[.agg (Ros.cells r), .int .i64 1]) ∧ Below w.heap.size w w' := by
  have cs := fun X => Lib.hid (rosslot_any k X)
  have P0 := Lib.hid (((Box.made w 51 (Ros.cells r)).alloc (.cells #[.int .i64 2, .int .i64 k, .int .i64 g, .int .i64 p] 81)).alloc (.cells (Ros.cells rosZero) 51))
  have P1 := Lib.hid ((Box.made_at (n := w.heap.size + 1) (w.alloc (.cells (Ros.cells r) 51)) 81 #[.int .i64 2, .int .i64 k, .int .i64 g, .int .i64 p] (by simp)).alloc (.cells (Ros.cells rosZero) 51))
  have P2 := Lib.hid (Box.made_at (n := w.heap.size + 1 + 1) ((w.alloc (.cells (Ros.cells r) 51)).alloc (.cells #[.int .i64 2, .int .i64 k, .int .i64 g, .int .i64 p] 81)) 51 (Ros.cells rosZero) (by simp))
  have PB := Lib.hid ((two_below' w (.cells (Ros.cells r) 51) (.cells #[.int .i64 2, .int .i64 k, .int .i64 g, .int .i64 p] 81)).alloc (by simp <;> omega) (.cells (Ros.cells rosZero) 51))
  have cg := fun X => Lib.hid (rosgive_no r k X h)
  have hk8 : (k : Int) < 8 := by omega
  rw [decide_eq_true (show (0 : Int) ≤ k ∧ (k : Int) < 8 from by omega)] at cs
  have cpk := Ros.cells_peer r k hk
  have cgk := Ros.cells_gen r k hk
  rw [hp] at cpk
  rw [hg] at cgk
  have he := fun W => seat_eql p g p g W
  simp only [decide_eq_true (show p = p ∧ g = g from ⟨rfl, rfl⟩)] at he
  clear h hp hg
  have p0 := P0.out.cell
  have p1 := P1.out.cell
  go_enter Try.func45, Try.ntmps45
  go_upto_region 7 with (first | ((with_reducible refine ros_alloc rfl rfl ?_)) | ((with_reducible refine ros_store_new rfl rfl rfl rfl rfl ?_)))
  go_quiet ((go_at_call 89; with_reducible exact draws_left (cs _).out))
  go_wp2_with (first | ((with_reducible refine ros_load rfl rfl ?_); apply LoadRow.mk rfl; (focus (with_reducible exact P0.out.draws _)); (focus (exact ros_info))) | (go_at_call 40; ((with_reducible refine ((cg _).out).mono ?_); rintro e w1 ⟨rfl, hb⟩; have Q2 := Lib.hid ((P2.out.draws nq).below hb P2.out.lt); have QB := Lib.hid ((draws_below PB.out nq).trans (hb.mono PB.out.size)); clear hb)) | ((with_reducible refine ros_store rfl rfl ?_); apply StoreRow.mk rfl rfl; (focus (with_reducible exact Q2.out)); (focus (exact ros_info)); (focus rfl); (focus (exact ros_one _))))
  have hE := Q2.out.row (Ros.cells r)
  refine bodyPost_ret (v := .tuple #[.agg (Ros.cells r), .int .i64 1]) ?_ rfl ?_
  · exact results_cell_tmp (p := 4) (q := 5) rfl _ _ _ _ (Ros.cells r) _ rfl hE Try.underlying51 rfl ros_info
  · exact ⟨rfl, Below.setRow' QB.out (by omega) _⟩
set_option maxRecDepth 100000 in
set_option maxHeartbeats 2000000 in
theorem rosapply_other (r : Ros.R) (q s g p : Int) (w : World) (h1 : q ≠ 1) (h2 : q ≠ 2) :
    Calls Try.prog 45 #[.agg (Ros.cells r), .agg #[.int .i64 q, .int .i64 s, .int .i64 g, .int .i64 p]] w fun e w' => e = .returned (.tuple #[.agg (Ros.cells r), .int .i64 1]) ∧ Below w.heap.size w w' := by
  have P0 := Lib.hid (((Box.made w 51 (Ros.cells r)).alloc (.cells #[.int .i64 q, .int .i64 s, .int .i64 g, .int .i64 p] 81)).alloc (.cells (Ros.cells rosZero) 51))
  have P1 := Lib.hid ((Box.made_at (n := w.heap.size + 1) (w.alloc (.cells (Ros.cells r) 51)) 81 #[.int .i64 q, .int .i64 s, .int .i64 g, .int .i64 p] (by simp)).alloc (.cells (Ros.cells rosZero) 51))
  have P2 := Lib.hid (Box.made_at (n := w.heap.size + 1 + 1) ((w.alloc (.cells (Ros.cells r) 51)).alloc (.cells #[.int .i64 q, .int .i64 s, .int .i64 g, .int .i64 p] 81)) 51 (Ros.cells rosZero) (by simp))
  have PB := Lib.hid ((two_below' w (.cells (Ros.cells r) 51) (.cells #[.int .i64 q, .int .i64 s, .int .i64 g, .int .i64 p] 81)).alloc (by simp <;> omega) (.cells (Ros.cells rosZero) 51))
  have b1 : (q == 1) = false := by simpa using h1
  have b2 : (q == 2) = false := by simpa using h2
  clear h1 h2
  have p1 := P1.out.cell
  go_enter Try.func45, Try.ntmps45
  go_wp2_with (first | ((with_reducible refine ros_alloc rfl rfl ?_)) | ((with_reducible refine ros_store_new rfl rfl rfl rfl rfl ?_)) | ((with_reducible refine ros_load rfl rfl ?_); apply LoadRow.mk rfl; (focus (with_reducible exact P0.out)); (focus (exact ros_info))) | ((with_reducible refine ros_store rfl rfl ?_); apply StoreRow.mk rfl rfl; (focus (with_reducible exact P2.out)); (focus (exact ros_info)); (focus rfl); (focus (exact ros_one _))))
  have hE := P2.out.row (Ros.cells r)
  refine bodyPost_ret (v := .tuple #[.agg (Ros.cells r), .int .i64 1]) ?_ rfl ?_
  · exact results_cell_tmp (p := 4) (q := 5) rfl _ _ _ _ (Ros.cells r) _ rfl hE Try.underlying51 rfl ros_info
  · exact ⟨rfl, Below.setRow' PB.out (by omega) _⟩
end Go.Proofs.Ytbpipkcdbcfenaa
