/-
Several texts in one: Th Sc So Sd Se Sf Sg Ol Ls Sh Sj.
-/
import Derived.Test.YtbdlpbnfcnhajaaGreatRm9
set_option maxRecDepth 100000
set_option maxHeartbeats 8000000
set_option linter.unusedVariables false
set_option linter.unusedSimpArgs false
namespace Go.Proofs.YtbdlpbnfcnhajaaGreat
open Go.RowKit Go.Shelf
theorem rosapply_join_yes (r : Ros.R) (k : Nat) (g p : Int) (w : World) (h : Ros.MayTake r k p) (hg : g = r.gen k + 1) :
 Calls Tryz.prog 96 #[.agg (Ros.cells r), .agg #[.int .i64 1, .int .i64 k, .int .i64 g, .int .i64 p]] w fun e w' => e = .returned (.tuple #[.agg (Ros.cells (Ros.take r k p)), .int .i64 0]) ∧ Below w.heap.size w w' := by
 have ct := fun X => qh (rostake_yes r k p X h)
 have P0 := qh (((Box.made w 38 (Ros.cells r)).alloc (.cells #[.int .i64 1, .int .i64 k, .int .i64 g, .int .i64 p] 79)).alloc (.cells (Ros.cells rosZero) 38))
 have P1 := qh ((Box.made_at (n := w.heap.size + 1) (w.alloc (.cells (Ros.cells r) 38)) 79 #[.int .i64 1, .int .i64 k, .int .i64 g, .int .i64 p] (by simp)).alloc (.cells (Ros.cells rosZero) 38))
 have P2 := qh (Box.made_at (n := w.heap.size + 1 + 1) ((w.alloc (.cells (Ros.cells r) 38)).alloc (.cells #[.int .i64 1, .int .i64 k, .int .i64 g, .int .i64 p] 79)) 38 (Ros.cells rosZero) (by simp))
 have PB := qh ((two_below' w (.cells (Ros.cells r) 38) (.cells #[.int .i64 1, .int .i64 k, .int .i64 g, .int .i64 p] 79)).alloc (by simp <;> omega) (.cells (Ros.cells rosZero) 38))
 have hk : k < 8 := by have := h.1.1.2; omega
 have hk8 : (k : Int) < 8 := by omega
 have cgk := Ros.cells_gen (Ros.take r k p) k hk
 rw [show (Ros.take r k p).gen k = r.gen k + 1 from Ros.upd_same _ _ _] at cgk
 obtain ⟨g', hg'⟩ : ∃ g', g' = r.gen k + 1 := ⟨_, rfl⟩
 rw [← hg'] at cgk hg
 subst hg
 clear h hg'
 have p1 := P1.out.cell
 go_enter Tryz.func96, Tryz.ntmps96
 go_upto_region 4 with (first | ((with_reducible refine ros_alloc rfl rfl ?_)) | ((with_reducible refine ros_store_new rfl rfl rfl rfl rfl ?_)) | ((with_reducible refine ros_load rfl rfl ?_); apply LoadRow.mk rfl; (focus (with_reducible exact P0.out)); (focus (exact ros_info))) | (go_at_call 122; ((with_reducible refine ((ct _).out).mono ?_); rintro e w1 ⟨rfl, hb⟩; have Q0 := qh ((P0.out.below hb P0.out.lt).alloc (.cells (Ros.cells (Ros.take r k p)) 38)); have Q1 := qh ((P1.out.below hb P1.out.lt).alloc (.cells (Ros.cells (Ros.take r k p)) 38)); have Q2 := qh ((P2.out.below hb P2.out.lt).alloc (.cells (Ros.cells (Ros.take r k p)) 38)); have QB := qh (PB.out.trans (hb.mono PB.out.size)); have q1 := Q1.out.cell; clear hb)))
 have N0 := qh (Box.made w1 38 (Ros.cells (Ros.take r k p)))
 have n0 := N0.out.cell
 have NB := qh (QB.out.alloc QB.out.size (.cells (Ros.cells (Ros.take r k p)) 38))
 go_quiet (fail)
 go_wp2_with (first | ((with_reducible refine ros_load rfl rfl ?_); apply LoadRow.mk rfl; (focus (with_reducible exact N0.out.draws _)); (focus (exact ros_info))) | ((with_reducible refine ros_store rfl rfl ?_); apply StoreRow.mk rfl rfl; (focus (with_reducible exact Q2.out.draws _)); (focus (exact ros_info)); (focus rfl); (focus (exact ros_one _))))
 have hE := (Q2.out.draws nq).row (Ros.cells (Ros.take r k p))
 refine bodyPost_ret (v := .tuple #[.agg (Ros.cells (Ros.take r k p)), .int .i64 0]) ?_ rfl ?_
 · exact results_cell_tmp (p := 4) (q := 5) rfl _ _ _ _ (Ros.cells (Ros.take r k p)) _ rfl hE Tryz.underlying38 rfl ros_info
 · exact ⟨rfl, Below.setRow' (draws_below NB.out nq) (by omega) _⟩
theorem rosapply_join_gen (r : Ros.R) (k : Nat) (g p : Int) (w : World) (h : Ros.MayTake r k p) (hg : g ≠ r.gen k + 1) :
 Calls Tryz.prog 96 #[.agg (Ros.cells r), .agg #[.int .i64 1, .int .i64 k, .int .i64 g, .int .i64 p]] w fun e w' => e = .returned (.tuple #[.agg (Ros.cells r), .int .i64 1]) ∧ Below w.heap.size w w' := by
 have ct := fun X => qh (rostake_yes r k p X h)
 have P0 := qh (((Box.made w 38 (Ros.cells r)).alloc (.cells #[.int .i64 1, .int .i64 k, .int .i64 g, .int .i64 p] 79)).alloc (.cells (Ros.cells rosZero) 38))
 have P1 := qh ((Box.made_at (n := w.heap.size + 1) (w.alloc (.cells (Ros.cells r) 38)) 79 #[.int .i64 1, .int .i64 k, .int .i64 g, .int .i64 p] (by simp)).alloc (.cells (Ros.cells rosZero) 38))
 have P2 := qh (Box.made_at (n := w.heap.size + 1 + 1) ((w.alloc (.cells (Ros.cells r) 38)).alloc (.cells #[.int .i64 1, .int .i64 k, .int .i64 g, .int .i64 p] 79)) 38 (Ros.cells rosZero) (by simp))
 have PB := qh ((two_below' w (.cells (Ros.cells r) 38) (.cells #[.int .i64 1, .int .i64 k, .int .i64 g, .int .i64 p] 79)).alloc (by simp <;> omega) (.cells (Ros.cells rosZero) 38))
 have hk : k < 8 := by have := h.1.1.2; omega
 have hk8 : (k : Int) < 8 := by omega
 have cgk := Ros.cells_gen (Ros.take r k p) k hk
 rw [show (Ros.take r k p).gen k = r.gen k + 1 from Ros.upd_same _ _ _] at cgk
 obtain ⟨g', hg'⟩ : ∃ g', g' = r.gen k + 1 := ⟨_, rfl⟩
 rw [← hg'] at cgk hg
 have hb : (g' == g) = false := by simp; omega
 clear h hg'
 have p1 := P1.out.cell
 go_enter Tryz.func96, Tryz.ntmps96
 go_upto_region 4 with (first | ((with_reducible refine ros_alloc rfl rfl ?_)) | ((with_reducible refine ros_store_new rfl rfl rfl rfl rfl ?_)) | ((with_reducible refine ros_load rfl rfl ?_); apply LoadRow.mk rfl; (focus (with_reducible exact P0.out)); (focus (exact ros_info))) | (go_at_call 122; ((with_reducible refine ((ct _).out).mono ?_); rintro e w1 ⟨rfl, hb⟩; have Q0 := qh ((P0.out.below hb P0.out.lt).alloc (.cells (Ros.cells (Ros.take r k p)) 38)); have Q1 := qh ((P1.out.below hb P1.out.lt).alloc (.cells (Ros.cells (Ros.take r k p)) 38)); have Q2 := qh ((P2.out.below hb P2.out.lt).alloc (.cells (Ros.cells (Ros.take r k p)) 38)); have QB := qh (PB.out.trans (hb.mono PB.out.size)); have q1 := Q1.out.cell; clear hb)))
 have N0 := qh (Box.made w1 38 (Ros.cells (Ros.take r k p)))
 have n0 := N0.out.cell
 have NB := qh (QB.out.alloc QB.out.size (.cells (Ros.cells (Ros.take r k p)) 38))
 go_quiet (fail)
 go_wp2_with (first | ((with_reducible refine ros_load rfl rfl ?_); apply LoadRow.mk rfl; (focus (with_reducible exact Q0.out.draws _)); (focus (exact ros_info))) | ((with_reducible refine ros_store rfl rfl ?_); apply StoreRow.mk rfl rfl; (focus (with_reducible exact Q2.out.draws _)); (focus (exact ros_info)); (focus rfl); (focus (exact ros_one _))))
 have hE := (Q2.out.draws nq).row (Ros.cells r)
 refine bodyPost_ret (v := .tuple #[.agg (Ros.cells r), .int .i64 1]) ?_ rfl ?_
 · exact results_cell_tmp (p := 4) (q := 5) rfl _ _ _ _ (Ros.cells r) _ rfl hE Tryz.underlying38 rfl ros_info
 · exact ⟨rfl, Below.setRow' (draws_below NB.out nq) (by omega) _⟩
theorem rosapply_join_no (r : Ros.R) (s g p : Int) (w : World) (h : ¬ Ros.MayTake r s p) :
 Calls Tryz.prog 96 #[.agg (Ros.cells r), .agg #[.int .i64 1, .int .i64 s, .int .i64 g, .int .i64 p]] w fun e w' => e = .returned (.tuple #[.agg (Ros.cells r), .int .i64 1]) ∧ Below w.heap.size w w' := by
 have ct := fun X => qh (rostake_no r s p X h)
 have P0 := qh (((Box.made w 38 (Ros.cells r)).alloc (.cells #[.int .i64 1, .int .i64 s, .int .i64 g, .int .i64 p] 79)).alloc (.cells (Ros.cells rosZero) 38))
 have P1 := qh ((Box.made_at (n := w.heap.size + 1) (w.alloc (.cells (Ros.cells r) 38)) 79 #[.int .i64 1, .int .i64 s, .int .i64 g, .int .i64 p] (by simp)).alloc (.cells (Ros.cells rosZero) 38))
 have P2 := qh (Box.made_at (n := w.heap.size + 1 + 1) ((w.alloc (.cells (Ros.cells r) 38)).alloc (.cells #[.int .i64 1, .int .i64 s, .int .i64 g, .int .i64 p] 79)) 38 (Ros.cells rosZero) (by simp))
 have PB := qh ((two_below' w (.cells (Ros.cells r) 38) (.cells #[.int .i64 1, .int .i64 s, .int .i64 g, .int .i64 p] 79)).alloc (by simp <;> omega) (.cells (Ros.cells rosZero) 38))
 clear h
 have p1 := P1.out.cell
 go_enter Tryz.func96, Tryz.ntmps96
 go_upto_region 4 with (first | ((with_reducible refine ros_alloc rfl rfl ?_)) | ((with_reducible refine ros_store_new rfl rfl rfl rfl rfl ?_)) | ((with_reducible refine ros_load rfl rfl ?_); apply LoadRow.mk rfl; (focus (with_reducible exact P0.out)); (focus (exact ros_info))) | (go_at_call 122; ((with_reducible refine ((ct _).out).mono ?_); rintro e w1 ⟨rfl, hb⟩; have Q0 := qh ((P0.out.below hb P0.out.lt).alloc (.cells (Ros.cells r) 38)); have Q1 := qh ((P1.out.below hb P1.out.lt).alloc (.cells (Ros.cells r) 38)); have Q2 := qh ((P2.out.below hb P2.out.lt).alloc (.cells (Ros.cells r) 38)); have QB := qh (PB.out.trans (hb.mono PB.out.size)); have q1 := Q1.out.cell; clear hb)))
 have NB := qh (QB.out.alloc QB.out.size (.cells (Ros.cells r) 38))
 go_quiet (fail)
 go_wp2_with (first | ((with_reducible refine ros_load rfl rfl ?_); apply LoadRow.mk rfl; (focus (with_reducible exact Q0.out.draws _)); (focus (exact ros_info))) | ((with_reducible refine ros_store rfl rfl ?_); apply StoreRow.mk rfl rfl; (focus (with_reducible exact Q2.out.draws _)); (focus (exact ros_info)); (focus rfl); (focus (exact ros_one _))))
 have hE := (Q2.out.draws nq).row (Ros.cells r)
 refine bodyPost_ret (v := .tuple #[.agg (Ros.cells r), .int .i64 1]) ?_ rfl ?_
 · exact results_cell_tmp (p := 4) (q := 5) rfl _ _ _ _ (Ros.cells r) _ rfl hE Tryz.underlying38 rfl ros_info
 · exact ⟨rfl, Below.setRow' (draws_below NB.out nq) (by omega) _⟩
theorem seat_eql (a b c d : Int) (w : World) : (binOp .eql 35 (.agg #[.int .i64 a, .int .i64 b]) (.agg #[.int .i64 c, .int .i64 d])).run Tryz.prog w = .ok (.bool (decide (a = c ∧ b = d))) w := by
 by_cases h1 : a = c
 · by_cases h2 : b = d
   · subst h1 h2; go_simp <;> simp
   · have h3 : (b == d) = false := by simpa using h2
     subst h1; go_simp <;> simp [h2]
 · have h3 : (a == c) = false := by simpa using h1
   go_simp <;> simp [h1]
theorem rosapply_leave_seat (r : Ros.R) (k : Nat) (g p : Int) (w : World) (hk : k < 8) (h : ¬ (r.peer k = p ∧ r.gen k = g)) :
 Calls Tryz.prog 96 #[.agg (Ros.cells r), .agg #[.int .i64 2, .int .i64 k, .int .i64 g, .int .i64 p]] w fun e w' => e = .returned (.tuple #[.agg (Ros.cells r), .int .i64 1]) ∧ Below w.heap.size w w' := by
 have cs := fun X => qh (rosslot_any k X)
 have P0 := qh (((Box.made w 38 (Ros.cells r)).alloc (.cells #[.int .i64 2, .int .i64 k, .int .i64 g, .int .i64 p] 79)).alloc (.cells (Ros.cells rosZero) 38))
 have P1 := qh ((Box.made_at (n := w.heap.size + 1) (w.alloc (.cells (Ros.cells r) 38)) 79 #[.int .i64 2, .int .i64 k, .int .i64 g, .int .i64 p] (by simp)).alloc (.cells (Ros.cells rosZero) 38))
 have P2 := qh (Box.made_at (n := w.heap.size + 1 + 1) ((w.alloc (.cells (Ros.cells r) 38)).alloc (.cells #[.int .i64 2, .int .i64 k, .int .i64 g, .int .i64 p] 79)) 38 (Ros.cells rosZero) (by simp))
 have PB := qh ((two_below' w (.cells (Ros.cells r) 38) (.cells #[.int .i64 2, .int .i64 k, .int .i64 g, .int .i64 p] 79)).alloc (by simp <;> omega) (.cells (Ros.cells rosZero) 38))
 have hk8 : (k : Int) < 8 := by omega
 rw [decide_eq_true (show (0 : Int) ≤ k ∧ (k : Int) < 8 from by omega)] at cs
 have cpk := Ros.cells_peer r k hk
 have cgk := Ros.cells_gen r k hk
 obtain ⟨pk, hpk⟩ : ∃ pk, r.peer k = pk := ⟨_, rfl⟩
 obtain ⟨gk, hgk⟩ : ∃ gk, r.gen k = gk := ⟨_, rfl⟩
 rw [hpk] at cpk h
 rw [hgk] at cgk h
 have he := fun W => seat_eql pk gk p g W
 simp only [decide_eq_false h] at he
 clear h hpk hgk
 have p0 := P0.out.cell
 have p1 := P1.out.cell
 go_enter Tryz.func96, Tryz.ntmps96
 go_upto_region 7 with (first | ((with_reducible refine ros_alloc rfl rfl ?_)) | ((with_reducible refine ros_store_new rfl rfl rfl rfl rfl ?_)))
 go_quiet ((go_at_call 123; with_reducible exact draws_left (cs _).out))
 go_wp2_with (first | ((with_reducible refine ros_load rfl rfl ?_); apply LoadRow.mk rfl; (focus (with_reducible exact P0.out.draws _)); (focus (exact ros_info))) | ((with_reducible refine ros_store rfl rfl ?_); apply StoreRow.mk rfl rfl; (focus (with_reducible exact P2.out.draws _)); (focus (exact ros_info)); (focus rfl); (focus (exact ros_one _))))
 have hE := (P2.out.draws nq).row (Ros.cells r)
 refine bodyPost_ret (v := .tuple #[.agg (Ros.cells r), .int .i64 1]) ?_ rfl ?_
 · exact results_cell_tmp (p := 4) (q := 5) rfl _ _ _ _ (Ros.cells r) _ rfl hE Tryz.underlying38 rfl ros_info
 · exact ⟨rfl, Below.setRow' (draws_below PB.out nq) (by omega) _⟩
theorem rosapply_leave_yes (r : Ros.R) (k : Nat) (w : World) (h : Ros.MayGive r k) (g p : Int) (hp : r.peer k = p) (hg : r.gen k = g) :
 Calls Tryz.prog 96 #[.agg (Ros.cells r), .agg #[.int .i64 2, .int .i64 k, .int .i64 g, .int .i64 p]] w fun e w' => e = .returned (.tuple #[.agg (Ros.cells (Ros.give r k)), .int .i64 0]) ∧ Below w.heap.size w w' := by
 have cs := fun X => qh (rosslot_any k X)
 have P0 := qh (((Box.made w 38 (Ros.cells r)).alloc (.cells #[.int .i64 2, .int .i64 k, .int .i64 g, .int .i64 p] 79)).alloc (.cells (Ros.cells rosZero) 38))
 have P1 := qh ((Box.made_at (n := w.heap.size + 1) (w.alloc (.cells (Ros.cells r) 38)) 79 #[.int .i64 2, .int .i64 k, .int .i64 g, .int .i64 p] (by simp)).alloc (.cells (Ros.cells rosZero) 38))
 have P2 := qh (Box.made_at (n := w.heap.size + 1 + 1) ((w.alloc (.cells (Ros.cells r) 38)).alloc (.cells #[.int .i64 2, .int .i64 k, .int .i64 g, .int .i64 p] 79)) 38 (Ros.cells rosZero) (by simp))
 have PB := qh ((two_below' w (.cells (Ros.cells r) 38) (.cells #[.int .i64 2, .int .i64 k, .int .i64 g, .int .i64 p] 79)).alloc (by simp <;> omega) (.cells (Ros.cells rosZero) 38))
 have hk : k < 8 := by have := h.1.2; omega
 have cg := fun X => qh (rosgive_yes r k X h)
 have hk8 : (k : Int) < 8 := by omega
 rw [decide_eq_true (show (0 : Int) ≤ k ∧ (k : Int) < 8 from by omega)] at cs
 have cpk := Ros.cells_peer r k hk
 have cgk := Ros.cells_gen r k hk
 rw [hp] at cpk
 rw [hg] at cgk
 have he := fun W => seat_eql p g p g W
 simp only [decide_eq_true (show p = p ∧ g = g from ⟨rfl, rfl⟩)] at he
 clear h hp hg
 have p0 := P0.out.cell
 have p1 := P1.out.cell
 go_enter Tryz.func96, Tryz.ntmps96
 go_upto_region 7 with (first | ((with_reducible refine ros_alloc rfl rfl ?_)) | ((with_reducible refine ros_store_new rfl rfl rfl rfl rfl ?_)))
 go_quiet ((go_at_call 123; with_reducible exact draws_left (cs _).out))
 go_wp2_with (first | ((with_reducible refine ros_load rfl rfl ?_); apply LoadRow.mk rfl; (focus (with_reducible exact P0.out.draws _)); (focus (exact ros_info))) | (go_at_call 124; ((with_reducible refine ((cg _).out).mono ?_); rintro e w1 ⟨rfl, hb⟩; have Q2 := qh ((P2.out.draws nq).below hb P2.out.lt); have QB := qh ((draws_below PB.out nq).trans (hb.mono PB.out.size)); clear hb)) | ((with_reducible refine ros_store rfl rfl ?_); apply StoreRow.mk rfl rfl; (focus (with_reducible exact Q2.out)); (focus (exact ros_info)); (focus rfl); (focus (exact ros_one _))))
 have hE := Q2.out.row (Ros.cells (Ros.give r k))
 refine bodyPost_ret (v := .tuple #[.agg (Ros.cells (Ros.give r k)), .int .i64 0]) ?_ rfl ?_
 · exact results_cell_tmp (p := 4) (q := 5) rfl _ _ _ _ (Ros.cells (Ros.give r k)) _ rfl hE Tryz.underlying38 rfl ros_info
 · exact ⟨rfl, Below.setRow' QB.out (by omega) _⟩
theorem rosapply_leave_no (r : Ros.R) (k : Nat) (w : World) (hk : k < 8) (h : ¬ Ros.MayGive r k) (g p : Int) (hp : r.peer k = p) (hg : r.gen k = g) :
 Calls Tryz.prog 96 #[.agg (Ros.cells r), .agg #[.int .i64 2, .int .i64 k, .int .i64 g, .int .i64 p]] w fun e w' => e = .returned (.tuple #[.agg (Ros.cells r), .int .i64 1]) ∧ Below w.heap.size w w' := by
 have cs := fun X => qh (rosslot_any k X)
 have P0 := qh (((Box.made w 38 (Ros.cells r)).alloc (.cells #[.int .i64 2, .int .i64 k, .int .i64 g, .int .i64 p] 79)).alloc (.cells (Ros.cells rosZero) 38))
 have P1 := qh ((Box.made_at (n := w.heap.size + 1) (w.alloc (.cells (Ros.cells r) 38)) 79 #[.int .i64 2, .int .i64 k, .int .i64 g, .int .i64 p] (by simp)).alloc (.cells (Ros.cells rosZero) 38))
 have P2 := qh (Box.made_at (n := w.heap.size + 1 + 1) ((w.alloc (.cells (Ros.cells r) 38)).alloc (.cells #[.int .i64 2, .int .i64 k, .int .i64 g, .int .i64 p] 79)) 38 (Ros.cells rosZero) (by simp))
 have PB := qh ((two_below' w (.cells (Ros.cells r) 38) (.cells #[.int .i64 2, .int .i64 k, .int .i64 g, .int .i64 p] 79)).alloc (by simp <;> omega) (.cells (Ros.cells rosZero) 38))
 have cg := fun X => qh (rosgive_no r k X h)
 have hk8 : (k : Int) < 8 := by omega
 rw [decide_eq_true (show (0 : Int) ≤ k ∧ (k : Int) < 8 from by omega)] at cs
 have cpk := Ros.cells_peer r k hk
 have cgk := Ros.cells_gen r k hk
 rw [hp] at cpk
 rw [hg] at cgk
 have he := fun W => seat_eql p g p g W
 simp only [decide_eq_true (show p = p ∧ g = g from ⟨rfl, rfl⟩)] at he
 clear h hp hg
 have p0 := P0.out.cell
 have p1 := P1.out.cell
 go_enter Tryz.func96, Tryz.ntmps96
 go_upto_region 7 with (first | ((with_reducible refine ros_alloc rfl rfl ?_)) | ((with_reducible refine ros_store_new rfl rfl rfl rfl rfl ?_)))
 go_quiet ((go_at_call 123; with_reducible exact draws_left (cs _).out))
 go_wp2_with (first | ((with_reducible refine ros_load rfl rfl ?_); apply LoadRow.mk rfl; (focus (with_reducible exact P0.out.draws _)); (focus (exact ros_info))) | (go_at_call 124; ((with_reducible refine ((cg _).out).mono ?_); rintro e w1 ⟨rfl, hb⟩; have Q2 := qh ((P2.out.draws nq).below hb P2.out.lt); have QB := qh ((draws_below PB.out nq).trans (hb.mono PB.out.size)); clear hb)) | ((with_reducible refine ros_store rfl rfl ?_); apply StoreRow.mk rfl rfl; (focus (with_reducible exact Q2.out)); (focus (exact ros_info)); (focus rfl); (focus (exact ros_one _))))
 have hE := Q2.out.row (Ros.cells r)
 refine bodyPost_ret (v := .tuple #[.agg (Ros.cells r), .int .i64 1]) ?_ rfl ?_
 · exact results_cell_tmp (p := 4) (q := 5) rfl _ _ _ _ (Ros.cells r) _ rfl hE Tryz.underlying38 rfl ros_info
 · exact ⟨rfl, Below.setRow' QB.out (by omega) _⟩
theorem ev4_size : (Tryz.prog.info? 79).map (·.size) = some (#[.int .i64 0, .int .i64 0, .int .i64 0, .int .i64 0] : Array Value).size := by kernel_rfl
theorem rosapply_fail (s : Fd.S) (v : En.Ev) (w : World) (hv : En.evOk v) (hno : ¬ Fd.MayEv s v) :
 Calls Tryz.prog 96 #[.agg (Ros.cells s.r), .agg #[.int .i64 v.kind, .int .i64 v.slot, .int .i64 v.gen, .int .i64 v.peer]] w fun e w' => e = .returned (.tuple #[.agg (Ros.cells s.r), .int .i64 1]) ∧ Below w.heap.size w w' := by
 obtain ⟨q, sl, gn, pe⟩ := v
 obtain ⟨hk, hs, hg, hp⟩ := hv
 dsimp only at *
 obtain ⟨k, rfl⟩ : ∃ k : Nat, sl = k := ⟨sl.toNat, by omega⟩
 have hk8 : k < 8 := by omega
 rcases hk with rfl | rfl
 · by_cases h1 : s.r.peer k = pe ∧ s.r.gen k = gn
   · refine rosapply_leave_no s.r k w hk8 (fun h => hno (.inr ⟨rfl, h, by simpa using h1.1, by simpa using h1.2⟩)) gn pe h1.1 h1.2
   · exact rosapply_leave_seat s.r k gn pe w hk8 h1
 · by_cases h1 : Ros.MayTake s.r k pe
   · exact rosapply_join_gen s.r k gn pe w h1 (fun h => hno (.inl ⟨rfl, h1, by simpa using h⟩))
   · exact rosapply_join_no s.r k gn pe w h1
theorem change_no (s : Fd.S) (v : En.Ev) (A : Option Addr) (n c : Nat) (w : World) (hv : En.evOk v) (hno : ¬ Fd.MayEv s v) :
 Calls Tryz.prog 75 #[.agg (Im.cells s.g (.slice A n c) s.r), .agg #[.int .i64 v.kind, .int .i64 v.slot, .int .i64 v.gen, .int .i64 v.peer]] w (Thrown 1 w) := by
 have ca := fun X => qh (rosapply_fail s v X hv hno)
 have cn := fun X => qh (need_throws X)
 obtain ⟨q, sl, gn, pe⟩ := v
 obtain ⟨g, r⟩ := s
 dsimp only at *
 clear hv hno
 obtain ⟨C, hC⟩ : ∃ C, C = Im.cells g (.slice A n c) r := ⟨_, rfl⟩
 have P0 := qh ((((Box.made w 40 (Im.cells g (.slice A n c) r)).alloc (.cells #[.int .i64 q, .int .i64 sl, .int .i64 gn, .int .i64 pe] 79))).alloc (.cells Im.zero 40))
 have E0 := qh ((Box.made_at (n := w.heap.size + 1) (w.alloc (.cells (Im.cells g (.slice A n c) r) 40)) 79 #[.int .i64 q, .int .i64 sl, .int .i64 gn, .int .i64 pe] (by simp)).alloc (.cells Im.zero 40))
 have K0 := qh ((two_below' w (.cells (Im.cells g (.slice A n c) r) 40) (.cells #[.int .i64 q, .int .i64 sl, .int .i64 gn, .int .i64 pe] 79)).alloc (by simp <;> omega) (.cells Im.zero 40))
 go_enter Tryz.func75, Tryz.ntmps75
 go_wp2_with (first | (with_reducible refine alloc_state rfl rfl ?_) | ((with_reducible refine im_load_ros rfl rfl ?_); apply LoadIm.mk rfl; (focus (with_reducible exact P0.out)); dsimp only) | ((with_reducible refine row_load rfl rfl Tryz.underlying79 rfl ?_); apply LoadRow.mk rfl; (focus (with_reducible exact E0.out)); (focus (exact ev4_size))) | (go_at_call 96; ((with_reducible refine ((ca _).out).mono ?_); rintro e w1 ⟨rfl, hb⟩; have K1 := qh (K0.out.trans (hb.mono K0.out.size)); clear hb)) | (with_reducible refine ros_alloc rfl rfl ?_) | ((with_reducible refine ros_store_new rfl rfl rfl rfl rfl ?_)) | (go_at_call 77; ((with_reducible refine ((cn _).out).mono ?_); rintro e w2 ⟨rfl, hb⟩; have K2 := qh ((K1.out.alloc K1.out.size (.cells (Ros.cells r) 38)).trans (hb.mono (K1.out.alloc K1.out.size (.cells (Ros.cells r) 38)).size)); clear hb)))
 exact ⟨rfl, rfl, K2.out⟩
open Go.RowKit
def stateTags : List Nat := gameTags ++ List.replicate 17 1
theorem state_tags (g : Gm.G) (A : Option Addr) (n c : Nat) (r : Ros.R) (o : Nat) : ((Im.cells g (.slice A n c) r)[o]?).map tagV = stateTags[o]? := by
 rw [show (Im.cells g (.slice A n c) r)[o]? = ((([Value.int .i64 g.frame, Value.int .u64 g.dice] ++ Gm.shipCells g.ship ++ [Value.slice A n c]) ++ (Value.int .i64 r.version :: Ros.seatCells r))[o]?) from by unfold Im.cells Gm.cells Ros.cells; simp]
 rw [← List.getElem?_map]
 rfl
theorem no_shot_in_state : ∀ o, o < 76 → ¬ (stateTags[o]? = some 1 ∧ stateTags[o + 1]? = some 2) := by decide
theorem Lies.off_state {w : World} {B BG n m : Nat} {A A' : Option Addr} {c : Nat} {l : List Gm.Shot} {g : Gm.G} {r : Ros.R} (h : Lies w B 6 A n (Gm.shotCells l)) (hn : n = l.length) (hB : Box w BG 40 (Im.cells g (.slice A' m c) r)) (h0 : n ≠ 0) (ad : Addr) (e : A = some ad) : ad.block ≠ BG := by
 intro eb
 subst hn
 have hlt : 0 < l.length := by omega
 have hc := h.cell ad e h0
 have e0 := hc 0 (.int .i64 l[0].owner) (by have := Gm.shotCells_at l 0 0 hlt (by omega); simpa [Gm.Shot.cells] using this)
 have e1 := hc 1 (.int .i32 l[0].x) (by have := Gm.shotCells_at l 0 1 hlt (by omega); simpa [Gm.Shot.cells] using this)
 rw [show ad.add 0 = ad from rfl] at e0
 rw [show ad.add 1 = ⟨ad.block, ad.off + 1, none⟩ from rfl] at e1
 rw [eb, hB.cell] at e1
 have e0' : (Im.cells g (.slice A' m c) r)[ad.off]? = some (.int .i64 l[0].owner) := by
  unfold World.cell? at e0
  rw [eb, hB.is] at e0
  dsimp only at e0
  split at e0
  · cases e0
  · exact e0
 have t0 := state_tags g A' m c r ad.off
 have t1 := state_tags g A' m c r (ad.off + 1)
 rw [e0'] at t0
 rw [e1] at t1
 have hlt' : ad.off < 76 := by have := (Array.getElem?_eq_some_iff.1 e0').1; rwa [Im.cells_size] at this
 exact no_shot_in_state _ hlt' ⟨t0.symm, t1.symm⟩
theorem Lies.state_row {w : World} {n BG m : Nat} {A A' : Option Addr} {c : Nat} {l : List Gm.Shot} {g : Gm.G} {r : Ros.R} (h : Lies w w.heap.size 6 A n (Gm.shotCells l)) (hn : n = l.length) (hB : Box w BG 40 (Im.cells g (.slice A' m c) r)) (cs : Array Value) : Lies (w.setRow BG cs) (w.setRow BG cs).heap.size 6 A n (Gm.shotCells l) := by
 refine ⟨h.len, fun hn => by obtain ⟨ad, e, hb⟩ := h.start hn; exact ⟨ad, e, by rw [setRow_size]; exact hb⟩, fun ad e h0 j u hu => ?_⟩
 have hne := h.off_state hn hB h0 ad e
 rw [World.cell?_of_block (w := w) (by rw [add_block]; exact setRow_other w BG _ cs hne)]
 exact h.cell ad e h0 j u hu
theorem Lies.zero_row {w : World} {n BG : Nat} {A : Option Addr} {l : List Gm.Shot} (h : Lies w w.heap.size 6 A n (Gm.shotCells l)) (hn : n = l.length) (hB : Box w BG 40 Im.zero) (cs : Array Value) : Lies (w.setRow BG cs) (w.setRow BG cs).heap.size 6 A n (Gm.shotCells l) :=
 h.state_row hn hB cs
theorem Lies.old_row {w0 w : World} {n B size : Nat} {A : Option Addr} {xs : List Value} (h : Lies w w0.heap.size size A n xs) (hB : w0.heap.size ≤ B) (cs : Array Value) : Lies (w.setRow B cs) w0.heap.size size A n xs :=
 h.stays fun b hb => setRow_other w B b cs (by omega)
structure Ch (w : World) (g : Gm.G) (s : Value) (r : Ros.R) (E : Array Value) (W : World) : Prop where
 st : Box W w.heap.size 40 (Im.cells g s r)
 ev : Box W (w.heap.size + 1) 79 E
 out : Box W (w.heap.size + 1 + 1) 40 Im.zero
 below : Below w.heap.size w W
theorem Ch.call {w W W' : World} {g : Gm.G} {s : Value} {r : Ros.R} {E : Array Value} (h : Ch w g s r E W) (hb : Below W.heap.size W W') : Ch w g s r E W' :=
 ⟨h.st.below hb h.st.lt, h.ev.below hb h.ev.lt, h.out.below hb h.out.lt, h.below.trans (hb.mono h.below.size)⟩
theorem Ch.alloc {w W : World} {g : Gm.G} {s : Value} {r : Ros.R} {E : Array Value} (h : Ch w g s r E W) (o : Obj) : Ch w g s r E (W.alloc o) := h.call (one_below W o)
theorem Ch.store {w W : World} {g g' : Gm.G} {s s' : Value} {r r' : Ros.R} {E : Array Value} (h : Ch w g s r E W) : Ch w g' s' r' E (W.setRow w.heap.size (Im.cells g' s' r')) :=
 ⟨h.st.row _, h.ev.row_far (by omega) _, h.out.row_far (by omega) _, Below.setRow' h.below (Nat.le_refl _) _⟩
theorem ch_start (w : World) (g : Gm.G) (s : Value) (r : Ros.R) (E : Array Value) : Ch w g s r E (((w.alloc (.cells (Im.cells g s r) 40)).alloc (.cells E 79)).alloc (.cells Im.zero 40)) :=
 ⟨((Box.made w 40 (Im.cells g s r)).alloc (.cells E 79)).alloc (.cells Im.zero 40), (Box.made_at (n := w.heap.size + 1) (w.alloc (.cells (Im.cells g s r) 40)) 79 E (by simp)).alloc (.cells Im.zero 40), Box.made_at _ _ _ (by simp),
   (two_below' w (.cells (Im.cells g s r) 40) (.cells E 79)).alloc (by simp <;> omega) (.cells Im.zero 40)⟩
theorem change_join (g : Gm.G) (r : Ros.R) (k : Nat) (gn pe : Int) (A : Option Addr) (n c : Nat) (w : World) (hok : Im.Ok g r) (hd : 0 ≤ g.dice ∧ g.dice ≤ 18446744073709551615) (hk : k < 8) (hn : n = g.shots.length) (hr : Lies w w.heap.size 6 A n (Gm.shotCells g.shots)) (ht : Ros.MayTake r k pe) (hg : gn = r.gen k + 1) :
 Calls Tryz.prog 75 #[.agg (Im.cells g (.slice A n c) r), .agg #[.int .i64 1, .int .i64 (k : Int), .int .i64 gn, .int .i64 pe]] w (SOne (Gm.spawn g k) (Ros.take r k pe) w) := by
 have hpk : r.peer k = -1 := ht.2.1
 have hoff : (g.ship k).on = false := (hok.2.2 k hk).trans (decide_eq_false (by omega))
 have ca := fun X => qh (rosapply_join_yes r k gn pe X ht hg)
 have cs := fun X hX => qh (spawn_yes g A n c k X hok.1 hd hn hX hk hoff)
 have cn := fun X => qh (need_ok X)
 clear hok hd ht hg hpk hoff
 have C0 := qh (ch_start w g (.slice A n c) r #[.int .i64 1, .int .i64 (k : Int), .int .i64 gn, .int .i64 pe])
 have L0 := qh (hr.below C0.out.below)
 have hN := qh hn
 clear hr hn
 go_enter Tryz.func75, Tryz.ntmps75
 go_upto_region 4 with (first | (with_reducible refine alloc_state rfl rfl ?_) | ((with_reducible refine im_load_ros rfl rfl ?_); apply LoadIm.mk rfl; (focus (with_reducible exact C0.out.st)); dsimp only) | ((with_reducible refine row_load rfl rfl Tryz.underlying79 rfl ?_); apply LoadRow.mk rfl; (focus (with_reducible exact C0.out.ev)); (focus (exact ev4_size))) | (go_at_call 96; ((with_reducible refine ((ca _).out).mono ?_); rintro e w1 ⟨rfl, hb⟩; have C1 := qh ((C0.out.call hb).alloc (.cells (Ros.cells (Ros.take r k pe)) 38)); have Q1 := qh (Box.made w1 38 (Ros.cells (Ros.take r k pe))); have L1 := qh ((L0.out.below (hb.mono C0.out.below.size)).below ((one_below w1 (.cells (Ros.cells (Ros.take r k pe)) 38)).mono (Nat.le_trans C0.out.below.size hb.size))); clear hb)) | (with_reducible refine ros_alloc rfl rfl ?_) | ((with_reducible refine ros_store_new rfl rfl rfl rfl rfl ?_)) | (go_at_call 77; ((with_reducible refine ((cn _).out).mono ?_); rintro e w2 ⟨rfl, hb⟩; have C2 := qh (C1.out.call hb); have Q2 := qh (Q1.out.below hb Q1.out.lt); have L2 := qh (L1.out.below (hb.mono C1.out.below.size)); have C3 := qh (C2.out.store (g' := g) (s' := .slice A n c) (r' := Ros.take r k pe)); have L3 := qh (L2.out.old_row (Nat.le_refl _) (Im.cells g (.slice A n c) (Ros.take r k pe))); have LL := qh (L3.out.wider C3.out.below.size); have k3 := C3.out.ev.cell; clear hb)) | ((with_reducible refine ros_load rfl rfl ?_); apply LoadRow.mk rfl; (focus (with_reducible exact Q2.out)); (focus (exact ros_info))) | ((with_reducible refine im_store_ros rfl rfl ?_); apply StoreR.mk rfl rfl; (focus (with_reducible exact C2.out.st))))
 go_wp2_with (first | ((with_reducible refine im_load_game rfl rfl ?_); apply LoadIm.mk rfl; (focus (with_reducible exact C3.out.st)); dsimp only) | (go_at_call 97; ((with_reducible refine ((cs _ LL.out).out).mono ?_); rintro e w4 ⟨A4, c4, rfl, hL, hb⟩; have C4 := qh (C3.out.call hb); have C5 := qh (C4.out.store (g' := Gm.spawn g k) (s' := .slice A4 (Gm.spawn g k).shots.length c4) (r' := Ros.take r k pe)); have L5 := qh (hL.state_row rfl C4.out.st (Im.cells (Gm.spawn g k) (.slice A4 (Gm.spawn g k).shots.length c4) (Ros.take r k pe))); clear hb hL)) | ((with_reducible refine im_store_game rfl rfl ?_); apply StoreG.mk rfl rfl; (focus (with_reducible exact C4.out.st)); (focus rfl)) | (go_at_call 77; ((with_reducible refine ((cn _).out).mono ?_); rintro e w6 ⟨rfl, hb⟩; have C6 := qh (C5.out.call hb); have L6 := qh (L5.out.call hb); clear hb)) | ((with_reducible refine im_load_state rfl rfl ?_); apply LoadIm.mk rfl; (focus (with_reducible exact C6.out.st)); dsimp only) | ((with_reducible refine im_store_state rfl rfl ?_); apply StoreS.mk rfl rfl; (focus (with_reducible exact C6.out.out)); (focus (exact Im.zero_size)); (focus rfl)))
 refine bodyPost_ret (v := .agg (Im.cells (Gm.spawn g k) (.slice A4 (Gm.spawn g k).shots.length c4) (Ros.take r k pe))) ?_ ?_ ?_
 · exact results_cell_row rfl _ _ _ _ (Im.cells (Gm.spawn g k) (.slice A4 (Gm.spawn g k).shots.length c4) (Ros.take r k pe)) (0, 0) _ rfl (C6.out.out.row _).is Tryz.underlying40 rfl (by rw [Im.cells_size]; exact state_info)
 · rfl
 · exact ⟨A4, c4, rfl, L6.out.zero_row rfl C6.out.out _, Below.setRow' C6.out.below (by omega) _⟩
theorem change_leave (g : Gm.G) (r : Ros.R) (k : Nat) (gn pe : Int) (A : Option Addr) (n c : Nat) (w : World) (hok : Im.Ok g r) (hd : 0 ≤ g.dice ∧ g.dice ≤ 18446744073709551615) (hk : k < 8) (hn : n = g.shots.length) (hr : Lies w w.heap.size 6 A n (Gm.shotCells g.shots)) (ht : Ros.MayGive r k) (hp : r.peer k = pe) (hg : r.gen k = gn) :
 Calls Tryz.prog 75 #[.agg (Im.cells g (.slice A n c) r), .agg #[.int .i64 2, .int .i64 (k : Int), .int .i64 gn, .int .i64 pe]] w (SOne (Gm.remove g k) (Ros.give r k) w) := by
 have hpk : 0 ≤ r.peer k := by
  rcases (hok.2.1.seat k hk).2 with h | h
  · exact absurd h (by simpa using ht.2)
  · exact h.1.1
 have hon : (g.ship k).on = true := (hok.2.2 k hk).trans (decide_eq_true hpk)
 have ca := fun X => qh (rosapply_leave_yes r k X ht gn pe hp hg)
 have cs := fun X hX => qh (remove_all g A n c k X hok.1 hn hX hk hon)
 have cn := fun X => qh (need_ok X)
 clear hok hd ht hg hpk hon hp
 have C0 := qh (ch_start w g (.slice A n c) r #[.int .i64 2, .int .i64 (k : Int), .int .i64 gn, .int .i64 pe])
 have L0 := qh (hr.below C0.out.below)
 have hN := qh hn
 clear hr hn
 go_enter Tryz.func75, Tryz.ntmps75
 go_upto_region 4 with (first | (with_reducible refine alloc_state rfl rfl ?_) | ((with_reducible refine im_load_ros rfl rfl ?_); apply LoadIm.mk rfl; (focus (with_reducible exact C0.out.st)); dsimp only) | ((with_reducible refine row_load rfl rfl Tryz.underlying79 rfl ?_); apply LoadRow.mk rfl; (focus (with_reducible exact C0.out.ev)); (focus (exact ev4_size))) | (go_at_call 96; ((with_reducible refine ((ca _).out).mono ?_); rintro e w1 ⟨rfl, hb⟩; have C1 := qh ((C0.out.call hb).alloc (.cells (Ros.cells (Ros.give r k)) 38)); have Q1 := qh (Box.made w1 38 (Ros.cells (Ros.give r k))); have L1 := qh ((L0.out.below (hb.mono C0.out.below.size)).below ((one_below w1 (.cells (Ros.cells (Ros.give r k)) 38)).mono (Nat.le_trans C0.out.below.size hb.size))); clear hb)) | (with_reducible refine ros_alloc rfl rfl ?_) | ((with_reducible refine ros_store_new rfl rfl rfl rfl rfl ?_)) | (go_at_call 77; ((with_reducible refine ((cn _).out).mono ?_); rintro e w2 ⟨rfl, hb⟩; have C2 := qh (C1.out.call hb); have Q2 := qh (Q1.out.below hb Q1.out.lt); have L2 := qh (L1.out.below (hb.mono C1.out.below.size)); have C3 := qh (C2.out.store (g' := g) (s' := .slice A n c) (r' := Ros.give r k)); have L3 := qh (L2.out.old_row (Nat.le_refl _) (Im.cells g (.slice A n c) (Ros.give r k))); have LL := qh (L3.out.wider C3.out.below.size); have k3 := C3.out.ev.cell; clear hb)) | ((with_reducible refine ros_load rfl rfl ?_); apply LoadRow.mk rfl; (focus (with_reducible exact Q2.out)); (focus (exact ros_info))) | ((with_reducible refine im_store_ros rfl rfl ?_); apply StoreR.mk rfl rfl; (focus (with_reducible exact C2.out.st))))
 go_wp2_with (first | ((with_reducible refine im_load_game rfl rfl ?_); apply LoadIm.mk rfl; (focus (with_reducible exact C3.out.st)); dsimp only) | (go_at_call 98; ((with_reducible refine ((cs _ LL.out).out).mono ?_); rintro e w4 ⟨A4, c4, rfl, hL, hb⟩; have C4 := qh (C3.out.call hb); have C5 := qh (C4.out.store (g' := Gm.remove g k) (s' := .slice A4 (Gm.remove g k).shots.length c4) (r' := Ros.give r k)); have L5 := qh (hL.state_row rfl C4.out.st (Im.cells (Gm.remove g k) (.slice A4 (Gm.remove g k).shots.length c4) (Ros.give r k))); clear hb hL)) | ((with_reducible refine im_store_game rfl rfl ?_); apply StoreG.mk rfl rfl; (focus (with_reducible exact C4.out.st)); (focus rfl)) | (go_at_call 77; ((with_reducible refine ((cn _).out).mono ?_); rintro e w6 ⟨rfl, hb⟩; have C6 := qh (C5.out.call hb); have L6 := qh (L5.out.call hb); clear hb)) | ((with_reducible refine im_load_state rfl rfl ?_); apply LoadIm.mk rfl; (focus (with_reducible exact C6.out.st)); dsimp only) | ((with_reducible refine im_store_state rfl rfl ?_); apply StoreS.mk rfl rfl; (focus (with_reducible exact C6.out.out)); (focus (exact Im.zero_size)); (focus rfl)))
 refine bodyPost_ret (v := .agg (Im.cells (Gm.remove g k) (.slice A4 (Gm.remove g k).shots.length c4) (Ros.give r k))) ?_ ?_ ?_
 · exact results_cell_row rfl _ _ _ _ (Im.cells (Gm.remove g k) (.slice A4 (Gm.remove g k).shots.length c4) (Ros.give r k)) (0, 0) _ rfl (C6.out.out.row _).is Tryz.underlying40 rfl (by rw [Im.cells_size]; exact state_info)
 · rfl
 · exact ⟨A4, c4, rfl, L6.out.zero_row rfl C6.out.out _, Below.setRow' C6.out.below (by omega) _⟩
theorem change_yes (s : Fd.S) (v : En.Ev) (A : Option Addr) (n c : Nat) (w : World) (hs : Fd.Fine s) (hv : Fd.MayEv s v) (hn : n = s.g.shots.length) (hr : Lies w w.heap.size 6 A n (Gm.shotCells s.g.shots)) :
 Calls Tryz.prog 75 #[.agg (Im.cells s.g (.slice A n c) s.r), .agg #[.int .i64 v.kind, .int .i64 v.slot, .int .i64 v.gen, .int .i64 v.peer]] w (SOne (Fd.after s v).g (Fd.after s v).r w) := by
 rcases hv with ⟨hk, ht, hg⟩ | ⟨hk, ht, hp, hg⟩
 · obtain ⟨k, hk8, e, e', hpk, ht', hp0⟩ := Fd.take_on ht
   unfold Fd.after
   rw [if_pos hk, e', hk, e]
   exact change_join s.g s.r k v.gen v.peer A n c w hs.ok hs.dice hk8 hn hr ht' (by rw [hg, e'])
 · obtain ⟨k, hk8, e, e', hpk, ht'⟩ := Fd.give_on ht
   unfold Fd.after
   rw [if_neg (by omega), e', hk, e]
   exact change_leave s.g s.r k v.gen v.peer A n c w hs.ok hs.dice hk8 hn hr ht' (by rw [← hp, e']) (by rw [← hg, e'])
namespace Fd
theorem changes_snoc (s : S) (l : List En.Ev) (k : Nat) (hk : k < l.length) : changes s (l.take (k + 1)) = (changes s (l.take k)).bind fun t => change t l[k] := by
 rw [List.take_succ_eq_append_getElem hk, changes_append]
 congr 1
 funext t
 exact changes_one t _
theorem changes_go {s t : S} {l : List En.Ev} {k : Nat} (hk : k < l.length) (h : changes s (l.take k) = some t) (hv : MayEv t l[k]) : changes s (l.take (k + 1)) = some (after t l[k]) := by
 rw [changes_snoc s l k hk, h, Option.bind_some, change_yes hv]
theorem changes_stop {s t : S} {l : List En.Ev} {k : Nat} (hk : k < l.length) (h : changes s (l.take k) = some t) (hv : ¬ MayEv t l[k]) : changes s l = none := by
 rw [← List.take_append_drop k l, changes_append, h, Option.bind_some, List.drop_eq_getElem_cons hk, changes_cons, change_no hv]
 rfl
theorem apply_stop {s : S} {e : En.E} (hm : May s e) (h : changes s e.evs = none) : apply s e = none := by rw [apply_yes hm, h]; rfl
theorem apply_idle {s t : S} {e : En.E} (hm : May s e) (h : changes s e.evs = some t) (hi : ¬ Idle t.r e.inp) : apply s e = none := by rw [apply_yes hm, h, Option.bind_some, if_neg hi]
theorem apply_done {s t : S} {e : En.E} (hm : May s e) (h : changes s e.evs = some t) (hi : Idle t.r e.inp) : apply s e = some ⟨Gm.step e.inp t.g, t.r⟩ := by rw [apply_yes hm, h, Option.bind_some, if_pos hi]
end Fd
structure Bh (w : World) (g : Gm.G) (s : Value) (r : Ros.R) (e : En.E) (sl : Value) (W : World) : Prop where
 st : Box W w.heap.size 40 (Im.cells g s r)
 en : Box W (w.heap.size + 1) 51 (En.cells e sl)
 out : Box W (w.heap.size + 1 + 1) 40 Im.zero
 below : Below w.heap.size w W
section
variable {w W W' : World} {g : Gm.G} {s : Value} {r : Ros.R} {e : En.E} {sl : Value}
theorem Bh.call (h : Bh w g s r e sl W) (hb : Below W.heap.size W W') : Bh w g s r e sl W' :=
 ⟨h.st.below hb h.st.lt, h.en.below hb h.en.lt, h.out.below hb h.out.lt, h.below.trans (hb.mono h.below.size)⟩
theorem Bh.alloc (h : Bh w g s r e sl W) (o : Obj) : Bh w g s r e sl (W.alloc o) := h.call (one_below W o)
theorem Bh.store {g' : Gm.G} {s' : Value} {r' : Ros.R} (h : Bh w g s r e sl W) : Bh w g' s' r' e sl (W.setRow w.heap.size (Im.cells g' s' r')) :=
 ⟨h.st.row _, h.en.row_far (by omega) _, h.out.row_far (by omega) _, Below.setRow' h.below (Nat.le_refl _) _⟩
end
theorem bh_start (w : World) (g : Gm.G) (s : Value) (r : Ros.R) (e : En.E) (sl : Value) : Bh w g s r e sl (((w.alloc (.cells (Im.cells g s r) 40)).alloc (.cells (En.cells e sl) 51)).alloc (.cells Im.zero 40)) :=
 ⟨((Box.made w 40 (Im.cells g s r)).alloc (.cells (En.cells e sl) 51)).alloc (.cells Im.zero 40), (Box.made_at (n := w.heap.size + 1) (w.alloc (.cells (Im.cells g s r) 40)) 51 (En.cells e sl) (by simp)).alloc (.cells Im.zero 40), Box.made_at _ _ _ (by simp),
   (two_below' w (.cells (Im.cells g s r) 40) (.cells (En.cells e sl) 51)).alloc (by simp <;> omega) (.cells Im.zero 40)⟩
theorem in_eql (x y b : Int) (w : World) : (binOp .eql 48 (.agg #[.int .i8 x, .int .i8 y, .int .u8 b]) (.agg #[.int .i8 0, .int .i8 0, .int .u8 0])).run Tryz.prog w = .ok (.bool (En.zero ⟨x, y, b⟩)) w := by
 have h : (Op.equalIn 10000 48 (.agg #[.int .i8 x, .int .i8 y, .int .u8 b]) (.agg #[.int .i8 0, .int .i8 0, .int .u8 0])).run Tryz.prog w = .ok (En.zero ⟨x, y, b⟩) w := by
  by_cases h1 : x = 0
  · by_cases h2 : y = 0
    · by_cases h3 : b = 0
      · subst h1 h2 h3; go_simp <;> simp [En.zero]
      · have h4 : (b == 0) = false := by simpa using h3
        subst h1 h2; go_simp <;> simp [h4, h3, En.zero]
    · have h4 : (y == 0) = false := by simpa using h2
      subst h1; go_simp <;> simp [h4, h2, En.zero]
  · have h4 : (x == 0) = false := by simpa using h1
    go_simp <;> simp [h4, h1, En.zero]
 generalize #[Value.int .i8 x, .int .i8 y, .int .u8 b] = F at *
 generalize #[Value.int .i8 0, .int .i8 0, .int .u8 0] = G at *
 go_simp
def SOneN (g' : Gm.G) (r' : Ros.R) (w : World) (e : Ending) (w' : World) : Prop :=
 ∃ A c, e = .returned (.agg (Im.cells g' (.slice A g'.shots.length c) r')) ∧ Lies w' w'.heap.size 6 A g'.shots.length (Gm.shotCells g'.shots) ∧ Below w.heap.size w w' ∧ New6 w.heap.size A g'.shots.length
theorem SOneN.one {g' : Gm.G} {r' : Ros.R} {w w' : World} {e : Ending} (h : SOneN g' r' w e w') : SOne g' r' w e w' := by obtain ⟨A, c, h1, h2, h3, _⟩ := h; exact ⟨A, c, h1, h2, h3⟩
def SOutN (g' : Gm.G) (r' : Ros.R) (code : Int) (w : World) (e : Ending) (w' : World) : Prop :=
 ∃ A c, e = .returned (.tuple #[.agg (Im.cells g' (.slice A g'.shots.length c) r'), .int .i64 code]) ∧ Lies w' w'.heap.size 6 A g'.shots.length (Gm.shotCells g'.shots) ∧ Below w.heap.size w w' ∧ New6 w.heap.size A g'.shots.length
theorem SOutN.out {g' : Gm.G} {r' : Ros.R} {code : Int} {w w' : World} {e : Ending} (h : SOutN g' r' code w e w') : SOut g' r' code w e w' := by obtain ⟨A, c, h1, h2, h3, _⟩ := h; exact ⟨A, c, h1, h2, h3⟩
def Behind (s : Fd.S) (e : En.E) (w : World) (r : Ending) (w' : World) : Prop :=
 (∃ u, Fd.apply s e = some u ∧ SOneN u.g u.r w r w') ∨ (Fd.apply s e = none ∧ Thrown 1 w r w')
theorem behind_no (s : Fd.S) (e : En.E) (A A2 : Option Addr) (n c m c2 : Nat) (w : World) (hty : Gm.ty s.g) (hn60 : n ≤ 60) (hn : n = s.g.shots.length) (hr : Lies w w.heap.size 6 A n (Gm.shotCells s.g.shots)) (hm : m = e.evs.length) (hm63 : m ≤ maxLen) (hE : Lies w w.heap.size 4 A2 m (En.evCells e.evs)) (hno : ¬ Fd.May s e) :
 Calls Tryz.prog 50 #[.agg (Im.cells s.g (.slice A n c) s.r), .agg (En.cells e (.slice A2 m c2))] w (Thrown 1 w) := by
 have B0 := qh (bh_start w s.g (.slice A n c) s.r e (.slice A2 m c2))
 have L0 := qh ((hr.below B0.out.below).wider B0.out.below.size)
 have E0 := qh ((hE.below B0.out.below).wider B0.out.below.size)
 have cm := qh (foldmay_any s.g s.r A n c _ hty (by unfold maxLen; omega) hn L0.out)
 have ce := fun X hX => qh (enmay_any e A2 m c2 X hm hm63 hX)
 have ct := fun X => qh (needthat_no X)
 have cy := fun X => qh (needthat_yes X)
 by_cases hok : Im.Ok s.g s.r
 · have HOK := qh hok
   by_cases hen : En.Ok e
   · have hfr : (e.frame == s.g.frame) = false := by simpa using fun h => hno ⟨hok, hen, h⟩
     simp only [decide_eq_true hen] at ce
     have hs0 : (Im.cells s.g (.slice A n c) s.r)[0]? = some (.int .i64 s.g.frame) := (Im.cells_g _ _ _ 0 (by omega)).trans (Gm.cells_0 _ _)
     have he0 := En.cells_0 e (.slice A2 m c2)
     clear hok hen hno hr hn hm hm63 hE hty
     go_enter Tryz.func50, Tryz.ntmps50
     go_wp2_with (first | (with_reducible refine alloc_state rfl rfl ?_) | ((with_reducible refine im_load_state rfl rfl ?_); apply LoadIm.mk rfl; (focus (with_reducible exact B0.out.st)); dsimp only) | (go_at_call 39; ((with_reducible refine ((cm).out).mono ?_); rintro x w1 ⟨⟨v, rfl, hv⟩, hb⟩; obtain rfl : v = true := hv.2 HOK.out; have B1 := qh (B0.out.call hb); have E1 := qh ((E0.out.below hb).wider hb.size); have L1 := qh (L0.out.call hb); clear hb hv)) | ((with_reducible refine en_load_g ?_ rfl ?_); (focus first | rfl | kernel_rfl | simp [Region.wanted, yielded]); apply LoadEn.mk rfl; (focus (with_reducible exact B1.out.en)); dsimp only) | (go_at_call 74; ((with_reducible refine ((ce _ E1.out).out).mono ?_); rintro x w2 ⟨rfl, hb⟩; have B2 := qh (B1.out.call hb); have k2s := B2.out.st.cell 0; have k2e := B2.out.en.cell 0; have L2 := qh (L1.out.call hb); clear hb)) | (go_at_call 73; ((with_reducible refine ((ct _).out).mono ?_); rintro x w3 ⟨rfl, hb⟩; have K3 := qh (B2.out.below.trans (hb.mono B2.out.below.size)); clear hb)))
     exact ⟨rfl, rfl, K3.out⟩
   · simp only [decide_eq_false hen] at ce
     clear hok hen hno hr hn hm hm63 hE hty
     go_enter Tryz.func50, Tryz.ntmps50
     go_wp2_with (first | (with_reducible refine alloc_state rfl rfl ?_) | ((with_reducible refine im_load_state rfl rfl ?_); apply LoadIm.mk rfl; (focus (with_reducible exact B0.out.st)); dsimp only) | (go_at_call 39; ((with_reducible refine ((cm).out).mono ?_); rintro x w1 ⟨⟨v, rfl, hv⟩, hb⟩; obtain rfl : v = true := hv.2 HOK.out; have B1 := qh (B0.out.call hb); have E1 := qh ((E0.out.below hb).wider hb.size); have L1 := qh (L0.out.call hb); clear hb hv)) | ((with_reducible refine en_load_g ?_ rfl ?_); (focus first | rfl | kernel_rfl | simp [Region.wanted, yielded]); apply LoadEn.mk rfl; (focus (with_reducible exact B1.out.en)); dsimp only) | (go_at_call 74; ((with_reducible refine ((ce _ E1.out).out).mono ?_); rintro x w2 ⟨rfl, hb⟩; have B2 := qh (B1.out.call hb); have k2s := B2.out.st.cell 0; have k2e := B2.out.en.cell 0; have L2 := qh (L1.out.call hb); clear hb)) | (go_at_call 73; ((with_reducible refine ((ct _).out).mono ?_); rintro x w3 ⟨rfl, hb⟩; have K3 := qh (B2.out.below.trans (hb.mono B2.out.below.size)); clear hb)))
     exact ⟨rfl, rfl, K3.out⟩
 · have HOK := qh hok
   clear hok hno hr hn hm hm63 hE hty
   go_enter Tryz.func50, Tryz.ntmps50
   go_wp2_with (first | (with_reducible refine alloc_state rfl rfl ?_) | ((with_reducible refine im_load_state rfl rfl ?_); apply LoadIm.mk rfl; (focus (with_reducible exact B0.out.st)); dsimp only) | (go_at_call 39; ((with_reducible refine ((cm).out).mono ?_); rintro x w1 ⟨⟨v, rfl, hv⟩, hb⟩; obtain rfl : v = false := (by cases v <;> first | rfl | exact absurd (hv.1 rfl) HOK.out); have B1 := qh (B0.out.call hb); have E1 := qh ((E0.out.below hb).wider hb.size); have L1 := qh (L0.out.call hb); clear hb hv)) | (go_at_call 73; ((with_reducible refine ((ct _).out).mono ?_); rintro x w3 ⟨rfl, hb⟩; have K3 := qh (B1.out.below.trans (hb.mono B1.out.below.size)); clear hb)))
   exact ⟨rfl, rfl, K3.out⟩
theorem behind_go (s : Fd.S) (e : En.E) (A A2 : Option Addr) (n c m c2 : Nat) (w : World) (hty : Gm.ty s.g) (hn60 : n ≤ 60) (hn : n = s.g.shots.length) (hr : Lies w w.heap.size 6 A n (Gm.shotCells s.g.shots)) (hm : m = e.evs.length) (hm63 : m ≤ maxLen) (hE : Lies w w.heap.size 4 A2 m (En.evCells e.evs)) (hin : ∀ i, i < 8 → Gm.tyIn (e.inp i)) (hmay : Fd.May s e) :
 Calls Tryz.prog 50 #[.agg (Im.cells s.g (.slice A n c) s.r), .agg (En.cells e (.slice A2 m c2))] w (Behind s e w) := by
 have B0 := qh (bh_start w s.g (.slice A n c) s.r e (.slice A2 m c2))
 have L0 := qh ((hr.below B0.out.below).wider B0.out.below.size)
 have E0 := qh ((hE.below B0.out.below).wider B0.out.below.size)
 have cm := qh (foldmay_any s.g s.r A n c _ hty (by unfold maxLen; omega) hn L0.out)
 have ce := fun X hX => qh (enmay_any e A2 m c2 X hm hm63 hX)
 have ct := fun X => qh (needthat_no X)
 have cy := fun X => qh (needthat_yes X)
 have hfine : Fd.Fine s := ⟨hmay.1, hty.2.1⟩
 have HF := qh hfine
 have HM := qh hmay
 have HE := qh hE
 have hN := qh hn
 have hMN := qh hm
 have m63 : (m : Int) ≤ 9223372036854775807 := by unfold maxLen at hm63; omega
 have hfr : (e.frame == s.g.frame) = true := by simpa using hmay.2.2
 simp only [decide_eq_true hmay.2.1] at ce
 have hs0 : (Im.cells s.g (.slice A n c) s.r)[0]? = some (.int .i64 s.g.frame) := (Im.cells_g _ _ _ 0 (by omega)).trans (Gm.cells_0 _ _)
 have he0 := En.cells_0 e (.slice A2 m c2)
 have he1 := En.cells_1 e (.slice A2 m c2)
 clear hmay hr hn hm hm63 hE hty hfine
 go_enter Tryz.func50, Tryz.ntmps50
 go_upto_region 2 with (first | (with_reducible refine alloc_state rfl rfl ?_) | ((with_reducible refine im_load_state rfl rfl ?_); apply LoadIm.mk rfl; (focus (with_reducible exact B0.out.st)); dsimp only) | (go_at_call 39; ((with_reducible refine ((cm).out).mono ?_); rintro x w1 ⟨⟨v, rfl, hv⟩, hb⟩; obtain rfl : v = true := hv.2 HM.out.1; have B1 := qh (B0.out.call hb); have E1 := qh ((E0.out.below hb).wider hb.size); have L1 := qh (L0.out.call hb); clear hb hv)) | ((with_reducible refine en_load_g ?_ rfl ?_); (focus first | rfl | kernel_rfl | simp [Region.wanted, yielded]); apply LoadEn.mk rfl; (focus (with_reducible exact B1.out.en)); dsimp only) | (go_at_call 74; ((with_reducible refine ((ce _ E1.out).out).mono ?_); rintro x w2 ⟨rfl, hb⟩; have B2 := qh (B1.out.call hb); have k2s := B2.out.st.cell 0; have k2e := B2.out.en.cell 0; have L2 := qh (L1.out.call hb); clear hb)) | (go_at_call 73; ((with_reducible refine ((cy _).out).mono ?_); rintro x w3 ⟨rfl, hb⟩; have B3 := qh (B2.out.call hb); have k3 := B3.out.en.cell 1; have L3 := qh (L2.out.call hb); clear hb k2s k2e)))
 clear B0 L0 E0 cm ce B1 E1 L1 B2 L2
 have hn := hN.out
 subst hn
 go_wp2
 go_loopw [29] (fun i wr => ∃ (k : Nat) (t : Fd.S) (A' : Option Addr) (c' : Nat), k ≤ m ∧ i = .int .i64 k ∧ Fd.changes s (e.evs.take k) = some t ∧ Bh w t.g (.slice A' t.g.shots.length c') t.r e (.slice A2 m c2) wr ∧ Lies wr wr.heap.size 6 A' t.g.shots.length (Gm.shotCells t.g.shots)) (fun i _ => m - (intOf i).toNat)
 case atStart => exact ⟨0, s, A, c, Nat.zero_le _, rfl, rfl, B3.out, L3.out⟩
 case round =>
  obtain ⟨k, t, A', c', hk, rfl, hch, hB, hL⟩ := hrel
  clear B3 L3 k3 hs0 he0 hfr
  by_cases hlt : k < m
  · have hk8 : (k : Int) < m := by omega
    have hkl : k < e.evs.length := by have := hMN.out; omega
    obtain ⟨ad, rfl, hbl, e0, e1, e2, e3⟩ := evs_at (HE.out.below hB.below) hMN.out k hkl
    have hok := En.row_mem e.evs (-1) HM.out.2.1.row e.evs[k] (List.getElem_mem hkl)
    have hft := (HF.out.changes hch).1
    have hgo := qh (fun hv : Fd.MayEv t e.evs[k] => Fd.changes_go hkl hch hv)
    have hst := qh (fun hv : ¬ Fd.MayEv t e.evs[k] => Fd.apply_stop HM.out (Fd.changes_stop hkl hch hv))
    have cy' := fun X (hv : Fd.MayEv t e.evs[k]) hX => qh (change_yes t e.evs[k] A' t.g.shots.length c' X hft hv rfl hX)
    have cn' := fun X (hv : ¬ Fd.MayEv t e.evs[k]) => qh (change_no t e.evs[k] A' t.g.shots.length c' X hok hv)
    generalize hv : e.evs[k] = v at e0 e1 e2 e3 hgo hst cy' cn' hok
    have sz := hB.below.size
    have ltA : ad.block < wr.heap.size := by omega
    have ltP : w.heap.size < wr.heap.size := hB.st.lt
    have B4 := fun o => qh (hB.alloc o)
    have L4 := fun o => qh (hL.call (one_below wr o))
    by_cases hev : Fd.MayEv t v
    · have cs := fun X hX => cy' X hev hX
      have HG := qh (hgo.out hev)
      generalize hu : Fd.after t v = u at cs HG
      obtain ⟨vk, vs, vg, vp⟩ := v
      dsimp only at e0 e1 e2 e3 cs
      clear hu hgo hst cy' cn' hv hev hok hch hB hL hft
      go_wp2_with (first | ((with_reducible refine im_load_state rfl rfl ?_); apply LoadIm.mk rfl; (focus (with_reducible exact (B4 _).out.st)); dsimp only) | (go_at_call 75; ((with_reducible refine ((cs _ (L4 _).out).out).mono ?_); rintro x w5 ⟨A5, c5, rfl, hL5, hb⟩; have B5 := qh ((B4 _).out.call hb); have B6 := qh (B5.out.store (g' := u.g) (s' := .slice A5 u.g.shots.length c5) (r' := u.r)); have L6 := qh (hL5.state_row rfl B5.out.st (Im.cells u.g (.slice A5 u.g.shots.length c5) u.r)); clear hb hL5)) | ((with_reducible refine im_store_state rfl rfl ?_); apply StoreS.mk rfl rfl; (focus (with_reducible exact B5.out.st)); (focus (exact Im.cells_size _ _ _)); (focus rfl)))
      go_roundw
      case rel => exact ⟨k + 1, u, A5, c5, by omega, by go_num, HG.out, B6.out, L6.out⟩
      case measure => simp [intOf]; omega
    · have cs := fun X => cn' X hev
      have HG := qh (hst.out hev)
      obtain ⟨vk, vs, vg, vp⟩ := v
      dsimp only at e0 e1 e2 e3 cs
      clear hgo hst cy' cn' hv hev hok hch hB hL hft
      go_wp2_with (first | ((with_reducible refine im_load_state rfl rfl ?_); apply LoadIm.mk rfl; (focus (with_reducible exact (B4 _).out.st)); dsimp only) | (go_at_call 75; ((with_reducible refine ((cs _).out).mono ?_); rintro x w5 ⟨rfl, hb⟩; have K5 := qh ((B4 _).out.below.trans (hb.mono (B4 _).out.below.size)); clear hb)))
      exact ⟨rfl, .inr ⟨HG.out, rfl, K5.out⟩⟩
  · have hk8 : ¬ (k : Int) < m := by omega
    obtain rfl : k = m := by omega
    obtain ⟨k0, hk0⟩ : ∃ k0, k0 = k := ⟨_, rfl⟩
    rw [hMN.out, List.take_length] at hch
    have HC := qh hch
    rw [← hk0] at hB
    have B3 := qh hB
    have L3 := qh hL
    have HT := qh (HF.out.changes hch)
    clear hch hB hL
    go_wp2_with ((with_reducible refine en_load_ins rfl rfl ?_); apply LoadEn.mk rfl; (focus (with_reducible exact B3.out.en)); dsimp only)
    go_loopw [39] (fun i wr => ∃ k : Nat, k ≤ 8 ∧ i = .int .i64 k ∧ Bh w t.g (.slice A' t.g.shots.length c') t.r e (.slice A2 k0 c2) wr ∧ Lies wr wr.heap.size 6 A' t.g.shots.length (Gm.shotCells t.g.shots) ∧ ∀ j, j < k → t.r.peer j < 0 → En.zero (e.inp j) = true) (fun i _ => 8 - (intOf i).toNat)
    case atStart => exact ⟨0, by omega, rfl, B3.out, L3.out, fun j hj => absurd hj (Nat.not_lt_zero j)⟩
    case round =>
     obtain ⟨k, hk, rfl, hB, hL, hall⟩ := hrel
     clear B3 L3
     by_cases hlt : k < 8
     · have hk8 : (k : Int) < 8 := by omega
       have hpart := in_index e.inp k hlt
       have hcell : ∀ o, (wr.alloc o).cell? ⟨w.heap.size, 60 + k * 2, none⟩ = some (.int .i64 (t.r.peer k)) := fun o => ((hB.st.alloc o).cell _).trans (Im.cells_peer t.g _ t.r k hlt)
       have hnext := qh (fun (h : t.r.peer k < 0 → En.zero (e.inp k) = true) => show ∀ j, j < k + 1 → t.r.peer j < 0 → En.zero (e.inp j) = true from fun j hj => by
        by_cases ej : j = k
        · rw [ej]; exact h
        · exact hall j (by omega))
       have hbad := qh (fun (h : t.r.peer k < 0) (h' : En.zero (e.inp k) = false) => Fd.apply_idle HM.out HC.out (fun hi => by have := hi k hlt h; rw [h'] at this; cases this))
       obtain ⟨p, hp⟩ : ∃ p, p = e.inp k := ⟨_, rfl⟩
       rw [← hp] at hpart hnext hbad
       obtain ⟨x, y, b⟩ := p
       dsimp only at hpart
       have hq := fun W => in_eql x y b W
       generalize hzz : En.zero ⟨x, y, b⟩ = z at hq hnext hbad
       obtain ⟨pk, hpk⟩ : ∃ pk, pk = t.r.peer k := ⟨_, rfl⟩
       rw [← hpk] at hcell hnext hbad
       have B4 := fun o => qh (hB.alloc o)
       have L4 := fun o => qh (hL.call (one_below wr o))
       have sz : w.heap.size ≤ wr.heap.size := hB.below.size
       have ltP : w.heap.size < wr.heap.size := hB.st.lt
       clear hp hpk hall hB hL hzz
       by_cases hp0 : 0 ≤ pk
       · have hn := qh (hnext.out (fun h => absurd h (by omega)))
         clear hnext hbad
         go_wp2_with (go_at_call 73; ((with_reducible refine ((cy _).out).mono ?_); rintro x w5 ⟨rfl, hb⟩; have B5 := qh ((B4 _).out.call hb); have L5 := qh ((L4 _).out.call hb); clear hb))
         go_roundw
         case rel => exact ⟨k + 1, by omega, by go_num, B5.out, L5.out, hn.out⟩
         case measure => simp [intOf]; omega
       · cases z
         · have hn := qh (hbad.out (by omega) rfl)
           clear hnext hbad
           go_wp2_with (go_at_call 73; ((with_reducible refine ((ct _).out).mono ?_); rintro x w5 ⟨rfl, hb⟩; have K5 := qh ((B4 _).out.below.trans (hb.mono (B4 _).out.below.size)); clear hb))
           exact ⟨rfl, .inr ⟨hn.out, rfl, K5.out⟩⟩
         · have hn := qh (hnext.out (fun _ => rfl))
           clear hnext hbad
           go_wp2_with (go_at_call 73; ((with_reducible refine ((cy _).out).mono ?_); rintro x w5 ⟨rfl, hb⟩; have B5 := qh ((B4 _).out.call hb); have L5 := qh ((L4 _).out.call hb); clear hb))
           go_roundw
           case rel => exact ⟨k + 1, by omega, by go_num, B5.out, L5.out, hn.out⟩
           case measure => simp [intOf]; omega
     · have hk8 : ¬ (k : Int) < 8 := by omega
       obtain rfl : k = 8 := by omega
       have HR := qh (Fd.apply_done HM.out HC.out hall)
       have hstep := fun X hX => qh (step_own e.inp t.g A' t.g.shots.length c' X HT.out.1.ok.1 (by have := HT.out.2; have := HM.out.2.1.frame; have := HM.out.2.2; omega) HT.out.1.dice hin rfl hX)
       have cn := fun X => qh (need_ok X)
       have B6 := qh hB
       have L6 := qh hL
       generalize hG : Gm.step e.inp t.g = G at hstep HR
       clear hall hB hL hG
       go_upto_region 14 with (first | ((with_reducible refine im_load_game rfl rfl ?_); apply LoadIm.mk rfl; (focus (with_reducible exact B6.out.st)); dsimp only) | ((with_reducible refine en_load_ins rfl rfl ?_); apply LoadEn.mk rfl; (focus (with_reducible exact B6.out.en)); dsimp only) | (go_at_call 76; ((with_reducible refine ((hstep _ L6.out).out).mono ?_); rintro x w7 ⟨A7, c7, rfl, hL, hb, hN⟩; have NW := qh (hN.mono B6.out.below.size); have B7 := qh ((B6.out.call hb).alloc (.cells (Gm.cells G (.slice A7 G.shots.length c7)) 33)); have L7 := qh (hL.call (one_below w7 (.cells (Gm.cells G (.slice A7 G.shots.length c7)) 33))); have G7 := qh (Box.made w7 33 (Gm.cells G (.slice A7 G.shots.length c7))); clear hb hL)) | (refine wpList_alloc_game rfl rfl ?_) | (refine wpList_store_game_new rfl rfl rfl rfl rfl rfl ?_) | (go_at_call 77; ((with_reducible refine ((cn _).out).mono ?_); rintro x w8 ⟨rfl, hb⟩; have B8 := qh (B7.out.call hb); have L8 := qh (L7.out.call hb); have G8 := qh (G7.out.below hb G7.out.lt); have B9 := qh (B8.out.store (g' := G) (s' := .slice A7 G.shots.length c7) (r' := t.r)); have L9 := qh (L8.out.state_row rfl B8.out.st (Im.cells G (.slice A7 G.shots.length c7) t.r)); clear hb)))
       go_wp2_with (first | ((with_reducible refine load_gate rfl rfl ?_); apply LoadGame.mk rfl; (with_reducible exact G8.out)) | ((with_reducible refine im_store_game rfl rfl ?_); apply StoreG.mk rfl rfl; (focus (with_reducible exact B8.out.st)); (focus rfl)) | ((with_reducible refine im_load_state rfl rfl ?_); apply LoadIm.mk rfl; (focus (with_reducible exact B9.out.st)); dsimp only) | ((with_reducible refine im_store_state rfl rfl ?_); apply StoreS.mk rfl rfl; (focus (with_reducible exact B9.out.out)); (focus (exact Im.zero_size)); (focus rfl)))
       refine bodyPost_ret (v := .agg (Im.cells G (.slice A7 G.shots.length c7) t.r)) ?_ ?_ ?_
       · exact results_cell_row rfl _ _ _ _ (Im.cells G (.slice A7 G.shots.length c7) t.r) (0, 0) _ rfl (B9.out.out.row _).is Tryz.underlying40 rfl (by rw [Im.cells_size]; exact state_info)
       · rfl
       · exact .inl ⟨_, HR.out, A7, c7, rfl, L9.out.zero_row rfl B9.out.out _, Below.setRow' B9.out.below (by omega) _, NW.out⟩
theorem catch_idle_fold (p q s : Addr) (w : World) :
 CallsD Tryz.prog 72 #[.pointer (some s), .pointer (some p), .pointer (some q)] .returning w fun e u' w' => e = .returned (.tuple #[]) ∧ u' = .returning ∧ w' = w := by
 refine callsD_of_wpS Tryz.func72 rfl fun c₀ cs hu => ?_
 apply wpS_seq
 apply wpS_region
 simp [wpOpsS, go_sem, recoverD, hu, Tryz.ntmps72, Exit.thenS]
 refine wpS_of_wp ?_
 simp only [Array.replicate_succ, Array.replicate_zero, List.push_toArray, List.append_toArray, List.nil_append, List.cons_append, List.setIfInBounds_toArray, List.set_cons_succ, List.set_cons_zero]
 go_wp2
 cases c₀
 simp_all [bodyPostS, results, Tryz.results72]
theorem behind_own {s u : Fd.S} {e : En.E} {w w' : World} {r : Ending} (h : Fd.apply s e = some u) (hB : Behind s e w r w') : SOneN u.g u.r w r w' := by
 unfold Behind at hB
 rw [h] at hB
 rcases hB with ⟨v, hv, h2⟩ | ⟨hno, _⟩
 · obtain rfl : u = v := Option.some.inj hv
   exact h2
 · cases hno
theorem behind_is {s u : Fd.S} {e : En.E} {w w' : World} {r : Ending} (h : Fd.apply s e = some u) (hB : Behind s e w r w') : SOne u.g u.r w r w' := (behind_own h hB).one
theorem behind_not {s : Fd.S} {e : En.E} {w w' : World} {r : Ending} (h : Fd.apply s e = none) (hB : Behind s e w r w') : Thrown 1 w r w' := by
 unfold Behind at hB
 rw [h] at hB
 rcases hB with ⟨v, hv, h2⟩ | ⟨_, h2⟩
 · cases hv
 · exact h2
theorem behind_some (s u : Fd.S) (e : En.E) (A A2 : Option Addr) (n c m c2 : Nat) (w : World) (hty : Gm.ty s.g) (hn60 : n ≤ 60) (hn : n = s.g.shots.length) (hr : Lies w w.heap.size 6 A n (Gm.shotCells s.g.shots)) (hm : m = e.evs.length) (hm63 : m ≤ maxLen) (hE : Lies w w.heap.size 4 A2 m (En.evCells e.evs)) (hin : ∀ i, i < 8 → Gm.tyIn (e.inp i)) (h : Fd.apply s e = some u) :
 Calls Tryz.prog 50 #[.agg (Im.cells s.g (.slice A n c) s.r), .agg (En.cells e (.slice A2 m c2))] w (SOne u.g u.r w) := by
 exact (behind_go s e A A2 n c m c2 w hty hn60 hn hr hm hm63 hE hin (Fd.apply_some h).1).mono fun r w' hB => behind_is h hB
theorem behind_new (s u : Fd.S) (e : En.E) (A A2 : Option Addr) (n c m c2 : Nat) (w : World) (hty : Gm.ty s.g) (hn60 : n ≤ 60) (hn : n = s.g.shots.length) (hr : Lies w w.heap.size 6 A n (Gm.shotCells s.g.shots)) (hm : m = e.evs.length) (hm63 : m ≤ maxLen) (hE : Lies w w.heap.size 4 A2 m (En.evCells e.evs)) (hin : ∀ i, i < 8 → Gm.tyIn (e.inp i)) (h : Fd.apply s e = some u) :
 Calls Tryz.prog 50 #[.agg (Im.cells s.g (.slice A n c) s.r), .agg (En.cells e (.slice A2 m c2))] w (SOneN u.g u.r w) := by
 exact (behind_go s e A A2 n c m c2 w hty hn60 hn hr hm hm63 hE hin (Fd.apply_some h).1).mono fun r w' hB => behind_own h hB
theorem behind_none (s : Fd.S) (e : En.E) (A A2 : Option Addr) (n c m c2 : Nat) (w : World) (hty : Gm.ty s.g) (hn60 : n ≤ 60) (hn : n = s.g.shots.length) (hr : Lies w w.heap.size 6 A n (Gm.shotCells s.g.shots)) (hm : m = e.evs.length) (hm63 : m ≤ maxLen) (hE : Lies w w.heap.size 4 A2 m (En.evCells e.evs)) (hin : ∀ i, i < 8 → Gm.tyIn (e.inp i)) (h : Fd.apply s e = none) :
 Calls Tryz.prog 50 #[.agg (Im.cells s.g (.slice A n c) s.r), .agg (En.cells e (.slice A2 m c2))] w (Thrown 1 w) := by
 by_cases hmay : Fd.May s e
 · exact (behind_go s e A A2 n c m c2 w hty hn60 hn hr hm hm63 hE hin hmay).mono fun r w' hB => behind_not h hB
 · exact behind_no s e A A2 n c m c2 w hty hn60 hn hr hm hm63 hE hmay
theorem apply1_some (u : Fd.S) (s : Fd.S) (e : En.E) (A A2 : Option Addr) (n c m c2 Bs Be : Nat) (w : World) (hty : Gm.ty s.g) (hn60 : n ≤ 60) (hn : n = s.g.shots.length) (hr : Lies w w.heap.size 6 A n (Gm.shotCells s.g.shots)) (hm : m = e.evs.length) (hm63 : m ≤ maxLen) (hE : Lies w w.heap.size 4 A2 m (En.evCells e.evs)) (hin : ∀ i, i < 8 → Gm.tyIn (e.inp i)) (hB : Box w Bs 40 (Im.cells s.g (.slice A n c) s.r)) (hBe : Box w Be 51 (En.cells e (.slice A2 m c2))) (h : Fd.apply s e = some u) :
 Calls Tryz.prog 49 #[.pointer (some ⟨Bs, 0, none⟩), .pointer (some ⟨Be, 0, none⟩)] w (SOneN u.g u.r w) := by
 have N0 := qh (Box.made w 40 Im.zero)
 have K0 := qh (one_below w (.cells Im.zero 40))
 have B1 := qh (hB.alloc (.cells Im.zero 40))
 have E1 := qh (hBe.alloc (.cells Im.zero 40))
 have cb := qh (behind_new s u e A A2 n c m c2 _ hty hn60 hn (hr.call K0.out) hm hm63 ((hE.below K0.out).wider K0.out.size) hin h)
 clear hty hr hE hn hm hm63 hin h hB hBe
 go_enter Tryz.func49, Tryz.ntmps49
 go_wp2_with (first | (with_reducible refine alloc_state rfl rfl ?_) | ((with_reducible refine im_load_state rfl rfl ?_); apply LoadIm.mk rfl; (focus (with_reducible exact B1.out)); dsimp only) | ((with_reducible refine en_load rfl rfl ?_); apply LoadEn.mk rfl; (focus (with_reducible exact E1.out)); dsimp only) | (go_at_call 50; ((with_reducible refine ((cb).out).mono ?_); rintro x w2 ⟨A1, c1, rfl, hL, hb, hN⟩; have NW := qh (hN.mono K0.out.size); have N2 := qh (N0.out.below hb N0.out.lt); have K2 := qh (K0.out.trans (hb.mono K0.out.size)); have L2 := qh hL; clear hb hL)) | ((with_reducible refine im_store_state rfl rfl ?_); apply StoreS.mk rfl rfl; (focus (with_reducible exact N2.out)); (focus (exact Im.zero_size)); (focus rfl)))
 refine bodyPost_ret (v := .agg (Im.cells u.g (.slice A1 u.g.shots.length c1) u.r)) ?_ ?_ ?_
 · exact results_cell_row rfl _ _ _ _ (Im.cells u.g (.slice A1 u.g.shots.length c1) u.r) (0, 0) _ rfl (N2.out.row _).is Tryz.underlying40 rfl (by rw [Im.cells_size]; exact state_info)
 · rfl
 · exact ⟨A1, c1, rfl, L2.out.zero_row rfl N2.out _, Below.setRow' K2.out (Nat.le_refl _) _, NW.out⟩
theorem Lies.int_cell {w : World} {n Bc : Nat} {A : Option Addr} {l : List Gm.Shot} {y : Int} (h : Lies w w.heap.size 6 A n (Gm.shotCells l)) (hn : n = l.length) (hC : Box w Bc 3 #[.int .i64 y]) (v : Value) : Lies (w.setCell ⟨Bc, 0, none⟩ v) (w.setCell ⟨Bc, 0, none⟩ v).heap.size 6 A n (Gm.shotCells l) := by
 refine ⟨h.len, fun hn0 => by obtain ⟨ad, e, hb⟩ := h.start hn0; exact ⟨ad, e, by rw [World.size_setCell]; exact hb⟩, fun ad e h0 j u hu => ?_⟩
 have hne : ad.block ≠ Bc := fun eb => by
  subst hn
  have hlt : 0 < l.length := by omega
  have hc := h.cell ad e h0
  have e1 := hc 1 (.int .i32 l[0].x) (by have := Gm.shotCells_at l 0 1 hlt (by omega); simpa [Gm.Shot.cells] using this)
  rw [show ad.add 1 = ⟨ad.block, ad.off + 1, none⟩ from rfl, eb, hC.cell] at e1
  have := (Array.getElem?_eq_some_iff.1 e1).1
  simp at this
 rw [World.cell?_of_block (w := w) (by rw [add_block]; exact heap_setCell_other w ⟨Bc, 0, none⟩ _ v hne)]
 exact h.cell ad e h0 j u hu
theorem attempt_apply_some (g g' : Gm.G) (r r' : Ros.R) (A : Option Addr) (n c Bs Be : Nat) (w : World) (hcall : ∀ W, Below w.heap.size w W → Calls Tryz.prog 49 #[.pointer (some ⟨Bs, 0, none⟩), .pointer (some ⟨Be, 0, none⟩)] W (SOneN g' r' W)) :
 Calls Tryz.prog 48 #[.agg (Im.cells g (.slice A n c) r), .func (.func 49) #[] #[.pointer (some ⟨Bs, 0, none⟩), .pointer (some ⟨Be, 0, none⟩)]] w (SOutN g' r' 0 w) := by
 have hmf : ∀ (fn : Fn) (first cap : Array Value) (w : World), (Instr.makeFunc fn first cap).run Tryz.prog w = .ok (.func fn first cap) w := fun _ _ _ _ => rfl
 have S1 := qh (((Box.made w 40 (Im.cells g (.slice A n c) r)).alloc (.cells Im.zero 40)).alloc (.cells #[.int .i64 0] 3))
 have N1 := qh ((Box.made_at (n := w.heap.size + 1) (w.alloc (.cells (Im.cells g (.slice A n c) r) 40)) 40 Im.zero (by simp)).alloc (.cells #[.int .i64 0] 3))
 have C1 := qh (Box.made_at (n := w.heap.size + 1 + 1) ((w.alloc (.cells (Im.cells g (.slice A n c) r) 40)).alloc (.cells Im.zero 40)) 3 #[.int .i64 0] (by simp))
 have K1 := qh ((two_below' w (.cells (Im.cells g (.slice A n c) r) 40) (.cells Im.zero 40)).alloc (by simp <;> omega) (.cells #[.int .i64 0] 3))
 have cl := qh (hcall _ K1.out)
 clear hcall
 go_enter_defers Tryz.func48, Tryz.ntmps48
 go_wp2_with (first | (with_reducible refine alloc_state rfl rfl ?_) | (go_at_call 49; ((with_reducible refine ((cl).out).mono ?_); rintro x w2 ⟨A1, c1, rfl, hL, hb, hN⟩; have NW := qh (hN.mono K1.out.size); have N2 := qh (N1.out.below hb N1.out.lt); have C2 := C1.out.below hb C1.out.lt; have C3 := qh (C2.row_far (show w.heap.size + 1 + 1 ≠ w.heap.size + 1 by omega) (Im.cells g' (.slice A1 g'.shots.length c1) r')); have k3 := C3.out.cell 0; have f3 := C3.out.free 0; have K2 := qh (K1.out.trans (hb.mono K1.out.size)); have L2 := qh hL; clear hb hL C2)) | ((with_reducible refine im_store_state rfl rfl ?_); apply StoreS.mk rfl rfl; (focus (with_reducible exact N2.out)); (focus (exact Im.zero_size)); (focus rfl)))
 have ne : w.heap.size + 1 ≠ w.heap.size + 1 + 1 := by omega
 have N4 := (N2.out.row (Im.cells g' (.slice A1 g'.shots.length c1) r')).far (p := ⟨w.heap.size + 1 + 1, 0, none⟩) ne (.int .i64 0)
 have C4 := C3.out.put 0 (.int .i64 0)
 have K4 := (Below.setRow' (g := w.heap.size + 1) K2.out (Nat.le_succ _) (Im.cells g' (.slice A1 g'.shots.length c1) r')).setCell (p := ⟨w.heap.size + 1 + 1, 0, none⟩) (by show w.heap.size ≤ w.heap.size + 1 + 1; omega) (.int .i64 0)
 have L4 := (L2.out.zero_row rfl N2.out (Im.cells g' (.slice A1 g'.shots.length c1) r')).int_cell rfl C3.out (.int .i64 0)
 refine leaves_cons (f := 72) (args := #[.pointer (some ⟨w.heap.size, 0, none⟩), .pointer (some ⟨w.heap.size + 1, 0, none⟩), .pointer (some ⟨w.heap.size + 1 + 1, 0, none⟩)]) (by simp) (by simp [go_sem]) ?_
 refine (catch_idle_fold _ _ _ _).mono ?_
 rintro e u' w'' ⟨rfl, rfl, rfl⟩
 have hr := fun (tmps : Array Value) h1 h2 => results_cells2 (fn := Tryz.f48) (p := 4) (q := 5) rfl tmps _ (w.heap.size + 1) (w.heap.size + 1 + 1) 40 (Im.cells g' (.slice A1 g'.shots.length c1) r') _ 0 h1 h2 N4 (by simpa using C4) Tryz.underlying40 rfl (by rw [Im.cells_size]; exact state_info)
 show Leaves Tryz.prog _ _ _ [] .returning _
 exact ⟨_, hr _ rfl rfl, A1, c1, rfl, L4, K4, NW.out⟩
theorem foldapply_new (u : Fd.S) (s : Fd.S) (e : En.E) (A A2 : Option Addr) (n c m c2 : Nat) (w : World) (hty : Gm.ty s.g) (hn60 : n ≤ 60) (hn : n = s.g.shots.length) (hr : Lies w w.heap.size 6 A n (Gm.shotCells s.g.shots)) (hm : m = e.evs.length) (hm63 : m ≤ maxLen) (hE : Lies w w.heap.size 4 A2 m (En.evCells e.evs)) (hin : ∀ i, i < 8 → Gm.tyIn (e.inp i)) (h : Fd.apply s e = some u) :
 Calls Tryz.prog 26 #[.agg (Im.cells s.g (.slice A n c) s.r), .agg (En.cells e (.slice A2 m c2))] w (SOutN u.g u.r 0 w) := by
 have hmf : ∀ (fn : Fn) (first cap : Array Value) (w : World), (Instr.makeFunc fn first cap).run Tryz.prog w = .ok (.func fn first cap) w := fun _ _ _ _ => rfl
 have S1 := qh (((Box.made w 40 (Im.cells s.g (.slice A n c) s.r)).alloc (.cells (En.cells e (.slice A2 m c2)) 51)).alloc (.cells Im.zero 40))
 have E1 := qh ((Box.made_at (n := w.heap.size + 1) (w.alloc (.cells (Im.cells s.g (.slice A n c) s.r) 40)) 51 (En.cells e (.slice A2 m c2)) (by simp)).alloc (.cells Im.zero 40))
 have N1 := qh (Box.made_at (n := w.heap.size + 1 + 1) ((w.alloc (.cells (Im.cells s.g (.slice A n c) s.r) 40)).alloc (.cells (En.cells e (.slice A2 m c2)) 51)) 40 Im.zero (by simp))
 have K1 := qh ((two_below' w (.cells (Im.cells s.g (.slice A n c) s.r) 40) (.cells (En.cells e (.slice A2 m c2)) 51)).alloc (by simp <;> omega) (.cells Im.zero 40))
 have L1 := qh ((hr.below K1.out).wider K1.out.size)
 have EE := qh ((hE.below K1.out).wider K1.out.size)
 have ca := qh (attempt_apply_some s.g u.g s.r u.r A n c w.heap.size (w.heap.size + 1) _ (fun W hW => apply1_some u s e A A2 n c m c2 w.heap.size (w.heap.size + 1) W hty hn60 hn ((L1.out.below hW).wider hW.size) hm hm63 ((EE.out.below hW).wider hW.size) hin (S1.out.below hW S1.out.lt) (E1.out.below hW E1.out.lt) h))
 clear hty hr hE hn hm hm63 hin h
 go_enter Tryz.func26, Tryz.ntmps26
 go_wp2_with (first | (with_reducible refine alloc_state rfl rfl ?_) | ((with_reducible refine im_load_state rfl rfl ?_); apply LoadIm.mk rfl; (focus (with_reducible exact S1.out)); dsimp only) | (go_at_call 48; ((with_reducible refine ((ca).out).mono ?_); rintro x w2 ⟨A1, c1, rfl, hL, hb, hN⟩; have NW := qh (hN.mono K1.out.size); have N2 := qh (N1.out.below hb N1.out.lt); have K2 := qh (K1.out.trans (hb.mono K1.out.size)); have L2 := qh hL; clear hb hL)) | ((with_reducible refine im_store_state rfl rfl ?_); apply StoreS.mk rfl rfl; (focus (with_reducible exact N2.out)); (focus (exact Im.zero_size)); (focus rfl)))
 refine bodyPost_ret (v := .tuple #[.agg (Im.cells u.g (.slice A1 u.g.shots.length c1) u.r), .int .i64 0]) ?_ ?_ ?_
 · exact results_cell_tmp (p := 4) (q := 5) rfl _ _ _ _ (Im.cells u.g (.slice A1 u.g.shots.length c1) u.r) _ rfl (Box.row N2.out _) Tryz.underlying40 rfl (by rw [Im.cells_size]; exact state_info)
 · rfl
 · exact ⟨A1, c1, rfl, L2.out.zero_row rfl N2.out _, Below.setRow' K2.out (by omega) _, NW.out⟩
theorem foldapply_some (u : Fd.S) (s : Fd.S) (e : En.E) (A A2 : Option Addr) (n c m c2 : Nat) (w : World) (hty : Gm.ty s.g) (hn60 : n ≤ 60) (hn : n = s.g.shots.length) (hr : Lies w w.heap.size 6 A n (Gm.shotCells s.g.shots)) (hm : m = e.evs.length) (hm63 : m ≤ maxLen) (hE : Lies w w.heap.size 4 A2 m (En.evCells e.evs)) (hin : ∀ i, i < 8 → Gm.tyIn (e.inp i)) (h : Fd.apply s e = some u) :
 Calls Tryz.prog 26 #[.agg (Im.cells s.g (.slice A n c) s.r), .agg (En.cells e (.slice A2 m c2))] w (SOut u.g u.r 0 w) :=
 (foldapply_new u s e A A2 n c m c2 w hty hn60 hn hr hm hm63 hE hin h).mono fun _ _ hh => hh.out
section
variable {P : Program} {ops : Array Oper} {rest : List Oper} {o : Oper} {a : Act} {w : World} {Q : Exit → Act → World → Prop}
theorem run_loadVar_any (w : World) (ad : Addr) (ty : TypeId) (cs : List Value) (d : TypeDesc) (hc : ∀ j v, cs[j]? = some v → w.cell? (ad.add j) = some v)
 (hu : P.underlying ty = some d) (hd : d.isRow = true) (hi : (P.info? ty).map (·.size) = some cs.length) :
 (loadVar ty ad).run P w = .ok (.agg cs.toArray) w := by
 have hl : (loadCells ad cs.length).run P w = .ok cs.toArray w := run_loadCells_list (P := P) w ad cs hc
 cases hq : P.info? ty with
 | none => simp [hq] at hi
 | some i =>
  have hs : i.size = cs.length := by simpa [hq] using hi
  have hagg : (isAgg ty).run P w = .ok true w := by
   unfold isAgg
   rw [Sem.run_bind, run_underlying hu w]
   cases d <;> simp_all
  simp [loadVar, Sem.run_bind, hagg, sizeOf, typeInfo, hq, hs, hl]
def LoadAt (P : Program) (ops : Array Oper) (Q : Exit → Act → World → Prop) (rest : List Oper) (dst : Option Tmp) (p : Value) (size : Nat) (a : Act) (w : World) : Prop :=
 ∃ (ad : Addr) (cs : List Value), p = .pointer (some ad) ∧ (∀ j v, cs[j]? = some v → w.cell? (ad.add j) = some v) ∧ cs.length = size ∧ wpList P ops Q rest (a.put dst (.agg cs.toArray)) w
theorem LoadAt.mk {dst : Option Tmp} {p : Value} {size : Nat} {ad : Addr} {cs : List Value} (hp : p = .pointer (some ad)) (hc : ∀ j v, cs[j]? = some v → w.cell? (ad.add j) = some v) (hs : cs.length = size) (h : wpList P ops Q rest (a.put dst (.agg cs.toArray)) w) : LoadAt P ops Q rest dst p size a w := ⟨ad, cs, hp, hc, hs, h⟩
theorem load_at_gate {ty : TypeId} {x : Operand} {size : Nat} {d : TypeDesc} (hgd : o.guard = none) (ho : o.op = .load ty x) (hu : P.underlying ty = some d) (hd : d.isRow = true) (hi : (P.info? ty).map (·.size) = some size) (h : LoadAt P ops Q rest o.dst (a.eval x) size a w) : wpList P ops Q (o :: rest) a w := by
 obtain ⟨ad, cs, hx, hc, hs, h⟩ := h
 refine wpList_plain hgd fun _ hK => ?_
 unfold Oper.wp execOp
 simp only [ho, hx, Instr.loadAt, Instr.sureAddr, Sem.run_bind, Sem.run_pure, Result.andThen_ok, run_loadVar_any w ad ty cs d hc hu hd (by rw [hi, hs])]
 exact hK _ _ h
theorem exec_load_any {x : Operand} {ty : TypeId} {ad : Addr} {cs : List Value} {d : TypeDesc} (ho : o.op = .load ty x) (hx : a.eval x = .pointer (some ad)) (hc : ∀ j v, cs[j]? = some v → w.cell? (ad.add j) = some v) (hu : P.underlying ty = some d) (hd : d.isRow = true) (hi : (P.info? ty).map (·.size) = some cs.length) :
 (execOp a.eval o).run P w = .ok (.value (.agg cs.toArray)) w := by
 unfold execOp
 simp only [ho, hx, Instr.loadAt, Instr.sureAddr, Sem.run_bind, Sem.run_pure, Result.andThen_ok, run_loadVar_any w ad ty cs d hc hu hd hi]
end
end Go.Proofs.YtbdlpbnfcnhajaaGreat
namespace En
open Go
def zeroC : Array Value := cells ⟨0, [], in0⟩ (.slice none 0 0)
theorem zeroC_size : zeroC.size = 26 := rfl
structure S where
 e : E
 adr : Option Addr
 cap : Nat
def S.sl (q : S) : Value := .slice q.adr q.e.evs.length q.cap
def S.cells (q : S) : List Value := (En.cells q.e q.sl).toList
def sCells (l : List S) : List Value := l.flatMap S.cells
theorem S.cells_len (q : S) : q.cells.length = 26 := rfl
theorem S.cells_arr (q : S) : q.cells.toArray = En.cells q.e q.sl := by unfold S.cells; exact Array.toArray_toList
theorem sCells_len (l : List S) : (sCells l).length = l.length * 26 := by
 induction l with
 | nil => rfl
 | cons s l ih => unfold sCells at *; rw [List.flatMap_cons, List.length_append, ih, List.length_cons, S.cells_len]; omega
theorem sCells_at (l : List S) (k j : Nat) (hk : k < l.length) (hj : j < 26) : (sCells l)[k * 26 + j]? = l[k].cells[j]? := by
 induction l generalizing k with
 | nil => simp at hk
 | cons s l ih =>
  unfold sCells at *
  rw [List.flatMap_cons]
  match k with
  | 0 => rw [List.getElem?_append_left (by rw [S.cells_len]; omega)]; simp
  | k + 1 =>
   rw [List.getElem?_append_right (by rw [S.cells_len]; omega)]
   have := ih k (by simpa using hk)
   rw [show (k + 1) * 26 + j - s.cells.length = k * 26 + j from by rw [S.cells_len]; omega, this]
   simp
theorem sCells_one (l : List S) : ∀ u ∈ sCells l, u.oneCell' = true := by
 intro u hu
 obtain ⟨q, _, hq⟩ := List.mem_flatMap.1 hu
 have := cells_one q.e q.sl rfl
 rw [Array.all_eq_true'] at this
 exact this u (by unfold S.cells at hq; simpa using hq)
end En
namespace Go.Proofs.YtbdlpbnfcnhajaaGreat
open Go.RowKit Go.Shelf
theorem en_zero : (Tryz.prog.info? 51).map (·.zero) = some (some (.agg En.zeroC)) := by kernel_rfl
theorem alloc_en {ops : Array Oper} {Q : Exit → Act → World → Prop} {o : Oper} {rest : List Oper} {a : Act} {w : World} (hgd : o.guard = none) (ho : o.op = .alloc 51)
 (h : wpList Tryz.prog ops Q rest (a.put o.dst (.pointer (some ⟨w.heap.size, 0, none⟩))) (w.alloc (.cells En.zeroC 51))) : wpList Tryz.prog ops Q (o :: rest) a w :=
 wpList_alloc_z hgd ho en_zero rfl h
theorem en_info26 : (Tryz.prog.info? 51).map (·.size) = some 26 := en_info
theorem en_store_new {ops : Array Oper} {Q : Exit → Act → World → Prop} {o : Oper} {rest : List Oper} {a : Act} {x y : Operand} {v : World} {old : Array Value} {e : En.E} {s : Value} (hgd : o.guard = none) (ho : o.op = .store 51 x y) (hx : a.eval x = .pointer (some ⟨v.heap.size, 0, none⟩)) (hy : a.eval y = .agg (En.cells e s))
 (hold : old.size = 26) (hs : s.oneCell' = true) (h : wpList Tryz.prog ops Q rest (a.put o.dst undef) (v.alloc (.cells (En.cells e s) 51))) : wpList Tryz.prog ops Q (o :: rest) a (v.alloc (.cells old 51)) :=
 wpList_store_new hgd ho hx hy rfl rfl en_info (by rw [En.cells_size]; exact hold) (En.cells_one _ _ hs) h
structure LiesS (w : World) (B : Nat) (A : Option Addr) (n : Nat) (l : List En.S) : Prop where
 row : Lies w B 26 A n (En.sCells l)
 each : ∀ q ∈ l, Lies w B 4 q.adr q.e.evs.length (En.evCells q.e.evs)
 few : ∀ q ∈ l, q.e.evs.length ≤ maxLen
section
variable {w w' : World} {B B' n : Nat} {A : Option Addr} {l : List En.S}
theorem LiesS.below (h : LiesS w B A n l) (hb : Below B w w') : LiesS w' B A n l := ⟨h.row.below hb, fun q hq => (h.each q hq).below hb, h.few⟩
theorem LiesS.wider (h : LiesS w B A n l) (hB : B ≤ B') : LiesS w B' A n l := ⟨h.row.wider hB, fun q hq => (h.each q hq).wider hB, h.few⟩
theorem LiesS.len (h : LiesS w B A n l) : l.length = n := by have := h.row.len; rw [En.sCells_len] at this; omega
theorem LiesS.nil : LiesS w B A 0 [] := ⟨⟨rfl, fun h => absurd rfl h, fun _ _ h => absurd rfl h⟩, fun q h => (by cases h), fun q h => (by cases h)⟩
theorem LiesS.at (h : LiesS w B A n l) (k : Nat) (hk : k < l.length) : ∃ ad, A = some ad ∧ ad.block < B ∧ ∀ j v, l[k].cells[j]? = some v → w.cell? ((ad.add (k * 26)).add j) = some v := by
 have hn := h.len
 obtain ⟨ad, rfl, hb⟩ := h.row.start (by omega)
 refine ⟨ad, rfl, hb, fun j v hv => ?_⟩
 have hj : j < 26 := by have := (List.getElem?_eq_some_iff.1 hv).1; rwa [En.S.cells_len] at this
 rw [add_twice]
 exact h.row.cell ad rfl (by omega) _ v (by rw [En.sCells_at l k j hk hj, hv])
theorem LiesS.take (h : LiesS w B A n l) (k : Nat) (hk : k ≤ n) : LiesS w B A k (l.take k) := by
 have hn := h.len
 refine ⟨⟨by rw [En.sCells_len, List.length_take]; omega, fun h0 => h.row.start (by omega), fun ad e h0 j u hu => ?_⟩, fun q hq => h.each q (List.mem_of_mem_take hq), fun q hq => h.few q (List.mem_of_mem_take hq)⟩
 have hj : j < k * 26 := by have := (List.getElem?_eq_some_iff.1 hu).1; rw [En.sCells_len, List.length_take] at this; omega
 refine h.row.cell ad e (by omega) j u ?_
 have h1 := En.sCells_at l (j / 26) (j % 26) (by omega) (by omega)
 have h2 := En.sCells_at (l.take k) (j / 26) (j % 26) (by rw [List.length_take]; omega) (by omega)
 rw [show j / 26 * 26 + j % 26 = j by omega] at h1 h2
 rw [h1, ← hu, h2]
 congr 2
 simp
end
namespace Fd
def es (l : List En.S) : List En.E := l.map (·.e)
theorem es_at (l : List En.S) (k : Nat) (h : k < (es l).length) (h' : k < l.length) : (es l)[k] = l[k].e := List.getElem_map _
theorem run_snoc (s : S) (l : List En.E) (k : Nat) (hk : k < l.length) : run s (l.take (k + 1)) = (run s (l.take k)).bind fun t => Fd.apply t l[k] := by
 rw [List.take_succ_eq_append_getElem hk, run_append]
 congr 1
 funext t
 exact run_one t _
theorem run_go {s t u : S} {l : List En.E} {k : Nat} (hk : k < l.length) (h : run s (l.take k) = some t) (hv : Fd.apply t l[k] = some u) : run s (l.take (k + 1)) = some u := by
 rw [run_snoc s l k hk, h, Option.bind_some, hv]
theorem run_stop {s t : S} {l : List En.E} {k : Nat} (hk : k < l.length) (h : run s (l.take k) = some t) (hv : Fd.apply t l[k] = none) : run s l = none := by
 rw [← List.take_append_drop k l, run_append, h, Option.bind_some, List.drop_eq_getElem_cons hk, run_cons, hv]
 rfl
theorem Fine.ty {s : S} (h : Fine s) : Gm.ty s.g := ⟨by have := h.ok.1.1; have := h.ok.1.2.1; unfold Gm.i64; omega, h.dice, fun i hi => (h.ok.1.2.2.2.1 i hi).ty, fun i hi => (h.ok.1.2.2.2.2 i hi).ty⟩
theorem Fine.few {s : S} (h : Fine s) : s.g.shots.length ≤ 60 := by have := h.ok.1.2.2.1; omega
end Fd
structure Rn (w : World) (Bn : Nat) (g : Gm.G) (s : Value) (r : Ros.R) (W : World) : Prop where
 nx : Box W Bn 40 (Im.cells g s r)
 out : Box W w.heap.size 40 Im.zero
 far : w.heap.size < Bn
 below : Below w.heap.size w W
section
variable {w W W' : World} {Bn : Nat} {g : Gm.G} {s : Value} {r : Ros.R}
theorem Rn.call (h : Rn w Bn g s r W) (hb : Below W.heap.size W W') : Rn w Bn g s r W' :=
 ⟨h.nx.below hb h.nx.lt, h.out.below hb h.out.lt, h.far, h.below.trans (hb.mono h.below.size)⟩
theorem Rn.alloc (h : Rn w Bn g s r W) (o : Obj) : Rn w Bn g s r (W.alloc o) := h.call (one_below W o)
theorem Rn.store {g' : Gm.G} {s' : Value} {r' : Ros.R} (h : Rn w Bn g s r W) : Rn w Bn g' s' r' (W.setRow Bn (Im.cells g' s' r')) :=
 ⟨h.nx.row _, h.out.row_far (by have := h.far; omega) _, h.far, Below.setRow' h.below (Nat.le_of_lt h.far) _⟩
end
theorem im_store_new {ops : Array Oper} {Q : Exit → Act → World → Prop} {o : Oper} {rest : List Oper} {a : Act} {x y : Operand} {v : World} {old : Array Value} {g : Gm.G} {s : Value} {r : Ros.R} (hgd : o.guard = none) (ho : o.op = .store 40 x y) (hx : a.eval x = .pointer (some ⟨v.heap.size, 0, none⟩)) (hy : a.eval y = .agg (Im.cells g s r))
 (hold : old.size = 76) (hs : s.oneCell' = true) (h : wpList Tryz.prog ops Q rest (a.put o.dst undef) (v.alloc (.cells (Im.cells g s r) 40))) : wpList Tryz.prog ops Q (o :: rest) a (v.alloc (.cells old 40)) :=
 wpList_store_new hgd ho hx hy rfl rfl (by rw [Im.cells_size]; exact state_info) (by rw [Im.cells_size]; exact hold) (im_one _ _ _ hs) h
def Logged (s : Fd.S) (l : List En.S) (w : World) (r : Ending) (w' : World) : Prop :=
 (∃ u, Fd.run s (Fd.es l) = some u ∧ SOne u.g u.r w r w') ∨ (Fd.run s (Fd.es l) = none ∧ Thrown 1 w r w')
theorem logged_is {s u : Fd.S} {l : List En.S} {w w' : World} {r : Ending} (h : Fd.run s (Fd.es l) = some u) (hB : Logged s l w r w') : SOne u.g u.r w r w' := by
 unfold Logged at hB
 rw [h] at hB
 rcases hB with ⟨v, hv, h2⟩ | ⟨hno, _⟩
 · obtain rfl : u = v := Option.some.inj hv
   exact h2
 · cases hno
theorem run1_any (s : Fd.S) (l : List En.S) (A AL : Option Addr) (n c m cl Bs Bl : Nat) (w : World) (hs : Fd.Fine s) (hn : n = s.g.shots.length) (hr : Lies w w.heap.size 6 A n (Gm.shotCells s.g.shots)) (hm63 : m ≤ maxLen) (hl : LiesS w w.heap.size AL m l) (hin : ∀ q ∈ l, ∀ i, i < 8 → Gm.tyIn (q.e.inp i))
 (hB : Box w Bs 40 (Im.cells s.g (.slice A n c) s.r)) (hBl : Box w Bl 25 #[.slice AL m cl]) :
 Calls Tryz.prog 52 #[.pointer (some ⟨Bs, 0, none⟩), .pointer (some ⟨Bl, 0, none⟩)] w (Logged s l w) := by
 have N0 := qh (Box.made w 40 Im.zero)
 have K0 := qh (one_below w (.cells Im.zero 40))
 have B1 := qh (hB.alloc (.cells Im.zero 40))
 have L1 := qh (hBl.alloc (.cells Im.zero 40))
 have co := qh (foldown_any s.g s.r A n c _ (by rw [hn]; exact hs.few) hn (hr.call K0.out))
 have HS := qh hs
 have HL := qh hl
 have HI := qh hin
 have HM := qh (show m = l.length from hl.len.symm)
 have m63 : (m : Int) ≤ 9223372036854775807 := by unfold maxLen at hm63; omega
 clear hs hr hn hm63 hl hin hB hBl
 go_enter Tryz.func52, Tryz.ntmps52
 go_upto_region 2 with (first | (with_reducible refine alloc_state rfl rfl ?_) | ((with_reducible refine im_load_state rfl rfl ?_); apply LoadIm.mk rfl; (focus (with_reducible exact B1.out)); dsimp only) | (go_at_call 53; ((with_reducible refine ((co).out).mono ?_); rintro x w1 ⟨A1, c1, rfl, hL, hb⟩; have R1 := qh (show Rn w w1.heap.size s.g (.slice A1 s.g.shots.length c1) s.r (w1.alloc (.cells (Im.cells s.g (.slice A1 s.g.shots.length c1) s.r) 40)) from ⟨Box.made _ _ _, (N0.out.below hb N0.out.lt).alloc _, Nat.lt_of_lt_of_le N0.out.lt hb.size, ((K0.out.trans (hb.mono K0.out.size))).alloc (Nat.le_trans K0.out.size hb.size) _⟩); have LL := qh (hL.call (one_below w1 (.cells (Im.cells s.g (.slice A1 s.g.shots.length c1) s.r) 40))); have L2 := (((L1.out.below hb L1.out.lt)).alloc (.cells (Im.cells s.g (.slice A1 s.g.shots.length c1) s.r) 40)).cell 0; clear hb hL)) | (with_reducible refine im_store_new rfl rfl rfl rfl Im.zero_size rfl ?_))
 generalize hBn : w1.heap.size = Bn at R1
 go_wp2
 go_loopw [10] (fun i wr => ∃ (k : Nat) (t : Fd.S) (A' : Option Addr) (c' : Nat), k ≤ m ∧ i = .int .i64 k ∧ Fd.run s ((Fd.es l).take k) = some t ∧ Rn w Bn t.g (.slice A' t.g.shots.length c') t.r wr ∧ Lies wr wr.heap.size 6 A' t.g.shots.length (Gm.shotCells t.g.shots)) (fun i _ => m - (intOf i).toNat)
 case atStart => exact ⟨0, s, A1, c1, Nat.zero_le _, rfl, rfl, R1.out, LL.out⟩
 case round =>
  obtain ⟨k, t, A', c', hk, rfl, hch, hR, hL⟩ := hrel
  clear R1 LL L2 N0 K0 B1 L1 co
  by_cases hlt : k < m
  · have hk8 : (k : Int) < m := by omega
    have hkl : k < l.length := by have := HM.out; omega
    have hke : k < (Fd.es l).length := by unfold Fd.es; rw [List.length_map]; exact hkl
    have hge : (Fd.es l)[k] = l[k].e := Fd.es_at l k hke hkl
    have hb := hR.below
    obtain ⟨ad, rfl, hbl, a0⟩ := (HL.out.below hb).at k hkl
    have he1 := (HL.out.below hb).each l[k] (List.getElem_mem hkl)
    have hf1 := HL.out.few l[k] (List.getElem_mem hkl)
    have hty := HI.out l[k] (List.getElem_mem hkl)
    have hft := (HS.out.run hch).1
    have hgo := fun (u : Fd.S) (h : Fd.apply t l[k].e = some u) => Fd.run_go hke hch (hge ▸ h)
    have hst := fun (h : Fd.apply t l[k].e = none) => Fd.run_stop hke hch (hge ▸ h)
    generalize l[k] = u at a0 he1 hf1 hty hgo hst
    have sz := hb.size
    have LA := qh a0
    have ltA : (ad.add (k * 26)).block < wr.heap.size := by rw [add_block]; exact Nat.lt_of_lt_of_le hbl sz
    have ltP : Bn < wr.heap.size := hR.nx.lt
    have P1 := qh (Box.made wr 51 (En.cells u.e u.sl))
    have R2 := qh (hR.alloc (.cells (En.cells u.e u.sl) 51))
    have L2 := qh (hL.call (one_below wr (.cells (En.cells u.e u.sl) 51)))
    have E2 := qh ((he1.wider sz).below (one_below wr (.cells (En.cells u.e u.sl) 51)) |>.wider (one_below wr (.cells (En.cells u.e u.sl) 51)).size)
    cases hap : Fd.apply t u.e with
    | none =>
     have cb := qh (show Calls Tryz.prog 50 #[.agg (Im.cells t.g (.slice A' t.g.shots.length c') t.r), .agg (En.cells u.e u.sl)] (wr.alloc (.cells (En.cells u.e u.sl) 51)) (Thrown 1 (wr.alloc (.cells (En.cells u.e u.sl) 51))) from behind_none t u.e A' u.adr t.g.shots.length c' u.e.evs.length u.cap _ hft.ty hft.few rfl L2.out rfl hf1 E2.out hty hap)
     have HN := qh (hst hap)
     clear hgo hst hap hft hty hf1 he1 a0 hch hR hL hb hge
     go_wp2_with (first | (with_reducible refine alloc_en rfl rfl ?_) | ((with_reducible refine load_at_gate rfl rfl Tryz.underlying51 rfl en_info26 ?_); (apply LoadAt.mk rfl LA.out (En.S.cells_len _); rw [En.S.cells_arr])) | (with_reducible refine en_store_new rfl rfl rfl rfl En.zeroC_size rfl ?_) | ((with_reducible refine en_load rfl rfl ?_); apply LoadEn.mk rfl; (focus (with_reducible exact P1.out)); dsimp only) | ((with_reducible refine im_load_state rfl rfl ?_); apply LoadIm.mk rfl; (focus (with_reducible exact R2.out.nx)); dsimp only) | (go_at_call 50; ((with_reducible refine ((cb).out).mono ?_); rintro x w5 ⟨rfl, hb⟩; have K5 := qh (R2.out.below.trans (hb.mono R2.out.below.size)); clear hb)))
     exact ⟨rfl, .inr ⟨HN.out, rfl, K5.out⟩⟩
    | some v =>
     have cb := qh (show Calls Tryz.prog 50 #[.agg (Im.cells t.g (.slice A' t.g.shots.length c') t.r), .agg (En.cells u.e u.sl)] (wr.alloc (.cells (En.cells u.e u.sl) 51)) (SOne v.g v.r (wr.alloc (.cells (En.cells u.e u.sl) 51))) from behind_some t v u.e A' u.adr t.g.shots.length c' u.e.evs.length u.cap _ hft.ty hft.few rfl L2.out rfl hf1 E2.out hty hap)
     have HG := qh (hgo v hap)
     clear hgo hst hap hft hty hf1 he1 a0 hch hR hL hb hge
     go_wp2_with (first | (with_reducible refine alloc_en rfl rfl ?_) | ((with_reducible refine load_at_gate rfl rfl Tryz.underlying51 rfl en_info26 ?_); (apply LoadAt.mk rfl LA.out (En.S.cells_len _); rw [En.S.cells_arr])) | (with_reducible refine en_store_new rfl rfl rfl rfl En.zeroC_size rfl ?_) | ((with_reducible refine en_load rfl rfl ?_); apply LoadEn.mk rfl; (focus (with_reducible exact P1.out)); dsimp only) | ((with_reducible refine im_load_state rfl rfl ?_); apply LoadIm.mk rfl; (focus (with_reducible exact R2.out.nx)); dsimp only) | (go_at_call 50; ((with_reducible refine ((cb).out).mono ?_); rintro x w5 ⟨A5, c5, rfl, hL5, hb⟩; have R5 := qh (R2.out.call hb); have R6 := qh (R5.out.store (g' := v.g) (s' := .slice A5 v.g.shots.length c5) (r' := v.r)); have L6 := qh (hL5.state_row rfl R5.out.nx (Im.cells v.g (.slice A5 v.g.shots.length c5) v.r)); clear hb hL5)) | ((with_reducible refine im_store_state rfl rfl ?_); apply StoreS.mk rfl rfl; (focus (with_reducible exact R5.out.nx)); (focus (exact Im.cells_size _ _ _)); (focus rfl)))
     go_roundw
     case rel => exact ⟨k + 1, v, A5, c5, by omega, by go_num, HG.out, R6.out, L6.out⟩
     case measure => simp [intOf]; omega
  · have hk8 : ¬ (k : Int) < m := by omega
    obtain rfl : k = m := by omega
    have hlen : (Fd.es l).length = k := by unfold Fd.es; rw [List.length_map]; exact HM.out.symm
    have hfull : (Fd.es l).take k = Fd.es l := List.take_of_length_le (by omega)
    rw [hfull] at hch
    have HC := qh hch
    have R2 := qh hR
    have L2 := qh hL
    clear hch hR hL hlen hfull
    go_wp2_with (first | ((with_reducible refine im_load_state rfl rfl ?_); apply LoadIm.mk rfl; (focus (with_reducible exact R2.out.nx)); dsimp only) | ((with_reducible refine im_store_state rfl rfl ?_); apply StoreS.mk rfl rfl; (focus (with_reducible exact R2.out.out)); (focus (exact Im.zero_size)); (focus rfl)))
    refine bodyPost_ret (v := .agg (Im.cells t.g (.slice A' t.g.shots.length c') t.r)) ?_ ?_ ?_
    · exact results_cell_row rfl _ _ _ _ (Im.cells t.g (.slice A' t.g.shots.length c') t.r) (0, 0) _ rfl (R2.out.out.row _).is Tryz.underlying40 rfl (by rw [Im.cells_size]; exact state_info)
    · rfl
    · exact .inl ⟨t, HC.out, A', c', rfl, L2.out.zero_row rfl R2.out.out _, Below.setRow' R2.out.below (Nat.le_refl _) _⟩
theorem attempt_run_some (g g' : Gm.G) (r r' : Ros.R) (A : Option Addr) (n c Bs Be : Nat) (w : World) (hcall : ∀ W, Below w.heap.size w W → Calls Tryz.prog 52 #[.pointer (some ⟨Bs, 0, none⟩), .pointer (some ⟨Be, 0, none⟩)] W (SOne g' r' W)) :
 Calls Tryz.prog 48 #[.agg (Im.cells g (.slice A n c) r), .func (.func 52) #[] #[.pointer (some ⟨Bs, 0, none⟩), .pointer (some ⟨Be, 0, none⟩)]] w (SOut g' r' 0 w) := by
 have hmf : ∀ (fn : Fn) (first cap : Array Value) (w : World), (Instr.makeFunc fn first cap).run Tryz.prog w = .ok (.func fn first cap) w := fun _ _ _ _ => rfl
 have S1 := qh (((Box.made w 40 (Im.cells g (.slice A n c) r)).alloc (.cells Im.zero 40)).alloc (.cells #[.int .i64 0] 3))
 have N1 := qh ((Box.made_at (n := w.heap.size + 1) (w.alloc (.cells (Im.cells g (.slice A n c) r) 40)) 40 Im.zero (by simp)).alloc (.cells #[.int .i64 0] 3))
 have C1 := qh (Box.made_at (n := w.heap.size + 1 + 1) ((w.alloc (.cells (Im.cells g (.slice A n c) r) 40)).alloc (.cells Im.zero 40)) 3 #[.int .i64 0] (by simp))
 have K1 := qh ((two_below' w (.cells (Im.cells g (.slice A n c) r) 40) (.cells Im.zero 40)).alloc (by simp <;> omega) (.cells #[.int .i64 0] 3))
 have cl := qh (hcall _ K1.out)
 clear hcall
 go_enter_defers Tryz.func48, Tryz.ntmps48
 go_wp2_with (first | (with_reducible refine alloc_state rfl rfl ?_) | (go_at_call 52; ((with_reducible refine ((cl).out).mono ?_); rintro x w2 ⟨A1, c1, rfl, hL, hb⟩; have N2 := qh (N1.out.below hb N1.out.lt); have C2 := C1.out.below hb C1.out.lt; have C3 := qh (C2.row_far (show w.heap.size + 1 + 1 ≠ w.heap.size + 1 by omega) (Im.cells g' (.slice A1 g'.shots.length c1) r')); have k3 := C3.out.cell 0; have f3 := C3.out.free 0; have K2 := qh (K1.out.trans (hb.mono K1.out.size)); have L2 := qh hL; clear hb hL C2)) | ((with_reducible refine im_store_state rfl rfl ?_); apply StoreS.mk rfl rfl; (focus (with_reducible exact N2.out)); (focus (exact Im.zero_size)); (focus rfl)))
 have ne : w.heap.size + 1 ≠ w.heap.size + 1 + 1 := by omega
 have N4 := (N2.out.row (Im.cells g' (.slice A1 g'.shots.length c1) r')).far (p := ⟨w.heap.size + 1 + 1, 0, none⟩) ne (.int .i64 0)
 have C4 := C3.out.put 0 (.int .i64 0)
 have K4 := (Below.setRow' (g := w.heap.size + 1) K2.out (Nat.le_succ _) (Im.cells g' (.slice A1 g'.shots.length c1) r')).setCell (p := ⟨w.heap.size + 1 + 1, 0, none⟩) (by show w.heap.size ≤ w.heap.size + 1 + 1; omega) (.int .i64 0)
 have L4 := (L2.out.zero_row rfl N2.out (Im.cells g' (.slice A1 g'.shots.length c1) r')).int_cell rfl C3.out (.int .i64 0)
 refine leaves_cons (f := 72) (args := #[.pointer (some ⟨w.heap.size, 0, none⟩), .pointer (some ⟨w.heap.size + 1, 0, none⟩), .pointer (some ⟨w.heap.size + 1 + 1, 0, none⟩)]) (by simp) (by simp [go_sem]) ?_
 refine (catch_idle_fold _ _ _ _).mono ?_
 rintro e u' w'' ⟨rfl, rfl, rfl⟩
 have hr := fun (tmps : Array Value) h1 h2 => results_cells2 (fn := Tryz.f48) (p := 4) (q := 5) rfl tmps _ (w.heap.size + 1) (w.heap.size + 1 + 1) 40 (Im.cells g' (.slice A1 g'.shots.length c1) r') _ 0 h1 h2 N4 (by simpa using C4) Tryz.underlying40 rfl (by rw [Im.cells_size]; exact state_info)
 show Leaves Tryz.prog _ _ _ [] .returning _
 exact ⟨_, hr _ rfl rfl, A1, c1, rfl, L4, K4⟩
theorem foldrun_some (u : Fd.S) (s : Fd.S) (l : List En.S) (A AL : Option Addr) (n c m cl : Nat) (w : World) (hs : Fd.Fine s) (hn : n = s.g.shots.length) (hr : Lies w w.heap.size 6 A n (Gm.shotCells s.g.shots)) (hm63 : m ≤ maxLen) (hl : LiesS w w.heap.size AL m l) (hin : ∀ q ∈ l, ∀ i, i < 8 → Gm.tyIn (q.e.inp i)) (h : Fd.run s (Fd.es l) = some u) :
 Calls Tryz.prog 28 #[.agg (Im.cells s.g (.slice A n c) s.r), .slice AL m cl] w (SOut u.g u.r 0 w) := by
 have hmf : ∀ (fn : Fn) (first cap : Array Value) (w : World), (Instr.makeFunc fn first cap).run Tryz.prog w = .ok (.func fn first cap) w := fun _ _ _ _ => rfl
 have S1 := qh (((Box.made w 40 (Im.cells s.g (.slice A n c) s.r)).alloc (.cells #[.slice AL m cl] 25)).alloc (.cells Im.zero 40))
 have E1 := qh ((Box.made_at (n := w.heap.size + 1) (w.alloc (.cells (Im.cells s.g (.slice A n c) s.r) 40)) 25 #[.slice AL m cl] (by simp)).alloc (.cells Im.zero 40))
 have N1 := qh (Box.made_at (n := w.heap.size + 1 + 1) ((w.alloc (.cells (Im.cells s.g (.slice A n c) s.r) 40)).alloc (.cells #[.slice AL m cl] 25)) 40 Im.zero (by simp))
 have K1 := qh ((two_below' w (.cells (Im.cells s.g (.slice A n c) s.r) 40) (.cells #[.slice AL m cl] 25)).alloc (by simp <;> omega) (.cells Im.zero 40))
 have L1 := qh ((hr.below K1.out).wider K1.out.size)
 have LL := qh ((hl.below K1.out).wider K1.out.size)
 have ca := qh (attempt_run_some s.g u.g s.r u.r A n c w.heap.size (w.heap.size + 1) _ (fun W hW => (run1_any s l A AL n c m cl w.heap.size (w.heap.size + 1) W hs hn ((L1.out.below hW).wider hW.size) hm63 ((LL.out.below hW).wider hW.size) hin (S1.out.below hW S1.out.lt) (E1.out.below hW E1.out.lt)).mono fun r w' hB => logged_is h hB))
 clear hs hr hl hn hm63 hin h
 go_enter Tryz.func28, Tryz.ntmps28
 go_wp2_with (first | (with_reducible refine alloc_state rfl rfl ?_) | ((with_reducible refine im_load_state rfl rfl ?_); apply LoadIm.mk rfl; (focus (with_reducible exact S1.out)); dsimp only) | (go_at_call 48; ((with_reducible refine ((ca).out).mono ?_); rintro x w2 ⟨A1, c1, rfl, hL, hb⟩; have N2 := qh (N1.out.below hb N1.out.lt); have K2 := qh (K1.out.trans (hb.mono K1.out.size)); have L2 := qh hL; clear hb hL)) | ((with_reducible refine im_store_state rfl rfl ?_); apply StoreS.mk rfl rfl; (focus (with_reducible exact N2.out)); (focus (exact Im.zero_size)); (focus rfl)))
 refine bodyPost_ret (v := .tuple #[.agg (Im.cells u.g (.slice A1 u.g.shots.length c1) u.r), .int .i64 0]) ?_ ?_ ?_
 · exact results_cell_tmp (p := 4) (q := 5) rfl _ _ _ _ (Im.cells u.g (.slice A1 u.g.shots.length c1) u.r) _ rfl (Box.row N2.out _) Tryz.underlying40 rfl (by rw [Im.cells_size]; exact state_info)
 · rfl
 · exact ⟨A1, c1, rfl, L2.out.zero_row rfl N2.out _, Below.setRow' K2.out (by omega) _⟩
namespace Fd
def in0 : Nat → Gm.In := fun _ => ⟨0, 0, 0⟩
def joined (d : Int) (k : Nat) (p : Int) (ps : Nat → Gm.In) : S := ⟨Gm.step ps (Gm.spawn (Gm.new d) k), Ros.take Ros.new k p⟩
def left (d : Int) (k : Nat) (p : Int) (ps : Nat → Gm.In) : S := ⟨Gm.step in0 (Gm.remove (joined d k p ps).g k), Ros.give (Ros.take Ros.new k p) k⟩
theorem row_nil : En.Row (-1) [] := trivial
theorem zero_ok {p : Gm.In} (h : En.zero p = true) : En.inOk p := by
 rw [En.zero_is h]; unfold En.inOk; dsimp only; omega
section
variable {d : Int} {k : Nat} {p : Int} {ps : Nat → Gm.In}
end
def idle1 (d : Int) : S := ⟨Gm.step in0 (Gm.new d), Ros.new⟩
theorem idle_step {s : S} (hs : Fine s) (fr : Int) (hfr : fr = s.g.frame) (h0 : 0 ≤ fr ∧ fr < 1048576) : apply s ⟨fr, [], in0⟩ = some ⟨Gm.step in0 s.g, s.r⟩ := by
 have hm : May s ⟨fr, [], in0⟩ := ⟨hs.ok, ⟨h0, row_nil, fun i hi => zero_ok rfl⟩, hfr⟩
 rw [apply_done hm (changes_nil _) (fun i hi hn => rfl)]
end Fd
end Go.Proofs.YtbdlpbnfcnhajaaGreat