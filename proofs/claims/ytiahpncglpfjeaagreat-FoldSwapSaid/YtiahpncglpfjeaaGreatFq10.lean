/-
Several texts in one: Th Qg Ds Iu Hv Sb Hx Rm Sc.
-/
import Derived.Test.YtiahpncglpfjeaaGreatFq9
namespace Go.Proofs.YtiahpncglpfjeaaGreat
open Go.RowKit Go.Shelf
set_option linter.unusedVariables false
set_option linter.unusedSimpArgs false

set_option maxRecDepth 100000 in
set_option maxHeartbeats 2000000 in
theorem rosapply_join_yes (r : Ros.R) (k : Nat) (g p : Int) (w : World) (h : Ros.MayTake r k p) (hg : g = r.gen k + 1) :
    Calls Tryz.prog 23 #[.agg (Ros.cells r), .agg #[.int .i64 1, .int .i64 k, .int .i64 g, .int .i64 p]] w fun e w' => e = .returned (.tuple #[.agg (Ros.cells (Ros.take r k p)), .int .i64 0]) ∧ Below w.heap.size w w' := by
  have ct := fun X => Lib.hid (rostake_yes r k p X h)
  have P0 := Lib.hid (((Box.made w 33 (Ros.cells r)).alloc (.cells #[.int .i64 1, .int .i64 k, .int .i64 g, .int .i64 p] 61)).alloc (.cells (Ros.cells rosZero) 33))
  have P1 := Lib.hid ((Box.made_at (n := w.heap.size + 1) (w.alloc (.cells (Ros.cells r) 33)) 61 #[.int .i64 1, .int .i64 k, .int .i64 g, .int .i64 p] (by simp)).alloc (.cells (Ros.cells rosZero) 33))
  have P2 := Lib.hid (Box.made_at (n := w.heap.size + 1 + 1) ((w.alloc (.cells (Ros.cells r) 33)).alloc (.cells #[.int .i64 1, .int .i64 k, .int .i64 g, .int .i64 p] 61)) 33 (Ros.cells rosZero) (by simp))
  have PB := Lib.hid ((two_below' w (.cells (Ros.cells r) 33) (.cells #[.int .i64 1, .int .i64 k, .int .i64 g, .int .i64 p] 61)).alloc (by simp <;> omega) (.cells (Ros.cells rosZero) 33))
  have hk : k < 8 := by have := h.1.1.2; omega
  have hk8 : (k : Int) < 8 := by omega
  have cgk := Ros.cells_gen (Ros.take r k p) k hk
  rw [show (Ros.take r k p).gen k = r.gen k + 1 from Ros.upd_same _ _ _] at cgk
  obtain ⟨g', hg'⟩ : ∃ g', g' = r.gen k + 1 := ⟨_, rfl⟩
  rw [← hg'] at cgk hg
  subst hg
  clear h hg'
  have p1 := P1.out.cell
  go_enter Tryz.func23, Tryz.ntmps23
  go_upto_region 4 with (first | ((with_reducible refine ros_alloc rfl rfl ?_)) | ((with_reducible refine ros_store_new rfl rfl rfl rfl rfl ?_)) | ((with_reducible refine ros_load rfl rfl ?_); apply LoadRow.mk rfl; (focus (with_reducible exact P0.out)); (focus (exact ros_info))) | (go_at_call 47; ((with_reducible refine ((ct _).out).mono ?_); rintro e w1 ⟨rfl, hb⟩; have Q0 := Lib.hid ((P0.out.below hb P0.out.lt).alloc (.cells (Ros.cells (Ros.take r k p)) 33)); have Q1 := Lib.hid ((P1.out.below hb P1.out.lt).alloc (.cells (Ros.cells (Ros.take r k p)) 33)); have Q2 := Lib.hid ((P2.out.below hb P2.out.lt).alloc (.cells (Ros.cells (Ros.take r k p)) 33)); have QB := Lib.hid (PB.out.trans (hb.mono PB.out.size)); have q1 := Q1.out.cell; clear hb)))
  have N0 := Lib.hid (Box.made w1 33 (Ros.cells (Ros.take r k p)))
  have n0 := N0.out.cell
  have NB := Lib.hid (QB.out.alloc QB.out.size (.cells (Ros.cells (Ros.take r k p)) 33))
  go_quiet (fail)
  go_wp2_with (first | ((with_reducible refine ros_load rfl rfl ?_); apply LoadRow.mk rfl; (focus (with_reducible exact N0.out.draws _)); (focus (exact ros_info))) | ((with_reducible refine ros_store rfl rfl ?_); apply StoreRow.mk rfl rfl; (focus (with_reducible exact Q2.out.draws _)); (focus (exact ros_info)); (focus rfl); (focus (exact ros_one _))))
  have hE := (Q2.out.draws nq).row (Ros.cells (Ros.take r k p))
  refine bodyPost_ret (v := .tuple #[.agg (Ros.cells (Ros.take r k p)), .int .i64 0]) ?_ rfl ?_
  · exact results_cell_tmp (p := 4) (q := 5) rfl _ _ _ _ (Ros.cells (Ros.take r k p)) _ rfl hE Tryz.underlying33 rfl ros_info
  · exact ⟨rfl, Below.setRow' (draws_below NB.out nq) (by omega) _⟩
set_option maxRecDepth 100000 in
set_option maxHeartbeats 2000000 in
theorem rosapply_join_gen (r : Ros.R) (k : Nat) (g p : Int) (w : World) (h : Ros.MayTake r k p) (hg : g ≠ r.gen k + 1) :
    Calls Tryz.prog 23 #[.agg (Ros.cells r), .agg #[.int .i64 1, .int .i64 k, .int .i64 g, .int .i64 p]] w fun e w' => e = .returned (.tuple #[.agg (Ros.cells r), .int .i64 1]) ∧ Below w.heap.size w w' := by
  have ct := fun X => Lib.hid (rostake_yes r k p X h)
  have P0 := Lib.hid (((Box.made w 33 (Ros.cells r)).alloc (.cells #[.int .i64 1, .int .i64 k, .int .i64 g, .int .i64 p] 61)).alloc (.cells (Ros.cells rosZero) 33))
  have P1 := Lib.hid ((Box.made_at (n := w.heap.size + 1) (w.alloc (.cells (Ros.cells r) 33)) 61 #[.int .i64 1, .int .i64 k, .int .i64 g, .int .i64 p] (by simp)).alloc (.cells (Ros.cells rosZero) 33))
  have P2 := Lib.hid (Box.made_at (n := w.heap.size + 1 + 1) ((w.alloc (.cells (Ros.cells r) 33)).alloc (.cells #[.int .i64 1, .int .i64 k, .int .i64 g, .int .i64 p] 61)) 33 (Ros.cells rosZero) (by simp))
  have PB := Lib.hid ((two_below' w (.cells (Ros.cells r) 33) (.cells #[.int .i64 1, .int .i64 k, .int .i64 g, .int .i64 p] 61)).alloc (by simp <;> omega) (.cells (Ros.cells rosZero) 33))
  have hk : k < 8 := by have := h.1.1.2; omega
  have hk8 : (k : Int) < 8 := by omega
  have cgk := Ros.cells_gen (Ros.take r k p) k hk
  rw [show (Ros.take r k p).gen k = r.gen k + 1 from Ros.upd_same _ _ _] at cgk
  obtain ⟨g', hg'⟩ : ∃ g', g' = r.gen k + 1 := ⟨_, rfl⟩
  rw [← hg'] at cgk hg
  have hb : (g' == g) = false := by simp; omega
  clear h hg'
  have p1 := P1.out.cell
  go_enter Tryz.func23, Tryz.ntmps23
  go_upto_region 4 with (first | ((with_reducible refine ros_alloc rfl rfl ?_)) | ((with_reducible refine ros_store_new rfl rfl rfl rfl rfl ?_)) | ((with_reducible refine ros_load rfl rfl ?_); apply LoadRow.mk rfl; (focus (with_reducible exact P0.out)); (focus (exact ros_info))) | (go_at_call 47; ((with_reducible refine ((ct _).out).mono ?_); rintro e w1 ⟨rfl, hb⟩; have Q0 := Lib.hid ((P0.out.below hb P0.out.lt).alloc (.cells (Ros.cells (Ros.take r k p)) 33)); have Q1 := Lib.hid ((P1.out.below hb P1.out.lt).alloc (.cells (Ros.cells (Ros.take r k p)) 33)); have Q2 := Lib.hid ((P2.out.below hb P2.out.lt).alloc (.cells (Ros.cells (Ros.take r k p)) 33)); have QB := Lib.hid (PB.out.trans (hb.mono PB.out.size)); have q1 := Q1.out.cell; clear hb)))
  have N0 := Lib.hid (Box.made w1 33 (Ros.cells (Ros.take r k p)))
  have n0 := N0.out.cell
  have NB := Lib.hid (QB.out.alloc QB.out.size (.cells (Ros.cells (Ros.take r k p)) 33))
  go_quiet (fail)
  go_wp2_with (first | ((with_reducible refine ros_load rfl rfl ?_); apply LoadRow.mk rfl; (focus (with_reducible exact Q0.out.draws _)); (focus (exact ros_info))) | ((with_reducible refine ros_store rfl rfl ?_); apply StoreRow.mk rfl rfl; (focus (with_reducible exact Q2.out.draws _)); (focus (exact ros_info)); (focus rfl); (focus (exact ros_one _))))
  have hE := (Q2.out.draws nq).row (Ros.cells r)
  refine bodyPost_ret (v := .tuple #[.agg (Ros.cells r), .int .i64 1]) ?_ rfl ?_
  · exact results_cell_tmp (p := 4) (q := 5) rfl _ _ _ _ (Ros.cells r) _ rfl hE Tryz.underlying33 rfl ros_info
  · exact ⟨rfl, Below.setRow' (draws_below NB.out nq) (by omega) _⟩
set_option maxRecDepth 100000 in
set_option maxHeartbeats 2000000 in
theorem rosapply_join_no (r : Ros.R) (s g p : Int) (w : World) (h : ¬ Ros.MayTake r s p) :
    Calls Tryz.prog 23 #[.agg (Ros.cells r), .agg #[.int .i64 1, .int .i64 s, .int .i64 g, .int .i64 p]] w fun e w' => e = .returned (.tuple #[.agg (Ros.cells r), .int .i64 1]) ∧ Below w.heap.size w w' := by
  have ct := fun X => Lib.hid (rostake_no r s p X h)
  have P0 := Lib.hid (((Box.made w 33 (Ros.cells r)).alloc (.cells #[.int .i64 1, .int .i64 s, .int .i64 g, .int .i64 p] 61)).alloc (.cells (Ros.cells rosZero) 33))
  have P1 := Lib.hid ((Box.made_at (n := w.heap.size + 1) (w.alloc (.cells (Ros.cells r) 33)) 61 #[.int .i64 1, .int .i64 s, .int .i64 g, .int .i64 p] (by simp)).alloc (.cells (Ros.cells rosZero) 33))
  have P2 := Lib.hid (Box.made_at (n := w.heap.size + 1 + 1) ((w.alloc (.cells (Ros.cells r) 33)).alloc (.cells #[.int .i64 1, .int .i64 s, .int .i64 g, .int .i64 p] 61)) 33 (Ros.cells rosZero) (by simp))
  have PB := Lib.hid ((two_below' w (.cells (Ros.cells r) 33) (.cells #[.int .i64 1, .int .i64 s, .int .i64 g, .int .i64 p] 61)).alloc (by simp <;> omega) (.cells (Ros.cells rosZero) 33))
  clear h
  have p1 := P1.out.cell
  go_enter Tryz.func23, Tryz.ntmps23
  go_upto_region 4 with (first | ((with_reducible refine ros_alloc rfl rfl ?_)) | ((with_reducible refine ros_store_new rfl rfl rfl rfl rfl ?_)) | ((with_reducible refine ros_load rfl rfl ?_); apply LoadRow.mk rfl; (focus (with_reducible exact P0.out)); (focus (exact ros_info))) | (go_at_call 47; ((with_reducible refine ((ct _).out).mono ?_); rintro e w1 ⟨rfl, hb⟩; have Q0 := Lib.hid ((P0.out.below hb P0.out.lt).alloc (.cells (Ros.cells r) 33)); have Q1 := Lib.hid ((P1.out.below hb P1.out.lt).alloc (.cells (Ros.cells r) 33)); have Q2 := Lib.hid ((P2.out.below hb P2.out.lt).alloc (.cells (Ros.cells r) 33)); have QB := Lib.hid (PB.out.trans (hb.mono PB.out.size)); have q1 := Q1.out.cell; clear hb)))
  have NB := Lib.hid (QB.out.alloc QB.out.size (.cells (Ros.cells r) 33))
  go_quiet (fail)
  go_wp2_with (first | ((with_reducible refine ros_load rfl rfl ?_); apply LoadRow.mk rfl; (focus (with_reducible exact Q0.out.draws _)); (focus (exact ros_info))) | ((with_reducible refine ros_store rfl rfl ?_); apply StoreRow.mk rfl rfl; (focus (with_reducible exact Q2.out.draws _)); (focus (exact ros_info)); (focus rfl); (focus (exact ros_one _))))
  have hE := (Q2.out.draws nq).row (Ros.cells r)
  refine bodyPost_ret (v := .tuple #[.agg (Ros.cells r), .int .i64 1]) ?_ rfl ?_
  · exact results_cell_tmp (p := 4) (q := 5) rfl _ _ _ _ (Ros.cells r) _ rfl hE Tryz.underlying33 rfl ros_info
  · exact ⟨rfl, Below.setRow' (draws_below NB.out nq) (by omega) _⟩
theorem seat_eql (a b c d : Int) (w : World) : (binOp .eql 30 (.agg #[.int .i64 a, .int .i64 b]) (.agg #[.int .i64 c, .int .i64 d])).run Tryz.prog w = .ok (.bool (decide (a = c ∧ b = d))) w := by
  by_cases h1 : a = c
  · by_cases h2 : b = d
    · subst h1 h2; go_simp <;> simp
    · have h3 : (b == d) = false := by simpa using h2
      subst h1; go_simp <;> simp [h2]
  · have h3 : (a == c) = false := by simpa using h1
    go_simp <;> simp [h1]
set_option maxRecDepth 100000 in
set_option maxHeartbeats 2000000 in
theorem rosapply_leave_seat (r : Ros.R) (k : Nat) (g p : Int) (w : World) (hk : k < 8) (h : ¬ (r.peer k = p ∧ r.gen k = g)) :
    Calls Tryz.prog 23 #[.agg (Ros.cells r), .agg #[.int .i64 2, .int .i64 k, .int .i64 g, .int .i64 p]] w fun e w' => e = .returned (.tuple #[.agg (Ros.cells r), .int .i64 1]) ∧ Below w.heap.size w w' := by
  have cs := fun X => Lib.hid (rosslot_any k X)
  have P0 := Lib.hid (((Box.made w 33 (Ros.cells r)).alloc (.cells #[.int .i64 2, .int .i64 k, .int .i64 g, .int .i64 p] 61)).alloc (.cells (Ros.cells rosZero) 33))
  have P1 := Lib.hid ((Box.made_at (n := w.heap.size + 1) (w.alloc (.cells (Ros.cells r) 33)) 61 #[.int .i64 2, .int .i64 k, .int .i64 g, .int .i64 p] (by simp)).alloc (.cells (Ros.cells rosZero) 33))
  have P2 := Lib.hid (Box.made_at (n := w.heap.size + 1 + 1) ((w.alloc (.cells (Ros.cells r) 33)).alloc (.cells #[.int .i64 2, .int .i64 k, .int .i64 g, .int .i64 p] 61)) 33 (Ros.cells rosZero) (by simp))
  have PB := Lib.hid ((two_below' w (.cells (Ros.cells r) 33) (.cells #[.int .i64 2, .int .i64 k, .int .i64 g, .int .i64 p] 61)).alloc (by simp <;> omega) (.cells (Ros.cells rosZero) 33))
  have hk8 : (k : Int) < 8 := by omega
  rw [decide_eq_true (show (0 : Int) ≤ k ∧ (k : Int) < 8 from by omega)] at cs
  have cpk := Ros.cells_peer r k hk
  have cgk := Ros.cells_gen r k hk
  obtain ⟨pk, hpk⟩ : ∃ pk, r.peer k = pk := ⟨_, rfl⟩
  obtain ⟨gk, hgk⟩ : ∃ gk, r.gen k = gk := ⟨_, rfl⟩
  rw [hpk] at cpk h
  rw [hgk] at cgk h
  have he := fun W => seat_eql pk gk p g W
  simp only [decide_eq_false h] at he
  clear h hpk hgk
  have p0 := P0.out.cell
  have p1 := P1.out.cell
  go_enter Tryz.func23, Tryz.ntmps23
  go_upto_region 7 with (first | ((with_reducible refine ros_alloc rfl rfl ?_)) | ((with_reducible refine ros_store_new rfl rfl rfl rfl rfl ?_)))
  go_quiet ((go_at_call 48; with_reducible exact draws_left (cs _).out))
  go_wp2_with (first | ((with_reducible refine ros_load rfl rfl ?_); apply LoadRow.mk rfl; (focus (with_reducible exact P0.out.draws _)); (focus (exact ros_info))) | ((with_reducible refine ros_store rfl rfl ?_); apply StoreRow.mk rfl rfl; (focus (with_reducible exact P2.out.draws _)); (focus (exact ros_info)); (focus rfl); (focus (exact ros_one _))))
  have hE := (P2.out.draws nq).row (Ros.cells r)
  refine bodyPost_ret (v := .tuple #[.agg (Ros.cells r), .int .i64 1]) ?_ rfl ?_
  · exact results_cell_tmp (p := 4) (q := 5) rfl _ _ _ _ (Ros.cells r) _ rfl hE Tryz.underlying33 rfl ros_info
  · exact ⟨rfl, Below.setRow' (draws_below PB.out nq) (by omega) _⟩
set_option maxRecDepth 100000 in
set_option maxHeartbeats 2000000 in
theorem rosapply_leave_yes (r : Ros.R) (k : Nat) (w : World) (h : Ros.MayGive r k) (g p : Int) (hp : r.peer k = p) (hg : r.gen k = g) :
    Calls Tryz.prog 23 #[.agg (Ros.cells r), .agg #[.int .i64 2, .int .i64 k, .int .i64 g, .int .i64 p]] w fun e w' => e = .returned (.tuple #[.agg (Ros.cells (Ros.give r k)), .int .i64 0]) ∧ Below w.heap.size w w' := by
  have cs := fun X => Lib.hid (rosslot_any k X)
  have P0 := Lib.hid (((Box.made w 33 (Ros.cells r)).alloc (.cells #[.int .i64 2, .int .i64 k, .int .i64 g, .int .i64 p] 61)).alloc (.cells (Ros.cells rosZero) 33))
  have P1 := Lib.hid ((Box.made_at (n := w.heap.size + 1) (w.alloc (.cells (Ros.cells r) 33)) 61 #[.int .i64 2, .int .i64 k, .int .i64 g, .int .i64 p] (by simp)).alloc (.cells (Ros.cells rosZero) 33))
  have P2 := Lib.hid (Box.made_at (n := w.heap.size + 1 + 1) ((w.alloc (.cells (Ros.cells r) 33)).alloc (.cells #[.int .i64 2, .int .i64 k, .int .i64 g, .int .i64 p] 61)) 33 (Ros.cells rosZero) (by simp))
  have PB := Lib.hid ((two_below' w (.cells (Ros.cells r) 33) (.cells #[.int .i64 2, .int .i64 k, .int .i64 g, .int .i64 p] 61)).alloc (by simp <;> omega) (.cells (Ros.cells rosZero) 33))
  have hk : k < 8 := by have := h.1.2; omega
  have cg := fun X => Lib.hid (rosgive_yes r k X h)
  have hk8 : (k : Int) < 8 := by omega
  rw [decide_eq_true (show (0 : Int) ≤ k ∧ (k : Int) < 8 from by omega)] at cs
  have cpk := Ros.cells_peer r k hk
  have cgk := Ros.cells_gen r k hk
  rw [hp] at cpk
  rw [hg] at cgk
  have he := fun W => seat_eql p g p g W
  simp only [decide_eq_true (show p = p ∧ g = g from ⟨rfl, rfl⟩)] at he
  clear h hp hg
  have p0 := P0.out.cell
  have p1 := P1.out.cell
  go_enter Tryz.func23, Tryz.ntmps23
  go_upto_region 7 with (first | ((with_reducible refine ros_alloc rfl rfl ?_)) | ((with_reducible refine ros_store_new rfl rfl rfl rfl rfl ?_)))
  go_quiet ((go_at_call 48; with_reducible exact draws_left (cs _).out))
  go_wp2_with (first | ((with_reducible refine ros_load rfl rfl ?_); apply LoadRow.mk rfl; (focus (with_reducible exact P0.out.draws _)); (focus (exact ros_info))) | (go_at_call 49; ((with_reducible refine ((cg _).out).mono ?_); rintro e w1 ⟨rfl, hb⟩; have Q2 := Lib.hid ((P2.out.draws nq).below hb P2.out.lt); have QB := Lib.hid ((draws_below PB.out nq).trans (hb.mono PB.out.size)); clear hb)) | ((with_reducible refine ros_store rfl rfl ?_); apply StoreRow.mk rfl rfl; (focus (with_reducible exact Q2.out)); (focus (exact ros_info)); (focus rfl); (focus (exact ros_one _))))
  have hE := Q2.out.row (Ros.cells (Ros.give r k))
  refine bodyPost_ret (v := .tuple #[.agg (Ros.cells (Ros.give r k)), .int .i64 0]) ?_ rfl ?_
  · exact results_cell_tmp (p := 4) (q := 5) rfl _ _ _ _ (Ros.cells (Ros.give r k)) _ rfl hE Tryz.underlying33 rfl ros_info
  · exact ⟨rfl, Below.setRow' QB.out (by omega) _⟩
set_option maxRecDepth 100000 in
set_option maxHeartbeats 2000000 in
theorem rosapply_leave_no (r : Ros.R) (k : Nat) (w : World) (hk : k < 8) (h : ¬ Ros.MayGive r k) (g p : Int) (hp : r.peer k = p) (hg : r.gen k = g) :
    Calls Tryz.prog 23 #[.agg (Ros.cells r), .agg #[.int .i64 2, .int .i64 k, .int .i64 g, .int .i64 p]] w fun e w' => e = .returned (.tuple #[.agg (Ros.cells r), .int .i64 1]) ∧ Below w.heap.size w w' := by
  have cs := fun X => Lib.hid (rosslot_any k X)
  have P0 := Lib.hid (((Box.made w 33 (Ros.cells r)).alloc (.cells #[.int .i64 2, .int .i64 k, .int .i64 g, .int .i64 p] 61)).alloc (.cells (Ros.cells rosZero) 33))
  have P1 := Lib.hid ((Box.made_at (n := w.heap.size + 1) (w.alloc (.cells (Ros.cells r) 33)) 61 #[.int .i64 2, .int .i64 k, .int .i64 g, .int .i64 p] (by simp)).alloc (.cells (Ros.cells rosZero) 33))
  have P2 := Lib.hid (Box.made_at (n := w.heap.size + 1 + 1) ((w.alloc (.cells (Ros.cells r) 33)).alloc (.cells #[.int .i64 2, .int .i64 k, .int .i64 g, .int .i64 p] 61)) 33 (Ros.cells rosZero) (by simp))
  have PB := Lib.hid ((two_below' w (.cells (Ros.cells r) 33) (.cells #[.int .i64 2, .int .i64 k, .int .i64 g, .int .i64 p] 61)).alloc (by simp <;> omega) (.cells (Ros.cells rosZero) 33))
  have cg := fun X => Lib.hid (rosgive_no r k X h)
  have hk8 : (k : Int) < 8 := by omega
  rw [decide_eq_true (show (0 : Int) ≤ k ∧ (k : Int) < 8 from by omega)] at cs
  have cpk := Ros.cells_peer r k hk
  have cgk := Ros.cells_gen r k hk
  rw [hp] at cpk
  rw [hg] at cgk
  have he := fun W => seat_eql p g p g W
  simp only [decide_eq_true (show p = p ∧ g = g from ⟨rfl, rfl⟩)] at he
  clear h hp hg
  have p0 := P0.out.cell
  have p1 := P1.out.cell
  go_enter Tryz.func23, Tryz.ntmps23
  go_upto_region 7 with (first | ((with_reducible refine ros_alloc rfl rfl ?_)) | ((with_reducible refine ros_store_new rfl rfl rfl rfl rfl ?_)))
  go_quiet ((go_at_call 48; with_reducible exact draws_left (cs _).out))
  go_wp2_with (first | ((with_reducible refine ros_load rfl rfl ?_); apply LoadRow.mk rfl; (focus (with_reducible exact P0.out.draws _)); (focus (exact ros_info))) | (go_at_call 49; ((with_reducible refine ((cg _).out).mono ?_); rintro e w1 ⟨rfl, hb⟩; have Q2 := Lib.hid ((P2.out.draws nq).below hb P2.out.lt); have QB := Lib.hid ((draws_below PB.out nq).trans (hb.mono PB.out.size)); clear hb)) | ((with_reducible refine ros_store rfl rfl ?_); apply StoreRow.mk rfl rfl; (focus (with_reducible exact Q2.out)); (focus (exact ros_info)); (focus rfl); (focus (exact ros_one _))))
  have hE := Q2.out.row (Ros.cells r)
  refine bodyPost_ret (v := .tuple #[.agg (Ros.cells r), .int .i64 1]) ?_ rfl ?_
  · exact results_cell_tmp (p := 4) (q := 5) rfl _ _ _ _ (Ros.cells r) _ rfl hE Tryz.underlying33 rfl ros_info
  · exact ⟨rfl, Below.setRow' QB.out (by omega) _⟩
end Go.Proofs.YtiahpncglpfjeaaGreat
namespace Go.Proofs.YtiahpncglpfjeaaGreat
open Go.RowKit Go.Shelf
set_option linter.unusedVariables false
set_option linter.unusedSimpArgs false

set_option maxHeartbeats 1000000 in
theorem shot_eq' (s t : Gm.Shot) (w : World) : (Op.equalIn 10000 90 (.agg s.cells.toArray) (.agg t.cells.toArray)).run Tryz.prog w = .ok (s.eqB t) w := by
  obtain ⟨a1, a2, a3, a4, a5, a6⟩ := s
  obtain ⟨b1, b2, b3, b4, b5, b6⟩ := t
  have h := ifs7 w (a1 == b1) (a2 == b2) (a3 == b3) (a4 == b4) (a5 == b5) (a6 == b6) true
  simp only [beq_iff_eq, Bool.and_true] at h
  simp only [Gm.Shot.cells]
  go_simp
  have e : (if True then Result.ok true w else Result.ok false w) = (Result.ok true w : Result Bool) := if_pos trivial
  rw [e] at h
  exact h
theorem shot_neq (s t : Gm.Shot) (w : World) : (binOp .neq 90 (.agg s.cells.toArray) (.agg t.cells.toArray)).run Tryz.prog w = .ok (.bool (!s.eqB t)) w := by
  simp only [binOp]
  simp [Op.equal, Op.maxDepth, shot_eq']
theorem ships_info' : (Tryz.prog.info? 25).map (·.size) = some 56 := by kernel_rfl
theorem ships_lie' (g : Gm.G) (v : Value) : ∀ j u, (Gm.shipCells g.ship)[j]? = some u → (Gm.cells g v)[2 + j]? = some u := fun j u hu => by
  have hj : j < 56 := by have := (List.getElem?_eq_some_iff.1 hu).1; rwa [Gm.shipCells_len] at this
  rw [Gm.cells_shipj _ _ _ hj]; exact hu

def Ros.seatsEq (r q : Ros.R) : Bool := (List.range 8).all fun i => (r.peer i == q.peer i && r.gen i == q.gen i)
theorem Ros.seatsEq_iff {r q : Ros.R} : Ros.seatsEq r q = true ↔ ∀ k, k < 8 → r.peer k = q.peer k ∧ r.gen k = q.gen k := by
  unfold Ros.seatsEq; rw [List.all_eq_true]
  exact ⟨fun h i hi => by simpa using h i (by simpa using hi), fun h i hi => by simpa using h i (by simpa using hi)⟩
theorem seats_in2 (r q : Ros.R) (w : World) : (Op.equalIn 9999 31 (.agg (Ros.seatCells r).toArray) (.agg (Ros.seatCells q).toArray)).run Tryz.prog w = .ok (Ros.seatsEq r q) w := by
  cases hq : Tryz.prog.info? 30 with
  | none => have := seat2_info; simp [hq] at this
  | some j =>
    have hs : Tryz.prog.cellsOf 30 = 2 := by kernel_rfl
    rw [run_equalIn_array w 9998 _ _ Tryz.underlying31 hq, hs]
    rw [run_eqItems_all w 9998 _ 2 _ _ (fun i => .agg (Ros.pair r i).toArray) (fun i => .agg (Ros.pair q i).toArray) (fun i => (r.peer i == q.peer i && r.gen i == q.gen i)) (List.range 8)
      (fun i hi => ⟨seat_part r i (by simpa using hi) w, seat_part q i (by simpa using hi) w, by rw [show (Ros.pair r i).toArray = #[.int .i64 (r.peer i), .int .i64 (r.gen i)] from rfl, show (Ros.pair q i).toArray = #[.int .i64 (q.peer i), .int .i64 (q.gen i)] from rfl, seat_in]⟩)]
    rfl
set_option maxRecDepth 100000 in
set_option maxHeartbeats 4000000 in
theorem ros_eql (r q : Ros.R) (w : World) : (binOp .eql 33 (.agg (Ros.cells r)) (.agg (Ros.cells q))).run Tryz.prog w = .ok (.bool (r.version == q.version && Ros.seatsEq r q)) w := by
  have hs := seats_in2 r q
  generalize Ros.seatsEq r q = B at *
  simp only [Ros.cells, Ros.seatCells, Ros.pair, List.cons_append, List.nil_append] at hs ⊢
  generalize r.version = v
  generalize q.version = u
  generalize r.peer 0 = rp0 at *
  generalize r.peer 1 = rp1 at *
  generalize r.peer 2 = rp2 at *
  generalize r.peer 3 = rp3 at *
  generalize r.peer 4 = rp4 at *
  generalize r.peer 5 = rp5 at *
  generalize r.peer 6 = rp6 at *
  generalize r.peer 7 = rp7 at *
  generalize r.gen 0 = rg0 at *
  generalize r.gen 1 = rg1 at *
  generalize r.gen 2 = rg2 at *
  generalize r.gen 3 = rg3 at *
  generalize r.gen 4 = rg4 at *
  generalize r.gen 5 = rg5 at *
  generalize r.gen 6 = rg6 at *
  generalize r.gen 7 = rg7 at *
  generalize q.peer 0 = qp0 at *
  generalize q.peer 1 = qp1 at *
  generalize q.peer 2 = qp2 at *
  generalize q.peer 3 = qp3 at *
  generalize q.peer 4 = qp4 at *
  generalize q.peer 5 = qp5 at *
  generalize q.peer 6 = qp6 at *
  generalize q.peer 7 = qp7 at *
  generalize q.gen 0 = qg0 at *
  generalize q.gen 1 = qg1 at *
  generalize q.gen 2 = qg2 at *
  generalize q.gen 3 = qg3 at *
  generalize q.gen 4 = qg4 at *
  generalize q.gen 5 = qg5 at *
  generalize q.gen 6 = qg6 at *
  generalize q.gen 7 = qg7 at *
  by_cases e : v = u
  · subst e
    go_simp
    all_goals (cases B <;> simp)
  · have e2 : (v == u) = false := by simpa using e
    go_simp
    all_goals simp [e, e2]

set_option maxRecDepth 100000 in
set_option maxHeartbeats 8000000 in
theorem refsame_any (g h : Gm.G) (A B : Option Addr) (n m c d : Nat) (w : World) (hn : n = g.shots.length) (hm : m = h.shots.length) (hr : Lies w w.heap.size 6 A n (Gm.shotCells g.shots)) (hq : Lies w w.heap.size 6 B m (Gm.shotCells h.shots))
    (n63 : n ≤ maxLen) (m63 : m ≤ maxLen) :
    Calls Tryz.prog 38 #[.agg (Gm.cells g (.slice A n c)), .agg (Gm.cells h (.slice B m d))] w fun e w' => (∃ v, e = .returned (.bool v) ∧ (v = true ↔ Gm.Eq g h)) ∧ Below w.heap.size w w' := by
  have n64 : (n : Int) ≤ 9223372036854775807 := by unfold maxLen at n63; omega
  have m64 : (m : Int) ≤ 9223372036854775807 := by unfold maxLen at m63; omega
  have hN : Hid (n = g.shots.length) := Lib.hid hn
  have hM : Hid (m = h.shots.length) := Lib.hid hm
  have b1 : Box ((w.alloc (.cells (Gm.cells g (.slice A n c)) 28)).alloc (.cells (Gm.cells h (.slice B m d)) 28)) w.heap.size 28 (Gm.cells g (.slice A n c)) := (Box.made _ _ _).alloc _
  have b2 : Box ((w.alloc (.cells (Gm.cells g (.slice A n c)) 28)).alloc (.cells (Gm.cells h (.slice B m d)) 28)) (w.heap.size + 1) 28 (Gm.cells h (.slice B m d)) := Box.made_at _ _ _ (by simp)
  have ne : ∀ W, (binOp .neq 25 (.agg (Gm.shipCells g.ship).toArray) (.agg (Gm.shipCells h.ship).toArray)).run Tryz.prog W = .ok (.bool (!Gm.shipsEq g.ship h.ship)) W := fun W => ships_neq _ _ W
  have g0 := Gm.cells_0 g (.slice A n c)
  have g1 := Gm.cells_1 g (.slice A n c)
  have g58 := Gm.cells_58 g (.slice A n c)
  have h0 := Gm.cells_0 h (.slice B m d)
  have h1 := Gm.cells_1 h (.slice B m d)
  have h58 := Gm.cells_58 h (.slice B m d)
  have hB1 := Lib.hid b1
  have hB2 := Lib.hid b2
  have HE := Lib.hid (show Gm.Eq g h → g.frame = h.frame ∧ g.dice = h.dice ∧ Gm.shipsEq g.ship h.ship = true ∧ g.shots = h.shots from fun e => ⟨e.1, e.2.1, Gm.shipsEq_iff.2 e.2.2.1, e.2.2.2⟩)
  have HI := Lib.hid (show g.frame = h.frame ∧ g.dice = h.dice ∧ Gm.shipsEq g.ship h.ship = true ∧ g.shots = h.shots → Gm.Eq g h from fun e => ⟨e.1, e.2.1, Gm.shipsEq_iff.1 e.2.2.1, e.2.2.2⟩)
  generalize Gm.shipsEq g.ship h.ship = SE at *
  clear b1 b2 hn hm n63 m63
  by_cases e1 : g.frame = h.frame
  rotate_left
  · have x1 : (g.frame != h.frame) = true := by simpa using e1
    have hno := Lib.hid (show ¬ Gm.Eq g h from fun e => e1 (HE.out e).1)
    clear e1 hr hq
    have k1 := hB1.out.cell
    have k2 := hB2.out.cell
    go_enter Tryz.func38, Tryz.ntmps38
    go_wp2_with (first | (refine wpList_load_part_g (by first | rfl | kernel_rfl | simp [Region.wanted, yielded]) (ty := 25) rfl rfl hB1.out _ (ships_lie' _ _) Tryz.underlying25 rfl ships_info' ?_) | (refine wpList_load_part_g (by first | rfl | kernel_rfl | simp [Region.wanted, yielded]) (ty := 25) rfl rfl hB2.out _ (ships_lie' _ _) Tryz.underlying25 rfl ships_info' ?_))
    go_ret
    exact ⟨by first | exact ⟨false, rfl, by simp; exact hno.out⟩ | exact .inl ⟨rfl, hno.out⟩, two_below' _ _ _⟩
  have x1 : (g.frame != h.frame) = false := by simpa using e1
  by_cases e2 : g.dice = h.dice
  rotate_left
  · have x2 : (g.dice != h.dice) = true := by simpa using e2
    have hno := Lib.hid (show ¬ Gm.Eq g h from fun e => e2 (HE.out e).2.1)
    clear e1 e2 hr hq
    have k1 := hB1.out.cell
    have k2 := hB2.out.cell
    go_enter Tryz.func38, Tryz.ntmps38
    go_wp2_with (first | (refine wpList_load_part_g (by first | rfl | kernel_rfl | simp [Region.wanted, yielded]) (ty := 25) rfl rfl hB1.out _ (ships_lie' _ _) Tryz.underlying25 rfl ships_info' ?_) | (refine wpList_load_part_g (by first | rfl | kernel_rfl | simp [Region.wanted, yielded]) (ty := 25) rfl rfl hB2.out _ (ships_lie' _ _) Tryz.underlying25 rfl ships_info' ?_))
    go_ret
    exact ⟨by first | exact ⟨false, rfl, by simp; exact hno.out⟩ | exact .inl ⟨rfl, hno.out⟩, two_below' _ _ _⟩
  have x2 : (g.dice != h.dice) = false := by simpa using e2
  cases SE
  · have hno := Lib.hid (show ¬ Gm.Eq g h from fun e => by have := (HE.out e).2.2.1; cases this)
    clear e1 e2 hr hq
    have k1 := hB1.out.cell
    have k2 := hB2.out.cell
    go_enter Tryz.func38, Tryz.ntmps38
    go_wp2_with (first | (refine wpList_load_part_g (by first | rfl | kernel_rfl | simp [Region.wanted, yielded]) (ty := 25) rfl rfl hB1.out _ (ships_lie' _ _) Tryz.underlying25 rfl ships_info' ?_) | (refine wpList_load_part_g (by first | rfl | kernel_rfl | simp [Region.wanted, yielded]) (ty := 25) rfl rfl hB2.out _ (ships_lie' _ _) Tryz.underlying25 rfl ships_info' ?_))
    go_ret
    exact ⟨by first | exact ⟨false, rfl, by simp; exact hno.out⟩ | exact .inl ⟨rfl, hno.out⟩, two_below' _ _ _⟩
  by_cases e3 : n = m
  rotate_left
  · have x3 : ((n : Int) != (m : Int)) = true := by simp; omega
    have hno := Lib.hid (show ¬ Gm.Eq g h from fun e => by have h4 := (HE.out e).2.2.2; have := hN.out; have := hM.out; rw [h4] at *; omega)
    clear e1 e2 e3 hr hq
    have k1 := hB1.out.cell
    have k2 := hB2.out.cell
    go_enter Tryz.func38, Tryz.ntmps38
    go_wp2_with (first | (refine wpList_load_part_g (by first | rfl | kernel_rfl | simp [Region.wanted, yielded]) (ty := 25) rfl rfl hB1.out _ (ships_lie' _ _) Tryz.underlying25 rfl ships_info' ?_) | (refine wpList_load_part_g (by first | rfl | kernel_rfl | simp [Region.wanted, yielded]) (ty := 25) rfl rfl hB2.out _ (ships_lie' _ _) Tryz.underlying25 rfl ships_info' ?_))
    go_ret
    exact ⟨by first | exact ⟨false, rfl, by simp; exact hno.out⟩ | exact .inl ⟨rfl, hno.out⟩, two_below' _ _ _⟩
  subst e3
  have HF := Lib.hid (And.intro e1 e2)
  clear e1 e2
  have k1 := hB1.out.cell
  have k2 := hB2.out.cell
  go_enter Tryz.func38, Tryz.ntmps38
  go_wp2_with (first | (refine wpList_load_part_g (by first | rfl | kernel_rfl | simp [Region.wanted, yielded]) (ty := 25) rfl rfl hB1.out _ (ships_lie' _ _) Tryz.underlying25 rfl ships_info' ?_) | (refine wpList_load_part_g (by first | rfl | kernel_rfl | simp [Region.wanted, yielded]) (ty := 25) rfl rfl hB2.out _ (ships_lie' _ _) Tryz.underlying25 rfl ships_info' ?_))
  go_loopw [5] (fun i wr => ∃ k : Nat, k ≤ n ∧ i = .int .i64 k ∧ Box wr w.heap.size 28 (Gm.cells g (.slice A n c)) ∧ Box wr (w.heap.size + 1) 28 (Gm.cells h (.slice B n d)) ∧ Below w.heap.size w wr ∧ ∀ j, j < k → g.shots[j]? = h.shots[j]?) (fun i _ => n - (intOf i).toNat)
  case atStart => exact ⟨0, by omega, rfl, hB1.out, hB2.out, two_below' _ _ _, fun j hj => absurd hj (Nat.not_lt_zero j)⟩
  case round =>
    obtain ⟨k, hk, rfl, hB, hC, hb, hall⟩ := hrel
    have HALL := Lib.hid hall
    have hcr := hB.cell
    have hds := hC.cell
    clear hall
    by_cases hlt : k < n
    · have hkg : k < g.shots.length := by have := hN.out; omega
      have hkh : k < h.shots.length := by have := hM.out; omega
      obtain ⟨ad, rfl, hbl, a0, a1, a2, a3, a4, a5⟩ := shots_at (hr.below hb) hN.out k hkg
      obtain ⟨bd, rfl, hbm, c0, c1, c2, c3, c4, c5⟩ := shots_at (hq.below hb) hM.out k hkh
      have HS := Lib.hid (show Gm.Eq g h → g.shots[k]'hkg = h.shots[k]'hkh from fun e => by
        have h4 := (HE.out e).2.2.2
        simp only [h4])
      have HT := Lib.hid (show g.shots[k]'hkg = h.shots[k]'hkh → ∀ j, j < k + 1 → g.shots[j]? = h.shots[j]? from fun e j hj => by
        by_cases ej : j = k
        · subst ej
          rw [List.getElem?_eq_getElem hkg, List.getElem?_eq_getElem hkh, e]
        · exact HALL.out j (by omega))
      have hsn := fun W => shot_neq (g.shots[k]'hkg) (h.shots[k]'hkh) W
      have hiff := @Gm.Shot.eqB_iff (g.shots[k]'hkg) (h.shots[k]'hkh)
      generalize g.shots[k]'hkg = s at a0 a1 a2 a3 a4 a5 HS HT hsn hiff
      generalize h.shots[k]'hkh = t at c0 c1 c2 c3 c4 c5 HS HT hsn hiff
      obtain ⟨owner, x, y, vx, vy, left⟩ := s
      obtain ⟨owner2, p, q, vp, vq, left2⟩ := t
      dsimp only at a0 a1 a2 a3 a4 a5 c0 c1 c2 c3 c4 c5
      simp only [Gm.Shot.cells] at hsn
      have hk8 : (k : Int) < n := by omega
      have HB := Lib.hid hB
      have HC := Lib.hid hC
      have HBB := Lib.hid hb
      clear hr hq ne hB1 hB2 g0 g1 h0 h1 x1 x2 hB hC hb
      cases hse : Gm.Shot.eqB ⟨owner, x, y, vx, vy, left⟩ ⟨owner2, p, q, vp, vq, left2⟩
      · rw [hse] at hsn hiff
        have hno := Lib.hid (show ¬ Gm.Eq g h from fun e => by have := hiff.2 (HS.out e); cases this)
        clear hse hiff
        go_upto_region 6 with fail
        go_quiet (fail)
        go_wp2
        go_ret
        exact ⟨by first | exact ⟨false, rfl, by simp; exact hno.out⟩ | exact .inl ⟨rfl, hno.out⟩, draws_below HBB.out _⟩
      · rw [hse] at hsn hiff
        have hn2 := Lib.hid (HT.out (hiff.1 rfl))
        clear hse hiff
        go_upto_region 6 with fail
        go_quiet (fail)
        go_wp2
        go_roundw
        case rel => exact ⟨k + 1, by omega, by go_num, HB.out.draws _, HC.out.draws _, draws_below HBB.out _, hn2.out⟩
        case measure => simp [intOf]; omega
    · have hk8 : ¬ (k : Int) < n := by omega
      have hyes := Lib.hid (show Gm.Eq g h from HI.out ⟨HF.out.1, HF.out.2, trivial, List.ext_getElem? fun j => by
        by_cases hj : j < n
        · exact HALL.out j (by omega)
        · rw [List.getElem?_eq_none (by have := hN.out; omega), List.getElem?_eq_none (by have := hM.out; omega)]⟩)
      have HBB := Lib.hid hb
      clear hr hq ne hB1 hB2 g0 g1 h0 h1 x1 x2 hB hC hb
      go_wp2
      go_ret
      exact ⟨by first | exact ⟨true, rfl, by simp; exact hyes.out⟩ | exact .inr ⟨rfl, hyes.out⟩, HBB.out⟩

set_option maxRecDepth 100000 in
set_option maxHeartbeats 4000000 in
theorem refsamest_any (g h : Gm.G) (r q : Ros.R) (A B : Option Addr) (n m c d : Nat) (w : World) (hn : n = g.shots.length) (hm : m = h.shots.length) (hr : Lies w w.heap.size 6 A n (Gm.shotCells g.shots)) (hq : Lies w w.heap.size 6 B m (Gm.shotCells h.shots))
    (n63 : n ≤ maxLen) (m63 : m ≤ maxLen) :
    Calls Tryz.prog 16 #[.agg (Im.cells g (.slice A n c) r), .agg (Im.cells h (.slice B m d) q)] w fun e w' => (∃ v, e = .returned (.bool v) ∧ (v = true ↔ (Gm.Eq g h ∧ r.version = q.version ∧ ∀ k, k < 8 → r.peer k = q.peer k ∧ r.gen k = q.gen k))) ∧ Below w.heap.size w w' := by
  have P0 := Lib.hid ((Box.made w 35 (Im.cells g (.slice A n c) r)).alloc (.cells (Im.cells h (.slice B m d) q) 35))
  have Q0 := Lib.hid (Box.made_at (n := w.heap.size + 1) (w.alloc (.cells (Im.cells g (.slice A n c) r) 35)) 35 (Im.cells h (.slice B m d) q) (by simp))
  have K0 := Lib.hid (two_below' w (.cells (Im.cells g (.slice A n c) r) 35) (.cells (Im.cells h (.slice B m d) q) 35))
  have cg := Lib.hid (refsame_any g h A B n m c d _ hn hm ((hr.below K0.out).wider K0.out.size) ((hq.below K0.out).wider K0.out.size) n63 m63)
  have he := fun W => ros_eql r q W
  have HI := Lib.hid (show (r.version == q.version && Ros.seatsEq r q) = true ↔ (r.version = q.version ∧ ∀ k, k < 8 → r.peer k = q.peer k ∧ r.gen k = q.gen k) by rw [Bool.and_eq_true, Ros.seatsEq_iff]; simp)
  generalize (r.version == q.version && Ros.seatsEq r q) = E at he HI
  clear hr hq hn hm
  go_enter Tryz.func16, Tryz.ntmps16
  go_wp2_with (first | ((with_reducible refine im_load_game rfl rfl ?_); apply LoadIm.mk rfl; (focus first | (with_reducible exact P0.out) | (with_reducible exact Q0.out)); dsimp only) | ((with_reducible refine im_load_ros_g ?_ rfl ?_); (focus first | rfl | kernel_rfl | simp [Region.wanted, yielded]); apply LoadIm.mk rfl; (focus first | (with_reducible exact P1.out) | (with_reducible exact Q1.out)); dsimp only) | (go_at_call 38; ((with_reducible refine (cg.out).mono ?_); rintro e w1 ⟨⟨v, rfl, hv⟩, hb⟩; have P1 := Lib.hid (P0.out.below hb P0.out.lt); have Q1 := Lib.hid (Q0.out.below hb Q0.out.lt); have K1 := Lib.hid (K0.out.trans (hb.mono K0.out.size)); have HV := Lib.hid hv; clear hb hv; cases v)))
  all_goals
    go_ret
    first
      | exact ⟨⟨false, rfl, by simp only [Bool.false_eq_true, false_iff]; exact fun x => by have := HV.out.2 x.1; simp at this⟩, K1.out⟩
      | exact ⟨⟨E, rfl, HI.out.trans ⟨fun x => ⟨HV.out.1 (by first | trivial | rfl), x⟩, fun x => x.2⟩⟩, K1.out⟩
      | exact ⟨by simp; exact fun x => absurd (HV.out.2 x) (by simp), K1.out⟩
      | exact ⟨by simp; exact HI.out.trans ⟨fun x => ⟨HV.out.1 (by first | trivial | rfl), x⟩, fun x => x.2⟩, K1.out⟩
      | trace_state
end Go.Proofs.YtiahpncglpfjeaaGreat
namespace Go.Proofs.YtiahpncglpfjeaaGreat
open Go.RowKit
set_option linter.unusedVariables false

theorem take_snoc (s : ByteArray) (k : Nat) (h : k < s.size) : s.data.toList.take (k + 1) = s.data.toList.take k ++ [s[k]] := by
  rw [List.take_succ_eq_append_getElem (by simpa using h)]; rfl

theorem mix_wraps (h c : Int) (wh : 0 ≤ h ∧ h ≤ 18446744073709551615) (wc : 0 ≤ c ∧ c ≤ 255) : IntKind.u64.wrap (bits .xor .u64 h c * 1099511628211) = Dn.mix h c := by
  rw [u64_xor h c wh.1 (Int.lt_of_le_of_lt wh.2 (by decide)) wc.1 (Int.lt_of_le_of_lt wc.2 (by decide)), wrap_u64']; rfl

set_option maxHeartbeats 400000 in
theorem refseed_any (s : ByteArray) (w : World) (hs : s.size ≤ maxLen) :
    Calls Tryz.prog 81 #[.string s] w fun e w' => e = .returned (.int .u64 (Dn.seed s.data.toList)) ∧ w = w' := by
  unfold maxLen at hs
  go_enter Tryz.func81, Tryz.ntmps81
  go_wp2
  go_loop [3, 4] (fun n i => ∃ k : Nat, k ≤ s.size ∧ i = .int .i64 k ∧ n = .int .u64 (Dn.seed (s.data.toList.take k))) (fun _ i => s.size - (intOf i).toNat)
  case atStart => exact ⟨0, Nat.zero_le _, rfl, rfl⟩
  case round =>
    obtain ⟨k, hk, rfl, rfl⟩ := hrel
    by_cases hlt : k < s.size
    · have hb := Dn.seed_bd (s.data.toList.take k)
      have hc : (s[k].toNat : Int) ≤ 255 := by have := s[k].toNat_lt; omega
      have hm := mix_wraps (Dn.seed (s.data.toList.take k)) (s[k].toNat : Int) hb (by omega)
      have HS : Hid (Dn.seed (s.data.toList.take (k + 1)) = Dn.mix (Dn.seed (s.data.toList.take k)) (s[k].toNat : Int)) := Lib.hid (by rw [take_snoc s k hlt, Dn.seed_snoc])
      go_wp2
      all_goals
        go_round
        case rel => exact ⟨k + 1, by omega, by go_num, by rw [HS.out]⟩
        case measure => simp [intOf]; omega
    · go_wp2
      go_ret
      exact ⟨ret_int (by rw [List.take_of_length_le (by simp; omega)]), rfl⟩

theorem bytes_cell (s : ByteArray) (cap k : Nat) (hk : k < s.size) : (bytesRow s cap)[k]? = some (.int .u8 (s[k].toNat : Int)) := by
  unfold bytesRow
  rw [Array.getElem?_append_left (by simpa using hk), Array.getElem?_map]
  rw [Array.getElem?_eq_getElem (by simpa using hk)]
  rfl

set_option maxHeartbeats 400000 in
theorem wheel_any (d b p : Int) (w : World) :
    Calls Tryz.prog 119 #[.int .u64 d, .int .u64 b, .int .u64 p] w fun e w' =>
      e = .returned (.func (.func 138) #[] #[.pointer (some ⟨w.heap.size, 0, none⟩), .pointer (some ⟨w.heap.size + 1, 0, none⟩), .pointer (some ⟨w.heap.size + 2, 0, none⟩)]) ∧
      w' = ((w.alloc (.cells #[.int .u64 d] 22)).alloc (.cells #[.int .u64 b] 22)).alloc (.cells #[.int .u64 p] 22) := by
  have hmf : ∀ (fn : Fn) (first cap : Array Value) (w : World), (Instr.makeFunc fn first cap).run Tryz.prog w = .ok (.func fn first cap) w := fun _ _ _ _ => rfl
  go_enter Tryz.func119, Tryz.ntmps119
  go_wp2
  go_ret
  exact ⟨rfl, rfl⟩

set_option maxHeartbeats 400000 in
theorem turn_seed (d c : Int) (wd : 0 ≤ d ∧ d ≤ 18446744073709551615) (wc : 0 ≤ c ∧ c ≤ 255) (B : Nat) (w : World)
    (h0 : w.heap[B]? = some (.cells #[.int .u64 d] 22 (0, 0))) (h1 : w.heap[B + 1]? = some (.cells #[.int .u64 1099511628211] 22 (0, 0))) (h2 : w.heap[B + 2]? = some (.cells #[.int .u64 0] 22 (0, 0))) :
    Calls Tryz.prog 138 #[.int .u64 c, .pointer (some ⟨B, 0, none⟩), .pointer (some ⟨B + 1, 0, none⟩), .pointer (some ⟨B + 2, 0, none⟩)] w fun e w' =>
      e = .returned (.int .u64 (Dn.mix d c)) ∧ w' = w.setCell ⟨B, 0, none⟩ (.int .u64 (Dn.mix d c)) := by
  have c0 := cell_of_one h0
  have c1 := cell_of_one h1
  have c2 := cell_of_one h2
  have f0 := free_of_one h0
  have hm := mix_wraps d c wd wc
  have hb := Dn.mix_bd d c
  clear h0 h1 h2
  go_enter Tryz.func138, Tryz.ntmps138
  go_wp2
  go_ret
  exact ⟨rfl, rfl⟩

/-- What a round of Seed finds. -/
def Seeding (s : ByteArray) (B : Nat) (w wr : World) (H : Int) : Prop :=
  wr.heap[B]? = some (.cells #[.int .u64 H] 22 (0, 0)) ∧ wr.heap[B + 1]? = some (.cells #[.int .u64 1099511628211] 22 (0, 0)) ∧ wr.heap[B + 2]? = some (.cells #[.int .u64 0] 22 (0, 0)) ∧
  (∀ k (h : k < s.size), wr.cell? ⟨B + 1 + 1 + 1, k, none⟩ = some (.int .u8 (s[k].toNat : Int))) ∧ Below B w wr
theorem Seeding.on {s : ByteArray} {B : Nat} {w wr : World} {H : Int} (h : Seeding s B w wr H) (H' : Int) : Seeding s B w (wr.setCell ⟨B, 0, none⟩ (.int .u64 H')) H' := by
  obtain ⟨h0, h1, h2, hc, hb⟩ := h
  refine ⟨one_setCell h0, (Below.heap_setCell _ _ _ _ (by simp)).trans h1, (Below.heap_setCell _ _ _ _ (by simp)).trans h2, fun k hk => ?_, hb.setCell (Nat.le_refl _) _⟩
  rw [World.cell?_of_block (w := wr) (Below.heap_setCell _ _ _ _ (show B + 1 + 1 + 1 ≠ B by omega))]
  exact hc k hk
theorem at_new (w : World) (o : Obj) (i : Nat) (h : i = w.heap.size) : (w.alloc o).heap[i]? = some o := by subst h; exact heap_alloc_new w o
theorem Seeding.start (s : ByteArray) (w : World) (cap : Nat) (q : Nat × Nat) (H : Int) :
    Seeding s w.heap.size w (((((w.alloc (.cells #[.int .u64 H] 22)).alloc (.cells #[.int .u64 1099511628211] 22)).alloc (.cells #[.int .u64 0] 22)).alloc (.cells (bytesRow s cap) 5 q)).drew) H := by
  refine ⟨?_, ?_, ?_, fun k hk => ?_, ((((((Below.refl _ _).alloc (Nat.le_refl _) _).alloc (by simp) _).alloc (by simp; omega) _).alloc (by simp; omega) _)).drew⟩
  · exact (heap_alloc_old _ _ (by simp; omega)).trans ((heap_alloc_old _ _ (by simp; omega)).trans ((heap_alloc_old _ _ (by simp)).trans (at_new _ _ _ rfl)))
  · exact (heap_alloc_old _ _ (by simp)).trans ((heap_alloc_old _ _ (by simp)).trans (at_new _ _ _ (by simp)))
  · exact (heap_alloc_old _ _ (by simp)).trans (at_new _ _ _ (by simp))
  · have h3 := at_new (((w.alloc (.cells #[.int .u64 H] 22)).alloc (.cells #[.int .u64 1099511628211] 22)).alloc (.cells #[.int .u64 0] 22)) (.cells (bytesRow s cap) 5 q) (w.heap.size + 1 + 1 + 1) (by simp)
    have h4 := bytes_cell s cap k hk
    generalize (((w.alloc (.cells #[.int .u64 H] 22)).alloc (.cells #[.int .u64 1099511628211] 22)).alloc (.cells #[.int .u64 0] 22)).alloc (.cells (bytesRow s cap) 5 q) = W at *
    show W.cell? _ = _
    simp [World.cell?, h3, h4]

set_option maxHeartbeats 400000 in
theorem seed_any (s : ByteArray) (w : World) (hs : s.size ≤ maxLen) :
    Calls Tryz.prog 80 #[.string s] w fun e w' => e = .returned (.int .u64 (Dn.seed s.data.toList)) ∧ Below w.heap.size w w' := by
  unfold maxLen at hs
  have kc := fun (w : World) => run_bytes_of_string (P := Tryz.prog) w 9 72 5 s Tryz.underlying9 Tryz.underlying72 Tryz.underlying5
  have hst := fun cap q => Lib.hid (Seeding.start s w cap q 14695981039346656037)
  go_enter Tryz.func80, Tryz.ntmps80
  go_wp2_with (go_at_call 119; refine (wheel_any _ _ _ _).mono ?_; rintro e w' ⟨rfl, rfl⟩)
  go_loopw [4, 11] (fun h i wr => ∃ k : Nat, k ≤ s.size ∧ i = .int .i64 k ∧ h = .int .u64 (Dn.seed (s.data.toList.take k)) ∧ Seeding s w.heap.size w wr (Dn.seed (s.data.toList.take k))) (fun _ i _ => s.size - (intOf i).toNat)
  case atStart => exact ⟨0, Nat.zero_le _, rfl, rfl, (hst _ _).out⟩
  case round =>
    obtain ⟨k, hk, rfl, rfl, hS⟩ := hrel
    by_cases hlt : k < s.size
    · obtain ⟨c, hc⟩ : ∃ c : Int, c = (s[k].toNat : Int) := ⟨_, rfl⟩
      have hcell := hS.2.2.2.1 k hlt
      rw [← hc] at hcell
      have wc : 0 ≤ c ∧ c ≤ 255 := by have := s[k].toNat_lt; omega
      have HS : Hid (Dn.seed (s.data.toList.take (k + 1)) = Dn.mix (Dn.seed (s.data.toList.take k)) c) := Lib.hid (by rw [take_snoc s k hlt, Dn.seed_snoc, hc])
      have ct := Lib.hid (turn_seed (Dn.seed (s.data.toList.take k)) c (Dn.seed_bd _) wc w.heap.size wr hS.1 hS.2.1 hS.2.2.1)
      have HN := Lib.hid (hS.on (Dn.mix (Dn.seed (s.data.toList.take k)) c))
      clear hS hc kc hst
      go_wp2_with (go_at_call 138; refine (ct.out).mono ?_; rintro e w' ⟨rfl, rfl⟩)
      all_goals
        go_roundw
        case rel => exact ⟨k + 1, by omega, by go_num, by rw [HS.out], by rw [HS.out]; exact HN.out⟩
        case measure => simp [intOf]; omega
    · have hb := hS.2.2.2.2
      clear hS kc hst
      go_wp2
      go_ret
      exact ⟨ret_int (by rw [List.take_of_length_le (by simp; omega)]), hb⟩
end Go.Proofs.YtiahpncglpfjeaaGreat
namespace Go.Proofs.YtiahpncglpfjeaaGreat
open Go.RowKit Go.Shelf
set_option linter.unusedVariables false
set_option linter.unusedSimpArgs false

def Im.r (k : Nat) : Ros.R := ⟨0, fun i => if i < k then -1 else 0, fun _ => 0⟩
theorem Im.r_put (k : Nat) (hk : k < 8) : (Ros.cells (Im.r k)).setIfInBounds (1 + k * 2) (.int .i64 (-1)) = Ros.cells (Im.r (k + 1)) := by
  rw [Ros.cells_setp _ k hk]
  refine Ros.cells_congr rfl (fun i hi => ?_) (fun i hi => rfl)
  show Ros.upd (Im.r k).peer k (-1) i = if i < k + 1 then -1 else 0
  unfold Ros.upd Im.r
  by_cases e : i = k
  · subst e; simp
  · rw [if_neg e]
    dsimp only
    by_cases h : i < k
    · rw [if_pos h, if_pos (by omega)]
    · rw [if_neg h, if_neg (by omega)]
theorem Im.r_8 : Ros.cells (Im.r 8) = Ros.cells Ros.new := rfl
set_option maxHeartbeats 1000000 in
theorem refros_any (w : World) : Calls Tryz.prog 46 #[] w fun e w' => e = .returned (.agg (Ros.cells Ros.new)) ∧ Below w.heap.size w w' := by
  have P0 := Lib.hid ((Box.made w 33 (Ros.cells rosZero)).alloc (.cells (Ros.cells rosZero) 33))
  have P1 := Lib.hid (Box.made_at (n := w.heap.size + 1) (w.alloc (.cells (Ros.cells rosZero) 33)) 33 (Ros.cells (Im.r 0)) (by simp))
  have K1 := Lib.hid (((Below.refl w.heap.size w).alloc (Nat.le_refl _) (.cells (Ros.cells rosZero) 33)).alloc (by simp) (.cells (Ros.cells rosZero) 33))
  go_enter Tryz.func46, Tryz.ntmps46
  go_wp2_with (with_reducible refine ros_alloc rfl rfl ?_)
  go_loopw [2] (fun i wr => ∃ k : Nat, k ≤ 8 ∧ i = .int .i64 k ∧ Box wr (w.heap.size + 1) 33 (Ros.cells (Im.r k)) ∧ Box wr w.heap.size 33 (Ros.cells rosZero) ∧ Below w.heap.size w wr) (fun i _ => 8 - (intOf i).toNat)
  case atStart => exact ⟨0, by omega, rfl, P1.out, P0.out, K1.out⟩
  case round =>
    obtain ⟨k, hk, rfl, hB, hZ, hK⟩ := hrel
    clear P0 P1 K1
    by_cases hlt : k < 8
    · have hk8 : (k : Int) < 8 := by omega
      have c0 := (hB.cell (1 + k * 2)).trans (Ros.cells_peer (Im.r k) k hlt)
      have f0 := hB.free (1 + k * 2)
      have hp := hB.put (1 + k * 2) (.int .i64 (-1))
      rw [Im.r_put k hlt] at hp
      have HB := Lib.hid hp
      have HZ := Lib.hid (hZ.far (p := ⟨w.heap.size + 1, 1 + k * 2, none⟩) (show w.heap.size ≠ w.heap.size + 1 by omega) (.int .i64 (-1)))
      have HK := Lib.hid (hK.setCell (p := ⟨w.heap.size + 1, 1 + k * 2, none⟩) (Nat.le_succ _) (.int .i64 (-1)))
      clear hB hZ hK hp
      go_wp2
      go_roundw
      case rel => exact ⟨k + 1, by omega, by go_num, HB.out, HZ.out, HK.out⟩
      case measure => simp [intOf]; omega
    · have hk8 : ¬ (k : Int) < 8 := by omega
      obtain rfl : k = 8 := by omega
      rw [Im.r_8] at hB
      have HB := Lib.hid hB
      have HZ := Lib.hid hZ
      have HK := Lib.hid hK
      clear hB hZ hK
      go_wp2_with (first | ((with_reducible refine ros_load rfl rfl ?_); apply LoadRow.mk rfl; (focus (with_reducible exact HB.out)); (focus (exact ros_info))) | ((with_reducible refine ros_store rfl rfl ?_); apply StoreRow.mk rfl rfl; (focus (with_reducible exact HZ.out)); (focus (exact ros_info)); (focus rfl); (focus (exact ros_one _))))
      refine bodyPost_ret (v := .agg (Ros.cells Ros.new)) ?_ ?_ ?_
      · exact results_cell_row rfl _ _ _ _ (Ros.cells Ros.new) (0, 0) _ rfl (HZ.out.row (Ros.cells Ros.new)).is Tryz.underlying33 rfl ros_info
      · rfl
      · exact ⟨rfl, Below.setRow' HK.out (Nat.le_refl _) (Ros.cells Ros.new)⟩

set_option maxRecDepth 100000 in
theorem refnew7_any (s : ByteArray) (w : World) (hs : s.size ≤ maxLen) :
    Calls Tryz.prog 45 #[.string s] w fun e w' => e = .returned (.agg (Gm.cells (Gm.new (Dn.seed s.data.toList)) (.slice none 0 0))) ∧ Below w.heap.size w w' := by
  have c1 := fun X => Lib.hid (refseed_any s X hs)
  have hr := Lib.hid (rfl : Tryz.f45.results = _)
  go_enter Tryz.func45, Tryz.ntmps45
  go_wp2_with (first | (go_at_call 81; ((with_reducible refine ((c1 _).out).mono ?_); rintro e w' ⟨rfl, rfl⟩)) | (refine wpList_alloc_z rfl (t := 28) rfl game_zero rfl ?_) | (refine wpList_build_is rfl (t := 28) (vs := [(1, .int .u64 (Dn.seed s.data.toList))]) rfl rfl (built_new _) ?_) | (refine wpList_store_new rfl (ty := 28) rfl rfl rfl rfl rfl game_info rfl (cells_one _ _ rfl) ?_))
  refine bodyPost_ret (v := .agg (Gm.cells (Gm.new (Dn.seed s.data.toList)) (.slice none 0 0))) ?_ ?_ ?_
  · exact results_cell_row rfl _ _ _ _ (Gm.cells (Gm.new (Dn.seed s.data.toList)) (.slice none 0 0)) (0, 0) _ rfl (Box.made _ _ _).is Tryz.underlying28 rfl game_info
  · rfl
  · exact ⟨rfl, one_below _ _⟩

theorem state_built2 (g : Gm.G) (s : Value) (r : Ros.R) : Tryz.prog.built 35 [(0, .agg (Gm.cells g s)), (1, .agg (Ros.cells r))] = some (Im.cells g s r) := by kernel_rfl

set_option maxHeartbeats 1000000 in
theorem start_any (s : ByteArray) (w : World) (hs : s.size ≤ maxLen) :
    Calls Tryz.prog 22 #[.string s] w fun e w' => e = .returned (.agg (Im.cells (Gm.new (Dn.seed s.data.toList)) (.slice none 0 0) Ros.new)) ∧ Below w.heap.size w w' := by
  have P1 := Lib.hid (Box.made w 35 Im.zero)
  have K1 := Lib.hid (one_below w (.cells Im.zero 35))
  have c1 := fun X => Lib.hid (refnew7_any s X hs)
  have c2 := fun X => Lib.hid (refros_any X)
  go_enter Tryz.func22, Tryz.ntmps22
  go_wp2_with (first | (with_reducible refine alloc_state rfl rfl ?_) | (go_at_call 45; ((with_reducible refine ((c1 _).out).mono ?_); rintro e w2 ⟨rfl, hb⟩; have P2 := Lib.hid (P1.out.below hb P1.out.lt); have K2 := Lib.hid (K1.out.trans (hb.mono K1.out.size)); clear hb)) | (go_at_call 46; ((with_reducible refine ((c2 _).out).mono ?_); rintro e w3 ⟨rfl, hb⟩; have P3 := Lib.hid (P2.out.below hb P2.out.lt); have K3 := Lib.hid (K2.out.trans (hb.mono K2.out.size)); clear hb)) | (refine wpList_build_is rfl (t := 35) (vs := [(0, .agg (Gm.cells (Gm.new (Dn.seed s.data.toList)) (.slice none 0 0))), (1, .agg (Ros.cells Ros.new))]) rfl rfl (state_built2 _ _ _) ?_) | ((with_reducible refine blk_gate (t := 35) rfl rfl state_info ?_); apply StoreBlk.mk rfl rfl P3.out (im_cells_one _ _ _ rfl) (Im.cells_size _ _ _) Im.zero_size))
  refine bodyPost_ret (v := .agg (Im.cells (Gm.new (Dn.seed s.data.toList)) (.slice none 0 0) Ros.new)) ?_ ?_ ?_
  · exact results_cell_row rfl _ _ _ _ (Im.cells (Gm.new (Dn.seed s.data.toList)) (.slice none 0 0) Ros.new) (0, 0) _ rfl (P3.out.row _).is Tryz.underlying35 rfl (by rw [Im.cells_size]; exact state_info)
  · rfl
  · exact ⟨rfl, Below.setRow' K3.out (Nat.le_refl _) _⟩

end Go.Proofs.YtiahpncglpfjeaaGreat
namespace Go.Proofs.YtiahpncglpfjeaaGreat
open Go.RowKit
set_option linter.unusedVariables false

theorem ships_info : (Tryz.prog.info? 25).map (·.size) = some 56 := by kernel_rfl
theorem ships_part (g : Gm.G) (v : Value) : ∀ j u, (Gm.shipCells g.ship)[j]? = some u → (Gm.cells g v)[2 + j]? = some u := fun j u hu => by
  have hj : j < 56 := by have := (List.getElem?_eq_some_iff.1 hu).1; rwa [Gm.shipCells_len] at this
  rw [Gm.cells_shipj _ _ _ hj]; exact hu

set_option maxRecDepth 100000 in
set_option maxHeartbeats 4000000 in
theorem new_any (s : ByteArray) (w : World) (hs : s.size ≤ maxLen) :
    Calls Tryz.prog 43 #[.string s] w fun e w' => e = .returned (.agg (Gm.cells (Gm.new (Dn.seed s.data.toList)) (.slice none 0 0))) ∧ Below w.heap.size w w' := by
  have c1 := fun X => Lib.hid (seed_any s X hs)
  have hb0 := Lib.hid (one_below w (.cells (Gm.cells zeroG (.slice none 0 0)) 28))
  have B0 := Lib.hid (Box.made w 28 (Gm.cells zeroG (.slice none 0 0)))
  go_enter Tryz.func43, Tryz.ntmps43
  go_wp2_with (first | (go_at_call 80; ((with_reducible refine ((c1 _).out).mono ?_); rintro e w1 ⟨rfl, hb1⟩; have B1 := Lib.hid (B0.out.below hb1 B0.out.lt); have HB1 := Lib.hid (hb0.out.trans (hb1.mono hb0.out.size)); clear hb1)) | (refine wpList_alloc_game rfl rfl ?_) | (refine wpList_build_is rfl (t := 28) (vs := [(1, .int .u64 (Dn.seed s.data.toList))]) rfl rfl (built_new _) ?_) | ((with_reducible refine store_gate rfl rfl ?_); apply StoreGame.mk rfl rfl rfl; exact B1.out))
  refine bodyPost_ret (v := .agg (Gm.cells (Gm.new (Dn.seed s.data.toList)) (.slice none 0 0))) ?_ ?_ ?_
  · exact results_cell_row rfl _ _ _ _ (Gm.cells (Gm.new (Dn.seed s.data.toList)) (.slice none 0 0)) (0, 0) _ rfl (Box.row B1.out _).is Tryz.underlying28 rfl game_info
  · rfl
  · exact ⟨rfl, Below.setRow' HB1.out (Nat.le_refl _) _⟩
end Go.Proofs.YtiahpncglpfjeaaGreat
namespace Go.Proofs.YtiahpncglpfjeaaGreat
open Go.RowKit Go.Shelf
set_option linter.unusedVariables false
set_option linter.unusedSimpArgs false

/-- What a function of states leaves: a state with a list of its own (or the caller's), a code. -/
def SOut (g' : Gm.G) (r' : Ros.R) (code : Int) (w : World) (e : Ending) (w' : World) : Prop :=
  ∃ A c, e = .returned (.tuple #[.agg (Im.cells g' (.slice A g'.shots.length c) r'), .int .i64 code]) ∧ Lies w' w'.heap.size 6 A g'.shots.length (Gm.shotCells g'.shots) ∧ Below w.heap.size w w'
/-- The same with the state alone. -/
def SOne (g' : Gm.G) (r' : Ros.R) (w : World) (e : Ending) (w' : World) : Prop :=
  ∃ A c, e = .returned (.agg (Im.cells g' (.slice A g'.shots.length c) r')) ∧ Lies w' w'.heap.size 6 A g'.shots.length (Gm.shotCells g'.shots) ∧ Below w.heap.size w w'
/-- A fault was thrown, and nothing else came of it. -/
def Thrown (code : Int) (w : World) (e : Ending) (w' : World) : Prop := e = .panicked [{ v := .iface 97 (.int .i64 code), recovered := false }] ∧ Below w.heap.size w w'

theorem need_ok (w : World) : Calls Tryz.prog 61 #[.int .i64 0] w fun e w' => e = .returned (.tuple #[]) ∧ Below w.heap.size w w' := by
  go_enter Tryz.func61, Tryz.ntmps61
  go_wp2
  go_end0
  exact ⟨rfl, Below.refl _ _⟩
theorem need_throws (w : World) : Calls Tryz.prog 61 #[.int .i64 1] w (Thrown 1 w) := by
  go_enter Tryz.func61, Tryz.ntmps61
  go_wp2
  exact ⟨rfl, rfl, Below.refl _ _⟩
theorem needthat_yes (w : World) : Calls Tryz.prog 57 #[.bool true] w fun e w' => e = .returned (.tuple #[]) ∧ Below w.heap.size w w' := by
  go_enter Tryz.func57, Tryz.ntmps57
  go_wp2
  go_end0
  exact ⟨rfl, Below.refl _ _⟩
theorem needthat_no (w : World) : Calls Tryz.prog 57 #[.bool false] w (Thrown 1 w) := by
  have c1 := fun X => Lib.hid (need_throws X)
  go_enter Tryz.func57, Tryz.ntmps57
  go_wp2_with (first | (go_at_call 61; ((with_reducible refine ((c1 _).out).mono ?_); rintro e w1 ⟨rfl, hb⟩)))
  exact ⟨rfl, rfl, hb⟩

set_option maxRecDepth 100000 in
set_option maxHeartbeats 1000000 in
theorem foldown_any (g : Gm.G) (r : Ros.R) (A : Option Addr) (n c : Nat) (w : World) (hn60 : n ≤ 60) (hn : n = g.shots.length) (hr : Lies w w.heap.size 6 A n (Gm.shotCells g.shots)) :
    Calls Tryz.prog 42 #[.agg (Im.cells g (.slice A n c) r)] w (SOne g r w) := by
  have P0 := Lib.hid ((Box.made w 35 (Im.cells g (.slice A n c) r)).alloc (.cells Im.zero 35))
  have Q0 := Lib.hid (Box.made_at (n := w.heap.size + 1) (w.alloc (.cells (Im.cells g (.slice A n c) r) 35)) 35 Im.zero (by simp))
  have K0 := Lib.hid (two_below' w (.cells (Im.cells g (.slice A n c) r) 35) (.cells Im.zero 35))
  have c1 := Lib.hid (clone_any g.shots A n c _ hn hn60 ((hr.below K0.out).wider K0.out.size))
  have hc := P0.out.cell
  have e58 : (Im.cells g (.slice A n c) r)[58]? = some (.slice A n c) := (Im.cells_g _ _ _ 58 (by omega)).trans (Gm.cells_58 _ _)
  have hN := Lib.hid hn
  clear hr hn
  go_enter Tryz.func42, Tryz.ntmps42
  go_upto_region 2 with (first | (with_reducible refine alloc_state rfl rfl ?_) | (go_at_call 79; ((with_reducible refine ((c1).out).mono ?_); rintro e w1 ⟨A', c', rfl, ho, hb⟩; have D1 := P0.out.below hb P0.out.lt; have D2 := Lib.hid (Q0.out.below hb Q0.out.lt); have k1 := D1.cell; have f1 := D1.free; have O1 := Lib.hid ho; have HB1 := Lib.hid (K0.out.trans (hb.mono K0.out.size)); have F1 := Lib.hid (show Box (w1.setCell ⟨w.heap.size, 58, none⟩ (.slice A' n c')) w.heap.size 35 (Im.cells g (.slice A' n c') r) from Im.cells_shots g _ _ r ▸ D1.put 58 (.slice A' n c')); have F2 := Lib.hid (D2.out.far (p := ⟨w.heap.size, 58, none⟩) (show w.heap.size + 1 ≠ w.heap.size by omega) (.slice A' n c')); have nO := Lib.hid (D1.unowned ho (by decide)); clear hb ho D1)))
  go_wp2_with (first | ((with_reducible refine im_load_state rfl rfl ?_); apply LoadIm.mk rfl; (focus (with_reducible exact F1.out)); dsimp only) | ((with_reducible refine im_store_state rfl rfl ?_); apply StoreS.mk rfl rfl; (focus (with_reducible exact F2.out)); (focus (exact Im.zero_size)); (focus rfl)))
  have hn := hN.out
  subst hn
  refine bodyPost_ret (v := .agg (Im.cells g (.slice A' g.shots.length c') r)) ?_ ?_ ?_
  · exact results_cell_row rfl _ _ _ _ (Im.cells g (.slice A' g.shots.length c') r) (0, 0) _ rfl (F2.out.row _).is Tryz.underlying35 rfl (by rw [Im.cells_size]; exact state_info)
  · rfl
  · refine ⟨A', c', rfl, ?_, ?_⟩
    · have h := ownsRow_setCell_other (a := ⟨w.heap.size, 58, none⟩) O1.out nO.out (.slice A' g.shots.length c')
      exact Lies.owned (own_setRow h (F2.out.unowned h (by decide)) (Im.cells g (.slice A' g.shots.length c') r))
    · exact Below.setRow' (HB1.out.setCell (p := ⟨w.heap.size, 58, none⟩) (Nat.le_refl _) _) (by omega) _

set_option maxHeartbeats 1000000 in
theorem foldstart_any (s : ByteArray) (w : World) (hs : s.size ≤ maxLen) :
    Calls Tryz.prog 20 #[.string s] w fun e w' => e = .returned (.agg (Im.cells (Gm.new (Dn.seed s.data.toList)) (.slice none 0 0) Ros.new)) ∧ Below w.heap.size w w' := by
  have P1 := Lib.hid (Box.made w 35 Im.zero)
  have K1 := Lib.hid (one_below w (.cells Im.zero 35))
  have c1 := fun X => Lib.hid (new_any s X hs)
  have c2 := fun X => Lib.hid (rosnew_any X)
  go_enter Tryz.func20, Tryz.ntmps20
  go_wp2_with (first | (with_reducible refine alloc_state rfl rfl ?_) | (go_at_call 43; ((with_reducible refine ((c1 _).out).mono ?_); rintro e w2 ⟨rfl, hb⟩; have P2 := Lib.hid (P1.out.below hb P1.out.lt); have K2 := Lib.hid (K1.out.trans (hb.mono K1.out.size)); clear hb)) | (go_at_call 44; ((with_reducible refine ((c2 _).out).mono ?_); rintro e w3 ⟨rfl, hb⟩; have P3 := Lib.hid (P2.out.below hb P2.out.lt); have K3 := Lib.hid (K2.out.trans (hb.mono K2.out.size)); clear hb)) | (refine wpList_build_is rfl (t := 35) (vs := [(0, .agg (Gm.cells (Gm.new (Dn.seed s.data.toList)) (.slice none 0 0))), (1, .agg (Ros.cells Ros.new))]) rfl rfl (state_built2 _ _ _) ?_) | ((with_reducible refine blk_gate (t := 35) rfl rfl state_info ?_); apply StoreBlk.mk rfl rfl P3.out (im_cells_one _ _ _ rfl) (Im.cells_size _ _ _) Im.zero_size))
  refine bodyPost_ret (v := .agg (Im.cells (Gm.new (Dn.seed s.data.toList)) (.slice none 0 0) Ros.new)) ?_ ?_ ?_
  · exact results_cell_row rfl _ _ _ _ (Im.cells (Gm.new (Dn.seed s.data.toList)) (.slice none 0 0) Ros.new) (0, 0) _ rfl (P3.out.row _).is Tryz.underlying35 rfl (by rw [Im.cells_size]; exact state_info)
  · rfl
  · exact ⟨rfl, Below.setRow' K3.out (Nat.le_refl _) _⟩

set_option maxHeartbeats 1000000 in
theorem foldmay_any (g : Gm.G) (r : Ros.R) (A : Option Addr) (n c : Nat) (w : World) (hty : Gm.ty g) (hn63 : n ≤ maxLen) (hn : n = g.shots.length) (hr : Lies w w.heap.size 6 A n (Gm.shotCells g.shots)) :
    Calls Tryz.prog 14 #[.agg (Im.cells g (.slice A n c) r)] w fun e w' => (∃ v, e = .returned (.bool v) ∧ (v = true ↔ Im.Ok g r)) ∧ Below w.heap.size w w' := by
  have P0 := Lib.hid (Box.made w 35 (Im.cells g (.slice A n c) r))
  have K0 := Lib.hid (one_below w (.cells (Im.cells g (.slice A n c) r) 35))
  have hr0 := (hr.below K0.out).wider K0.out.size
  by_cases hok : Im.Ok g r
  · have cp := Lib.hid (put_yes g r A n c _ hok hty.2.1 hn hr0)
    have HOK := Lib.hid hok
    clear hr hn hok hr0 hty
    go_enter Tryz.func14, Tryz.ntmps14
    go_wp2_with (first | ((with_reducible refine im_load_state rfl rfl ?_); apply LoadIm.mk rfl; (focus (with_reducible exact P0.out)); dsimp only) | (go_at_call 35; ((with_reducible refine ((cp).out).mono ?_); rintro e w1 ⟨A1, c1, rfl, _, hb⟩; have K1 := Lib.hid (K0.out.trans (hb.mono K0.out.size)); clear hb)))
    go_ret
    exact ⟨⟨true, rfl, fun _ => HOK.out, fun _ => rfl⟩, K1.out⟩
  · have cp := Lib.hid (put_no g r A n c _ hok hty hn hn63 hr0)
    have HOK := Lib.hid hok
    clear hr hn hok hr0 hty
    go_enter Tryz.func14, Tryz.ntmps14
    go_wp2_with (first | ((with_reducible refine im_load_state rfl rfl ?_); apply LoadIm.mk rfl; (focus (with_reducible exact P0.out)); dsimp only) | (go_at_call 35; ((with_reducible refine ((cp).out).mono ?_); rintro e w1 ⟨rfl, hb⟩; have K1 := Lib.hid (K0.out.trans (hb.mono K0.out.size)); clear hb)))
    go_ret
    exact ⟨⟨false, rfl, ⟨fun h => (by cases h), fun h => absurd h HOK.out⟩⟩, K1.out⟩
end Go.Proofs.YtiahpncglpfjeaaGreat
namespace Go.Proofs.YtiahpncglpfjeaaGreat
open Go.RowKit
set_option linter.unusedVariables false

set_option maxRecDepth 100000 in
set_option maxHeartbeats 2000000 in
theorem remove_yes (g : Gm.G) (A : Option Addr) (n c i : Nat) (w : World) (hg : Gm.ok g) (hn : n = g.shots.length) (hr : Lies w w.heap.size 6 A n (Gm.shotCells g.shots)) (hi : i < 8) (ho : (g.ship i).on = true) (h0 : g.shots = []) :
    Calls Tryz.prog 97 #[.agg (Gm.cells g (.slice A n c)), .int .i64 i] w (Out { g with ship := Gm.upd g.ship i Gm.Ship.none } 0 w) := by
  have b1 : Box (((w.alloc (.cells (Gm.cells g (.slice A n c)) 28)).alloc (.cells #[.int .i64 i] 3)).alloc (.cells (Gm.cells zeroG (.slice none 0 0)) 28)) w.heap.size 28 (Gm.cells g (.slice A n c)) := ((Box.made _ _ _).alloc _).alloc _
  have b2 : Box (((w.alloc (.cells (Gm.cells g (.slice A n c)) 28)).alloc (.cells #[.int .i64 i] 3)).alloc (.cells (Gm.cells zeroG (.slice none 0 0)) 28)) (w.heap.size + 1 + 1) 28 (Gm.cells zeroG (.slice none 0 0)) := Box.made_at _ _ _ (by simp)
  have b3 : Box (((w.alloc (.cells (Gm.cells g (.slice A n c)) 28)).alloc (.cells #[.int .i64 i] 3)).alloc (.cells (Gm.cells zeroG (.slice none 0 0)) 28)) (w.heap.size + 1) 3 #[.int .i64 i] := (Box.made_at _ _ _ (by simp)).alloc _
  have hb0 := (two_below' w (.cells (Gm.cells g (.slice A n c)) 28) (.cells #[.int .i64 i] 3)).alloc (by simp <;> omega) (.cells (Gm.cells zeroG (.slice none 0 0)) 28)
  have co := Lib.hid (own_any g A n c _ hn (by have := hg.2.2.1; omega) ((hr.below hb0).wider hb0.size))
  have cm := fun X (hX : Below w.heap.size w X) => Lib.hid (may_yes g A n c X hg hn ((hr.below hX).wider hX.size))
  have cs := fun X => Lib.hid (isslot_any i (by omega) X)
  rw [decide_eq_true (show (0 : Int) ≤ i by omega), decide_eq_true (show (i : Int) < 8 by omega), Bool.and_self] at cs
  have q0 : (Gm.cells g (.slice A n c))[2 + i * 7]? = some (.bool true) := (Gm.cells_ship g _ i 0 hi (by omega)).trans (by show some (Value.bool (g.ship i).on) = _; rw [ho])
  have hi8 : (i : Int) < 8 := by omega
  obtain ⟨t, ht⟩ : ∃ t, t = g.ship i := ⟨_, rfl⟩
  have r0 : ∀ s, (Gm.cells g s)[2 + i * 7]? = some (.bool t.on) := fun s => (Gm.cells_ship g s i 0 hi (by omega)).trans (by rw [ht]; rfl)
  have r1 : ∀ s, (Gm.cells g s)[2 + i * 7 + 1]? = some (.int .i32 t.x) := fun s => (Gm.cells_ship g s i 1 hi (by omega)).trans (by rw [ht]; rfl)
  have r2 : ∀ s, (Gm.cells g s)[2 + i * 7 + 2]? = some (.int .i32 t.y) := fun s => (Gm.cells_ship g s i 2 hi (by omega)).trans (by rw [ht]; rfl)
  have r3 : ∀ s, (Gm.cells g s)[2 + i * 7 + 3]? = some (.int .i32 t.vx) := fun s => (Gm.cells_ship g s i 3 hi (by omega)).trans (by rw [ht]; rfl)
  have r4 : ∀ s, (Gm.cells g s)[2 + i * 7 + 4]? = some (.int .i32 t.vy) := fun s => (Gm.cells_ship g s i 4 hi (by omega)).trans (by rw [ht]; rfl)
  have r5 : ∀ s, (Gm.cells g s)[2 + i * 7 + 5]? = some (.int .i64 t.cool) := fun s => (Gm.cells_ship g s i 5 hi (by omega)).trans (by rw [ht]; rfl)
  have r6 : ∀ s, (Gm.cells g s)[2 + i * 7 + 6]? = some (.int .i64 t.score) := fun s => (Gm.cells_ship g s i 6 hi (by omega)).trans (by rw [ht]; rfl)
  have hN := Lib.hid hn
  have H0 := Lib.hid h0
  have HB := Lib.hid hb0
  have B1 := Lib.hid b1
  have B2 := Lib.hid b2
  have B3 := Lib.hid b3
  clear hr hn b1 b2 b3 hb0 ho hg ht h0
  go_enter Tryz.func97, Tryz.ntmps97
  go_upto_region 5 with (first | (refine wpList_alloc_game rfl rfl ?_) | ((with_reducible refine load_gate rfl rfl ?_); apply LoadGame.mk rfl; (with_reducible exact B1.out)) | ((with_reducible refine load_gate rfl rfl ?_); apply LoadGame.mk rfl; (with_reducible exact D1.out)) | ((with_reducible refine load_gate rfl rfl ?_); apply LoadGame.mk rfl; exact F1.out) | (go_at_call 98; ((with_reducible refine (co.out).mono ?_); rintro e w1 ⟨A1, c1, rfl, ho1, hb1⟩; have HB1 := Lib.hid ((HB.out.trans (hb1.mono HB.out.size)).alloc (by have := hb1.size; simp at this; omega) (.cells (Gm.cells g (.slice A1 n c1)) 28)); have O1 := Lib.hid ((own_rebase (base' := w.heap.size) ho1 (by simp; omega)).alloc (.cells (Gm.cells g (.slice A1 n c1)) 28)); have D1 := Lib.hid ((B1.out.below hb1 (by simp <;> omega)).alloc (.cells (Gm.cells g (.slice A1 n c1)) 28)); have D2 := Lib.hid ((B2.out.below hb1 (by simp <;> omega)).alloc (.cells (Gm.cells g (.slice A1 n c1)) 28)); have D3 := Lib.hid ((B3.out.below hb1 (by simp <;> omega)).alloc (.cells (Gm.cells g (.slice A1 n c1)) 28)); have s1 : w.heap.size + 1 + 1 < w1.heap.size := (by have := hb1.size; simp at this; omega); have ho1H := Lib.hid ho1; clear ho1 hb1)) | (refine wpList_store_game_new rfl rfl rfl rfl rfl rfl ?_) | (go_at_call 24; ((with_reducible refine ((cm _ HB1.out).out).mono ?_); rintro e w2 ⟨rfl, hb2⟩; have HB2 := Lib.hid (HB1.out.trans (hb2.mono HB1.out.size)); have O2 := Lib.hid (own_below O1.out hb2 (Nat.le_refl _)); have F1 := Lib.hid ((Box.made w1 28 (Gm.cells g (.slice A1 n c1))).below hb2 (by simp)); have f1c := F1.out.cell; have f1f := F1.out.free; have H9 := Lib.hid ((has_made (w := w) hN.out (own_rebase (base' := w.heap.size) ho1H.out (by simp; omega))).call hb2); have E1 := (D1.out.below hb2 D1.out.lt).cell; have E3' := D3.out.below hb2 D3.out.lt; have E3 := E3'.cell; have E3H := Lib.hid E3'; have G2 := Lib.hid (D2.out.below hb2 D2.out.lt); clear hb2)) | (go_at_call 91; ((with_reducible refine ((cs _).out).mono ?_); rintro e w' ⟨rfl, rfl⟩)) | ((with_reducible refine store_gate rfl rfl ?_); apply StoreGame.mk rfl rfl rfl; exact G2.out))
  have W5 : Has w.heap.size w1.heap.size { g with ship := Gm.upd g.ship i Gm.Ship.none } (stored w2 w1.heap.size i Gm.Ship.none) := H9.out.stored hi _
  have K5 := (Keep.refl (show w.heap.size ≤ w1.heap.size by omega) w2).stored (k := i) Gm.Ship.none
  obtain ⟨W, hW⟩ : ∃ W, W = stored w2 w1.heap.size i Gm.Ship.none := ⟨_, rfl⟩
  rw [← hW] at W5 K5
  simp only [stored, Gm.Ship.none] at hW
  rw [← hW]
  have ck := Lib.hid (keep_none { g with ship := Gm.upd g.ship i Gm.Ship.none } w.heap.size w1.heap.size (.func (.func 127) #[] #[.pointer (some ⟨w.heap.size + 1, 0, none⟩)]) W (by omega) W5 H0.out)
  have hmf : ∀ (fn : Fn) (first cap : Array Value) (w : World), (Instr.makeFunc fn first cap).run Tryz.prog w = .ok (.func fn first cap) w := fun _ _ _ _ => rfl
  have ne2 : w.heap.size + 1 + 1 ≠ w1.heap.size := by omega
  have R5 := Lib.hid (G2.out.keep K5 ne2 (by decide))
  have KK5 := Lib.hid (HB2.out.trans (K5.to HB2.out.size))
  clear hW W5 K5 E1 E3 f1c f1f r0 r1 r2 r3 r4 r5 r6
  go_wp2_with (first | (go_at_call 103; ((with_reducible refine (ck.out).mono ?_); rintro e w4 ⟨rfl, h4, k4⟩; obtain ⟨A4, c4, B4, O4⟩ := h4; have F4 := Lib.hid B4; have O4H := Lib.hid O4; have R4 := Lib.hid (R5.out.keep k4 ne2 (by decide)); have K4 := Lib.hid (KK5.out.trans (k4.to KK5.out.size)); clear B4 O4 k4)) | ((with_reducible refine load_gate rfl rfl ?_); apply LoadGame.mk rfl; exact F4.out) | ((with_reducible refine store_gate rfl rfl ?_); apply StoreGame.mk rfl rfl rfl; exact R4.out))
  refine bodyPost_ret (v := .tuple #[.agg (Gm.cells { g with ship := Gm.upd g.ship i Gm.Ship.none } (.slice A4 g.shots.length c4)), .int .i64 0]) ?_ ?_ ?_
  · exact results_cell_tmp (p := 4) (q := 5) rfl _ _ _ _ (Gm.cells { g with ship := Gm.upd g.ship i Gm.Ship.none } (.slice A4 g.shots.length c4)) _ rfl (Box.row R4.out _) Tryz.underlying28 rfl game_info
  · rfl
  · exact ⟨A4, c4, rfl, Lies.owned (own_setRow O4H.out (R4.out.unowned O4H.out (by decide)) _), Below.setRow' K4.out (by omega) _⟩
end Go.Proofs.YtiahpncglpfjeaaGreat
namespace Go.Proofs.YtiahpncglpfjeaaGreat
open Go.RowKit Go.Shelf
set_option linter.unusedVariables false
set_option linter.unusedSimpArgs false

theorem HasAt.draws {b B : Nat} {A : Option Addr} {c : Nat} {g : Gm.G} {w : World} (h : HasAt b B A c g w) (n : Nat) : HasAt b B A c g (w.drewN n) := ⟨⟨h.game.is⟩, h.own⟩
theorem HasAt.shotIs {b B c gs i : Nat} {G : Gm.G} {W : World} (h : HasAt b B (some ⟨gs, 0, none⟩) c G W) (hi : i < G.shots.length) (j : Nat) (hj : j < 6) : W.cell? ⟨gs, i * 6 + j, none⟩ = G.shots[i].cells[j]? := by
  have h1 := h.own
  rw [h1.cellAt (i * 6 + j) (by omega), Gm.shotCells_at _ i j hi hj]
theorem Keep.draws {b B : Nat} {w w' : World} (h : Keep b B w w') (n : Nat) : Keep b B w (w'.drewN n) := ⟨h.os, h.tape, h.output, h.size, h.low, h.block⟩

set_option maxHeartbeats 1000000 in
theorem other_owner (G : Gm.G) (b B c gs j Bi : Nat) (i : Int) (w : World) (hbB : b ≤ B) (hj : j < G.shots.length) (h : HasAt b B (some ⟨gs, 0, none⟩) c G w) (hi : Box w Bi 3 #[.int .i64 i]) :
    Calls Tryz.prog 127 #[.pointer (some ⟨gs, j * 6, none⟩), .pointer (some ⟨Bi, 0, none⟩)] w fun e w' => e = .returned (.bool (decide (G.shots[j].owner ≠ i))) ∧ HasAt b B (some ⟨gs, 0, none⟩) c G w' ∧ Keep b B w w' ∧ Box w' Bi 3 #[.int .i64 i] := by
  have q0 := h.shotIs hj 0 (by omega)
  generalize hs : G.shots[j] = s at q0 ⊢
  obtain ⟨so, sx, sy, svx, svy, sl⟩ := s
  simp only [Gm.Shot.cells, List.getElem?_cons_zero, Nat.add_zero] at q0
  have r0 := hi.cell 0
  simp only [List.getElem?_toArray, List.getElem?_cons_zero] at r0
  have H := Lib.hid h
  have HI := Lib.hid hi
  clear h hs hi
  go_enter Tryz.func127, Tryz.ntmps127
  by_cases ho : so = i
  · subst ho
    go_upto_region 1 with fail
    go_quiet (fail)
    go_wp2
    go_ret
    exact ⟨by simp, H.out.draws _, (Keep.refl hbB _).draws _, ⟨HI.out.is⟩⟩
  · have hne : (so != i) = true := by simpa using ho
    go_upto_region 1 with fail
    go_quiet (fail)
    go_wp2
    go_ret
    exact ⟨by simp [ho], H.out.draws _, (Keep.refl hbB _).draws _, ⟨HI.out.is⟩⟩

def oth (i : Int) : Gm.Shot → Bool := fun s => decide (s.owner ≠ i)
theorem oth_snoc (i : Int) (l : List Gm.Shot) (j : Nat) (hj : j < l.length) : (l.take (j + 1)).filter (oth i) = (l.take j).filter (oth i) ++ (if oth i l[j] then [l[j]] else []) := by
  rw [List.take_succ_eq_append_getElem hj, List.filter_append]
  congr 1
  cases h : oth i l[j] <;> simp [h]
set_option maxRecDepth 100000 in
set_option maxHeartbeats 4000000 in
theorem keep_rest (g : Gm.G) (b B Bi : Nat) (iv : Int) (w : World) (hbB : b ≤ B) (h : Has b B g w) (hne : g.shots.length ≠ 0) (hlen : g.shots.length ≤ 32) (hi : Box w Bi 3 #[.int .i64 iv]) :
    Calls Tryz.prog 103 #[.pointer (some ⟨B, 0, none⟩), .func (.func 127) #[] #[.pointer (some ⟨Bi, 0, none⟩)]] w fun e w' => e = .returned (.tuple #[]) ∧ Has b B { g with shots := g.shots.filter (oth iv) } w' ∧ Keep b B w w' := by
  obtain ⟨A, c, hB, hO⟩ := h
  have h : HasAt b B A c g w := ⟨hB, hO⟩
  obtain ⟨gs, rfl, hbg, _⟩ := h.len hne
  obtain ⟨m, hm⟩ : ∃ m, m = g.shots.length := ⟨_, rfl⟩
  have start : Stays b B c gs 0 w g ⟨g.dice, g.ship, []⟩ g.shots (.slice (some ⟨gs, 0, none⟩) 0 c) w :=
    ⟨rfl, Nat.le_refl _, rfl, fun _ _ => rfl, rfl, h, Keep.refl hbB w⟩
  have START := Lib.hid start
  have HI0 := Lib.hid hi
  have hcc := hB.cell
  have e58 := Gm.cells_58 g (.slice (some ⟨gs, 0, none⟩) g.shots.length c)
  rw [← hm] at hcc e58 hne hlen
  obtain ⟨i0, hi0, hz0, hz1, hz2⟩ := info_parts shot_info
  have hI := Lib.hid hi0
  have hS := Lib.hid hz1
  have HM := Lib.hid hm
  clear hB hO h start hi0 hz0 hz1 hz2 hm hi
  go_enter Tryz.func103, Tryz.ntmps103
  go_wp2
  go_loopg [4, 16] m (fun gg s4 i wr => ∃ (j : Nat) (L : List Gm.Shot), j ≤ m ∧ gg = m - j ∧ i = .int .i64 j ∧ Stays b B c gs j w g ⟨g.dice, g.ship, (g.shots.take j).filter (oth iv)⟩ L s4 wr ∧ Box wr Bi 3 #[.int .i64 iv])
  case atStart => exact ⟨0, g.shots, by omega, rfl, rfl, START.out, HI0.out⟩
  case round =>
    obtain ⟨j, L, hj, rfl, rfl, hR, hQ⟩ := hrel
    clear hcc e58
    have hLm : L.length = m := by rw [hR.len, HM.out]
    have r58 := Gm.cells_58 { g with shots := L } (.slice (some ⟨gs, 0, none⟩) L.length c)
    have rc := hR.has.game.cell
    have rf := hR.has.game.free
    dsimp only at rc
    rw [hLm] at rc r58
    by_cases hlt : j < m
    · have hjm : (j : Int) < m := by omega
      have hjl : j < g.shots.length := by rw [← HM.out]; exact hlt
      have hsn := Lib.hid (oth_snoc iv g.shots j hjl)
      have hLj : L[j]'(by rw [hLm]; exact hlt) = g.shots[j] := by
        have := hR.rest j (Nat.le_refl _)
        rw [List.getElem?_eq_getElem (by rw [hLm]; exact hlt), List.getElem?_eq_getElem hjl] at this
        injection this
      generalize hst : (g.shots.take j).filter (oth iv) = left at *
      obtain ⟨s, hs⟩ : ∃ s, s = g.shots[j] := ⟨_, rfl⟩
      rw [← hs] at hLj
      have cst := other_owner { g with shots := L } b B c gs j Bi iv wr hbB (by rw [hLm]; exact hlt) hR.has hQ
      dsimp only at cst
      rw [hLj] at cst
      have hget := Lib.hid (show ∀ h : j < L.length, L[j]'h = s from fun _ => hLj)
      have hset : Hid (L.set j s = L) := Lib.hid (by rw [← hLj]; exact List.set_getElem_self _)
      have HR := Lib.hid hR
      have HQ := Lib.hid hQ
      have HSS := Lib.hid hs
      have hs4 := hR.left
      have hfew := hR.few
      clear hR hs hLj hQ
      dsimp only at hs4 hfew
      subst hs4
      have hso : Hid (oth iv s = decide (s.owner ≠ iv)) := Lib.hid rfl
      by_cases h1 : s.owner = iv
      · rw [decide_eq_false (by simpa using h1)] at cst
        have CST := Lib.hid cst
        have HO := Lib.hid (show oth iv s = false from hso.out.trans (decide_eq_false (by simpa using h1)))
        clear cst hst h1
        go_wp2_with (go_at_call 127; ((with_reducible refine (CST.out).mono ?_); rintro e w1 ⟨rfl, h1', k1', b1'⟩; have H1 := Lib.hid h1'; have K1 := Lib.hid k1'; have Q1 := Lib.hid b1'; clear h1' k1' b1'))
        go_roundg (m - (j + 1))
        case measure => omega
        case rel =>
          refine ⟨j + 1, L.set j s, by omega, rfl, by go_num, ?_, Q1.out⟩
          rw [hsn.out, ← HSS.out, HO.out]
          simp only [Bool.false_eq_true, if_false, List.append_nil]
          exact stays_go HR.out rfl s (by rw [hset.out]; exact H1.out) (HR.out.keep.trans K1.out)
      · rw [decide_eq_true (by simpa using h1)] at cst
        have CST := Lib.hid cst
        have HO := Lib.hid (show oth iv s = true from hso.out.trans (decide_eq_true (by simpa using h1)))
        clear cst hst h1 hso
        obtain ⟨fo, fx, fy, fvx, fvy, fl⟩ := s
        have n32 : left.length + 1 ≤ 33 := by omega
        go_wp2_with (first | (go_at_call 127; ((with_reducible refine (CST.out).mono ?_); rintro e w1 ⟨rfl, h1', k1', b1'⟩; have a58 := Gm.cells_58 { g with shots := L } (.slice (some ⟨gs, 0, none⟩) L.length c); have a0 := h1'.game.cell; have q0 := h1'.shotIs (by rw [hLm]; exact hlt) 0 (by omega); have q1 := h1'.shotIs (by rw [hLm]; exact hlt) 1 (by omega); have q2 := h1'.shotIs (by rw [hLm]; exact hlt) 2 (by omega); have q3 := h1'.shotIs (by rw [hLm]; exact hlt) 3 (by omega); have q4 := h1'.shotIs (by rw [hLm]; exact hlt) 4 (by omega); have q5 := h1'.shotIs (by rw [hLm]; exact hlt) 5 (by omega); have R1 := (h1'.alloc (.cells #[.int .i64 fo, .int .i32 fx, .int .i32 fy, .int .i32 fvx, .int .i32 fvy, .int .i64 fl] 90)).room (n := left.length) (by show left.length < L.length; rw [hLm]; omega) ⟨fo, fx, fy, fvx, fvy, fl⟩; obtain ⟨cur, r1, r2, r3, r4⟩ := R1; have RB := Lib.hid r1; have R4 := Lib.hid r4; have KK := Lib.hid ((HR.out.keep.trans k1').alloc (.cells #[.int .i64 fo, .int .i32 fx, .int .i32 fy, .int .i32 fvx, .int .i32 fvy, .int .i64 fl] 90)); have RL := Lib.hid (lies_cells w1 ⟨fo, fx, fy, fvx, fvy, fl⟩); rw [hget.out] at q0 q1 q2 q3 q4 q5; simp only [Gm.Shot.cells, List.getElem?_cons_zero, List.getElem?_cons_succ, Nat.add_zero, hLm] at q0 q1 q2 q3 q4 q5 a58 a0; have QB := fun cs' => Lib.hid ((b1'.alloc (.cells #[.int .i64 fo, .int .i32 fx, .int .i32 fy, .int .i32 fvx, .int .i32 fvy, .int .i64 fl] 90)).row_far (show Bi ≠ _ from Box.apart (b1'.alloc _) r1 (by decide)) cs'); clear h1' k1' b1' r1 r4 rc rf r58)) | ((with_reducible refine room_gate (x := .tmp 27) (y := .tmp 35) (t := 26) (e := 90) (size := 6) rfl rfl Tryz.underlying26 hI.out hS.out ?_); refine AppendsIn.mk rfl rfl RB.out RL.out (one_cells ⟨fo, fx, fy, fvx, fvy, fl⟩) r2 r3 ?_))
        go_roundg (m - (j + 1))
        case measure => omega
        case rel =>
          refine ⟨j + 1, (L.set j ⟨fo, fx, fy, fvx, fvy, fl⟩).set left.length ⟨fo, fx, fy, fvx, fvy, fl⟩, by omega, rfl, by go_num, ?_, (QB _).out⟩
          rw [hsn.out, ← HSS.out, HO.out]
          simp only [if_true]
          exact stays_stay HR.out hjl ⟨fo, fx, fy, fvx, fvy, fl⟩ (by have h := R4.out; rw [List.append_assoc] at h; rw [hset.out]; exact h) (KK.out.row RB.out hbg _)
    · have hjm : ¬ (j : Int) < m := by omega
      have hje : j = m := by omega
      subst hje
      rw [HM.out, List.take_length] at hR
      rw [HM.out] at rc r58
      generalize hfin : g.shots.filter (oth iv) = fin at *
      obtain ⟨h1, h2, h3, h4, h5, h6, h7⟩ := hR
      subst h5
      have own2 := own_prefix (n := fin.length) h6.own (by show fin.length ≤ L.length; rw [h1]; exact h2)
      dsimp only at own2
      rw [h3] at own2
      have res : Has b B { g with shots := fin } (wr.setCell ⟨B, 58, none⟩ (.slice (some ⟨gs, 0, none⟩) fin.length c)) :=
        ⟨some ⟨gs, 0, none⟩, c, blk_shots (g := { g with shots := fin }) h6.game _, ownsRow_setCell_other (a := ⟨B, 58, none⟩) own2 (by intro e; injection e with e; exact h6.apart e) _⟩
      have RES := Lib.hid res
      have K7 := Lib.hid (h7.put 58 (.slice (some ⟨gs, 0, none⟩) fin.length c))
      have HF := Lib.hid hfin
      clear h1 h2 h3 h4 h6 h7 own2 res hfin
      go_wp2
      go_end0
      rw [HF.out]
      exact ⟨rfl, RES.out, K7.out⟩
set_option maxRecDepth 100000 in
set_option maxHeartbeats 2000000 in
theorem remove_shots (g : Gm.G) (A : Option Addr) (n c i : Nat) (w : World) (hg : Gm.ok g) (hn : n = g.shots.length) (hr : Lies w w.heap.size 6 A n (Gm.shotCells g.shots)) (hi : i < 8) (ho : (g.ship i).on = true) (h0 : g.shots.length ≠ 0) :
    Calls Tryz.prog 97 #[.agg (Gm.cells g (.slice A n c)), .int .i64 i] w (Out (Gm.remove g i) 0 w) := by
  have b1 : Box (((w.alloc (.cells (Gm.cells g (.slice A n c)) 28)).alloc (.cells #[.int .i64 i] 3)).alloc (.cells (Gm.cells zeroG (.slice none 0 0)) 28)) w.heap.size 28 (Gm.cells g (.slice A n c)) := ((Box.made _ _ _).alloc _).alloc _
  have b2 : Box (((w.alloc (.cells (Gm.cells g (.slice A n c)) 28)).alloc (.cells #[.int .i64 i] 3)).alloc (.cells (Gm.cells zeroG (.slice none 0 0)) 28)) (w.heap.size + 1 + 1) 28 (Gm.cells zeroG (.slice none 0 0)) := Box.made_at _ _ _ (by simp)
  have b3 : Box (((w.alloc (.cells (Gm.cells g (.slice A n c)) 28)).alloc (.cells #[.int .i64 i] 3)).alloc (.cells (Gm.cells zeroG (.slice none 0 0)) 28)) (w.heap.size + 1) 3 #[.int .i64 i] := (Box.made_at _ _ _ (by simp)).alloc _
  have hb0 := (two_below' w (.cells (Gm.cells g (.slice A n c)) 28) (.cells #[.int .i64 i] 3)).alloc (by simp <;> omega) (.cells (Gm.cells zeroG (.slice none 0 0)) 28)
  have co := Lib.hid (own_any g A n c _ hn (by have := hg.2.2.1; omega) ((hr.below hb0).wider hb0.size))
  have cm := fun X (hX : Below w.heap.size w X) => Lib.hid (may_yes g A n c X hg hn ((hr.below hX).wider hX.size))
  have cs := fun X => Lib.hid (isslot_any i (by omega) X)
  rw [decide_eq_true (show (0 : Int) ≤ i by omega), decide_eq_true (show (i : Int) < 8 by omega), Bool.and_self] at cs
  have q0 : (Gm.cells g (.slice A n c))[2 + i * 7]? = some (.bool true) := (Gm.cells_ship g _ i 0 hi (by omega)).trans (by show some (Value.bool (g.ship i).on) = _; rw [ho])
  have hi8 : (i : Int) < 8 := by omega
  obtain ⟨t, ht⟩ : ∃ t, t = g.ship i := ⟨_, rfl⟩
  have r0 : ∀ s, (Gm.cells g s)[2 + i * 7]? = some (.bool t.on) := fun s => (Gm.cells_ship g s i 0 hi (by omega)).trans (by rw [ht]; rfl)
  have r1 : ∀ s, (Gm.cells g s)[2 + i * 7 + 1]? = some (.int .i32 t.x) := fun s => (Gm.cells_ship g s i 1 hi (by omega)).trans (by rw [ht]; rfl)
  have r2 : ∀ s, (Gm.cells g s)[2 + i * 7 + 2]? = some (.int .i32 t.y) := fun s => (Gm.cells_ship g s i 2 hi (by omega)).trans (by rw [ht]; rfl)
  have r3 : ∀ s, (Gm.cells g s)[2 + i * 7 + 3]? = some (.int .i32 t.vx) := fun s => (Gm.cells_ship g s i 3 hi (by omega)).trans (by rw [ht]; rfl)
  have r4 : ∀ s, (Gm.cells g s)[2 + i * 7 + 4]? = some (.int .i32 t.vy) := fun s => (Gm.cells_ship g s i 4 hi (by omega)).trans (by rw [ht]; rfl)
  have r5 : ∀ s, (Gm.cells g s)[2 + i * 7 + 5]? = some (.int .i64 t.cool) := fun s => (Gm.cells_ship g s i 5 hi (by omega)).trans (by rw [ht]; rfl)
  have r6 : ∀ s, (Gm.cells g s)[2 + i * 7 + 6]? = some (.int .i64 t.score) := fun s => (Gm.cells_ship g s i 6 hi (by omega)).trans (by rw [ht]; rfl)
  have hN := Lib.hid hn
  have H0 := Lib.hid h0
  have hl32 := hg.2.2.1
  have HB := Lib.hid hb0
  have B1 := Lib.hid b1
  have B2 := Lib.hid b2
  have B3 := Lib.hid b3
  clear hr hn b1 b2 b3 hb0 ho hg ht h0
  go_enter Tryz.func97, Tryz.ntmps97
  go_upto_region 5 with (first | (refine wpList_alloc_game rfl rfl ?_) | ((with_reducible refine load_gate rfl rfl ?_); apply LoadGame.mk rfl; (with_reducible exact B1.out)) | ((with_reducible refine load_gate rfl rfl ?_); apply LoadGame.mk rfl; (with_reducible exact D1.out)) | ((with_reducible refine load_gate rfl rfl ?_); apply LoadGame.mk rfl; exact F1.out) | (go_at_call 98; ((with_reducible refine (co.out).mono ?_); rintro e w1 ⟨A1, c1, rfl, ho1, hb1⟩; have HB1 := Lib.hid ((HB.out.trans (hb1.mono HB.out.size)).alloc (by have := hb1.size; simp at this; omega) (.cells (Gm.cells g (.slice A1 n c1)) 28)); have O1 := Lib.hid ((own_rebase (base' := w.heap.size) ho1 (by simp; omega)).alloc (.cells (Gm.cells g (.slice A1 n c1)) 28)); have D1 := Lib.hid ((B1.out.below hb1 (by simp <;> omega)).alloc (.cells (Gm.cells g (.slice A1 n c1)) 28)); have D2 := Lib.hid ((B2.out.below hb1 (by simp <;> omega)).alloc (.cells (Gm.cells g (.slice A1 n c1)) 28)); have D3 := Lib.hid ((B3.out.below hb1 (by simp <;> omega)).alloc (.cells (Gm.cells g (.slice A1 n c1)) 28)); have s1 : w.heap.size + 1 + 1 < w1.heap.size := (by have := hb1.size; simp at this; omega); have ho1H := Lib.hid ho1; clear ho1 hb1)) | (refine wpList_store_game_new rfl rfl rfl rfl rfl rfl ?_) | (go_at_call 24; ((with_reducible refine ((cm _ HB1.out).out).mono ?_); rintro e w2 ⟨rfl, hb2⟩; have HB2 := Lib.hid (HB1.out.trans (hb2.mono HB1.out.size)); have O2 := Lib.hid (own_below O1.out hb2 (Nat.le_refl _)); have F1 := Lib.hid ((Box.made w1 28 (Gm.cells g (.slice A1 n c1))).below hb2 (by simp)); have f1c := F1.out.cell; have f1f := F1.out.free; have H9 := Lib.hid ((has_made (w := w) hN.out (own_rebase (base' := w.heap.size) ho1H.out (by simp; omega))).call hb2); have E1 := (D1.out.below hb2 D1.out.lt).cell; have E3' := D3.out.below hb2 D3.out.lt; have E3 := E3'.cell; have E3H := Lib.hid E3'; have G2 := Lib.hid (D2.out.below hb2 D2.out.lt); clear hb2)) | (go_at_call 91; ((with_reducible refine ((cs _).out).mono ?_); rintro e w' ⟨rfl, rfl⟩)) | ((with_reducible refine store_gate rfl rfl ?_); apply StoreGame.mk rfl rfl rfl; exact G2.out))
  have W5 : Has w.heap.size w1.heap.size { g with ship := Gm.upd g.ship i Gm.Ship.none } (stored w2 w1.heap.size i Gm.Ship.none) := H9.out.stored hi _
  have K5 := (Keep.refl (show w.heap.size ≤ w1.heap.size by omega) w2).stored (k := i) Gm.Ship.none
  obtain ⟨W, hW⟩ : ∃ W, W = stored w2 w1.heap.size i Gm.Ship.none := ⟨_, rfl⟩
  rw [← hW] at W5 K5
  simp only [stored, Gm.Ship.none] at hW
  rw [← hW]
  have ck := Lib.hid (keep_rest { g with ship := Gm.upd g.ship i Gm.Ship.none } w.heap.size w1.heap.size (w.heap.size + 1) i W (by omega) W5 H0.out hl32 (E3H.out.keep K5 (by omega) (by decide)))
  have hmf : ∀ (fn : Fn) (first cap : Array Value) (w : World), (Instr.makeFunc fn first cap).run Tryz.prog w = .ok (.func fn first cap) w := fun _ _ _ _ => rfl
  have ne2 : w.heap.size + 1 + 1 ≠ w1.heap.size := by omega
  have R5 := Lib.hid (G2.out.keep K5 ne2 (by decide))
  have KK5 := Lib.hid (HB2.out.trans (K5.to HB2.out.size))
  clear hW W5 K5 E1 E3 f1c f1f r0 r1 r2 r3 r4 r5 r6
  go_wp2_with (first | (go_at_call 103; ((with_reducible refine (ck.out).mono ?_); rintro e w4 ⟨rfl, h4, k4⟩; obtain ⟨A4, c4, B4, O4⟩ := h4; have F4 := Lib.hid B4; have O4H := Lib.hid O4; have R4 := Lib.hid (R5.out.keep k4 ne2 (by decide)); have K4 := Lib.hid (KK5.out.trans (k4.to KK5.out.size)); clear B4 O4 k4)) | ((with_reducible refine load_gate rfl rfl ?_); apply LoadGame.mk rfl; exact F4.out) | ((with_reducible refine store_gate rfl rfl ?_); apply StoreGame.mk rfl rfl rfl; exact R4.out))
  refine bodyPost_ret (v := .tuple #[.agg (Gm.cells (Gm.remove g i) (.slice A4 (g.shots.filter (oth i)).length c4)), .int .i64 0]) ?_ ?_ ?_
  · exact results_cell_tmp (p := 4) (q := 5) rfl _ _ _ _ (Gm.cells (Gm.remove g i) (.slice A4 (g.shots.filter (oth i)).length c4)) _ rfl (Box.row R4.out _) Tryz.underlying28 rfl game_info
  · rfl
  · exact ⟨A4, c4, rfl, Lies.owned (own_setRow O4H.out (R4.out.unowned O4H.out (by decide)) _), Below.setRow' K4.out (by omega) _⟩

theorem remove_all (g : Gm.G) (A : Option Addr) (n c i : Nat) (w : World) (hg : Gm.ok g) (hn : n = g.shots.length) (hr : Lies w w.heap.size 6 A n (Gm.shotCells g.shots)) (hi : i < 8) (ho : (g.ship i).on = true) :
    Calls Tryz.prog 97 #[.agg (Gm.cells g (.slice A n c)), .int .i64 i] w (Out (Gm.remove g i) 0 w) := by
  by_cases h0 : g.shots.length = 0
  · have h0' : g.shots = [] := List.eq_nil_of_length_eq_zero h0
    have e : Gm.remove g i = { g with ship := Gm.upd g.ship i Gm.Ship.none } := by unfold Gm.remove; rw [h0']; rfl
    rw [e]
    exact remove_yes g A n c i w hg hn hr hi ho h0'
  · exact remove_shots g A n c i w hg hn hr hi ho h0
end Go.Proofs.YtiahpncglpfjeaaGreat
namespace Go.Proofs.YtiahpncglpfjeaaGreat
open Go.RowKit Go.Shelf
set_option linter.unusedVariables false
set_option linter.unusedSimpArgs false


theorem ev4_size : (Tryz.prog.info? 61).map (·.size) = some (#[.int .i64 0, .int .i64 0, .int .i64 0, .int .i64 0] : Array Value).size := by kernel_rfl
theorem rosapply_fail (s : Fd.S) (v : En.Ev) (w : World) (hv : En.evOk v) (hno : ¬ Fd.MayEv s v) :
    Calls Tryz.prog 23 #[.agg (Ros.cells s.r), .agg #[.int .i64 v.kind, .int .i64 v.slot, .int .i64 v.gen, .int .i64 v.peer]] w fun e w' => e = .returned (.tuple #[.agg (Ros.cells s.r), .int .i64 1]) ∧ Below w.heap.size w w' := by
  obtain ⟨q, sl, gn, pe⟩ := v
  obtain ⟨hk, hs, hg, hp⟩ := hv
  dsimp only at *
  obtain ⟨k, rfl⟩ : ∃ k : Nat, sl = k := ⟨sl.toNat, by omega⟩
  have hk8 : k < 8 := by omega
  rcases hk with rfl | rfl
  · by_cases h1 : s.r.peer k = pe ∧ s.r.gen k = gn
    · refine rosapply_leave_no s.r k w hk8 (fun h => hno (.inr ⟨rfl, h, by simpa using h1.1, by simpa using h1.2⟩)) gn pe h1.1 h1.2
    · exact rosapply_leave_seat s.r k gn pe w hk8 h1
  · by_cases h1 : Ros.MayTake s.r k pe
    · exact rosapply_join_gen s.r k gn pe w h1 (fun h => hno (.inl ⟨rfl, h1, by simpa using h⟩))
    · exact rosapply_join_no s.r k gn pe w h1

set_option maxRecDepth 100000 in
set_option maxHeartbeats 2000000 in
theorem change_no (s : Fd.S) (v : En.Ev) (A : Option Addr) (n c : Nat) (w : World) (hv : En.evOk v) (hno : ¬ Fd.MayEv s v) :
    Calls Tryz.prog 59 #[.agg (Im.cells s.g (.slice A n c) s.r), .agg #[.int .i64 v.kind, .int .i64 v.slot, .int .i64 v.gen, .int .i64 v.peer]] w (Thrown 1 w) := by
  have ca := fun X => Lib.hid (rosapply_fail s v X hv hno)
  have cn := fun X => Lib.hid (need_throws X)
  obtain ⟨q, sl, gn, pe⟩ := v
  obtain ⟨g, r⟩ := s
  dsimp only at *
  clear hv hno
  obtain ⟨C, hC⟩ : ∃ C, C = Im.cells g (.slice A n c) r := ⟨_, rfl⟩
  have P0 := Lib.hid ((((Box.made w 35 (Im.cells g (.slice A n c) r)).alloc (.cells #[.int .i64 q, .int .i64 sl, .int .i64 gn, .int .i64 pe] 61))).alloc (.cells Im.zero 35))
  have E0 := Lib.hid ((Box.made_at (n := w.heap.size + 1) (w.alloc (.cells (Im.cells g (.slice A n c) r) 35)) 61 #[.int .i64 q, .int .i64 sl, .int .i64 gn, .int .i64 pe] (by simp)).alloc (.cells Im.zero 35))
  have K0 := Lib.hid ((two_below' w (.cells (Im.cells g (.slice A n c) r) 35) (.cells #[.int .i64 q, .int .i64 sl, .int .i64 gn, .int .i64 pe] 61)).alloc (by simp <;> omega) (.cells Im.zero 35))
  go_enter Tryz.func59, Tryz.ntmps59
  go_wp2_with (first | (with_reducible refine alloc_state rfl rfl ?_) | ((with_reducible refine im_load_ros rfl rfl ?_); apply LoadIm.mk rfl; (focus (with_reducible exact P0.out)); dsimp only) | ((with_reducible refine row_load rfl rfl Tryz.underlying61 rfl ?_); apply LoadRow.mk rfl; (focus (with_reducible exact E0.out)); (focus (exact ev4_size))) | (go_at_call 23; ((with_reducible refine ((ca _).out).mono ?_); rintro e w1 ⟨rfl, hb⟩; have K1 := Lib.hid (K0.out.trans (hb.mono K0.out.size)); clear hb)) | (with_reducible refine ros_alloc rfl rfl ?_) | ((with_reducible refine ros_store_new rfl rfl rfl rfl rfl ?_)) | (go_at_call 61; ((with_reducible refine ((cn _).out).mono ?_); rintro e w2 ⟨rfl, hb⟩; have K2 := Lib.hid ((K1.out.alloc K1.out.size (.cells (Ros.cells r) 33)).trans (hb.mono (K1.out.alloc K1.out.size (.cells (Ros.cells r) 33)).size)); clear hb)))
  exact ⟨rfl, rfl, K2.out⟩
end Go.Proofs.YtiahpncglpfjeaaGreat
