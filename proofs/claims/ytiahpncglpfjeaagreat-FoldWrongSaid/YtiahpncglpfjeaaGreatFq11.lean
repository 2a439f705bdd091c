/-
Several texts in one: Rv Rr Gk Ol Ls Et Es Eh Ek Rn Er I3.
-/
import Derived.Test.YtiahpncglpfjeaaGreatFq10
namespace Go.Proofs.YtiahpncglpfjeaaGreat
open Go.RowKit Go.Shelf
set_option linter.unusedVariables false
set_option linter.unusedSimpArgs false


theorem seat_neq (a b c d : Int) (w : World) : (binOp .neq 30 (.agg #[.int .i64 a, .int .i64 b]) (.agg #[.int .i64 c, .int .i64 d])).run Tryz.prog w = .ok (.bool (!decide (a = c ∧ b = d))) w := by
  have h : (Op.equalIn 10000 30 (.agg #[.int .i64 a, .int .i64 b]) (.agg #[.int .i64 c, .int .i64 d])).run Tryz.prog w = .ok (decide (a = c ∧ b = d)) w := by
    by_cases h1 : a = c
    · by_cases h2 : b = d
      · subst h1 h2; go_simp <;> simp
      · have h4 : (b == d) = false := by simpa using h2
        subst h1; go_simp <;> simp [h4, h2]
    · have h4 : (a == c) = false := by simpa using h1
      go_simp <;> simp [h4, h1]
  generalize #[Value.int .i64 a, .int .i64 b] = F at *
  generalize #[Value.int .i64 c, .int .i64 d] = G at *
  go_simp

set_option maxRecDepth 100000 in
set_option maxHeartbeats 2000000 in
theorem refevent_join (r : Ros.R) (k : Nat) (gn pe : Int) (w : World) (ht : Ros.MayTake r k pe) (hg : gn = r.gen k + 1) :
    Calls Tryz.prog 31 #[.agg (Ros.cells r), .agg #[.int .i64 1, .int .i64 (k : Int), .int .i64 gn, .int .i64 pe]] w fun e w' => e = .returned (.tuple #[.agg (Ros.cells (Ros.take r k pe)), .int .i64 0]) ∧ Below w.heap.size w w' := by
  have R0 := Lib.hid (((Box.made w 33 (Ros.cells r)).alloc (.cells #[.int .i64 1, .int .i64 (k : Int), .int .i64 gn, .int .i64 pe] 61)).alloc (.cells (Ros.cells rosZero) 33))
  have E0 := Lib.hid ((Box.made_at (n := w.heap.size + 1) (w.alloc (.cells (Ros.cells r) 33)) 61 #[.int .i64 1, .int .i64 (k : Int), .int .i64 gn, .int .i64 pe] (by simp)).alloc (.cells (Ros.cells rosZero) 33))
  have Z0 := Lib.hid (Box.made_at (n := w.heap.size + 1 + 1) ((w.alloc (.cells (Ros.cells r) 33)).alloc (.cells #[.int .i64 1, .int .i64 (k : Int), .int .i64 gn, .int .i64 pe] 61)) 33 (Ros.cells rosZero) (by simp))
  have K0 := Lib.hid ((two_below' w (.cells (Ros.cells r) 33) (.cells #[.int .i64 1, .int .i64 (k : Int), .int .i64 gn, .int .i64 pe] 61)).alloc (by simp <;> omega) (.cells (Ros.cells rosZero) 33))
  have ct := fun X => Lib.hid (reftake_yes r k pe X ht)
  have hk8 : k < 8 := by have := ht.1.1.2; omega
  have hk8' : (k : Int) < 8 := by omega
  have hk0 : 0 ≤ (k : Int) := by omega
  have qg : (Ros.cells (Ros.take r k pe))[1 + k * 2 + 1]? = some (.int .i64 (r.gen k + 1)) := (Ros.cells_gen _ k hk8).trans (by show some (Value.int .i64 (Ros.upd r.gen k (r.gen k + 1) k)) = _; rw [Ros.upd_same])
  have hne : (r.gen k + 1 != gn) = false := by simp [hg]
  clear ht hg
  go_enter Tryz.func31, Tryz.ntmps31
  go_upto_region 4 with (first | (with_reducible refine ros_alloc rfl rfl ?_) | ((with_reducible refine ros_load rfl rfl ?_); apply LoadRow.mk rfl; (focus first | (with_reducible exact R0.out)); (focus (exact ros_info))) | (go_at_call 63; ((with_reducible refine ((ct _).out).mono ?_); rintro e w1 ⟨rfl, hb⟩; have R1 := Lib.hid ((R0.out.below hb R0.out.lt).alloc (.cells (Ros.cells (Ros.take r k pe)) 33)); have E1 := Lib.hid ((E0.out.below hb E0.out.lt).alloc (.cells (Ros.cells (Ros.take r k pe)) 33)); have Z1 := Lib.hid ((Z0.out.below hb Z0.out.lt).alloc (.cells (Ros.cells (Ros.take r k pe)) 33)); have N1 := Lib.hid (Box.made w1 33 (Ros.cells (Ros.take r k pe))); have K1 := Lib.hid ((K0.out.trans (hb.mono K0.out.size)).alloc (Nat.le_trans K0.out.size hb.size) (.cells (Ros.cells (Ros.take r k pe)) 33)); clear hb)) | ((with_reducible refine ros_store_new rfl rfl rfl rfl rfl ?_)))
  generalize hW1 : w1.alloc (.cells (Ros.cells (Ros.take r k pe)) 33) = W1 at R1 E1 Z1 N1 K1 ⊢
  generalize w1.heap.size = bn at N1 ⊢
  clear hW1 R0 E0 Z0 K0
  have e1 := E1.out.cell
  have n1 := N1.out.cell
  have r1 := R1.out.cell
  have R3 := fun m => Lib.hid (R1.out.draws m)
  have N3 := fun m => Lib.hid (N1.out.draws m)
  have Z3 := fun m => Lib.hid (Z1.out.draws m)
  have K3 := fun m => Lib.hid (draws_below K1.out m)
  go_quiet (fail)
  go_wp2_with (first | ((with_reducible refine ros_load rfl rfl ?_); apply LoadRow.mk rfl; (focus first | (with_reducible exact (N3 _).out)); (focus (exact ros_info))) | ((with_reducible refine ros_store rfl rfl ?_); apply StoreRow.mk rfl rfl; (focus (with_reducible exact (Z3 _).out)); (focus (exact ros_info)); (focus rfl); (focus (exact ros_one _))))
  refine bodyPost_ret (v := .tuple #[.agg (Ros.cells (Ros.take r k pe)), .int .i64 0]) ?_ ?_ ?_
  · exact results_cell_tmp (p := 4) (q := 5) rfl _ _ _ _ (Ros.cells (Ros.take r k pe)) _ rfl (Box.row (Z3 _).out _) Tryz.underlying33 rfl ros_info
  · rfl
  · exact ⟨rfl, Below.setRow' (K3 _).out (by omega) _⟩

set_option maxRecDepth 100000 in
set_option maxHeartbeats 2000000 in
theorem refevent_join_gen (r : Ros.R) (k : Nat) (gn pe : Int) (w : World) (ht : Ros.MayTake r k pe) (hg : gn ≠ r.gen k + 1) :
    Calls Tryz.prog 31 #[.agg (Ros.cells r), .agg #[.int .i64 1, .int .i64 (k : Int), .int .i64 gn, .int .i64 pe]] w fun e w' => e = .returned (.tuple #[.agg (Ros.cells (r)), .int .i64 1]) ∧ Below w.heap.size w w' := by
  have R0 := Lib.hid (((Box.made w 33 (Ros.cells r)).alloc (.cells #[.int .i64 1, .int .i64 (k : Int), .int .i64 gn, .int .i64 pe] 61)).alloc (.cells (Ros.cells rosZero) 33))
  have E0 := Lib.hid ((Box.made_at (n := w.heap.size + 1) (w.alloc (.cells (Ros.cells r) 33)) 61 #[.int .i64 1, .int .i64 (k : Int), .int .i64 gn, .int .i64 pe] (by simp)).alloc (.cells (Ros.cells rosZero) 33))
  have Z0 := Lib.hid (Box.made_at (n := w.heap.size + 1 + 1) ((w.alloc (.cells (Ros.cells r) 33)).alloc (.cells #[.int .i64 1, .int .i64 (k : Int), .int .i64 gn, .int .i64 pe] 61)) 33 (Ros.cells rosZero) (by simp))
  have K0 := Lib.hid ((two_below' w (.cells (Ros.cells r) 33) (.cells #[.int .i64 1, .int .i64 (k : Int), .int .i64 gn, .int .i64 pe] 61)).alloc (by simp <;> omega) (.cells (Ros.cells rosZero) 33))
  have ct := fun X => Lib.hid (reftake_yes r k pe X ht)
  have hk8 : k < 8 := by have := ht.1.1.2; omega
  have hk8' : (k : Int) < 8 := by omega
  have hk0 : 0 ≤ (k : Int) := by omega
  have qg : (Ros.cells (Ros.take r k pe))[1 + k * 2 + 1]? = some (.int .i64 (r.gen k + 1)) := (Ros.cells_gen _ k hk8).trans (by show some (Value.int .i64 (Ros.upd r.gen k (r.gen k + 1) k)) = _; rw [Ros.upd_same])
  have hne : (r.gen k + 1 != gn) = true := by simpa using fun h => hg h.symm
  clear ht hg
  go_enter Tryz.func31, Tryz.ntmps31
  go_upto_region 4 with (first | (with_reducible refine ros_alloc rfl rfl ?_) | ((with_reducible refine ros_load rfl rfl ?_); apply LoadRow.mk rfl; (focus first | (with_reducible exact R0.out)); (focus (exact ros_info))) | (go_at_call 63; ((with_reducible refine ((ct _).out).mono ?_); rintro e w1 ⟨rfl, hb⟩; have R1 := Lib.hid ((R0.out.below hb R0.out.lt).alloc (.cells (Ros.cells (Ros.take r k pe)) 33)); have E1 := Lib.hid ((E0.out.below hb E0.out.lt).alloc (.cells (Ros.cells (Ros.take r k pe)) 33)); have Z1 := Lib.hid ((Z0.out.below hb Z0.out.lt).alloc (.cells (Ros.cells (Ros.take r k pe)) 33)); have N1 := Lib.hid (Box.made w1 33 (Ros.cells (Ros.take r k pe))); have K1 := Lib.hid ((K0.out.trans (hb.mono K0.out.size)).alloc (Nat.le_trans K0.out.size hb.size) (.cells (Ros.cells (Ros.take r k pe)) 33)); clear hb)) | ((with_reducible refine ros_store_new rfl rfl rfl rfl rfl ?_)))
  generalize hW1 : w1.alloc (.cells (Ros.cells (Ros.take r k pe)) 33) = W1 at R1 E1 Z1 N1 K1 ⊢
  generalize w1.heap.size = bn at N1 ⊢
  clear hW1 R0 E0 Z0 K0
  have e1 := E1.out.cell
  have n1 := N1.out.cell
  have r1 := R1.out.cell
  have R3 := fun m => Lib.hid (R1.out.draws m)
  have N3 := fun m => Lib.hid (N1.out.draws m)
  have Z3 := fun m => Lib.hid (Z1.out.draws m)
  have K3 := fun m => Lib.hid (draws_below K1.out m)
  go_quiet (fail)
  go_wp2_with (first | ((with_reducible refine ros_load rfl rfl ?_); apply LoadRow.mk rfl; (focus first | (with_reducible exact (R3 _).out)); (focus (exact ros_info))) | ((with_reducible refine ros_store rfl rfl ?_); apply StoreRow.mk rfl rfl; (focus (with_reducible exact (Z3 _).out)); (focus (exact ros_info)); (focus rfl); (focus (exact ros_one _))))
  refine bodyPost_ret (v := .tuple #[.agg (Ros.cells (r)), .int .i64 1]) ?_ ?_ ?_
  · exact results_cell_tmp (p := 4) (q := 5) rfl _ _ _ _ (Ros.cells (r)) _ rfl (Box.row (Z3 _).out _) Tryz.underlying33 rfl ros_info
  · rfl
  · exact ⟨rfl, Below.setRow' (K3 _).out (by omega) _⟩

set_option maxRecDepth 100000 in
set_option maxHeartbeats 2000000 in
theorem refevent_join_no (r : Ros.R) (sl gn pe : Int) (w : World) (ht : ¬ Ros.MayTake r sl pe) :
    Calls Tryz.prog 31 #[.agg (Ros.cells r), .agg #[.int .i64 1, .int .i64 sl, .int .i64 gn, .int .i64 pe]] w fun e w' => e = .returned (.tuple #[.agg (Ros.cells (r)), .int .i64 1]) ∧ Below w.heap.size w w' := by
  have R0 := Lib.hid (((Box.made w 33 (Ros.cells r)).alloc (.cells #[.int .i64 1, .int .i64 sl, .int .i64 gn, .int .i64 pe] 61)).alloc (.cells (Ros.cells rosZero) 33))
  have E0 := Lib.hid ((Box.made_at (n := w.heap.size + 1) (w.alloc (.cells (Ros.cells r) 33)) 61 #[.int .i64 1, .int .i64 sl, .int .i64 gn, .int .i64 pe] (by simp)).alloc (.cells (Ros.cells rosZero) 33))
  have Z0 := Lib.hid (Box.made_at (n := w.heap.size + 1 + 1) ((w.alloc (.cells (Ros.cells r) 33)).alloc (.cells #[.int .i64 1, .int .i64 sl, .int .i64 gn, .int .i64 pe] 61)) 33 (Ros.cells rosZero) (by simp))
  have K0 := Lib.hid ((two_below' w (.cells (Ros.cells r) 33) (.cells #[.int .i64 1, .int .i64 sl, .int .i64 gn, .int .i64 pe] 61)).alloc (by simp <;> omega) (.cells (Ros.cells rosZero) 33))
  have ct := fun X => Lib.hid (reftake_no r sl pe X ht)
  clear ht
  go_enter Tryz.func31, Tryz.ntmps31
  go_upto_region 4 with (first | (with_reducible refine ros_alloc rfl rfl ?_) | ((with_reducible refine ros_load rfl rfl ?_); apply LoadRow.mk rfl; (focus first | (with_reducible exact R0.out)); (focus (exact ros_info))) | (go_at_call 63; ((with_reducible refine ((ct _).out).mono ?_); rintro e w1 ⟨rfl, hb⟩; have R1 := Lib.hid ((R0.out.below hb R0.out.lt).alloc (.cells (Ros.cells (r)) 33)); have E1 := Lib.hid ((E0.out.below hb E0.out.lt).alloc (.cells (Ros.cells (r)) 33)); have Z1 := Lib.hid ((Z0.out.below hb Z0.out.lt).alloc (.cells (Ros.cells (r)) 33)); have N1 := Lib.hid (Box.made w1 33 (Ros.cells (r))); have K1 := Lib.hid ((K0.out.trans (hb.mono K0.out.size)).alloc (Nat.le_trans K0.out.size hb.size) (.cells (Ros.cells (r)) 33)); clear hb)) | ((with_reducible refine ros_store_new rfl rfl rfl rfl rfl ?_)))
  generalize hW1 : w1.alloc (.cells (Ros.cells (r)) 33) = W1 at R1 E1 Z1 N1 K1 ⊢
  generalize w1.heap.size = bn at N1 ⊢
  clear hW1 R0 E0 Z0 K0
  have e1 := E1.out.cell
  have n1 := N1.out.cell
  have r1 := R1.out.cell
  have R3 := fun m => Lib.hid (R1.out.draws m)
  have N3 := fun m => Lib.hid (N1.out.draws m)
  have Z3 := fun m => Lib.hid (Z1.out.draws m)
  have K3 := fun m => Lib.hid (draws_below K1.out m)
  go_quiet (fail)
  go_wp2_with (first | ((with_reducible refine ros_load rfl rfl ?_); apply LoadRow.mk rfl; (focus first | (with_reducible exact (R3 _).out)); (focus (exact ros_info))) | ((with_reducible refine ros_store rfl rfl ?_); apply StoreRow.mk rfl rfl; (focus (with_reducible exact (Z3 _).out)); (focus (exact ros_info)); (focus rfl); (focus (exact ros_one _))))
  refine bodyPost_ret (v := .tuple #[.agg (Ros.cells (r)), .int .i64 1]) ?_ ?_ ?_
  · exact results_cell_tmp (p := 4) (q := 5) rfl _ _ _ _ (Ros.cells (r)) _ rfl (Box.row (Z3 _).out _) Tryz.underlying33 rfl ros_info
  · rfl
  · exact ⟨rfl, Below.setRow' (K3 _).out (by omega) _⟩

set_option maxRecDepth 100000 in
set_option maxHeartbeats 2000000 in
theorem refevent_leave (r : Ros.R) (k : Nat) (gn pe : Int) (w : World) (ht : Ros.MayGive r k) (hp : r.peer k = pe) (hg : r.gen k = gn) :
    Calls Tryz.prog 31 #[.agg (Ros.cells r), .agg #[.int .i64 2, .int .i64 (k : Int), .int .i64 gn, .int .i64 pe]] w fun e w' => e = .returned (.tuple #[.agg (Ros.cells (Ros.give r k)), .int .i64 0]) ∧ Below w.heap.size w w' := by
  have R0 := Lib.hid (((Box.made w 33 (Ros.cells r)).alloc (.cells #[.int .i64 2, .int .i64 (k : Int), .int .i64 gn, .int .i64 pe] 61)).alloc (.cells (Ros.cells rosZero) 33))
  have E0 := Lib.hid ((Box.made_at (n := w.heap.size + 1) (w.alloc (.cells (Ros.cells r) 33)) 61 #[.int .i64 2, .int .i64 (k : Int), .int .i64 gn, .int .i64 pe] (by simp)).alloc (.cells (Ros.cells rosZero) 33))
  have Z0 := Lib.hid (Box.made_at (n := w.heap.size + 1 + 1) ((w.alloc (.cells (Ros.cells r) 33)).alloc (.cells #[.int .i64 2, .int .i64 (k : Int), .int .i64 gn, .int .i64 pe] 61)) 33 (Ros.cells rosZero) (by simp))
  have K0 := Lib.hid ((two_below' w (.cells (Ros.cells r) 33) (.cells #[.int .i64 2, .int .i64 (k : Int), .int .i64 gn, .int .i64 pe] 61)).alloc (by simp <;> omega) (.cells (Ros.cells rosZero) 33))
  have ct := fun X => Lib.hid (refgive_yes r k X ht)
  have hk8 : k < 8 := by have := ht.1.2; omega
  have hk8' : (k : Int) < 8 := by omega
  have hk0 : 0 ≤ (k : Int) := by omega
  have qp := Ros.cells_peer r k hk8
  have qg := Ros.cells_gen r k hk8
  have hne := fun W => seat_neq (r.peer k) (r.gen k) pe gn W
  rw [decide_eq_true (And.intro hp hg), Bool.not_true] at hne
  clear ht hg hp
  go_enter Tryz.func31, Tryz.ntmps31
  go_upto_region 9 with (first | (with_reducible refine ros_alloc rfl rfl ?_) | ((with_reducible refine ros_load rfl rfl ?_); apply LoadRow.mk rfl; (focus first | (with_reducible exact R0.out)); (focus (exact ros_info))) | (go_at_call 64; ((with_reducible refine ((ct _).out).mono ?_); rintro e w1 ⟨rfl, hb⟩; have R1 := Lib.hid ((R0.out.below hb R0.out.lt).alloc (.cells (Ros.cells (Ros.give r k)) 33)); have E1 := Lib.hid ((E0.out.below hb E0.out.lt).alloc (.cells (Ros.cells (Ros.give r k)) 33)); have Z1 := Lib.hid ((Z0.out.below hb Z0.out.lt).alloc (.cells (Ros.cells (Ros.give r k)) 33)); have N1 := Lib.hid (Box.made w1 33 (Ros.cells (Ros.give r k))); have K1 := Lib.hid ((K0.out.trans (hb.mono K0.out.size)).alloc (Nat.le_trans K0.out.size hb.size) (.cells (Ros.cells (Ros.give r k)) 33)); clear hb)) | ((with_reducible refine ros_store_new rfl rfl rfl rfl rfl ?_)))
  generalize hW1 : w1.alloc (.cells (Ros.cells (Ros.give r k)) 33) = W1 at R1 E1 Z1 N1 K1 ⊢
  generalize w1.heap.size = bn at N1 ⊢
  clear hW1 R0 E0 Z0 K0
  have e1 := E1.out.cell
  have n1 := N1.out.cell
  have r1 := R1.out.cell
  have R3 := fun m => Lib.hid (R1.out.draws m)
  have N3 := fun m => Lib.hid (N1.out.draws m)
  have Z3 := fun m => Lib.hid (Z1.out.draws m)
  have K3 := fun m => Lib.hid (draws_below K1.out m)
  go_quiet (fail)
  go_wp2_with (first | ((with_reducible refine ros_load rfl rfl ?_); apply LoadRow.mk rfl; (focus first | (with_reducible exact (N3 _).out)); (focus (exact ros_info))) | ((with_reducible refine ros_store rfl rfl ?_); apply StoreRow.mk rfl rfl; (focus (with_reducible exact (Z3 _).out)); (focus (exact ros_info)); (focus rfl); (focus (exact ros_one _))))
  refine bodyPost_ret (v := .tuple #[.agg (Ros.cells (Ros.give r k)), .int .i64 0]) ?_ ?_ ?_
  · exact results_cell_tmp (p := 4) (q := 5) rfl _ _ _ _ (Ros.cells (Ros.give r k)) _ rfl (Box.row (Z3 _).out _) Tryz.underlying33 rfl ros_info
  · rfl
  · exact ⟨rfl, Below.setRow' (K3 _).out (by omega) _⟩

set_option maxRecDepth 100000 in
set_option maxHeartbeats 2000000 in
theorem refevent_leave_seat (r : Ros.R) (k : Nat) (gn pe : Int) (w : World) (ht : Ros.MayGive r k) (hp : ¬ (r.peer k = pe ∧ r.gen k = gn)) :
    Calls Tryz.prog 31 #[.agg (Ros.cells r), .agg #[.int .i64 2, .int .i64 (k : Int), .int .i64 gn, .int .i64 pe]] w fun e w' => e = .returned (.tuple #[.agg (Ros.cells (r)), .int .i64 1]) ∧ Below w.heap.size w w' := by
  have R0 := Lib.hid (((Box.made w 33 (Ros.cells r)).alloc (.cells #[.int .i64 2, .int .i64 (k : Int), .int .i64 gn, .int .i64 pe] 61)).alloc (.cells (Ros.cells rosZero) 33))
  have E0 := Lib.hid ((Box.made_at (n := w.heap.size + 1) (w.alloc (.cells (Ros.cells r) 33)) 61 #[.int .i64 2, .int .i64 (k : Int), .int .i64 gn, .int .i64 pe] (by simp)).alloc (.cells (Ros.cells rosZero) 33))
  have Z0 := Lib.hid (Box.made_at (n := w.heap.size + 1 + 1) ((w.alloc (.cells (Ros.cells r) 33)).alloc (.cells #[.int .i64 2, .int .i64 (k : Int), .int .i64 gn, .int .i64 pe] 61)) 33 (Ros.cells rosZero) (by simp))
  have K0 := Lib.hid ((two_below' w (.cells (Ros.cells r) 33) (.cells #[.int .i64 2, .int .i64 (k : Int), .int .i64 gn, .int .i64 pe] 61)).alloc (by simp <;> omega) (.cells (Ros.cells rosZero) 33))
  have ct := fun X => Lib.hid (refgive_yes r k X ht)
  have hk8 : k < 8 := by have := ht.1.2; omega
  have hk8' : (k : Int) < 8 := by omega
  have hk0 : 0 ≤ (k : Int) := by omega
  have qp := Ros.cells_peer r k hk8
  have qg := Ros.cells_gen r k hk8
  have hne := fun W => seat_neq (r.peer k) (r.gen k) pe gn W
  rw [decide_eq_false hp, Bool.not_false] at hne
  clear ht hp
  go_enter Tryz.func31, Tryz.ntmps31
  go_upto_region 9 with (first | (with_reducible refine ros_alloc rfl rfl ?_) | ((with_reducible refine ros_load rfl rfl ?_); apply LoadRow.mk rfl; (focus first | (with_reducible exact R0.out)); (focus (exact ros_info))) | (go_at_call 64; ((with_reducible refine ((ct _).out).mono ?_); rintro e w1 ⟨rfl, hb⟩; have R1 := Lib.hid ((R0.out.below hb R0.out.lt).alloc (.cells (Ros.cells (Ros.give r k)) 33)); have E1 := Lib.hid ((E0.out.below hb E0.out.lt).alloc (.cells (Ros.cells (Ros.give r k)) 33)); have Z1 := Lib.hid ((Z0.out.below hb Z0.out.lt).alloc (.cells (Ros.cells (Ros.give r k)) 33)); have N1 := Lib.hid (Box.made w1 33 (Ros.cells (Ros.give r k))); have K1 := Lib.hid ((K0.out.trans (hb.mono K0.out.size)).alloc (Nat.le_trans K0.out.size hb.size) (.cells (Ros.cells (Ros.give r k)) 33)); clear hb)) | ((with_reducible refine ros_store_new rfl rfl rfl rfl rfl ?_)))
  generalize hW1 : w1.alloc (.cells (Ros.cells (Ros.give r k)) 33) = W1 at R1 E1 Z1 N1 K1 ⊢
  generalize w1.heap.size = bn at N1 ⊢
  clear hW1 R0 E0 Z0 K0
  have e1 := E1.out.cell
  have n1 := N1.out.cell
  have r1 := R1.out.cell
  have R3 := fun m => Lib.hid (R1.out.draws m)
  have N3 := fun m => Lib.hid (N1.out.draws m)
  have Z3 := fun m => Lib.hid (Z1.out.draws m)
  have K3 := fun m => Lib.hid (draws_below K1.out m)
  go_quiet (fail)
  go_wp2_with (first | ((with_reducible refine ros_load rfl rfl ?_); apply LoadRow.mk rfl; (focus first | (with_reducible exact (R3 _).out)); (focus (exact ros_info))) | ((with_reducible refine ros_store rfl rfl ?_); apply StoreRow.mk rfl rfl; (focus (with_reducible exact (Z3 _).out)); (focus (exact ros_info)); (focus rfl); (focus (exact ros_one _))))
  refine bodyPost_ret (v := .tuple #[.agg (Ros.cells (r)), .int .i64 1]) ?_ ?_ ?_
  · exact results_cell_tmp (p := 4) (q := 5) rfl _ _ _ _ (Ros.cells (r)) _ rfl (Box.row (Z3 _).out _) Tryz.underlying33 rfl ros_info
  · rfl
  · exact ⟨rfl, Below.setRow' (K3 _).out (by omega) _⟩

set_option maxRecDepth 100000 in
set_option maxHeartbeats 2000000 in
theorem refevent_leave_no (r : Ros.R) (sl gn pe : Int) (w : World) (ht : ¬ Ros.MayGive r sl) :
    Calls Tryz.prog 31 #[.agg (Ros.cells r), .agg #[.int .i64 2, .int .i64 sl, .int .i64 gn, .int .i64 pe]] w fun e w' => e = .returned (.tuple #[.agg (Ros.cells (r)), .int .i64 1]) ∧ Below w.heap.size w w' := by
  have R0 := Lib.hid (((Box.made w 33 (Ros.cells r)).alloc (.cells #[.int .i64 2, .int .i64 sl, .int .i64 gn, .int .i64 pe] 61)).alloc (.cells (Ros.cells rosZero) 33))
  have E0 := Lib.hid ((Box.made_at (n := w.heap.size + 1) (w.alloc (.cells (Ros.cells r) 33)) 61 #[.int .i64 2, .int .i64 sl, .int .i64 gn, .int .i64 pe] (by simp)).alloc (.cells (Ros.cells rosZero) 33))
  have Z0 := Lib.hid (Box.made_at (n := w.heap.size + 1 + 1) ((w.alloc (.cells (Ros.cells r) 33)).alloc (.cells #[.int .i64 2, .int .i64 sl, .int .i64 gn, .int .i64 pe] 61)) 33 (Ros.cells rosZero) (by simp))
  have K0 := Lib.hid ((two_below' w (.cells (Ros.cells r) 33) (.cells #[.int .i64 2, .int .i64 sl, .int .i64 gn, .int .i64 pe] 61)).alloc (by simp <;> omega) (.cells (Ros.cells rosZero) 33))
  have ct := fun X => Lib.hid (refgive_no r sl X ht)
  clear ht
  go_enter Tryz.func31, Tryz.ntmps31
  go_upto_region 9 with (first | (with_reducible refine ros_alloc rfl rfl ?_) | ((with_reducible refine ros_load rfl rfl ?_); apply LoadRow.mk rfl; (focus first | (with_reducible exact R0.out)); (focus (exact ros_info))) | (go_at_call 64; ((with_reducible refine ((ct _).out).mono ?_); rintro e w1 ⟨rfl, hb⟩; have R1 := Lib.hid ((R0.out.below hb R0.out.lt).alloc (.cells (Ros.cells (r)) 33)); have E1 := Lib.hid ((E0.out.below hb E0.out.lt).alloc (.cells (Ros.cells (r)) 33)); have Z1 := Lib.hid ((Z0.out.below hb Z0.out.lt).alloc (.cells (Ros.cells (r)) 33)); have N1 := Lib.hid (Box.made w1 33 (Ros.cells (r))); have K1 := Lib.hid ((K0.out.trans (hb.mono K0.out.size)).alloc (Nat.le_trans K0.out.size hb.size) (.cells (Ros.cells (r)) 33)); clear hb)) | ((with_reducible refine ros_store_new rfl rfl rfl rfl rfl ?_)))
  generalize hW1 : w1.alloc (.cells (Ros.cells (r)) 33) = W1 at R1 E1 Z1 N1 K1 ⊢
  generalize w1.heap.size = bn at N1 ⊢
  clear hW1 R0 E0 Z0 K0
  have e1 := E1.out.cell
  have n1 := N1.out.cell
  have r1 := R1.out.cell
  have R3 := fun m => Lib.hid (R1.out.draws m)
  have N3 := fun m => Lib.hid (N1.out.draws m)
  have Z3 := fun m => Lib.hid (Z1.out.draws m)
  have K3 := fun m => Lib.hid (draws_below K1.out m)
  go_quiet (fail)
  go_wp2_with (first | ((with_reducible refine ros_load rfl rfl ?_); apply LoadRow.mk rfl; (focus first | (with_reducible exact (R3 _).out)); (focus (exact ros_info))) | ((with_reducible refine ros_store rfl rfl ?_); apply StoreRow.mk rfl rfl; (focus (with_reducible exact (Z3 _).out)); (focus (exact ros_info)); (focus rfl); (focus (exact ros_one _))))
  refine bodyPost_ret (v := .tuple #[.agg (Ros.cells (r)), .int .i64 1]) ?_ ?_ ?_
  · exact results_cell_tmp (p := 4) (q := 5) rfl _ _ _ _ (Ros.cells (r)) _ rfl (Box.row (Z3 _).out _) Tryz.underlying33 rfl ros_info
  · rfl
  · exact ⟨rfl, Below.setRow' (K3 _).out (by omega) _⟩

theorem refevent_yes (s : Fd.S) (v : En.Ev) (w : World) (hv : Fd.MayEv s v) :
    Calls Tryz.prog 31 #[.agg (Ros.cells s.r), .agg #[.int .i64 v.kind, .int .i64 v.slot, .int .i64 v.gen, .int .i64 v.peer]] w fun e w' => e = .returned (.tuple #[.agg (Ros.cells (Fd.after s v).r), .int .i64 0]) ∧ Below w.heap.size w w' := by
  rcases hv with ⟨hk, ht, hg⟩ | ⟨hk, ht, hp, hg⟩
  · obtain ⟨k, hk8, e, e', hpk, ht', hp0⟩ := Fd.take_on ht
    unfold Fd.after
    rw [if_pos hk, e', hk, e]
    exact refevent_join s.r k v.gen v.peer w ht' (by rw [hg, e'])
  · obtain ⟨k, hk8, e, e', hpk, ht'⟩ := Fd.give_on ht
    unfold Fd.after
    rw [if_neg (by omega), e', hk, e]
    exact refevent_leave s.r k v.gen v.peer w ht' (by rw [← hp, e']) (by rw [← hg, e'])
theorem refevent_no (s : Fd.S) (v : En.Ev) (w : World) (hv : En.evOk v) (hno : ¬ Fd.MayEv s v) :
    Calls Tryz.prog 31 #[.agg (Ros.cells s.r), .agg #[.int .i64 v.kind, .int .i64 v.slot, .int .i64 v.gen, .int .i64 v.peer]] w fun e w' => e = .returned (.tuple #[.agg (Ros.cells s.r), .int .i64 1]) ∧ Below w.heap.size w w' := by
  obtain ⟨q, sl, gn, pe⟩ := v
  obtain ⟨hk, hs, hg, hp⟩ := hv
  dsimp only at *
  obtain ⟨k, rfl⟩ : ∃ k : Nat, sl = k := ⟨sl.toNat, by omega⟩
  have hk8 : k < 8 := by omega
  rcases hk with rfl | rfl
  · by_cases h0 : Ros.MayGive s.r k
    · exact refevent_leave_seat s.r k gn pe w h0 (fun h1 => hno (.inr ⟨rfl, h0, by simpa using h1.1, by simpa using h1.2⟩))
    · exact refevent_leave_no s.r k gn pe w h0
  · by_cases h1 : Ros.MayTake s.r k pe
    · exact refevent_join_gen s.r k gn pe w h1 (fun h => hno (.inl ⟨rfl, h1, by simpa using h⟩))
    · exact refevent_join_no s.r k gn pe w h1
end Go.Proofs.YtiahpncglpfjeaaGreat
namespace Go.Proofs.YtiahpncglpfjeaaGreat
open Go.RowKit Go.Shelf
set_option linter.unusedVariables false
set_option linter.unusedSimpArgs false


theorem ship_info7 : (Tryz.prog.info? 24).map (·.size) = some 7 := by kernel_rfl
theorem ship_splice (g : Gm.G) (s : Value) (i : Nat) (hi : i < 8) (u : Gm.Ship) : splice (Gm.cells g s) (2 + i * 7) u.cells = Gm.cells { g with ship := Gm.upd g.ship i u } s := by
  match i, hi with
  | 0, _ | 1, _ | 2, _ | 3, _ | 4, _ | 5, _ | 6, _ | 7, _ => rfl
section
variable {ops : Array Oper} {rest : List Oper} {o : Oper} {a : Act} {w : World} {Q : Exit → Act → World → Prop} {x y : Operand} {dst : Option Tmp} {p v : Value}
/-- What the store of a game's ship wants. -/
def StoreShip (ops : Array Oper) (Q : Exit → Act → World → Prop) (rest : List Oper) (dst : Option Tmp) (p v : Value) (a : Act) (w : World) : Prop :=
  ∃ (B i : Nat) (g : Gm.G) (s : Value) (u : Gm.Ship), p = .pointer (some ⟨B, 2 + i * 7, none⟩) ∧ v = .agg u.cells.toArray ∧ i < 8 ∧ Box w B 28 (Gm.cells g s) ∧ wpList Tryz.prog ops Q rest (a.put dst undef) (w.setRow B (Gm.cells { g with ship := Gm.upd g.ship i u } s))
theorem StoreShip.mk {B i : Nat} {g : Gm.G} {s : Value} {u : Gm.Ship} (hp : p = .pointer (some ⟨B, 2 + i * 7, none⟩)) (hv : v = .agg u.cells.toArray) (hi : i < 8) (hB : Box w B 28 (Gm.cells g s)) (h : wpList Tryz.prog ops Q rest (a.put dst undef) (w.setRow B (Gm.cells { g with ship := Gm.upd g.ship i u } s))) : StoreShip ops Q rest dst p v a w := ⟨B, i, g, s, u, hp, hv, hi, hB, h⟩
theorem gm_store_ship (hgd : o.guard = none) (ho : o.op = .store 24 x y) (h : StoreShip ops Q rest o.dst (a.eval x) (a.eval y) a w) : wpList Tryz.prog ops Q (o :: rest) a w := by
  obtain ⟨B, i, g, s, u, hx, hy, hi, hB, h⟩ := h
  refine wpList_store_mid hgd 24 x y ho B (2 + i * 7) u.cells.toArray hx hy (hB.there _ _ (by rw [Gm.cells_size]; show 2 + i * 7 + 7 ≤ 59; omega)) ship_info7 (by simp [Gm.Ship.cells, Value.oneCell']) ?_
  rw [setCells_row B 28 _ (2 + i * 7) (Gm.cells g s) w hB.is (by rw [Gm.cells_size]; show 2 + i * 7 + 7 ≤ 59; omega), ship_splice g s i hi u]
  exact h
end

set_option maxRecDepth 100000 in
set_option maxHeartbeats 4000000 in
theorem refremove_yes (g : Gm.G) (A : Option Addr) (n c i : Nat) (w : World) (hg : Gm.ok g) (hn : n = g.shots.length) (hr : Lies w w.heap.size 6 A n (Gm.shotCells g.shots)) (hi : i < 8) (ho : (g.ship i).on = true) :
    Calls Tryz.prog 32 #[.agg (Gm.cells g (.slice A n c)), .int .i64 i] w (Out (Gm.remove g i) 0 w) := by
  have b1 : Box ((w.alloc (.cells (Gm.cells g (.slice A n c)) 28)).alloc (.cells (Gm.cells zeroG (.slice none 0 0)) 28)) w.heap.size 28 (Gm.cells g (.slice A n c)) := (Box.made _ _ _).alloc _
  have b2 : Box ((w.alloc (.cells (Gm.cells g (.slice A n c)) 28)).alloc (.cells (Gm.cells zeroG (.slice none 0 0)) 28)) (w.heap.size + 1) 28 (Gm.cells zeroG (.slice none 0 0)) := Box.made_at _ _ _ (by simp)
  have hb0 := two_below' w (.cells (Gm.cells g (.slice A n c)) 28) (.cells (Gm.cells zeroG (.slice none 0 0)) 28)
  have cm := Lib.hid (refmay_yes g A n c _ hg hn ((hr.below hb0).wider hb0.size))
  have q0 : (Gm.cells g (.slice A n c))[2 + i * 7]? = some (.bool true) := (Gm.cells_ship g _ i 0 hi (by omega)).trans (by show some (Value.bool (g.ship i).on) = _; rw [ho])
  have hi8 : (i : Int) < 8 := by omega
  have hi0 : ¬ (i : Int) < 0 := by omega
  obtain ⟨i0, hi1, hz0, hz1, hz2⟩ := info_parts shot_info
  have hI := Lib.hid hi1
  have hZ := Lib.hid hz0
  have hS := Lib.hid hz1
  have hY := Lib.hid hz2
  have HI := Lib.hid hi
  have HR := Lib.hid hr
  have hN := Lib.hid hn
  have h32 : n ≤ 32 := by rw [hn]; exact hg.2.2.1
  have HB := Lib.hid hb0
  have B1 := Lib.hid b1
  have B2 := Lib.hid b2
  clear hr hn b1 b2 hb0 ho hg hi1 hz0 hz1 hz2 hi
  go_enter Tryz.func32, Tryz.ntmps32
  go_upto_region 3 with (first | (refine wpList_alloc_game rfl rfl ?_) | ((with_reducible refine load_gate rfl rfl ?_); apply LoadGame.mk rfl; (with_reducible exact B1.out)) | (go_at_call 36; ((with_reducible refine (cm.out).mono ?_); rintro e w1 ⟨rfl, hb⟩; have C1 := Lib.hid (B1.out.below hb (by simp <;> omega)); have C2 := Lib.hid (B2.out.below hb (by simp <;> omega)); have cc := C1.out.cell; have cl := C1.out.lt; have hbb := HB.out.trans (hb.mono HB.out.size); have HBB := Lib.hid hbb; have s1 : w.heap.size + 1 + 1 ≤ w1.heap.size := (by have := hb.size; simp at this; omega); clear hb hbb)))
  obtain ⟨G, hG⟩ : ∃ G : Gm.G, G = { g with ship := Gm.upd g.ship i Gm.Ship.none } := ⟨_, rfl⟩
  have D1 := Lib.hid (C1.out.row (Gm.cells G (.slice A n c)))
  have D2 := Lib.hid (C2.out.row_far (show w.heap.size + 1 ≠ w.heap.size by omega) (Gm.cells G (.slice A n c)))
  have DD := Lib.hid (Below.setRow' HBB.out (Nat.le_refl _) (Gm.cells G (.slice A n c)))
  have hsz : (w1.setRow w.heap.size (Gm.cells G (.slice A n c))).heap.size = w1.heap.size := setRow_size _ _ _
  have HG := Lib.hid hG
  subst hG
  go_upto_region 4 with ((with_reducible refine gm_store_ship rfl rfl ?_); apply StoreShip.mk (u := Gm.Ship.none) rfl rfl HI.out; (focus (with_reducible exact C1.out)); dsimp only)
  generalize hW2 : w1.setRow w.heap.size (Gm.cells { g with ship := Gm.upd g.ship i Gm.Ship.none } (.slice A n c)) = W2 at D1 D2 DD hsz ⊢
  clear C1 C2 cc cl hW2 HBB B1 B2 HB cm q0
  have hn := hN.out
  subst hn
  have X0 := Lib.hid (show Shoots g g.shots ⟨g.dice, Gm.upd g.ship i Gm.Ship.none, []⟩ A c w W2 (w.heap.size + 1) w.heap.size (w.heap.size + 1 + 1) (.slice none 0 0) from
    ⟨D1.out, ((HR.out.below DD.out).wider (by omega)), ⟨none, 0, rfl, World.ownsRow_nil _ _ _ _⟩, D2.out, DD.out, by omega⟩)
  clear D1 D2 DD hsz
  go_wp2
  go_loopw [6, 7] (fun s6 ii wr => ∃ k : Nat, k ≤ g.shots.length ∧ ii = .int .i64 k ∧ Shoots g g.shots ⟨g.dice, Gm.upd g.ship i Gm.Ship.none, (g.shots.take k).filter (oth i)⟩ A c w wr (w.heap.size + 1) w.heap.size (w.heap.size + 1 + 1) s6) (fun _ ii _ => g.shots.length - (intOf ii).toNat)
  case atStart => exact ⟨0, Nat.zero_le _, rfl, X0.out⟩
  case round =>
    obtain ⟨k, hk, rfl, hX⟩ := hrel
    clear X0
    have e58 := Gm.cells_58 { g with dice := g.dice, ship := Gm.upd g.ship i Gm.Ship.none } (.slice A g.shots.length c)
    have gc := hX.game.cell
    have gl := hX.game.lt
    dsimp only at gc
    by_cases hlt : k < g.shots.length
    · have hk8 : (k : Int) < g.shots.length := by omega
      obtain ⟨ad, rfl, hbl, a0, a1, a2, a3, a4, a5⟩ := shots_at hX.shots rfl k hlt
      have hsn := Lib.hid (oth_snoc i g.shots k hlt)
      obtain ⟨A3, c3, hs6, hO⟩ := hX.left
      have hlen : ((g.shots.take k).filter (oth i)).length ≤ k := Nat.le_trans (List.length_filter_le _ _) (by rw [List.length_take]; omega)
      generalize hLF : (g.shots.take k).filter (oth i) = left at *
      obtain ⟨s, hs⟩ : ∃ s, s = g.shots[k] := ⟨_, rfl⟩
      rw [← hs] at a0 a1 a2 a3 a4 a5
      have HSS := Lib.hid hs
      have hso : Hid (oth i s = decide (s.owner ≠ i)) := Lib.hid rfl
      obtain ⟨so, sx, sy, svx, svy, sl⟩ := s
      dsimp only at a0 a1 a2 a3 a4 a5 hs6 hO
      subst hs6
      have HX := Lib.hid hX
      have HOO := Lib.hid hO
      have ltA : ad.block < wr.heap.size := by have := hX.size; omega
      have hsz2 := hX.size
      clear hs hX hO hLF
      by_cases h1 : so = i
      · have HO := Lib.hid (show oth i ⟨so, sx, sy, svx, svy, sl⟩ = false from hso.out.trans (decide_eq_false (by simpa using h1)))
        subst h1
        go_wp2
        go_roundw
        case rel =>
          refine ⟨k + 1, by omega, by go_num, ?_⟩
          rw [hsn.out, ← HSS.out, HO.out]
          simp only [Bool.false_eq_true, if_false, List.append_nil]
          exact HX.out
        case measure => simp [intOf]; omega
      · have HO := Lib.hid (show oth i ⟨so, sx, sy, svx, svy, sl⟩ = true from hso.out.trans (decide_eq_true (by simpa using h1)))
        have hne : (so != i) = true := by simpa using h1
        clear hso
        go_wp2_with ((with_reducible refine append_gate (x := .tmp 47) (y := .tmp 53) (t := 26) (e := 90) (size := 6) (bytes := 32) rfl rfl Tryz.underlying26 hI.out hZ.out hS.out hY.out rfl (by decide) ?_); refine Appends.mk rfl (HOO.out.alloc _) (lies_made wr 90 ⟨so, sx, sy, svx, svy, sl⟩) (shotCells_one _) (by unfold maxLen; omega) (by omega) (by simp <;> omega) ?_; intro A4 k4 w2 own2 hg2; have SH2 := Lib.hid (shoots_kept HX.out HOO.out own2 hg2 (by omega)); clear own2 hg2)
        go_roundw
        case rel =>
          refine ⟨k + 1, by omega, by go_num, ?_⟩
          rw [hsn.out, ← HSS.out, HO.out]
          exact SH2.out
        case measure => simp [intOf]; omega
    · have hk8 : ¬ (k : Int) < g.shots.length := by omega
      obtain rfl : k = g.shots.length := by omega
      rw [List.take_length] at hX
      obtain ⟨A3, c3, hs6, hO⟩ := hX.left
      dsimp only at hs6 hO
      generalize hfin : g.shots.filter (oth i) = fin at *
      subst hs6
      have HF := Lib.hid hfin
      have nO := hX.game.unowned hO (by decide)
      have G4 := Lib.hid (show Box (wr.setCell ⟨w.heap.size, 58, none⟩ (.slice A3 fin.length c3)) w.heap.size 28 (Gm.cells (Gm.remove g i) (.slice A3 fin.length c3)) from blk_shots (g := Gm.remove g i) hX.game _)
      have R4 := Lib.hid (hX.res.far (p := ⟨w.heap.size, 58, none⟩) (show w.heap.size + 1 ≠ w.heap.size by omega) (.slice A3 fin.length c3))
      have O4 := Lib.hid (ownsRow_setCell_other (a := ⟨w.heap.size, 58, none⟩) hO nO (.slice A3 fin.length c3))
      have K4 := Lib.hid (hX.below.setCell (p := ⟨w.heap.size, 58, none⟩) (Nat.le_refl _) (.slice A3 fin.length c3))
      have gf := hX.game.free
      clear hX hO hfin nO
      go_wp2_with (first | ((with_reducible refine load_gate rfl rfl ?_); apply LoadGame.mk rfl; exact G4.out) | ((with_reducible refine store_gate rfl rfl ?_); apply StoreGame.mk rfl rfl rfl; exact R4.out))
      have hfl : Hid ((Gm.remove g i).shots.length = fin.length) := Lib.hid (by rw [← HF.out]; rfl)
      refine bodyPost_ret (v := .tuple #[.agg (Gm.cells (Gm.remove g i) (.slice A3 fin.length c3)), .int .i64 0]) ?_ ?_ ?_
      · exact results_cell_tmp (p := 4) (q := 5) rfl _ _ _ _ (Gm.cells (Gm.remove g i) (.slice A3 fin.length c3)) _ rfl (Box.row R4.out _) Tryz.underlying28 rfl game_info
      · rfl
      · refine ⟨A3, c3, by rw [hfl.out], ?_, Below.setRow' K4.out (by omega) _⟩
        have := Lies.owned (own_setRow O4.out (R4.out.unowned O4.out (by decide)) (Gm.cells (Gm.remove g i) (.slice A3 fin.length c3)))
        rw [hfl.out, show Gm.shotCells (Gm.remove g i).shots = Gm.shotCells fin from by rw [← HF.out]; rfl]
        exact this
end Go.Proofs.YtiahpncglpfjeaaGreat
namespace Go.Proofs.YtiahpncglpfjeaaGreat
open Go.RowKit
set_option linter.unusedVariables false

/-- The world behind a spawn. -/
def spawned (w1 : World) (B i : Nat) (x y d : Int) : World :=
  (((((((w1.setCell ⟨B, 1, none⟩ (.int .u64 d)).setCell ⟨B, 2 + i * 7, none⟩ (.bool true)).setCell ⟨B, 2 + i * 7 + 1, none⟩ (.int .i32 x)).setCell ⟨B, 2 + i * 7 + 2, none⟩ (.int .i32 y)).setCell ⟨B, 2 + i * 7 + 3, none⟩ (.int .i32 0)).setCell ⟨B, 2 + i * 7 + 4, none⟩ (.int .i32 0)).setCell ⟨B, 2 + i * 7 + 5, none⟩ (.int .i64 0)).setCell ⟨B, 2 + i * 7 + 6, none⟩ (.int .i64 0)
theorem spawned_own {w1 : World} {B i : Nat} {g : Gm.G} {s : Value} (c1 : Box w1 B 28 (Gm.cells g s)) (hi : i < 8) (x y d : Int) :
    Box (spawned w1 B i x y d) B 28 (Gm.cells { g with dice := d, ship := Gm.upd g.ship i ⟨true, x, y, 0, 0, 0, 0⟩ } s) := blk_ship (blk_dice c1 d) hi ⟨true, x, y, 0, 0, 0, 0⟩
theorem spawned_other {w1 : World} {B B' i : Nat} {t : TypeId} {cs : Array Value} (c2 : Box w1 B' t cs) (hne : B' ≠ B) (x y d : Int) : Box (spawned w1 B i x y d) B' t cs :=
  (((((((c2.far hne _).far hne _).far hne _).far hne _).far hne _).far hne _).far hne _).far hne _
theorem spawned_below {w0 w1 : World} {C B i : Nat} (h : Below C w0 w1) (hC : C ≤ B) (x y d : Int) : Below C w0 (spawned w1 B i x y d) :=
  (((((((h.setCell hC _).setCell hC _).setCell hC _).setCell hC _).setCell hC _).setCell hC _).setCell hC _).setCell hC _

set_option maxRecDepth 100000 in
set_option maxHeartbeats 400000 in
theorem refspawn_walk (g : Gm.G) (A : Option Addr) (n c i : Nat) (x y d : Int) (w : World) (hg : Gm.ok g) (hd : 0 ≤ g.dice ∧ g.dice ≤ 18446744073709551615) (hn : n = g.shots.length) (hr : Lies w w.heap.size 6 A n (Gm.shotCells g.shots)) (hi : i < 8) (ho : (g.ship i).on = false)
    (hx : Dn.share (Dn.next g.dice) 16777216 = x) (hy : Dn.share (Dn.next (Dn.next g.dice)) 16777216 = y) (hdd : Dn.next (Dn.next g.dice) = d) :
    Calls Tryz.prog 33 #[.agg (Gm.cells g (.slice A n c)), .int .i64 i] w fun e w' => e = .returned (.tuple #[.agg (Gm.cells { g with dice := d, ship := Gm.upd g.ship i ⟨true, x, y, 0, 0, 0, 0⟩ } (.slice A n c)), .int .i64 0]) ∧ Below w.heap.size w w' := by
  have b1 : Box ((w.alloc (.cells (Gm.cells g (.slice A n c)) 28)).alloc (.cells (Gm.cells zeroG (.slice none 0 0)) 28)) w.heap.size 28 (Gm.cells g (.slice A n c)) := (Box.made _ _ _).alloc _
  have b2 : Box ((w.alloc (.cells (Gm.cells g (.slice A n c)) 28)).alloc (.cells (Gm.cells zeroG (.slice none 0 0)) 28)) (w.heap.size + 1) 28 (Gm.cells zeroG (.slice none 0 0)) := Box.made_at _ _ _ (by simp)
  have hb0 := two_below' w (.cells (Gm.cells g (.slice A n c)) 28) (.cells (Gm.cells zeroG (.slice none 0 0)) 28)
  have cm := Lib.hid (refmay_yes g A n c _ hg hn ((hr.below hb0).wider hb0.size))
  have cp := fun X => Lib.hid (refplace_any g.dice hd X)
  rw [hx, hy, hdd] at cp
  have hi8 : (i : Int) < 8 := by omega
  obtain ⟨t, ht⟩ : ∃ t, t = g.ship i := ⟨_, rfl⟩
  have q0 : (Gm.cells g (.slice A n c))[2 + i * 7]? = some (.bool false) := (Gm.cells_ship g _ i 0 hi (by omega)).trans (by show some (Value.bool (g.ship i).on) = _; rw [ho])
  have q1 : (Gm.cells g (.slice A n c))[2 + i * 7 + 1]? = some (.int .i32 t.x) := (Gm.cells_ship g _ i 1 hi (by omega)).trans (by rw [ht]; rfl)
  have q2 : (Gm.cells g (.slice A n c))[2 + i * 7 + 2]? = some (.int .i32 t.y) := (Gm.cells_ship g _ i 2 hi (by omega)).trans (by rw [ht]; rfl)
  have q3 : (Gm.cells g (.slice A n c))[2 + i * 7 + 3]? = some (.int .i32 t.vx) := (Gm.cells_ship g _ i 3 hi (by omega)).trans (by rw [ht]; rfl)
  have q4 : (Gm.cells g (.slice A n c))[2 + i * 7 + 4]? = some (.int .i32 t.vy) := (Gm.cells_ship g _ i 4 hi (by omega)).trans (by rw [ht]; rfl)
  have q5 : (Gm.cells g (.slice A n c))[2 + i * 7 + 5]? = some (.int .i64 t.cool) := (Gm.cells_ship g _ i 5 hi (by omega)).trans (by rw [ht]; rfl)
  have q6 : (Gm.cells g (.slice A n c))[2 + i * 7 + 6]? = some (.int .i64 t.score) := (Gm.cells_ship g _ i 6 hi (by omega)).trans (by rw [ht]; rfl)
  have e1 := Gm.cells_1 g (.slice A n c)
  have hbz := Lib.hid hb0
  have B1 := Lib.hid b1
  have B2 := Lib.hid b2
  clear ht hn hr hb0 b1 b2 hx hy hdd ho hg
  go_enter Tryz.func33, Tryz.ntmps33
  go_wp2_with (first | (refine wpList_alloc_game rfl rfl ?_) | ((with_reducible refine load_gate rfl rfl ?_); apply LoadGame.mk rfl; (with_reducible exact B1.out)) | ((with_reducible refine load_gate rfl rfl ?_); apply LoadGame.mk rfl; exact F1.out) | (go_at_call 36; ((with_reducible refine (cm.out).mono ?_); rintro e w1 ⟨rfl, hb⟩; have c1 := B1.out.below hb (by simp; omega); have c2 := B2.out.below hb (by simp); have cc := c1.cell; have cf := c1.free; have cl := c1.lt; have hbb := Lib.hid (hbz.out.trans (hb.mono hbz.out.size)); have F1 := Lib.hid (spawned_own c1 hi x y d); have F2 := Lib.hid (spawned_other (B := w.heap.size) (i := i) c2 (by omega) x y d); clear c1 c2 hb)) | (go_at_call 65; ((with_reducible refine ((cp _).out).mono ?_); rintro e w' ⟨rfl, rfl⟩)) | (refine wpList_build_is rfl (t := 24) (vs := [(0, .bool true), (1, .int .i32 x), (2, .int .i32 y)]) rfl rfl (built_ship0 _ _) ?_) | ((with_reducible refine store_gate rfl rfl ?_); apply StoreGame.mk rfl rfl rfl; exact F2.out))
  refine bodyPost_ret (v := .tuple #[.agg (Gm.cells { g with dice := d, ship := Gm.upd g.ship i ⟨true, x, y, 0, 0, 0, 0⟩ } (.slice A n c)), .int .i64 0]) ?_ ?_ ?_
  · exact results_cell_tmp (p := 4) (q := 5) rfl _ _ _ _ (Gm.cells { g with dice := d, ship := Gm.upd g.ship i ⟨true, x, y, 0, 0, 0, 0⟩ } (.slice A n c)) _ rfl (Box.row F2.out _) Tryz.underlying28 rfl game_info
  · rfl
  · exact ⟨rfl, Below.setRow' (spawned_below hbb.out (Nat.le_refl _) x y d) (by omega) _⟩
theorem refspawn_yes (g : Gm.G) (A : Option Addr) (n c i : Nat) (w : World) (hg : Gm.ok g) (hd : 0 ≤ g.dice ∧ g.dice ≤ 18446744073709551615) (hn : n = g.shots.length) (hr : Lies w w.heap.size 6 A n (Gm.shotCells g.shots)) (hi : i < 8) (ho : (g.ship i).on = false) :
    Calls Tryz.prog 33 #[.agg (Gm.cells g (.slice A n c)), .int .i64 i] w fun e w' => e = .returned (.tuple #[.agg (Gm.cells (Gm.spawn g i) (.slice A n c)), .int .i64 0]) ∧ Below w.heap.size w w' :=
  refspawn_walk g A n c i _ _ _ w hg hd hn hr hi ho rfl rfl rfl
end Go.Proofs.YtiahpncglpfjeaaGreat
namespace Go.Proofs.YtiahpncglpfjeaaGreat
open Go.RowKit
set_option linter.unusedVariables false

section
variable {P : Program} {ops : Array Oper} {rest : List Oper} {o : Oper} {a : Act} {w : World} {Q : Exit → Act → World → Prop}
theorem run_loadVar_any (w : World) (ad : Addr) (ty : TypeId) (cs : List Value) (d : TypeDesc) (hc : ∀ j v, cs[j]? = some v → w.cell? (ad.add j) = some v)
    (hu : P.underlying ty = some d) (hd : d.isRow = true) (hi : (P.info? ty).map (·.size) = some cs.length) :
    (loadVar ty ad).run P w = .ok (.agg cs.toArray) w := by
  have hl : (loadCells ad cs.length).run P w = .ok cs.toArray w := run_loadCells_list (P := P) w ad cs hc
  cases hq : P.info? ty with
  | none => simp [hq] at hi
  | some i =>
    have hs : i.size = cs.length := by simpa [hq] using hi
    have hagg : (isAgg ty).run P w = .ok true w := by
      unfold isAgg
      rw [Sem.run_bind, run_underlying hu w]
      cases d <;> simp_all
    simp [loadVar, Sem.run_bind, hagg, sizeOf, typeInfo, hq, hs, hl]
/-- What the load of a struct at an address wants. -/
def LoadAt (P : Program) (ops : Array Oper) (Q : Exit → Act → World → Prop) (rest : List Oper) (dst : Option Tmp) (p : Value) (size : Nat) (a : Act) (w : World) : Prop :=
  ∃ (ad : Addr) (cs : List Value), p = .pointer (some ad) ∧ (∀ j v, cs[j]? = some v → w.cell? (ad.add j) = some v) ∧ cs.length = size ∧ wpList P ops Q rest (a.put dst (.agg cs.toArray)) w
theorem LoadAt.mk {dst : Option Tmp} {p : Value} {size : Nat} {ad : Addr} {cs : List Value} (hp : p = .pointer (some ad)) (hc : ∀ j v, cs[j]? = some v → w.cell? (ad.add j) = some v) (hs : cs.length = size) (h : wpList P ops Q rest (a.put dst (.agg cs.toArray)) w) : LoadAt P ops Q rest dst p size a w := ⟨ad, cs, hp, hc, hs, h⟩
theorem load_at_gate {ty : TypeId} {x : Operand} {size : Nat} {d : TypeDesc} (hgd : o.guard = none) (ho : o.op = .load ty x) (hu : P.underlying ty = some d) (hd : d.isRow = true) (hi : (P.info? ty).map (·.size) = some size) (h : LoadAt P ops Q rest o.dst (a.eval x) size a w) : wpList P ops Q (o :: rest) a w := by
  obtain ⟨ad, cs, hx, hc, hs, h⟩ := h
  refine wpList_plain hgd fun _ hK => ?_
  unfold Oper.wp execOp
  simp only [ho, hx, Instr.loadAt, Instr.sureAddr, Sem.run_bind, Sem.run_pure, Result.andThen_ok, run_loadVar_any w ad ty cs d hc hu hd (by rw [hi, hs])]
  exact hK _ _ h
theorem exec_load_any {x : Operand} {ty : TypeId} {ad : Addr} {cs : List Value} {d : TypeDesc} (ho : o.op = .load ty x) (hx : a.eval x = .pointer (some ad)) (hc : ∀ j v, cs[j]? = some v → w.cell? (ad.add j) = some v) (hu : P.underlying ty = some d) (hd : d.isRow = true) (hi : (P.info? ty).map (·.size) = some cs.length) :
    (execOp a.eval o).run P w = .ok (.value (.agg cs.toArray)) w := by
  unfold execOp
  simp only [ho, hx, Instr.loadAt, Instr.sureAddr, Sem.run_bind, Sem.run_pure, Result.andThen_ok, run_loadVar_any w ad ty cs d hc hu hd hi]
end
/-- The first n of a slice. -/
theorem run_slice_to {P : Program} {t e : TypeId} {sz : Nat} (a : Option Addr) (len cap n : Nat) (hu : P.underlying t = some (.slice e)) (hs : (P.info? e).map (·.size) = some sz) (h : n ≤ cap) (w : World) :
    (Instr.slice t (.slice a len cap) none (some (.int .i64 (n : Int))) none).run P w = .ok (.slice a n cap) w := by
  have h0 : (0 : Int) ≤ n := by omega
  have h1 : (n : Int) ≤ cap := by omega
  cases hq : P.info? e with
  | none => simp [hq] at hs
  | some i =>
    have ea : (if cap = 0 then a else a.map fun x => x.add 0) = a := by
      split
      · rfl
      · cases a
        · rfl
        · simp [Addr.add]
    simp [Instr.slice, run_underlying hu, Instr.sliceBounds, Instr.sliceBound, asIntOf, sizeOf, typeInfo, hq, h, Addr.add]
end Go.Proofs.YtiahpncglpfjeaaGreat
namespace En
open Go
def zeroC : Array Value := cells ⟨0, [], in0⟩ (.slice none 0 0)
theorem zeroC_size : zeroC.size = 26 := rfl
/-- An entry, and where its events lie. -/
structure S where
  e : E
  adr : Option Addr
  cap : Nat
def S.sl (q : S) : Value := .slice q.adr q.e.evs.length q.cap
def S.cells (q : S) : List Value := (En.cells q.e q.sl).toList
def sCells (l : List S) : List Value := l.flatMap S.cells
theorem S.cells_len (q : S) : q.cells.length = 26 := rfl
theorem S.cells_arr (q : S) : q.cells.toArray = En.cells q.e q.sl := by unfold S.cells; exact Array.toArray_toList
theorem sCells_len (l : List S) : (sCells l).length = l.length * 26 := by
  induction l with
  | nil => rfl
  | cons s l ih => unfold sCells at *; rw [List.flatMap_cons, List.length_append, ih, List.length_cons, S.cells_len]; omega
theorem sCells_at (l : List S) (k j : Nat) (hk : k < l.length) (hj : j < 26) : (sCells l)[k * 26 + j]? = l[k].cells[j]? := by
  induction l generalizing k with
  | nil => simp at hk
  | cons s l ih =>
    unfold sCells at *
    rw [List.flatMap_cons]
    match k with
    | 0 => rw [List.getElem?_append_left (by rw [S.cells_len]; omega)]; simp
    | k + 1 =>
      rw [List.getElem?_append_right (by rw [S.cells_len]; omega)]
      have := ih k (by simpa using hk)
      rw [show (k + 1) * 26 + j - s.cells.length = k * 26 + j from by rw [S.cells_len]; omega, this]
      simp
theorem sCells_one (l : List S) : ∀ u ∈ sCells l, u.oneCell' = true := by
  intro u hu
  obtain ⟨q, _, hq⟩ := List.mem_flatMap.1 hu
  have := cells_one q.e q.sl rfl
  rw [Array.all_eq_true'] at this
  exact this u (by unfold S.cells at hq; simpa using hq)
end En
namespace Go.Proofs.YtiahpncglpfjeaaGreat
open Go.RowKit Go.Shelf
set_option linter.unusedVariables false
set_option linter.unusedSimpArgs false

theorem en_zero : (Tryz.prog.info? 42).map (·.zero) = some (some (.agg En.zeroC)) := by kernel_rfl
theorem alloc_en {ops : Array Oper} {Q : Exit → Act → World → Prop} {o : Oper} {rest : List Oper} {a : Act} {w : World} (hgd : o.guard = none) (ho : o.op = .alloc 42)
    (h : wpList Tryz.prog ops Q rest (a.put o.dst (.pointer (some ⟨w.heap.size, 0, none⟩))) (w.alloc (.cells En.zeroC 42))) : wpList Tryz.prog ops Q (o :: rest) a w :=
  wpList_alloc_z hgd ho en_zero rfl h
theorem en_info26 : (Tryz.prog.info? 42).map (·.size) = some 26 := en_info
theorem en_store_new {ops : Array Oper} {Q : Exit → Act → World → Prop} {o : Oper} {rest : List Oper} {a : Act} {x y : Operand} {v : World} {old : Array Value} {e : En.E} {s : Value} (hgd : o.guard = none) (ho : o.op = .store 42 x y) (hx : a.eval x = .pointer (some ⟨v.heap.size, 0, none⟩)) (hy : a.eval y = .agg (En.cells e s))
    (hold : old.size = 26) (hs : s.oneCell' = true) (h : wpList Tryz.prog ops Q rest (a.put o.dst undef) (v.alloc (.cells (En.cells e s) 42))) : wpList Tryz.prog ops Q (o :: rest) a (v.alloc (.cells old 42)) :=
  wpList_store_new hgd ho hx hy rfl rfl en_info (by rw [En.cells_size]; exact hold) (En.cells_one _ _ hs) h

/-- Entries lie one behind the other, and the events of each. -/
structure LiesS (w : World) (B : Nat) (A : Option Addr) (n : Nat) (l : List En.S) : Prop where
  row : Lies w B 26 A n (En.sCells l)
  each : ∀ q ∈ l, Lies w B 4 q.adr q.e.evs.length (En.evCells q.e.evs)
  few : ∀ q ∈ l, q.e.evs.length ≤ maxLen
section
variable {w w' : World} {B B' n : Nat} {A : Option Addr} {l : List En.S}
theorem LiesS.below (h : LiesS w B A n l) (hb : Below B w w') : LiesS w' B A n l := ⟨h.row.below hb, fun q hq => (h.each q hq).below hb, h.few⟩
theorem LiesS.wider (h : LiesS w B A n l) (hB : B ≤ B') : LiesS w B' A n l := ⟨h.row.wider hB, fun q hq => (h.each q hq).wider hB, h.few⟩
theorem LiesS.len (h : LiesS w B A n l) : l.length = n := by have := h.row.len; rw [En.sCells_len] at this; omega
theorem LiesS.nil : LiesS w B A 0 [] := ⟨⟨rfl, fun h => absurd rfl h, fun _ _ h => absurd rfl h⟩, fun q h => (by cases h), fun q h => (by cases h)⟩
theorem LiesS.at (h : LiesS w B A n l) (k : Nat) (hk : k < l.length) : ∃ ad, A = some ad ∧ ad.block < B ∧ ∀ j v, l[k].cells[j]? = some v → w.cell? ((ad.add (k * 26)).add j) = some v := by
  have hn := h.len
  obtain ⟨ad, rfl, hb⟩ := h.row.start (by omega)
  refine ⟨ad, rfl, hb, fun j v hv => ?_⟩
  have hj : j < 26 := by have := (List.getElem?_eq_some_iff.1 hv).1; rwa [En.S.cells_len] at this
  rw [add_twice]
  exact h.row.cell ad rfl (by omega) _ v (by rw [En.sCells_at l k j hk hj, hv])
theorem LiesS.take (h : LiesS w B A n l) (k : Nat) (hk : k ≤ n) : LiesS w B A k (l.take k) := by
  have hn := h.len
  refine ⟨⟨by rw [En.sCells_len, List.length_take]; omega, fun h0 => h.row.start (by omega), fun ad e h0 j u hu => ?_⟩, fun q hq => h.each q (List.mem_of_mem_take hq), fun q hq => h.few q (List.mem_of_mem_take hq)⟩
  have hj : j < k * 26 := by have := (List.getElem?_eq_some_iff.1 hu).1; rw [En.sCells_len, List.length_take] at this; omega
  refine h.row.cell ad e (by omega) j u ?_
  have h1 := En.sCells_at l (j / 26) (j % 26) (by omega) (by omega)
  have h2 := En.sCells_at (l.take k) (j / 26) (j % 26) (by rw [List.length_take]; omega) (by omega)
  rw [show j / 26 * 26 + j % 26 = j by omega] at h1 h2
  rw [h1, ← hu, h2]
  congr 2
  simp
end

end Go.Proofs.YtiahpncglpfjeaaGreat
namespace En
open Go
end En
namespace Go.Proofs.YtiahpncglpfjeaaGreat
open Go.RowKit Go.Shelf
set_option linter.unusedVariables false
set_option linter.unusedSimpArgs false

theorem Lies.boxed {W : World} {S n size : Nat} {t : TypeId} {xs : List Value} (h : Box W S t xs.toArray) (hl : xs.length = n * size) : Lies W W.heap.size size (some ⟨S, 0, none⟩) n xs :=
  ⟨hl, fun _ => ⟨_, rfl, h.lt⟩, fun ad e _ j u hj => by
    injection e with e
    subst e
    have hadd : (⟨S, 0, none⟩ : Addr).add j = ⟨S, j, none⟩ := by unfold Addr.add; split <;> simp_all
    rw [hadd, h.cell j, ← hj]
    simp⟩
end Go.Proofs.YtiahpncglpfjeaaGreat
namespace En
open Go
theorem Like.refl (e : E) : Like e e := ⟨rfl, rfl, fun _ _ => rfl⟩
theorem Like.symm {e o : E} (h : Like e o) : Like o e := ⟨h.1.symm, h.2.1.symm, fun i hi => (h.2.2 i hi).symm⟩
theorem Like.trans {e o u : E} (h : Like e o) (k : Like o u) : Like e u := ⟨h.1.trans k.1, h.2.1.trans k.2.1, fun i hi => (h.2.2 i hi).trans (k.2.2 i hi)⟩
end En
namespace Go.Proofs.YtiahpncglpfjeaaGreat
open Go.RowKit Go.Shelf
set_option linter.unusedVariables false
set_option linter.unusedSimpArgs false

end Go.Proofs.YtiahpncglpfjeaaGreat
namespace En
open Go
open Classical in
noncomputable def eqB (l m : List S) : Bool := decide (l.length = m.length ∧ ∀ j (h : j < l.length) (h' : j < m.length), Like l[j].e m[j].e)
end En
namespace Go.Proofs.YtiahpncglpfjeaaGreat
open Go.RowKit Go.Shelf
set_option linter.unusedVariables false
set_option linter.unusedSimpArgs false

end Go.Proofs.YtiahpncglpfjeaaGreat
namespace Go.Proofs.YtiahpncglpfjeaaGreat
open Go.RowKit Go.Shelf
set_option linter.unusedVariables false
set_option linter.unusedSimpArgs false

section
variable {ops : Array Oper} {rest : List Oper} {o : Oper} {a : Act} {w : World} {Q : Exit → Act → World → Prop} {x : Operand} {dst : Option Tmp} {v : Value}
/-- What a list of one entry wants. -/
def BuildEn (ops : Array Oper) (Q : Exit → Act → World → Prop) (rest : List Oper) (dst : Option Tmp) (v : Value) (a : Act) (w : World) : Prop :=
  ∃ (e : En.E) (s : Value), v = .agg (En.cells e s) ∧ wpList Tryz.prog ops Q rest (a.put dst (.slice (some ⟨w.heap.size, 0, none⟩) 1 1)) (w.alloc (.cells (En.cells e s) 42))
theorem BuildEn.mk {e : En.E} {s : Value} (hv : v = .agg (En.cells e s)) (h : wpList Tryz.prog ops Q rest (a.put dst (.slice (some ⟨w.heap.size, 0, none⟩) 1 1)) (w.alloc (.cells (En.cells e s) 42))) : BuildEn ops Q rest dst v a w := ⟨e, s, hv, h⟩
end
theorem LiesS.one {W : World} {S : Nat} {e : En.E} {A : Option Addr} {c : Nat} (h : Box W S 42 (En.cells e (.slice A e.evs.length c))) (hL : Lies W W.heap.size 4 A e.evs.length (En.evCells e.evs)) (hf : e.evs.length ≤ maxLen) : LiesS W W.heap.size (some ⟨S, 0, none⟩) 1 [⟨e, A, c⟩] := by
  refine ⟨Lies.boxed (t := 42) ?_ rfl, fun q hq => ?_, fun q hq => ?_⟩
  · have e1 : (En.sCells [⟨e, A, c⟩]).toArray = En.cells e (.slice A e.evs.length c) := by unfold En.sCells; rw [List.flatMap_cons, List.flatMap_nil, List.append_nil]; exact En.S.cells_arr _
    rw [e1]; exact h
  · obtain rfl := List.mem_singleton.1 hq; exact hL
  · obtain rfl := List.mem_singleton.1 hq; exact hf

namespace En
end En
end Go.Proofs.YtiahpncglpfjeaaGreat
namespace Sx
open Go Im
set_option linter.unusedVariables false
def rest (n : Nat) (o : Option (List Int)) : Option (List Int) := (o.bind (rdn n)).map (·.2)
end Sx
namespace Go.Proofs.YtiahpncglpfjeaaGreat
open Go.RowKit Go.Shelf
set_option linter.unusedVariables false
set_option linter.unusedSimpArgs false

/-- Everything stays but block B. -/
structure Sol (B : Nat) (w w' : World) : Prop where
  os : w'.os = w.os
  tape : w'.tape = w.tape
  output : w'.output = w.output
  size : w.heap.size ≤ w'.heap.size
  block : ∀ k, k < w.heap.size → k ≠ B → w'.heap[k]? = w.heap[k]?
section
variable {B b : Nat} {w w' w'' : World}
theorem Sol.refl (B : Nat) (w : World) : Sol B w w := ⟨rfl, rfl, rfl, Nat.le_refl _, fun _ _ _ => rfl⟩
theorem Sol.trans (h : Sol B w w') (k : Sol B w' w'') : Sol B w w'' := ⟨k.os.trans h.os, k.tape.trans h.tape, k.output.trans h.output, Nat.le_trans h.size k.size, fun i hi hne => (k.block i (Nat.lt_of_lt_of_le hi h.size) hne).trans (h.block i hi hne)⟩
theorem Sol.put (h : Sol B w w') (i : Nat) (u : Value) : Sol B w (w'.setCell ⟨B, i, none⟩ u) := by
  have hz := (Below.refl 0 w').setCell (p := ⟨B, i, none⟩) (Nat.zero_le _) u
  exact h.trans ⟨hz.os, hz.tape, hz.output, hz.size, fun k hk hne => heap_setCell_other w' ⟨B, i, none⟩ k u hne⟩
theorem Sol.call (h : Sol B w w') (hb : Below w'.heap.size w' w'') : Sol B w w'' := h.trans ⟨hb.os, hb.tape, hb.output, hb.size, fun k hk _ => hb.block k hk⟩
theorem Sol.fresh (h : Sol B w w') {p : Addr} (hp : w.heap.size ≤ p.block) (u : Value) : Sol B w (w'.setCell p u) := by
  have hz := (Below.refl 0 w').setCell (p := p) (Nat.zero_le _) u
  exact ⟨hz.os.trans h.os, hz.tape.trans h.tape, hz.output.trans h.output, Nat.le_trans h.size hz.size, fun k hk hne => (heap_setCell_other w' p k u (by omega)).trans (h.block k hk hne)⟩
theorem Sol.freshRow (h : Sol B w w') {g : Nat} (hp : w.heap.size ≤ g) (cs : Array Value) : Sol B w (w'.setRow g cs) := by
  have hz := Below.setRow' (g := g) (Below.refl 0 w') (Nat.zero_le _) cs
  exact ⟨hz.os.trans h.os, hz.tape.trans h.tape, hz.output.trans h.output, Nat.le_trans h.size hz.size, fun k hk hne => (setRow_other w' g k cs (by omega)).trans (h.block k hk hne)⟩
theorem Sol.below (h : Sol B w w') (hb : b ≤ B) (hs : b ≤ w.heap.size) : Below b w w' := ⟨h.os, h.tape, h.output, h.size, fun i hi => h.block i (by omega) (by omega)⟩
end
section
variable {B : Nat} {w w' : World} {o : Option (List Int)}
end

end Go.Proofs.YtiahpncglpfjeaaGreat
namespace En
open Go
set_option linter.unusedVariables false
/-- The document's own state: which kind it is at, behind which slot. -/
def At (kd sl z : Int) : Prop := (kd = 2 ∧ (-1 ≤ sl ∧ sl ≤ 7) ∧ z = sl) ∨ (kd = 1 ∧ (0 ≤ sl ∧ sl ≤ 7) ∧ z = 8 + sl)
end En
namespace Go.Proofs.YtiahpncglpfjeaaGreat
open Go.RowKit Go.Shelf
set_option linter.unusedVariables false
set_option linter.unusedSimpArgs false

theorem refmayin_any (x y b : Int) (w : World) (hx : -128 ≤ x) (hy : -128 ≤ y) :
    Calls Tryz.prog 62 #[.agg #[.int .i8 x, .int .i8 y, .int .u8 b]] w fun e w' => e = .returned (.bool (decide (-127 ≤ x ∧ -127 ≤ y))) ∧ Below w.heap.size w w' := by
  by_cases h1 : x = -128
  · subst h1
    go_enter Tryz.func62, Tryz.ntmps62
    go_wp2
    go_ret
    exact ⟨ret_bool (by simp), one_below _ _⟩
  · have e1 : (x != -128) = true := by simpa using h1
    by_cases h2 : y = -128
    · subst h2
      go_enter Tryz.func62, Tryz.ntmps62
      go_wp2
      go_ret
      exact ⟨ret_bool (by simp), one_below _ _⟩
    · have e2 : (y != -128) = true := by simpa using h2
      have hd : decide (-127 ≤ x ∧ -127 ≤ y) = true := decide_eq_true (by omega)
      rw [hd]
      go_enter Tryz.func62, Tryz.ntmps62
      go_wp2
      go_ret
      exact ⟨ret_bool (by simp), one_below _ _⟩

set_option maxRecDepth 100000 in
set_option maxHeartbeats 8000000 in
theorem refmayen_any (e : En.E) (A : Option Addr) (n c : Nat) (w : World) (hn : n = e.evs.length) (hn63 : n ≤ maxLen) (hty : ∀ i, i < 8 → Gm.tyIn (e.inp i)) (hL : Lies w w.heap.size 4 A n (En.evCells e.evs)) :
    Calls Tryz.prog 30 #[.agg (En.cells e (.slice A n c))] w fun r w' => r = .returned (.bool (decide (En.Ok e))) ∧ Below w.heap.size w w' := by
  obtain ⟨d, hv⟩ : ∃ d, d = decide (En.Ok e) := ⟨_, rfl⟩
  rw [← hv]
  have HV := Lib.hid hv
  have HN := Lib.hid hn
  clear hv hn
  have P0 := Lib.hid (Box.made w 42 (En.cells e (.slice A n c)))
  have K0 := Lib.hid (one_below w (.cells (En.cells e (.slice A n c)) 42))
  have hr0 := Lib.hid ((hL.below K0.out).wider K0.out.size)
  have c0 := P0.out.cell 0
  have c1 := P0.out.cell 1
  rw [En.cells_0] at c0
  rw [En.cells_1] at c1
  have n63 : (n : Int) ≤ 9223372036854775807 := by unfold maxLen at hn63; omega
  clear hL hn63
  by_cases hf1 : e.frame < 0
  · have hno := Lib.hid (show ¬ En.Ok e from fun h => by have := h.frame; omega)
    go_enter Tryz.func30, Tryz.ntmps30
    go_wp2
    go_ret
    exact ⟨ret_bool (by rw [HV.out]; exact (decide_eq_false hno.out).symm), K0.out⟩
  by_cases hf2 : 1048576 ≤ e.frame
  · have hno := Lib.hid (show ¬ En.Ok e from fun h => by have := h.frame; omega)
    go_enter Tryz.func30, Tryz.ntmps30
    go_wp2
    go_ret
    exact ⟨ret_bool (by rw [HV.out]; exact (decide_eq_false hno.out).symm), K0.out⟩
  have HF := Lib.hid (show 0 ≤ e.frame ∧ e.frame < 1048576 by omega)
  go_enter Tryz.func30, Tryz.ntmps30
  go_wp2
  go_loopw [3, 4, 5] (fun kv sv i wr => ∃ (k : Nat) (kd sl z : Int), k ≤ n ∧ i = .int .i64 k ∧ kv = .int .i64 kd ∧ sv = .int .i64 sl ∧ En.At kd sl z ∧ (En.Row (-1) e.evs ↔ En.Row z (e.evs.drop k)) ∧ Below (w.alloc (.cells (En.cells e (.slice A n c)) 42)).heap.size (w.alloc (.cells (En.cells e (.slice A n c)) 42)) wr) (fun _ _ i _ => n - (intOf i).toNat)
  case atStart => exact ⟨0, 2, -1, -1, by omega, rfl, rfl, rfl, .inl ⟨rfl, by omega, rfl⟩, Iff.rfl, Below.refl _ _⟩
  case round =>
    obtain ⟨k, kd, sl, z, hk, rfl, rfl, rfl, hat, hrow, hb⟩ := hrel
    have p1 := ((P0.out.below hb P0.out.lt).cell 1).trans (En.cells_1 _ _)
    have HB := Lib.hid hb
    have KB := Lib.hid (K0.out.trans (hb.mono K0.out.size))
    by_cases hlt : k < n
    · have hk8 : (k : Int) < n := by omega
      have hkl : k < e.evs.length := by have := HN.out; omega
      obtain ⟨ad, rfl, hbl, e0, e1, e2, e3⟩ := evs_at (hr0.out.below hb) HN.out k hkl
      rw [List.drop_eq_getElem_cons hkl] at hrow
      generalize hv : e.evs[k] = v at e0 e1 e2 e3 hrow
      obtain ⟨vk, vs, vg, vp⟩ := v
      dsimp only at e0 e1 e2 e3
      have hrow' : En.Row (-1) e.evs ↔ (En.evOk ⟨vk, vs, vg, vp⟩ ∧ z < En.place ⟨vk, vs, vg, vp⟩) ∧ En.Row (En.place ⟨vk, vs, vg, vp⟩) (e.evs.drop (k + 1)) := hrow
      have HW := Lib.hid hrow'
      have sz := hb.size
      have ltA : ad.block < wr.heap.size := Nat.lt_of_lt_of_le hbl hb.size
      have ltP := (P0.out.below hb P0.out.lt).lt
      have Q1 := Lib.hid (Box.made wr 61 #[.int .i64 vk, .int .i64 vs, .int .i64 vg, .int .i64 vp])
      have K1 := Lib.hid (KB.out.alloc KB.out.size (.cells #[.int .i64 vk, .int .i64 vs, .int .i64 vg, .int .i64 vp] 61))
      have KX := Lib.hid (HB.out.alloc HB.out.size (.cells #[.int .i64 vk, .int .i64 vs, .int .i64 vg, .int .i64 vp] 61))
      have q1 := Q1.out.cell
      have HAT := Lib.hid hat
      clear hrow hrow' hb hv hat
      rcases HAT.out with ⟨rfl, hs, rfl⟩ | ⟨rfl, hs, rfl⟩
      · by_cases k1 : vk = 1
        · subst k1
          have HPL := Lib.hid (show En.place ⟨1, vs, vg, vp⟩ = 8 + vs from rfl)
          by_cases t1 : vs ≤ -1
          · have HNO := Lib.hid (show ¬ (En.evOk ⟨1, vs, vg, vp⟩ ∧ z < En.place ⟨1, vs, vg, vp⟩) from fun h => by obtain ⟨⟨_, h2, _⟩, h5⟩ := h; rw [HPL.out] at h5; dsimp only at h2 h5; omega)
            go_wp2
            go_ret
            exact ⟨ret_bool (by rw [HV.out]; exact (decide_eq_false fun h => absurd (HW.out.1 h.row).1 HNO.out).symm), K1.out⟩
          by_cases t2 : 8 ≤ vs
          · have HNO := Lib.hid (show ¬ (En.evOk ⟨1, vs, vg, vp⟩ ∧ z < En.place ⟨1, vs, vg, vp⟩) from fun h => by obtain ⟨⟨_, h2, h3, h4⟩, _⟩ := h; dsimp only at h2 h3 h4; omega)
            go_wp2
            go_ret
            exact ⟨ret_bool (by rw [HV.out]; exact (decide_eq_false fun h => absurd (HW.out.1 h.row).1 HNO.out).symm), K1.out⟩
          by_cases t3 : vg < 1
          · have HNO := Lib.hid (show ¬ (En.evOk ⟨1, vs, vg, vp⟩ ∧ z < En.place ⟨1, vs, vg, vp⟩) from fun h => by obtain ⟨⟨_, h2, h3, h4⟩, _⟩ := h; dsimp only at h2 h3 h4; omega)
            go_wp2
            go_ret
            exact ⟨ret_bool (by rw [HV.out]; exact (decide_eq_false fun h => absurd (HW.out.1 h.row).1 HNO.out).symm), K1.out⟩
          by_cases t4 : 60000 < vg
          · have HNO := Lib.hid (show ¬ (En.evOk ⟨1, vs, vg, vp⟩ ∧ z < En.place ⟨1, vs, vg, vp⟩) from fun h => by obtain ⟨⟨_, h2, h3, h4⟩, _⟩ := h; dsimp only at h2 h3 h4; omega)
            go_wp2
            go_ret
            exact ⟨ret_bool (by rw [HV.out]; exact (decide_eq_false fun h => absurd (HW.out.1 h.row).1 HNO.out).symm), K1.out⟩
          by_cases t5 : vp < 0
          · have HNO := Lib.hid (show ¬ (En.evOk ⟨1, vs, vg, vp⟩ ∧ z < En.place ⟨1, vs, vg, vp⟩) from fun h => by obtain ⟨⟨_, h2, h3, h4⟩, _⟩ := h; dsimp only at h2 h3 h4; omega)
            go_wp2
            go_ret
            exact ⟨ret_bool (by rw [HV.out]; exact (decide_eq_false fun h => absurd (HW.out.1 h.row).1 HNO.out).symm), K1.out⟩
          by_cases t6 : 12 ≤ vp
          · have HNO := Lib.hid (show ¬ (En.evOk ⟨1, vs, vg, vp⟩ ∧ z < En.place ⟨1, vs, vg, vp⟩) from fun h => by obtain ⟨⟨_, h2, h3, h4⟩, _⟩ := h; dsimp only at h2 h3 h4; omega)
            go_wp2
            go_ret
            exact ⟨ret_bool (by rw [HV.out]; exact (decide_eq_false fun h => absurd (HW.out.1 h.row).1 HNO.out).symm), K1.out⟩
          have HNX := Lib.hid (show En.Row (-1) e.evs ↔ En.Row (8 + vs) (e.evs.drop (k + 1)) from by rw [HW.out, HPL.out]; exact ⟨fun h => h.2, fun h => ⟨⟨⟨by first | exact .inl rfl | exact .inr rfl, by dsimp only; omega, by dsimp only; omega, by dsimp only; omega⟩, by (try dsimp only); omega⟩, h⟩⟩)
          go_wp2
          go_roundw
          case rel => exact ⟨k + 1, 1, vs, 8 + vs, by omega, by go_num, rfl, rfl, .inr ⟨rfl, by omega, rfl⟩, HNX.out, KX.out⟩
          case measure => simp [intOf]; omega
        · by_cases k2 : vk = 2
          · subst k2
            have HPL := Lib.hid (show En.place ⟨2, vs, vg, vp⟩ = vs from rfl)
            by_cases t1 : vs ≤ z
            · have HNO := Lib.hid (show ¬ (En.evOk ⟨2, vs, vg, vp⟩ ∧ z < En.place ⟨2, vs, vg, vp⟩) from fun h => by obtain ⟨⟨_, h2, _⟩, h5⟩ := h; rw [HPL.out] at h5; dsimp only at h2 h5; omega)
              go_wp2
              go_ret
              exact ⟨ret_bool (by rw [HV.out]; exact (decide_eq_false fun h => absurd (HW.out.1 h.row).1 HNO.out).symm), K1.out⟩
            by_cases t2 : 8 ≤ vs
            · have HNO := Lib.hid (show ¬ (En.evOk ⟨2, vs, vg, vp⟩ ∧ z < En.place ⟨2, vs, vg, vp⟩) from fun h => by obtain ⟨⟨_, h2, h3, h4⟩, _⟩ := h; dsimp only at h2 h3 h4; omega)
              go_wp2
              go_ret
              exact ⟨ret_bool (by rw [HV.out]; exact (decide_eq_false fun h => absurd (HW.out.1 h.row).1 HNO.out).symm), K1.out⟩
            by_cases t3 : vg < 1
            · have HNO := Lib.hid (show ¬ (En.evOk ⟨2, vs, vg, vp⟩ ∧ z < En.place ⟨2, vs, vg, vp⟩) from fun h => by obtain ⟨⟨_, h2, h3, h4⟩, _⟩ := h; dsimp only at h2 h3 h4; omega)
              go_wp2
              go_ret
              exact ⟨ret_bool (by rw [HV.out]; exact (decide_eq_false fun h => absurd (HW.out.1 h.row).1 HNO.out).symm), K1.out⟩
            by_cases t4 : 60000 < vg
            · have HNO := Lib.hid (show ¬ (En.evOk ⟨2, vs, vg, vp⟩ ∧ z < En.place ⟨2, vs, vg, vp⟩) from fun h => by obtain ⟨⟨_, h2, h3, h4⟩, _⟩ := h; dsimp only at h2 h3 h4; omega)
              go_wp2
              go_ret
              exact ⟨ret_bool (by rw [HV.out]; exact (decide_eq_false fun h => absurd (HW.out.1 h.row).1 HNO.out).symm), K1.out⟩
            by_cases t5 : vp < 0
            · have HNO := Lib.hid (show ¬ (En.evOk ⟨2, vs, vg, vp⟩ ∧ z < En.place ⟨2, vs, vg, vp⟩) from fun h => by obtain ⟨⟨_, h2, h3, h4⟩, _⟩ := h; dsimp only at h2 h3 h4; omega)
              go_wp2
              go_ret
              exact ⟨ret_bool (by rw [HV.out]; exact (decide_eq_false fun h => absurd (HW.out.1 h.row).1 HNO.out).symm), K1.out⟩
            by_cases t6 : 12 ≤ vp
            · have HNO := Lib.hid (show ¬ (En.evOk ⟨2, vs, vg, vp⟩ ∧ z < En.place ⟨2, vs, vg, vp⟩) from fun h => by obtain ⟨⟨_, h2, h3, h4⟩, _⟩ := h; dsimp only at h2 h3 h4; omega)
              go_wp2
              go_ret
              exact ⟨ret_bool (by rw [HV.out]; exact (decide_eq_false fun h => absurd (HW.out.1 h.row).1 HNO.out).symm), K1.out⟩
            have HNX := Lib.hid (show En.Row (-1) e.evs ↔ En.Row (vs) (e.evs.drop (k + 1)) from by rw [HW.out, HPL.out]; exact ⟨fun h => h.2, fun h => ⟨⟨⟨by first | exact .inl rfl | exact .inr rfl, by dsimp only; omega, by dsimp only; omega, by dsimp only; omega⟩, by (try dsimp only); omega⟩, h⟩⟩)
            go_wp2
            go_roundw
            case rel => exact ⟨k + 1, 2, vs, vs, by omega, by go_num, rfl, rfl, .inl ⟨rfl, by omega, rfl⟩, HNX.out, KX.out⟩
            case measure => simp [intOf]; omega
          · have b1 : (vk == 1) = false := by simpa using k1
            have b2 : (vk != 2) = true := by simpa using k2
            have HNO := Lib.hid (show ¬ (En.evOk ⟨vk, vs, vg, vp⟩ ∧ z < En.place ⟨vk, vs, vg, vp⟩) from fun h => by obtain ⟨⟨h1, _⟩, _⟩ := h; dsimp only at h1; omega)
            go_wp2
            go_ret
            exact ⟨ret_bool (by rw [HV.out]; exact (decide_eq_false fun h => absurd (HW.out.1 h.row).1 HNO.out).symm), K1.out⟩
      · by_cases k1 : vk = 1
        · subst k1
          have HPL := Lib.hid (show En.place ⟨1, vs, vg, vp⟩ = 8 + vs from rfl)
          by_cases t1 : vs ≤ sl
          · have HNO := Lib.hid (show ¬ (En.evOk ⟨1, vs, vg, vp⟩ ∧ 8 + sl < En.place ⟨1, vs, vg, vp⟩) from fun h => by obtain ⟨⟨_, h2, _⟩, h5⟩ := h; rw [HPL.out] at h5; dsimp only at h2 h5; omega)
            go_wp2
            go_ret
            exact ⟨ret_bool (by rw [HV.out]; exact (decide_eq_false fun h => absurd (HW.out.1 h.row).1 HNO.out).symm), K1.out⟩
          by_cases t2 : 8 ≤ vs
          · have HNO := Lib.hid (show ¬ (En.evOk ⟨1, vs, vg, vp⟩ ∧ 8 + sl < En.place ⟨1, vs, vg, vp⟩) from fun h => by obtain ⟨⟨_, h2, h3, h4⟩, _⟩ := h; dsimp only at h2 h3 h4; omega)
            go_wp2
            go_ret
            exact ⟨ret_bool (by rw [HV.out]; exact (decide_eq_false fun h => absurd (HW.out.1 h.row).1 HNO.out).symm), K1.out⟩
          by_cases t3 : vg < 1
          · have HNO := Lib.hid (show ¬ (En.evOk ⟨1, vs, vg, vp⟩ ∧ 8 + sl < En.place ⟨1, vs, vg, vp⟩) from fun h => by obtain ⟨⟨_, h2, h3, h4⟩, _⟩ := h; dsimp only at h2 h3 h4; omega)
            go_wp2
            go_ret
            exact ⟨ret_bool (by rw [HV.out]; exact (decide_eq_false fun h => absurd (HW.out.1 h.row).1 HNO.out).symm), K1.out⟩
          by_cases t4 : 60000 < vg
          · have HNO := Lib.hid (show ¬ (En.evOk ⟨1, vs, vg, vp⟩ ∧ 8 + sl < En.place ⟨1, vs, vg, vp⟩) from fun h => by obtain ⟨⟨_, h2, h3, h4⟩, _⟩ := h; dsimp only at h2 h3 h4; omega)
            go_wp2
            go_ret
            exact ⟨ret_bool (by rw [HV.out]; exact (decide_eq_false fun h => absurd (HW.out.1 h.row).1 HNO.out).symm), K1.out⟩
          by_cases t5 : vp < 0
          · have HNO := Lib.hid (show ¬ (En.evOk ⟨1, vs, vg, vp⟩ ∧ 8 + sl < En.place ⟨1, vs, vg, vp⟩) from fun h => by obtain ⟨⟨_, h2, h3, h4⟩, _⟩ := h; dsimp only at h2 h3 h4; omega)
            go_wp2
            go_ret
            exact ⟨ret_bool (by rw [HV.out]; exact (decide_eq_false fun h => absurd (HW.out.1 h.row).1 HNO.out).symm), K1.out⟩
          by_cases t6 : 12 ≤ vp
          · have HNO := Lib.hid (show ¬ (En.evOk ⟨1, vs, vg, vp⟩ ∧ 8 + sl < En.place ⟨1, vs, vg, vp⟩) from fun h => by obtain ⟨⟨_, h2, h3, h4⟩, _⟩ := h; dsimp only at h2 h3 h4; omega)
            go_wp2
            go_ret
            exact ⟨ret_bool (by rw [HV.out]; exact (decide_eq_false fun h => absurd (HW.out.1 h.row).1 HNO.out).symm), K1.out⟩
          have HNX := Lib.hid (show En.Row (-1) e.evs ↔ En.Row (8 + vs) (e.evs.drop (k + 1)) from by rw [HW.out, HPL.out]; exact ⟨fun h => h.2, fun h => ⟨⟨⟨by first | exact .inl rfl | exact .inr rfl, by dsimp only; omega, by dsimp only; omega, by dsimp only; omega⟩, by (try dsimp only); omega⟩, h⟩⟩)
          go_wp2
          go_roundw
          case rel => exact ⟨k + 1, 1, vs, 8 + vs, by omega, by go_num, rfl, rfl, .inr ⟨rfl, by omega, rfl⟩, HNX.out, KX.out⟩
          case measure => simp [intOf]; omega
        · have b1 : (vk == 1) = false := by simpa using k1
          have b2 : (vk != 1) = true := by simpa using k1
          have HNO := Lib.hid (show ¬ (En.evOk ⟨vk, vs, vg, vp⟩ ∧ 8 + sl < En.place ⟨vk, vs, vg, vp⟩) from fun h => by
            obtain ⟨⟨h1, h2, _⟩, h5⟩ := h
            dsimp only at h1 h2
            have : vk = 2 := by omega
            subst this
            rw [show En.place ⟨2, vs, vg, vp⟩ = vs from rfl] at h5
            omega)
          go_wp2
          go_ret
          exact ⟨ret_bool (by rw [HV.out]; exact (decide_eq_false fun h => absurd (HW.out.1 h.row).1 HNO.out).symm), K1.out⟩
    · have hk8 : ¬ (k : Int) < n := by omega
      obtain rfl : k = n := by omega
      have hd : e.evs.drop k = [] := List.drop_eq_nil_of_le (by have := HN.out; omega)
      rw [hd] at hrow
      have HW := Lib.hid (show En.Row (-1) e.evs from hrow.2 trivial)
      clear hrow hb hat c0 c1
      go_wp2
      go_loopw [7] (fun i wq => ∃ m : Nat, m ≤ 8 ∧ i = .int .i64 m ∧ Below wr.heap.size wr wq ∧ ∀ j, j < m → En.inOk (e.inp j)) (fun i _ => 8 - (intOf i).toNat)
      case atStart => exact ⟨0, by omega, rfl, Below.refl _ _, fun j hj => absurd hj (Nat.not_lt_zero j)⟩
      case round =>
        obtain ⟨m, hm, rfl, hb2, hall⟩ := hrel
        have KM := Lib.hid (KB.out.trans (hb2.mono KB.out.size))
        have PM := Lib.hid ((P0.out.below HB.out P0.out.lt).below hb2 (P0.out.below HB.out P0.out.lt).lt)
        clear p1
        by_cases hlt8 : m < 8
        · have hm8 : (m : Int) < 8 := by omega
          have e0 := (PM.out.cell (2 + m * 3)).trans (En.cells_in e _ m 0 hlt8 (by omega))
          have e1 := (PM.out.cell (2 + m * 3 + 1)).trans (En.cells_in e _ m 1 hlt8 (by omega))
          have e2 := (PM.out.cell (2 + m * 3 + 2)).trans (En.cells_in e _ m 2 hlt8 (by omega))
          have hok : En.inOk (e.inp m) ↔ (-127 ≤ (e.inp m).x ∧ -127 ≤ (e.inp m).y) := Iff.rfl
          have hti := hty m hlt8
          have HK := Lib.hid (show ∀ j, j < m + 1 → j = m ∨ j < m from fun j hj => by omega)
          obtain ⟨p, hp⟩ : ∃ p, p = e.inp m := ⟨_, rfl⟩
          rw [← hp] at e0 e1 e2 hok hti
          obtain ⟨x, y, b⟩ := p
          simp only [Gm.In.cells, List.getElem?_cons_zero, List.getElem?_cons_succ, Nat.add_zero] at e0 e1 e2
          dsimp only at hok
          obtain ⟨tx, ty, tb⟩ := hti
          dsimp only at tx ty tb
          have cs := fun X => Lib.hid (refmayin_any x y b X tx.1 ty.1)
          have HP := Lib.hid hp
          have HALL := Lib.hid hall
          have HB2 := Lib.hid hb2
          clear hp hall hb2
          by_cases hi : -127 ≤ x ∧ -127 ≤ y
          · rw [decide_eq_true hi] at cs
            have hnew := Lib.hid (show ∀ j, j < m + 1 → En.inOk (e.inp j) from fun j hj => by
              rcases HK.out j hj with rfl | h
              · rw [← HP.out]; exact hok.2 hi
              · exact HALL.out j h)
            clear hok hi
            go_wp2_with (go_at_call 62; ((with_reducible refine ((cs _).out).mono ?_); rintro r w2 ⟨rfl, hb⟩; have K2 := Lib.hid (HB2.out.trans (hb.mono HB2.out.size)); clear hb))
            go_roundw
            case rel => exact ⟨m + 1, by omega, by go_num, K2.out, hnew.out⟩
            case measure => simp [intOf]; omega
          · rw [decide_eq_false hi] at cs
            have hno := Lib.hid (show ¬ En.Ok e from fun h => hi (by have := h.ins m hlt8; rw [← HP.out] at this; exact this))
            clear hok hi
            go_wp2_with (go_at_call 62; ((with_reducible refine ((cs _).out).mono ?_); rintro r w2 ⟨rfl, hb⟩; have K2 := Lib.hid (KM.out.trans (hb.mono KM.out.size)); clear hb))
            go_ret
            exact ⟨ret_bool (by rw [HV.out]; exact (decide_eq_false hno.out).symm), K2.out⟩
        · have hm8 : ¬ (m : Int) < 8 := by omega
          obtain rfl : m = 8 := by omega
          have hyes := Lib.hid (show En.Ok e from ⟨HF.out, HW.out, hall⟩)
          clear hall hb2
          go_wp2
          go_ret
          exact ⟨ret_bool (by rw [HV.out]; exact (decide_eq_true hyes.out).symm), KM.out⟩
end Go.Proofs.YtiahpncglpfjeaaGreat
namespace Go.Proofs.YtiahpncglpfjeaaGreat
open Go.RowKit
set_option linter.unusedVariables false
set_option linter.unusedSimpArgs false

theorem ship_neq (s t : Gm.Ship) (w : World) : (binOp .neq 24 (.agg s.cells.toArray) (.agg t.cells.toArray)).run Tryz.prog w = .ok (.bool (!s.eqB t)) w := by
  simp only [binOp]
  simp [Op.equal, Op.maxDepth, ship_eq']

set_option maxRecDepth 100000 in
set_option maxHeartbeats 16000000 in
theorem refmay_any (g : Gm.G) (A : Option Addr) (n c : Nat) (w : World) (hty : Gm.ty g) (hn : n = g.shots.length) (hn63 : n ≤ maxLen) (hr : Lies w w.heap.size 6 A n (Gm.shotCells g.shots)) :
    Calls Tryz.prog 36 #[.agg (Gm.cells g (.slice A n c))] w fun e w' => (∃ v, e = .returned (.bool v) ∧ (v = true ↔ Gm.ok g)) ∧ Below w.heap.size w w' := by
  have hN : Hid (n = g.shots.length) := Lib.hid hn
  have n63 : (n : Int) ≤ 9223372036854775807 := by unfold maxLen at hn63; omega
  have hc : ∀ W : World, ∀ j, (W.alloc (.cells (Gm.cells g (.slice A n c)) 28)).cell? ⟨W.heap.size, j, none⟩ = (Gm.cells g (.slice A n c))[j]? := fun W j => (Box.made W _ _).cell j
  have h0 := Gm.cells_0 g (.slice A n c)
  have h58 := Gm.cells_58 g (.slice A n c)
  clear hn hn63
  by_cases hf : g.frame < 0
  · have d1 : decide (g.frame < 0) = true := decide_eq_true hf
    have hno := Lib.hid (show ¬ Gm.ok g from fun h => by have := h.1; omega)
    clear hr hf hty
    go_enter Tryz.func36, Tryz.ntmps36
    go_wp2
    go_ret
    exact ⟨by first | exact ⟨false, rfl, by simp; exact hno.out⟩ | exact .inl ⟨rfl, hno.out⟩, one_below _ _⟩
  have d1 : decide (g.frame < 0) = false := decide_eq_false hf
  by_cases hf2 : 1048576 < g.frame
  · have d2 : decide (1048576 < g.frame) = true := decide_eq_true hf2
    have hno := Lib.hid (show ¬ Gm.ok g from fun h => by have := h.2.1; omega)
    clear hr hf hf2 hty
    go_enter Tryz.func36, Tryz.ntmps36
    go_wp2
    go_ret
    exact ⟨by first | exact ⟨false, rfl, by simp; exact hno.out⟩ | exact .inl ⟨rfl, hno.out⟩, one_below _ _⟩
  have d2 : decide (1048576 < g.frame) = false := decide_eq_false hf2
  by_cases hf3 : 32 < (n : Int)
  · have d3 : decide (32 < (n : Int)) = true := decide_eq_true hf3
    have hno := Lib.hid (show ¬ Gm.ok g from fun h => by have := h.2.2.1; have := hN.out; omega)
    clear hr hf hf2 hf3 hty
    go_enter Tryz.func36, Tryz.ntmps36
    go_wp2
    go_ret
    exact ⟨by first | exact ⟨false, rfl, by simp; exact hno.out⟩ | exact .inl ⟨rfl, hno.out⟩, one_below _ _⟩
  have d3 : decide (32 < (n : Int)) = false := decide_eq_false hf3
  have HF := Lib.hid (show 0 ≤ g.frame ∧ g.frame ≤ 1048576 ∧ g.shots.length ≤ 32 from ⟨by omega, by omega, by have := hN.out; omega⟩)
  obtain ⟨_, _, hships, hshots⟩ := hty
  clear hf hf2 hf3
  go_enter Tryz.func36, Tryz.ntmps36
  go_wp2
  go_loopw [3] (fun i wr => ∃ k : Nat, k ≤ 8 ∧ i = .int .i64 k ∧ Box wr w.heap.size 28 (Gm.cells g (.slice A n c)) ∧ Below w.heap.size w wr ∧ ∀ j, j < k → Gm.okShip (g.ship j)) (fun i _ => 8 - (intOf i).toNat)
  case atStart => exact ⟨0, by omega, rfl, Box.made _ _ _, one_below _ _, fun j hj => absurd hj (Nat.not_lt_zero j)⟩
  case round =>
    obtain ⟨k, hk, rfl, hB, hb, hall⟩ := hrel
    have HALL := Lib.hid hall
    clear hall
    by_cases hlt : k < 8
    · have hcr := hB.cell
      have hlB := hB.lt
      have e0 := cells_at hcr hlt 0 (by omega)
      have e1 := cells_at hcr hlt 1 (by omega)
      have e2 := cells_at hcr hlt 2 (by omega)
      have e3 := cells_at hcr hlt 3 (by omega)
      have e4 := cells_at hcr hlt 4 (by omega)
      have e5 := cells_at hcr hlt 5 (by omega)
      have e6 := cells_at hcr hlt 6 (by omega)
      have ty := hships k hlt
      have HS := Lib.hid (show Gm.ok g → Gm.okShip (g.ship k) from fun h => h.2.2.2.1 k hlt)
      have HZ := Lib.hid (show Gm.okShip (g.ship k) → ∀ j, j < k + 1 → Gm.okShip (g.ship j) from fun h j hj => by
        by_cases e : j = k
        · rw [e]; exact h
        · exact HALL.out j (by omega))
      generalize g.ship k = s at e0 e1 e2 e3 e4 e5 e6 ty HS HZ
      obtain ⟨on, x, y, vx, vy, cool, score⟩ := s
      simp only [Gm.Ship.cells, List.getElem?_cons_zero, List.getElem?_cons_succ, Nat.add_zero] at e0 e1 e2 e3 e4 e5 e6
      obtain ⟨tx, ty, tvx, tvy, tc, ts⟩ := ty
      unfold Gm.i32 Gm.i64 at *
      dsimp only at tx ty tvx tvy tc ts
      have hk8 : (k : Int) < 8 := by omega
      have HB := Lib.hid hB
      have HBB := Lib.hid hb
      clear hc hcr hships hshots h0 h58 d1 d2 d3 hB hb
      cases on
      · by_cases hz : (⟨false, x, y, vx, vy, cool, score⟩ : Gm.Ship) = Gm.Ship.none
        · have ho := Lib.hid (HZ.out (by rw [hz]; refine ⟨.inr rfl, ?_, ?_, ?_, ?_, ?_, ?_, ?_, ?_⟩ <;> simp [Gm.Ship.none, Gm.inF, Gm.slow]))
          injection hz with z1 z2 z3 z4 z5 z6 z7
          subst z2 z3 z4 z5 z6 z7
          clear HS HZ tx ty tvx tvy tc ts
          go_wp2
          go_roundw
          case rel => exact ⟨k + 1, by omega, by go_num, HB.out.alloc _, HBB.out.alloc (Nat.le_of_lt hlB) _, ho.out⟩
          case measure => simp [intOf]; omega
        · have he := fun W => ship_neq ⟨false, x, y, vx, vy, cool, score⟩ Gm.Ship.none W
          rw [show (⟨false, x, y, vx, vy, cool, score⟩ : Gm.Ship).eqB Gm.Ship.none = false by
            cases hq : (⟨false, x, y, vx, vy, cool, score⟩ : Gm.Ship).eqB Gm.Ship.none
            · rfl
            · exact absurd (Gm.Ship.eqB_iff.1 hq) hz] at he
          simp only [Gm.Ship.cells, Gm.Ship.none, Bool.not_false] at he
          have hno := Lib.hid (show ¬ Gm.ok g from fun h => (HS.out h).1.elim (fun hh => absurd hh (by simp)) hz)
          clear HS HZ hz tx ty tvx tvy tc ts
          go_wp2
          go_ret
          exact ⟨by first | exact ⟨false, rfl, by simp; exact hno.out⟩ | exact .inl ⟨rfl, hno.out⟩, HBB.out.alloc (Nat.le_of_lt hlB) _⟩
      · skip
        have cx := fun X => Lib.hid (refin_any x tx X)
        have cy := fun X => Lib.hid (refin_any y ty X)
        have cvx := fun X => Lib.hid (refslow_any vx 524288 tvx (by omega) X)
        have cvy := fun X => Lib.hid (refslow_any vy 524288 tvy (by omega) X)
        obtain ⟨bx, hx⟩ : ∃ b, b = (decide (0 ≤ x) && decide (x < 16777216)) := ⟨_, rfl⟩
        obtain ⟨b_y, hy⟩ : ∃ b, b = (decide (0 ≤ y) && decide (y < 16777216)) := ⟨_, rfl⟩
        obtain ⟨bvx, hvx⟩ : ∃ b, b = (decide (-524288 ≤ vx) && decide (vx ≤ 524288)) := ⟨_, rfl⟩
        obtain ⟨bvy, hvy⟩ : ∃ b, b = (decide (-524288 ≤ vy) && decide (vy ≤ 524288)) := ⟨_, rfl⟩
        rw [← hx] at cx; rw [← hy] at cy; rw [← hvx] at cvx; rw [← hvy] at cvy
        have HX := Lib.hid (show bx = true ↔ Gm.inF x by rw [hx]; unfold Gm.inF; simp)
        have HY := Lib.hid (show b_y = true ↔ Gm.inF y by rw [hy]; unfold Gm.inF; simp)
        have HVX := Lib.hid (show bvx = true ↔ Gm.slow vx 524288 by rw [hvx]; unfold Gm.slow; simp)
        have HVY := Lib.hid (show bvy = true ↔ Gm.slow vy 524288 by rw [hvy]; unfold Gm.slow; simp)
        have HO := Lib.hid (show Gm.ok g → bx = true ∧ b_y = true ∧ bvx = true ∧ bvy = true ∧ 0 ≤ cool ∧ cool ≤ 10 ∧ 0 ≤ score ∧ score ≤ 1073741824 from fun h => by obtain ⟨_, h1, h2, h3, h4, h5, h6, h7, h8⟩ := HS.out h; exact ⟨HX.out.2 h1, HY.out.2 h2, HVX.out.2 h3, HVY.out.2 h4, h5, h6, h7, h8⟩)
        have HQ := Lib.hid (show (bx = true ∧ b_y = true ∧ bvx = true ∧ bvy = true ∧ 0 ≤ cool ∧ cool ≤ 10 ∧ 0 ≤ score ∧ score ≤ 1073741824) → ∀ j, j < k + 1 → Gm.okShip (g.ship j) from fun ⟨h1, h2, h3, h4, h5, h6, h7, h8⟩ => HZ.out ⟨.inl rfl, HX.out.1 h1, HY.out.1 h2, HVX.out.1 h3, HVY.out.1 h4, h5, h6, h7, h8⟩)
        clear hx hy hvx hvy HX HY HVX HVY HS HZ tx ty tvx tvy tc ts
        cases bx
        · have hno := Lib.hid (show ¬ Gm.ok g from fun h => by have := (HO.out h).1; simp at this)
          clear HO HQ
          go_wp2_with (first | (go_at_call 76; first | ((with_reducible refine ((cx _).out).mono ?_); rintro e v1 ⟨rfl, rfl⟩) | ((with_reducible refine ((cy _).out).mono ?_); rintro e v1 ⟨rfl, rfl⟩)) | (go_at_call 77; first | ((with_reducible refine ((cvx _).out).mono ?_); rintro e v1 ⟨rfl, rfl⟩) | ((with_reducible refine ((cvy _).out).mono ?_); rintro e v1 ⟨rfl, rfl⟩)))
          go_ret
          exact ⟨by first | exact ⟨false, rfl, by simp; exact hno.out⟩ | exact .inl ⟨rfl, hno.out⟩, HBB.out.alloc (Nat.le_of_lt hlB) _⟩
        cases b_y
        · have hno := Lib.hid (show ¬ Gm.ok g from fun h => by have := (HO.out h).2.1; simp at this)
          clear HO HQ
          go_wp2_with (first | (go_at_call 76; first | ((with_reducible refine ((cx _).out).mono ?_); rintro e v1 ⟨rfl, rfl⟩) | ((with_reducible refine ((cy _).out).mono ?_); rintro e v1 ⟨rfl, rfl⟩)) | (go_at_call 77; first | ((with_reducible refine ((cvx _).out).mono ?_); rintro e v1 ⟨rfl, rfl⟩) | ((with_reducible refine ((cvy _).out).mono ?_); rintro e v1 ⟨rfl, rfl⟩)))
          go_ret
          exact ⟨by first | exact ⟨false, rfl, by simp; exact hno.out⟩ | exact .inl ⟨rfl, hno.out⟩, HBB.out.alloc (Nat.le_of_lt hlB) _⟩
        cases bvx
        · have hno := Lib.hid (show ¬ Gm.ok g from fun h => by have := (HO.out h).2.2.1; simp at this)
          clear HO HQ
          go_wp2_with (first | (go_at_call 76; first | ((with_reducible refine ((cx _).out).mono ?_); rintro e v1 ⟨rfl, rfl⟩) | ((with_reducible refine ((cy _).out).mono ?_); rintro e v1 ⟨rfl, rfl⟩)) | (go_at_call 77; first | ((with_reducible refine ((cvx _).out).mono ?_); rintro e v1 ⟨rfl, rfl⟩) | ((with_reducible refine ((cvy _).out).mono ?_); rintro e v1 ⟨rfl, rfl⟩)))
          go_ret
          exact ⟨by first | exact ⟨false, rfl, by simp; exact hno.out⟩ | exact .inl ⟨rfl, hno.out⟩, HBB.out.alloc (Nat.le_of_lt hlB) _⟩
        cases bvy
        · have hno := Lib.hid (show ¬ Gm.ok g from fun h => by have := (HO.out h).2.2.2.1; simp at this)
          clear HO HQ
          go_wp2_with (first | (go_at_call 76; first | ((with_reducible refine ((cx _).out).mono ?_); rintro e v1 ⟨rfl, rfl⟩) | ((with_reducible refine ((cy _).out).mono ?_); rintro e v1 ⟨rfl, rfl⟩)) | (go_at_call 77; first | ((with_reducible refine ((cvx _).out).mono ?_); rintro e v1 ⟨rfl, rfl⟩) | ((with_reducible refine ((cvy _).out).mono ?_); rintro e v1 ⟨rfl, rfl⟩)))
          go_ret
          exact ⟨by first | exact ⟨false, rfl, by simp; exact hno.out⟩ | exact .inl ⟨rfl, hno.out⟩, HBB.out.alloc (Nat.le_of_lt hlB) _⟩
        by_cases q0 : cool < 0
        · have f0 : decide (cool < 0) = true := decide_eq_true q0
          have hno := Lib.hid (show ¬ Gm.ok g from fun h => by have := (HO.out h).2.2.2.2.1; omega)
          clear HO HQ q0
          go_wp2_with (first | (go_at_call 76; first | ((with_reducible refine ((cx _).out).mono ?_); rintro e v1 ⟨rfl, rfl⟩) | ((with_reducible refine ((cy _).out).mono ?_); rintro e v1 ⟨rfl, rfl⟩)) | (go_at_call 77; first | ((with_reducible refine ((cvx _).out).mono ?_); rintro e v1 ⟨rfl, rfl⟩) | ((with_reducible refine ((cvy _).out).mono ?_); rintro e v1 ⟨rfl, rfl⟩)))
          go_ret
          exact ⟨by first | exact ⟨false, rfl, by simp; exact hno.out⟩ | exact .inl ⟨rfl, hno.out⟩, HBB.out.alloc (Nat.le_of_lt hlB) _⟩
        have f0 : decide (cool < 0) = false := decide_eq_false q0
        by_cases q1 : 10 < cool
        · have f1 : decide (10 < cool) = true := decide_eq_true q1
          have hno := Lib.hid (show ¬ Gm.ok g from fun h => by have := (HO.out h).2.2.2.2.2.1; omega)
          clear HO HQ q0 q1
          go_wp2_with (first | (go_at_call 76; first | ((with_reducible refine ((cx _).out).mono ?_); rintro e v1 ⟨rfl, rfl⟩) | ((with_reducible refine ((cy _).out).mono ?_); rintro e v1 ⟨rfl, rfl⟩)) | (go_at_call 77; first | ((with_reducible refine ((cvx _).out).mono ?_); rintro e v1 ⟨rfl, rfl⟩) | ((with_reducible refine ((cvy _).out).mono ?_); rintro e v1 ⟨rfl, rfl⟩)))
          go_ret
          exact ⟨by first | exact ⟨false, rfl, by simp; exact hno.out⟩ | exact .inl ⟨rfl, hno.out⟩, HBB.out.alloc (Nat.le_of_lt hlB) _⟩
        have f1 : decide (10 < cool) = false := decide_eq_false q1
        by_cases q2 : score < 0
        · have f2 : decide (score < 0) = true := decide_eq_true q2
          have hno := Lib.hid (show ¬ Gm.ok g from fun h => by have := (HO.out h).2.2.2.2.2.2.1; omega)
          clear HO HQ q0 q1 q2
          go_wp2_with (first | (go_at_call 76; first | ((with_reducible refine ((cx _).out).mono ?_); rintro e v1 ⟨rfl, rfl⟩) | ((with_reducible refine ((cy _).out).mono ?_); rintro e v1 ⟨rfl, rfl⟩)) | (go_at_call 77; first | ((with_reducible refine ((cvx _).out).mono ?_); rintro e v1 ⟨rfl, rfl⟩) | ((with_reducible refine ((cvy _).out).mono ?_); rintro e v1 ⟨rfl, rfl⟩)))
          go_ret
          exact ⟨by first | exact ⟨false, rfl, by simp; exact hno.out⟩ | exact .inl ⟨rfl, hno.out⟩, HBB.out.alloc (Nat.le_of_lt hlB) _⟩
        have f2 : decide (score < 0) = false := decide_eq_false q2
        by_cases q3 : 1073741824 < score
        · have f3 : decide (1073741824 < score) = true := decide_eq_true q3
          have hno := Lib.hid (show ¬ Gm.ok g from fun h => by have := (HO.out h).2.2.2.2.2.2.2; omega)
          clear HO HQ q0 q1 q2 q3
          go_wp2_with (first | (go_at_call 76; first | ((with_reducible refine ((cx _).out).mono ?_); rintro e v1 ⟨rfl, rfl⟩) | ((with_reducible refine ((cy _).out).mono ?_); rintro e v1 ⟨rfl, rfl⟩)) | (go_at_call 77; first | ((with_reducible refine ((cvx _).out).mono ?_); rintro e v1 ⟨rfl, rfl⟩) | ((with_reducible refine ((cvy _).out).mono ?_); rintro e v1 ⟨rfl, rfl⟩)))
          go_ret
          exact ⟨by first | exact ⟨false, rfl, by simp; exact hno.out⟩ | exact .inl ⟨rfl, hno.out⟩, HBB.out.alloc (Nat.le_of_lt hlB) _⟩
        have f3 : decide (1073741824 < score) = false := decide_eq_false q3
        have ho := Lib.hid (HQ.out ⟨rfl, rfl, rfl, rfl, by omega, by omega, by omega, by omega⟩)
        clear HO HQ q0 q1 q2 q3
        go_wp2_with (first | (go_at_call 76; first | ((with_reducible refine ((cx _).out).mono ?_); rintro e v1 ⟨rfl, rfl⟩) | ((with_reducible refine ((cy _).out).mono ?_); rintro e v1 ⟨rfl, rfl⟩)) | (go_at_call 77; first | ((with_reducible refine ((cvx _).out).mono ?_); rintro e v1 ⟨rfl, rfl⟩) | ((with_reducible refine ((cvy _).out).mono ?_); rintro e v1 ⟨rfl, rfl⟩)))
        go_roundw
        case rel => exact ⟨k + 1, by omega, by go_num, HB.out.alloc _, HBB.out.alloc (Nat.le_of_lt hlB) _, ho.out⟩
        case measure => simp [intOf]; omega
    · have hk8 : ¬ (k : Int) < 8 := by omega
      have HA8 := Lib.hid (show ∀ j, j < 8 → Gm.okShip (g.ship j) from fun j hj => HALL.out j (by omega))
      have hcr := hB.cell
      have hlB := hB.lt
      clear hc hships h0 d1 d2 d3 HALL
      go_wp2
      go_loopw [5] (fun i wr => ∃ k : Nat, k ≤ n ∧ i = .int .i64 k ∧ Box wr w.heap.size 28 (Gm.cells g (.slice A n c)) ∧ Below w.heap.size w wr ∧ ∀ j (hj : j < g.shots.length), j < k → Gm.okShot (g.shots[j]'hj)) (fun i _ => n - (intOf i).toNat)
      case atStart => exact ⟨0, by omega, rfl, hB, hb, fun j _ hj => absurd hj (Nat.not_lt_zero j)⟩
      case round =>
        obtain ⟨m, hm, rfl, hB, hb, hall⟩ := hrel
        have HALL := Lib.hid hall
        clear hcr hlB hall
        have hcr := hB.cell
        have hlB := hB.lt
        by_cases hlt : m < n
        · have hml : m < g.shots.length := by have := hN.out; omega
          obtain ⟨ad, rfl, hbl, e0, e1, e2, e3, e4, e5⟩ := shots_at (hr.below hb) hN.out m hml
          have ty := hshots m hml
          have HS := Lib.hid (show Gm.ok g → Gm.okShot (g.shots[m]'hml) from fun h => h.2.2.2.2 m hml)
          have HZ := Lib.hid (show Gm.okShot (g.shots[m]'hml) → ∀ j (hj : j < g.shots.length), j < m + 1 → Gm.okShot (g.shots[j]'hj) from fun h j hjl hj => by
            by_cases e : j = m
            · subst e; exact h
            · exact HALL.out j hjl (by omega))
          generalize g.shots[m]'hml = s at e0 e1 e2 e3 e4 e5 ty HS HZ
          obtain ⟨owner, x, y, vx, vy, left⟩ := s
          dsimp only at e0 e1 e2 e3 e4 e5
          obtain ⟨to_, tx, ty, tvx, tvy, tl⟩ := ty
          unfold Gm.i32 Gm.i64 at *
          dsimp only at to_ tx ty tvx tvy tl
          have hmn : (m : Int) < n := by omega
          have HB := Lib.hid hB
          have HBB := Lib.hid hb
          clear hr hshots hb hB
          have cx := fun X => Lib.hid (refin_any x tx X)
          have cy := fun X => Lib.hid (refin_any y ty X)
          have cvx := fun X => Lib.hid (refslow_any vx 393216 tvx (by omega) X)
          have cvy := fun X => Lib.hid (refslow_any vy 393216 tvy (by omega) X)
          obtain ⟨bx, hx⟩ : ∃ b, b = (decide (0 ≤ x) && decide (x < 16777216)) := ⟨_, rfl⟩
          obtain ⟨b_y, hy⟩ : ∃ b, b = (decide (0 ≤ y) && decide (y < 16777216)) := ⟨_, rfl⟩
          obtain ⟨bvx, hvx⟩ : ∃ b, b = (decide (-393216 ≤ vx) && decide (vx ≤ 393216)) := ⟨_, rfl⟩
          obtain ⟨bvy, hvy⟩ : ∃ b, b = (decide (-393216 ≤ vy) && decide (vy ≤ 393216)) := ⟨_, rfl⟩
          rw [← hx] at cx; rw [← hy] at cy; rw [← hvx] at cvx; rw [← hvy] at cvy
          have HX := Lib.hid (show bx = true ↔ Gm.inF x by rw [hx]; unfold Gm.inF; simp)
          have HY := Lib.hid (show b_y = true ↔ Gm.inF y by rw [hy]; unfold Gm.inF; simp)
          have HVX := Lib.hid (show bvx = true ↔ Gm.slow vx 393216 by rw [hvx]; unfold Gm.slow; simp)
          have HVY := Lib.hid (show bvy = true ↔ Gm.slow vy 393216 by rw [hvy]; unfold Gm.slow; simp)
          have HO := Lib.hid (show Gm.ok g → bx = true ∧ b_y = true ∧ bvx = true ∧ bvy = true ∧ 0 ≤ owner ∧ owner < 8 ∧ 1 ≤ left ∧ left ≤ 24 from fun h => by obtain ⟨h5, h6, h1, h2, h3, h4, h7, h8⟩ := HS.out h; exact ⟨HX.out.2 h1, HY.out.2 h2, HVX.out.2 h3, HVY.out.2 h4, h5, h6, h7, h8⟩)
          have HQ := Lib.hid (show (bx = true ∧ b_y = true ∧ bvx = true ∧ bvy = true ∧ 0 ≤ owner ∧ owner < 8 ∧ 1 ≤ left ∧ left ≤ 24) → ∀ j (hj : j < g.shots.length), j < m + 1 → Gm.okShot (g.shots[j]'hj) from fun ⟨h1, h2, h3, h4, h5, h6, h7, h8⟩ => HZ.out ⟨h5, h6, HX.out.1 h1, HY.out.1 h2, HVX.out.1 h3, HVY.out.1 h4, h7, h8⟩)
          clear hx hy hvx hvy HX HY HVX HVY HS HZ tx ty tvx tvy to_ tl
          by_cases q0 : owner < 0
          · have f0 : decide (owner < 0) = true := decide_eq_true q0
            have hno := Lib.hid (show ¬ Gm.ok g from fun h => by have := (HO.out h).2.2.2.2.1; omega)
            clear HO HQ q0
            go_wp2_with (first | (go_at_call 76; first | ((with_reducible refine ((cx _).out).mono ?_); rintro e v1 ⟨rfl, rfl⟩) | ((with_reducible refine ((cy _).out).mono ?_); rintro e v1 ⟨rfl, rfl⟩)) | (go_at_call 77; first | ((with_reducible refine ((cvx _).out).mono ?_); rintro e v1 ⟨rfl, rfl⟩) | ((with_reducible refine ((cvy _).out).mono ?_); rintro e v1 ⟨rfl, rfl⟩)))
            go_ret
            exact ⟨by first | exact ⟨false, rfl, by simp; exact hno.out⟩ | exact .inl ⟨rfl, hno.out⟩, HBB.out.alloc (Nat.le_of_lt hlB) _⟩
          have f0 : decide (owner < 0) = false := decide_eq_false q0
          by_cases q1 : 8 ≤ owner
          · have f1 : decide (8 ≤ owner) = true := decide_eq_true q1
            have hno := Lib.hid (show ¬ Gm.ok g from fun h => by have := (HO.out h).2.2.2.2.2.1; omega)
            clear HO HQ q0 q1
            go_wp2_with (first | (go_at_call 76; first | ((with_reducible refine ((cx _).out).mono ?_); rintro e v1 ⟨rfl, rfl⟩) | ((with_reducible refine ((cy _).out).mono ?_); rintro e v1 ⟨rfl, rfl⟩)) | (go_at_call 77; first | ((with_reducible refine ((cvx _).out).mono ?_); rintro e v1 ⟨rfl, rfl⟩) | ((with_reducible refine ((cvy _).out).mono ?_); rintro e v1 ⟨rfl, rfl⟩)))
            go_ret
            exact ⟨by first | exact ⟨false, rfl, by simp; exact hno.out⟩ | exact .inl ⟨rfl, hno.out⟩, HBB.out.alloc (Nat.le_of_lt hlB) _⟩
          have f1 : decide (8 ≤ owner) = false := decide_eq_false q1
          cases bx
          · have hno := Lib.hid (show ¬ Gm.ok g from fun h => by have := (HO.out h).1; simp at this)
            clear HO HQ q0 q1
            go_wp2_with (first | (go_at_call 76; first | ((with_reducible refine ((cx _).out).mono ?_); rintro e v1 ⟨rfl, rfl⟩) | ((with_reducible refine ((cy _).out).mono ?_); rintro e v1 ⟨rfl, rfl⟩)) | (go_at_call 77; first | ((with_reducible refine ((cvx _).out).mono ?_); rintro e v1 ⟨rfl, rfl⟩) | ((with_reducible refine ((cvy _).out).mono ?_); rintro e v1 ⟨rfl, rfl⟩)))
            go_ret
            exact ⟨by first | exact ⟨false, rfl, by simp; exact hno.out⟩ | exact .inl ⟨rfl, hno.out⟩, HBB.out.alloc (Nat.le_of_lt hlB) _⟩
          cases b_y
          · have hno := Lib.hid (show ¬ Gm.ok g from fun h => by have := (HO.out h).2.1; simp at this)
            clear HO HQ q0 q1
            go_wp2_with (first | (go_at_call 76; first | ((with_reducible refine ((cx _).out).mono ?_); rintro e v1 ⟨rfl, rfl⟩) | ((with_reducible refine ((cy _).out).mono ?_); rintro e v1 ⟨rfl, rfl⟩)) | (go_at_call 77; first | ((with_reducible refine ((cvx _).out).mono ?_); rintro e v1 ⟨rfl, rfl⟩) | ((with_reducible refine ((cvy _).out).mono ?_); rintro e v1 ⟨rfl, rfl⟩)))
            go_ret
            exact ⟨by first | exact ⟨false, rfl, by simp; exact hno.out⟩ | exact .inl ⟨rfl, hno.out⟩, HBB.out.alloc (Nat.le_of_lt hlB) _⟩
          cases bvx
          · have hno := Lib.hid (show ¬ Gm.ok g from fun h => by have := (HO.out h).2.2.1; simp at this)
            clear HO HQ q0 q1
            go_wp2_with (first | (go_at_call 76; first | ((with_reducible refine ((cx _).out).mono ?_); rintro e v1 ⟨rfl, rfl⟩) | ((with_reducible refine ((cy _).out).mono ?_); rintro e v1 ⟨rfl, rfl⟩)) | (go_at_call 77; first | ((with_reducible refine ((cvx _).out).mono ?_); rintro e v1 ⟨rfl, rfl⟩) | ((with_reducible refine ((cvy _).out).mono ?_); rintro e v1 ⟨rfl, rfl⟩)))
            go_ret
            exact ⟨by first | exact ⟨false, rfl, by simp; exact hno.out⟩ | exact .inl ⟨rfl, hno.out⟩, HBB.out.alloc (Nat.le_of_lt hlB) _⟩
          cases bvy
          · have hno := Lib.hid (show ¬ Gm.ok g from fun h => by have := (HO.out h).2.2.2.1; simp at this)
            clear HO HQ q0 q1
            go_wp2_with (first | (go_at_call 76; first | ((with_reducible refine ((cx _).out).mono ?_); rintro e v1 ⟨rfl, rfl⟩) | ((with_reducible refine ((cy _).out).mono ?_); rintro e v1 ⟨rfl, rfl⟩)) | (go_at_call 77; first | ((with_reducible refine ((cvx _).out).mono ?_); rintro e v1 ⟨rfl, rfl⟩) | ((with_reducible refine ((cvy _).out).mono ?_); rintro e v1 ⟨rfl, rfl⟩)))
            go_ret
            exact ⟨by first | exact ⟨false, rfl, by simp; exact hno.out⟩ | exact .inl ⟨rfl, hno.out⟩, HBB.out.alloc (Nat.le_of_lt hlB) _⟩
          by_cases q2 : left < 1
          · have f2 : decide (left < 1) = true := decide_eq_true q2
            have hno := Lib.hid (show ¬ Gm.ok g from fun h => by have := (HO.out h).2.2.2.2.2.2.1; omega)
            clear HO HQ q0 q1 q2
            go_wp2_with (first | (go_at_call 76; first | ((with_reducible refine ((cx _).out).mono ?_); rintro e v1 ⟨rfl, rfl⟩) | ((with_reducible refine ((cy _).out).mono ?_); rintro e v1 ⟨rfl, rfl⟩)) | (go_at_call 77; first | ((with_reducible refine ((cvx _).out).mono ?_); rintro e v1 ⟨rfl, rfl⟩) | ((with_reducible refine ((cvy _).out).mono ?_); rintro e v1 ⟨rfl, rfl⟩)))
            go_ret
            exact ⟨by first | exact ⟨false, rfl, by simp; exact hno.out⟩ | exact .inl ⟨rfl, hno.out⟩, HBB.out.alloc (Nat.le_of_lt hlB) _⟩
          have f2 : decide (left < 1) = false := decide_eq_false q2
          by_cases q3 : 24 < left
          · have f3 : decide (24 < left) = true := decide_eq_true q3
            have hno := Lib.hid (show ¬ Gm.ok g from fun h => by have := (HO.out h).2.2.2.2.2.2.2; omega)
            clear HO HQ q0 q1 q2 q3
            go_wp2_with (first | (go_at_call 76; first | ((with_reducible refine ((cx _).out).mono ?_); rintro e v1 ⟨rfl, rfl⟩) | ((with_reducible refine ((cy _).out).mono ?_); rintro e v1 ⟨rfl, rfl⟩)) | (go_at_call 77; first | ((with_reducible refine ((cvx _).out).mono ?_); rintro e v1 ⟨rfl, rfl⟩) | ((with_reducible refine ((cvy _).out).mono ?_); rintro e v1 ⟨rfl, rfl⟩)))
            go_ret
            exact ⟨by first | exact ⟨false, rfl, by simp; exact hno.out⟩ | exact .inl ⟨rfl, hno.out⟩, HBB.out.alloc (Nat.le_of_lt hlB) _⟩
          have f3 : decide (24 < left) = false := decide_eq_false q3
          have ho := Lib.hid (HQ.out ⟨rfl, rfl, rfl, rfl, by omega, by omega, by omega, by omega⟩)
          clear HO HQ q0 q1 q2 q3
          go_wp2_with (first | (go_at_call 76; first | ((with_reducible refine ((cx _).out).mono ?_); rintro e v1 ⟨rfl, rfl⟩) | ((with_reducible refine ((cy _).out).mono ?_); rintro e v1 ⟨rfl, rfl⟩)) | (go_at_call 77; first | ((with_reducible refine ((cvx _).out).mono ?_); rintro e v1 ⟨rfl, rfl⟩) | ((with_reducible refine ((cvy _).out).mono ?_); rintro e v1 ⟨rfl, rfl⟩)))
          go_roundw
          case rel => exact ⟨m + 1, by omega, by go_num, HB.out.alloc _, HBB.out.alloc (Nat.le_of_lt hlB) _, ho.out⟩
          case measure => simp [intOf]; omega
        · have hmn : ¬ (m : Int) < n := by omega
          have hyes := Lib.hid (show Gm.ok g from ⟨HF.out.1, HF.out.2.1, HF.out.2.2, HA8.out, fun j hj => HALL.out j hj (by have := hN.out; omega)⟩)
          have HBB := Lib.hid hb
          clear hr hshots hb hB HALL
          go_wp2
          go_ret
          exact ⟨by first | exact ⟨true, rfl, by simp; exact hyes.out⟩ | exact .inr ⟨rfl, hyes.out⟩, HBB.out⟩
end Go.Proofs.YtiahpncglpfjeaaGreat
