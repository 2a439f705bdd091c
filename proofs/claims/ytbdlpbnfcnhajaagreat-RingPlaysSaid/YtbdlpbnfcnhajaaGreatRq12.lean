/-
Several texts in one: Th Sc Sd Se Sf Sg Ls Sh Sj Si Sk Tl Sq.
-/
import Derived.Test.YtbdlpbnfcnhajaaGreatRq11
set_option maxRecDepth 100000
set_option maxHeartbeats 8000000
set_option linter.unusedVariables false
set_option linter.unusedSimpArgs false
namespace Go.Proofs.YtbdlpbnfcnhajaaGreat
open Go.RowKit Go.Shelf
theorem qfe (r : Ros.R) (k : Nat) (g p : Int) (w : World) (h : Ros.qbD r k p) (hg : g = r.gen k + 1) :
 Calls Tryz.prog 96 #[.agg (Ros.cells r), .agg #[.int .i64 1, .int .i64 k, .int .i64 g, .int .i64 p]] w fun e w' => e = .returned (.tuple #[.agg (Ros.cells (Ros.take r k p)), .int .i64 0]) /\ Below w.heap.size w w' := by
 have ct := fun X => qh (qgu r k p X h)
 have P0 := qh (((Box.made w 38 (Ros.cells r)).alloc (.cells #[.int .i64 1, .int .i64 k, .int .i64 g, .int .i64 p] 79)).alloc (.cells (Ros.cells qai) 38))
 have P1 := qh ((Box.qan (n := w.heap.size + 1) (w.alloc (.cells (Ros.cells r) 38)) 79 #[.int .i64 1, .int .i64 k, .int .i64 g, .int .i64 p] (by simp)).alloc (.cells (Ros.cells qai) 38))
 have P2 := qh (Box.qan (n := w.heap.size + 1 + 1) ((w.alloc (.cells (Ros.cells r) 38)).alloc (.cells #[.int .i64 1, .int .i64 k, .int .i64 g, .int .i64 p] 79)) 38 (Ros.cells qai) (by simp))
 have PB := qh ((qal w (.cells (Ros.cells r) 38) (.cells #[.int .i64 1, .int .i64 k, .int .i64 g, .int .i64 p] 79)).alloc (by simp <;> omega) (.cells (Ros.cells qai) 38))
 have hk : k < 8 := by have := h.1.1.2; omega
 have hk8 : (k : Int) < 8 := by omega
 have cgk := Ros.qaV (Ros.take r k p) k hk
 rw [show (Ros.take r k p).gen k = r.gen k + 1 from Ros.upd_same _ _ _] at cgk
 obtain ⟨g', hg'⟩ : ∃ g', g' = r.gen k + 1 := ⟨_, rfl⟩
 rw [<- hg'] at cgk hg
 subst hg
 clear h hg'
 have p1 := P1.out.cell
 go_enter Tryz.func96, Tryz.ntmps96
 go_upto_region 4 with (first | ((with_reducible refine qaq rfl rfl ?_)) | ((with_reducible refine qaC rfl rfl rfl rfl rfl ?_)) | ((with_reducible refine qak rfl rfl ?_); apply qah.mk rfl; (focus (with_reducible exact P0.out)); (focus (exact qad))) | (go_at_call 122; ((with_reducible refine ((ct _).out).mono ?_); rintro e w1 ⟨rfl, hb⟩; have Q0 := qh ((P0.out.below hb P0.out.lt).alloc (.cells (Ros.cells (Ros.take r k p)) 38)); have Q1 := qh ((P1.out.below hb P1.out.lt).alloc (.cells (Ros.cells (Ros.take r k p)) 38)); have Q2 := qh ((P2.out.below hb P2.out.lt).alloc (.cells (Ros.cells (Ros.take r k p)) 38)); have QB := qh (PB.out.trans (hb.mono PB.out.size)); have q1 := Q1.out.cell; clear hb)))
 have N0 := qh (Box.made w1 38 (Ros.cells (Ros.take r k p)))
 have n0 := N0.out.cell
 have NB := qh (QB.out.alloc QB.out.size (.cells (Ros.cells (Ros.take r k p)) 38))
 go_quiet (fail)
 go_wp2_with (first | ((with_reducible refine qak rfl rfl ?_); apply qah.mk rfl; (focus (with_reducible exact N0.out.draws _)); (focus (exact qad))) | ((with_reducible refine qav rfl rfl ?_); apply qaz.mk rfl rfl; (focus (with_reducible exact Q2.out.draws _)); (focus (exact qad)); (focus rfl); (focus (exact qaK _))))
 have hE := (Q2.out.draws nq).row (Ros.cells (Ros.take r k p))
 refine bodyPost_ret (v := .tuple #[.agg (Ros.cells (Ros.take r k p)), .int .i64 0]) ?_ rfl ?_
 · exact results_cell_tmp (p := 4) (q := 5) rfl _ _ _ _ (Ros.cells (Ros.take r k p)) _ rfl hE Tryz.underlying38 rfl qad
 · exact ⟨rfl, Below.setRow' (qaj NB.out nq) (by omega) _⟩
theorem qff (r : Ros.R) (k : Nat) (g p : Int) (w : World) (h : Ros.qbD r k p) (hg : g ≠ r.gen k + 1) :
 Calls Tryz.prog 96 #[.agg (Ros.cells r), .agg #[.int .i64 1, .int .i64 k, .int .i64 g, .int .i64 p]] w fun e w' => e = .returned (.tuple #[.agg (Ros.cells r), .int .i64 1]) /\ Below w.heap.size w w' := by
 have ct := fun X => qh (qgu r k p X h)
 have P0 := qh (((Box.made w 38 (Ros.cells r)).alloc (.cells #[.int .i64 1, .int .i64 k, .int .i64 g, .int .i64 p] 79)).alloc (.cells (Ros.cells qai) 38))
 have P1 := qh ((Box.qan (n := w.heap.size + 1) (w.alloc (.cells (Ros.cells r) 38)) 79 #[.int .i64 1, .int .i64 k, .int .i64 g, .int .i64 p] (by simp)).alloc (.cells (Ros.cells qai) 38))
 have P2 := qh (Box.qan (n := w.heap.size + 1 + 1) ((w.alloc (.cells (Ros.cells r) 38)).alloc (.cells #[.int .i64 1, .int .i64 k, .int .i64 g, .int .i64 p] 79)) 38 (Ros.cells qai) (by simp))
 have PB := qh ((qal w (.cells (Ros.cells r) 38) (.cells #[.int .i64 1, .int .i64 k, .int .i64 g, .int .i64 p] 79)).alloc (by simp <;> omega) (.cells (Ros.cells qai) 38))
 have hk : k < 8 := by have := h.1.1.2; omega
 have hk8 : (k : Int) < 8 := by omega
 have cgk := Ros.qaV (Ros.take r k p) k hk
 rw [show (Ros.take r k p).gen k = r.gen k + 1 from Ros.upd_same _ _ _] at cgk
 obtain ⟨g', hg'⟩ : ∃ g', g' = r.gen k + 1 := ⟨_, rfl⟩
 rw [<- hg'] at cgk hg
 have hb : (g' == g) = false := by simp; omega
 clear h hg'
 have p1 := P1.out.cell
 go_enter Tryz.func96, Tryz.ntmps96
 go_upto_region 4 with (first | ((with_reducible refine qaq rfl rfl ?_)) | ((with_reducible refine qaC rfl rfl rfl rfl rfl ?_)) | ((with_reducible refine qak rfl rfl ?_); apply qah.mk rfl; (focus (with_reducible exact P0.out)); (focus (exact qad))) | (go_at_call 122; ((with_reducible refine ((ct _).out).mono ?_); rintro e w1 ⟨rfl, hb⟩; have Q0 := qh ((P0.out.below hb P0.out.lt).alloc (.cells (Ros.cells (Ros.take r k p)) 38)); have Q1 := qh ((P1.out.below hb P1.out.lt).alloc (.cells (Ros.cells (Ros.take r k p)) 38)); have Q2 := qh ((P2.out.below hb P2.out.lt).alloc (.cells (Ros.cells (Ros.take r k p)) 38)); have QB := qh (PB.out.trans (hb.mono PB.out.size)); have q1 := Q1.out.cell; clear hb)))
 have N0 := qh (Box.made w1 38 (Ros.cells (Ros.take r k p)))
 have n0 := N0.out.cell
 have NB := qh (QB.out.alloc QB.out.size (.cells (Ros.cells (Ros.take r k p)) 38))
 go_quiet (fail)
 go_wp2_with (first | ((with_reducible refine qak rfl rfl ?_); apply qah.mk rfl; (focus (with_reducible exact Q0.out.draws _)); (focus (exact qad))) | ((with_reducible refine qav rfl rfl ?_); apply qaz.mk rfl rfl; (focus (with_reducible exact Q2.out.draws _)); (focus (exact qad)); (focus rfl); (focus (exact qaK _))))
 have hE := (Q2.out.draws nq).row (Ros.cells r)
 refine bodyPost_ret (v := .tuple #[.agg (Ros.cells r), .int .i64 1]) ?_ rfl ?_
 · exact results_cell_tmp (p := 4) (q := 5) rfl _ _ _ _ (Ros.cells r) _ rfl hE Tryz.underlying38 rfl qad
 · exact ⟨rfl, Below.setRow' (qaj NB.out nq) (by omega) _⟩
theorem qfQ (r : Ros.R) (s g p : Int) (w : World) (h : ¬ Ros.qbD r s p) :
 Calls Tryz.prog 96 #[.agg (Ros.cells r), .agg #[.int .i64 1, .int .i64 s, .int .i64 g, .int .i64 p]] w fun e w' => e = .returned (.tuple #[.agg (Ros.cells r), .int .i64 1]) /\ Below w.heap.size w w' := by
 have ct := fun X => qh (ql7 r s p X h)
 have P0 := qh (((Box.made w 38 (Ros.cells r)).alloc (.cells #[.int .i64 1, .int .i64 s, .int .i64 g, .int .i64 p] 79)).alloc (.cells (Ros.cells qai) 38))
 have P1 := qh ((Box.qan (n := w.heap.size + 1) (w.alloc (.cells (Ros.cells r) 38)) 79 #[.int .i64 1, .int .i64 s, .int .i64 g, .int .i64 p] (by simp)).alloc (.cells (Ros.cells qai) 38))
 have P2 := qh (Box.qan (n := w.heap.size + 1 + 1) ((w.alloc (.cells (Ros.cells r) 38)).alloc (.cells #[.int .i64 1, .int .i64 s, .int .i64 g, .int .i64 p] 79)) 38 (Ros.cells qai) (by simp))
 have PB := qh ((qal w (.cells (Ros.cells r) 38) (.cells #[.int .i64 1, .int .i64 s, .int .i64 g, .int .i64 p] 79)).alloc (by simp <;> omega) (.cells (Ros.cells qai) 38))
 clear h
 have p1 := P1.out.cell
 go_enter Tryz.func96, Tryz.ntmps96
 go_upto_region 4 with (first | ((with_reducible refine qaq rfl rfl ?_)) | ((with_reducible refine qaC rfl rfl rfl rfl rfl ?_)) | ((with_reducible refine qak rfl rfl ?_); apply qah.mk rfl; (focus (with_reducible exact P0.out)); (focus (exact qad))) | (go_at_call 122; ((with_reducible refine ((ct _).out).mono ?_); rintro e w1 ⟨rfl, hb⟩; have Q0 := qh ((P0.out.below hb P0.out.lt).alloc (.cells (Ros.cells r) 38)); have Q1 := qh ((P1.out.below hb P1.out.lt).alloc (.cells (Ros.cells r) 38)); have Q2 := qh ((P2.out.below hb P2.out.lt).alloc (.cells (Ros.cells r) 38)); have QB := qh (PB.out.trans (hb.mono PB.out.size)); have q1 := Q1.out.cell; clear hb)))
 have NB := qh (QB.out.alloc QB.out.size (.cells (Ros.cells r) 38))
 go_quiet (fail)
 go_wp2_with (first | ((with_reducible refine qak rfl rfl ?_); apply qah.mk rfl; (focus (with_reducible exact Q0.out.draws _)); (focus (exact qad))) | ((with_reducible refine qav rfl rfl ?_); apply qaz.mk rfl rfl; (focus (with_reducible exact Q2.out.draws _)); (focus (exact qad)); (focus rfl); (focus (exact qaK _))))
 have hE := (Q2.out.draws nq).row (Ros.cells r)
 refine bodyPost_ret (v := .tuple #[.agg (Ros.cells r), .int .i64 1]) ?_ rfl ?_
 · exact results_cell_tmp (p := 4) (q := 5) rfl _ _ _ _ (Ros.cells r) _ rfl hE Tryz.underlying38 rfl qad
 · exact ⟨rfl, Below.setRow' (qaj NB.out nq) (by omega) _⟩
theorem qid (a b c d : Int) (w : World) : (binOp .eql 35 (.agg #[.int .i64 a, .int .i64 b]) (.agg #[.int .i64 c, .int .i64 d])).run Tryz.prog w = .ok (.bool (decide (a = c /\ b = d))) w := by
 by_cases h1 : a = c
 · by_cases h2 : b = d
   · subst h1 h2; go_simp <;> simp
   · have h3 : (b == d) = false := by simpa using h2
     subst h1; go_simp <;> simp [h2]
 · have h3 : (a == c) = false := by simpa using h1
   go_simp <;> simp [h1]
theorem qeq (r : Ros.R) (k : Nat) (g p : Int) (w : World) (hk : k < 8) (h : ¬ (r.peer k = p /\ r.gen k = g)) :
 Calls Tryz.prog 96 #[.agg (Ros.cells r), .agg #[.int .i64 2, .int .i64 k, .int .i64 g, .int .i64 p]] w fun e w' => e = .returned (.tuple #[.agg (Ros.cells r), .int .i64 1]) /\ Below w.heap.size w w' := by
 have cs := fun X => qh (qdu k X)
 have P0 := qh (((Box.made w 38 (Ros.cells r)).alloc (.cells #[.int .i64 2, .int .i64 k, .int .i64 g, .int .i64 p] 79)).alloc (.cells (Ros.cells qai) 38))
 have P1 := qh ((Box.qan (n := w.heap.size + 1) (w.alloc (.cells (Ros.cells r) 38)) 79 #[.int .i64 2, .int .i64 k, .int .i64 g, .int .i64 p] (by simp)).alloc (.cells (Ros.cells qai) 38))
 have P2 := qh (Box.qan (n := w.heap.size + 1 + 1) ((w.alloc (.cells (Ros.cells r) 38)).alloc (.cells #[.int .i64 2, .int .i64 k, .int .i64 g, .int .i64 p] 79)) 38 (Ros.cells qai) (by simp))
 have PB := qh ((qal w (.cells (Ros.cells r) 38) (.cells #[.int .i64 2, .int .i64 k, .int .i64 g, .int .i64 p] 79)).alloc (by simp <;> omega) (.cells (Ros.cells qai) 38))
 have hk8 : (k : Int) < 8 := by omega
 rw [decide_eq_true (show (0 : Int) <= k /\ (k : Int) < 8 from by omega)] at cs
 have cpk := Ros.qaB r k hk
 have cgk := Ros.qaV r k hk
 obtain ⟨pk, hpk⟩ : ∃ pk, r.peer k = pk := ⟨_, rfl⟩
 obtain ⟨gk, hgk⟩ : ∃ gk, r.gen k = gk := ⟨_, rfl⟩
 rw [hpk] at cpk h
 rw [hgk] at cgk h
 have he := fun W => qid pk gk p g W
 simp only [decide_eq_false h] at he
 clear h hpk hgk
 have p0 := P0.out.cell
 have p1 := P1.out.cell
 go_enter Tryz.func96, Tryz.ntmps96
 go_upto_region 7 with (first | ((with_reducible refine qaq rfl rfl ?_)) | ((with_reducible refine qaC rfl rfl rfl rfl rfl ?_)))
 go_quiet ((go_at_call 123; with_reducible exact qb3 (cs _).out))
 go_wp2_with (first | ((with_reducible refine qak rfl rfl ?_); apply qah.mk rfl; (focus (with_reducible exact P0.out.draws _)); (focus (exact qad))) | ((with_reducible refine qav rfl rfl ?_); apply qaz.mk rfl rfl; (focus (with_reducible exact P2.out.draws _)); (focus (exact qad)); (focus rfl); (focus (exact qaK _))))
 have hE := (P2.out.draws nq).row (Ros.cells r)
 refine bodyPost_ret (v := .tuple #[.agg (Ros.cells r), .int .i64 1]) ?_ rfl ?_
 · exact results_cell_tmp (p := 4) (q := 5) rfl _ _ _ _ (Ros.cells r) _ rfl hE Tryz.underlying38 rfl qad
 · exact ⟨rfl, Below.setRow' (qaj PB.out nq) (by omega) _⟩
theorem qeH (r : Ros.R) (k : Nat) (w : World) (h : Ros.qbM r k) (g p : Int) (hp : r.peer k = p) (hg : r.gen k = g) :
 Calls Tryz.prog 96 #[.agg (Ros.cells r), .agg #[.int .i64 2, .int .i64 k, .int .i64 g, .int .i64 p]] w fun e w' => e = .returned (.tuple #[.agg (Ros.cells (Ros.give r k)), .int .i64 0]) /\ Below w.heap.size w w' := by
 have cs := fun X => qh (qdu k X)
 have P0 := qh (((Box.made w 38 (Ros.cells r)).alloc (.cells #[.int .i64 2, .int .i64 k, .int .i64 g, .int .i64 p] 79)).alloc (.cells (Ros.cells qai) 38))
 have P1 := qh ((Box.qan (n := w.heap.size + 1) (w.alloc (.cells (Ros.cells r) 38)) 79 #[.int .i64 2, .int .i64 k, .int .i64 g, .int .i64 p] (by simp)).alloc (.cells (Ros.cells qai) 38))
 have P2 := qh (Box.qan (n := w.heap.size + 1 + 1) ((w.alloc (.cells (Ros.cells r) 38)).alloc (.cells #[.int .i64 2, .int .i64 k, .int .i64 g, .int .i64 p] 79)) 38 (Ros.cells qai) (by simp))
 have PB := qh ((qal w (.cells (Ros.cells r) 38) (.cells #[.int .i64 2, .int .i64 k, .int .i64 g, .int .i64 p] 79)).alloc (by simp <;> omega) (.cells (Ros.cells qai) 38))
 have hk : k < 8 := by have := h.1.2; omega
 have cg := fun X => qh (qko r k X h)
 have hk8 : (k : Int) < 8 := by omega
 rw [decide_eq_true (show (0 : Int) <= k /\ (k : Int) < 8 from by omega)] at cs
 have cpk := Ros.qaB r k hk
 have cgk := Ros.qaV r k hk
 rw [hp] at cpk
 rw [hg] at cgk
 have he := fun W => qid p g p g W
 simp only [decide_eq_true (show p = p /\ g = g from ⟨rfl, rfl⟩)] at he
 clear h hp hg
 have p0 := P0.out.cell
 have p1 := P1.out.cell
 go_enter Tryz.func96, Tryz.ntmps96
 go_upto_region 7 with (first | ((with_reducible refine qaq rfl rfl ?_)) | ((with_reducible refine qaC rfl rfl rfl rfl rfl ?_)))
 go_quiet ((go_at_call 123; with_reducible exact qb3 (cs _).out))
 go_wp2_with (first | ((with_reducible refine qak rfl rfl ?_); apply qah.mk rfl; (focus (with_reducible exact P0.out.draws _)); (focus (exact qad))) | (go_at_call 124; ((with_reducible refine ((cg _).out).mono ?_); rintro e w1 ⟨rfl, hb⟩; have Q2 := qh ((P2.out.draws nq).below hb P2.out.lt); have QB := qh ((qaj PB.out nq).trans (hb.mono PB.out.size)); clear hb)) | ((with_reducible refine qav rfl rfl ?_); apply qaz.mk rfl rfl; (focus (with_reducible exact Q2.out)); (focus (exact qad)); (focus rfl); (focus (exact qaK _))))
 have hE := Q2.out.row (Ros.cells (Ros.give r k))
 refine bodyPost_ret (v := .tuple #[.agg (Ros.cells (Ros.give r k)), .int .i64 0]) ?_ rfl ?_
 · exact results_cell_tmp (p := 4) (q := 5) rfl _ _ _ _ (Ros.cells (Ros.give r k)) _ rfl hE Tryz.underlying38 rfl qad
 · exact ⟨rfl, Below.setRow' QB.out (by omega) _⟩
theorem qfd (r : Ros.R) (k : Nat) (w : World) (hk : k < 8) (h : ¬ Ros.qbM r k) (g p : Int) (hp : r.peer k = p) (hg : r.gen k = g) :
 Calls Tryz.prog 96 #[.agg (Ros.cells r), .agg #[.int .i64 2, .int .i64 k, .int .i64 g, .int .i64 p]] w fun e w' => e = .returned (.tuple #[.agg (Ros.cells r), .int .i64 1]) /\ Below w.heap.size w w' := by
 have cs := fun X => qh (qdu k X)
 have P0 := qh (((Box.made w 38 (Ros.cells r)).alloc (.cells #[.int .i64 2, .int .i64 k, .int .i64 g, .int .i64 p] 79)).alloc (.cells (Ros.cells qai) 38))
 have P1 := qh ((Box.qan (n := w.heap.size + 1) (w.alloc (.cells (Ros.cells r) 38)) 79 #[.int .i64 2, .int .i64 k, .int .i64 g, .int .i64 p] (by simp)).alloc (.cells (Ros.cells qai) 38))
 have P2 := qh (Box.qan (n := w.heap.size + 1 + 1) ((w.alloc (.cells (Ros.cells r) 38)).alloc (.cells #[.int .i64 2, .int .i64 k, .int .i64 g, .int .i64 p] 79)) 38 (Ros.cells qai) (by simp))
 have PB := qh ((qal w (.cells (Ros.cells r) 38) (.cells #[.int .i64 2, .int .i64 k, .int .i64 g, .int .i64 p] 79)).alloc (by simp <;> omega) (.cells (Ros.cells qai) 38))
 have cg := fun X => qh (ql9 r k X h)
 have hk8 : (k : Int) < 8 := by omega
 rw [decide_eq_true (show (0 : Int) <= k /\ (k : Int) < 8 from by omega)] at cs
 have cpk := Ros.qaB r k hk
 have cgk := Ros.qaV r k hk
 rw [hp] at cpk
 rw [hg] at cgk
 have he := fun W => qid p g p g W
 simp only [decide_eq_true (show p = p /\ g = g from ⟨rfl, rfl⟩)] at he
 clear h hp hg
 have p0 := P0.out.cell
 have p1 := P1.out.cell
 go_enter Tryz.func96, Tryz.ntmps96
 go_upto_region 7 with (first | ((with_reducible refine qaq rfl rfl ?_)) | ((with_reducible refine qaC rfl rfl rfl rfl rfl ?_)))
 go_quiet ((go_at_call 123; with_reducible exact qb3 (cs _).out))
 go_wp2_with (first | ((with_reducible refine qak rfl rfl ?_); apply qah.mk rfl; (focus (with_reducible exact P0.out.draws _)); (focus (exact qad))) | (go_at_call 124; ((with_reducible refine ((cg _).out).mono ?_); rintro e w1 ⟨rfl, hb⟩; have Q2 := qh ((P2.out.draws nq).below hb P2.out.lt); have QB := qh ((qaj PB.out nq).trans (hb.mono PB.out.size)); clear hb)) | ((with_reducible refine qav rfl rfl ?_); apply qaz.mk rfl rfl; (focus (with_reducible exact Q2.out)); (focus (exact qad)); (focus rfl); (focus (exact qaK _))))
 have hE := Q2.out.row (Ros.cells r)
 refine bodyPost_ret (v := .tuple #[.agg (Ros.cells r), .int .i64 1]) ?_ rfl ?_
 · exact results_cell_tmp (p := 4) (q := 5) rfl _ _ _ _ (Ros.cells r) _ rfl hE Tryz.underlying38 rfl qad
 · exact ⟨rfl, Below.setRow' QB.out (by omega) _⟩
theorem qdD : (Tryz.prog.info? 79).map (·.size) = some (#[.int .i64 0, .int .i64 0, .int .i64 0, .int .i64 0] : Array Value).size := by kernel_rfl
theorem qih (s : Fd.S) (v : En.Ev) (w : World) (hv : En.evOk v) (hno : ¬ Fd.qcy s v) :
 Calls Tryz.prog 96 #[.agg (Ros.cells s.r), .agg #[.int .i64 v.kind, .int .i64 v.slot, .int .i64 v.gen, .int .i64 v.peer]] w fun e w' => e = .returned (.tuple #[.agg (Ros.cells s.r), .int .i64 1]) /\ Below w.heap.size w w' := by
 obtain ⟨q, sl, gn, pe⟩ := v
 obtain ⟨hk, hs, hg, hp⟩ := hv
 dsimp only at *
 obtain ⟨k, rfl⟩ : ∃ k : Nat, sl = k := ⟨sl.toNat, by omega⟩
 have hk8 : k < 8 := by omega
 rcases hk with rfl | rfl
 · by_cases h1 : s.r.peer k = pe /\ s.r.gen k = gn
   · refine qfd s.r k w hk8 (fun h => hno (.inr ⟨rfl, h, by simpa using h1.1, by simpa using h1.2⟩)) gn pe h1.1 h1.2
   · exact qeq s.r k gn pe w hk8 h1
 · by_cases h1 : Ros.qbD s.r k pe
   · exact qff s.r k gn pe w h1 (fun h => hno (.inl ⟨rfl, h1, by simpa using h⟩))
   · exact qfQ s.r k gn pe w h1
theorem qeX (s : Fd.S) (v : En.Ev) (A : Option Addr) (n c : Nat) (w : World) (hv : En.evOk v) (hno : ¬ Fd.qcy s v) :
 Calls Tryz.prog 75 #[.agg (Im.cells s.g (.slice A n c) s.r), .agg #[.int .i64 v.kind, .int .i64 v.slot, .int .i64 v.gen, .int .i64 v.peer]] w (qlO 1 w) := by
 have ca := fun X => qh (qih s v X hv hno)
 have cn := fun X => qh (qgH X)
 obtain ⟨q, sl, gn, pe⟩ := v
 obtain ⟨g, r⟩ := s
 dsimp only at *
 clear hv hno
 obtain ⟨C, hC⟩ : ∃ C, C = Im.cells g (.slice A n c) r := ⟨_, rfl⟩
 have P0 := qh ((((Box.made w 40 (Im.cells g (.slice A n c) r)).alloc (.cells #[.int .i64 q, .int .i64 sl, .int .i64 gn, .int .i64 pe] 79))).alloc (.cells Im.zero 40))
 have E0 := qh ((Box.qan (n := w.heap.size + 1) (w.alloc (.cells (Im.cells g (.slice A n c) r) 40)) 79 #[.int .i64 q, .int .i64 sl, .int .i64 gn, .int .i64 pe] (by simp)).alloc (.cells Im.zero 40))
 have K0 := qh ((qal w (.cells (Im.cells g (.slice A n c) r) 40) (.cells #[.int .i64 q, .int .i64 sl, .int .i64 gn, .int .i64 pe] 79)).alloc (by simp <;> omega) (.cells Im.zero 40))
 go_enter Tryz.func75, Tryz.ntmps75
 go_wp2_with (first | (with_reducible refine qau rfl rfl ?_) | ((with_reducible refine qb0 rfl rfl ?_); apply qay.mk rfl; (focus (with_reducible exact P0.out)); dsimp only) | ((with_reducible refine qdt rfl rfl Tryz.underlying79 rfl ?_); apply qah.mk rfl; (focus (with_reducible exact E0.out)); (focus (exact qdD))) | (go_at_call 96; ((with_reducible refine ((ca _).out).mono ?_); rintro e w1 ⟨rfl, hb⟩; have K1 := qh (K0.out.trans (hb.mono K0.out.size)); clear hb)) | (with_reducible refine qaq rfl rfl ?_) | ((with_reducible refine qaC rfl rfl rfl rfl rfl ?_)) | (go_at_call 77; ((with_reducible refine ((cn _).out).mono ?_); rintro e w2 ⟨rfl, hb⟩; have K2 := qh ((K1.out.alloc K1.out.size (.cells (Ros.cells r) 38)).trans (hb.mono (K1.out.alloc K1.out.size (.cells (Ros.cells r) 38)).size)); clear hb)))
 exact ⟨rfl, rfl, K2.out⟩
structure Ch (w : World) (g : Gm.G) (s : Value) (r : Ros.R) (E : Array Value) (W : World) : Prop where
 st : Box W w.heap.size 40 (Im.cells g s r)
 ev : Box W (w.heap.size + 1) 79 E
 out : Box W (w.heap.size + 1 + 1) 40 Im.zero
 below : Below w.heap.size w W
theorem Ch.call {w W W' : World} {g : Gm.G} {s : Value} {r : Ros.R} {E : Array Value} (h : Ch w g s r E W) (hb : Below W.heap.size W W') : Ch w g s r E W' :=
 ⟨h.st.below hb h.st.lt, h.ev.below hb h.ev.lt, h.out.below hb h.out.lt, h.below.trans (hb.mono h.below.size)⟩
theorem Ch.alloc {w W : World} {g : Gm.G} {s : Value} {r : Ros.R} {E : Array Value} (h : Ch w g s r E W) (o : Obj) : Ch w g s r E (W.alloc o) := h.call (qac W o)
theorem Ch.store {w W : World} {g g' : Gm.G} {s s' : Value} {r r' : Ros.R} {E : Array Value} (h : Ch w g s r E W) : Ch w g' s' r' E (W.setRow w.heap.size (Im.cells g' s' r')) :=
 ⟨h.st.row _, h.ev.qa4 (by omega) _, h.out.qa4 (by omega) _, Below.setRow' h.below (Nat.le_refl _) _⟩
theorem qlM (w : World) (g : Gm.G) (s : Value) (r : Ros.R) (E : Array Value) : Ch w g s r E (((w.alloc (.cells (Im.cells g s r) 40)).alloc (.cells E 79)).alloc (.cells Im.zero 40)) :=
 ⟨((Box.made w 40 (Im.cells g s r)).alloc (.cells E 79)).alloc (.cells Im.zero 40), (Box.qan (n := w.heap.size + 1) (w.alloc (.cells (Im.cells g s r) 40)) 79 E (by simp)).alloc (.cells Im.zero 40), Box.qan _ _ _ (by simp),
   (qal w (.cells (Im.cells g s r) 40) (.cells E 79)).alloc (by simp <;> omega) (.cells Im.zero 40)⟩
theorem qla (g : Gm.G) (r : Ros.R) (k : Nat) (gn pe : Int) (A : Option Addr) (n c : Nat) (w : World) (hok : Im.Ok g r) (hd : 0 <= g.dice /\ g.dice <= 18446744073709551615) (hk : k < 8) (hn : n = g.qaa.length) (hr : Lies w w.heap.size 6 A n (Gm.qab g.qaa)) (ht : Ros.qbD r k pe) (hg : gn = r.gen k + 1) :
 Calls Tryz.prog 75 #[.agg (Im.cells g (.slice A n c) r), .agg #[.int .i64 1, .int .i64 (k : Int), .int .i64 gn, .int .i64 pe]] w (SOne (Gm.spawn g k) (Ros.take r k pe) w) := by
 have hpk : r.peer k = -1 := ht.2.1
 have hoff : (g.ship k).on = false := (hok.2.2 k hk).trans (decide_eq_false (by omega))
 have ca := fun X => qh (qfe r k gn pe X ht hg)
 have cs := fun X hX => qh (qnn g A n c k X hok.1 hd hn hX hk hoff)
 have cn := fun X => qh (qkL X)
 clear hok hd ht hg hpk hoff
 have C0 := qh (qlM w g (.slice A n c) r #[.int .i64 1, .int .i64 (k : Int), .int .i64 gn, .int .i64 pe])
 have L0 := qh (hr.below C0.out.below)
 have hN := qh hn
 clear hr hn
 go_enter Tryz.func75, Tryz.ntmps75
 go_upto_region 4 with (first | (with_reducible refine qau rfl rfl ?_) | ((with_reducible refine qb0 rfl rfl ?_); apply qay.mk rfl; (focus (with_reducible exact C0.out.st)); dsimp only) | ((with_reducible refine qdt rfl rfl Tryz.underlying79 rfl ?_); apply qah.mk rfl; (focus (with_reducible exact C0.out.ev)); (focus (exact qdD))) | (go_at_call 96; ((with_reducible refine ((ca _).out).mono ?_); rintro e w1 ⟨rfl, hb⟩; have C1 := qh ((C0.out.call hb).alloc (.cells (Ros.cells (Ros.take r k pe)) 38)); have Q1 := qh (Box.made w1 38 (Ros.cells (Ros.take r k pe))); have L1 := qh ((L0.out.below (hb.mono C0.out.below.size)).below ((qac w1 (.cells (Ros.cells (Ros.take r k pe)) 38)).mono (Nat.le_trans C0.out.below.size hb.size))); clear hb)) | (with_reducible refine qaq rfl rfl ?_) | ((with_reducible refine qaC rfl rfl rfl rfl rfl ?_)) | (go_at_call 77; ((with_reducible refine ((cn _).out).mono ?_); rintro e w2 ⟨rfl, hb⟩; have C2 := qh (C1.out.call hb); have Q2 := qh (Q1.out.below hb Q1.out.lt); have L2 := qh (L1.out.below (hb.mono C1.out.below.size)); have C3 := qh (C2.out.store (g' := g) (s' := .slice A n c) (r' := Ros.take r k pe)); have L3 := qh (L2.out.qnO (Nat.le_refl _) (Im.cells g (.slice A n c) (Ros.take r k pe))); have LL := qh (L3.out.wider C3.out.below.size); have k3 := C3.out.ev.cell; clear hb)) | ((with_reducible refine qak rfl rfl ?_); apply qah.mk rfl; (focus (with_reducible exact Q2.out)); (focus (exact qad))) | ((with_reducible refine qcZ rfl rfl ?_); apply qhf.mk rfl rfl; (focus (with_reducible exact C2.out.st))))
 go_wp2_with (first | ((with_reducible refine qaY rfl rfl ?_); apply qay.mk rfl; (focus (with_reducible exact C3.out.st)); dsimp only) | (go_at_call 97; ((with_reducible refine ((cs _ LL.out).out).mono ?_); rintro e w4 ⟨A4, c4, rfl, hL, hb⟩; have C4 := qh (C3.out.call hb); have C5 := qh (C4.out.store (g' := Gm.spawn g k) (s' := .slice A4 (Gm.spawn g k).qaa.length c4) (r' := Ros.take r k pe)); have L5 := qh (hL.qbk rfl C4.out.st (Im.cells (Gm.spawn g k) (.slice A4 (Gm.spawn g k).qaa.length c4) (Ros.take r k pe))); clear hb hL)) | ((with_reducible refine qbS rfl rfl ?_); apply qe4.mk rfl rfl; (focus (with_reducible exact C4.out.st)); (focus rfl)) | (go_at_call 77; ((with_reducible refine ((cn _).out).mono ?_); rintro e w6 ⟨rfl, hb⟩; have C6 := qh (C5.out.call hb); have L6 := qh (L5.out.call hb); clear hb)) | ((with_reducible refine qam rfl rfl ?_); apply qay.mk rfl; (focus (with_reducible exact C6.out.st)); dsimp only) | ((with_reducible refine qaE rfl rfl ?_); apply qb4.mk rfl rfl; (focus (with_reducible exact C6.out.out)); (focus (exact Im.qar)); (focus rfl)))
 refine bodyPost_ret (v := .agg (Im.cells (Gm.spawn g k) (.slice A4 (Gm.spawn g k).qaa.length c4) (Ros.take r k pe))) ?_ ?_ ?_
 · exact results_cell_row rfl _ _ _ _ (Im.cells (Gm.spawn g k) (.slice A4 (Gm.spawn g k).qaa.length c4) (Ros.take r k pe)) (0, 0) _ rfl (C6.out.out.row _).is Tryz.underlying40 rfl (by rw [Im.qag]; exact qaw)
 · rfl
 · exact ⟨A4, c4, rfl, L6.out.qbX rfl C6.out.out _, Below.setRow' C6.out.below (by omega) _⟩
theorem qjW (g : Gm.G) (r : Ros.R) (k : Nat) (gn pe : Int) (A : Option Addr) (n c : Nat) (w : World) (hok : Im.Ok g r) (hd : 0 <= g.dice /\ g.dice <= 18446744073709551615) (hk : k < 8) (hn : n = g.qaa.length) (hr : Lies w w.heap.size 6 A n (Gm.qab g.qaa)) (ht : Ros.qbM r k) (hp : r.peer k = pe) (hg : r.gen k = gn) :
 Calls Tryz.prog 75 #[.agg (Im.cells g (.slice A n c) r), .agg #[.int .i64 2, .int .i64 (k : Int), .int .i64 gn, .int .i64 pe]] w (SOne (Gm.remove g k) (Ros.give r k) w) := by
 have hpk : 0 <= r.peer k := by
  rcases (hok.2.1.seat k hk).2 with h | h
  · exact absurd h (by simpa using ht.2)
  · exact h.1.1
 have hon : (g.ship k).on = true := (hok.2.2 k hk).trans (decide_eq_true hpk)
 have ca := fun X => qh (qeH r k X ht gn pe hp hg)
 have cs := fun X hX => qh (qmk g A n c k X hok.1 hn hX hk hon)
 have cn := fun X => qh (qkL X)
 clear hok hd ht hg hpk hon hp
 have C0 := qh (qlM w g (.slice A n c) r #[.int .i64 2, .int .i64 (k : Int), .int .i64 gn, .int .i64 pe])
 have L0 := qh (hr.below C0.out.below)
 have hN := qh hn
 clear hr hn
 go_enter Tryz.func75, Tryz.ntmps75
 go_upto_region 4 with (first | (with_reducible refine qau rfl rfl ?_) | ((with_reducible refine qb0 rfl rfl ?_); apply qay.mk rfl; (focus (with_reducible exact C0.out.st)); dsimp only) | ((with_reducible refine qdt rfl rfl Tryz.underlying79 rfl ?_); apply qah.mk rfl; (focus (with_reducible exact C0.out.ev)); (focus (exact qdD))) | (go_at_call 96; ((with_reducible refine ((ca _).out).mono ?_); rintro e w1 ⟨rfl, hb⟩; have C1 := qh ((C0.out.call hb).alloc (.cells (Ros.cells (Ros.give r k)) 38)); have Q1 := qh (Box.made w1 38 (Ros.cells (Ros.give r k))); have L1 := qh ((L0.out.below (hb.mono C0.out.below.size)).below ((qac w1 (.cells (Ros.cells (Ros.give r k)) 38)).mono (Nat.le_trans C0.out.below.size hb.size))); clear hb)) | (with_reducible refine qaq rfl rfl ?_) | ((with_reducible refine qaC rfl rfl rfl rfl rfl ?_)) | (go_at_call 77; ((with_reducible refine ((cn _).out).mono ?_); rintro e w2 ⟨rfl, hb⟩; have C2 := qh (C1.out.call hb); have Q2 := qh (Q1.out.below hb Q1.out.lt); have L2 := qh (L1.out.below (hb.mono C1.out.below.size)); have C3 := qh (C2.out.store (g' := g) (s' := .slice A n c) (r' := Ros.give r k)); have L3 := qh (L2.out.qnO (Nat.le_refl _) (Im.cells g (.slice A n c) (Ros.give r k))); have LL := qh (L3.out.wider C3.out.below.size); have k3 := C3.out.ev.cell; clear hb)) | ((with_reducible refine qak rfl rfl ?_); apply qah.mk rfl; (focus (with_reducible exact Q2.out)); (focus (exact qad))) | ((with_reducible refine qcZ rfl rfl ?_); apply qhf.mk rfl rfl; (focus (with_reducible exact C2.out.st))))
 go_wp2_with (first | ((with_reducible refine qaY rfl rfl ?_); apply qay.mk rfl; (focus (with_reducible exact C3.out.st)); dsimp only) | (go_at_call 98; ((with_reducible refine ((cs _ LL.out).out).mono ?_); rintro e w4 ⟨A4, c4, rfl, hL, hb⟩; have C4 := qh (C3.out.call hb); have C5 := qh (C4.out.store (g' := Gm.remove g k) (s' := .slice A4 (Gm.remove g k).qaa.length c4) (r' := Ros.give r k)); have L5 := qh (hL.qbk rfl C4.out.st (Im.cells (Gm.remove g k) (.slice A4 (Gm.remove g k).qaa.length c4) (Ros.give r k))); clear hb hL)) | ((with_reducible refine qbS rfl rfl ?_); apply qe4.mk rfl rfl; (focus (with_reducible exact C4.out.st)); (focus rfl)) | (go_at_call 77; ((with_reducible refine ((cn _).out).mono ?_); rintro e w6 ⟨rfl, hb⟩; have C6 := qh (C5.out.call hb); have L6 := qh (L5.out.call hb); clear hb)) | ((with_reducible refine qam rfl rfl ?_); apply qay.mk rfl; (focus (with_reducible exact C6.out.st)); dsimp only) | ((with_reducible refine qaE rfl rfl ?_); apply qb4.mk rfl rfl; (focus (with_reducible exact C6.out.out)); (focus (exact Im.qar)); (focus rfl)))
 refine bodyPost_ret (v := .agg (Im.cells (Gm.remove g k) (.slice A4 (Gm.remove g k).qaa.length c4) (Ros.give r k))) ?_ ?_ ?_
 · exact results_cell_row rfl _ _ _ _ (Im.cells (Gm.remove g k) (.slice A4 (Gm.remove g k).qaa.length c4) (Ros.give r k)) (0, 0) _ rfl (C6.out.out.row _).is Tryz.underlying40 rfl (by rw [Im.qag]; exact qaw)
 · rfl
 · exact ⟨A4, c4, rfl, L6.out.qbX rfl C6.out.out _, Below.setRow' C6.out.below (by omega) _⟩
theorem qd8 (s : Fd.S) (v : En.Ev) (A : Option Addr) (n c : Nat) (w : World) (hs : Fd.Fine s) (hv : Fd.qcy s v) (hn : n = s.g.qaa.length) (hr : Lies w w.heap.size 6 A n (Gm.qab s.g.qaa)) :
 Calls Tryz.prog 75 #[.agg (Im.cells s.g (.slice A n c) s.r), .agg #[.int .i64 v.kind, .int .i64 v.slot, .int .i64 v.gen, .int .i64 v.peer]] w (SOne (Fd.after s v).g (Fd.after s v).r w) := by
 rcases hv with ⟨hk, ht, hg⟩ | ⟨hk, ht, hp, hg⟩
 · obtain ⟨k, hk8, e, e', hpk, ht', hp0⟩ := Fd.qh3 ht
   unfold Fd.after
   rw [if_pos hk, e', hk, e]
   exact qla s.g s.r k v.gen v.peer A n c w hs.ok hs.dice hk8 hn hr ht' (by rw [hg, e'])
 · obtain ⟨k, hk8, e, e', hpk, ht'⟩ := Fd.qiC ht
   unfold Fd.after
   rw [if_neg (by omega), e', hk, e]
   exact qjW s.g s.r k v.gen v.peer A n c w hs.ok hs.dice hk8 hn hr ht' (by rw [<- hp, e']) (by rw [<- hg, e'])
namespace Fd
theorem qjV (s : S) (l : List En.Ev) (k : Nat) (hk : k < l.length) : changes s (l.take (k + 1)) = (changes s (l.take k)).bind fun t => change t l[k] := by
 rw [List.take_succ_eq_append_getElem hk, qei]
 congr 1
 funext t
 exact qk8 t _
theorem qhT {s t : S} {l : List En.Ev} {k : Nat} (hk : k < l.length) (h : changes s (l.take k) = some t) (hv : qcy t l[k]) : changes s (l.take (k + 1)) = some (after t l[k]) := by
 rw [qjV s l k hk, h, Option.bind_some, qd8 hv]
theorem qfK {s t : S} {l : List En.Ev} {k : Nat} (hk : k < l.length) (h : changes s (l.take k) = some t) (hv : ¬ qcy t l[k]) : changes s l = none := by
 rw [<- List.take_append_drop k l, qei, h, Option.bind_some, List.drop_eq_getElem_cons hk, qfL, qeX hv]
 rfl
theorem qhX {s : S} {e : En.E} (hm : May s e) (h : changes s e.evs = none) : apply s e = none := by rw [qe1 hm, h]; rfl
theorem qhY {s t : S} {e : En.E} (hm : May s e) (h : changes s e.evs = some t) (hi : ¬ Idle t.r e.inp) : apply s e = none := by rw [qe1 hm, h, Option.bind_some, if_neg hi]
theorem qfq {s t : S} {e : En.E} (hm : May s e) (h : changes s e.evs = some t) (hi : Idle t.r e.inp) : apply s e = some ⟨Gm.step e.inp t.g, t.r⟩ := by rw [qe1 hm, h, Option.bind_some, if_pos hi]
end Fd
structure Bh (w : World) (g : Gm.G) (s : Value) (r : Ros.R) (e : En.E) (sl : Value) (W : World) : Prop where
 st : Box W w.heap.size 40 (Im.cells g s r)
 en : Box W (w.heap.size + 1) 51 (En.cells e sl)
 out : Box W (w.heap.size + 1 + 1) 40 Im.zero
 below : Below w.heap.size w W
section
variable {w W W' : World} {g : Gm.G} {s : Value} {r : Ros.R} {e : En.E} {sl : Value}
theorem Bh.call (h : Bh w g s r e sl W) (hb : Below W.heap.size W W') : Bh w g s r e sl W' :=
 ⟨h.st.below hb h.st.lt, h.en.below hb h.en.lt, h.out.below hb h.out.lt, h.below.trans (hb.mono h.below.size)⟩
theorem Bh.alloc (h : Bh w g s r e sl W) (o : Obj) : Bh w g s r e sl (W.alloc o) := h.call (qac W o)
theorem Bh.store {g' : Gm.G} {s' : Value} {r' : Ros.R} (h : Bh w g s r e sl W) : Bh w g' s' r' e sl (W.setRow w.heap.size (Im.cells g' s' r')) :=
 ⟨h.st.row _, h.en.qa4 (by omega) _, h.out.qa4 (by omega) _, Below.setRow' h.below (Nat.le_refl _) _⟩
end
theorem qiN (w : World) (g : Gm.G) (s : Value) (r : Ros.R) (e : En.E) (sl : Value) : Bh w g s r e sl (((w.alloc (.cells (Im.cells g s r) 40)).alloc (.cells (En.cells e sl) 51)).alloc (.cells Im.zero 40)) :=
 ⟨((Box.made w 40 (Im.cells g s r)).alloc (.cells (En.cells e sl) 51)).alloc (.cells Im.zero 40), (Box.qan (n := w.heap.size + 1) (w.alloc (.cells (Im.cells g s r) 40)) 51 (En.cells e sl) (by simp)).alloc (.cells Im.zero 40), Box.qan _ _ _ (by simp),
   (qal w (.cells (Im.cells g s r) 40) (.cells (En.cells e sl) 51)).alloc (by simp <;> omega) (.cells Im.zero 40)⟩
theorem qqr (x y b : Int) (w : World) : (binOp .eql 48 (.agg #[.int .i8 x, .int .i8 y, .int .u8 b]) (.agg #[.int .i8 0, .int .i8 0, .int .u8 0])).run Tryz.prog w = .ok (.bool (En.zero ⟨x, y, b⟩)) w := by
 have h : (Op.equalIn 10000 48 (.agg #[.int .i8 x, .int .i8 y, .int .u8 b]) (.agg #[.int .i8 0, .int .i8 0, .int .u8 0])).run Tryz.prog w = .ok (En.zero ⟨x, y, b⟩) w := by
  by_cases h1 : x = 0
  · by_cases h2 : y = 0
    · by_cases h3 : b = 0
      · subst h1 h2 h3; go_simp <;> simp [En.zero]
      · have h4 : (b == 0) = false := by simpa using h3
        subst h1 h2; go_simp <;> simp [h4, h3, En.zero]
    · have h4 : (y == 0) = false := by simpa using h2
      subst h1; go_simp <;> simp [h4, h2, En.zero]
  · have h4 : (x == 0) = false := by simpa using h1
    go_simp <;> simp [h4, h1, En.zero]
 generalize #[Value.int .i8 x, .int .i8 y, .int .u8 b] = F at *
 generalize #[Value.int .i8 0, .int .i8 0, .int .u8 0] = G at *
 go_simp
def qlj (g' : Gm.G) (r' : Ros.R) (w : World) (e : Ending) (w' : World) : Prop :=
 ∃ A c, e = .returned (.agg (Im.cells g' (.slice A g'.qaa.length c) r')) /\ Lies w' w'.heap.size 6 A g'.qaa.length (Gm.qab g'.qaa) /\ Below w.heap.size w w' /\ New6 w.heap.size A g'.qaa.length
theorem qlj.one {g' : Gm.G} {r' : Ros.R} {w w' : World} {e : Ending} (h : qlj g' r' w e w') : SOne g' r' w e w' := by obtain ⟨A, c, h1, h2, h3, _⟩ := h; exact ⟨A, c, h1, h2, h3⟩
def qpp (g' : Gm.G) (r' : Ros.R) (code : Int) (w : World) (e : Ending) (w' : World) : Prop :=
 ∃ A c, e = .returned (.tuple #[.agg (Im.cells g' (.slice A g'.qaa.length c) r'), .int .i64 code]) /\ Lies w' w'.heap.size 6 A g'.qaa.length (Gm.qab g'.qaa) /\ Below w.heap.size w w' /\ New6 w.heap.size A g'.qaa.length
theorem qpp.out {g' : Gm.G} {r' : Ros.R} {code : Int} {w w' : World} {e : Ending} (h : qpp g' r' code w e w') : SOut g' r' code w e w' := by obtain ⟨A, c, h1, h2, h3, _⟩ := h; exact ⟨A, c, h1, h2, h3⟩
def Behind (s : Fd.S) (e : En.E) (w : World) (r : Ending) (w' : World) : Prop :=
 (∃ u, Fd.apply s e = some u /\ qlj u.g u.r w r w') \/ (Fd.apply s e = none /\ qlO 1 w r w')
theorem qom (s : Fd.S) (e : En.E) (A A2 : Option Addr) (n c m c2 : Nat) (w : World) (hty : Gm.ty s.g) (hn60 : n <= 60) (hn : n = s.g.qaa.length) (hr : Lies w w.heap.size 6 A n (Gm.qab s.g.qaa)) (hm : m = e.evs.length) (hm63 : m <= maxLen) (hE : Lies w w.heap.size 4 A2 m (En.qbo e.evs)) (hin : ∀ i, i < 8 -> Gm.tyIn (e.inp i)) (hmay : Fd.May s e) :
 Calls Tryz.prog 50 #[.agg (Im.cells s.g (.slice A n c) s.r), .agg (En.cells e (.slice A2 m c2))] w (Behind s e w) := by
 have B0 := qh (qiN w s.g (.slice A n c) s.r e (.slice A2 m c2))
 have L0 := qh ((hr.below B0.out.below).wider B0.out.below.size)
 have E0 := qh ((hE.below B0.out.below).wider B0.out.below.size)
 have cm := qh (qcQ s.g s.r A n c _ hty (by unfold maxLen; omega) hn L0.out)
 have ce := fun X hX => qh (qof e A2 m c2 X hm hm63 hX)
 have ct := fun X => qh (qkK X)
 have cy := fun X => qh (qjE X)
 have hfine : Fd.Fine s := ⟨hmay.1, hty.2.1⟩
 have HF := qh hfine
 have HM := qh hmay
 have HE := qh hE
 have hN := qh hn
 have hMN := qh hm
 have m63 : (m : Int) <= 9223372036854775807 := by unfold maxLen at hm63; omega
 have hfr : (e.frame == s.g.frame) = true := by simpa using hmay.2.2
 simp only [decide_eq_true hmay.2.1] at ce
 have hs0 : (Im.cells s.g (.slice A n c) s.r)[0]? = some (.int .i64 s.g.frame) := (Im.qdb _ _ _ 0 (by omega)).trans (Gm.qaS _ _)
 have he0 := En.qaS e (.slice A2 m c2)
 have he1 := En.qbC e (.slice A2 m c2)
 clear hmay hr hn hm hm63 hE hty hfine
 go_enter Tryz.func50, Tryz.ntmps50
 go_upto_region 2 with (first | (with_reducible refine qau rfl rfl ?_) | ((with_reducible refine qam rfl rfl ?_); apply qay.mk rfl; (focus (with_reducible exact B0.out.st)); dsimp only) | (go_at_call 39; ((with_reducible refine ((cm).out).mono ?_); rintro x w1 ⟨⟨v, rfl, hv⟩, hb⟩; obtain rfl : v = true := hv.2 HM.out.1; have B1 := qh (B0.out.call hb); have E1 := qh ((E0.out.below hb).wider hb.size); have L1 := qh (L0.out.call hb); clear hb hv)) | ((with_reducible refine qeV ?_ rfl ?_); (focus first | rfl | kernel_rfl | simp [Region.wanted, yielded]); apply qcu.mk rfl; (focus (with_reducible exact B1.out.en)); dsimp only) | (go_at_call 74; ((with_reducible refine ((ce _ E1.out).out).mono ?_); rintro x w2 ⟨rfl, hb⟩; have B2 := qh (B1.out.call hb); have k2s := B2.out.st.cell 0; have k2e := B2.out.en.cell 0; have L2 := qh (L1.out.call hb); clear hb)) | (go_at_call 73; ((with_reducible refine ((cy _).out).mono ?_); rintro x w3 ⟨rfl, hb⟩; have B3 := qh (B2.out.call hb); have k3 := B3.out.en.cell 1; have L3 := qh (L2.out.call hb); clear hb k2s k2e)))
 clear B0 L0 E0 cm ce B1 E1 L1 B2 L2
 have hn := hN.out
 subst hn
 go_wp2
 go_loopw [29] (fun i wr => ∃ (k : Nat) (t : Fd.S) (A' : Option Addr) (c' : Nat), k <= m /\ i = .int .i64 k /\ Fd.changes s (e.evs.take k) = some t /\ Bh w t.g (.slice A' t.g.qaa.length c') t.r e (.slice A2 m c2) wr /\ Lies wr wr.heap.size 6 A' t.g.qaa.length (Gm.qab t.g.qaa)) (fun i _ => m - (intOf i).toNat)
 case atStart => exact ⟨0, s, A, c, Nat.zero_le _, rfl, rfl, B3.out, L3.out⟩
 case round =>
  obtain ⟨k, t, A', c', hk, rfl, hch, hB, hL⟩ := hrel
  clear B3 L3 k3 hs0 he0 hfr
  by_cases hlt : k < m
  · have hk8 : (k : Int) < m := by omega
    have hkl : k < e.evs.length := by have := hMN.out; omega
    obtain ⟨ad, rfl, hbl, e0, e1, e2, e3⟩ := qlK (HE.out.below hB.below) hMN.out k hkl
    have hok := En.qkn e.evs (-1) HM.out.2.1.row e.evs[k] (List.getElem_mem hkl)
    have hft := (HF.out.changes hch).1
    have hgo := qh (fun hv : Fd.qcy t e.evs[k] => Fd.qhT hkl hch hv)
    have hst := qh (fun hv : ¬ Fd.qcy t e.evs[k] => Fd.qhX HM.out (Fd.qfK hkl hch hv))
    have cy' := fun X (hv : Fd.qcy t e.evs[k]) hX => qh (qd8 t e.evs[k] A' t.g.qaa.length c' X hft hv rfl hX)
    have cn' := fun X (hv : ¬ Fd.qcy t e.evs[k]) => qh (qeX t e.evs[k] A' t.g.qaa.length c' X hok hv)
    generalize hv : e.evs[k] = v at e0 e1 e2 e3 hgo hst cy' cn' hok
    have sz := hB.below.size
    have ltA : ad.block < wr.heap.size := by omega
    have ltP : w.heap.size < wr.heap.size := hB.st.lt
    have B4 := fun o => qh (hB.alloc o)
    have L4 := fun o => qh (hL.call (qac wr o))
    by_cases hev : Fd.qcy t v
    · have cs := fun X hX => cy' X hev hX
      have HG := qh (hgo.out hev)
      generalize hu : Fd.after t v = u at cs HG
      obtain ⟨vk, vs, vg, vp⟩ := v
      dsimp only at e0 e1 e2 e3 cs
      clear hu hgo hst cy' cn' hv hev hok hch hB hL hft
      go_wp2_with (first | ((with_reducible refine qam rfl rfl ?_); apply qay.mk rfl; (focus (with_reducible exact (B4 _).out.st)); dsimp only) | (go_at_call 75; ((with_reducible refine ((cs _ (L4 _).out).out).mono ?_); rintro x w5 ⟨A5, c5, rfl, hL5, hb⟩; have B5 := qh ((B4 _).out.call hb); have B6 := qh (B5.out.store (g' := u.g) (s' := .slice A5 u.g.qaa.length c5) (r' := u.r)); have L6 := qh (hL5.qbk rfl B5.out.st (Im.cells u.g (.slice A5 u.g.qaa.length c5) u.r)); clear hb hL5)) | ((with_reducible refine qaE rfl rfl ?_); apply qb4.mk rfl rfl; (focus (with_reducible exact B5.out.st)); (focus (exact Im.qag _ _ _)); (focus rfl)))
      go_roundw
      case rel => exact ⟨k + 1, u, A5, c5, by omega, by go_num, HG.out, B6.out, L6.out⟩
      case measure => simp [intOf]; omega
    · have cs := fun X => cn' X hev
      have HG := qh (hst.out hev)
      obtain ⟨vk, vs, vg, vp⟩ := v
      dsimp only at e0 e1 e2 e3 cs
      clear hgo hst cy' cn' hv hev hok hch hB hL hft
      go_wp2_with (first | ((with_reducible refine qam rfl rfl ?_); apply qay.mk rfl; (focus (with_reducible exact (B4 _).out.st)); dsimp only) | (go_at_call 75; ((with_reducible refine ((cs _).out).mono ?_); rintro x w5 ⟨rfl, hb⟩; have K5 := qh ((B4 _).out.below.trans (hb.mono (B4 _).out.below.size)); clear hb)))
      exact ⟨rfl, .inr ⟨HG.out, rfl, K5.out⟩⟩
  · have hk8 : ¬ (k : Int) < m := by omega
    obtain rfl : k = m := by omega
    obtain ⟨k0, hk0⟩ : ∃ k0, k0 = k := ⟨_, rfl⟩
    rw [hMN.out, List.take_length] at hch
    have HC := qh hch
    rw [<- hk0] at hB
    have B3 := qh hB
    have L3 := qh hL
    have HT := qh (HF.out.changes hch)
    clear hch hB hL
    go_wp2_with ((with_reducible refine qdE rfl rfl ?_); apply qcu.mk rfl; (focus (with_reducible exact B3.out.en)); dsimp only)
    go_loopw [39] (fun i wr => ∃ k : Nat, k <= 8 /\ i = .int .i64 k /\ Bh w t.g (.slice A' t.g.qaa.length c') t.r e (.slice A2 k0 c2) wr /\ Lies wr wr.heap.size 6 A' t.g.qaa.length (Gm.qab t.g.qaa) /\ ∀ j, j < k -> t.r.peer j < 0 -> En.zero (e.inp j) = true) (fun i _ => 8 - (intOf i).toNat)
    case atStart => exact ⟨0, by omega, rfl, B3.out, L3.out, fun j hj => absurd hj (Nat.not_lt_zero j)⟩
    case round =>
     obtain ⟨k, hk, rfl, hB, hL, hall⟩ := hrel
     clear B3 L3
     by_cases hlt : k < 8
     · have hk8 : (k : Int) < 8 := by omega
       have hpart := qlF e.inp k hlt
       have hcell : ∀ o, (wr.alloc o).cell? ⟨w.heap.size, 60 + k * 2, none⟩ = some (.int .i64 (t.r.peer k)) := fun o => ((hB.st.alloc o).cell _).trans (Im.qaB t.g _ t.r k hlt)
       have hnext := qh (fun (h : t.r.peer k < 0 -> En.zero (e.inp k) = true) => show ∀ j, j < k + 1 -> t.r.peer j < 0 -> En.zero (e.inp j) = true from fun j hj => by
        by_cases ej : j = k
        · rw [ej]; exact h
        · exact hall j (by omega))
       have hbad := qh (fun (h : t.r.peer k < 0) (h' : En.zero (e.inp k) = false) => Fd.qhY HM.out HC.out (fun hi => by have := hi k hlt h; rw [h'] at this; cases this))
       obtain ⟨p, hp⟩ : ∃ p, p = e.inp k := ⟨_, rfl⟩
       rw [<- hp] at hpart hnext hbad
       obtain ⟨x, y, b⟩ := p
       dsimp only at hpart
       have hq := fun W => qqr x y b W
       generalize hzz : En.zero ⟨x, y, b⟩ = z at hq hnext hbad
       obtain ⟨pk, hpk⟩ : ∃ pk, pk = t.r.peer k := ⟨_, rfl⟩
       rw [<- hpk] at hcell hnext hbad
       have B4 := fun o => qh (hB.alloc o)
       have L4 := fun o => qh (hL.call (qac wr o))
       have sz : w.heap.size <= wr.heap.size := hB.below.size
       have ltP : w.heap.size < wr.heap.size := hB.st.lt
       clear hp hpk hall hB hL hzz
       by_cases hp0 : 0 <= pk
       · have hn := qh (hnext.out (fun h => absurd h (by omega)))
         clear hnext hbad
         go_wp2_with (go_at_call 73; ((with_reducible refine ((cy _).out).mono ?_); rintro x w5 ⟨rfl, hb⟩; have B5 := qh ((B4 _).out.call hb); have L5 := qh ((L4 _).out.call hb); clear hb))
         go_roundw
         case rel => exact ⟨k + 1, by omega, by go_num, B5.out, L5.out, hn.out⟩
         case measure => simp [intOf]; omega
       · cases z
         · have hn := qh (hbad.out (by omega) rfl)
           clear hnext hbad
           go_wp2_with (go_at_call 73; ((with_reducible refine ((ct _).out).mono ?_); rintro x w5 ⟨rfl, hb⟩; have K5 := qh ((B4 _).out.below.trans (hb.mono (B4 _).out.below.size)); clear hb))
           exact ⟨rfl, .inr ⟨hn.out, rfl, K5.out⟩⟩
         · have hn := qh (hnext.out (fun _ => rfl))
           clear hnext hbad
           go_wp2_with (go_at_call 73; ((with_reducible refine ((cy _).out).mono ?_); rintro x w5 ⟨rfl, hb⟩; have B5 := qh ((B4 _).out.call hb); have L5 := qh ((L4 _).out.call hb); clear hb))
           go_roundw
           case rel => exact ⟨k + 1, by omega, by go_num, B5.out, L5.out, hn.out⟩
           case measure => simp [intOf]; omega
     · have hk8 : ¬ (k : Int) < 8 := by omega
       obtain rfl : k = 8 := by omega
       have HR := qh (Fd.qfq HM.out HC.out hall)
       have hstep := fun X hX => qh (qoC e.inp t.g A' t.g.qaa.length c' X HT.out.1.ok.1 (by have := HT.out.2; have := HM.out.2.1.frame; have := HM.out.2.2; omega) HT.out.1.dice hin rfl hX)
       have cn := fun X => qh (qkL X)
       have B6 := qh hB
       have L6 := qh hL
       generalize hG : Gm.step e.inp t.g = G at hstep HR
       clear hall hB hL hG
       go_upto_region 14 with (first | ((with_reducible refine qaY rfl rfl ?_); apply qay.mk rfl; (focus (with_reducible exact B6.out.st)); dsimp only) | ((with_reducible refine qdE rfl rfl ?_); apply qcu.mk rfl; (focus (with_reducible exact B6.out.en)); dsimp only) | (go_at_call 76; ((with_reducible refine ((hstep _ L6.out).out).mono ?_); rintro x w7 ⟨A7, c7, rfl, hL, hb, hN⟩; have NW := qh (hN.mono B6.out.below.size); have B7 := qh ((B6.out.call hb).alloc (.cells (Gm.cells G (.slice A7 G.qaa.length c7)) 33)); have L7 := qh (hL.call (qac w7 (.cells (Gm.cells G (.slice A7 G.qaa.length c7)) 33))); have G7 := qh (Box.made w7 33 (Gm.cells G (.slice A7 G.qaa.length c7))); clear hb hL)) | (refine qaF rfl rfl ?_) | (refine qaJ rfl rfl rfl rfl rfl rfl ?_) | (go_at_call 77; ((with_reducible refine ((cn _).out).mono ?_); rintro x w8 ⟨rfl, hb⟩; have B8 := qh (B7.out.call hb); have L8 := qh (L7.out.call hb); have G8 := qh (G7.out.below hb G7.out.lt); have B9 := qh (B8.out.store (g' := G) (s' := .slice A7 G.qaa.length c7) (r' := t.r)); have L9 := qh (L8.out.qbk rfl B8.out.st (Im.cells G (.slice A7 G.qaa.length c7) t.r)); clear hb)))
       go_wp2_with (first | ((with_reducible refine qaG rfl rfl ?_); apply qaL.mk rfl; (with_reducible exact G8.out)) | ((with_reducible refine qbS rfl rfl ?_); apply qe4.mk rfl rfl; (focus (with_reducible exact B8.out.st)); (focus rfl)) | ((with_reducible refine qam rfl rfl ?_); apply qay.mk rfl; (focus (with_reducible exact B9.out.st)); dsimp only) | ((with_reducible refine qaE rfl rfl ?_); apply qb4.mk rfl rfl; (focus (with_reducible exact B9.out.out)); (focus (exact Im.qar)); (focus rfl)))
       refine bodyPost_ret (v := .agg (Im.cells G (.slice A7 G.qaa.length c7) t.r)) ?_ ?_ ?_
       · exact results_cell_row rfl _ _ _ _ (Im.cells G (.slice A7 G.qaa.length c7) t.r) (0, 0) _ rfl (B9.out.out.row _).is Tryz.underlying40 rfl (by rw [Im.qag]; exact qaw)
       · rfl
       · exact .inl ⟨_, HR.out, A7, c7, rfl, L9.out.qbX rfl B9.out.out _, Below.setRow' B9.out.below (by omega) _, NW.out⟩
theorem qhb (p q s : Addr) (w : World) :
 CallsD Tryz.prog 72 #[.pointer (some s), .pointer (some p), .pointer (some q)] .returning w fun e u' w' => e = .returned (.tuple #[]) /\ u' = .returning /\ w' = w := by
 refine callsD_of_wpS Tryz.func72 rfl fun c₀ cs hu => ?_
 apply wpS_seq
 apply wpS_region
 simp [wpOpsS, go_sem, recoverD, hu, Tryz.ntmps72, Exit.thenS]
 refine wpS_of_wp ?_
 simp only [Array.replicate_succ, Array.replicate_zero, List.push_toArray, List.append_toArray, List.nil_append, List.cons_append, List.setIfInBounds_toArray, List.set_cons_succ, List.set_cons_zero]
 go_wp2
 cases c₀
 simp_all [bodyPostS, results, Tryz.results72]
theorem qmZ {s u : Fd.S} {e : En.E} {w w' : World} {r : Ending} (h : Fd.apply s e = some u) (hB : Behind s e w r w') : qlj u.g u.r w r w' := by
 unfold Behind at hB
 rw [h] at hB
 rcases hB with ⟨v, hv, h2⟩ | ⟨hno, _⟩
 · obtain rfl : u = v := Option.some.inj hv
   exact h2
 · cases hno
theorem qm0 (s u : Fd.S) (e : En.E) (A A2 : Option Addr) (n c m c2 : Nat) (w : World) (hty : Gm.ty s.g) (hn60 : n <= 60) (hn : n = s.g.qaa.length) (hr : Lies w w.heap.size 6 A n (Gm.qab s.g.qaa)) (hm : m = e.evs.length) (hm63 : m <= maxLen) (hE : Lies w w.heap.size 4 A2 m (En.qbo e.evs)) (hin : ∀ i, i < 8 -> Gm.tyIn (e.inp i)) (h : Fd.apply s e = some u) :
 Calls Tryz.prog 50 #[.agg (Im.cells s.g (.slice A n c) s.r), .agg (En.cells e (.slice A2 m c2))] w (qlj u.g u.r w) := by
 exact (qom s e A A2 n c m c2 w hty hn60 hn hr hm hm63 hE hin (Fd.qfp h).1).mono fun r w' hB => qmZ h hB
theorem qld (u : Fd.S) (s : Fd.S) (e : En.E) (A A2 : Option Addr) (n c m c2 Bs Be : Nat) (w : World) (hty : Gm.ty s.g) (hn60 : n <= 60) (hn : n = s.g.qaa.length) (hr : Lies w w.heap.size 6 A n (Gm.qab s.g.qaa)) (hm : m = e.evs.length) (hm63 : m <= maxLen) (hE : Lies w w.heap.size 4 A2 m (En.qbo e.evs)) (hin : ∀ i, i < 8 -> Gm.tyIn (e.inp i)) (hB : Box w Bs 40 (Im.cells s.g (.slice A n c) s.r)) (hBe : Box w Be 51 (En.cells e (.slice A2 m c2))) (h : Fd.apply s e = some u) :
 Calls Tryz.prog 49 #[.pointer (some ⟨Bs, 0, none⟩), .pointer (some ⟨Be, 0, none⟩)] w (qlj u.g u.r w) := by
 have N0 := qh (Box.made w 40 Im.zero)
 have K0 := qh (qac w (.cells Im.zero 40))
 have B1 := qh (hB.alloc (.cells Im.zero 40))
 have E1 := qh (hBe.alloc (.cells Im.zero 40))
 have cb := qh (qm0 s u e A A2 n c m c2 _ hty hn60 hn (hr.call K0.out) hm hm63 ((hE.below K0.out).wider K0.out.size) hin h)
 clear hty hr hE hn hm hm63 hin h hB hBe
 go_enter Tryz.func49, Tryz.ntmps49
 go_wp2_with (first | (with_reducible refine qau rfl rfl ?_) | ((with_reducible refine qam rfl rfl ?_); apply qay.mk rfl; (focus (with_reducible exact B1.out)); dsimp only) | ((with_reducible refine qiK rfl rfl ?_); apply qcu.mk rfl; (focus (with_reducible exact E1.out)); dsimp only) | (go_at_call 50; ((with_reducible refine ((cb).out).mono ?_); rintro x w2 ⟨A1, c1, rfl, hL, hb, hN⟩; have NW := qh (hN.mono K0.out.size); have N2 := qh (N0.out.below hb N0.out.lt); have K2 := qh (K0.out.trans (hb.mono K0.out.size)); have L2 := qh hL; clear hb hL)) | ((with_reducible refine qaE rfl rfl ?_); apply qb4.mk rfl rfl; (focus (with_reducible exact N2.out)); (focus (exact Im.qar)); (focus rfl)))
 refine bodyPost_ret (v := .agg (Im.cells u.g (.slice A1 u.g.qaa.length c1) u.r)) ?_ ?_ ?_
 · exact results_cell_row rfl _ _ _ _ (Im.cells u.g (.slice A1 u.g.qaa.length c1) u.r) (0, 0) _ rfl (N2.out.row _).is Tryz.underlying40 rfl (by rw [Im.qag]; exact qaw)
 · rfl
 · exact ⟨A1, c1, rfl, L2.out.qbX rfl N2.out _, Below.setRow' K2.out (Nat.le_refl _) _, NW.out⟩
theorem Lies.qo7 {w : World} {n Bc : Nat} {A : Option Addr} {l : List Gm.Shot} {y : Int} (h : Lies w w.heap.size 6 A n (Gm.qab l)) (hn : n = l.length) (hC : Box w Bc 3 #[.int .i64 y]) (v : Value) : Lies (w.setCell ⟨Bc, 0, none⟩ v) (w.setCell ⟨Bc, 0, none⟩ v).heap.size 6 A n (Gm.qab l) := by
 refine ⟨h.len, fun hn0 => by obtain ⟨ad, e, hb⟩ := h.start hn0; exact ⟨ad, e, by rw [World.size_setCell]; exact hb⟩, fun ad e h0 j u hu => ?_⟩
 have hne : ad.block ≠ Bc := fun eb => by
  subst hn
  have hlt : 0 < l.length := by omega
  have hc := h.cell ad e h0
  have e1 := hc 1 (.int .i32 l[0].x) (by have := Gm.qbq l 0 1 hlt (by omega); simpa [Gm.Shot.cells] using this)
  rw [show ad.add 1 = ⟨ad.block, ad.off + 1, none⟩ from rfl, eb, hC.cell] at e1
  have := (Array.getElem?_eq_some_iff.1 e1).1
  simp at this
 rw [World.cell?_of_block (w := w) (by rw [add_block]; exact heap_setCell_other w ⟨Bc, 0, none⟩ _ v hne)]
 exact h.cell ad e h0 j u hu
theorem qeZ (g g' : Gm.G) (r r' : Ros.R) (A : Option Addr) (n c Bs Be : Nat) (w : World) (hcall : ∀ W, Below w.heap.size w W -> Calls Tryz.prog 49 #[.pointer (some ⟨Bs, 0, none⟩), .pointer (some ⟨Be, 0, none⟩)] W (qlj g' r' W)) :
 Calls Tryz.prog 48 #[.agg (Im.cells g (.slice A n c) r), .func (.func 49) #[] #[.pointer (some ⟨Bs, 0, none⟩), .pointer (some ⟨Be, 0, none⟩)]] w (qpp g' r' 0 w) := by
 have hmf : ∀ (fn : Fn) (first cap : Array Value) (w : World), (Instr.makeFunc fn first cap).run Tryz.prog w = .ok (.func fn first cap) w := fun _ _ _ _ => rfl
 have S1 := qh (((Box.made w 40 (Im.cells g (.slice A n c) r)).alloc (.cells Im.zero 40)).alloc (.cells #[.int .i64 0] 3))
 have N1 := qh ((Box.qan (n := w.heap.size + 1) (w.alloc (.cells (Im.cells g (.slice A n c) r) 40)) 40 Im.zero (by simp)).alloc (.cells #[.int .i64 0] 3))
 have C1 := qh (Box.qan (n := w.heap.size + 1 + 1) ((w.alloc (.cells (Im.cells g (.slice A n c) r) 40)).alloc (.cells Im.zero 40)) 3 #[.int .i64 0] (by simp))
 have K1 := qh ((qal w (.cells (Im.cells g (.slice A n c) r) 40) (.cells Im.zero 40)).alloc (by simp <;> omega) (.cells #[.int .i64 0] 3))
 have cl := qh (hcall _ K1.out)
 clear hcall
 go_enter_defers Tryz.func48, Tryz.ntmps48
 go_wp2_with (first | (with_reducible refine qau rfl rfl ?_) | (go_at_call 49; ((with_reducible refine ((cl).out).mono ?_); rintro x w2 ⟨A1, c1, rfl, hL, hb, hN⟩; have NW := qh (hN.mono K1.out.size); have N2 := qh (N1.out.below hb N1.out.lt); have C2 := C1.out.below hb C1.out.lt; have C3 := qh (C2.qa4 (show w.heap.size + 1 + 1 ≠ w.heap.size + 1 by omega) (Im.cells g' (.slice A1 g'.qaa.length c1) r')); have k3 := C3.out.cell 0; have f3 := C3.out.free 0; have K2 := qh (K1.out.trans (hb.mono K1.out.size)); have L2 := qh hL; clear hb hL C2)) | ((with_reducible refine qaE rfl rfl ?_); apply qb4.mk rfl rfl; (focus (with_reducible exact N2.out)); (focus (exact Im.qar)); (focus rfl)))
 have ne : w.heap.size + 1 ≠ w.heap.size + 1 + 1 := by omega
 have N4 := (N2.out.row (Im.cells g' (.slice A1 g'.qaa.length c1) r')).far (p := ⟨w.heap.size + 1 + 1, 0, none⟩) ne (.int .i64 0)
 have C4 := C3.out.put 0 (.int .i64 0)
 have K4 := (Below.setRow' (g := w.heap.size + 1) K2.out (Nat.le_succ _) (Im.cells g' (.slice A1 g'.qaa.length c1) r')).setCell (p := ⟨w.heap.size + 1 + 1, 0, none⟩) (by show w.heap.size <= w.heap.size + 1 + 1; omega) (.int .i64 0)
 have L4 := (L2.out.qbX rfl N2.out (Im.cells g' (.slice A1 g'.qaa.length c1) r')).qo7 rfl C3.out (.int .i64 0)
 refine leaves_cons (f := 72) (args := #[.pointer (some ⟨w.heap.size, 0, none⟩), .pointer (some ⟨w.heap.size + 1, 0, none⟩), .pointer (some ⟨w.heap.size + 1 + 1, 0, none⟩)]) (by simp) (by simp [go_sem]) ?_
 refine (qhb _ _ _ _).mono ?_
 rintro e u' w'' ⟨rfl, rfl, rfl⟩
 have hr := fun (tmps : Array Value) h1 h2 => qhp (fn := Tryz.f48) (p := 4) (q := 5) rfl tmps _ (w.heap.size + 1) (w.heap.size + 1 + 1) 40 (Im.cells g' (.slice A1 g'.qaa.length c1) r') _ 0 h1 h2 N4 (by simpa using C4) Tryz.underlying40 rfl (by rw [Im.qag]; exact qaw)
 show Leaves Tryz.prog _ _ _ [] .returning _
 exact ⟨_, hr _ rfl rfl, A1, c1, rfl, L4, K4, NW.out⟩
theorem qiF (u : Fd.S) (s : Fd.S) (e : En.E) (A A2 : Option Addr) (n c m c2 : Nat) (w : World) (hty : Gm.ty s.g) (hn60 : n <= 60) (hn : n = s.g.qaa.length) (hr : Lies w w.heap.size 6 A n (Gm.qab s.g.qaa)) (hm : m = e.evs.length) (hm63 : m <= maxLen) (hE : Lies w w.heap.size 4 A2 m (En.qbo e.evs)) (hin : ∀ i, i < 8 -> Gm.tyIn (e.inp i)) (h : Fd.apply s e = some u) :
 Calls Tryz.prog 26 #[.agg (Im.cells s.g (.slice A n c) s.r), .agg (En.cells e (.slice A2 m c2))] w (qpp u.g u.r 0 w) := by
 have hmf : ∀ (fn : Fn) (first cap : Array Value) (w : World), (Instr.makeFunc fn first cap).run Tryz.prog w = .ok (.func fn first cap) w := fun _ _ _ _ => rfl
 have S1 := qh (((Box.made w 40 (Im.cells s.g (.slice A n c) s.r)).alloc (.cells (En.cells e (.slice A2 m c2)) 51)).alloc (.cells Im.zero 40))
 have E1 := qh ((Box.qan (n := w.heap.size + 1) (w.alloc (.cells (Im.cells s.g (.slice A n c) s.r) 40)) 51 (En.cells e (.slice A2 m c2)) (by simp)).alloc (.cells Im.zero 40))
 have N1 := qh (Box.qan (n := w.heap.size + 1 + 1) ((w.alloc (.cells (Im.cells s.g (.slice A n c) s.r) 40)).alloc (.cells (En.cells e (.slice A2 m c2)) 51)) 40 Im.zero (by simp))
 have K1 := qh ((qal w (.cells (Im.cells s.g (.slice A n c) s.r) 40) (.cells (En.cells e (.slice A2 m c2)) 51)).alloc (by simp <;> omega) (.cells Im.zero 40))
 have L1 := qh ((hr.below K1.out).wider K1.out.size)
 have EE := qh ((hE.below K1.out).wider K1.out.size)
 have ca := qh (qeZ s.g u.g s.r u.r A n c w.heap.size (w.heap.size + 1) _ (fun W hW => qld u s e A A2 n c m c2 w.heap.size (w.heap.size + 1) W hty hn60 hn ((L1.out.below hW).wider hW.size) hm hm63 ((EE.out.below hW).wider hW.size) hin (S1.out.below hW S1.out.lt) (E1.out.below hW E1.out.lt) h))
 clear hty hr hE hn hm hm63 hin h
 go_enter Tryz.func26, Tryz.ntmps26
 go_wp2_with (first | (with_reducible refine qau rfl rfl ?_) | ((with_reducible refine qam rfl rfl ?_); apply qay.mk rfl; (focus (with_reducible exact S1.out)); dsimp only) | (go_at_call 48; ((with_reducible refine ((ca).out).mono ?_); rintro x w2 ⟨A1, c1, rfl, hL, hb, hN⟩; have NW := qh (hN.mono K1.out.size); have N2 := qh (N1.out.below hb N1.out.lt); have K2 := qh (K1.out.trans (hb.mono K1.out.size)); have L2 := qh hL; clear hb hL)) | ((with_reducible refine qaE rfl rfl ?_); apply qb4.mk rfl rfl; (focus (with_reducible exact N2.out)); (focus (exact Im.qar)); (focus rfl)))
 refine bodyPost_ret (v := .tuple #[.agg (Im.cells u.g (.slice A1 u.g.qaa.length c1) u.r), .int .i64 0]) ?_ ?_ ?_
 · exact results_cell_tmp (p := 4) (q := 5) rfl _ _ _ _ (Im.cells u.g (.slice A1 u.g.qaa.length c1) u.r) _ rfl (Box.row N2.out _) Tryz.underlying40 rfl (by rw [Im.qag]; exact qaw)
 · rfl
 · exact ⟨A1, c1, rfl, L2.out.qbX rfl N2.out _, Below.setRow' K2.out (by omega) _, NW.out⟩
theorem qhs (u : Fd.S) (s : Fd.S) (e : En.E) (A A2 : Option Addr) (n c m c2 : Nat) (w : World) (hty : Gm.ty s.g) (hn60 : n <= 60) (hn : n = s.g.qaa.length) (hr : Lies w w.heap.size 6 A n (Gm.qab s.g.qaa)) (hm : m = e.evs.length) (hm63 : m <= maxLen) (hE : Lies w w.heap.size 4 A2 m (En.qbo e.evs)) (hin : ∀ i, i < 8 -> Gm.tyIn (e.inp i)) (h : Fd.apply s e = some u) :
 Calls Tryz.prog 26 #[.agg (Im.cells s.g (.slice A n c) s.r), .agg (En.cells e (.slice A2 m c2))] w (SOut u.g u.r 0 w) :=
 (qiF u s e A A2 n c m c2 w hty hn60 hn hr hm hm63 hE hin h).mono fun _ _ hh => hh.out
end Go.Proofs.YtbdlpbnfcnhajaaGreat
namespace En
open Go
def qiQ : Array Value := cells ⟨0, [], in0⟩ (.slice none 0 0)
theorem qlR : qiQ.size = 26 := rfl
structure S where
 e : E
 adr : Option Addr
 cap : Nat
def S.sl (q : S) : Value := .slice q.adr q.e.evs.length q.cap
def S.cells (q : S) : List Value := (En.cells q.e q.sl).toList
def qbr (l : List S) : List Value := l.flatMap S.cells
theorem S.qcs (q : S) : q.cells.length = 26 := rfl
theorem S.qha (q : S) : q.cells.toArray = En.cells q.e q.sl := by unfold S.cells; exact Array.toArray_toList
theorem qfa (l : List S) : (qbr l).length = l.length * 26 := by
 induction l with
 | nil => rfl
 | cons s l ih => unfold qbr at *; rw [List.flatMap_cons, List.length_append, ih, List.length_cons, S.qcs]; omega
theorem qgr (l : List S) (k j : Nat) (hk : k < l.length) (hj : j < 26) : (qbr l)[k * 26 + j]? = l[k].cells[j]? := by
 induction l generalizing k with
 | nil => simp at hk
 | cons s l ih =>
  unfold qbr at *
  rw [List.flatMap_cons]
  match k with
  | 0 => rw [List.getElem?_append_left (by rw [S.qcs]; omega)]; simp
  | k + 1 =>
   rw [List.getElem?_append_right (by rw [S.qcs]; omega)]
   have := ih k (by simpa using hk)
   rw [show (k + 1) * 26 + j - s.cells.length = k * 26 + j from by rw [S.qcs]; omega, this]
   simp
theorem ql4 (l : List S) : ∀ u ∈ qbr l, u.oneCell' = true := by
 intro u hu
 obtain ⟨q, _, hq⟩ := List.mem_flatMap.1 hu
 have := cells_one q.e q.sl rfl
 rw [Array.all_eq_true'] at this
 exact this u (by unfold S.cells at hq; simpa using hq)
end En
namespace Go.Proofs.YtbdlpbnfcnhajaaGreat
open Go.RowKit Go.Shelf
theorem qk3 : (Tryz.prog.info? 51).map (·.zero) = some (some (.agg En.qiQ)) := by kernel_rfl
theorem qpm {ops : Array Oper} {Q : Exit -> Act -> World -> Prop} {o : Oper} {rest : List Oper} {a : Act} {w : World} (hgd : o.guard = none) (ho : o.op = .alloc 51)
 (h : wpList Tryz.prog ops Q rest (a.put o.dst (.pointer (some ⟨w.heap.size, 0, none⟩))) (w.alloc (.cells En.qiQ 51))) : wpList Tryz.prog ops Q (o :: rest) a w :=
 qbU hgd ho qk3 rfl h
theorem qoh : (Tryz.prog.info? 51).map (·.size) = some 26 := qfn
theorem qjR {ops : Array Oper} {Q : Exit -> Act -> World -> Prop} {o : Oper} {rest : List Oper} {a : Act} {x y : Operand} {v : World} {old : Array Value} {e : En.E} {s : Value} (hgd : o.guard = none) (ho : o.op = .store 51 x y) (hx : a.eval x = .pointer (some ⟨v.heap.size, 0, none⟩)) (hy : a.eval y = .agg (En.cells e s))
 (hold : old.size = 26) (hs : s.oneCell' = true) (h : wpList Tryz.prog ops Q rest (a.put o.dst undef) (v.alloc (.cells (En.cells e s) 51))) : wpList Tryz.prog ops Q (o :: rest) a (v.alloc (.cells old 51)) :=
 qbE hgd ho hx hy rfl rfl qfn (by rw [En.qag]; exact hold) (En.cells_one _ _ hs) h
structure qdp (w : World) (B : Nat) (A : Option Addr) (n : Nat) (l : List En.S) : Prop where
 row : Lies w B 26 A n (En.qbr l)
 each : ∀ q ∈ l, Lies w B 4 q.adr q.e.evs.length (En.qbo q.e.evs)
 few : ∀ q ∈ l, q.e.evs.length <= maxLen
section
variable {w w' : World} {B B' n : Nat} {A : Option Addr} {l : List En.S}
theorem qdp.below (h : qdp w B A n l) (hb : Below B w w') : qdp w' B A n l := ⟨h.row.below hb, fun q hq => (h.each q hq).below hb, h.few⟩
theorem qdp.wider (h : qdp w B A n l) (hB : B <= B') : qdp w B' A n l := ⟨h.row.wider hB, fun q hq => (h.each q hq).wider hB, h.few⟩
theorem qdp.len (h : qdp w B A n l) : l.length = n := by have := h.row.len; rw [En.qfa] at this; omega
theorem qdp.nil : qdp w B A 0 [] := ⟨⟨rfl, fun h => absurd rfl h, fun _ _ h => absurd rfl h⟩, fun q h => (by cases h), fun q h => (by cases h)⟩
theorem qdp.at (h : qdp w B A n l) (k : Nat) (hk : k < l.length) : ∃ ad, A = some ad /\ ad.block < B /\ ∀ j v, l[k].cells[j]? = some v -> w.cell? ((ad.add (k * 26)).add j) = some v := by
 have hn := h.len
 obtain ⟨ad, rfl, hb⟩ := h.row.start (by omega)
 refine ⟨ad, rfl, hb, fun j v hv => ?_⟩
 have hj : j < 26 := by have := (List.getElem?_eq_some_iff.1 hv).1; rwa [En.S.qcs] at this
 rw [qct]
 exact h.row.cell ad rfl (by omega) _ v (by rw [En.qgr l k j hk hj, hv])
theorem qdp.take (h : qdp w B A n l) (k : Nat) (hk : k <= n) : qdp w B A k (l.take k) := by
 have hn := h.len
 refine ⟨⟨by rw [En.qfa, List.length_take]; omega, fun h0 => h.row.start (by omega), fun ad e h0 j u hu => ?_⟩, fun q hq => h.each q (List.mem_of_mem_take hq), fun q hq => h.few q (List.mem_of_mem_take hq)⟩
 have hj : j < k * 26 := by have := (List.getElem?_eq_some_iff.1 hu).1; rw [En.qfa, List.length_take] at this; omega
 refine h.row.cell ad e (by omega) j u ?_
 have h1 := En.qgr l (j / 26) (j % 26) (by omega) (by omega)
 have h2 := En.qgr (l.take k) (j / 26) (j % 26) (by rw [List.length_take]; omega) (by omega)
 rw [show j / 26 * 26 + j % 26 = j by omega] at h1 h2
 rw [h1, <- hu, h2]
 congr 2
 simp
end
namespace Fd
def es (l : List En.S) : List En.E := l.map (·.e)
theorem qqH (l : List En.S) (k : Nat) (h : k < (es l).length) (h' : k < l.length) : (es l)[k] = l[k].e := List.getElem_map _
theorem qoQ (s : S) (l : List En.E) (k : Nat) (hk : k < l.length) : run s (l.take (k + 1)) = (run s (l.take k)).bind fun t => Fd.apply t l[k] := by
 rw [List.take_succ_eq_append_getElem hk, qfb]
 congr 1
 funext t
 exact qnz t _
theorem Fine.ty {s : S} (h : Fine s) : Gm.ty s.g := ⟨by have := h.ok.1.1; have := h.ok.1.2.1; unfold Gm.i64; omega, h.dice, fun i hi => (h.ok.1.2.2.2.1 i hi).ty, fun i hi => (h.ok.1.2.2.2.2 i hi).ty⟩
theorem Fine.few {s : S} (h : Fine s) : s.g.qaa.length <= 60 := by have := h.ok.1.2.2.1; omega
end Fd
structure Rn (w : World) (Bn : Nat) (g : Gm.G) (s : Value) (r : Ros.R) (W : World) : Prop where
 nx : Box W Bn 40 (Im.cells g s r)
 out : Box W w.heap.size 40 Im.zero
 far : w.heap.size < Bn
 below : Below w.heap.size w W
section
variable {w W W' : World} {Bn : Nat} {g : Gm.G} {s : Value} {r : Ros.R}
theorem Rn.call (h : Rn w Bn g s r W) (hb : Below W.heap.size W W') : Rn w Bn g s r W' :=
 ⟨h.nx.below hb h.nx.lt, h.out.below hb h.out.lt, h.far, h.below.trans (hb.mono h.below.size)⟩
theorem Rn.alloc (h : Rn w Bn g s r W) (o : Obj) : Rn w Bn g s r (W.alloc o) := h.call (qac W o)
theorem Rn.store {g' : Gm.G} {s' : Value} {r' : Ros.R} (h : Rn w Bn g s r W) : Rn w Bn g' s' r' (W.setRow Bn (Im.cells g' s' r')) :=
 ⟨h.nx.row _, h.out.qa4 (by have := h.far; omega) _, h.far, Below.setRow' h.below (Nat.le_of_lt h.far) _⟩
end
theorem qa2 {ops : Array Oper} {Q : Exit -> Act -> World -> Prop} {o : Oper} {rest : List Oper} {a : Act} {x y : Operand} {v : World} {old : Array Value} {g : Gm.G} {s : Value} {r : Ros.R} (hgd : o.guard = none) (ho : o.op = .store 40 x y) (hx : a.eval x = .pointer (some ⟨v.heap.size, 0, none⟩)) (hy : a.eval y = .agg (Im.cells g s r))
 (hold : old.size = 76) (hs : s.oneCell' = true) (h : wpList Tryz.prog ops Q rest (a.put o.dst undef) (v.alloc (.cells (Im.cells g s r) 40))) : wpList Tryz.prog ops Q (o :: rest) a (v.alloc (.cells old 40)) :=
 qbE hgd ho hx hy rfl rfl (by rw [Im.qag]; exact qaw) (by rw [Im.qag]; exact hold) (qn0 _ _ _ hs) h
namespace Fd
def in0 : Nat -> Gm.In := fun _ => ⟨0, 0, 0⟩
def joined (d : Int) (k : Nat) (p : Int) (ps : Nat -> Gm.In) : S := ⟨Gm.step ps (Gm.spawn (Gm.new d) k), Ros.take Ros.new k p⟩
def left (d : Int) (k : Nat) (p : Int) (ps : Nat -> Gm.In) : S := ⟨Gm.step in0 (Gm.remove (joined d k p ps).g k), Ros.give (Ros.take Ros.new k p) k⟩
theorem qpP : En.Row (-1) [] := trivial
theorem qpD {p : Gm.In} (h : En.zero p = true) : En.inOk p := by
 rw [En.qpE h]; unfold En.inOk; dsimp only; omega
section
variable {d : Int} {k : Nat} {p : Int} {ps : Nat -> Gm.In}
end
def idle1 (d : Int) : S := ⟨Gm.step in0 (Gm.new d), Ros.new⟩
theorem qn1 {s : S} (hs : Fine s) (fr : Int) (hfr : fr = s.g.frame) (h0 : 0 <= fr /\ fr < 1048576) : apply s ⟨fr, [], in0⟩ = some ⟨Gm.step in0 s.g, s.r⟩ := by
 have hm : May s ⟨fr, [], in0⟩ := ⟨hs.ok, ⟨h0, qpP, fun i hi => qpD rfl⟩, hfr⟩
 rw [qfq hm (qk9 _) (fun i hi hn => rfl)]
end Fd
theorem qoe (l m : List Gm.Shot) (A B : Option Addr) (n n' c d : Nat) (w : World) (hn : n = l.length) (hm : n' = m.length) (n64 : n <= maxLen) (m64 : n' <= maxLen) (hr : Lies w w.heap.size 6 A n (Gm.qab l)) (hq : Lies w w.heap.size 6 B n' (Gm.qab m)) :
 Calls Tryz.prog 78 #[.slice A n c, .slice B n' d] w fun e w' => (∃ v, e = .returned (.bool v) /\ (v = true ↔ l = m)) /\ Below w.heap.size w w' := by
 have hN := qh hn
 have hM := qh hm
 have n63 : (n : Int) <= 9223372036854775807 := by unfold maxLen at n64; omega
 have m63 : (n' : Int) <= 9223372036854775807 := by unfold maxLen at m64; omega
 clear hn hm n64 m64
 by_cases hnn : n = n'
 · subst hnn
   go_enter Tryz.func78, Tryz.ntmps78
   go_wp2
   go_loopw [13] (fun i wr => ∃ k : Nat, k <= n /\ i = .int .i64 k /\ Below w.heap.size w wr /\ ∀ j, j < k -> l[j]? = m[j]?) (fun i _ => n - (intOf i).toNat)
   case atStart => exact ⟨0, by omega, rfl, Below.refl _ _, fun j hj => absurd hj (Nat.not_lt_zero j)⟩
   case round =>
    obtain ⟨k, hk, rfl, hb, hall⟩ := hrel
    have HALL := qh hall
    clear hall
    by_cases hlt : k < n
    · have hkg : k < l.length := by have := hN.out; omega
      have hkh : k < m.length := by have := hM.out; omega
      obtain ⟨ad, rfl, hbl, a0, a1, a2, a3, a4, a5⟩ := qco (hr.below hb) hN.out k hkg
      obtain ⟨bd, rfl, hbm, c0, c1, c2, c3, c4, c5⟩ := qco (hq.below hb) hM.out k hkh
      have HS := qh (show l = m -> l[k]'hkg = m[k]'hkh from fun e => by simp only [e])
      have HT := qh (show l[k]'hkg = m[k]'hkh -> ∀ j, j < k + 1 -> l[j]? = m[j]? from fun e j hj => by
       by_cases ej : j = k
       · subst ej
         rw [List.getElem?_eq_getElem hkg, List.getElem?_eq_getElem hkh, e]
       · exact HALL.out j (by omega))
      have hsn := fun W => qlk (l[k]'hkg) (m[k]'hkh) W
      have hiff := @Gm.Shot.qex (l[k]'hkg) (m[k]'hkh)
      generalize l[k]'hkg = s at a0 a1 a2 a3 a4 a5 HS HT hsn hiff
      generalize m[k]'hkh = t at c0 c1 c2 c3 c4 c5 HS HT hsn hiff
      obtain ⟨owner, x, y, vx, vy, left⟩ := s
      obtain ⟨owner2, p, q, vp, vq, left2⟩ := t
      dsimp only at a0 a1 a2 a3 a4 a5 c0 c1 c2 c3 c4 c5
      simp only [Gm.Shot.cells] at hsn
      have hk8 : (k : Int) < n := by omega
      have HBB := qh hb
      clear hr hq hb
      cases hse : Gm.Shot.eqB ⟨owner, x, y, vx, vy, left⟩ ⟨owner2, p, q, vp, vq, left2⟩
      · rw [hse] at hsn hiff
        have hno := qh (show ¬ l = m from fun e => by have := hiff.2 (HS.out e); cases this)
        clear hse hiff
        go_upto_region 6 with fail
        go_quiet (fail)
        go_wp2
        go_ret
        exact ⟨by first | exact ⟨false, rfl, by simp; exact hno.out⟩ | exact .inl ⟨rfl, hno.out⟩, qaj HBB.out _⟩
      · rw [hse] at hsn hiff
        have hn2 := qh (HT.out (hiff.1 rfl))
        clear hse hiff
        go_upto_region 6 with fail
        go_quiet (fail)
        go_wp2
        go_roundw
        case rel => exact ⟨k + 1, by omega, by go_num, qaj HBB.out _, hn2.out⟩
        case measure => simp [intOf]; omega
    · have hk8 : ¬ (k : Int) < n := by omega
      have hyes := qh (show l = m from List.ext_getElem? fun j => by
       by_cases hj : j < n
       · exact HALL.out j (by omega)
       · rw [List.getElem?_eq_none (by have := hN.out; omega), List.getElem?_eq_none (by have := hM.out; omega)])
      have HBB := qh hb
      clear hr hq hb
      go_wp2
      go_ret
      exact ⟨by first | exact ⟨true, rfl, by simp; exact hyes.out⟩ | exact .inr ⟨rfl, hyes.out⟩, HBB.out⟩
 · have hno := qh (show ¬ l = m from fun e => hnn (by rw [hN.out, hM.out, e]))
   have hne : ((n : Int) != n') = true := by simp; omega
   clear hr hq hnn
   go_enter Tryz.func78, Tryz.ntmps78
   go_wp2
   go_ret
   exact ⟨by first | exact ⟨false, rfl, by simp; exact hno.out⟩ | exact .inl ⟨rfl, hno.out⟩, Below.refl _ _⟩
theorem qoP (g h : Gm.G) (A B : Option Addr) (n m c d : Nat) (w : World) (hn : n = g.qaa.length) (hm : m = h.qaa.length) (hr : Lies w w.heap.size 6 A n (Gm.qab g.qaa)) (hq : Lies w w.heap.size 6 B m (Gm.qab h.qaa))
 (n64 : n <= maxLen) (m64 : m <= maxLen) :
 Calls Tryz.prog 51 #[.agg (Gm.cells g (.slice A n c)), .agg (Gm.cells h (.slice B m d))] w fun e w' => (∃ v, e = .returned (.bool v) /\ (v = true ↔ Gm.Eq g h)) /\ Below w.heap.size w w' := by
 have b1 : Box ((w.alloc (.cells (Gm.cells g (.slice A n c)) 33)).alloc (.cells (Gm.cells h (.slice B m d)) 33)) w.heap.size 33 (Gm.cells g (.slice A n c)) := (Box.made _ _ _).alloc _
 have b2 : Box ((w.alloc (.cells (Gm.cells g (.slice A n c)) 33)).alloc (.cells (Gm.cells h (.slice B m d)) 33)) (w.heap.size + 1) 33 (Gm.cells h (.slice B m d)) := Box.qan _ _ _ (by simp)
 have hb0 := qal w (.cells (Gm.cells g (.slice A n c)) 33) (.cells (Gm.cells h (.slice B m d)) 33)
 have ce := qh (qoe g.qaa h.qaa A B n m c d _ hn hm n64 m64 ((hr.below hb0).wider hb0.size) ((hq.below hb0).wider hb0.size))
 have g0 := Gm.qaS g (.slice A n c)
 have g1 := Gm.qbC g (.slice A n c)
 have g58 := Gm.qaZ g (.slice A n c)
 have h0 := Gm.qaS h (.slice B m d)
 have h1 := Gm.qbC h (.slice B m d)
 have h58 := Gm.qaZ h (.slice B m d)
 have k1 := b1.cell
 have k2 := b2.cell
 have hB1 := qh b1
 have hB2 := qh b2
 have HB := qh hb0
 have HE := qh (show Gm.Eq g h ↔ g.frame = h.frame /\ g.dice = h.dice /\ (∀ i, i < 8 -> g.ship i = h.ship i) /\ g.qaa = h.qaa from Iff.rfl)
 have hse := @Gm.qep g.ship h.ship
 have hsh := fun W => qnv g.ship h.ship W
 generalize Gm.qc9 g.ship h.ship = z at hse hsh
 clear b1 b2 hb0 hr hq hn hm
 by_cases e1 : g.frame = h.frame
 · rw [<- e1] at h0
   by_cases e2 : g.dice = h.dice
   · rw [<- e2] at h1
     cases z
     · have hno := qh (show ¬ Gm.Eq g h from fun e => by have := hse.2 e.2.2.1; cases this)
       clear hse e1 e2 HE ce
       go_enter Tryz.func51, Tryz.ntmps51
       go_wp2_with (first | (refine qap (by first | rfl | kernel_rfl | simp [Region.wanted, yielded]) (ty := 30) rfl rfl hB1.out _ (qdZ _ _) Tryz.underlying30 rfl qd0 ?_) | (refine qap (by first | rfl | kernel_rfl | simp [Region.wanted, yielded]) (ty := 30) rfl rfl hB2.out _ (qdZ _ _) Tryz.underlying30 rfl qd0 ?_))
       go_ret
       exact ⟨by first | exact ⟨false, rfl, by simp; exact hno.out⟩ | exact .inl ⟨rfl, hno.out⟩, HB.out⟩
     · have HX := qh (show g.qaa = h.qaa ↔ Gm.Eq g h from ⟨fun e => ⟨e1, e2, hse.1 rfl, e⟩, fun e => e.2.2.2⟩)
       clear hse e1 e2 HE
       go_enter Tryz.func51, Tryz.ntmps51
       go_wp2_with (first | (refine qap (by first | rfl | kernel_rfl | simp [Region.wanted, yielded]) (ty := 30) rfl rfl hB1.out _ (qdZ _ _) Tryz.underlying30 rfl qd0 ?_) | (refine qap (by first | rfl | kernel_rfl | simp [Region.wanted, yielded]) (ty := 30) rfl rfl hB2.out _ (qdZ _ _) Tryz.underlying30 rfl qd0 ?_) | (go_at_call 78; ((with_reducible refine ((ce).out).mono ?_); rintro e w1 ⟨⟨v, rfl, hv⟩, hb1⟩; have HV := qh hv; have K1 := qh (HB.out.trans (hb1.mono HB.out.size)); clear hv hb1)))
       all_goals
        go_ret
        first
         | exact ⟨⟨v, rfl, HV.out.trans HX.out⟩, K1.out⟩
         | exact ⟨HV.out.trans HX.out, K1.out⟩
         | exact ⟨⟨_, rfl, by simp; exact HV.out.trans HX.out⟩, K1.out⟩
         | trace_state
   · have hq2 : (g.dice == h.dice) = false := by simpa using e2
     have hno := qh (show ¬ Gm.Eq g h from fun e => e2 e.2.1)
     clear hse e1 e2 HE ce
     go_enter Tryz.func51, Tryz.ntmps51
     go_wp2
     go_ret
     exact ⟨by first | exact ⟨false, rfl, by simp; exact hno.out⟩ | exact .inl ⟨rfl, hno.out⟩, HB.out⟩
 · have hq2 : (g.frame == h.frame) = false := by simpa using e1
   have hno := qh (show ¬ Gm.Eq g h from fun e => e1 e.1)
   clear hse e1 HE ce
   go_enter Tryz.func51, Tryz.ntmps51
   go_wp2
   go_ret
   exact ⟨by first | exact ⟨false, rfl, by simp; exact hno.out⟩ | exact .inl ⟨rfl, hno.out⟩, HB.out⟩
def Im.Eq (g h : Gm.G) (r q : Ros.R) : Prop := Gm.Eq g h /\ r.version = q.version /\ ∀ k, k < 8 -> r.peer k = q.peer k /\ r.gen k = q.gen k
theorem qjO (g h : Gm.G) (r q : Ros.R) (A B : Option Addr) (n m c d : Nat) (w : World) (hn : n = g.qaa.length) (hm : m = h.qaa.length) (hr : Lies w w.heap.size 6 A n (Gm.qab g.qaa)) (hq : Lies w w.heap.size 6 B m (Gm.qab h.qaa))
 (n63 : n <= maxLen) (m63 : m <= maxLen) :
 Calls Tryz.prog 27 #[.agg (Im.cells g (.slice A n c) r), .agg (Im.cells h (.slice B m d) q)] w fun e w' => (∃ v, e = .returned (.bool v) /\ (v = true ↔ (Gm.Eq g h /\ r.version = q.version /\ ∀ k, k < 8 -> r.peer k = q.peer k /\ r.gen k = q.gen k))) /\ Below w.heap.size w w' := by
 have P0 := qh ((Box.made w 40 (Im.cells g (.slice A n c) r)).alloc (.cells (Im.cells h (.slice B m d) q) 40))
 have Q0 := qh (Box.qan (n := w.heap.size + 1) (w.alloc (.cells (Im.cells g (.slice A n c) r) 40)) 40 (Im.cells h (.slice B m d) q) (by simp))
 have K0 := qh (qal w (.cells (Im.cells g (.slice A n c) r) 40) (.cells (Im.cells h (.slice B m d) q) 40))
 have cg := qh (qoP g h A B n m c d _ hn hm ((hr.below K0.out).wider K0.out.size) ((hq.below K0.out).wider K0.out.size) n63 m63)
 have he := fun W => qnD r q W
 have HI := qh (show (r.version == q.version && Ros.qdr r q) = true ↔ (r.version = q.version /\ ∀ k, k < 8 -> r.peer k = q.peer k /\ r.gen k = q.gen k) by rw [Bool.and_eq_true, Ros.qgo]; simp)
 generalize (r.version == q.version && Ros.qdr r q) = E at he HI
 clear hr hq hn hm
 go_enter Tryz.func27, Tryz.ntmps27
 go_wp2_with (first | ((with_reducible refine qaY rfl rfl ?_); apply qay.mk rfl; (focus first | (with_reducible exact P0.out) | (with_reducible exact Q0.out)); dsimp only) | ((with_reducible refine qbt ?_ rfl ?_); (focus first | rfl | kernel_rfl | simp [Region.wanted, yielded]); apply qay.mk rfl; (focus first | (with_reducible exact P1.out) | (with_reducible exact Q1.out)); dsimp only) | (go_at_call 51; ((with_reducible refine (cg.out).mono ?_); rintro e w1 ⟨⟨v, rfl, hv⟩, hb⟩; have P1 := qh (P0.out.below hb P0.out.lt); have Q1 := qh (Q0.out.below hb Q0.out.lt); have K1 := qh (K0.out.trans (hb.mono K0.out.size)); have HV := qh hv; clear hb hv; cases v)))
 all_goals
  go_ret
  first
   | exact ⟨⟨false, rfl, by simp only [Bool.false_eq_true, false_iff]; exact fun x => by have := HV.out.2 x.1; simp at this⟩, K1.out⟩
   | exact ⟨⟨E, rfl, HI.out.trans ⟨fun x => ⟨HV.out.1 (by first | trivial | rfl), x⟩, fun x => x.2⟩⟩, K1.out⟩
   | exact ⟨by simp; exact fun x => absurd (HV.out.2 x) (by simp), K1.out⟩
   | exact ⟨by simp; exact HI.out.trans ⟨fun x => ⟨HV.out.1 (by first | trivial | rfl), x⟩, fun x => x.2⟩, K1.out⟩
   | trace_state
section
variable {ops : Array Oper} {Q : Exit -> Act -> World -> Prop} {o : Oper} {rest : List Oper} {a : Act} {w : World} {x y : Operand}
theorem qgO (hw : Region.wanted o (yielded ops a.tmps) = true) (ho : o.op = .load 40 x) (h : qay ops Q rest o.dst (a.eval x) 0 (fun g s r => Im.cells g s r) a w) : wpList Tryz.prog ops Q (o :: rest) a w := by
 obtain ⟨B, g, s, r, hx, hB, h⟩ := h
 refine qap hw ho hx hB (Im.cells g s r).toList (fun j v hv => ?_) Tryz.underlying40 rfl (by rw [Array.length_toList, Im.qag]; exact qaw) (by rw [Array.toArray_toList]; exact h)
 rw [Nat.zero_add]
 simpa using hv
end
theorem qiL : Tryz.prog.built 51 [] = some (En.cells ⟨0, [], Fd.in0⟩ (.slice none 0 0)) := by kernel_rfl
theorem qk5 (f : Int) : Tryz.prog.built 51 [(0, .int .i64 f)] = some (En.cells ⟨f, [], Fd.in0⟩ (.slice none 0 0)) := by kernel_rfl
theorem Lies.qpy {W : World} {S n size : Nat} {t : TypeId} {xs : List Value} (h : Box W S t xs.toArray) (hl : xs.length = n * size) : Lies W W.heap.size size (some ⟨S, 0, none⟩) n xs :=
 ⟨hl, fun _ => ⟨_, rfl, h.lt⟩, fun ad e _ j u hj => by
  injection e with e
  subst e
  rw [show (⟨S, 0, none⟩ : Addr).add j = ⟨S, j, none⟩ by unfold Addr.add; split <;> simp_all, h.cell]
  simpa using hj⟩
theorem Lies.none_ {W : World} {B size : Nat} {A : Option Addr} : Lies W B size A 0 [] := ⟨by simp, fun h => absurd rfl h, fun _ _ h => absurd rfl h⟩
section
variable {ops : Array Oper} {rest : List Oper} {o : Oper} {a : Act} {w : World} {Q : Exit -> Act -> World -> Prop} {x y : Operand} {dst : Option Tmp} {v u : Value}
def qlQ (ops : Array Oper) (Q : Exit -> Act -> World -> Prop) (rest : List Oper) (dst : Option Tmp) (v u : Value) (a : Act) (w : World) : Prop :=
 ∃ (q r : En.S), v = .agg (En.cells q.e q.sl) /\ u = .agg (En.cells r.e r.sl) /\ wpList Tryz.prog ops Q rest (a.put dst (.slice (some ⟨w.heap.size, 0, none⟩) 2 2)) (w.alloc (.cells (En.qbr [q, r]).toArray 51))
theorem qlQ.mk {q r : En.S} (hv : v = .agg (En.cells q.e q.sl)) (hu : u = .agg (En.cells r.e r.sl)) (h : wpList Tryz.prog ops Q rest (a.put dst (.slice (some ⟨w.heap.size, 0, none⟩) 2 2)) (w.alloc (.cells (En.qbr [q, r]).toArray 51))) : qlQ ops Q rest dst v u a w := ⟨q, r, hv, hu, h⟩
end
def Fd.eI (f : Int) : En.E := ⟨f, [], Fd.in0⟩
theorem qmT (f : Int) : Tryz.prog.built 51 [(0, .int .i64 f)] = some (En.cells (Fd.eI f) (.slice none 0 0)) := qk5 f
theorem qk6 : Tryz.prog.built 51 [] = some (En.cells (Fd.eI 0) (.slice none 0 0)) := qiL
theorem qlG : ∀ i, i < 8 -> Gm.tyIn (Fd.in0 i) := fun i _ => by unfold Gm.tyIn Fd.in0; dsimp only; omega
theorem qnj (d : Int) (hd : 0 <= d /\ d <= 18446744073709551615) : Gm.ty (Gm.new d) := (Fd.qbN hd).ty
open Go.RowKit
section
variable {t : TypeId} {cs : Array Value} {code : Int} {b k : Nat} {vm vm' : Nat -> Value} {w w' : World}
end
theorem qeh {P : Program} {o : Oper} {a : Act} {w : World} {x y : Operand} {B : Nat} {t : TypeId} {cs old : Array Value} (ho : o.op = .store t x y) (hx : a.eval x = .pointer (some ⟨B, 0, none⟩)) (hy : a.eval y = .agg cs) (hB : Box w B t old) (hi : (P.info? t).map (·.size) = some cs.size) (hs : old.size = cs.size) (h1 : cs.all (·.oneCell') = true) :
 (execOp a.eval o).run P w = .ok .skip (w.setRow B cs) := by
 have hs := run_storeVar_row (P := P) w B t t old cs hB.is hi hs h1
 unfold execOp
 simp only [ho, hx, hy, Instr.storeAt, Instr.sureAddr, Sem.run_bind, Sem.run_pure, Result.andThen_ok, hs]
theorem qiI {o : Oper} {a : Act} {w : World} {x : Operand} {B : Nat} {r : Ros.R} (ho : o.op = .load 38 x) (hx : a.eval x = .pointer (some ⟨B, 0, none⟩)) (hB : Box w B 38 (Ros.cells r)) :
 (execOp a.eval o).run Tryz.prog w = .ok (.value (.agg (Ros.cells r))) w := qcb ho hx hB Tryz.underlying38 rfl qad
open Go Go.RowKit
theorem qcS {o : Oper} {a : Act} {w : World} {x : Operand} {B : Nat} {g : Gm.G} {s : Value} {r : Ros.R} (ho : o.op = .load 40 x) (hx : a.eval x = .pointer (some ⟨B, 0, none⟩)) (hB : Box w B 40 (Im.cells g s r)) :
 (execOp a.eval o).run Tryz.prog w = .ok (.value (.agg (Im.cells g s r))) w := qcb ho hx hB Tryz.underlying40 rfl (by rw [Im.qag]; exact qaw)
theorem qgW {o : Oper} {a : Act} {w : World} {x : Operand} {ad : Addr} (q : En.S) (ho : o.op = .load 51 x) (hx : a.eval x = .pointer (some ad)) (hc : ∀ j v, q.cells[j]? = some v -> w.cell? (ad.add j) = some v) :
 (execOp a.eval o).run Tryz.prog w = .ok (.value (.agg (En.cells q.e q.sl))) w := by
 rw [<- En.S.qha]
 exact qcc ho hx hc Tryz.underlying51 rfl (by rw [En.S.qcs]; exact qoh)
theorem qni {g : Gm.G} {s : Value} {r : Ros.R} (h : s.oneCell' = true) : (Im.cells g s r).all (·.oneCell') = true := qdR _ _ _ h
section
variable {G : Gm.G} {r : Ros.R} {code : Int} {b k : Nat} {vm vm' : Nat -> Value} {w w' : World}
end
end Go.Proofs.YtbdlpbnfcnhajaaGreat