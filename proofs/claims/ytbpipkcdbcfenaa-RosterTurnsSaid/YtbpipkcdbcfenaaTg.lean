/-
The program's roster: a slot taken, a slot given back.
-/
import Derived.Test.YtbpipkcdbcfenaaTf
import Derived.Deep.CutRange
import Derived.Deep.CutBlock
import Derived.Deep.DeepCutAuto
namespace Go.Proofs.Ytbpipkcdbcfenaa
open Go.RowKit Go.Shelf
set_option linter.unusedVariables false
set_option linter.unusedSimpArgs false

set_option maxRecDepth 100000 in
set_option maxHeartbeats 2000000 in
theorem roschange_any (r : Ros.R) (s : Int) (w : World) :
    Calls Try.prog 87 #[.agg (Ros.cells r), .int .i64 s] w fun e w' => e = .returned (.bool (decide ((Ros.Ok r ∧ r.version < 1073741824) ∧ 0 ≤ s ∧ s < 8))) ∧ Below w.heap.size w w' := by
  have cm := fun X => Lib.hid (rosmay_any r X)
  have cs := fun X => Lib.hid (rosslot_any s X)
  have P0 := Lib.hid (Box.made w 51 (Ros.cells r))
  have PB := Lib.hid (one_below w (.cells (Ros.cells r) 51))
  have c0 := Ros.cells_0 r
  by_cases hok : Ros.Ok r
  · have hmay : Ros.may r = true := decide_eq_true hok
    rw [hmay] at cm
    by_cases hv : r.version < 1073741824
    · have dv : decide (r.version < 1073741824) = true := decide_eq_true hv
      by_cases hs : 0 ≤ s ∧ s < 8
      · rw [decide_eq_true hs] at cs
        have HD : Hid (decide ((Ros.Ok r ∧ r.version < 1073741824) ∧ 0 ≤ s ∧ s < 8) = true) := Lib.hid (decide_eq_true ⟨⟨hok, hv⟩, hs⟩)
        clear hok hmay hv hs
        go_enter Try.func87, Try.ntmps87
        go_wp2_with (first | ((with_reducible refine ros_load rfl rfl ?_); apply LoadRow.mk rfl; (focus (with_reducible exact P0.out)); (focus (exact ros_info))) | (go_at_call 42; ((with_reducible refine ((cm _).out).mono ?_); rintro e w1 ⟨rfl, hb1⟩; have Q0 := Lib.hid (P0.out.below hb1 P0.out.lt); have QB := Lib.hid (PB.out.trans (hb1.mono PB.out.size)); have q0 := Q0.out.cell; clear hb1)) | (go_at_call 89; ((with_reducible refine ((cs _).out).mono ?_); rintro e w2 ⟨rfl, rfl⟩)))
        go_ret
        exact ⟨by rw [HD.out]; rfl, QB.out⟩
      · rw [decide_eq_false hs] at cs
        have HD : Hid (decide ((Ros.Ok r ∧ r.version < 1073741824) ∧ 0 ≤ s ∧ s < 8) = false) := Lib.hid (decide_eq_false fun h => hs h.2)
        clear hok hmay hv hs
        go_enter Try.func87, Try.ntmps87
        go_wp2_with (first | ((with_reducible refine ros_load rfl rfl ?_); apply LoadRow.mk rfl; (focus (with_reducible exact P0.out)); (focus (exact ros_info))) | (go_at_call 42; ((with_reducible refine ((cm _).out).mono ?_); rintro e w1 ⟨rfl, hb1⟩; have Q0 := Lib.hid (P0.out.below hb1 P0.out.lt); have QB := Lib.hid (PB.out.trans (hb1.mono PB.out.size)); have q0 := Q0.out.cell; clear hb1)) | (go_at_call 89; ((with_reducible refine ((cs _).out).mono ?_); rintro e w2 ⟨rfl, rfl⟩)))
        go_ret
        exact ⟨by rw [HD.out]; rfl, QB.out⟩
    · have dv : decide (r.version < 1073741824) = false := decide_eq_false hv
      have HD : Hid (decide ((Ros.Ok r ∧ r.version < 1073741824) ∧ 0 ≤ s ∧ s < 8) = false) := Lib.hid (decide_eq_false fun h => hv h.1.2)
      clear hok hmay hv
      go_enter Try.func87, Try.ntmps87
      go_wp2_with (first | ((with_reducible refine ros_load rfl rfl ?_); apply LoadRow.mk rfl; (focus (with_reducible exact P0.out)); (focus (exact ros_info))) | (go_at_call 42; ((with_reducible refine ((cm _).out).mono ?_); rintro e w1 ⟨rfl, hb1⟩; have Q0 := Lib.hid (P0.out.below hb1 P0.out.lt); have QB := Lib.hid (PB.out.trans (hb1.mono PB.out.size)); have q0 := Q0.out.cell; clear hb1)) | (go_at_call 89; ((with_reducible refine ((cs _).out).mono ?_); rintro e w2 ⟨rfl, rfl⟩)))
      go_ret
      exact ⟨by rw [HD.out]; rfl, QB.out⟩
  · have hmay : Ros.may r = false := decide_eq_false hok
    rw [hmay] at cm
    have HD : Hid (decide ((Ros.Ok r ∧ r.version < 1073741824) ∧ 0 ≤ s ∧ s < 8) = false) := Lib.hid (decide_eq_false fun h => hok h.1.1)
    clear hok hmay
    go_enter Try.func87, Try.ntmps87
    go_wp2_with (first | ((with_reducible refine ros_load rfl rfl ?_); apply LoadRow.mk rfl; (focus (with_reducible exact P0.out)); (focus (exact ros_info))) | (go_at_call 42; ((with_reducible refine ((cm _).out).mono ?_); rintro e w1 ⟨rfl, hb1⟩; have Q0 := Lib.hid (P0.out.below hb1 P0.out.lt); have QB := Lib.hid (PB.out.trans (hb1.mono PB.out.size)); have q0 := Q0.out.cell; clear hb1)) | (go_at_call 89; ((with_reducible refine ((cs _).out).mono ?_); rintro e w2 ⟨rfl, rfl⟩)))
    go_ret
    exact ⟨by rw [HD.out]; rfl, QB.out⟩

/-- A roster in its block is stored to. -/
theorem Box.rosv {w : World} {B : Nat} {r : Ros.R} (h : Box w B 51 (Ros.cells r)) (v : Int) : Box (w.setCell ⟨B, 0, none⟩ (.int .i64 v)) B 51 (Ros.cells { r with version := v }) := Ros.cells_setv r v ▸ h.put 0 _
theorem Box.rosp {w : World} {B k : Nat} {r : Ros.R} (h : Box w B 51 (Ros.cells r)) (hk : k < 8) (v : Int) : Box (w.setCell ⟨B, 1 + k * 2, none⟩ (.int .i64 v)) B 51 (Ros.cells { r with peer := Ros.upd r.peer k v }) := Ros.cells_setp r k hk v ▸ h.put _ _
theorem Box.rosg {w : World} {B k : Nat} {r : Ros.R} (h : Box w B 51 (Ros.cells r)) (hk : k < 8) (v : Int) : Box (w.setCell ⟨B, 1 + k * 2 + 1, none⟩ (.int .i64 v)) B 51 (Ros.cells { r with gen := Ros.upd r.gen k v }) := Ros.cells_setg r k hk v ▸ h.put _ _

set_option maxRecDepth 100000 in
set_option maxHeartbeats 2000000 in
theorem rosgive_no (r : Ros.R) (s : Int) (w : World) (hno : ¬ Ros.MayGive r s) :
    Calls Try.prog 40 #[.agg (Ros.cells r), .int .i64 s] w fun e w' => e = .returned (.tuple #[.agg (Ros.cells r), .int .i64 1]) ∧ Below w.heap.size w w' := by
  have cc := fun X => Lib.hid (roschange_any r s X)
  have P0 := Lib.hid ((Box.made w 51 (Ros.cells r)).alloc (.cells (Ros.cells rosZero) 51))
  have P1 := Lib.hid (Box.made_at (n := w.heap.size + 1) (w.alloc (.cells (Ros.cells r) 51)) 51 (Ros.cells rosZero) (by simp))
  have PB := Lib.hid (two_below' w (.cells (Ros.cells r) 51) (.cells (Ros.cells rosZero) 51))
  have c0 := Ros.cells_0 r
  by_cases hch : (Ros.Ok r ∧ r.version < 1073741824) ∧ 0 ≤ s ∧ s < 8
  · rw [decide_eq_true hch] at cc
    have hp : r.peer s.toNat = -1 := Decidable.byContradiction fun h => hno ⟨hch, h⟩
    obtain ⟨k, rfl⟩ : ∃ k : Nat, s = k := ⟨s.toNat, by omega⟩
    have hk : k < 8 := by omega
    have hk8 : (k : Int) < 8 := by omega
    have cpk := Ros.cells_peer r k hk
    rw [show r.peer k = -1 from hp] at cpk
    clear hch hp hno
    go_enter Try.func40, Try.ntmps40
    go_wp2_with (first | ((with_reducible refine ros_alloc rfl rfl ?_)) | ((with_reducible refine ros_load rfl rfl ?_); apply LoadRow.mk rfl; (focus (with_reducible exact P0.out)); (focus (exact ros_info))) | (go_at_call 87; ((with_reducible refine ((cc _).out).mono ?_); rintro e w1 ⟨rfl, hb⟩; have Q0 := Lib.hid (P0.out.below hb P0.out.lt); have Q1 := Lib.hid (P1.out.below hb P1.out.lt); have QB := Lib.hid (PB.out.trans (hb.mono PB.out.size)); have q0 := Q0.out.cell; have qf := Q0.out.free; clear hb)) | ((with_reducible refine ros_load rfl rfl ?_); apply LoadRow.mk rfl; (focus (with_reducible exact Q0.out)); (focus (exact ros_info))) | ((with_reducible refine ros_store rfl rfl ?_); apply StoreRow.mk rfl rfl; (focus (with_reducible exact Q1.out)); (focus (exact ros_info)); (focus rfl); (focus (exact ros_one _))))
    have hE := Q1.out.row (Ros.cells r)
    refine bodyPost_ret (v := .tuple #[.agg (Ros.cells r), .int .i64 1]) ?_ rfl ?_
    · exact results_cell_tmp (p := 4) (q := 5) rfl _ _ _ _ (Ros.cells r) _ rfl hE Try.underlying51 rfl ros_info
    · exact ⟨rfl, Below.setRow' QB.out (by omega) _⟩
  · rw [decide_eq_false hch] at cc
    clear hch hno
    go_enter Try.func40, Try.ntmps40
    go_wp2_with (first | ((with_reducible refine ros_alloc rfl rfl ?_)) | ((with_reducible refine ros_load rfl rfl ?_); apply LoadRow.mk rfl; (focus (with_reducible exact P0.out)); (focus (exact ros_info))) | (go_at_call 87; ((with_reducible refine ((cc _).out).mono ?_); rintro e w1 ⟨rfl, hb⟩; have Q0 := Lib.hid (P0.out.below hb P0.out.lt); have Q1 := Lib.hid (P1.out.below hb P1.out.lt); have QB := Lib.hid (PB.out.trans (hb.mono PB.out.size)); have q0 := Q0.out.cell; have qf := Q0.out.free; clear hb)) | ((with_reducible refine ros_load rfl rfl ?_); apply LoadRow.mk rfl; (focus (with_reducible exact Q0.out)); (focus (exact ros_info))) | ((with_reducible refine ros_store rfl rfl ?_); apply StoreRow.mk rfl rfl; (focus (with_reducible exact Q1.out)); (focus (exact ros_info)); (focus rfl); (focus (exact ros_one _))))
    have hE := Q1.out.row (Ros.cells r)
    refine bodyPost_ret (v := .tuple #[.agg (Ros.cells r), .int .i64 1]) ?_ rfl ?_
    · exact results_cell_tmp (p := 4) (q := 5) rfl _ _ _ _ (Ros.cells r) _ rfl hE Try.underlying51 rfl ros_info
    · exact ⟨rfl, Below.setRow' QB.out (by omega) _⟩

set_option maxRecDepth 100000 in
set_option maxHeartbeats 2000000 in
theorem rosgive_yes (r : Ros.R) (k : Nat) (w : World) (hyes : Ros.MayGive r k) :
    Calls Try.prog 40 #[.agg (Ros.cells r), .int .i64 k] w fun e w' => e = .returned (.tuple #[.agg (Ros.cells (Ros.give r k)), .int .i64 0]) ∧ Below w.heap.size w w' := by
  have cc := fun X => Lib.hid (roschange_any r k X)
  have P0 := Lib.hid ((Box.made w 51 (Ros.cells r)).alloc (.cells (Ros.cells rosZero) 51))
  have P1 := Lib.hid (Box.made_at (n := w.heap.size + 1) (w.alloc (.cells (Ros.cells r) 51)) 51 (Ros.cells rosZero) (by simp))
  have PB := Lib.hid (two_below' w (.cells (Ros.cells r) 51) (.cells (Ros.cells rosZero) 51))
  have c0 := Ros.cells_0 r
  obtain ⟨hch, hp⟩ := hyes
  rw [decide_eq_true hch] at cc
  have hk : k < 8 := by omega
  have hk8 : (k : Int) < 8 := by omega
  have cpk := Ros.cells_peer r k hk
  obtain ⟨pk, hpk⟩ : ∃ pk, r.peer k = pk := ⟨_, rfl⟩
  have hp' : r.peer k ≠ -1 := hp
  rw [hpk] at cpk hp'
  have hb : (pk == -1) = false := by simpa using hp'
  have hwrap : IntKind.i64.wrap (r.version + 1) = r.version + 1 := by rw [IntKind.wrap_i64]; have := hch.1.1.1; omega
  clear hch hp hp' hpk
  go_enter Try.func40, Try.ntmps40
  go_upto_region 5 with (first | ((with_reducible refine ros_alloc rfl rfl ?_)) | ((with_reducible refine ros_load rfl rfl ?_); apply LoadRow.mk rfl; (focus (with_reducible exact P0.out)); (focus (exact ros_info))) | (go_at_call 87; ((with_reducible refine ((cc _).out).mono ?_); rintro e w1 ⟨rfl, hb⟩; have Q0 := Lib.hid (P0.out.below hb P0.out.lt); have Q1 := Lib.hid (P1.out.below hb P1.out.lt); have QB := Lib.hid (PB.out.trans (hb.mono PB.out.size)); have q0 := Q0.out.cell; have qf := Q0.out.free; clear hb)))
  obtain ⟨U, hU⟩ : ∃ U, U = (w1.setCell ⟨w.heap.size, 1 + k * 2, none⟩ (.int .i64 (-1))).setCell ⟨w.heap.size, 0, none⟩ (.int .i64 (r.version + 1)) := ⟨_, rfl⟩
  have U0 : Box U w.heap.size 51 (Ros.cells (Ros.give r k)) := by rw [hU]; exact (Q0.out.rosp hk (-1)).rosv _
  have U1 : Box U (w.heap.size + 1) 51 (Ros.cells rosZero) := by rw [hU]; exact (Q1.out.far (by show _ ≠ _; simp) _).far (by show _ ≠ _; simp) _
  have UB : Below w.heap.size w U := by rw [hU]; exact (QB.out.setCell (Nat.le_refl _) _).setCell (Nat.le_refl _) _
  rw [← hU]
  have V0 := Lib.hid U0
  have V1 := Lib.hid U1
  have VB := Lib.hid UB
  clear hU U0 U1 UB Q0 Q1 QB q0 qf
  go_wp2_with (first | ((with_reducible refine ros_load rfl rfl ?_); apply LoadRow.mk rfl; (focus (with_reducible exact V0.out)); (focus (exact ros_info))) | ((with_reducible refine ros_store rfl rfl ?_); apply StoreRow.mk rfl rfl; (focus (with_reducible exact V1.out)); (focus (exact ros_info)); (focus rfl); (focus (exact ros_one _))))
  have hE := V1.out.row (Ros.cells (Ros.give r k))
  refine bodyPost_ret (v := .tuple #[.agg (Ros.cells (Ros.give r k)), .int .i64 0]) ?_ rfl ?_
  · exact results_cell_tmp (p := 4) (q := 5) rfl _ _ _ _ (Ros.cells (Ros.give r k)) _ rfl hE Try.underlying51 rfl ros_info
  · exact ⟨rfl, Below.setRow' VB.out (by omega) _⟩

set_option maxRecDepth 100000 in
set_option maxHeartbeats 2000000 in
theorem rostake_no (r : Ros.R) (s p : Int) (w : World) (hno : ¬ Ros.MayTake r s p) :
    Calls Try.prog 41 #[.agg (Ros.cells r), .int .i64 s, .int .i64 p] w fun e w' => e = .returned (.tuple #[.agg (Ros.cells r), .int .i64 1]) ∧ Below w.heap.size w w' := by
  have cc := fun X => Lib.hid (roschange_any r s X)
  have cp := fun X => Lib.hid (rospeer_any p X)
  have co := fun X => Lib.hid (rosof_any r p X)
  have P0 := Lib.hid ((Box.made w 51 (Ros.cells r)).alloc (.cells (Ros.cells rosZero) 51))
  have P1 := Lib.hid (Box.made_at (n := w.heap.size + 1) (w.alloc (.cells (Ros.cells r) 51)) 51 (Ros.cells rosZero) (by simp))
  have PB := Lib.hid (two_below' w (.cells (Ros.cells r) 51) (.cells (Ros.cells rosZero) 51))
  have c0 := Ros.cells_0 r
  by_cases hch : (Ros.Ok r ∧ r.version < 1073741824) ∧ 0 ≤ s ∧ s < 8
  · rw [decide_eq_true hch] at cc
    by_cases hp : 0 ≤ p ∧ p < 12
    · rw [decide_eq_true hp] at cp
      by_cases ho : Ros.of r p = -1
      · rw [ho] at co
        obtain ⟨k, rfl⟩ : ∃ k : Nat, s = k := ⟨s.toNat, by omega⟩
        have hk : k < 8 := by omega
        have hk8 : (k : Int) < 8 := by omega
        have cpk := Ros.cells_peer r k hk
        have cgk := Ros.cells_gen r k hk
        by_cases hpk : r.peer k = -1
        · have hgk : r.gen k = 60000 := Decidable.byContradiction fun h => hno ⟨⟨hch, hp, ho⟩, hpk, h⟩
          rw [hpk] at cpk
          rw [hgk] at cgk
          clear hno hch hp ho hpk hgk
          go_enter Try.func41, Try.ntmps41
          go_wp2_with (first | ((with_reducible refine ros_alloc rfl rfl ?_)) | ((with_reducible refine ros_load rfl rfl ?_); apply LoadRow.mk rfl; (focus (with_reducible exact P0.out)); (focus (exact ros_info))) | (go_at_call 87; ((with_reducible refine ((cc _).out).mono ?_); rintro e w1 ⟨rfl, hb⟩; have Q0 := Lib.hid (P0.out.below hb P0.out.lt); have Q1 := Lib.hid (P1.out.below hb P1.out.lt); have QB := Lib.hid (PB.out.trans (hb.mono PB.out.size)); have q0 := Q0.out.cell; have qf := Q0.out.free; clear hb)) | (go_at_call 86; ((with_reducible refine ((cp _).out).mono ?_); rintro e w9 ⟨rfl, rfl⟩)) | (go_at_call 38; ((with_reducible refine ((co _).out).mono ?_); rintro e w2 ⟨rfl, hb⟩; have S0 := Lib.hid (Q0.out.below hb Q0.out.lt); have S1 := Lib.hid (Q1.out.below hb Q1.out.lt); have SB := Lib.hid (QB.out.trans (hb.mono QB.out.size)); have s0 := S0.out.cell; have sf := S0.out.free; clear hb)) | ((with_reducible refine ros_load_g ?_ rfl ?_); (focus first | rfl | kernel_rfl | simp [Region.wanted, yielded]); apply LoadRow.mk rfl; (focus (with_reducible exact Q0.out)); (focus (exact ros_info))) | ((with_reducible refine ros_load rfl rfl ?_); apply LoadRow.mk rfl; (focus (with_reducible exact S0.out)); (focus (exact ros_info))) | ((with_reducible refine ros_store rfl rfl ?_); apply StoreRow.mk rfl rfl; (focus (with_reducible exact S1.out)); (focus (exact ros_info)); (focus rfl); (focus (exact ros_one _))))
          have hE := S1.out.row (Ros.cells r)
          refine bodyPost_ret (v := .tuple #[.agg (Ros.cells r), .int .i64 1]) ?_ rfl ?_
          · exact results_cell_tmp (p := 6) (q := 7) rfl _ _ _ _ (Ros.cells r) _ rfl hE Try.underlying51 rfl ros_info
          · exact ⟨rfl, Below.setRow' SB.out (by omega) _⟩
        · obtain ⟨pk, hpe⟩ : ∃ pk, r.peer k = pk := ⟨_, rfl⟩
          rw [hpe] at cpk hpk
          have hb : (pk == -1) = false := by simpa using hpk
          have hb' : (pk != -1) = true := by simpa using hpk
          clear hno hch hp ho hpk hpe
          go_enter Try.func41, Try.ntmps41
          go_wp2_with (first | ((with_reducible refine ros_alloc rfl rfl ?_)) | ((with_reducible refine ros_load rfl rfl ?_); apply LoadRow.mk rfl; (focus (with_reducible exact P0.out)); (focus (exact ros_info))) | (go_at_call 87; ((with_reducible refine ((cc _).out).mono ?_); rintro e w1 ⟨rfl, hb⟩; have Q0 := Lib.hid (P0.out.below hb P0.out.lt); have Q1 := Lib.hid (P1.out.below hb P1.out.lt); have QB := Lib.hid (PB.out.trans (hb.mono PB.out.size)); have q0 := Q0.out.cell; have qf := Q0.out.free; clear hb)) | (go_at_call 86; ((with_reducible refine ((cp _).out).mono ?_); rintro e w9 ⟨rfl, rfl⟩)) | (go_at_call 38; ((with_reducible refine ((co _).out).mono ?_); rintro e w2 ⟨rfl, hb⟩; have S0 := Lib.hid (Q0.out.below hb Q0.out.lt); have S1 := Lib.hid (Q1.out.below hb Q1.out.lt); have SB := Lib.hid (QB.out.trans (hb.mono QB.out.size)); have s0 := S0.out.cell; have sf := S0.out.free; clear hb)) | ((with_reducible refine ros_load_g ?_ rfl ?_); (focus first | rfl | kernel_rfl | simp [Region.wanted, yielded]); apply LoadRow.mk rfl; (focus (with_reducible exact Q0.out)); (focus (exact ros_info))) | ((with_reducible refine ros_load rfl rfl ?_); apply LoadRow.mk rfl; (focus (with_reducible exact S0.out)); (focus (exact ros_info))) | ((with_reducible refine ros_store rfl rfl ?_); apply StoreRow.mk rfl rfl; (focus (with_reducible exact S1.out)); (focus (exact ros_info)); (focus rfl); (focus (exact ros_one _))))
          have hE := S1.out.row (Ros.cells r)
          refine bodyPost_ret (v := .tuple #[.agg (Ros.cells r), .int .i64 1]) ?_ rfl ?_
          · exact results_cell_tmp (p := 6) (q := 7) rfl _ _ _ _ (Ros.cells r) _ rfl hE Try.underlying51 rfl ros_info
          · exact ⟨rfl, Below.setRow' SB.out (by omega) _⟩
      · have hb' : (Ros.of r p != -1) = true := by simpa using ho
        generalize Ros.of r p = o at co hb'
        clear hno hch hp ho
        go_enter Try.func41, Try.ntmps41
        go_wp2_with (first | ((with_reducible refine ros_alloc rfl rfl ?_)) | ((with_reducible refine ros_load rfl rfl ?_); apply LoadRow.mk rfl; (focus (with_reducible exact P0.out)); (focus (exact ros_info))) | (go_at_call 87; ((with_reducible refine ((cc _).out).mono ?_); rintro e w1 ⟨rfl, hb⟩; have Q0 := Lib.hid (P0.out.below hb P0.out.lt); have Q1 := Lib.hid (P1.out.below hb P1.out.lt); have QB := Lib.hid (PB.out.trans (hb.mono PB.out.size)); have q0 := Q0.out.cell; have qf := Q0.out.free; clear hb)) | (go_at_call 86; ((with_reducible refine ((cp _).out).mono ?_); rintro e w9 ⟨rfl, rfl⟩)) | (go_at_call 38; ((with_reducible refine ((co _).out).mono ?_); rintro e w2 ⟨rfl, hb⟩; have S0 := Lib.hid (Q0.out.below hb Q0.out.lt); have S1 := Lib.hid (Q1.out.below hb Q1.out.lt); have SB := Lib.hid (QB.out.trans (hb.mono QB.out.size)); have s0 := S0.out.cell; have sf := S0.out.free; clear hb)) | ((with_reducible refine ros_load_g ?_ rfl ?_); (focus first | rfl | kernel_rfl | simp [Region.wanted, yielded]); apply LoadRow.mk rfl; (focus (with_reducible exact Q0.out)); (focus (exact ros_info))) | ((with_reducible refine ros_load rfl rfl ?_); apply LoadRow.mk rfl; (focus (with_reducible exact S0.out)); (focus (exact ros_info))) | ((with_reducible refine ros_store rfl rfl ?_); apply StoreRow.mk rfl rfl; (focus (with_reducible exact S1.out)); (focus (exact ros_info)); (focus rfl); (focus (exact ros_one _))))
        have hE := S1.out.row (Ros.cells r)
        refine bodyPost_ret (v := .tuple #[.agg (Ros.cells r), .int .i64 1]) ?_ rfl ?_
        · exact results_cell_tmp (p := 6) (q := 7) rfl _ _ _ _ (Ros.cells r) _ rfl hE Try.underlying51 rfl ros_info
        · exact ⟨rfl, Below.setRow' SB.out (by omega) _⟩
    · rw [decide_eq_false hp] at cp
      clear hno hch hp
      go_enter Try.func41, Try.ntmps41
      go_wp2_with (first | ((with_reducible refine ros_alloc rfl rfl ?_)) | ((with_reducible refine ros_load rfl rfl ?_); apply LoadRow.mk rfl; (focus (with_reducible exact P0.out)); (focus (exact ros_info))) | (go_at_call 87; ((with_reducible refine ((cc _).out).mono ?_); rintro e w1 ⟨rfl, hb⟩; have Q0 := Lib.hid (P0.out.below hb P0.out.lt); have Q1 := Lib.hid (P1.out.below hb P1.out.lt); have QB := Lib.hid (PB.out.trans (hb.mono PB.out.size)); have q0 := Q0.out.cell; have qf := Q0.out.free; clear hb)) | (go_at_call 86; ((with_reducible refine ((cp _).out).mono ?_); rintro e w9 ⟨rfl, rfl⟩)) | ((with_reducible refine ros_load rfl rfl ?_); apply LoadRow.mk rfl; (focus (with_reducible exact Q0.out)); (focus (exact ros_info))) | ((with_reducible refine ros_store rfl rfl ?_); apply StoreRow.mk rfl rfl; (focus (with_reducible exact Q1.out)); (focus (exact ros_info)); (focus rfl); (focus (exact ros_one _))))
      have hE := Q1.out.row (Ros.cells r)
      refine bodyPost_ret (v := .tuple #[.agg (Ros.cells r), .int .i64 1]) ?_ rfl ?_
      · exact results_cell_tmp (p := 6) (q := 7) rfl _ _ _ _ (Ros.cells r) _ rfl hE Try.underlying51 rfl ros_info
      · exact ⟨rfl, Below.setRow' QB.out (by omega) _⟩
  · rw [decide_eq_false hch] at cc
    clear hch hno
    go_enter Try.func41, Try.ntmps41
    go_wp2_with (first | ((with_reducible refine ros_alloc rfl rfl ?_)) | ((with_reducible refine ros_load rfl rfl ?_); apply LoadRow.mk rfl; (focus (with_reducible exact P0.out)); (focus (exact ros_info))) | (go_at_call 87; ((with_reducible refine ((cc _).out).mono ?_); rintro e w1 ⟨rfl, hb⟩; have Q0 := Lib.hid (P0.out.below hb P0.out.lt); have Q1 := Lib.hid (P1.out.below hb P1.out.lt); have QB := Lib.hid (PB.out.trans (hb.mono PB.out.size)); have q0 := Q0.out.cell; have qf := Q0.out.free; clear hb)) | ((with_reducible refine ros_load rfl rfl ?_); apply LoadRow.mk rfl; (focus (with_reducible exact Q0.out)); (focus (exact ros_info))) | ((with_reducible refine ros_store rfl rfl ?_); apply StoreRow.mk rfl rfl; (focus (with_reducible exact Q1.out)); (focus (exact ros_info)); (focus rfl); (focus (exact ros_one _))))
    have hE := Q1.out.row (Ros.cells r)
    refine bodyPost_ret (v := .tuple #[.agg (Ros.cells r), .int .i64 1]) ?_ rfl ?_
    · exact results_cell_tmp (p := 6) (q := 7) rfl _ _ _ _ (Ros.cells r) _ rfl hE Try.underlying51 rfl ros_info
    · exact ⟨rfl, Below.setRow' QB.out (by omega) _⟩

set_option maxRecDepth 100000 in
set_option maxHeartbeats 2000000 in
theorem rostake_yes (r : Ros.R) (k : Nat) (p : Int) (w : World) (hyes : Ros.MayTake r k p) :
    Calls Try.prog 41 #[.agg (Ros.cells r), .int .i64 k, .int .i64 p] w fun e w' => e = .returned (.tuple #[.agg (Ros.cells (Ros.take r k p)), .int .i64 0]) ∧ Below w.heap.size w w' := by
  have cc := fun X => Lib.hid (roschange_any r k X)
  have cp := fun X => Lib.hid (rospeer_any p X)
  have co := fun X => Lib.hid (rosof_any r p X)
  have P0 := Lib.hid ((Box.made w 51 (Ros.cells r)).alloc (.cells (Ros.cells rosZero) 51))
  have P1 := Lib.hid (Box.made_at (n := w.heap.size + 1) (w.alloc (.cells (Ros.cells r) 51)) 51 (Ros.cells rosZero) (by simp))
  have PB := Lib.hid (two_below' w (.cells (Ros.cells r) 51) (.cells (Ros.cells rosZero) 51))
  have c0 := Ros.cells_0 r
  obtain ⟨⟨hch, hp, ho⟩, hpk, hgk⟩ := hyes
  rw [decide_eq_true hch] at cc
  rw [decide_eq_true hp] at cp
  rw [ho] at co
  have hk : k < 8 := by omega
  have hk8 : (k : Int) < 8 := by omega
  have cpk := Ros.cells_peer r k hk
  have cgk := Ros.cells_gen r k hk
  rw [show r.peer k = -1 from hpk] at cpk
  have hgk' : r.gen k ≠ 60000 := hgk
  have hgb := (Ros.Ok.seat hch.1.1 k hk).1
  obtain ⟨gk, hge⟩ : ∃ gk, r.gen k = gk := ⟨_, rfl⟩
  have HGE := Lib.hid hge
  rw [hge] at cgk hgk' hgb
  have hb : (gk == 60000) = false := by simpa using hgk'
  have hwg : IntKind.i64.wrap (gk + 1) = gk + 1 := by rw [IntKind.wrap_i64]; omega
  have hwrap : IntKind.i64.wrap (r.version + 1) = r.version + 1 := by rw [IntKind.wrap_i64]; have := hch.1.1.1; omega
  clear hch hp ho hpk hgk hgk' hge hgb
  go_enter Try.func41, Try.ntmps41
  go_upto_region 9 with (first | ((with_reducible refine ros_alloc rfl rfl ?_)) | ((with_reducible refine ros_load rfl rfl ?_); apply LoadRow.mk rfl; (focus (with_reducible exact P0.out)); (focus (exact ros_info))) | (go_at_call 87; ((with_reducible refine ((cc _).out).mono ?_); rintro e w1 ⟨rfl, hb⟩; have Q0 := Lib.hid (P0.out.below hb P0.out.lt); have Q1 := Lib.hid (P1.out.below hb P1.out.lt); have QB := Lib.hid (PB.out.trans (hb.mono PB.out.size)); have q0 := Q0.out.cell; have qf := Q0.out.free; clear hb)) | (go_at_call 86; ((with_reducible refine ((cp _).out).mono ?_); rintro e w9 ⟨rfl, rfl⟩)) | (go_at_call 38; ((with_reducible refine ((co _).out).mono ?_); rintro e w2 ⟨rfl, hb⟩; have S0 := Lib.hid (Q0.out.below hb Q0.out.lt); have S1 := Lib.hid (Q1.out.below hb Q1.out.lt); have SB := Lib.hid (QB.out.trans (hb.mono QB.out.size)); have s0 := S0.out.cell; have sf := S0.out.free; clear hb)) | ((with_reducible refine ros_load_g ?_ rfl ?_); (focus first | rfl | kernel_rfl | simp [Region.wanted, yielded]); apply LoadRow.mk rfl; (focus (with_reducible exact Q0.out)); (focus (exact ros_info))))
  obtain ⟨U, hU⟩ : ∃ U, U = ((w2.setCell ⟨w.heap.size, 1 + k * 2, none⟩ (.int .i64 p)).setCell ⟨w.heap.size, 1 + k * 2 + 1, none⟩ (.int .i64 (gk + 1))).setCell ⟨w.heap.size, 0, none⟩ (.int .i64 (r.version + 1)) := ⟨_, rfl⟩
  have U0 : Box U w.heap.size 51 (Ros.cells (Ros.take r k p)) := by rw [hU]; unfold Ros.take; rw [HGE.out]; exact ((S0.out.rosp hk p).rosg hk _).rosv _
  have U1 : Box U (w.heap.size + 1) 51 (Ros.cells rosZero) := by rw [hU]; exact ((S1.out.far (by show _ ≠ _; simp) _).far (by show _ ≠ _; simp) _).far (by show _ ≠ _; simp) _
  have UB : Below w.heap.size w U := by rw [hU]; exact ((SB.out.setCell (Nat.le_refl _) _).setCell (Nat.le_refl _) _).setCell (Nat.le_refl _) _
  rw [← hU]
  have V0 := Lib.hid U0
  have V1 := Lib.hid U1
  have VB := Lib.hid UB
  clear hU U0 U1 UB S0 S1 SB s0 sf Q0 Q1 QB q0 qf
  go_wp2_with (first | ((with_reducible refine ros_load rfl rfl ?_); apply LoadRow.mk rfl; (focus (with_reducible exact V0.out)); (focus (exact ros_info))) | ((with_reducible refine ros_store rfl rfl ?_); apply StoreRow.mk rfl rfl; (focus (with_reducible exact V1.out)); (focus (exact ros_info)); (focus rfl); (focus (exact ros_one _))))
  have hE := V1.out.row (Ros.cells (Ros.take r k p))
  refine bodyPost_ret (v := .tuple #[.agg (Ros.cells (Ros.take r k p)), .int .i64 0]) ?_ rfl ?_
  · exact results_cell_tmp (p := 6) (q := 7) rfl _ _ _ _ (Ros.cells (Ros.take r k p)) _ rfl hE Try.underlying51 rfl ros_info
  · exact ⟨rfl, Below.setRow' VB.out (by omega) _⟩
end Go.Proofs.Ytbpipkcdbcfenaa
