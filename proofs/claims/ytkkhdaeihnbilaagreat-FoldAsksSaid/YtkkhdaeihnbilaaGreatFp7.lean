/-
Several texts in one: Te Hv Sb Hx Rm Tf Tg Th.
-/
import Derived.Test.YtkkhdaeihnbilaaGreatFp6
namespace Go.Proofs.YtkkhdaeihnbilaaGreat
open Go.RowKit Go.Shelf
set_option linter.unusedVariables false
set_option linter.unusedSimpArgs false
attribute [local go_sem] Oper.semAt_some
/-- The roster of New on its way. -/
def clearSt (l : List Ros.Sl) : Ros.R := l.foldl (fun r x => { r with peer := Ros.upd r.peer x.1 (-1) }) rosZero
theorem clearSt_snoc (l : List Ros.Sl) (x : Ros.Sl) : clearSt (l ++ [x]) = { clearSt l with peer := Ros.upd (clearSt l).peer x.1 (-1) } := by
  unfold clearSt; rw [List.foldl_append]; rfl
theorem clearSt_all : Ros.cells (clearSt Ros.all8) = Ros.cells Ros.new := rfl

set_option maxRecDepth 100000 in
set_option maxHeartbeats 4000000 in
theorem rosnew_any (w : World) :
    Calls Tryz.prog 44 #[] w fun e w' => e = .returned (.agg (Ros.cells Ros.new)) ∧ Below w.heap.size w w' := by
  refine (callsIn_wide (n := 10)).1 (callsIn_of_wp_marks Tryz.func44 rfl trivial (wpIn_wide.2 ?_) rfl)
  simp only [Tryz.ntmps44, List.size_toArray, List.length_cons, List.length_nil, Nat.reduceAdd, Nat.reduceSub, Array.replicate_succ, Array.replicate_zero, List.push_toArray, List.append_toArray, List.nil_append, List.cons_append]
  go_upto_block 0 with (first | ((with_reducible refine ros_alloc rfl rfl ?_)) | (go_at_call 55; ((with_reducible refine (seats_any _ _).mono ?_); rintro e w3 ⟨rfl, rfl⟩)))
  have M0 : Sit (w.heap.size + 1) (w.heap.size + 1 + 1) w (clearSt []) (((w.alloc (.cells (Ros.cells rosZero) 33)).alloc (.cells (Ros.cells rosZero) 33)).alloc (.cells #[.pointer (some ⟨w.heap.size + 1, 0, none⟩)] 95)) ∧ Box (((w.alloc (.cells (Ros.cells rosZero) 33)).alloc (.cells (Ros.cells rosZero) 33)).alloc (.cells #[.pointer (some ⟨w.heap.size + 1, 0, none⟩)] 95)) w.heap.size 33 (Ros.cells rosZero) :=
    ⟨⟨(Box.made_at _ _ _ (by simp)).alloc _, Box.made_at _ _ _ (by simp), (((Below.refl _ _).alloc (Nat.le_refl _) _).alloc (by simp) _).alloc (by simp <;> omega) _⟩, ((Box.made w _ _).alloc _).alloc _⟩
  generalize hW0 : (((w.alloc (.cells (Ros.cells rosZero) 33)).alloc _).alloc _) = W0 at M0 ⊢
  have MM0 := Lib.hid M0
  have hs0 : Sitting (w.heap.size + 1) (w.heap.size + 1 + 1) W0 := M0.1.sit.cell 0
  clear hW0 M0
  refine (wpIn_wide (n := 10)).1 ?_
  refine wpIn_block ?_
  refine' wpIn_rangeFunc_ownF (n := 10) (w := W0) rfl (by omega) (gf := 93) (lb := #[.pointer (some ⟨w.heap.size + 1 + 1, 0, none⟩)]) rfl trivial (enters_of Tryz.func93 (by kernel_rfl) rfl)
    (seats1_stops (w.heap.size + 1) (w.heap.size + 1 + 1) _ W0 hs0) sitkp_t (sitkp_b (n := W0.heap.size)) (Below.refl _ _) (fun _ => rfl)
    (fun pre W => Sit (w.heap.size + 1) (w.heap.size + 1 + 1) w (clearSt pre) W ∧ Box W w.heap.size 33 (Ros.cells rosZero))
    (fun c pre W => False)
    (fun pre W W' row h hgr hr => ⟨h.1.turned hgr (fun r e => ⟨Nat.le_trans MM0.out.1.below.size (hr r e).1, (hr r e).2⟩), h.2.turned hgr (fun r e => (hr r e).2)⟩)
    (fun c pre W W' row h hgr hr => h)
    MM0.out _ ?assign ?body ?done ?stop
  case assign =>
    intro l x W K hK
    gi_wp2
    exact hK
  case body =>
    rintro l pre ⟨k, hk⟩ W ⟨hM, hR⟩ hlen
    have hk8 : (k : Int) < 8 := by omega
    have rp := Ros.cells_peer (clearSt pre) k hk
    have rc := hM.ros.cell
    have rf := hM.ros.free
    have HM := Lib.hid hM
    have HR := Lib.hid hR
    clear hM hR hlen
    gi_wp2
    have hset := HM.out.ros.put (1 + k * 2) (.int .i64 (-1))
    rw [Ros.cells_setp _ k hk] at hset
    refine ⟨KeepsOthers.setCell _ _ _, fun h => (World.cell?_of_block (heap_setCell_other _ _ _ _ (by show w.heap.size + 1 + 1 ≠ w.heap.size + 1; omega))).trans h, ⟨?_, HM.out.sit.far (by show _ ≠ _; simp) _, HM.out.below.setCell (by simp) _⟩, HR.out.far (by show _ ≠ _; simp) _⟩
    rw [clearSt_snoc]
    exact hset
  case done =>
    rintro D xs W hD rfl ⟨hM, hR⟩ hK
    have hDw : w.heap.size + 1 + 1 < D := Nat.lt_of_lt_of_le MM0.out.1.sit.lt hD
    have BR := Lib.hid (show Box W (w.heap.size + 1) 33 (Ros.cells Ros.new) from clearSt_all ▸ hM.ros)
    have BZ := Lib.hid hR
    have HB := Lib.hid (Below.setRow' hM.below (Nat.le_refl _) (Ros.cells Ros.new))
    have hne : D ≠ w.heap.size := by omega
    have HK := Lib.hid (show (W.setRow w.heap.size (Ros.cells Ros.new)).heap[D]? = some (.deferred (some [])) from (setRow_other W w.heap.size D _ hne).trans hK)
    clear hM hR hK
    go_wp2_with (first | ((with_reducible refine ros_load rfl rfl ?_); apply LoadRow.mk rfl; (focus (with_reducible exact BR.out)); (focus (exact ros_info))) | ((with_reducible refine ros_store rfl rfl ?_); apply StoreRow.mk rfl rfl; (focus (with_reducible exact BZ.out)); (focus (exact ros_info)); (focus rfl); (focus (exact ros_one _))))
    refine ⟨by simp, .inl ⟨_, _, rfl, run_takeDeferred HK.out, ?_⟩⟩
    have R6 := (BZ.out.row (Ros.cells Ros.new)).turned (grownBy_putObj' _ D (.deferred none)) (fun r e => by cases e; exact ⟨_, HK.out, rfl⟩)
    refine ⟨.agg (Ros.cells Ros.new), ?_, rfl, Below.turned HB.out (Nat.le_refl _) (grownBy_putObj' _ D (.deferred none)) (fun r e => by cases e; omega)⟩
    exact results_cell_row rfl _ _ _ _ (Ros.cells Ros.new) (0, 0) _ rfl R6.is Tryz.underlying33 rfl ros_info
  case stop =>
    rintro D c' pre W hD _ hf hK
    exact hf.elim

set_option maxRecDepth 100000 in
set_option maxHeartbeats 4000000 in
theorem rosof_any (r : Ros.R) (p : Int) (w : World) :
    Calls Tryz.prog 84 #[.agg (Ros.cells r), .int .i64 p] w fun e w' => e = .returned (.int .i64 (Ros.of r p)) ∧ Below w.heap.size w w' := by
  have cm := fun X => Lib.hid (rosmay_any r X)
  have cp := fun X => Lib.hid (rospeer_any p X)
  have B0 := ((Box.made w 33 (Ros.cells r)).alloc (.cells #[.int .i64 p] 3)).alloc (.cells #[.int .i64 0] 3)
  have B1 := (Box.made_at (n := w.heap.size + 1) (w.alloc (.cells (Ros.cells r) 33)) 3 #[.int .i64 p] (by simp)).alloc (.cells #[.int .i64 0] 3)
  have B2 := Box.made_at (n := w.heap.size + 1 + 1) ((w.alloc (.cells (Ros.cells r) 33)).alloc (.cells #[.int .i64 p] 3)) 3 #[.int .i64 0] (by simp)
  have b0 := (((Below.refl w.heap.size w).alloc (Nat.le_refl _) (.cells (Ros.cells r) 33)).alloc (by simp) (.cells #[.int .i64 p] 3)).alloc (by simp <;> omega) (.cells #[.int .i64 0] 3)
  have P0 := Lib.hid B0
  have P1 := Lib.hid B1
  have P2 := Lib.hid B2
  have PB := Lib.hid b0
  clear B0 B1 B2 b0
  have hof : Hid (Ros.of r p = if Ros.Ok r ∧ 0 ≤ p ∧ p < 12 then Ros.seatOf r p Ros.all8 else -1) := Lib.hid rfl
  by_cases hok : Ros.Ok r
  · have hmay : Ros.may r = true := decide_eq_true hok
    rw [hmay] at cm
    by_cases hp : 0 ≤ p ∧ p < 12
    · rw [decide_eq_true hp] at cp
      have HIF := Lib.hid (hof.out.trans (if_pos ⟨hok, hp⟩))
      clear hof hok hmay
      refine (callsIn_wide (n := 10)).1 (callsIn_of_wp_marks Tryz.func84 rfl trivial (wpIn_wide.2 ?_) rfl)
      simp only [Tryz.ntmps84, List.size_toArray, List.length_cons, List.length_nil, Nat.reduceAdd, Nat.reduceSub, Array.replicate_succ, Array.replicate_zero, List.push_toArray, List.append_toArray, List.nil_append, List.cons_append]
      go_upto_block 0 with (first | ((with_reducible refine ros_load rfl rfl ?_); apply LoadRow.mk rfl; (focus (with_reducible exact P0.out)); (focus (exact ros_info))) | (go_at_call 54; ((with_reducible refine ((cm _).out).mono ?_); rintro e w1 ⟨rfl, hb1⟩; have Q0 := Lib.hid (P0.out.below hb1 (by have := P0.out.lt; simp at this ⊢ <;> omega)); have Q1 := Lib.hid (P1.out.below hb1 (by have := P1.out.lt; simp at this ⊢ <;> omega)); have Q2 := Lib.hid (P2.out.below hb1 (by have := P2.out.lt; simp at this ⊢ <;> omega)); have QB := Lib.hid (PB.out.trans (hb1.mono PB.out.size)); have q1 := Q1.out.cell; have q2 := Q2.out.cell; have f2 := Q2.out.free; clear hb1)) | (go_at_call 83; ((with_reducible refine ((cp _).out).mono ?_); rintro e w2 ⟨rfl, rfl⟩)) | (go_at_call 55; ((with_reducible refine (seats_any _ _).mono ?_); rintro e w3 ⟨rfl, rfl⟩)))
      have M0 : Sit w.heap.size w1.heap.size w r (w1.alloc (.cells #[.pointer (some ⟨w.heap.size, 0, none⟩)] 95)) ∧ Box (w1.alloc (.cells #[.pointer (some ⟨w.heap.size, 0, none⟩)] 95)) (w.heap.size + 1) 3 #[.int .i64 p] ∧ Box (w1.alloc (.cells #[.pointer (some ⟨w.heap.size, 0, none⟩)] 95)) (w.heap.size + 1 + 1) 3 #[.int .i64 0] :=
        ⟨⟨Q0.out.alloc _, Box.made _ _ _, QB.out.alloc QB.out.size _⟩, Q1.out.alloc _, Q2.out.alloc _⟩
      have bgw : w.heap.size + 1 + 1 < w1.heap.size := Q2.out.lt
      generalize hW0 : (w1.alloc (.cells #[.pointer (some ⟨w.heap.size, 0, none⟩)] 95)) = W0 at M0 ⊢
      generalize w1.heap.size = Bg at *
      have MM0 := Lib.hid M0
      have hs0 : Sitting w.heap.size Bg W0 := M0.1.sit.cell 0
      have HP := Lib.hid hp
      clear hW0 M0 P0 P1 P2 PB Q0 Q1 Q2 QB q1 q2 f2 cm cp hp
      refine (wpIn_wide (n := 10)).1 ?_
      refine wpIn_block ?_
      refine' wpIn_rangeFunc_ownF (n := 10) (w := W0) rfl (by omega) (gf := 93) (lb := #[.pointer (some ⟨Bg, 0, none⟩)]) rfl trivial (enters_of Tryz.func93 (by kernel_rfl) rfl)
        (seats1_stops (w.heap.size) (Bg) _ W0 hs0) sitkp_t (sitkp_b (n := W0.heap.size)) (Below.refl _ _) (fun _ => rfl)
        (fun pre W => (Sit w.heap.size Bg w r W ∧ Box W (w.heap.size + 1) 3 #[.int .i64 p] ∧ Box W (w.heap.size + 1 + 1) 3 #[.int .i64 0]) ∧ ∀ y ∈ pre, r.peer y.1 ≠ p)
        (fun c pre W => c = .ret ∧ ∃ (pre' : List Ros.Sl) (x : Ros.Sl), pre = pre' ++ [x] ∧ (∀ y ∈ pre', r.peer y.1 ≠ p) ∧ r.peer x.1 = p ∧ Box W (w.heap.size + 1 + 1) 3 #[.int .i64 x.1] ∧ Below w.heap.size w W)
        (fun pre W W' row h hgr hr => ⟨⟨h.1.1.turned hgr (fun r e => ⟨Nat.le_trans MM0.out.1.below.size (hr r e).1, (hr r e).2⟩), h.1.2.1.turned hgr (fun r e => (hr r e).2), h.1.2.2.turned hgr (fun r e => (hr r e).2)⟩, h.2⟩)
        (fun c pre W W' row h hgr hr => (by
          obtain ⟨h0, pre', x, h1, h2, h3, h4, h5⟩ := h
          exact ⟨h0, pre', x, h1, h2, h3, h4.turned hgr (fun r e => (hr r e).2), Below.turned h5 (Nat.le_refl _) hgr (fun r e => Nat.le_trans MM0.out.1.below.size (hr r e).1)⟩))
        ⟨MM0.out, by simp⟩ _ ?assign ?body ?done ?stop
      case assign =>
        intro l x W K hK
        gi_wp2
        exact hK
      case body =>
        rintro l pre ⟨k, hk⟩ V ⟨⟨hM, hP, hR⟩, hpre⟩ hlen
        dsimp only
        have hk8 : (k : Int) < 8 := by omega
        have y0 := Ros.cells_peer r k hk
        have z0 : ∀ q : Ext V.heap.size V, q.w.cell? ⟨w.heap.size, 1 + k * 2, none⟩ = some (.int .i64 (r.peer k)) := fun q => q.cell hM.ros.lt ((hM.ros.cell _).trans y0)
        have z1 : ∀ q : Ext V.heap.size V, q.w.cell? ⟨w.heap.size + 1, 0, none⟩ = some (.int .i64 p) := fun q => q.cell hP.lt (hP.cell 0)
        obtain ⟨pk, hpk⟩ : ∃ pk, r.peer k = pk := ⟨_, rfl⟩
        rw [hpk] at z0
        have HM := Lib.hid hM
        have HPP := Lib.hid hP
        have HR := Lib.hid hR
        have HPRE := Lib.hid hpre
        have HPK := Lib.hid hpk
        clear hM hP hR hpre hpk y0 hlen
        refine wpIn_block ?_
        refine wpIn_seq_k ?_
        intro K hK
        by_cases he : pk = p
        · subst he
          have hb : (pk == pk) = true := by simp
          clear HPP
          refine Rt.region_ext V.heap.size V (by kernel_rfl) (by kernel_rfl) (by kernel_rfl) (by rintro ⟨_, _, h⟩; exact h) (Below.refl _ _) ?_
          repeat (go_big_quiet_step (fail))
          refine wpQuiet_nil ?_
          intro _ hw'
          obtain ⟨q, hw''⟩ := hw'
          subst hw''
          refine hK _ _ ?_
          have r2 := (HR.out.below q.h HR.out.lt)
          have q2 := r2.cell
          have f2 := r2.free
          have R2 := Lib.hid r2
          clear r2
          gi_wp2
          first
            | exact ⟨(below_others q.h).trans (KeepsOthers.setCell _ _ _), rfl, pre, ⟨k, hk⟩, rfl, HPRE.out, HPK.out, R2.out.put 0 _, (HM.out.call q.h).below.setCell (by simp <;> omega) _⟩
            | exact ⟨(below_others q.h).trans (KeepsOthers.setCell _ _ _), rfl, pre, k, ⟨hk, rfl⟩, fun a hb hm => HPRE.out ⟨a, hb⟩ hm, HPK.out, R2.out.put 0 _, (HM.out.call q.h).below.setCell (by simp <;> omega) _⟩
        · have hb : (pk == p) = false := by simpa using he
          refine Rt.region_ext V.heap.size V (by kernel_rfl) (by kernel_rfl) (by kernel_rfl) (by rintro ⟨_, _, h⟩; exact h) (Below.refl _ _) ?_
          repeat (go_big_quiet_step (fail))
          refine wpQuiet_nil ?_
          intro _ hw'
          obtain ⟨q, hw''⟩ := hw'
          subst hw''
          refine hK _ _ ?_
          have hnew : ∀ y ∈ pre ++ [(⟨k, hk⟩ : Ros.Sl)], r.peer y.1 ≠ p := fun y hy => by
            rcases List.mem_append.1 hy with h | h
            · exact HPRE.out y h
            · simp only [List.mem_singleton] at h
              subst h
              show r.peer k ≠ p
              rw [HPK.out]; exact he
          have HN := Lib.hid hnew
          clear hnew
          gi_wp2
          refine ⟨below_others q.h, fun hf => hf.below q.h, ⟨HM.out.call q.h, HPP.out.below q.h HPP.out.lt, HR.out.below q.h HR.out.lt⟩, ?_⟩
          first
            | exact HN.out
            | exact fun a hb hm => HN.out ⟨a, hb⟩ hm
      case done =>
        rintro D xs V hD rfl ⟨⟨hM, hP, hR⟩, hn⟩ hK
        have hres := hR.put 0 (.int .i64 (-1))
        have hK3 := others_kept (KeepsOthers.setCell V ⟨w.heap.size + 1 + 1, 0, none⟩ (.int .i64 (-1))) hK
        have hDw : w.heap.size ≤ D := Nat.le_trans MM0.out.1.below.size hD
        have hT := hres.turned (grownBy_putObj' _ D (.deferred none)) (fun r e => by cases e; exact ⟨_, hK3, rfl⟩)
        have hT2 := Lib.hid (Below.turned (hM.below.setCell (p := ⟨w.heap.size + 1 + 1, 0, none⟩) (by simp <;> omega) (.int .i64 (-1))) (Nat.le_refl _) (grownBy_putObj' _ D (.deferred none)) (fun r e => by cases e; exact hDw))
        have hno : Hid (Ros.of r p = -1) := Lib.hid (HIF.out.trans (Ros.seatOf_none hn))
        have HK3 := Lib.hid hK3
        have hc5 : ((V.setCell ⟨w.heap.size + 1 + 1, 0, none⟩ (.int .i64 (-1))).putObj D (.deferred none)).cell? ⟨w.heap.size + 1 + 1, 0, none⟩ = some (.int .i64 (-1)) := hT.cell 0
        have u4 := hR.cell
        have v4 := hR.free
        clear hM hres hK3 hT hK hn hP hR
        go_wp2
        refine ⟨by simp, .inl ⟨_, _, rfl, run_takeDeferred HK3.out, ?_⟩⟩
        refine ⟨.int .i64 (-1), ?_, by rw [hno.out], hT2.out⟩
        simp [results, Tryz.f84, go_sem, hc5]
      case stop =>
        rintro D c' pre V hD ⟨rest, hpre⟩ ⟨rfl, pre', x, rfl, h2, h3, h4, h5⟩ hK
        have hyes : Hid (Ros.of r p = x.1) := Lib.hid (HIF.out.trans (by rw [hpre, List.append_assoc]; exact Ros.seatOf_first h2 h3))
        have hDw : w.heap.size ≤ D := Nat.le_trans MM0.out.1.below.size hD
        have hT := h4.turned (grownBy_putObj' _ D (.deferred none)) (fun r e => by cases e; exact ⟨_, hK, rfl⟩)
        have hT2 := Lib.hid (Below.turned h5 (Nat.le_refl _) (grownBy_putObj' _ D (.deferred none)) (fun r e => by cases e; exact hDw))
        have hc5 : (V.putObj D (.deferred none)).cell? ⟨w.heap.size + 1 + 1, 0, none⟩ = some (.int .i64 x.1) := hT.cell 0
        have HK3 := Lib.hid hK
        clear h2 h3 h4 h5 hK hpre hT
        refine wpIn_ret ?_
        refine ⟨by simp, .inl ⟨_, _, rfl, run_takeDeferred HK3.out, ?_⟩⟩
        refine ⟨.int .i64 x.1, ?_, by rw [hyes.out], hT2.out⟩
        simp [results, Tryz.f84, go_sem, hc5]

    · rw [decide_eq_false hp] at cp
      have HIF := Lib.hid (hof.out.trans (if_neg fun h => hp h.2))
      clear hof hok hmay hp
      go_enter Tryz.func84, Tryz.ntmps84
      go_wp2_with (first | ((with_reducible refine ros_load rfl rfl ?_); apply LoadRow.mk rfl; (focus (with_reducible exact P0.out)); (focus (exact ros_info))) | (go_at_call 54; ((with_reducible refine ((cm _).out).mono ?_); rintro e w1 ⟨rfl, hb1⟩; have Q0 := Lib.hid (P0.out.below hb1 (by have := P0.out.lt; simp at this ⊢ <;> omega)); have Q1 := Lib.hid (P1.out.below hb1 (by have := P1.out.lt; simp at this ⊢ <;> omega)); have Q2 := Lib.hid (P2.out.below hb1 (by have := P2.out.lt; simp at this ⊢ <;> omega)); have QB := Lib.hid (PB.out.trans (hb1.mono PB.out.size)); have q1 := Q1.out.cell; have q2 := Q2.out.cell; have f2 := Q2.out.free; clear hb1)) | (go_at_call 83; ((with_reducible refine ((cp _).out).mono ?_); rintro e w2 ⟨rfl, rfl⟩)))
      have hT : (w1.setCell ⟨w.heap.size + 1 + 1, 0, none⟩ (.int .i64 (-1))).cell? ⟨w.heap.size + 1 + 1, 0, none⟩ = some (.int .i64 (-1)) := (Q2.out.put 0 (.int .i64 (-1))).cell 0
      refine bodyPost_ret (v := .int .i64 (-1)) (by simp [results, Tryz.f84, go_sem, hT]) rfl ?_
      exact ⟨by rw [HIF.out], QB.out.setCell (by simp <;> omega) _⟩
  · have hmay : Ros.may r = false := decide_eq_false hok
    rw [hmay] at cm
    have HIF := Lib.hid (hof.out.trans (if_neg fun h => hok h.1))
    clear hof hok hmay
    go_enter Tryz.func84, Tryz.ntmps84
    go_wp2_with (first | ((with_reducible refine ros_load rfl rfl ?_); apply LoadRow.mk rfl; (focus (with_reducible exact P0.out)); (focus (exact ros_info))) | (go_at_call 54; ((with_reducible refine ((cm _).out).mono ?_); rintro e w1 ⟨rfl, hb1⟩; have Q0 := Lib.hid (P0.out.below hb1 (by have := P0.out.lt; simp at this ⊢ <;> omega)); have Q1 := Lib.hid (P1.out.below hb1 (by have := P1.out.lt; simp at this ⊢ <;> omega)); have Q2 := Lib.hid (P2.out.below hb1 (by have := P2.out.lt; simp at this ⊢ <;> omega)); have QB := Lib.hid (PB.out.trans (hb1.mono PB.out.size)); have q1 := Q1.out.cell; have q2 := Q2.out.cell; have f2 := Q2.out.free; clear hb1)) | (go_at_call 83; ((with_reducible refine ((cp _).out).mono ?_); rintro e w2 ⟨rfl, rfl⟩)))
    have hT : (w1.setCell ⟨w.heap.size + 1 + 1, 0, none⟩ (.int .i64 (-1))).cell? ⟨w.heap.size + 1 + 1, 0, none⟩ = some (.int .i64 (-1)) := (Q2.out.put 0 (.int .i64 (-1))).cell 0
    refine bodyPost_ret (v := .int .i64 (-1)) (by simp [results, Tryz.f84, go_sem, hT]) rfl ?_
    exact ⟨by rw [HIF.out], QB.out.setCell (by simp <;> omega) _⟩

end Go.Proofs.YtkkhdaeihnbilaaGreat
namespace Go.Proofs.YtkkhdaeihnbilaaGreat
open Go.RowKit
set_option linter.unusedVariables false

theorem ships_info : (Tryz.prog.info? 25).map (·.size) = some 56 := by kernel_rfl
theorem ships_part (g : Gm.G) (v : Value) : ∀ j u, (Gm.shipCells g.ship)[j]? = some u → (Gm.cells g v)[2 + j]? = some u := fun j u hu => by
  have hj : j < 56 := by have := (List.getElem?_eq_some_iff.1 hu).1; rwa [Gm.shipCells_len] at this
  rw [Gm.cells_shipj _ _ _ hj]; exact hu

set_option maxRecDepth 100000 in
set_option maxHeartbeats 4000000 in
theorem new_any (s : ByteArray) (w : World) (hs : s.size ≤ maxLen) :
    Calls Tryz.prog 43 #[.string s] w fun e w' => e = .returned (.agg (Gm.cells (Gm.new (Dn.seed s.data.toList)) (.slice none 0 0))) ∧ Below w.heap.size w w' := by
  have c1 := fun X => Lib.hid (seed_any s X hs)
  have hb0 := Lib.hid (one_below w (.cells (Gm.cells zeroG (.slice none 0 0)) 28))
  have B0 := Lib.hid (Box.made w 28 (Gm.cells zeroG (.slice none 0 0)))
  go_enter Tryz.func43, Tryz.ntmps43
  go_wp2_with (first | (go_at_call 80; ((with_reducible refine ((c1 _).out).mono ?_); rintro e w1 ⟨rfl, hb1⟩; have B1 := Lib.hid (B0.out.below hb1 B0.out.lt); have HB1 := Lib.hid (hb0.out.trans (hb1.mono hb0.out.size)); clear hb1)) | (refine wpList_alloc_game rfl rfl ?_) | (refine wpList_build_is rfl (t := 28) (vs := [(1, .int .u64 (Dn.seed s.data.toList))]) rfl rfl (built_new _) ?_) | ((with_reducible refine store_gate rfl rfl ?_); apply StoreGame.mk rfl rfl rfl; exact B1.out))
  refine bodyPost_ret (v := .agg (Gm.cells (Gm.new (Dn.seed s.data.toList)) (.slice none 0 0))) ?_ ?_ ?_
  · exact results_cell_row rfl _ _ _ _ (Gm.cells (Gm.new (Dn.seed s.data.toList)) (.slice none 0 0)) (0, 0) _ rfl (Box.row B1.out _).is Tryz.underlying28 rfl game_info
  · rfl
  · exact ⟨rfl, Below.setRow' HB1.out (Nat.le_refl _) _⟩
end Go.Proofs.YtkkhdaeihnbilaaGreat
namespace Go.Proofs.YtkkhdaeihnbilaaGreat
open Go.RowKit Go.Shelf
set_option linter.unusedVariables false
set_option linter.unusedSimpArgs false

/-- What a function of states leaves: a state with a list of its own (or the caller's), a code. -/
def SOut (g' : Gm.G) (r' : Ros.R) (code : Int) (w : World) (e : Ending) (w' : World) : Prop :=
  ∃ A c, e = .returned (.tuple #[.agg (Im.cells g' (.slice A g'.shots.length c) r'), .int .i64 code]) ∧ Lies w' w'.heap.size 6 A g'.shots.length (Gm.shotCells g'.shots) ∧ Below w.heap.size w w'
/-- The same with the state alone. -/
def SOne (g' : Gm.G) (r' : Ros.R) (w : World) (e : Ending) (w' : World) : Prop :=
  ∃ A c, e = .returned (.agg (Im.cells g' (.slice A g'.shots.length c) r')) ∧ Lies w' w'.heap.size 6 A g'.shots.length (Gm.shotCells g'.shots) ∧ Below w.heap.size w w'
/-- A fault was thrown, and nothing else came of it. -/
def Thrown (code : Int) (w : World) (e : Ending) (w' : World) : Prop := e = .panicked [{ v := .iface 97 (.int .i64 code), recovered := false }] ∧ Below w.heap.size w w'

theorem need_ok (w : World) : Calls Tryz.prog 61 #[.int .i64 0] w fun e w' => e = .returned (.tuple #[]) ∧ Below w.heap.size w w' := by
  go_enter Tryz.func61, Tryz.ntmps61
  go_wp2
  go_end0
  exact ⟨rfl, Below.refl _ _⟩
theorem need_throws (w : World) : Calls Tryz.prog 61 #[.int .i64 1] w (Thrown 1 w) := by
  go_enter Tryz.func61, Tryz.ntmps61
  go_wp2
  exact ⟨rfl, rfl, Below.refl _ _⟩
theorem needthat_yes (w : World) : Calls Tryz.prog 57 #[.bool true] w fun e w' => e = .returned (.tuple #[]) ∧ Below w.heap.size w w' := by
  go_enter Tryz.func57, Tryz.ntmps57
  go_wp2
  go_end0
  exact ⟨rfl, Below.refl _ _⟩
theorem needthat_no (w : World) : Calls Tryz.prog 57 #[.bool false] w (Thrown 1 w) := by
  have c1 := fun X => Lib.hid (need_throws X)
  go_enter Tryz.func57, Tryz.ntmps57
  go_wp2_with (first | (go_at_call 61; ((with_reducible refine ((c1 _).out).mono ?_); rintro e w1 ⟨rfl, hb⟩)))
  exact ⟨rfl, rfl, hb⟩

set_option maxRecDepth 100000 in
set_option maxHeartbeats 1000000 in
theorem foldown_any (g : Gm.G) (r : Ros.R) (A : Option Addr) (n c : Nat) (w : World) (hn60 : n ≤ 60) (hn : n = g.shots.length) (hr : Lies w w.heap.size 6 A n (Gm.shotCells g.shots)) :
    Calls Tryz.prog 42 #[.agg (Im.cells g (.slice A n c) r)] w (SOne g r w) := by
  have P0 := Lib.hid ((Box.made w 35 (Im.cells g (.slice A n c) r)).alloc (.cells Im.zero 35))
  have Q0 := Lib.hid (Box.made_at (n := w.heap.size + 1) (w.alloc (.cells (Im.cells g (.slice A n c) r) 35)) 35 Im.zero (by simp))
  have K0 := Lib.hid (two_below' w (.cells (Im.cells g (.slice A n c) r) 35) (.cells Im.zero 35))
  have c1 := Lib.hid (clone_any g.shots A n c _ hn hn60 ((hr.below K0.out).wider K0.out.size))
  have hc := P0.out.cell
  have e58 : (Im.cells g (.slice A n c) r)[58]? = some (.slice A n c) := (Im.cells_g _ _ _ 58 (by omega)).trans (Gm.cells_58 _ _)
  have hN := Lib.hid hn
  clear hr hn
  go_enter Tryz.func42, Tryz.ntmps42
  go_upto_region 2 with (first | (with_reducible refine alloc_state rfl rfl ?_) | (go_at_call 79; ((with_reducible refine ((c1).out).mono ?_); rintro e w1 ⟨A', c', rfl, ho, hb⟩; have D1 := P0.out.below hb P0.out.lt; have D2 := Lib.hid (Q0.out.below hb Q0.out.lt); have k1 := D1.cell; have f1 := D1.free; have O1 := Lib.hid ho; have HB1 := Lib.hid (K0.out.trans (hb.mono K0.out.size)); have F1 := Lib.hid (show Box (w1.setCell ⟨w.heap.size, 58, none⟩ (.slice A' n c')) w.heap.size 35 (Im.cells g (.slice A' n c') r) from Im.cells_shots g _ _ r ▸ D1.put 58 (.slice A' n c')); have F2 := Lib.hid (D2.out.far (p := ⟨w.heap.size, 58, none⟩) (show w.heap.size + 1 ≠ w.heap.size by omega) (.slice A' n c')); have nO := Lib.hid (D1.unowned ho (by decide)); clear hb ho D1)))
  go_wp2_with (first | ((with_reducible refine im_load_state rfl rfl ?_); apply LoadIm.mk rfl; (focus (with_reducible exact F1.out)); dsimp only) | ((with_reducible refine im_store_state rfl rfl ?_); apply StoreS.mk rfl rfl; (focus (with_reducible exact F2.out)); (focus (exact Im.zero_size)); (focus rfl)))
  have hn := hN.out
  subst hn
  refine bodyPost_ret (v := .agg (Im.cells g (.slice A' g.shots.length c') r)) ?_ ?_ ?_
  · exact results_cell_row rfl _ _ _ _ (Im.cells g (.slice A' g.shots.length c') r) (0, 0) _ rfl (F2.out.row _).is Tryz.underlying35 rfl (by rw [Im.cells_size]; exact state_info)
  · rfl
  · refine ⟨A', c', rfl, ?_, ?_⟩
    · have h := ownsRow_setCell_other (a := ⟨w.heap.size, 58, none⟩) O1.out nO.out (.slice A' g.shots.length c')
      exact Lies.owned (own_setRow h (F2.out.unowned h (by decide)) (Im.cells g (.slice A' g.shots.length c') r))
    · exact Below.setRow' (HB1.out.setCell (p := ⟨w.heap.size, 58, none⟩) (Nat.le_refl _) _) (by omega) _

set_option maxHeartbeats 1000000 in
theorem foldstart_any (s : ByteArray) (w : World) (hs : s.size ≤ maxLen) :
    Calls Tryz.prog 20 #[.string s] w fun e w' => e = .returned (.agg (Im.cells (Gm.new (Dn.seed s.data.toList)) (.slice none 0 0) Ros.new)) ∧ Below w.heap.size w w' := by
  have P1 := Lib.hid (Box.made w 35 Im.zero)
  have K1 := Lib.hid (one_below w (.cells Im.zero 35))
  have c1 := fun X => Lib.hid (new_any s X hs)
  have c2 := fun X => Lib.hid (rosnew_any X)
  go_enter Tryz.func20, Tryz.ntmps20
  go_wp2_with (first | (with_reducible refine alloc_state rfl rfl ?_) | (go_at_call 43; ((with_reducible refine ((c1 _).out).mono ?_); rintro e w2 ⟨rfl, hb⟩; have P2 := Lib.hid (P1.out.below hb P1.out.lt); have K2 := Lib.hid (K1.out.trans (hb.mono K1.out.size)); clear hb)) | (go_at_call 44; ((with_reducible refine ((c2 _).out).mono ?_); rintro e w3 ⟨rfl, hb⟩; have P3 := Lib.hid (P2.out.below hb P2.out.lt); have K3 := Lib.hid (K2.out.trans (hb.mono K2.out.size)); clear hb)) | (refine wpList_build_is rfl (t := 35) (vs := [(0, .agg (Gm.cells (Gm.new (Dn.seed s.data.toList)) (.slice none 0 0))), (1, .agg (Ros.cells Ros.new))]) rfl rfl (state_built2 _ _ _) ?_) | ((with_reducible refine blk_gate (t := 35) rfl rfl state_info ?_); apply StoreBlk.mk rfl rfl P3.out (im_cells_one _ _ _ rfl) (Im.cells_size _ _ _) Im.zero_size))
  refine bodyPost_ret (v := .agg (Im.cells (Gm.new (Dn.seed s.data.toList)) (.slice none 0 0) Ros.new)) ?_ ?_ ?_
  · exact results_cell_row rfl _ _ _ _ (Im.cells (Gm.new (Dn.seed s.data.toList)) (.slice none 0 0) Ros.new) (0, 0) _ rfl (P3.out.row _).is Tryz.underlying35 rfl (by rw [Im.cells_size]; exact state_info)
  · rfl
  · exact ⟨rfl, Below.setRow' K3.out (Nat.le_refl _) _⟩

set_option maxHeartbeats 1000000 in
theorem foldmay_any (g : Gm.G) (r : Ros.R) (A : Option Addr) (n c : Nat) (w : World) (hty : Gm.ty g) (hn63 : n ≤ maxLen) (hn : n = g.shots.length) (hr : Lies w w.heap.size 6 A n (Gm.shotCells g.shots)) :
    Calls Tryz.prog 14 #[.agg (Im.cells g (.slice A n c) r)] w fun e w' => (∃ v, e = .returned (.bool v) ∧ (v = true ↔ Im.Ok g r)) ∧ Below w.heap.size w w' := by
  have P0 := Lib.hid (Box.made w 35 (Im.cells g (.slice A n c) r))
  have K0 := Lib.hid (one_below w (.cells (Im.cells g (.slice A n c) r) 35))
  have hr0 := (hr.below K0.out).wider K0.out.size
  by_cases hok : Im.Ok g r
  · have cp := Lib.hid (put_yes g r A n c _ hok hty.2.1 hn hr0)
    have HOK := Lib.hid hok
    clear hr hn hok hr0 hty
    go_enter Tryz.func14, Tryz.ntmps14
    go_wp2_with (first | ((with_reducible refine im_load_state rfl rfl ?_); apply LoadIm.mk rfl; (focus (with_reducible exact P0.out)); dsimp only) | (go_at_call 35; ((with_reducible refine ((cp).out).mono ?_); rintro e w1 ⟨A1, c1, rfl, _, hb⟩; have K1 := Lib.hid (K0.out.trans (hb.mono K0.out.size)); clear hb)))
    go_ret
    exact ⟨⟨true, rfl, fun _ => HOK.out, fun _ => rfl⟩, K1.out⟩
  · have cp := Lib.hid (put_no g r A n c _ hok hty hn hn63 hr0)
    have HOK := Lib.hid hok
    clear hr hn hok hr0 hty
    go_enter Tryz.func14, Tryz.ntmps14
    go_wp2_with (first | ((with_reducible refine im_load_state rfl rfl ?_); apply LoadIm.mk rfl; (focus (with_reducible exact P0.out)); dsimp only) | (go_at_call 35; ((with_reducible refine ((cp).out).mono ?_); rintro e w1 ⟨rfl, hb⟩; have K1 := Lib.hid (K0.out.trans (hb.mono K0.out.size)); clear hb)))
    go_ret
    exact ⟨⟨false, rfl, ⟨fun h => (by cases h), fun h => absurd h HOK.out⟩⟩, K1.out⟩
end Go.Proofs.YtkkhdaeihnbilaaGreat
namespace Go.Proofs.YtkkhdaeihnbilaaGreat
open Go.RowKit
set_option linter.unusedVariables false

set_option maxRecDepth 100000 in
set_option maxHeartbeats 2000000 in
theorem remove_yes (g : Gm.G) (A : Option Addr) (n c i : Nat) (w : World) (hg : Gm.ok g) (hn : n = g.shots.length) (hr : Lies w w.heap.size 6 A n (Gm.shotCells g.shots)) (hi : i < 8) (ho : (g.ship i).on = true) (h0 : g.shots = []) :
    Calls Tryz.prog 97 #[.agg (Gm.cells g (.slice A n c)), .int .i64 i] w (Out { g with ship := Gm.upd g.ship i Gm.Ship.none } 0 w) := by
  have b1 : Box (((w.alloc (.cells (Gm.cells g (.slice A n c)) 28)).alloc (.cells #[.int .i64 i] 3)).alloc (.cells (Gm.cells zeroG (.slice none 0 0)) 28)) w.heap.size 28 (Gm.cells g (.slice A n c)) := ((Box.made _ _ _).alloc _).alloc _
  have b2 : Box (((w.alloc (.cells (Gm.cells g (.slice A n c)) 28)).alloc (.cells #[.int .i64 i] 3)).alloc (.cells (Gm.cells zeroG (.slice none 0 0)) 28)) (w.heap.size + 1 + 1) 28 (Gm.cells zeroG (.slice none 0 0)) := Box.made_at _ _ _ (by simp)
  have b3 : Box (((w.alloc (.cells (Gm.cells g (.slice A n c)) 28)).alloc (.cells #[.int .i64 i] 3)).alloc (.cells (Gm.cells zeroG (.slice none 0 0)) 28)) (w.heap.size + 1) 3 #[.int .i64 i] := (Box.made_at _ _ _ (by simp)).alloc _
  have hb0 := (two_below' w (.cells (Gm.cells g (.slice A n c)) 28) (.cells #[.int .i64 i] 3)).alloc (by simp <;> omega) (.cells (Gm.cells zeroG (.slice none 0 0)) 28)
  have co := Lib.hid (own_any g A n c _ hn (by have := hg.2.2.1; omega) ((hr.below hb0).wider hb0.size))
  have cm := fun X (hX : Below w.heap.size w X) => Lib.hid (may_yes g A n c X hg hn ((hr.below hX).wider hX.size))
  have cs := fun X => Lib.hid (isslot_any i (by omega) X)
  rw [decide_eq_true (show (0 : Int) ≤ i by omega), decide_eq_true (show (i : Int) < 8 by omega), Bool.and_self] at cs
  have q0 : (Gm.cells g (.slice A n c))[2 + i * 7]? = some (.bool true) := (Gm.cells_ship g _ i 0 hi (by omega)).trans (by show some (Value.bool (g.ship i).on) = _; rw [ho])
  have hi8 : (i : Int) < 8 := by omega
  obtain ⟨t, ht⟩ : ∃ t, t = g.ship i := ⟨_, rfl⟩
  have r0 : ∀ s, (Gm.cells g s)[2 + i * 7]? = some (.bool t.on) := fun s => (Gm.cells_ship g s i 0 hi (by omega)).trans (by rw [ht]; rfl)
  have r1 : ∀ s, (Gm.cells g s)[2 + i * 7 + 1]? = some (.int .i32 t.x) := fun s => (Gm.cells_ship g s i 1 hi (by omega)).trans (by rw [ht]; rfl)
  have r2 : ∀ s, (Gm.cells g s)[2 + i * 7 + 2]? = some (.int .i32 t.y) := fun s => (Gm.cells_ship g s i 2 hi (by omega)).trans (by rw [ht]; rfl)
  have r3 : ∀ s, (Gm.cells g s)[2 + i * 7 + 3]? = some (.int .i32 t.vx) := fun s => (Gm.cells_ship g s i 3 hi (by omega)).trans (by rw [ht]; rfl)
  have r4 : ∀ s, (Gm.cells g s)[2 + i * 7 + 4]? = some (.int .i32 t.vy) := fun s => (Gm.cells_ship g s i 4 hi (by omega)).trans (by rw [ht]; rfl)
  have r5 : ∀ s, (Gm.cells g s)[2 + i * 7 + 5]? = some (.int .i64 t.cool) := fun s => (Gm.cells_ship g s i 5 hi (by omega)).trans (by rw [ht]; rfl)
  have r6 : ∀ s, (Gm.cells g s)[2 + i * 7 + 6]? = some (.int .i64 t.score) := fun s => (Gm.cells_ship g s i 6 hi (by omega)).trans (by rw [ht]; rfl)
  have hN := Lib.hid hn
  have H0 := Lib.hid h0
  have HB := Lib.hid hb0
  have B1 := Lib.hid b1
  have B2 := Lib.hid b2
  have B3 := Lib.hid b3
  clear hr hn b1 b2 b3 hb0 ho hg ht h0
  go_enter Tryz.func97, Tryz.ntmps97
  go_upto_region 5 with (first | (refine wpList_alloc_game rfl rfl ?_) | ((with_reducible refine load_gate rfl rfl ?_); apply LoadGame.mk rfl; (with_reducible exact B1.out)) | ((with_reducible refine load_gate rfl rfl ?_); apply LoadGame.mk rfl; (with_reducible exact D1.out)) | ((with_reducible refine load_gate rfl rfl ?_); apply LoadGame.mk rfl; exact F1.out) | (go_at_call 98; ((with_reducible refine (co.out).mono ?_); rintro e w1 ⟨A1, c1, rfl, ho1, hb1⟩; have HB1 := Lib.hid ((HB.out.trans (hb1.mono HB.out.size)).alloc (by have := hb1.size; simp at this; omega) (.cells (Gm.cells g (.slice A1 n c1)) 28)); have O1 := Lib.hid ((own_rebase (base' := w.heap.size) ho1 (by simp; omega)).alloc (.cells (Gm.cells g (.slice A1 n c1)) 28)); have D1 := Lib.hid ((B1.out.below hb1 (by simp <;> omega)).alloc (.cells (Gm.cells g (.slice A1 n c1)) 28)); have D2 := Lib.hid ((B2.out.below hb1 (by simp <;> omega)).alloc (.cells (Gm.cells g (.slice A1 n c1)) 28)); have D3 := Lib.hid ((B3.out.below hb1 (by simp <;> omega)).alloc (.cells (Gm.cells g (.slice A1 n c1)) 28)); have s1 : w.heap.size + 1 + 1 < w1.heap.size := (by have := hb1.size; simp at this; omega); have ho1H := Lib.hid ho1; clear ho1 hb1)) | (refine wpList_store_game_new rfl rfl rfl rfl rfl rfl ?_) | (go_at_call 24; ((with_reducible refine ((cm _ HB1.out).out).mono ?_); rintro e w2 ⟨rfl, hb2⟩; have HB2 := Lib.hid (HB1.out.trans (hb2.mono HB1.out.size)); have O2 := Lib.hid (own_below O1.out hb2 (Nat.le_refl _)); have F1 := Lib.hid ((Box.made w1 28 (Gm.cells g (.slice A1 n c1))).below hb2 (by simp)); have f1c := F1.out.cell; have f1f := F1.out.free; have H9 := Lib.hid ((has_made (w := w) hN.out (own_rebase (base' := w.heap.size) ho1H.out (by simp; omega))).call hb2); have E1 := (D1.out.below hb2 D1.out.lt).cell; have E3' := D3.out.below hb2 D3.out.lt; have E3 := E3'.cell; have E3H := Lib.hid E3'; have G2 := Lib.hid (D2.out.below hb2 D2.out.lt); clear hb2)) | (go_at_call 91; ((with_reducible refine ((cs _).out).mono ?_); rintro e w' ⟨rfl, rfl⟩)) | ((with_reducible refine store_gate rfl rfl ?_); apply StoreGame.mk rfl rfl rfl; exact G2.out))
  have W5 : Has w.heap.size w1.heap.size { g with ship := Gm.upd g.ship i Gm.Ship.none } (stored w2 w1.heap.size i Gm.Ship.none) := H9.out.stored hi _
  have K5 := (Keep.refl (show w.heap.size ≤ w1.heap.size by omega) w2).stored (k := i) Gm.Ship.none
  obtain ⟨W, hW⟩ : ∃ W, W = stored w2 w1.heap.size i Gm.Ship.none := ⟨_, rfl⟩
  rw [← hW] at W5 K5
  simp only [stored, Gm.Ship.none] at hW
  rw [← hW]
  have ck := Lib.hid (keep_none { g with ship := Gm.upd g.ship i Gm.Ship.none } w.heap.size w1.heap.size (.func (.func 126) #[] #[.pointer (some ⟨w.heap.size + 1, 0, none⟩)]) W (by omega) W5 H0.out)
  have hmf : ∀ (fn : Fn) (first cap : Array Value) (w : World), (Instr.makeFunc fn first cap).run Tryz.prog w = .ok (.func fn first cap) w := fun _ _ _ _ => rfl
  have ne2 : w.heap.size + 1 + 1 ≠ w1.heap.size := by omega
  have R5 := Lib.hid (G2.out.keep K5 ne2 (by decide))
  have KK5 := Lib.hid (HB2.out.trans (K5.to HB2.out.size))
  clear hW W5 K5 E1 E3 f1c f1f r0 r1 r2 r3 r4 r5 r6
  go_wp2_with (first | (go_at_call 103; ((with_reducible refine (ck.out).mono ?_); rintro e w4 ⟨rfl, h4, k4⟩; obtain ⟨A4, c4, B4, O4⟩ := h4; have F4 := Lib.hid B4; have O4H := Lib.hid O4; have R4 := Lib.hid (R5.out.keep k4 ne2 (by decide)); have K4 := Lib.hid (KK5.out.trans (k4.to KK5.out.size)); clear B4 O4 k4)) | ((with_reducible refine load_gate rfl rfl ?_); apply LoadGame.mk rfl; exact F4.out) | ((with_reducible refine store_gate rfl rfl ?_); apply StoreGame.mk rfl rfl rfl; exact R4.out))
  refine bodyPost_ret (v := .tuple #[.agg (Gm.cells { g with ship := Gm.upd g.ship i Gm.Ship.none } (.slice A4 g.shots.length c4)), .int .i64 0]) ?_ ?_ ?_
  · exact results_cell_tmp (p := 4) (q := 5) rfl _ _ _ _ (Gm.cells { g with ship := Gm.upd g.ship i Gm.Ship.none } (.slice A4 g.shots.length c4)) _ rfl (Box.row R4.out _) Tryz.underlying28 rfl game_info
  · rfl
  · exact ⟨A4, c4, rfl, Lies.owned (own_setRow O4H.out (R4.out.unowned O4H.out (by decide)) _), Below.setRow' K4.out (by omega) _⟩
end Go.Proofs.YtkkhdaeihnbilaaGreat
namespace Go.Proofs.YtkkhdaeihnbilaaGreat
open Go.RowKit Go.Shelf
set_option linter.unusedVariables false
set_option linter.unusedSimpArgs false

theorem HasAt.draws {b B : Nat} {A : Option Addr} {c : Nat} {g : Gm.G} {w : World} (h : HasAt b B A c g w) (n : Nat) : HasAt b B A c g (w.drewN n) := ⟨⟨h.game.is⟩, h.own⟩
theorem HasAt.shotIs {b B c gs i : Nat} {G : Gm.G} {W : World} (h : HasAt b B (some ⟨gs, 0, none⟩) c G W) (hi : i < G.shots.length) (j : Nat) (hj : j < 6) : W.cell? ⟨gs, i * 6 + j, none⟩ = G.shots[i].cells[j]? := by
  have h1 := h.own
  rw [h1.cellAt (i * 6 + j) (by omega), Gm.shotCells_at _ i j hi hj]
theorem Keep.draws {b B : Nat} {w w' : World} (h : Keep b B w w') (n : Nat) : Keep b B w (w'.drewN n) := ⟨h.os, h.tape, h.output, h.size, h.low, h.block⟩

set_option maxHeartbeats 1000000 in
theorem other_owner (G : Gm.G) (b B c gs j Bi : Nat) (i : Int) (w : World) (hbB : b ≤ B) (hj : j < G.shots.length) (h : HasAt b B (some ⟨gs, 0, none⟩) c G w) (hi : Box w Bi 3 #[.int .i64 i]) :
    Calls Tryz.prog 126 #[.pointer (some ⟨gs, j * 6, none⟩), .pointer (some ⟨Bi, 0, none⟩)] w fun e w' => e = .returned (.bool (decide (G.shots[j].owner ≠ i))) ∧ HasAt b B (some ⟨gs, 0, none⟩) c G w' ∧ Keep b B w w' ∧ Box w' Bi 3 #[.int .i64 i] := by
  have q0 := h.shotIs hj 0 (by omega)
  generalize hs : G.shots[j] = s at q0 ⊢
  obtain ⟨so, sx, sy, svx, svy, sl⟩ := s
  simp only [Gm.Shot.cells, List.getElem?_cons_zero, Nat.add_zero] at q0
  have r0 := hi.cell 0
  simp only [List.getElem?_toArray, List.getElem?_cons_zero] at r0
  have H := Lib.hid h
  have HI := Lib.hid hi
  clear h hs hi
  go_enter Tryz.func126, Tryz.ntmps126
  by_cases ho : so = i
  · subst ho
    go_upto_region 1 with fail
    go_quiet (fail)
    go_wp2
    go_ret
    exact ⟨by simp, H.out.draws _, (Keep.refl hbB _).draws _, ⟨HI.out.is⟩⟩
  · have hne : (so != i) = true := by simpa using ho
    go_upto_region 1 with fail
    go_quiet (fail)
    go_wp2
    go_ret
    exact ⟨by simp [ho], H.out.draws _, (Keep.refl hbB _).draws _, ⟨HI.out.is⟩⟩

def oth (i : Int) : Gm.Shot → Bool := fun s => decide (s.owner ≠ i)
theorem oth_snoc (i : Int) (l : List Gm.Shot) (j : Nat) (hj : j < l.length) : (l.take (j + 1)).filter (oth i) = (l.take j).filter (oth i) ++ (if oth i l[j] then [l[j]] else []) := by
  rw [List.take_succ_eq_append_getElem hj, List.filter_append]
  congr 1
  cases h : oth i l[j] <;> simp [h]
set_option maxRecDepth 100000 in
set_option maxHeartbeats 4000000 in
theorem keep_rest (g : Gm.G) (b B Bi : Nat) (iv : Int) (w : World) (hbB : b ≤ B) (h : Has b B g w) (hne : g.shots.length ≠ 0) (hlen : g.shots.length ≤ 32) (hi : Box w Bi 3 #[.int .i64 iv]) :
    Calls Tryz.prog 103 #[.pointer (some ⟨B, 0, none⟩), .func (.func 126) #[] #[.pointer (some ⟨Bi, 0, none⟩)]] w fun e w' => e = .returned (.tuple #[]) ∧ Has b B { g with shots := g.shots.filter (oth iv) } w' ∧ Keep b B w w' := by
  obtain ⟨A, c, hB, hO⟩ := h
  have h : HasAt b B A c g w := ⟨hB, hO⟩
  obtain ⟨gs, rfl, hbg, _⟩ := h.len hne
  obtain ⟨m, hm⟩ : ∃ m, m = g.shots.length := ⟨_, rfl⟩
  have start : Stays b B c gs 0 w g ⟨g.dice, g.ship, []⟩ g.shots (.slice (some ⟨gs, 0, none⟩) 0 c) w :=
    ⟨rfl, Nat.le_refl _, rfl, fun _ _ => rfl, rfl, h, Keep.refl hbB w⟩
  have START := Lib.hid start
  have HI0 := Lib.hid hi
  have hcc := hB.cell
  have e58 := Gm.cells_58 g (.slice (some ⟨gs, 0, none⟩) g.shots.length c)
  rw [← hm] at hcc e58 hne hlen
  obtain ⟨i0, hi0, hz0, hz1, hz2⟩ := info_parts shot_info
  have hI := Lib.hid hi0
  have hS := Lib.hid hz1
  have HM := Lib.hid hm
  clear hB hO h start hi0 hz0 hz1 hz2 hm hi
  go_enter Tryz.func103, Tryz.ntmps103
  go_wp2
  go_loopg [4, 16] m (fun gg s4 i wr => ∃ (j : Nat) (L : List Gm.Shot), j ≤ m ∧ gg = m - j ∧ i = .int .i64 j ∧ Stays b B c gs j w g ⟨g.dice, g.ship, (g.shots.take j).filter (oth iv)⟩ L s4 wr ∧ Box wr Bi 3 #[.int .i64 iv])
  case atStart => exact ⟨0, g.shots, by omega, rfl, rfl, START.out, HI0.out⟩
  case round =>
    obtain ⟨j, L, hj, rfl, rfl, hR, hQ⟩ := hrel
    clear hcc e58
    have hLm : L.length = m := by rw [hR.len, HM.out]
    have r58 := Gm.cells_58 { g with shots := L } (.slice (some ⟨gs, 0, none⟩) L.length c)
    have rc := hR.has.game.cell
    have rf := hR.has.game.free
    dsimp only at rc
    rw [hLm] at rc r58
    by_cases hlt : j < m
    · have hjm : (j : Int) < m := by omega
      have hjl : j < g.shots.length := by rw [← HM.out]; exact hlt
      have hsn := Lib.hid (oth_snoc iv g.shots j hjl)
      have hLj : L[j]'(by rw [hLm]; exact hlt) = g.shots[j] := by
        have := hR.rest j (Nat.le_refl _)
        rw [List.getElem?_eq_getElem (by rw [hLm]; exact hlt), List.getElem?_eq_getElem hjl] at this
        injection this
      generalize hst : (g.shots.take j).filter (oth iv) = left at *
      obtain ⟨s, hs⟩ : ∃ s, s = g.shots[j] := ⟨_, rfl⟩
      rw [← hs] at hLj
      have cst := other_owner { g with shots := L } b B c gs j Bi iv wr hbB (by rw [hLm]; exact hlt) hR.has hQ
      dsimp only at cst
      rw [hLj] at cst
      have hget := Lib.hid (show ∀ h : j < L.length, L[j]'h = s from fun _ => hLj)
      have hset : Hid (L.set j s = L) := Lib.hid (by rw [← hLj]; exact List.set_getElem_self _)
      have HR := Lib.hid hR
      have HQ := Lib.hid hQ
      have HSS := Lib.hid hs
      have hs4 := hR.left
      have hfew := hR.few
      clear hR hs hLj hQ
      dsimp only at hs4 hfew
      subst hs4
      have hso : Hid (oth iv s = decide (s.owner ≠ iv)) := Lib.hid rfl
      by_cases h1 : s.owner = iv
      · rw [decide_eq_false (by simpa using h1)] at cst
        have CST := Lib.hid cst
        have HO := Lib.hid (show oth iv s = false from hso.out.trans (decide_eq_false (by simpa using h1)))
        clear cst hst h1
        go_wp2_with (go_at_call 126; ((with_reducible refine (CST.out).mono ?_); rintro e w1 ⟨rfl, h1', k1', b1'⟩; have H1 := Lib.hid h1'; have K1 := Lib.hid k1'; have Q1 := Lib.hid b1'; clear h1' k1' b1'))
        go_roundg (m - (j + 1))
        case measure => omega
        case rel =>
          refine ⟨j + 1, L.set j s, by omega, rfl, by go_num, ?_, Q1.out⟩
          rw [hsn.out, ← HSS.out, HO.out]
          simp only [Bool.false_eq_true, if_false, List.append_nil]
          exact stays_go HR.out rfl s (by rw [hset.out]; exact H1.out) (HR.out.keep.trans K1.out)
      · rw [decide_eq_true (by simpa using h1)] at cst
        have CST := Lib.hid cst
        have HO := Lib.hid (show oth iv s = true from hso.out.trans (decide_eq_true (by simpa using h1)))
        clear cst hst h1 hso
        obtain ⟨fo, fx, fy, fvx, fvy, fl⟩ := s
        have n32 : left.length + 1 ≤ 33 := by omega
        go_wp2_with (first | (go_at_call 126; ((with_reducible refine (CST.out).mono ?_); rintro e w1 ⟨rfl, h1', k1', b1'⟩; have a58 := Gm.cells_58 { g with shots := L } (.slice (some ⟨gs, 0, none⟩) L.length c); have a0 := h1'.game.cell; have q0 := h1'.shotIs (by rw [hLm]; exact hlt) 0 (by omega); have q1 := h1'.shotIs (by rw [hLm]; exact hlt) 1 (by omega); have q2 := h1'.shotIs (by rw [hLm]; exact hlt) 2 (by omega); have q3 := h1'.shotIs (by rw [hLm]; exact hlt) 3 (by omega); have q4 := h1'.shotIs (by rw [hLm]; exact hlt) 4 (by omega); have q5 := h1'.shotIs (by rw [hLm]; exact hlt) 5 (by omega); have R1 := (h1'.alloc (.cells #[.int .i64 fo, .int .i32 fx, .int .i32 fy, .int .i32 fvx, .int .i32 fvy, .int .i64 fl] 90)).room (n := left.length) (by show left.length < L.length; rw [hLm]; omega) ⟨fo, fx, fy, fvx, fvy, fl⟩; obtain ⟨cur, r1, r2, r3, r4⟩ := R1; have RB := Lib.hid r1; have R4 := Lib.hid r4; have KK := Lib.hid ((HR.out.keep.trans k1').alloc (.cells #[.int .i64 fo, .int .i32 fx, .int .i32 fy, .int .i32 fvx, .int .i32 fvy, .int .i64 fl] 90)); have RL := Lib.hid (lies_cells w1 ⟨fo, fx, fy, fvx, fvy, fl⟩); rw [hget.out] at q0 q1 q2 q3 q4 q5; simp only [Gm.Shot.cells, List.getElem?_cons_zero, List.getElem?_cons_succ, Nat.add_zero, hLm] at q0 q1 q2 q3 q4 q5 a58 a0; have QB := fun cs' => Lib.hid ((b1'.alloc (.cells #[.int .i64 fo, .int .i32 fx, .int .i32 fy, .int .i32 fvx, .int .i32 fvy, .int .i64 fl] 90)).row_far (show Bi ≠ _ from Box.apart (b1'.alloc _) r1 (by decide)) cs'); clear h1' k1' b1' r1 r4 rc rf r58)) | ((with_reducible refine room_gate (x := .tmp 27) (y := .tmp 35) (t := 26) (e := 90) (size := 6) rfl rfl Tryz.underlying26 hI.out hS.out ?_); refine AppendsIn.mk rfl rfl RB.out RL.out (one_cells ⟨fo, fx, fy, fvx, fvy, fl⟩) r2 r3 ?_))
        go_roundg (m - (j + 1))
        case measure => omega
        case rel =>
          refine ⟨j + 1, (L.set j ⟨fo, fx, fy, fvx, fvy, fl⟩).set left.length ⟨fo, fx, fy, fvx, fvy, fl⟩, by omega, rfl, by go_num, ?_, (QB _).out⟩
          rw [hsn.out, ← HSS.out, HO.out]
          simp only [if_true]
          exact stays_stay HR.out hjl ⟨fo, fx, fy, fvx, fvy, fl⟩ (by have h := R4.out; rw [List.append_assoc] at h; rw [hset.out]; exact h) (KK.out.row RB.out hbg _)
    · have hjm : ¬ (j : Int) < m := by omega
      have hje : j = m := by omega
      subst hje
      rw [HM.out, List.take_length] at hR
      rw [HM.out] at rc r58
      generalize hfin : g.shots.filter (oth iv) = fin at *
      obtain ⟨h1, h2, h3, h4, h5, h6, h7⟩ := hR
      subst h5
      have own2 := own_prefix (n := fin.length) h6.own (by show fin.length ≤ L.length; rw [h1]; exact h2)
      dsimp only at own2
      rw [h3] at own2
      have res : Has b B { g with shots := fin } (wr.setCell ⟨B, 58, none⟩ (.slice (some ⟨gs, 0, none⟩) fin.length c)) :=
        ⟨some ⟨gs, 0, none⟩, c, blk_shots (g := { g with shots := fin }) h6.game _, ownsRow_setCell_other (a := ⟨B, 58, none⟩) own2 (by intro e; injection e with e; exact h6.apart e) _⟩
      have RES := Lib.hid res
      have K7 := Lib.hid (h7.put 58 (.slice (some ⟨gs, 0, none⟩) fin.length c))
      have HF := Lib.hid hfin
      clear h1 h2 h3 h4 h6 h7 own2 res hfin
      go_wp2
      go_end0
      rw [HF.out]
      exact ⟨rfl, RES.out, K7.out⟩
set_option maxRecDepth 100000 in
set_option maxHeartbeats 2000000 in
theorem remove_shots (g : Gm.G) (A : Option Addr) (n c i : Nat) (w : World) (hg : Gm.ok g) (hn : n = g.shots.length) (hr : Lies w w.heap.size 6 A n (Gm.shotCells g.shots)) (hi : i < 8) (ho : (g.ship i).on = true) (h0 : g.shots.length ≠ 0) :
    Calls Tryz.prog 97 #[.agg (Gm.cells g (.slice A n c)), .int .i64 i] w (Out (Gm.remove g i) 0 w) := by
  have b1 : Box (((w.alloc (.cells (Gm.cells g (.slice A n c)) 28)).alloc (.cells #[.int .i64 i] 3)).alloc (.cells (Gm.cells zeroG (.slice none 0 0)) 28)) w.heap.size 28 (Gm.cells g (.slice A n c)) := ((Box.made _ _ _).alloc _).alloc _
  have b2 : Box (((w.alloc (.cells (Gm.cells g (.slice A n c)) 28)).alloc (.cells #[.int .i64 i] 3)).alloc (.cells (Gm.cells zeroG (.slice none 0 0)) 28)) (w.heap.size + 1 + 1) 28 (Gm.cells zeroG (.slice none 0 0)) := Box.made_at _ _ _ (by simp)
  have b3 : Box (((w.alloc (.cells (Gm.cells g (.slice A n c)) 28)).alloc (.cells #[.int .i64 i] 3)).alloc (.cells (Gm.cells zeroG (.slice none 0 0)) 28)) (w.heap.size + 1) 3 #[.int .i64 i] := (Box.made_at _ _ _ (by simp)).alloc _
  have hb0 := (two_below' w (.cells (Gm.cells g (.slice A n c)) 28) (.cells #[.int .i64 i] 3)).alloc (by simp <;> omega) (.cells (Gm.cells zeroG (.slice none 0 0)) 28)
  have co := Lib.hid (own_any g A n c _ hn (by have := hg.2.2.1; omega) ((hr.below hb0).wider hb0.size))
  have cm := fun X (hX : Below w.heap.size w X) => Lib.hid (may_yes g A n c X hg hn ((hr.below hX).wider hX.size))
  have cs := fun X => Lib.hid (isslot_any i (by omega) X)
  rw [decide_eq_true (show (0 : Int) ≤ i by omega), decide_eq_true (show (i : Int) < 8 by omega), Bool.and_self] at cs
  have q0 : (Gm.cells g (.slice A n c))[2 + i * 7]? = some (.bool true) := (Gm.cells_ship g _ i 0 hi (by omega)).trans (by show some (Value.bool (g.ship i).on) = _; rw [ho])
  have hi8 : (i : Int) < 8 := by omega
  obtain ⟨t, ht⟩ : ∃ t, t = g.ship i := ⟨_, rfl⟩
  have r0 : ∀ s, (Gm.cells g s)[2 + i * 7]? = some (.bool t.on) := fun s => (Gm.cells_ship g s i 0 hi (by omega)).trans (by rw [ht]; rfl)
  have r1 : ∀ s, (Gm.cells g s)[2 + i * 7 + 1]? = some (.int .i32 t.x) := fun s => (Gm.cells_ship g s i 1 hi (by omega)).trans (by rw [ht]; rfl)
  have r2 : ∀ s, (Gm.cells g s)[2 + i * 7 + 2]? = some (.int .i32 t.y) := fun s => (Gm.cells_ship g s i 2 hi (by omega)).trans (by rw [ht]; rfl)
  have r3 : ∀ s, (Gm.cells g s)[2 + i * 7 + 3]? = some (.int .i32 t.vx) := fun s => (Gm.cells_ship g s i 3 hi (by omega)).trans (by rw [ht]; rfl)
  have r4 : ∀ s, (Gm.cells g s)[2 + i * 7 + 4]? = some (.int .i32 t.vy) := fun s => (Gm.cells_ship g s i 4 hi (by omega)).trans (by rw [ht]; rfl)
  have r5 : ∀ s, (Gm.cells g s)[2 + i * 7 + 5]? = some (.int .i64 t.cool) := fun s => (Gm.cells_ship g s i 5 hi (by omega)).trans (by rw [ht]; rfl)
  have r6 : ∀ s, (Gm.cells g s)[2 + i * 7 + 6]? = some (.int .i64 t.score) := fun s => (Gm.cells_ship g s i 6 hi (by omega)).trans (by rw [ht]; rfl)
  have hN := Lib.hid hn
  have H0 := Lib.hid h0
  have hl32 := hg.2.2.1
  have HB := Lib.hid hb0
  have B1 := Lib.hid b1
  have B2 := Lib.hid b2
  have B3 := Lib.hid b3
  clear hr hn b1 b2 b3 hb0 ho hg ht h0
  go_enter Tryz.func97, Tryz.ntmps97
  go_upto_region 5 with (first | (refine wpList_alloc_game rfl rfl ?_) | ((with_reducible refine load_gate rfl rfl ?_); apply LoadGame.mk rfl; (with_reducible exact B1.out)) | ((with_reducible refine load_gate rfl rfl ?_); apply LoadGame.mk rfl; (with_reducible exact D1.out)) | ((with_reducible refine load_gate rfl rfl ?_); apply LoadGame.mk rfl; exact F1.out) | (go_at_call 98; ((with_reducible refine (co.out).mono ?_); rintro e w1 ⟨A1, c1, rfl, ho1, hb1⟩; have HB1 := Lib.hid ((HB.out.trans (hb1.mono HB.out.size)).alloc (by have := hb1.size; simp at this; omega) (.cells (Gm.cells g (.slice A1 n c1)) 28)); have O1 := Lib.hid ((own_rebase (base' := w.heap.size) ho1 (by simp; omega)).alloc (.cells (Gm.cells g (.slice A1 n c1)) 28)); have D1 := Lib.hid ((B1.out.below hb1 (by simp <;> omega)).alloc (.cells (Gm.cells g (.slice A1 n c1)) 28)); have D2 := Lib.hid ((B2.out.below hb1 (by simp <;> omega)).alloc (.cells (Gm.cells g (.slice A1 n c1)) 28)); have D3 := Lib.hid ((B3.out.below hb1 (by simp <;> omega)).alloc (.cells (Gm.cells g (.slice A1 n c1)) 28)); have s1 : w.heap.size + 1 + 1 < w1.heap.size := (by have := hb1.size; simp at this; omega); have ho1H := Lib.hid ho1; clear ho1 hb1)) | (refine wpList_store_game_new rfl rfl rfl rfl rfl rfl ?_) | (go_at_call 24; ((with_reducible refine ((cm _ HB1.out).out).mono ?_); rintro e w2 ⟨rfl, hb2⟩; have HB2 := Lib.hid (HB1.out.trans (hb2.mono HB1.out.size)); have O2 := Lib.hid (own_below O1.out hb2 (Nat.le_refl _)); have F1 := Lib.hid ((Box.made w1 28 (Gm.cells g (.slice A1 n c1))).below hb2 (by simp)); have f1c := F1.out.cell; have f1f := F1.out.free; have H9 := Lib.hid ((has_made (w := w) hN.out (own_rebase (base' := w.heap.size) ho1H.out (by simp; omega))).call hb2); have E1 := (D1.out.below hb2 D1.out.lt).cell; have E3' := D3.out.below hb2 D3.out.lt; have E3 := E3'.cell; have E3H := Lib.hid E3'; have G2 := Lib.hid (D2.out.below hb2 D2.out.lt); clear hb2)) | (go_at_call 91; ((with_reducible refine ((cs _).out).mono ?_); rintro e w' ⟨rfl, rfl⟩)) | ((with_reducible refine store_gate rfl rfl ?_); apply StoreGame.mk rfl rfl rfl; exact G2.out))
  have W5 : Has w.heap.size w1.heap.size { g with ship := Gm.upd g.ship i Gm.Ship.none } (stored w2 w1.heap.size i Gm.Ship.none) := H9.out.stored hi _
  have K5 := (Keep.refl (show w.heap.size ≤ w1.heap.size by omega) w2).stored (k := i) Gm.Ship.none
  obtain ⟨W, hW⟩ : ∃ W, W = stored w2 w1.heap.size i Gm.Ship.none := ⟨_, rfl⟩
  rw [← hW] at W5 K5
  simp only [stored, Gm.Ship.none] at hW
  rw [← hW]
  have ck := Lib.hid (keep_rest { g with ship := Gm.upd g.ship i Gm.Ship.none } w.heap.size w1.heap.size (w.heap.size + 1) i W (by omega) W5 H0.out hl32 (E3H.out.keep K5 (by omega) (by decide)))
  have hmf : ∀ (fn : Fn) (first cap : Array Value) (w : World), (Instr.makeFunc fn first cap).run Tryz.prog w = .ok (.func fn first cap) w := fun _ _ _ _ => rfl
  have ne2 : w.heap.size + 1 + 1 ≠ w1.heap.size := by omega
  have R5 := Lib.hid (G2.out.keep K5 ne2 (by decide))
  have KK5 := Lib.hid (HB2.out.trans (K5.to HB2.out.size))
  clear hW W5 K5 E1 E3 f1c f1f r0 r1 r2 r3 r4 r5 r6
  go_wp2_with (first | (go_at_call 103; ((with_reducible refine (ck.out).mono ?_); rintro e w4 ⟨rfl, h4, k4⟩; obtain ⟨A4, c4, B4, O4⟩ := h4; have F4 := Lib.hid B4; have O4H := Lib.hid O4; have R4 := Lib.hid (R5.out.keep k4 ne2 (by decide)); have K4 := Lib.hid (KK5.out.trans (k4.to KK5.out.size)); clear B4 O4 k4)) | ((with_reducible refine load_gate rfl rfl ?_); apply LoadGame.mk rfl; exact F4.out) | ((with_reducible refine store_gate rfl rfl ?_); apply StoreGame.mk rfl rfl rfl; exact R4.out))
  refine bodyPost_ret (v := .tuple #[.agg (Gm.cells (Gm.remove g i) (.slice A4 (g.shots.filter (oth i)).length c4)), .int .i64 0]) ?_ ?_ ?_
  · exact results_cell_tmp (p := 4) (q := 5) rfl _ _ _ _ (Gm.cells (Gm.remove g i) (.slice A4 (g.shots.filter (oth i)).length c4)) _ rfl (Box.row R4.out _) Tryz.underlying28 rfl game_info
  · rfl
  · exact ⟨A4, c4, rfl, Lies.owned (own_setRow O4H.out (R4.out.unowned O4H.out (by decide)) _), Below.setRow' K4.out (by omega) _⟩

theorem remove_all (g : Gm.G) (A : Option Addr) (n c i : Nat) (w : World) (hg : Gm.ok g) (hn : n = g.shots.length) (hr : Lies w w.heap.size 6 A n (Gm.shotCells g.shots)) (hi : i < 8) (ho : (g.ship i).on = true) :
    Calls Tryz.prog 97 #[.agg (Gm.cells g (.slice A n c)), .int .i64 i] w (Out (Gm.remove g i) 0 w) := by
  by_cases h0 : g.shots.length = 0
  · have h0' : g.shots = [] := List.eq_nil_of_length_eq_zero h0
    have e : Gm.remove g i = { g with ship := Gm.upd g.ship i Gm.Ship.none } := by unfold Gm.remove; rw [h0']; rfl
    rw [e]
    exact remove_yes g A n c i w hg hn hr hi ho h0'
  · exact remove_shots g A n c i w hg hn hr hi ho h0
end Go.Proofs.YtkkhdaeihnbilaaGreat
namespace Go.Proofs.YtkkhdaeihnbilaaGreat
open Go.RowKit Go.Shelf
set_option linter.unusedVariables false
set_option linter.unusedSimpArgs false
attribute [local go_sem] Oper.semAt_some
/-- What Free knows on its way. -/
structure Freeing (B Bg Bf Bl : Nat) (w0 : World) (r : Ros.R) (st : Int × Int) (W : World) : Prop where
  sit : Sit B Bg w0 r W
  fr : Box W Bf 3 #[.int .i64 st.1]
  le : Box W Bl 3 #[.int .i64 st.2]
section
variable {B Bg Bf Bl : Nat} {w0 W W' : World} {r : Ros.R} {st : Int × Int}
theorem Freeing.turned {row : Option Nat} (h : Freeing B Bg Bf Bl w0 r st W) (hg : W.grownBy W' row) (hr : ∀ r, row = some r → w0.heap.size ≤ r ∧ ∃ o : Obj, W.heap[r]? = some o ∧ o.isCells = false) : Freeing B Bg Bf Bl w0 r st W' :=
  ⟨h.sit.turned hg hr, h.fr.turned hg fun r e => (hr r e).2, h.le.turned hg fun r e => (hr r e).2⟩
theorem Freeing.call (h : Freeing B Bg Bf Bl w0 r st W) (hb : Below W.heap.size W W') : Freeing B Bg Bf Bl w0 r st W' :=
  ⟨h.sit.call hb, h.fr.below hb h.fr.lt, h.le.below hb h.le.lt⟩
theorem Freeing.drew (h : Freeing B Bg Bf Bl w0 r st W) : Freeing B Bg Bf Bl w0 r st W.drew := ⟨h.sit.drew, h.fr.drew, h.le.drew⟩
end

/-- What Mask knows on its way. -/
structure Masking (B Bg Bm : Nat) (w0 : World) (r : Ros.R) (m : Nat) (W : World) : Prop where
  sit : Sit B Bg w0 r W
  bits : Box W Bm 3 #[.int .i64 (m : Int)]
section
variable {B Bg Bm m : Nat} {w0 W W' : World} {r : Ros.R}
theorem Masking.turned {row : Option Nat} (h : Masking B Bg Bm w0 r m W) (hg : W.grownBy W' row) (hr : ∀ r, row = some r → w0.heap.size ≤ r ∧ ∃ o : Obj, W.heap[r]? = some o ∧ o.isCells = false) : Masking B Bg Bm w0 r m W' :=
  ⟨h.sit.turned hg hr, h.bits.turned hg fun r e => (hr r e).2⟩
theorem Masking.drew (h : Masking B Bg Bm w0 r m W) : Masking B Bg Bm w0 r m W.drew := ⟨h.sit.drew, h.bits.drew⟩
theorem Masking.put (h : Masking B Bg Bm w0 r m W) (hl : w0.heap.size ≤ Bm) (n : Nat) : Masking B Bg Bm w0 r n (W.setCell ⟨Bm, 0, none⟩ (.int .i64 (n : Int))) :=
  ⟨h.sit.far (p := ⟨Bm, 0, none⟩) h.bits (by decide) (by decide) hl, h.bits.put 0 _⟩
end

end Go.Proofs.YtkkhdaeihnbilaaGreat
namespace Go.Proofs.YtkkhdaeihnbilaaGreat
open Go.RowKit Go.Shelf
set_option linter.unusedVariables false
set_option linter.unusedSimpArgs false

set_option maxRecDepth 100000 in
set_option maxHeartbeats 2000000 in
theorem roschange_any (r : Ros.R) (s : Int) (w : World) :
    Calls Tryz.prog 82 #[.agg (Ros.cells r), .int .i64 s] w fun e w' => e = .returned (.bool (decide ((Ros.Ok r ∧ r.version < 1073741824) ∧ 0 ≤ s ∧ s < 8))) ∧ Below w.heap.size w w' := by
  have cm := fun X => Lib.hid (rosmay_any r X)
  have cs := fun X => Lib.hid (rosslot_any s X)
  have P0 := Lib.hid (Box.made w 33 (Ros.cells r))
  have PB := Lib.hid (one_below w (.cells (Ros.cells r) 33))
  have c0 := Ros.cells_0 r
  by_cases hok : Ros.Ok r
  · have hmay : Ros.may r = true := decide_eq_true hok
    rw [hmay] at cm
    by_cases hv : r.version < 1073741824
    · have dv : decide (r.version < 1073741824) = true := decide_eq_true hv
      by_cases hs : 0 ≤ s ∧ s < 8
      · rw [decide_eq_true hs] at cs
        have HD : Hid (decide ((Ros.Ok r ∧ r.version < 1073741824) ∧ 0 ≤ s ∧ s < 8) = true) := Lib.hid (decide_eq_true ⟨⟨hok, hv⟩, hs⟩)
        clear hok hmay hv hs
        go_enter Tryz.func82, Tryz.ntmps82
        go_wp2_with (first | ((with_reducible refine ros_load rfl rfl ?_); apply LoadRow.mk rfl; (focus (with_reducible exact P0.out)); (focus (exact ros_info))) | (go_at_call 54; ((with_reducible refine ((cm _).out).mono ?_); rintro e w1 ⟨rfl, hb1⟩; have Q0 := Lib.hid (P0.out.below hb1 P0.out.lt); have QB := Lib.hid (PB.out.trans (hb1.mono PB.out.size)); have q0 := Q0.out.cell; clear hb1)) | (go_at_call 48; ((with_reducible refine ((cs _).out).mono ?_); rintro e w2 ⟨rfl, rfl⟩)))
        go_ret
        exact ⟨by rw [HD.out]; rfl, QB.out⟩
      · rw [decide_eq_false hs] at cs
        have HD : Hid (decide ((Ros.Ok r ∧ r.version < 1073741824) ∧ 0 ≤ s ∧ s < 8) = false) := Lib.hid (decide_eq_false fun h => hs h.2)
        clear hok hmay hv hs
        go_enter Tryz.func82, Tryz.ntmps82
        go_wp2_with (first | ((with_reducible refine ros_load rfl rfl ?_); apply LoadRow.mk rfl; (focus (with_reducible exact P0.out)); (focus (exact ros_info))) | (go_at_call 54; ((with_reducible refine ((cm _).out).mono ?_); rintro e w1 ⟨rfl, hb1⟩; have Q0 := Lib.hid (P0.out.below hb1 P0.out.lt); have QB := Lib.hid (PB.out.trans (hb1.mono PB.out.size)); have q0 := Q0.out.cell; clear hb1)) | (go_at_call 48; ((with_reducible refine ((cs _).out).mono ?_); rintro e w2 ⟨rfl, rfl⟩)))
        go_ret
        exact ⟨by rw [HD.out]; rfl, QB.out⟩
    · have dv : decide (r.version < 1073741824) = false := decide_eq_false hv
      have HD : Hid (decide ((Ros.Ok r ∧ r.version < 1073741824) ∧ 0 ≤ s ∧ s < 8) = false) := Lib.hid (decide_eq_false fun h => hv h.1.2)
      clear hok hmay hv
      go_enter Tryz.func82, Tryz.ntmps82
      go_wp2_with (first | ((with_reducible refine ros_load rfl rfl ?_); apply LoadRow.mk rfl; (focus (with_reducible exact P0.out)); (focus (exact ros_info))) | (go_at_call 54; ((with_reducible refine ((cm _).out).mono ?_); rintro e w1 ⟨rfl, hb1⟩; have Q0 := Lib.hid (P0.out.below hb1 P0.out.lt); have QB := Lib.hid (PB.out.trans (hb1.mono PB.out.size)); have q0 := Q0.out.cell; clear hb1)) | (go_at_call 48; ((with_reducible refine ((cs _).out).mono ?_); rintro e w2 ⟨rfl, rfl⟩)))
      go_ret
      exact ⟨by rw [HD.out]; rfl, QB.out⟩
  · have hmay : Ros.may r = false := decide_eq_false hok
    rw [hmay] at cm
    have HD : Hid (decide ((Ros.Ok r ∧ r.version < 1073741824) ∧ 0 ≤ s ∧ s < 8) = false) := Lib.hid (decide_eq_false fun h => hok h.1.1)
    clear hok hmay
    go_enter Tryz.func82, Tryz.ntmps82
    go_wp2_with (first | ((with_reducible refine ros_load rfl rfl ?_); apply LoadRow.mk rfl; (focus (with_reducible exact P0.out)); (focus (exact ros_info))) | (go_at_call 54; ((with_reducible refine ((cm _).out).mono ?_); rintro e w1 ⟨rfl, hb1⟩; have Q0 := Lib.hid (P0.out.below hb1 P0.out.lt); have QB := Lib.hid (PB.out.trans (hb1.mono PB.out.size)); have q0 := Q0.out.cell; clear hb1)) | (go_at_call 48; ((with_reducible refine ((cs _).out).mono ?_); rintro e w2 ⟨rfl, rfl⟩)))
    go_ret
    exact ⟨by rw [HD.out]; rfl, QB.out⟩

/-- A roster in its block is stored to. -/
theorem Box.rosv {w : World} {B : Nat} {r : Ros.R} (h : Box w B 33 (Ros.cells r)) (v : Int) : Box (w.setCell ⟨B, 0, none⟩ (.int .i64 v)) B 33 (Ros.cells { r with version := v }) := Ros.cells_setv r v ▸ h.put 0 _
theorem Box.rosp {w : World} {B k : Nat} {r : Ros.R} (h : Box w B 33 (Ros.cells r)) (hk : k < 8) (v : Int) : Box (w.setCell ⟨B, 1 + k * 2, none⟩ (.int .i64 v)) B 33 (Ros.cells { r with peer := Ros.upd r.peer k v }) := Ros.cells_setp r k hk v ▸ h.put _ _
theorem Box.rosg {w : World} {B k : Nat} {r : Ros.R} (h : Box w B 33 (Ros.cells r)) (hk : k < 8) (v : Int) : Box (w.setCell ⟨B, 1 + k * 2 + 1, none⟩ (.int .i64 v)) B 33 (Ros.cells { r with gen := Ros.upd r.gen k v }) := Ros.cells_setg r k hk v ▸ h.put _ _

set_option maxRecDepth 100000 in
set_option maxHeartbeats 2000000 in
theorem rosgive_no (r : Ros.R) (s : Int) (w : World) (hno : ¬ Ros.MayGive r s) :
    Calls Tryz.prog 49 #[.agg (Ros.cells r), .int .i64 s] w fun e w' => e = .returned (.tuple #[.agg (Ros.cells r), .int .i64 1]) ∧ Below w.heap.size w w' := by
  have cc := fun X => Lib.hid (roschange_any r s X)
  have P0 := Lib.hid ((Box.made w 33 (Ros.cells r)).alloc (.cells (Ros.cells rosZero) 33))
  have P1 := Lib.hid (Box.made_at (n := w.heap.size + 1) (w.alloc (.cells (Ros.cells r) 33)) 33 (Ros.cells rosZero) (by simp))
  have PB := Lib.hid (two_below' w (.cells (Ros.cells r) 33) (.cells (Ros.cells rosZero) 33))
  have c0 := Ros.cells_0 r
  by_cases hch : (Ros.Ok r ∧ r.version < 1073741824) ∧ 0 ≤ s ∧ s < 8
  · rw [decide_eq_true hch] at cc
    have hp : r.peer s.toNat = -1 := Decidable.byContradiction fun h => hno ⟨hch, h⟩
    obtain ⟨k, rfl⟩ : ∃ k : Nat, s = k := ⟨s.toNat, by omega⟩
    have hk : k < 8 := by omega
    have hk8 : (k : Int) < 8 := by omega
    have cpk := Ros.cells_peer r k hk
    rw [show r.peer k = -1 from hp] at cpk
    clear hch hp hno
    go_enter Tryz.func49, Tryz.ntmps49
    go_wp2_with (first | ((with_reducible refine ros_alloc rfl rfl ?_)) | ((with_reducible refine ros_load rfl rfl ?_); apply LoadRow.mk rfl; (focus (with_reducible exact P0.out)); (focus (exact ros_info))) | (go_at_call 82; ((with_reducible refine ((cc _).out).mono ?_); rintro e w1 ⟨rfl, hb⟩; have Q0 := Lib.hid (P0.out.below hb P0.out.lt); have Q1 := Lib.hid (P1.out.below hb P1.out.lt); have QB := Lib.hid (PB.out.trans (hb.mono PB.out.size)); have q0 := Q0.out.cell; have qf := Q0.out.free; clear hb)) | ((with_reducible refine ros_load rfl rfl ?_); apply LoadRow.mk rfl; (focus (with_reducible exact Q0.out)); (focus (exact ros_info))) | ((with_reducible refine ros_store rfl rfl ?_); apply StoreRow.mk rfl rfl; (focus (with_reducible exact Q1.out)); (focus (exact ros_info)); (focus rfl); (focus (exact ros_one _))))
    have hE := Q1.out.row (Ros.cells r)
    refine bodyPost_ret (v := .tuple #[.agg (Ros.cells r), .int .i64 1]) ?_ rfl ?_
    · exact results_cell_tmp (p := 4) (q := 5) rfl _ _ _ _ (Ros.cells r) _ rfl hE Tryz.underlying33 rfl ros_info
    · exact ⟨rfl, Below.setRow' QB.out (by omega) _⟩
  · rw [decide_eq_false hch] at cc
    clear hch hno
    go_enter Tryz.func49, Tryz.ntmps49
    go_wp2_with (first | ((with_reducible refine ros_alloc rfl rfl ?_)) | ((with_reducible refine ros_load rfl rfl ?_); apply LoadRow.mk rfl; (focus (with_reducible exact P0.out)); (focus (exact ros_info))) | (go_at_call 82; ((with_reducible refine ((cc _).out).mono ?_); rintro e w1 ⟨rfl, hb⟩; have Q0 := Lib.hid (P0.out.below hb P0.out.lt); have Q1 := Lib.hid (P1.out.below hb P1.out.lt); have QB := Lib.hid (PB.out.trans (hb.mono PB.out.size)); have q0 := Q0.out.cell; have qf := Q0.out.free; clear hb)) | ((with_reducible refine ros_load rfl rfl ?_); apply LoadRow.mk rfl; (focus (with_reducible exact Q0.out)); (focus (exact ros_info))) | ((with_reducible refine ros_store rfl rfl ?_); apply StoreRow.mk rfl rfl; (focus (with_reducible exact Q1.out)); (focus (exact ros_info)); (focus rfl); (focus (exact ros_one _))))
    have hE := Q1.out.row (Ros.cells r)
    refine bodyPost_ret (v := .tuple #[.agg (Ros.cells r), .int .i64 1]) ?_ rfl ?_
    · exact results_cell_tmp (p := 4) (q := 5) rfl _ _ _ _ (Ros.cells r) _ rfl hE Tryz.underlying33 rfl ros_info
    · exact ⟨rfl, Below.setRow' QB.out (by omega) _⟩

set_option maxRecDepth 100000 in
set_option maxHeartbeats 2000000 in
theorem rosgive_yes (r : Ros.R) (k : Nat) (w : World) (hyes : Ros.MayGive r k) :
    Calls Tryz.prog 49 #[.agg (Ros.cells r), .int .i64 k] w fun e w' => e = .returned (.tuple #[.agg (Ros.cells (Ros.give r k)), .int .i64 0]) ∧ Below w.heap.size w w' := by
  have cc := fun X => Lib.hid (roschange_any r k X)
  have P0 := Lib.hid ((Box.made w 33 (Ros.cells r)).alloc (.cells (Ros.cells rosZero) 33))
  have P1 := Lib.hid (Box.made_at (n := w.heap.size + 1) (w.alloc (.cells (Ros.cells r) 33)) 33 (Ros.cells rosZero) (by simp))
  have PB := Lib.hid (two_below' w (.cells (Ros.cells r) 33) (.cells (Ros.cells rosZero) 33))
  have c0 := Ros.cells_0 r
  obtain ⟨hch, hp⟩ := hyes
  rw [decide_eq_true hch] at cc
  have hk : k < 8 := by omega
  have hk8 : (k : Int) < 8 := by omega
  have cpk := Ros.cells_peer r k hk
  obtain ⟨pk, hpk⟩ : ∃ pk, r.peer k = pk := ⟨_, rfl⟩
  have hp' : r.peer k ≠ -1 := hp
  rw [hpk] at cpk hp'
  have hb : (pk == -1) = false := by simpa using hp'
  have hwrap : IntKind.i64.wrap (r.version + 1) = r.version + 1 := by rw [IntKind.wrap_i64]; have := hch.1.1.1; omega
  clear hch hp hp' hpk
  go_enter Tryz.func49, Tryz.ntmps49
  go_upto_region 5 with (first | ((with_reducible refine ros_alloc rfl rfl ?_)) | ((with_reducible refine ros_load rfl rfl ?_); apply LoadRow.mk rfl; (focus (with_reducible exact P0.out)); (focus (exact ros_info))) | (go_at_call 82; ((with_reducible refine ((cc _).out).mono ?_); rintro e w1 ⟨rfl, hb⟩; have Q0 := Lib.hid (P0.out.below hb P0.out.lt); have Q1 := Lib.hid (P1.out.below hb P1.out.lt); have QB := Lib.hid (PB.out.trans (hb.mono PB.out.size)); have q0 := Q0.out.cell; have qf := Q0.out.free; clear hb)))
  obtain ⟨U, hU⟩ : ∃ U, U = (w1.setCell ⟨w.heap.size, 1 + k * 2, none⟩ (.int .i64 (-1))).setCell ⟨w.heap.size, 0, none⟩ (.int .i64 (r.version + 1)) := ⟨_, rfl⟩
  have U0 : Box U w.heap.size 33 (Ros.cells (Ros.give r k)) := by rw [hU]; exact (Q0.out.rosp hk (-1)).rosv _
  have U1 : Box U (w.heap.size + 1) 33 (Ros.cells rosZero) := by rw [hU]; exact (Q1.out.far (by show _ ≠ _; simp) _).far (by show _ ≠ _; simp) _
  have UB : Below w.heap.size w U := by rw [hU]; exact (QB.out.setCell (Nat.le_refl _) _).setCell (Nat.le_refl _) _
  rw [← hU]
  have V0 := Lib.hid U0
  have V1 := Lib.hid U1
  have VB := Lib.hid UB
  clear hU U0 U1 UB Q0 Q1 QB q0 qf
  go_wp2_with (first | ((with_reducible refine ros_load rfl rfl ?_); apply LoadRow.mk rfl; (focus (with_reducible exact V0.out)); (focus (exact ros_info))) | ((with_reducible refine ros_store rfl rfl ?_); apply StoreRow.mk rfl rfl; (focus (with_reducible exact V1.out)); (focus (exact ros_info)); (focus rfl); (focus (exact ros_one _))))
  have hE := V1.out.row (Ros.cells (Ros.give r k))
  refine bodyPost_ret (v := .tuple #[.agg (Ros.cells (Ros.give r k)), .int .i64 0]) ?_ rfl ?_
  · exact results_cell_tmp (p := 4) (q := 5) rfl _ _ _ _ (Ros.cells (Ros.give r k)) _ rfl hE Tryz.underlying33 rfl ros_info
  · exact ⟨rfl, Below.setRow' VB.out (by omega) _⟩

set_option maxRecDepth 100000 in
set_option maxHeartbeats 2000000 in
theorem rostake_no (r : Ros.R) (s p : Int) (w : World) (hno : ¬ Ros.MayTake r s p) :
    Calls Tryz.prog 47 #[.agg (Ros.cells r), .int .i64 s, .int .i64 p] w fun e w' => e = .returned (.tuple #[.agg (Ros.cells r), .int .i64 1]) ∧ Below w.heap.size w w' := by
  have cc := fun X => Lib.hid (roschange_any r s X)
  have cp := fun X => Lib.hid (rospeer_any p X)
  have co := fun X => Lib.hid (rosof_any r p X)
  have P0 := Lib.hid ((Box.made w 33 (Ros.cells r)).alloc (.cells (Ros.cells rosZero) 33))
  have P1 := Lib.hid (Box.made_at (n := w.heap.size + 1) (w.alloc (.cells (Ros.cells r) 33)) 33 (Ros.cells rosZero) (by simp))
  have PB := Lib.hid (two_below' w (.cells (Ros.cells r) 33) (.cells (Ros.cells rosZero) 33))
  have c0 := Ros.cells_0 r
  by_cases hch : (Ros.Ok r ∧ r.version < 1073741824) ∧ 0 ≤ s ∧ s < 8
  · rw [decide_eq_true hch] at cc
    by_cases hp : 0 ≤ p ∧ p < 12
    · rw [decide_eq_true hp] at cp
      by_cases ho : Ros.of r p = -1
      · rw [ho] at co
        obtain ⟨k, rfl⟩ : ∃ k : Nat, s = k := ⟨s.toNat, by omega⟩
        have hk : k < 8 := by omega
        have hk8 : (k : Int) < 8 := by omega
        have cpk := Ros.cells_peer r k hk
        have cgk := Ros.cells_gen r k hk
        by_cases hpk : r.peer k = -1
        · have hgk : r.gen k = 60000 := Decidable.byContradiction fun h => hno ⟨⟨hch, hp, ho⟩, hpk, h⟩
          rw [hpk] at cpk
          rw [hgk] at cgk
          clear hno hch hp ho hpk hgk
          go_enter Tryz.func47, Tryz.ntmps47
          go_wp2_with (first | ((with_reducible refine ros_alloc rfl rfl ?_)) | ((with_reducible refine ros_load rfl rfl ?_); apply LoadRow.mk rfl; (focus (with_reducible exact P0.out)); (focus (exact ros_info))) | (go_at_call 82; ((with_reducible refine ((cc _).out).mono ?_); rintro e w1 ⟨rfl, hb⟩; have Q0 := Lib.hid (P0.out.below hb P0.out.lt); have Q1 := Lib.hid (P1.out.below hb P1.out.lt); have QB := Lib.hid (PB.out.trans (hb.mono PB.out.size)); have q0 := Q0.out.cell; have qf := Q0.out.free; clear hb)) | (go_at_call 83; ((with_reducible refine ((cp _).out).mono ?_); rintro e w9 ⟨rfl, rfl⟩)) | (go_at_call 84; ((with_reducible refine ((co _).out).mono ?_); rintro e w2 ⟨rfl, hb⟩; have S0 := Lib.hid (Q0.out.below hb Q0.out.lt); have S1 := Lib.hid (Q1.out.below hb Q1.out.lt); have SB := Lib.hid (QB.out.trans (hb.mono QB.out.size)); have s0 := S0.out.cell; have sf := S0.out.free; clear hb)) | ((with_reducible refine ros_load_g ?_ rfl ?_); (focus first | rfl | kernel_rfl | simp [Region.wanted, yielded]); apply LoadRow.mk rfl; (focus (with_reducible exact Q0.out)); (focus (exact ros_info))) | ((with_reducible refine ros_load rfl rfl ?_); apply LoadRow.mk rfl; (focus (with_reducible exact S0.out)); (focus (exact ros_info))) | ((with_reducible refine ros_store rfl rfl ?_); apply StoreRow.mk rfl rfl; (focus (with_reducible exact S1.out)); (focus (exact ros_info)); (focus rfl); (focus (exact ros_one _))))
          have hE := S1.out.row (Ros.cells r)
          refine bodyPost_ret (v := .tuple #[.agg (Ros.cells r), .int .i64 1]) ?_ rfl ?_
          · exact results_cell_tmp (p := 6) (q := 7) rfl _ _ _ _ (Ros.cells r) _ rfl hE Tryz.underlying33 rfl ros_info
          · exact ⟨rfl, Below.setRow' SB.out (by omega) _⟩
        · obtain ⟨pk, hpe⟩ : ∃ pk, r.peer k = pk := ⟨_, rfl⟩
          rw [hpe] at cpk hpk
          have hb : (pk == -1) = false := by simpa using hpk
          have hb' : (pk != -1) = true := by simpa using hpk
          clear hno hch hp ho hpk hpe
          go_enter Tryz.func47, Tryz.ntmps47
          go_wp2_with (first | ((with_reducible refine ros_alloc rfl rfl ?_)) | ((with_reducible refine ros_load rfl rfl ?_); apply LoadRow.mk rfl; (focus (with_reducible exact P0.out)); (focus (exact ros_info))) | (go_at_call 82; ((with_reducible refine ((cc _).out).mono ?_); rintro e w1 ⟨rfl, hb⟩; have Q0 := Lib.hid (P0.out.below hb P0.out.lt); have Q1 := Lib.hid (P1.out.below hb P1.out.lt); have QB := Lib.hid (PB.out.trans (hb.mono PB.out.size)); have q0 := Q0.out.cell; have qf := Q0.out.free; clear hb)) | (go_at_call 83; ((with_reducible refine ((cp _).out).mono ?_); rintro e w9 ⟨rfl, rfl⟩)) | (go_at_call 84; ((with_reducible refine ((co _).out).mono ?_); rintro e w2 ⟨rfl, hb⟩; have S0 := Lib.hid (Q0.out.below hb Q0.out.lt); have S1 := Lib.hid (Q1.out.below hb Q1.out.lt); have SB := Lib.hid (QB.out.trans (hb.mono QB.out.size)); have s0 := S0.out.cell; have sf := S0.out.free; clear hb)) | ((with_reducible refine ros_load_g ?_ rfl ?_); (focus first | rfl | kernel_rfl | simp [Region.wanted, yielded]); apply LoadRow.mk rfl; (focus (with_reducible exact Q0.out)); (focus (exact ros_info))) | ((with_reducible refine ros_load rfl rfl ?_); apply LoadRow.mk rfl; (focus (with_reducible exact S0.out)); (focus (exact ros_info))) | ((with_reducible refine ros_store rfl rfl ?_); apply StoreRow.mk rfl rfl; (focus (with_reducible exact S1.out)); (focus (exact ros_info)); (focus rfl); (focus (exact ros_one _))))
          have hE := S1.out.row (Ros.cells r)
          refine bodyPost_ret (v := .tuple #[.agg (Ros.cells r), .int .i64 1]) ?_ rfl ?_
          · exact results_cell_tmp (p := 6) (q := 7) rfl _ _ _ _ (Ros.cells r) _ rfl hE Tryz.underlying33 rfl ros_info
          · exact ⟨rfl, Below.setRow' SB.out (by omega) _⟩
      · have hb' : (Ros.of r p != -1) = true := by simpa using ho
        generalize Ros.of r p = o at co hb'
        clear hno hch hp ho
        go_enter Tryz.func47, Tryz.ntmps47
        go_wp2_with (first | ((with_reducible refine ros_alloc rfl rfl ?_)) | ((with_reducible refine ros_load rfl rfl ?_); apply LoadRow.mk rfl; (focus (with_reducible exact P0.out)); (focus (exact ros_info))) | (go_at_call 82; ((with_reducible refine ((cc _).out).mono ?_); rintro e w1 ⟨rfl, hb⟩; have Q0 := Lib.hid (P0.out.below hb P0.out.lt); have Q1 := Lib.hid (P1.out.below hb P1.out.lt); have QB := Lib.hid (PB.out.trans (hb.mono PB.out.size)); have q0 := Q0.out.cell; have qf := Q0.out.free; clear hb)) | (go_at_call 83; ((with_reducible refine ((cp _).out).mono ?_); rintro e w9 ⟨rfl, rfl⟩)) | (go_at_call 84; ((with_reducible refine ((co _).out).mono ?_); rintro e w2 ⟨rfl, hb⟩; have S0 := Lib.hid (Q0.out.below hb Q0.out.lt); have S1 := Lib.hid (Q1.out.below hb Q1.out.lt); have SB := Lib.hid (QB.out.trans (hb.mono QB.out.size)); have s0 := S0.out.cell; have sf := S0.out.free; clear hb)) | ((with_reducible refine ros_load_g ?_ rfl ?_); (focus first | rfl | kernel_rfl | simp [Region.wanted, yielded]); apply LoadRow.mk rfl; (focus (with_reducible exact Q0.out)); (focus (exact ros_info))) | ((with_reducible refine ros_load rfl rfl ?_); apply LoadRow.mk rfl; (focus (with_reducible exact S0.out)); (focus (exact ros_info))) | ((with_reducible refine ros_store rfl rfl ?_); apply StoreRow.mk rfl rfl; (focus (with_reducible exact S1.out)); (focus (exact ros_info)); (focus rfl); (focus (exact ros_one _))))
        have hE := S1.out.row (Ros.cells r)
        refine bodyPost_ret (v := .tuple #[.agg (Ros.cells r), .int .i64 1]) ?_ rfl ?_
        · exact results_cell_tmp (p := 6) (q := 7) rfl _ _ _ _ (Ros.cells r) _ rfl hE Tryz.underlying33 rfl ros_info
        · exact ⟨rfl, Below.setRow' SB.out (by omega) _⟩
    · rw [decide_eq_false hp] at cp
      clear hno hch hp
      go_enter Tryz.func47, Tryz.ntmps47
      go_wp2_with (first | ((with_reducible refine ros_alloc rfl rfl ?_)) | ((with_reducible refine ros_load rfl rfl ?_); apply LoadRow.mk rfl; (focus (with_reducible exact P0.out)); (focus (exact ros_info))) | (go_at_call 82; ((with_reducible refine ((cc _).out).mono ?_); rintro e w1 ⟨rfl, hb⟩; have Q0 := Lib.hid (P0.out.below hb P0.out.lt); have Q1 := Lib.hid (P1.out.below hb P1.out.lt); have QB := Lib.hid (PB.out.trans (hb.mono PB.out.size)); have q0 := Q0.out.cell; have qf := Q0.out.free; clear hb)) | (go_at_call 83; ((with_reducible refine ((cp _).out).mono ?_); rintro e w9 ⟨rfl, rfl⟩)) | ((with_reducible refine ros_load rfl rfl ?_); apply LoadRow.mk rfl; (focus (with_reducible exact Q0.out)); (focus (exact ros_info))) | ((with_reducible refine ros_store rfl rfl ?_); apply StoreRow.mk rfl rfl; (focus (with_reducible exact Q1.out)); (focus (exact ros_info)); (focus rfl); (focus (exact ros_one _))))
      have hE := Q1.out.row (Ros.cells r)
      refine bodyPost_ret (v := .tuple #[.agg (Ros.cells r), .int .i64 1]) ?_ rfl ?_
      · exact results_cell_tmp (p := 6) (q := 7) rfl _ _ _ _ (Ros.cells r) _ rfl hE Tryz.underlying33 rfl ros_info
      · exact ⟨rfl, Below.setRow' QB.out (by omega) _⟩
  · rw [decide_eq_false hch] at cc
    clear hch hno
    go_enter Tryz.func47, Tryz.ntmps47
    go_wp2_with (first | ((with_reducible refine ros_alloc rfl rfl ?_)) | ((with_reducible refine ros_load rfl rfl ?_); apply LoadRow.mk rfl; (focus (with_reducible exact P0.out)); (focus (exact ros_info))) | (go_at_call 82; ((with_reducible refine ((cc _).out).mono ?_); rintro e w1 ⟨rfl, hb⟩; have Q0 := Lib.hid (P0.out.below hb P0.out.lt); have Q1 := Lib.hid (P1.out.below hb P1.out.lt); have QB := Lib.hid (PB.out.trans (hb.mono PB.out.size)); have q0 := Q0.out.cell; have qf := Q0.out.free; clear hb)) | ((with_reducible refine ros_load rfl rfl ?_); apply LoadRow.mk rfl; (focus (with_reducible exact Q0.out)); (focus (exact ros_info))) | ((with_reducible refine ros_store rfl rfl ?_); apply StoreRow.mk rfl rfl; (focus (with_reducible exact Q1.out)); (focus (exact ros_info)); (focus rfl); (focus (exact ros_one _))))
    have hE := Q1.out.row (Ros.cells r)
    refine bodyPost_ret (v := .tuple #[.agg (Ros.cells r), .int .i64 1]) ?_ rfl ?_
    · exact results_cell_tmp (p := 6) (q := 7) rfl _ _ _ _ (Ros.cells r) _ rfl hE Tryz.underlying33 rfl ros_info
    · exact ⟨rfl, Below.setRow' QB.out (by omega) _⟩

set_option maxRecDepth 100000 in
set_option maxHeartbeats 2000000 in
theorem rostake_yes (r : Ros.R) (k : Nat) (p : Int) (w : World) (hyes : Ros.MayTake r k p) :
    Calls Tryz.prog 47 #[.agg (Ros.cells r), .int .i64 k, .int .i64 p] w fun e w' => e = .returned (.tuple #[.agg (Ros.cells (Ros.take r k p)), .int .i64 0]) ∧ Below w.heap.size w w' := by
  have cc := fun X => Lib.hid (roschange_any r k X)
  have cp := fun X => Lib.hid (rospeer_any p X)
  have co := fun X => Lib.hid (rosof_any r p X)
  have P0 := Lib.hid ((Box.made w 33 (Ros.cells r)).alloc (.cells (Ros.cells rosZero) 33))
  have P1 := Lib.hid (Box.made_at (n := w.heap.size + 1) (w.alloc (.cells (Ros.cells r) 33)) 33 (Ros.cells rosZero) (by simp))
  have PB := Lib.hid (two_below' w (.cells (Ros.cells r) 33) (.cells (Ros.cells rosZero) 33))
  have c0 := Ros.cells_0 r
  obtain ⟨⟨hch, hp, ho⟩, hpk, hgk⟩ := hyes
  rw [decide_eq_true hch] at cc
  rw [decide_eq_true hp] at cp
  rw [ho] at co
  have hk : k < 8 := by omega
  have hk8 : (k : Int) < 8 := by omega
  have cpk := Ros.cells_peer r k hk
  have cgk := Ros.cells_gen r k hk
  rw [show r.peer k = -1 from hpk] at cpk
  have hgk' : r.gen k ≠ 60000 := hgk
  have hgb := (Ros.Ok.seat hch.1.1 k hk).1
  obtain ⟨gk, hge⟩ : ∃ gk, r.gen k = gk := ⟨_, rfl⟩
  have HGE := Lib.hid hge
  rw [hge] at cgk hgk' hgb
  have hb : (gk == 60000) = false := by simpa using hgk'
  have hwg : IntKind.i64.wrap (gk + 1) = gk + 1 := by rw [IntKind.wrap_i64]; omega
  have hwrap : IntKind.i64.wrap (r.version + 1) = r.version + 1 := by rw [IntKind.wrap_i64]; have := hch.1.1.1; omega
  clear hch hp ho hpk hgk hgk' hge hgb
  go_enter Tryz.func47, Tryz.ntmps47
  go_upto_region 9 with (first | ((with_reducible refine ros_alloc rfl rfl ?_)) | ((with_reducible refine ros_load rfl rfl ?_); apply LoadRow.mk rfl; (focus (with_reducible exact P0.out)); (focus (exact ros_info))) | (go_at_call 82; ((with_reducible refine ((cc _).out).mono ?_); rintro e w1 ⟨rfl, hb⟩; have Q0 := Lib.hid (P0.out.below hb P0.out.lt); have Q1 := Lib.hid (P1.out.below hb P1.out.lt); have QB := Lib.hid (PB.out.trans (hb.mono PB.out.size)); have q0 := Q0.out.cell; have qf := Q0.out.free; clear hb)) | (go_at_call 83; ((with_reducible refine ((cp _).out).mono ?_); rintro e w9 ⟨rfl, rfl⟩)) | (go_at_call 84; ((with_reducible refine ((co _).out).mono ?_); rintro e w2 ⟨rfl, hb⟩; have S0 := Lib.hid (Q0.out.below hb Q0.out.lt); have S1 := Lib.hid (Q1.out.below hb Q1.out.lt); have SB := Lib.hid (QB.out.trans (hb.mono QB.out.size)); have s0 := S0.out.cell; have sf := S0.out.free; clear hb)) | ((with_reducible refine ros_load_g ?_ rfl ?_); (focus first | rfl | kernel_rfl | simp [Region.wanted, yielded]); apply LoadRow.mk rfl; (focus (with_reducible exact Q0.out)); (focus (exact ros_info))))
  obtain ⟨U, hU⟩ : ∃ U, U = ((w2.setCell ⟨w.heap.size, 1 + k * 2, none⟩ (.int .i64 p)).setCell ⟨w.heap.size, 1 + k * 2 + 1, none⟩ (.int .i64 (gk + 1))).setCell ⟨w.heap.size, 0, none⟩ (.int .i64 (r.version + 1)) := ⟨_, rfl⟩
  have U0 : Box U w.heap.size 33 (Ros.cells (Ros.take r k p)) := by rw [hU]; unfold Ros.take; rw [HGE.out]; exact ((S0.out.rosp hk p).rosg hk _).rosv _
  have U1 : Box U (w.heap.size + 1) 33 (Ros.cells rosZero) := by rw [hU]; exact ((S1.out.far (by show _ ≠ _; simp) _).far (by show _ ≠ _; simp) _).far (by show _ ≠ _; simp) _
  have UB : Below w.heap.size w U := by rw [hU]; exact ((SB.out.setCell (Nat.le_refl _) _).setCell (Nat.le_refl _) _).setCell (Nat.le_refl _) _
  rw [← hU]
  have V0 := Lib.hid U0
  have V1 := Lib.hid U1
  have VB := Lib.hid UB
  clear hU U0 U1 UB S0 S1 SB s0 sf Q0 Q1 QB q0 qf
  go_wp2_with (first | ((with_reducible refine ros_load rfl rfl ?_); apply LoadRow.mk rfl; (focus (with_reducible exact V0.out)); (focus (exact ros_info))) | ((with_reducible refine ros_store rfl rfl ?_); apply StoreRow.mk rfl rfl; (focus (with_reducible exact V1.out)); (focus (exact ros_info)); (focus rfl); (focus (exact ros_one _))))
  have hE := V1.out.row (Ros.cells (Ros.take r k p))
  refine bodyPost_ret (v := .tuple #[.agg (Ros.cells (Ros.take r k p)), .int .i64 0]) ?_ rfl ?_
  · exact results_cell_tmp (p := 6) (q := 7) rfl _ _ _ _ (Ros.cells (Ros.take r k p)) _ rfl hE Tryz.underlying33 rfl ros_info
  · exact ⟨rfl, Below.setRow' VB.out (by omega) _⟩
end Go.Proofs.YtkkhdaeihnbilaaGreat
namespace Go.Proofs.YtkkhdaeihnbilaaGreat
open Go.RowKit Go.Shelf
set_option linter.unusedVariables false
set_option linter.unusedSimpArgs false

set_option maxRecDepth 100000 in
set_option maxHeartbeats 2000000 in
theorem rosapply_join_yes (r : Ros.R) (k : Nat) (g p : Int) (w : World) (h : Ros.MayTake r k p) (hg : g = r.gen k + 1) :
    Calls Tryz.prog 23 #[.agg (Ros.cells r), .agg #[.int .i64 1, .int .i64 k, .int .i64 g, .int .i64 p]] w fun e w' => e = .returned (.tuple #[.agg (Ros.cells (Ros.take r k p)), .int .i64 0]) ∧ Below w.heap.size w w' := by
  have ct := fun X => Lib.hid (rostake_yes r k p X h)
  have P0 := Lib.hid (((Box.made w 33 (Ros.cells r)).alloc (.cells #[.int .i64 1, .int .i64 k, .int .i64 g, .int .i64 p] 61)).alloc (.cells (Ros.cells rosZero) 33))
  have P1 := Lib.hid ((Box.made_at (n := w.heap.size + 1) (w.alloc (.cells (Ros.cells r) 33)) 61 #[.int .i64 1, .int .i64 k, .int .i64 g, .int .i64 p] (by simp)).alloc (.cells (Ros.cells rosZero) 33))
  have P2 := Lib.hid (Box.made_at (n := w.heap.size + 1 + 1) ((w.alloc (.cells (Ros.cells r) 33)).alloc (.cells #[.int .i64 1, .int .i64 k, .int .i64 g, .int .i64 p] 61)) 33 (Ros.cells rosZero) (by simp))
  have PB := Lib.hid ((two_below' w (.cells (Ros.cells r) 33) (.cells #[.int .i64 1, .int .i64 k, .int .i64 g, .int .i64 p] 61)).alloc (by simp <;> omega) (.cells (Ros.cells rosZero) 33))
  have hk : k < 8 := by have := h.1.1.2; omega
  have hk8 : (k : Int) < 8 := by omega
  have cgk := Ros.cells_gen (Ros.take r k p) k hk
  rw [show (Ros.take r k p).gen k = r.gen k + 1 from Ros.upd_same _ _ _] at cgk
  obtain ⟨g', hg'⟩ : ∃ g', g' = r.gen k + 1 := ⟨_, rfl⟩
  rw [← hg'] at cgk hg
  subst hg
  clear h hg'
  have p1 := P1.out.cell
  go_enter Tryz.func23, Tryz.ntmps23
  go_upto_region 4 with (first | ((with_reducible refine ros_alloc rfl rfl ?_)) | ((with_reducible refine ros_store_new rfl rfl rfl rfl rfl ?_)) | ((with_reducible refine ros_load rfl rfl ?_); apply LoadRow.mk rfl; (focus (with_reducible exact P0.out)); (focus (exact ros_info))) | (go_at_call 47; ((with_reducible refine ((ct _).out).mono ?_); rintro e w1 ⟨rfl, hb⟩; have Q0 := Lib.hid ((P0.out.below hb P0.out.lt).alloc (.cells (Ros.cells (Ros.take r k p)) 33)); have Q1 := Lib.hid ((P1.out.below hb P1.out.lt).alloc (.cells (Ros.cells (Ros.take r k p)) 33)); have Q2 := Lib.hid ((P2.out.below hb P2.out.lt).alloc (.cells (Ros.cells (Ros.take r k p)) 33)); have QB := Lib.hid (PB.out.trans (hb.mono PB.out.size)); have q1 := Q1.out.cell; clear hb)))
  have N0 := Lib.hid (Box.made w1 33 (Ros.cells (Ros.take r k p)))
  have n0 := N0.out.cell
  have NB := Lib.hid (QB.out.alloc QB.out.size (.cells (Ros.cells (Ros.take r k p)) 33))
  go_quiet (fail)
  go_wp2_with (first | ((with_reducible refine ros_load rfl rfl ?_); apply LoadRow.mk rfl; (focus (with_reducible exact N0.out.draws _)); (focus (exact ros_info))) | ((with_reducible refine ros_store rfl rfl ?_); apply StoreRow.mk rfl rfl; (focus (with_reducible exact Q2.out.draws _)); (focus (exact ros_info)); (focus rfl); (focus (exact ros_one _))))
  have hE := (Q2.out.draws nq).row (Ros.cells (Ros.take r k p))
  refine bodyPost_ret (v := .tuple #[.agg (Ros.cells (Ros.take r k p)), .int .i64 0]) ?_ rfl ?_
  · exact results_cell_tmp (p := 4) (q := 5) rfl _ _ _ _ (Ros.cells (Ros.take r k p)) _ rfl hE Tryz.underlying33 rfl ros_info
  · exact ⟨rfl, Below.setRow' (draws_below NB.out nq) (by omega) _⟩
set_option maxRecDepth 100000 in
set_option maxHeartbeats 2000000 in
theorem rosapply_join_gen (r : Ros.R) (k : Nat) (g p : Int) (w : World) (h : Ros.MayTake r k p) (hg : g ≠ r.gen k + 1) :
    Calls Tryz.prog 23 #[.agg (Ros.cells r), .agg #[.int .i64 1, .int .i64 k, .int .i64 g, .int .i64 p]] w fun e w' => e = .returned (.tuple #[.agg (Ros.cells r), .int .i64 1]) ∧ Below w.heap.size w w' := by
  have ct := fun X => Lib.hid (rostake_yes r k p X h)
  have P0 := Lib.hid (((Box.made w 33 (Ros.cells r)).alloc (.cells #[.int .i64 1, .int .i64 k, .int .i64 g, .int .i64 p] 61)).alloc (.cells (Ros.cells rosZero) 33))
  have P1 := Lib.hid ((Box.made_at (n := w.heap.size + 1) (w.alloc (.cells (Ros.cells r) 33)) 61 #[.int .i64 1, .int .i64 k, .int .i64 g, .int .i64 p] (by simp)).alloc (.cells (Ros.cells rosZero) 33))
  have P2 := Lib.hid (Box.made_at (n := w.heap.size + 1 + 1) ((w.alloc (.cells (Ros.cells r) 33)).alloc (.cells #[.int .i64 1, .int .i64 k, .int .i64 g, .int .i64 p] 61)) 33 (Ros.cells rosZero) (by simp))
  have PB := Lib.hid ((two_below' w (.cells (Ros.cells r) 33) (.cells #[.int .i64 1, .int .i64 k, .int .i64 g, .int .i64 p] 61)).alloc (by simp <;> omega) (.cells (Ros.cells rosZero) 33))
  have hk : k < 8 := by have := h.1.1.2; omega
  have hk8 : (k : Int) < 8 := by omega
  have cgk := Ros.cells_gen (Ros.take r k p) k hk
  rw [show (Ros.take r k p).gen k = r.gen k + 1 from Ros.upd_same _ _ _] at cgk
  obtain ⟨g', hg'⟩ : ∃ g', g' = r.gen k + 1 := ⟨_, rfl⟩
  rw [← hg'] at cgk hg
  have hb : (g' == g) = false := by simp; omega
  clear h hg'
  have p1 := P1.out.cell
  go_enter Tryz.func23, Tryz.ntmps23
  go_upto_region 4 with (first | ((with_reducible refine ros_alloc rfl rfl ?_)) | ((with_reducible refine ros_store_new rfl rfl rfl rfl rfl ?_)) | ((with_reducible refine ros_load rfl rfl ?_); apply LoadRow.mk rfl; (focus (with_reducible exact P0.out)); (focus (exact ros_info))) | (go_at_call 47; ((with_reducible refine ((ct _).out).mono ?_); rintro e w1 ⟨rfl, hb⟩; have Q0 := Lib.hid ((P0.out.below hb P0.out.lt).alloc (.cells (Ros.cells (Ros.take r k p)) 33)); have Q1 := Lib.hid ((P1.out.below hb P1.out.lt).alloc (.cells (Ros.cells (Ros.take r k p)) 33)); have Q2 := Lib.hid ((P2.out.below hb P2.out.lt).alloc (.cells (Ros.cells (Ros.take r k p)) 33)); have QB := Lib.hid (PB.out.trans (hb.mono PB.out.size)); have q1 := Q1.out.cell; clear hb)))
  have N0 := Lib.hid (Box.made w1 33 (Ros.cells (Ros.take r k p)))
  have n0 := N0.out.cell
  have NB := Lib.hid (QB.out.alloc QB.out.size (.cells (Ros.cells (Ros.take r k p)) 33))
  go_quiet (fail)
  go_wp2_with (first | ((with_reducible refine ros_load rfl rfl ?_); apply LoadRow.mk rfl; (focus (with_reducible exact Q0.out.draws _)); (focus (exact ros_info))) | ((with_reducible refine ros_store rfl rfl ?_); apply StoreRow.mk rfl rfl; (focus (with_reducible exact Q2.out.draws _)); (focus (exact ros_info)); (focus rfl); (focus (exact ros_one _))))
  have hE := (Q2.out.draws nq).row (Ros.cells r)
  refine bodyPost_ret (v := .tuple #[.agg (Ros.cells r), .int .i64 1]) ?_ rfl ?_
  · exact results_cell_tmp (p := 4) (q := 5) rfl _ _ _ _ (Ros.cells r) _ rfl hE Tryz.underlying33 rfl ros_info
  · exact ⟨rfl, Below.setRow' (draws_below NB.out nq) (by omega) _⟩
set_option maxRecDepth 100000 in
set_option maxHeartbeats 2000000 in
theorem rosapply_join_no (r : Ros.R) (s g p : Int) (w : World) (h : ¬ Ros.MayTake r s p) :
    Calls Tryz.prog 23 #[.agg (Ros.cells r), .agg #[.int .i64 1, .int .i64 s, .int .i64 g, .int .i64 p]] w fun e w' => e = .returned (.tuple #[.agg (Ros.cells r), .int .i64 1]) ∧ Below w.heap.size w w' := by
  have ct := fun X => Lib.hid (rostake_no r s p X h)
  have P0 := Lib.hid (((Box.made w 33 (Ros.cells r)).alloc (.cells #[.int .i64 1, .int .i64 s, .int .i64 g, .int .i64 p] 61)).alloc (.cells (Ros.cells rosZero) 33))
  have P1 := Lib.hid ((Box.made_at (n := w.heap.size + 1) (w.alloc (.cells (Ros.cells r) 33)) 61 #[.int .i64 1, .int .i64 s, .int .i64 g, .int .i64 p] (by simp)).alloc (.cells (Ros.cells rosZero) 33))
  have P2 := Lib.hid (Box.made_at (n := w.heap.size + 1 + 1) ((w.alloc (.cells (Ros.cells r) 33)).alloc (.cells #[.int .i64 1, .int .i64 s, .int .i64 g, .int .i64 p] 61)) 33 (Ros.cells rosZero) (by simp))
  have PB := Lib.hid ((two_below' w (.cells (Ros.cells r) 33) (.cells #[.int .i64 1, .int .i64 s, .int .i64 g, .int .i64 p] 61)).alloc (by simp <;> omega) (.cells (Ros.cells rosZero) 33))
  clear h
  have p1 := P1.out.cell
  go_enter Tryz.func23, Tryz.ntmps23
  go_upto_region 4 with (first | ((with_reducible refine ros_alloc rfl rfl ?_)) | ((with_reducible refine ros_store_new rfl rfl rfl rfl rfl ?_)) | ((with_reducible refine ros_load rfl rfl ?_); apply LoadRow.mk rfl; (focus (with_reducible exact P0.out)); (focus (exact ros_info))) | (go_at_call 47; ((with_reducible refine ((ct _).out).mono ?_); rintro e w1 ⟨rfl, hb⟩; have Q0 := Lib.hid ((P0.out.below hb P0.out.lt).alloc (.cells (Ros.cells r) 33)); have Q1 := Lib.hid ((P1.out.below hb P1.out.lt).alloc (.cells (Ros.cells r) 33)); have Q2 := Lib.hid ((P2.out.below hb P2.out.lt).alloc (.cells (Ros.cells r) 33)); have QB := Lib.hid (PB.out.trans (hb.mono PB.out.size)); have q1 := Q1.out.cell; clear hb)))
  have NB := Lib.hid (QB.out.alloc QB.out.size (.cells (Ros.cells r) 33))
  go_quiet (fail)
  go_wp2_with (first | ((with_reducible refine ros_load rfl rfl ?_); apply LoadRow.mk rfl; (focus (with_reducible exact Q0.out.draws _)); (focus (exact ros_info))) | ((with_reducible refine ros_store rfl rfl ?_); apply StoreRow.mk rfl rfl; (focus (with_reducible exact Q2.out.draws _)); (focus (exact ros_info)); (focus rfl); (focus (exact ros_one _))))
  have hE := (Q2.out.draws nq).row (Ros.cells r)
  refine bodyPost_ret (v := .tuple #[.agg (Ros.cells r), .int .i64 1]) ?_ rfl ?_
  · exact results_cell_tmp (p := 4) (q := 5) rfl _ _ _ _ (Ros.cells r) _ rfl hE Tryz.underlying33 rfl ros_info
  · exact ⟨rfl, Below.setRow' (draws_below NB.out nq) (by omega) _⟩
theorem seat_eql (a b c d : Int) (w : World) : (binOp .eql 30 (.agg #[.int .i64 a, .int .i64 b]) (.agg #[.int .i64 c, .int .i64 d])).run Tryz.prog w = .ok (.bool (decide (a = c ∧ b = d))) w := by
  by_cases h1 : a = c
  · by_cases h2 : b = d
    · subst h1 h2; go_simp <;> simp
    · have h3 : (b == d) = false := by simpa using h2
      subst h1; go_simp <;> simp [h2]
  · have h3 : (a == c) = false := by simpa using h1
    go_simp <;> simp [h1]
set_option maxRecDepth 100000 in
set_option maxHeartbeats 2000000 in
theorem rosapply_leave_seat (r : Ros.R) (k : Nat) (g p : Int) (w : World) (hk : k < 8) (h : ¬ (r.peer k = p ∧ r.gen k = g)) :
    Calls Tryz.prog 23 #[.agg (Ros.cells r), .agg #[.int .i64 2, .int .i64 k, .int .i64 g, .int .i64 p]] w fun e w' => e = .returned (.tuple #[.agg (Ros.cells r), .int .i64 1]) ∧ Below w.heap.size w w' := by
  have cs := fun X => Lib.hid (rosslot_any k X)
  have P0 := Lib.hid (((Box.made w 33 (Ros.cells r)).alloc (.cells #[.int .i64 2, .int .i64 k, .int .i64 g, .int .i64 p] 61)).alloc (.cells (Ros.cells rosZero) 33))
  have P1 := Lib.hid ((Box.made_at (n := w.heap.size + 1) (w.alloc (.cells (Ros.cells r) 33)) 61 #[.int .i64 2, .int .i64 k, .int .i64 g, .int .i64 p] (by simp)).alloc (.cells (Ros.cells rosZero) 33))
  have P2 := Lib.hid (Box.made_at (n := w.heap.size + 1 + 1) ((w.alloc (.cells (Ros.cells r) 33)).alloc (.cells #[.int .i64 2, .int .i64 k, .int .i64 g, .int .i64 p] 61)) 33 (Ros.cells rosZero) (by simp))
  have PB := Lib.hid ((two_below' w (.cells (Ros.cells r) 33) (.cells #[.int .i64 2, .int .i64 k, .int .i64 g, .int .i64 p] 61)).alloc (by simp <;> omega) (.cells (Ros.cells rosZero) 33))
  have hk8 : (k : Int) < 8 := by omega
  rw [decide_eq_true (show (0 : Int) ≤ k ∧ (k : Int) < 8 from by omega)] at cs
  have cpk := Ros.cells_peer r k hk
  have cgk := Ros.cells_gen r k hk
  obtain ⟨pk, hpk⟩ : ∃ pk, r.peer k = pk := ⟨_, rfl⟩
  obtain ⟨gk, hgk⟩ : ∃ gk, r.gen k = gk := ⟨_, rfl⟩
  rw [hpk] at cpk h
  rw [hgk] at cgk h
  have he := fun W => seat_eql pk gk p g W
  simp only [decide_eq_false h] at he
  clear h hpk hgk
  have p0 := P0.out.cell
  have p1 := P1.out.cell
  go_enter Tryz.func23, Tryz.ntmps23
  go_upto_region 7 with (first | ((with_reducible refine ros_alloc rfl rfl ?_)) | ((with_reducible refine ros_store_new rfl rfl rfl rfl rfl ?_)))
  go_quiet ((go_at_call 48; with_reducible exact draws_left (cs _).out))
  go_wp2_with (first | ((with_reducible refine ros_load rfl rfl ?_); apply LoadRow.mk rfl; (focus (with_reducible exact P0.out.draws _)); (focus (exact ros_info))) | ((with_reducible refine ros_store rfl rfl ?_); apply StoreRow.mk rfl rfl; (focus (with_reducible exact P2.out.draws _)); (focus (exact ros_info)); (focus rfl); (focus (exact ros_one _))))
  have hE := (P2.out.draws nq).row (Ros.cells r)
  refine bodyPost_ret (v := .tuple #[.agg (Ros.cells r), .int .i64 1]) ?_ rfl ?_
  · exact results_cell_tmp (p := 4) (q := 5) rfl _ _ _ _ (Ros.cells r) _ rfl hE Tryz.underlying33 rfl ros_info
  · exact ⟨rfl, Below.setRow' (draws_below PB.out nq) (by omega) _⟩
set_option maxRecDepth 100000 in
set_option maxHeartbeats 2000000 in
theorem rosapply_leave_yes (r : Ros.R) (k : Nat) (w : World) (h : Ros.MayGive r k) (g p : Int) (hp : r.peer k = p) (hg : r.gen k = g) :
    Calls Tryz.prog 23 #[.agg (Ros.cells r), .agg #[.int .i64 2, .int .i64 k, .int .i64 g, .int .i64 p]] w fun e w' => e = .returned (.tuple #[.agg (Ros.cells (Ros.give r k)), .int .i64 0]) ∧ Below w.heap.size w w' := by
  have cs := fun X => Lib.hid (rosslot_any k X)
  have P0 := Lib.hid (((Box.made w 33 (Ros.cells r)).alloc (.cells #[.int .i64 2, .int .i64 k, .int .i64 g, .int .i64 p] 61)).alloc (.cells (Ros.cells rosZero) 33))
  have P1 := Lib.hid ((Box.made_at (n := w.heap.size + 1) (w.alloc (.cells (Ros.cells r) 33)) 61 #[.int .i64 2, .int .i64 k, .int .i64 g, .int .i64 p] (by simp)).alloc (.cells (Ros.cells rosZero) 33))
  have P2 := Lib.hid (Box.made_at (n := w.heap.size + 1 + 1) ((w.alloc (.cells (Ros.cells r) 33)).alloc (.cells #[.int .i64 2, .int .i64 k, .int .i64 g, .int .i64 p] 61)) 33 (Ros.cells rosZero) (by simp))
  have PB := Lib.hid ((two_below' w (.cells (Ros.cells r) 33) (.cells #[.int .i64 2, .int .i64 k, .int .i64 g, .int .i64 p] 61)).alloc (by simp <;> omega) (.cells (Ros.cells rosZero) 33))
  have hk : k < 8 := by have := h.1.2; omega
  have cg := fun X => Lib.hid (rosgive_yes r k X h)
  have hk8 : (k : Int) < 8 := by omega
  rw [decide_eq_true (show (0 : Int) ≤ k ∧ (k : Int) < 8 from by omega)] at cs
  have cpk := Ros.cells_peer r k hk
  have cgk := Ros.cells_gen r k hk
  rw [hp] at cpk
  rw [hg] at cgk
  have he := fun W => seat_eql p g p g W
  simp only [decide_eq_true (show p = p ∧ g = g from ⟨rfl, rfl⟩)] at he
  clear h hp hg
  have p0 := P0.out.cell
  have p1 := P1.out.cell
  go_enter Tryz.func23, Tryz.ntmps23
  go_upto_region 7 with (first | ((with_reducible refine ros_alloc rfl rfl ?_)) | ((with_reducible refine ros_store_new rfl rfl rfl rfl rfl ?_)))
  go_quiet ((go_at_call 48; with_reducible exact draws_left (cs _).out))
  go_wp2_with (first | ((with_reducible refine ros_load rfl rfl ?_); apply LoadRow.mk rfl; (focus (with_reducible exact P0.out.draws _)); (focus (exact ros_info))) | (go_at_call 49; ((with_reducible refine ((cg _).out).mono ?_); rintro e w1 ⟨rfl, hb⟩; have Q2 := Lib.hid ((P2.out.draws nq).below hb P2.out.lt); have QB := Lib.hid ((draws_below PB.out nq).trans (hb.mono PB.out.size)); clear hb)) | ((with_reducible refine ros_store rfl rfl ?_); apply StoreRow.mk rfl rfl; (focus (with_reducible exact Q2.out)); (focus (exact ros_info)); (focus rfl); (focus (exact ros_one _))))
  have hE := Q2.out.row (Ros.cells (Ros.give r k))
  refine bodyPost_ret (v := .tuple #[.agg (Ros.cells (Ros.give r k)), .int .i64 0]) ?_ rfl ?_
  · exact results_cell_tmp (p := 4) (q := 5) rfl _ _ _ _ (Ros.cells (Ros.give r k)) _ rfl hE Tryz.underlying33 rfl ros_info
  · exact ⟨rfl, Below.setRow' QB.out (by omega) _⟩
set_option maxRecDepth 100000 in
set_option maxHeartbeats 2000000 in
theorem rosapply_leave_no (r : Ros.R) (k : Nat) (w : World) (hk : k < 8) (h : ¬ Ros.MayGive r k) (g p : Int) (hp : r.peer k = p) (hg : r.gen k = g) :
    Calls Tryz.prog 23 #[.agg (Ros.cells r), .agg #[.int .i64 2, .int .i64 k, .int .i64 g, .int .i64 p]] w fun e w' => e = .returned (.tuple #[.agg (Ros.cells r), .int .i64 1]) ∧ Below w.heap.size w w' := by
  have cs := fun X => Lib.hid (rosslot_any k X)
  have P0 := Lib.hid (((Box.made w 33 (Ros.cells r)).alloc (.cells #[.int .i64 2, .int .i64 k, .int .i64 g, .int .i64 p] 61)).alloc (.cells (Ros.cells rosZero) 33))
  have P1 := Lib.hid ((Box.made_at (n := w.heap.size + 1) (w.alloc (.cells (Ros.cells r) 33)) 61 #[.int .i64 2, .int .i64 k, .int .i64 g, .int .i64 p] (by simp)).alloc (.cells (Ros.cells rosZero) 33))
  have P2 := Lib.hid (Box.made_at (n := w.heap.size + 1 + 1) ((w.alloc (.cells (Ros.cells r) 33)).alloc (.cells #[.int .i64 2, .int .i64 k, .int .i64 g, .int .i64 p] 61)) 33 (Ros.cells rosZero) (by simp))
  have PB := Lib.hid ((two_below' w (.cells (Ros.cells r) 33) (.cells #[.int .i64 2, .int .i64 k, .int .i64 g, .int .i64 p] 61)).alloc (by simp <;> omega) (.cells (Ros.cells rosZero) 33))
  have cg := fun X => Lib.hid (rosgive_no r k X h)
  have hk8 : (k : Int) < 8 := by omega
  rw [decide_eq_true (show (0 : Int) ≤ k ∧ (k : Int) < 8 from by omega)] at cs
  have cpk := Ros.cells_peer r k hk
  have cgk := Ros.cells_gen r k hk
  rw [hp] at cpk
  rw [hg] at cgk
  have he := fun W => seat_eql p g p g W
  simp only [decide_eq_true (show p = p ∧ g = g from ⟨rfl, rfl⟩)] at he
  clear h hp hg
  have p0 := P0.out.cell
  have p1 := P1.out.cell
  go_enter Tryz.func23, Tryz.ntmps23
  go_upto_region 7 with (first | ((with_reducible refine ros_alloc rfl rfl ?_)) | ((with_reducible refine ros_store_new rfl rfl rfl rfl rfl ?_)))
  go_quiet ((go_at_call 48; with_reducible exact draws_left (cs _).out))
  go_wp2_with (first | ((with_reducible refine ros_load rfl rfl ?_); apply LoadRow.mk rfl; (focus (with_reducible exact P0.out.draws _)); (focus (exact ros_info))) | (go_at_call 49; ((with_reducible refine ((cg _).out).mono ?_); rintro e w1 ⟨rfl, hb⟩; have Q2 := Lib.hid ((P2.out.draws nq).below hb P2.out.lt); have QB := Lib.hid ((draws_below PB.out nq).trans (hb.mono PB.out.size)); clear hb)) | ((with_reducible refine ros_store rfl rfl ?_); apply StoreRow.mk rfl rfl; (focus (with_reducible exact Q2.out)); (focus (exact ros_info)); (focus rfl); (focus (exact ros_one _))))
  have hE := Q2.out.row (Ros.cells r)
  refine bodyPost_ret (v := .tuple #[.agg (Ros.cells r), .int .i64 1]) ?_ rfl ?_
  · exact results_cell_tmp (p := 4) (q := 5) rfl _ _ _ _ (Ros.cells r) _ rfl hE Tryz.underlying33 rfl ros_info
  · exact ⟨rfl, Below.setRow' QB.out (by omega) _⟩
end Go.Proofs.YtkkhdaeihnbilaaGreat
