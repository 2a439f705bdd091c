/-
The program's roster: the one that begins; who has which slot; which is free; who has one, by bits.
-/
import Derived.Test.YtbpipkcdbcfenaaTd
namespace Go.Proofs.Ytbpipkcdbcfenaa
open Go.RowKit Go.Shelf
set_option linter.unusedVariables false
set_option linter.unusedSimpArgs false
attribute [local go_sem] Oper.semAt_some

/-- The roster of New on its way. -/
def clearSt (l : List Ros.Sl) : Ros.R := l.foldl (fun r x => { r with peer := Ros.upd r.peer x.1 (-1) }) rosZero
theorem clearSt_snoc (l : List Ros.Sl) (x : Ros.Sl) : clearSt (l ++ [x]) = { clearSt l with peer := Ros.upd (clearSt l).peer x.1 (-1) } := by
  unfold clearSt; rw [List.foldl_append]; rfl
theorem clearSt_all : Ros.cells (clearSt Ros.all8) = Ros.cells Ros.new := rfl

set_option maxRecDepth 100000 in
set_option maxHeartbeats 4000000 in
theorem rosnew_any (w : World) :
    Calls Try.prog 37 #[] w fun e w' => e = .returned (.agg (Ros.cells Ros.new)) ∧ Below w.heap.size w w' := by
  refine (callsIn_wide (n := 10)).1 (callsIn_of_wp_marks Try.func37 rfl trivial (wpIn_wide.2 ?_) rfl)
  simp only [Try.ntmps37, List.size_toArray, List.length_cons, List.length_nil, Nat.reduceAdd, Nat.reduceSub, Array.replicate_succ, Array.replicate_zero, List.push_toArray, List.append_toArray, List.nil_append, List.cons_append]
  go_upto_block 0 with (first | ((with_reducible refine ros_alloc rfl rfl ?_)) | (go_at_call 85; ((with_reducible refine (seats_any _ _).mono ?_); rintro e w3 ⟨rfl, rfl⟩)))
  have M0 : Sit (w.heap.size + 1) (w.heap.size + 1 + 1) w (clearSt []) (((w.alloc (.cells (Ros.cells rosZero) 51)).alloc (.cells (Ros.cells rosZero) 51)).alloc (.cells #[.pointer (some ⟨w.heap.size + 1, 0, none⟩)] 128)) ∧ Box (((w.alloc (.cells (Ros.cells rosZero) 51)).alloc (.cells (Ros.cells rosZero) 51)).alloc (.cells #[.pointer (some ⟨w.heap.size + 1, 0, none⟩)] 128)) w.heap.size 51 (Ros.cells rosZero) :=
    ⟨⟨(Box.made_at _ _ _ (by simp)).alloc _, Box.made_at _ _ _ (by simp), (((Below.refl _ _).alloc (Nat.le_refl _) _).alloc (by simp) _).alloc (by simp <;> omega) _⟩, ((Box.made w _ _).alloc _).alloc _⟩
  generalize hW0 : (((w.alloc (.cells (Ros.cells rosZero) 51)).alloc _).alloc _) = W0 at M0 ⊢
  have MM0 := Lib.hid M0
  have hs0 : Sitting (w.heap.size + 1) (w.heap.size + 1 + 1) W0 := M0.1.sit.cell 0
  clear hW0 M0
  refine (wpIn_wide (n := 10)).1 ?_
  refine wpIn_block ?_
  refine' wpIn_rangeFunc_ownF (n := 10) (w := W0) rfl (by omega) (gf := 122) (lb := #[.pointer (some ⟨w.heap.size + 1 + 1, 0, none⟩)]) rfl trivial (enters_of Try.func122 (by kernel_rfl) rfl)
    (seats1_stops (w.heap.size + 1) (w.heap.size + 1 + 1) _ W0 hs0) sitkp_t (sitkp_b (n := W0.heap.size)) (Below.refl _ _) (fun _ => rfl)
    (fun pre W => Sit (w.heap.size + 1) (w.heap.size + 1 + 1) w (clearSt pre) W ∧ Box W w.heap.size 51 (Ros.cells rosZero))
    (fun c pre W => False)
    (fun pre W W' row h hgr hr => ⟨h.1.turned hgr (fun r e => ⟨Nat.le_trans MM0.out.1.below.size (hr r e).1, (hr r e).2⟩), h.2.turned hgr (fun r e => (hr r e).2)⟩)
    (fun c pre W W' row h hgr hr => h)
    MM0.out _ ?assign ?body ?done ?stop
  case assign =>
    intro l x W K hK
    gi_wp2
    exact hK
  case body =>
    rintro l pre ⟨k, hk⟩ W ⟨hM, hR⟩ hlen
    have hk8 : (k : Int) < 8 := by omega
    have rp := Ros.cells_peer (clearSt pre) k hk
    have rc := hM.ros.cell
    have rf := hM.ros.free
    have HM := Lib.hid hM
    have HR := Lib.hid hR
    clear hM hR hlen
    gi_wp2
    have hset := HM.out.ros.put (1 + k * 2) (.int .i64 (-1))
    rw [Ros.cells_setp _ k hk] at hset
    refine ⟨KeepsOthers.setCell _ _ _, fun h => (World.cell?_of_block (heap_setCell_other _ _ _ _ (by show w.heap.size + 1 + 1 ≠ w.heap.size + 1; omega))).trans h, ⟨?_, HM.out.sit.far (by show _ ≠ _; simp) _, HM.out.below.setCell (by simp) _⟩, HR.out.far (by show _ ≠ _; simp) _⟩
    rw [clearSt_snoc]
    exact hset
  case done =>
    rintro D xs W hD rfl ⟨hM, hR⟩ hK
    have hDw : w.heap.size + 1 + 1 < D := Nat.lt_of_lt_of_le MM0.out.1.sit.lt hD
    have BR := Lib.hid (show Box W (w.heap.size + 1) 51 (Ros.cells Ros.new) from clearSt_all ▸ hM.ros)
    have BZ := Lib.hid hR
    have HB := Lib.hid (Below.setRow' hM.below (Nat.le_refl _) (Ros.cells Ros.new))
    have hne : D ≠ w.heap.size := by omega
    have HK := Lib.hid (show (W.setRow w.heap.size (Ros.cells Ros.new)).heap[D]? = some (.deferred (some [])) from (setRow_other W w.heap.size D _ hne).trans hK)
    clear hM hR hK
    go_wp2_with (first | ((with_reducible refine ros_load rfl rfl ?_); apply LoadRow.mk rfl; (focus (with_reducible exact BR.out)); (focus (exact ros_info))) | ((with_reducible refine ros_store rfl rfl ?_); apply StoreRow.mk rfl rfl; (focus (with_reducible exact BZ.out)); (focus (exact ros_info)); (focus rfl); (focus (exact ros_one _))))
    refine ⟨by simp, .inl ⟨_, _, rfl, run_takeDeferred HK.out, ?_⟩⟩
    have R6 := (BZ.out.row (Ros.cells Ros.new)).turned (grownBy_putObj' _ D (.deferred none)) (fun r e => by cases e; exact ⟨_, HK.out, rfl⟩)
    refine ⟨.agg (Ros.cells Ros.new), ?_, rfl, Below.turned HB.out (Nat.le_refl _) (grownBy_putObj' _ D (.deferred none)) (fun r e => by cases e; omega)⟩
    exact results_cell_row rfl _ _ _ _ (Ros.cells Ros.new) (0, 0) _ rfl R6.is Try.underlying51 rfl ros_info
  case stop =>
    rintro D c' pre W hD _ hf hK
    exact hf.elim

set_option maxRecDepth 100000 in
set_option maxHeartbeats 4000000 in
theorem rosof_any (r : Ros.R) (p : Int) (w : World) :
    Calls Try.prog 38 #[.agg (Ros.cells r), .int .i64 p] w fun e w' => e = .returned (.int .i64 (Ros.of r p)) ∧ Below w.heap.size w w' := by
  have cm := fun X => Lib.hid (rosmay_any r X)
  have cp := fun X => Lib.hid (rospeer_any p X)
  have B0 := ((Box.made w 51 (Ros.cells r)).alloc (.cells #[.int .i64 p] 3)).alloc (.cells #[.int .i64 0] 3)
  have B1 := (Box.made_at (n := w.heap.size + 1) (w.alloc (.cells (Ros.cells r) 51)) 3 #[.int .i64 p] (by simp)).alloc (.cells #[.int .i64 0] 3)
  have B2 := Box.made_at (n := w.heap.size + 1 + 1) ((w.alloc (.cells (Ros.cells r) 51)).alloc (.cells #[.int .i64 p] 3)) 3 #[.int .i64 0] (by simp)
  have b0 := (((Below.refl w.heap.size w).alloc (Nat.le_refl _) (.cells (Ros.cells r) 51)).alloc (by simp) (.cells #[.int .i64 p] 3)).alloc (by simp <;> omega) (.cells #[.int .i64 0] 3)
  have P0 := Lib.hid B0
  have P1 := Lib.hid B1
  have P2 := Lib.hid B2
  have PB := Lib.hid b0
  clear B0 B1 B2 b0
  have hof : Hid (Ros.of r p = if Ros.Ok r ∧ 0 ≤ p ∧ p < 12 then Ros.seatOf r p Ros.all8 else -1) := Lib.hid rfl
  by_cases hok : Ros.Ok r
  · have hmay : Ros.may r = true := decide_eq_true hok
    rw [hmay] at cm
    by_cases hp : 0 ≤ p ∧ p < 12
    · rw [decide_eq_true hp] at cp
      have HIF := Lib.hid (hof.out.trans (if_pos ⟨hok, hp⟩))
      clear hof hok hmay
      refine (callsIn_wide (n := 10)).1 (callsIn_of_wp_marks Try.func38 rfl trivial (wpIn_wide.2 ?_) rfl)
      simp only [Try.ntmps38, List.size_toArray, List.length_cons, List.length_nil, Nat.reduceAdd, Nat.reduceSub, Array.replicate_succ, Array.replicate_zero, List.push_toArray, List.append_toArray, List.nil_append, List.cons_append]
      go_upto_block 0 with (first | ((with_reducible refine ros_load rfl rfl ?_); apply LoadRow.mk rfl; (focus (with_reducible exact P0.out)); (focus (exact ros_info))) | (go_at_call 42; ((with_reducible refine ((cm _).out).mono ?_); rintro e w1 ⟨rfl, hb1⟩; have Q0 := Lib.hid (P0.out.below hb1 (by have := P0.out.lt; simp at this ⊢ <;> omega)); have Q1 := Lib.hid (P1.out.below hb1 (by have := P1.out.lt; simp at this ⊢ <;> omega)); have Q2 := Lib.hid (P2.out.below hb1 (by have := P2.out.lt; simp at this ⊢ <;> omega)); have QB := Lib.hid (PB.out.trans (hb1.mono PB.out.size)); have q1 := Q1.out.cell; have q2 := Q2.out.cell; have f2 := Q2.out.free; clear hb1)) | (go_at_call 86; ((with_reducible refine ((cp _).out).mono ?_); rintro e w2 ⟨rfl, rfl⟩)) | (go_at_call 85; ((with_reducible refine (seats_any _ _).mono ?_); rintro e w3 ⟨rfl, rfl⟩)))
      have M0 : Sit w.heap.size w1.heap.size w r (w1.alloc (.cells #[.pointer (some ⟨w.heap.size, 0, none⟩)] 128)) ∧ Box (w1.alloc (.cells #[.pointer (some ⟨w.heap.size, 0, none⟩)] 128)) (w.heap.size + 1) 3 #[.int .i64 p] ∧ Box (w1.alloc (.cells #[.pointer (some ⟨w.heap.size, 0, none⟩)] 128)) (w.heap.size + 1 + 1) 3 #[.int .i64 0] :=
        ⟨⟨Q0.out.alloc _, Box.made _ _ _, QB.out.alloc QB.out.size _⟩, Q1.out.alloc _, Q2.out.alloc _⟩
      have bgw : w.heap.size + 1 + 1 < w1.heap.size := Q2.out.lt
      generalize hW0 : (w1.alloc (.cells #[.pointer (some ⟨w.heap.size, 0, none⟩)] 128)) = W0 at M0 ⊢
      generalize w1.heap.size = Bg at *
      have MM0 := Lib.hid M0
      have hs0 : Sitting w.heap.size Bg W0 := M0.1.sit.cell 0
      have HP := Lib.hid hp
      clear hW0 M0 P0 P1 P2 PB Q0 Q1 Q2 QB q1 q2 f2 cm cp hp
      refine (wpIn_wide (n := 10)).1 ?_
      refine wpIn_block ?_
      refine' wpIn_rangeFunc_ownF (n := 10) (w := W0) rfl (by omega) (gf := 122) (lb := #[.pointer (some ⟨Bg, 0, none⟩)]) rfl trivial (enters_of Try.func122 (by kernel_rfl) rfl)
        (seats1_stops (w.heap.size) (Bg) _ W0 hs0) sitkp_t (sitkp_b (n := W0.heap.size)) (Below.refl _ _) (fun _ => rfl)
        (fun pre W => (Sit w.heap.size Bg w r W ∧ Box W (w.heap.size + 1) 3 #[.int .i64 p] ∧ Box W (w.heap.size + 1 + 1) 3 #[.int .i64 0]) ∧ ∀ y ∈ pre, r.peer y.1 ≠ p)
        (fun c pre W => c = .ret ∧ ∃ (pre' : List Ros.Sl) (x : Ros.Sl), pre = pre' ++ [x] ∧ (∀ y ∈ pre', r.peer y.1 ≠ p) ∧ r.peer x.1 = p ∧ Box W (w.heap.size + 1 + 1) 3 #[.int .i64 x.1] ∧ Below w.heap.size w W)
        (fun pre W W' row h hgr hr => ⟨⟨h.1.1.turned hgr (fun r e => ⟨Nat.le_trans MM0.out.1.below.size (hr r e).1, (hr r e).2⟩), h.1.2.1.turned hgr (fun r e => (hr r e).2), h.1.2.2.turned hgr (fun r e => (hr r e).2)⟩, h.2⟩)
        (fun c pre W W' row h hgr hr => (by
          obtain ⟨h0, pre', x, h1, h2, h3, h4, h5⟩ := h
          exact ⟨h0, pre', x, h1, h2, h3, h4.turned hgr (fun r e => (hr r e).2), Below.turned h5 (Nat.le_refl _) hgr (fun r e => Nat.le_trans MM0.out.1.below.size (hr r e).1)⟩))
        ⟨MM0.out, by simp⟩ _ ?assign ?body ?done ?stop
      case assign =>
        intro l x W K hK
        gi_wp2
        exact hK
      case body =>
        rintro l pre ⟨k, hk⟩ V ⟨⟨hM, hP, hR⟩, hpre⟩ hlen
        dsimp only
        have hk8 : (k : Int) < 8 := by omega
        have y0 := Ros.cells_peer r k hk
        have z0 : ∀ q : Ext V.heap.size V, q.w.cell? ⟨w.heap.size, 1 + k * 2, none⟩ = some (.int .i64 (r.peer k)) := fun q => q.cell hM.ros.lt ((hM.ros.cell _).trans y0)
        have z1 : ∀ q : Ext V.heap.size V, q.w.cell? ⟨w.heap.size + 1, 0, none⟩ = some (.int .i64 p) := fun q => q.cell hP.lt (hP.cell 0)
        obtain ⟨pk, hpk⟩ : ∃ pk, r.peer k = pk := ⟨_, rfl⟩
        rw [hpk] at z0
        have HM := Lib.hid hM
        have HPP := Lib.hid hP
        have HR := Lib.hid hR
        have HPRE := Lib.hid hpre
        have HPK := Lib.hid hpk
        clear hM hP hR hpre hpk y0 hlen
        refine wpIn_block ?_
        refine wpIn_seq_k ?_
        intro K hK
        by_cases he : pk = p
        · subst he
          have hb : (pk == pk) = true := by simp
          clear HPP
          refine Rt.region_ext V.heap.size V (by kernel_rfl) (by kernel_rfl) (by kernel_rfl) (by rintro ⟨_, _, h⟩; exact h) (Below.refl _ _) ?_
          repeat (go_big_quiet_step (fail))
          refine wpQuiet_nil ?_
          intro _ hw'
          obtain ⟨q, hw''⟩ := hw'
          subst hw''
          refine hK _ _ ?_
          have r2 := (HR.out.below q.h HR.out.lt)
          have q2 := r2.cell
          have f2 := r2.free
          have R2 := Lib.hid r2
          clear r2
          gi_wp2
          first
            | exact ⟨(below_others q.h).trans (KeepsOthers.setCell _ _ _), rfl, pre, ⟨k, hk⟩, rfl, HPRE.out, HPK.out, R2.out.put 0 _, (HM.out.call q.h).below.setCell (by simp <;> omega) _⟩
            | exact ⟨(below_others q.h).trans (KeepsOthers.setCell _ _ _), rfl, pre, k, ⟨hk, rfl⟩, fun a hb hm => HPRE.out ⟨a, hb⟩ hm, HPK.out, R2.out.put 0 _, (HM.out.call q.h).below.setCell (by simp <;> omega) _⟩
        · have hb : (pk == p) = false := by simpa using he
          refine Rt.region_ext V.heap.size V (by kernel_rfl) (by kernel_rfl) (by kernel_rfl) (by rintro ⟨_, _, h⟩; exact h) (Below.refl _ _) ?_
          repeat (go_big_quiet_step (fail))
          refine wpQuiet_nil ?_
          intro _ hw'
          obtain ⟨q, hw''⟩ := hw'
          subst hw''
          refine hK _ _ ?_
          have hnew : ∀ y ∈ pre ++ [(⟨k, hk⟩ : Ros.Sl)], r.peer y.1 ≠ p := fun y hy => by
            rcases List.mem_append.1 hy with h | h
            · exact HPRE.out y h
            · simp only [List.mem_singleton] at h
              subst h
              show r.peer k ≠ p
              rw [HPK.out]; exact he
          have HN := Lib.hid hnew
          clear hnew
          gi_wp2
          refine ⟨below_others q.h, fun hf => hf.below q.h, ⟨HM.out.call q.h, HPP.out.below q.h HPP.out.lt, HR.out.below q.h HR.out.lt⟩, ?_⟩
          first
            | exact HN.out
            | exact fun a hb hm => HN.out ⟨a, hb⟩ hm
      case done =>
        rintro D xs V hD rfl ⟨⟨hM, hP, hR⟩, hn⟩ hK
        have hres := hR.put 0 (.int .i64 (-1))
        have hK3 := others_kept (KeepsOthers.setCell V ⟨w.heap.size + 1 + 1, 0, none⟩ (.int .i64 (-1))) hK
        have hDw : w.heap.size ≤ D := Nat.le_trans MM0.out.1.below.size hD
        have hT := hres.turned (grownBy_putObj' _ D (.deferred none)) (fun r e => by cases e; exact ⟨_, hK3, rfl⟩)
        have hT2 := Lib.hid (Below.turned (hM.below.setCell (p := ⟨w.heap.size + 1 + 1, 0, none⟩) (by simp <;> omega) (.int .i64 (-1))) (Nat.le_refl _) (grownBy_putObj' _ D (.deferred none)) (fun r e => by cases e; exact hDw))
        have hno : Hid (Ros.of r p = -1) := Lib.hid (HIF.out.trans (Ros.seatOf_none hn))
        have HK3 := Lib.hid hK3
        have hc5 : ((V.setCell ⟨w.heap.size + 1 + 1, 0, none⟩ (.int .i64 (-1))).putObj D (.deferred none)).cell? ⟨w.heap.size + 1 + 1, 0, none⟩ = some (.int .i64 (-1)) := hT.cell 0
        have u4 := hR.cell
        have v4 := hR.free
        clear hM hres hK3 hT hK hn hP hR
        go_wp2
        refine ⟨by simp, .inl ⟨_, _, rfl, run_takeDeferred HK3.out, ?_⟩⟩
        refine ⟨.int .i64 (-1), ?_, by rw [hno.out], hT2.out⟩
        simp [results, Try.f38, go_sem, hc5]
      case stop =>
        rintro D c' pre V hD ⟨rest, hpre⟩ ⟨rfl, pre', x, rfl, h2, h3, h4, h5⟩ hK
        have hyes : Hid (Ros.of r p = x.1) := Lib.hid (HIF.out.trans (by rw [hpre, List.append_assoc]; exact Ros.seatOf_first h2 h3))
        have hDw : w.heap.size ≤ D := Nat.le_trans MM0.out.1.below.size hD
        have hT := h4.turned (grownBy_putObj' _ D (.deferred none)) (fun r e => by cases e; exact ⟨_, hK, rfl⟩)
        have hT2 := Lib.hid (Below.turned h5 (Nat.le_refl _) (grownBy_putObj' _ D (.deferred none)) (fun r e => by cases e; exact hDw))
        have hc5 : (V.putObj D (.deferred none)).cell? ⟨w.heap.size + 1 + 1, 0, none⟩ = some (.int .i64 x.1) := hT.cell 0
        have HK3 := Lib.hid hK
        clear h2 h3 h4 h5 hK hpre hT
        refine wpIn_ret ?_
        refine ⟨by simp, .inl ⟨_, _, rfl, run_takeDeferred HK3.out, ?_⟩⟩
        refine ⟨.int .i64 x.1, ?_, by rw [hyes.out], hT2.out⟩
        simp [results, Try.f38, go_sem, hc5]

    · rw [decide_eq_false hp] at cp
      have HIF := Lib.hid (hof.out.trans (if_neg fun h => hp h.2))
      clear hof hok hmay hp
      go_enter Try.func38, Try.ntmps38
      go_wp2_with (first | ((with_reducible refine ros_load rfl rfl ?_); apply LoadRow.mk rfl; (focus (with_reducible exact P0.out)); (focus (exact ros_info))) | (go_at_call 42; ((with_reducible refine ((cm _).out).mono ?_); rintro e w1 ⟨rfl, hb1⟩; have Q0 := Lib.hid (P0.out.below hb1 (by have := P0.out.lt; simp at this ⊢ <;> omega)); have Q1 := Lib.hid (P1.out.below hb1 (by have := P1.out.lt; simp at this ⊢ <;> omega)); have Q2 := Lib.hid (P2.out.below hb1 (by have := P2.out.lt; simp at this ⊢ <;> omega)); have QB := Lib.hid (PB.out.trans (hb1.mono PB.out.size)); have q1 := Q1.out.cell; have q2 := Q2.out.cell; have f2 := Q2.out.free; clear hb1)) | (go_at_call 86; ((with_reducible refine ((cp _).out).mono ?_); rintro e w2 ⟨rfl, rfl⟩)))
      have hT : (w1.setCell ⟨w.heap.size + 1 + 1, 0, none⟩ (.int .i64 (-1))).cell? ⟨w.heap.size + 1 + 1, 0, none⟩ = some (.int .i64 (-1)) := (Q2.out.put 0 (.int .i64 (-1))).cell 0
      refine bodyPost_ret (v := .int .i64 (-1)) (by simp [results, Try.f38, go_sem, hT]) rfl ?_
      exact ⟨by rw [HIF.out], QB.out.setCell (by simp <;> omega) _⟩
  · have hmay : Ros.may r = false := decide_eq_false hok
    rw [hmay] at cm
    have HIF := Lib.hid (hof.out.trans (if_neg fun h => hok h.1))
    clear hof hok hmay
    go_enter Try.func38, Try.ntmps38
    go_wp2_with (first | ((with_reducible refine ros_load rfl rfl ?_); apply LoadRow.mk rfl; (focus (with_reducible exact P0.out)); (focus (exact ros_info))) | (go_at_call 42; ((with_reducible refine ((cm _).out).mono ?_); rintro e w1 ⟨rfl, hb1⟩; have Q0 := Lib.hid (P0.out.below hb1 (by have := P0.out.lt; simp at this ⊢ <;> omega)); have Q1 := Lib.hid (P1.out.below hb1 (by have := P1.out.lt; simp at this ⊢ <;> omega)); have Q2 := Lib.hid (P2.out.below hb1 (by have := P2.out.lt; simp at this ⊢ <;> omega)); have QB := Lib.hid (PB.out.trans (hb1.mono PB.out.size)); have q1 := Q1.out.cell; have q2 := Q2.out.cell; have f2 := Q2.out.free; clear hb1)) | (go_at_call 86; ((with_reducible refine ((cp _).out).mono ?_); rintro e w2 ⟨rfl, rfl⟩)))
    have hT : (w1.setCell ⟨w.heap.size + 1 + 1, 0, none⟩ (.int .i64 (-1))).cell? ⟨w.heap.size + 1 + 1, 0, none⟩ = some (.int .i64 (-1)) := (Q2.out.put 0 (.int .i64 (-1))).cell 0
    refine bodyPost_ret (v := .int .i64 (-1)) (by simp [results, Try.f38, go_sem, hT]) rfl ?_
    exact ⟨by rw [HIF.out], QB.out.setCell (by simp <;> omega) _⟩

end Go.Proofs.Ytbpipkcdbcfenaa
