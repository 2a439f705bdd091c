/-
Several texts in one: Ds Iu Te Sb So Ol Ls Tl Sq Sqn Rj Jn Ckb Rgc Rgd Fqs Rge Ckc.
-/
import Derived.Test.YtmiopphcfdlneaaGreatCx9
set_option maxRecDepth 100000
set_option maxHeartbeats 8000000
set_option linter.unusedVariables false
set_option linter.unusedSimpArgs false
namespace Go.Proofs.YtmiopphcfdlneaaGreat
open Go.RowKit
theorem qnp (s : ByteArray) (k : Nat) (h : k < s.size) : s.data.toList.take (k + 1) = s.data.toList.take k ++ [s[k]] := by
 rw [List.take_succ_eq_append_getElem (by simpa using h)]; rfl
theorem qod (h c : Int) (wh : 0 <= h /\ h <= 18446744073709551615) (wc : 0 <= c /\ c <= 255) : IntKind.u64.wrap (bits .xor .u64 h c * 1099511628211) = Dn.mix h c := by
 rw [u64_xor h c wh.1 (Int.lt_of_le_of_lt wh.2 (by decide)) wc.1 (Int.lt_of_le_of_lt wc.2 (by decide)), qgk]; rfl
theorem qkN (s : ByteArray) (w : World) (hs : s.size <= maxLen) :
 Calls Tryz.prog 106 #[.string s] w fun e w' => e = .returned (.int .u64 (Dn.seed s.data.toList)) /\ w = w' := by
 unfold maxLen at hs
 go_enter Tryz.func106, Tryz.ntmps106
 go_wp2
 go_loop [3, 4] (fun n i => ∃ k : Nat, k <= s.size /\ i = .int .i64 k /\ n = .int .u64 (Dn.seed (s.data.toList.take k))) (fun _ i => s.size - (intOf i).toNat)
 case atStart => exact ⟨0, Nat.zero_le _, rfl, rfl⟩
 case round =>
  obtain ⟨k, hk, rfl, rfl⟩ := hrel
  by_cases hlt : k < s.size
  · have hb := Dn.qnK (s.data.toList.take k)
    have hc : (s[k].toNat : Int) <= 255 := by have := s[k].toNat_lt; omega
    have hm := qod (Dn.seed (s.data.toList.take k)) (s[k].toNat : Int) hb (by omega)
    have HS : Hid (Dn.seed (s.data.toList.take (k + 1)) = Dn.mix (Dn.seed (s.data.toList.take k)) (s[k].toNat : Int)) := qh (by rw [qnp s k hlt, Dn.qjg])
    go_wp2
    all_goals
     go_round
     case rel => exact ⟨k + 1, by omega, by go_num, by rw [HS.out]⟩
     case measure => simp [intOf]; omega
  · go_wp2
    go_ret
    exact ⟨qbL (by rw [List.take_of_length_le (by simp; omega)]), rfl⟩
theorem at_new (w : World) (o : Obj) (i : Nat) (h : i = w.heap.size) : (w.alloc o).heap[i]? = some o := by subst h; exact heap_alloc_new w o
open Go.RowKit Go.Shelf
def Im.r (k : Nat) : Ros.R := ⟨0, fun i => if i < k then -1 else 0, fun _ => 0⟩
theorem Im.qqZ (k : Nat) (hk : k < 8) : (Ros.cells (Im.r k)).setIfInBounds (1 + k * 2) (.int .i64 (-1)) = Ros.cells (Im.r (k + 1)) := by
 rw [Ros.qh4 _ k hk]
 refine Ros.qlp rfl (fun i hi => ?_) (fun i hi => rfl)
 show Ros.upd (Im.r k).peer k (-1) i = if i < k + 1 then -1 else 0
 unfold Ros.upd Im.r
 by_cases e : i = k
 · subst e; simp
 · rw [if_neg e]
   dsimp only
   by_cases h : i < k
   · rw [if_pos h, if_pos (by omega)]
   · rw [if_neg h, if_neg (by omega)]
theorem Im.r_8 : Ros.cells (Im.r 8) = Ros.cells Ros.new := rfl
theorem qms (w : World) : Calls Tryz.prog 69 #[] w fun e w' => e = .returned (.agg (Ros.cells Ros.new)) /\ Below w.heap.size w w' := by
 have P0 := qh ((Box.made w 36 (Ros.cells qau)).alloc (.cells (Ros.cells qau) 36))
 have P1 := qh (Box.qaq (n := w.heap.size + 1) (w.alloc (.cells (Ros.cells qau) 36)) 36 (Ros.cells (Im.r 0)) (by simp))
 have K1 := qh (((Below.refl w.heap.size w).alloc (Nat.le_refl _) (.cells (Ros.cells qau) 36)).alloc (by simp) (.cells (Ros.cells qau) 36))
 go_enter Tryz.func69, Tryz.ntmps69
 go_wp2_with (with_reducible refine qaU rfl rfl ?_)
 go_loopw [2] (fun i wr => ∃ k : Nat, k <= 8 /\ i = .int .i64 k /\ Box wr (w.heap.size + 1) 36 (Ros.cells (Im.r k)) /\ Box wr w.heap.size 36 (Ros.cells qau) /\ Below w.heap.size w wr) (fun i _ => 8 - (intOf i).toNat)
 case atStart => exact ⟨0, by omega, rfl, P1.out, P0.out, K1.out⟩
 case round =>
  obtain ⟨k, hk, rfl, hB, hZ, hK⟩ := hrel
  clear P0 P1 K1
  by_cases hlt : k < 8
  · have hk8 : (k : Int) < 8 := by omega
    have c0 := (hB.cell (1 + k * 2)).trans (Ros.qaQ (Im.r k) k hlt)
    have f0 := hB.free (1 + k * 2)
    have hp := hB.put (1 + k * 2) (.int .i64 (-1))
    rw [Im.qqZ k hlt] at hp
    have HB := qh hp
    have HZ := qh (hZ.far (p := ⟨w.heap.size + 1, 1 + k * 2, none⟩) (show w.heap.size ≠ w.heap.size + 1 by omega) (.int .i64 (-1)))
    have HK := qh (hK.setCell (p := ⟨w.heap.size + 1, 1 + k * 2, none⟩) (Nat.le_succ _) (.int .i64 (-1)))
    clear hB hZ hK hp
    go_wp2
    go_roundw
    case rel => exact ⟨k + 1, by omega, by go_num, HB.out, HZ.out, HK.out⟩
    case measure => simp [intOf]; omega
  · have hk8 : ¬ (k : Int) < 8 := by omega
    obtain rfl : k = 8 := by omega
    rw [Im.r_8] at hB
    have HB := qh hB
    have HZ := qh hZ
    have HK := qh hK
    clear hB hZ hK
    go_wp2_with (first | ((with_reducible refine qav rfl rfl ?_); apply qas.mk rfl; (focus (with_reducible exact HB.out)); (focus (exact qah))) | ((with_reducible refine qa5 rfl rfl ?_); apply qa6.mk rfl rfl; (focus (with_reducible exact HZ.out)); (focus (exact qah)); (focus rfl); (focus (exact qbr _))))
    refine bodyPost_ret (v := .agg (Ros.cells Ros.new)) ?_ ?_ ?_
    · exact results_cell_row rfl _ _ _ _ (Ros.cells Ros.new) (0, 0) _ rfl (HZ.out.row (Ros.cells Ros.new)).is Tryz.underlying36 rfl qah
    · rfl
    · exact ⟨rfl, Below.setRow' HK.out (Nat.le_refl _) (Ros.cells Ros.new)⟩
theorem qkQ (s : ByteArray) (w : World) (hs : s.size <= maxLen) :
 Calls Tryz.prog 68 #[.string s] w fun e w' => e = .returned (.agg (Gm.cells (Gm.new (Dn.seed s.data.toList)) (.slice none 0 0))) /\ Below w.heap.size w w' := by
 have c1 := fun X => qh (qkN s X hs)
 have hr := qh (rfl : Tryz.f68.results = _)
 go_enter Tryz.func68, Tryz.ntmps68
 go_wp2_with (first | (go_at_call 106; ((with_reducible refine ((c1 _).out).mono ?_); rintro e w' ⟨rfl, rfl⟩)) | (refine qbB rfl (t := 31) rfl qjW rfl ?_) | (refine qaT rfl (t := 31) (vs := [(1, .int .u64 (Dn.seed s.data.toList))]) rfl rfl (qoM _) ?_) | (refine qbv rfl (ty := 31) rfl rfl rfl rfl rfl qbh rfl (cells_one _ _ rfl) ?_))
 refine bodyPost_ret (v := .agg (Gm.cells (Gm.new (Dn.seed s.data.toList)) (.slice none 0 0))) ?_ ?_ ?_
 · exact results_cell_row rfl _ _ _ _ (Gm.cells (Gm.new (Dn.seed s.data.toList)) (.slice none 0 0)) (0, 0) _ rfl (Box.made _ _ _).is Tryz.underlying31 rfl qbh
 · rfl
 · exact ⟨rfl, qac _ _⟩
theorem qi9 (g : Gm.G) (s : Value) (r : Ros.R) : Tryz.prog.built 38 [(0, .agg (Gm.cells g s)), (1, .agg (Ros.cells r))] = some (Im.cells g s r) := by kernel_rfl
theorem qnt (s : ByteArray) (w : World) (hs : s.size <= maxLen) :
 Calls Tryz.prog 32 #[.string s] w fun e w' => e = .returned (.agg (Im.cells (Gm.new (Dn.seed s.data.toList)) (.slice none 0 0) Ros.new)) /\ Below w.heap.size w w' := by
 have P1 := qh (Box.made w 38 Im.zero)
 have K1 := qh (qac w (.cells Im.zero 38))
 have c1 := fun X => qh (qkQ s X hs)
 have c2 := fun X => qh (qms X)
 go_enter Tryz.func32, Tryz.ntmps32
 go_wp2_with (first | (with_reducible refine qaz rfl rfl ?_) | (go_at_call 68; ((with_reducible refine ((c1 _).out).mono ?_); rintro e w2 ⟨rfl, hb⟩; have P2 := qh (P1.out.below hb P1.out.lt); have K2 := qh (K1.out.trans (hb.mono K1.out.size)); clear hb)) | (go_at_call 69; ((with_reducible refine ((c2 _).out).mono ?_); rintro e w3 ⟨rfl, hb⟩; have P3 := qh (P2.out.below hb P2.out.lt); have K3 := qh (K2.out.trans (hb.mono K2.out.size)); clear hb)) | (refine qaT rfl (t := 38) (vs := [(0, .agg (Gm.cells (Gm.new (Dn.seed s.data.toList)) (.slice none 0 0))), (1, .agg (Ros.cells Ros.new))]) rfl rfl (qi9 _ _ _) ?_) | ((with_reducible refine qdI (t := 38) rfl rfl qax ?_); apply qcA.mk rfl rfl P3.out (qfL _ _ _ rfl) (Im.qaf _ _ _) Im.qaO))
 refine bodyPost_ret (v := .agg (Im.cells (Gm.new (Dn.seed s.data.toList)) (.slice none 0 0) Ros.new)) ?_ ?_ ?_
 · exact results_cell_row rfl _ _ _ _ (Im.cells (Gm.new (Dn.seed s.data.toList)) (.slice none 0 0) Ros.new) (0, 0) _ rfl (P3.out.row _).is Tryz.underlying38 rfl (by rw [Im.qaf]; exact qax)
 · rfl
 · exact ⟨rfl, Below.setRow' K3.out (Nat.le_refl _) _⟩
attribute [local go_sem] Oper.semAt_some
theorem qji (r : Ros.R) (p : Int) (w : World) :
 Calls Tryz.prog 177 #[.agg (Ros.cells r), .int .i64 p] w fun e w' => e = .returned (.int .i64 (Ros.of r p)) /\ Below w.heap.size w w' := by
 have cm := fun X => qh (qfj r X)
 have cp := fun X => qh (qdy p X)
 have B0 := ((Box.made w 36 (Ros.cells r)).alloc (.cells #[.int .i64 p] 3)).alloc (.cells #[.int .i64 0] 3)
 have B1 := (Box.qaq (n := w.heap.size + 1) (w.alloc (.cells (Ros.cells r) 36)) 3 #[.int .i64 p] (by simp)).alloc (.cells #[.int .i64 0] 3)
 have B2 := Box.qaq (n := w.heap.size + 1 + 1) ((w.alloc (.cells (Ros.cells r) 36)).alloc (.cells #[.int .i64 p] 3)) 3 #[.int .i64 0] (by simp)
 have b0 := (((Below.refl w.heap.size w).alloc (Nat.le_refl _) (.cells (Ros.cells r) 36)).alloc (by simp) (.cells #[.int .i64 p] 3)).alloc (by simp <;> omega) (.cells #[.int .i64 0] 3)
 have P0 := qh B0
 have P1 := qh B1
 have P2 := qh B2
 have PB := qh b0
 clear B0 B1 B2 b0
 have hof : Hid (Ros.of r p = if Ros.Ok r /\ 0 <= p /\ p < 12 then Ros.qeE r p Ros.all8 else -1) := qh rfl
 by_cases hok : Ros.Ok r
 · have hmay : Ros.may r = true := decide_eq_true hok
   rw [hmay] at cm
   by_cases hp : 0 <= p /\ p < 12
   · rw [decide_eq_true hp] at cp
     have HIF := qh (hof.out.trans (if_pos ⟨hok, hp⟩))
     clear hof hok hmay
     refine (callsIn_wide (n := 10)).1 (callsIn_of_wp_marks Tryz.func177 rfl trivial (wpIn_wide.2 ?_) rfl)
     simp only [Tryz.ntmps177, List.size_toArray, List.length_cons, List.length_nil, Nat.reduceAdd, Nat.reduceSub, Array.replicate_succ, Array.replicate_zero, List.push_toArray, List.append_toArray, List.nil_append, List.cons_append]
     go_upto_block 0 with (first | ((with_reducible refine qav rfl rfl ?_); apply qas.mk rfl; (focus (with_reducible exact P0.out)); (focus (exact qah))) | (go_at_call 167; ((with_reducible refine ((cm _).out).mono ?_); rintro e w1 ⟨rfl, hb1⟩; have Q0 := qh (P0.out.below hb1 (by have := P0.out.lt; simp at this ⊢ <;> omega)); have Q1 := qh (P1.out.below hb1 (by have := P1.out.lt; simp at this ⊢ <;> omega)); have Q2 := qh (P2.out.below hb1 (by have := P2.out.lt; simp at this ⊢ <;> omega)); have QB := qh (PB.out.trans (hb1.mono PB.out.size)); have q1 := Q1.out.cell; have q2 := Q2.out.cell; have f2 := Q2.out.free; clear hb1)) | (go_at_call 176; ((with_reducible refine ((cp _).out).mono ?_); rintro e w2 ⟨rfl, rfl⟩)) | (go_at_call 97; ((with_reducible refine (qjh _ _).mono ?_); rintro e w3 ⟨rfl, rfl⟩)))
     have M0 : Sit w.heap.size w1.heap.size w r (w1.alloc (.cells #[.pointer (some ⟨w.heap.size, 0, none⟩)] 150)) /\ Box (w1.alloc (.cells #[.pointer (some ⟨w.heap.size, 0, none⟩)] 150)) (w.heap.size + 1) 3 #[.int .i64 p] /\ Box (w1.alloc (.cells #[.pointer (some ⟨w.heap.size, 0, none⟩)] 150)) (w.heap.size + 1 + 1) 3 #[.int .i64 0] :=
      ⟨⟨Q0.out.alloc _, Box.made _ _ _, QB.out.alloc QB.out.size _⟩, Q1.out.alloc _, Q2.out.alloc _⟩
     have bgw : w.heap.size + 1 + 1 < w1.heap.size := Q2.out.lt
     generalize hW0 : (w1.alloc (.cells #[.pointer (some ⟨w.heap.size, 0, none⟩)] 150)) = W0 at M0 ⊢
     generalize w1.heap.size = Bg at *
     have MM0 := qh M0
     have hs0 : qdi w.heap.size Bg W0 := M0.1.sit.cell 0
     have HP := qh hp
     clear hW0 M0 P0 P1 P2 PB Q0 Q1 Q2 QB q1 q2 f2 cm cp hp
     refine (wpIn_wide (n := 10)).1 ?_
     refine wpIn_block ?_
     refine' wpIn_rangeFunc_ownF (n := 10) (w := W0) rfl (by omega) (gf := 133) (lb := #[.pointer (some ⟨Bg, 0, none⟩)]) rfl trivial (enters_of Tryz.func133 (by kernel_rfl) rfl)
      (qfC (w.heap.size) (Bg) _ W0 hs0) qnC (qnD (n := W0.heap.size)) (Below.refl _ _) (fun _ => rfl)
      (fun pre W => (Sit w.heap.size Bg w r W /\ Box W (w.heap.size + 1) 3 #[.int .i64 p] /\ Box W (w.heap.size + 1 + 1) 3 #[.int .i64 0]) /\ ∀ y ∈ pre, r.peer y.1 ≠ p)
      (fun c pre W => c = .ret /\ ∃ (pre' : List Ros.Sl) (x : Ros.Sl), pre = pre' ++ [x] /\ (∀ y ∈ pre', r.peer y.1 ≠ p) /\ r.peer x.1 = p /\ Box W (w.heap.size + 1 + 1) 3 #[.int .i64 x.1] /\ Below w.heap.size w W)
      (fun pre W W' row h hgr hr => ⟨⟨h.1.1.turned hgr (fun r e => ⟨Nat.le_trans MM0.out.1.below.size (hr r e).1, (hr r e).2⟩), h.1.2.1.turned hgr (fun r e => (hr r e).2), h.1.2.2.turned hgr (fun r e => (hr r e).2)⟩, h.2⟩)
      (fun c pre W W' row h hgr hr => (by
       obtain ⟨h0, pre', x, h1, h2, h3, h4, h5⟩ := h
       exact ⟨h0, pre', x, h1, h2, h3, h4.turned hgr (fun r e => (hr r e).2), Below.turned h5 (Nat.le_refl _) hgr (fun r e => Nat.le_trans MM0.out.1.below.size (hr r e).1)⟩))
      ⟨MM0.out, by simp⟩ _ ?assign ?body ?done ?stop
     case assign =>
      intro l x W K hK
      gi_wp2
      exact hK
     case body =>
      rintro l pre ⟨k, hk⟩ V ⟨⟨hM, hP, hR⟩, hpre⟩ hlen
      dsimp only
      have hk8 : (k : Int) < 8 := by omega
      have y0 := Ros.qaQ r k hk
      have z0 : ∀ q : Ext V.heap.size V, q.w.cell? ⟨w.heap.size, 1 + k * 2, none⟩ = some (.int .i64 (r.peer k)) := fun q => q.cell hM.ros.lt ((hM.ros.cell _).trans y0)
      have z1 : ∀ q : Ext V.heap.size V, q.w.cell? ⟨w.heap.size + 1, 0, none⟩ = some (.int .i64 p) := fun q => q.cell hP.lt (hP.cell 0)
      obtain ⟨pk, hpk⟩ : ∃ pk, r.peer k = pk := ⟨_, rfl⟩
      rw [hpk] at z0
      have HM := qh hM
      have HPP := qh hP
      have HR := qh hR
      have HPRE := qh hpre
      have HPK := qh hpk
      clear hM hP hR hpre hpk y0 hlen
      refine wpIn_block ?_
      refine wpIn_seq_k ?_
      intro K hK
      by_cases he : pk = p
      · subst he
        have hb : (pk == pk) = true := by simp
        clear HPP
        refine Rt.qdq V.heap.size V (by kernel_rfl) (by kernel_rfl) (by kernel_rfl) (by rintro ⟨_, _, h⟩; exact h) (Below.refl _ _) ?_
        repeat (go_big_quiet_step (fail))
        refine wpQuiet_nil ?_
        intro _ hw'
        obtain ⟨q, hw''⟩ := hw'
        subst hw''
        refine hK _ _ ?_
        have r2 := (HR.out.below q.h HR.out.lt)
        have q2 := r2.cell
        have f2 := r2.free
        have R2 := qh r2
        clear r2
        gi_wp2
        first
         | exact ⟨(qbp q.h).trans (KeepsOthers.setCell _ _ _), rfl, pre, ⟨k, hk⟩, rfl, HPRE.out, HPK.out, R2.out.put 0 _, (HM.out.call q.h).below.setCell (by simp <;> omega) _⟩
         | exact ⟨(qbp q.h).trans (KeepsOthers.setCell _ _ _), rfl, pre, k, ⟨hk, rfl⟩, fun a hb hm => HPRE.out ⟨a, hb⟩ hm, HPK.out, R2.out.put 0 _, (HM.out.call q.h).below.setCell (by simp <;> omega) _⟩
      · have hb : (pk == p) = false := by simpa using he
        refine Rt.qdq V.heap.size V (by kernel_rfl) (by kernel_rfl) (by kernel_rfl) (by rintro ⟨_, _, h⟩; exact h) (Below.refl _ _) ?_
        repeat (go_big_quiet_step (fail))
        refine wpQuiet_nil ?_
        intro _ hw'
        obtain ⟨q, hw''⟩ := hw'
        subst hw''
        refine hK _ _ ?_
        have hnew : ∀ y ∈ pre ++ [(⟨k, hk⟩ : Ros.Sl)], r.peer y.1 ≠ p := fun y hy => by
         rcases List.mem_append.1 hy with h | h
         · exact HPRE.out y h
         · simp only [List.mem_singleton] at h
           subst h
           show r.peer k ≠ p
           rw [HPK.out]; exact he
        have HN := qh hnew
        clear hnew
        gi_wp2
        refine ⟨qbp q.h, fun hf => hf.below q.h, ⟨HM.out.call q.h, HPP.out.below q.h HPP.out.lt, HR.out.below q.h HR.out.lt⟩, ?_⟩
        first
         | exact HN.out
         | exact fun a hb hm => HN.out ⟨a, hb⟩ hm
     case done =>
      rintro D xs V hD rfl ⟨⟨hM, hP, hR⟩, hn⟩ hK
      have hres := hR.put 0 (.int .i64 (-1))
      have hK3 := qer (KeepsOthers.setCell V ⟨w.heap.size + 1 + 1, 0, none⟩ (.int .i64 (-1))) hK
      have hDw : w.heap.size <= D := Nat.le_trans MM0.out.1.below.size hD
      have hT := hres.turned (grownBy_putObj' _ D (.deferred none)) (fun r e => by cases e; exact ⟨_, hK3, rfl⟩)
      have hT2 := qh (Below.turned (hM.below.setCell (p := ⟨w.heap.size + 1 + 1, 0, none⟩) (by simp <;> omega) (.int .i64 (-1))) (Nat.le_refl _) (grownBy_putObj' _ D (.deferred none)) (fun r e => by cases e; exact hDw))
      have hno : Hid (Ros.of r p = -1) := qh (HIF.out.trans (Ros.qgA hn))
      have HK3 := qh hK3
      have hc5 : ((V.setCell ⟨w.heap.size + 1 + 1, 0, none⟩ (.int .i64 (-1))).putObj D (.deferred none)).cell? ⟨w.heap.size + 1 + 1, 0, none⟩ = some (.int .i64 (-1)) := hT.cell 0
      have u4 := hR.cell
      have v4 := hR.free
      clear hM hres hK3 hT hK hn hP hR
      go_wp2
      refine ⟨by simp, .inl ⟨_, _, rfl, run_takeDeferred HK3.out, ?_⟩⟩
      refine ⟨.int .i64 (-1), ?_, by rw [hno.out], hT2.out⟩
      simp [results, Tryz.f177, go_sem, hc5]
     case stop =>
      rintro D c' pre V hD ⟨rest, hpre⟩ ⟨rfl, pre', x, rfl, h2, h3, h4, h5⟩ hK
      have hyes : Hid (Ros.of r p = x.1) := qh (HIF.out.trans (by rw [hpre, List.append_assoc]; exact Ros.qfD h2 h3))
      have hDw : w.heap.size <= D := Nat.le_trans MM0.out.1.below.size hD
      have hT := h4.turned (grownBy_putObj' _ D (.deferred none)) (fun r e => by cases e; exact ⟨_, hK, rfl⟩)
      have hT2 := qh (Below.turned h5 (Nat.le_refl _) (grownBy_putObj' _ D (.deferred none)) (fun r e => by cases e; exact hDw))
      have hc5 : (V.putObj D (.deferred none)).cell? ⟨w.heap.size + 1 + 1, 0, none⟩ = some (.int .i64 x.1) := hT.cell 0
      have HK3 := qh hK
      clear h2 h3 h4 h5 hK hpre hT
      refine wpIn_ret ?_
      refine ⟨by simp, .inl ⟨_, _, rfl, run_takeDeferred HK3.out, ?_⟩⟩
      refine ⟨.int .i64 x.1, ?_, by rw [hyes.out], hT2.out⟩
      simp [results, Tryz.f177, go_sem, hc5]
   · rw [decide_eq_false hp] at cp
     have HIF := qh (hof.out.trans (if_neg fun h => hp h.2))
     clear hof hok hmay hp
     go_enter Tryz.func177, Tryz.ntmps177
     go_wp2_with (first | ((with_reducible refine qav rfl rfl ?_); apply qas.mk rfl; (focus (with_reducible exact P0.out)); (focus (exact qah))) | (go_at_call 167; ((with_reducible refine ((cm _).out).mono ?_); rintro e w1 ⟨rfl, hb1⟩; have Q0 := qh (P0.out.below hb1 (by have := P0.out.lt; simp at this ⊢ <;> omega)); have Q1 := qh (P1.out.below hb1 (by have := P1.out.lt; simp at this ⊢ <;> omega)); have Q2 := qh (P2.out.below hb1 (by have := P2.out.lt; simp at this ⊢ <;> omega)); have QB := qh (PB.out.trans (hb1.mono PB.out.size)); have q1 := Q1.out.cell; have q2 := Q2.out.cell; have f2 := Q2.out.free; clear hb1)) | (go_at_call 176; ((with_reducible refine ((cp _).out).mono ?_); rintro e w2 ⟨rfl, rfl⟩)))
     have hT : (w1.setCell ⟨w.heap.size + 1 + 1, 0, none⟩ (.int .i64 (-1))).cell? ⟨w.heap.size + 1 + 1, 0, none⟩ = some (.int .i64 (-1)) := (Q2.out.put 0 (.int .i64 (-1))).cell 0
     refine bodyPost_ret (v := .int .i64 (-1)) (by simp [results, Tryz.f177, go_sem, hT]) rfl ?_
     exact ⟨by rw [HIF.out], QB.out.setCell (by simp <;> omega) _⟩
 · have hmay : Ros.may r = false := decide_eq_false hok
   rw [hmay] at cm
   have HIF := qh (hof.out.trans (if_neg fun h => hok h.1))
   clear hof hok hmay
   go_enter Tryz.func177, Tryz.ntmps177
   go_wp2_with (first | ((with_reducible refine qav rfl rfl ?_); apply qas.mk rfl; (focus (with_reducible exact P0.out)); (focus (exact qah))) | (go_at_call 167; ((with_reducible refine ((cm _).out).mono ?_); rintro e w1 ⟨rfl, hb1⟩; have Q0 := qh (P0.out.below hb1 (by have := P0.out.lt; simp at this ⊢ <;> omega)); have Q1 := qh (P1.out.below hb1 (by have := P1.out.lt; simp at this ⊢ <;> omega)); have Q2 := qh (P2.out.below hb1 (by have := P2.out.lt; simp at this ⊢ <;> omega)); have QB := qh (PB.out.trans (hb1.mono PB.out.size)); have q1 := Q1.out.cell; have q2 := Q2.out.cell; have f2 := Q2.out.free; clear hb1)) | (go_at_call 176; ((with_reducible refine ((cp _).out).mono ?_); rintro e w2 ⟨rfl, rfl⟩)))
   have hT : (w1.setCell ⟨w.heap.size + 1 + 1, 0, none⟩ (.int .i64 (-1))).cell? ⟨w.heap.size + 1 + 1, 0, none⟩ = some (.int .i64 (-1)) := (Q2.out.put 0 (.int .i64 (-1))).cell 0
   refine bodyPost_ret (v := .int .i64 (-1)) (by simp [results, Tryz.f177, go_sem, hT]) rfl ?_
   exact ⟨by rw [HIF.out], QB.out.setCell (by simp <;> omega) _⟩
end Go.Proofs.YtmiopphcfdlneaaGreat
namespace Go.Proofs.YtmiopphcfdlneaaGreat
open Go.RowKit Go.Shelf
def SOut (g' : Gm.G) (r' : Ros.R) (code : Int) (w : World) (e : Ending) (w' : World) : Prop :=
 ∃ A c, e = .returned (.tuple #[.agg (Im.cells g' (.slice A g'.qaa.length c) r'), .int .i64 code]) /\ Lies w' w'.heap.size 6 A g'.qaa.length (Gm.qad g'.qaa) /\ Below w.heap.size w w'
def SOne (g' : Gm.G) (r' : Ros.R) (w : World) (e : Ending) (w' : World) : Prop :=
 ∃ A c, e = .returned (.agg (Im.cells g' (.slice A g'.qaa.length c) r')) /\ Lies w' w'.heap.size 6 A g'.qaa.length (Gm.qad g'.qaa) /\ Below w.heap.size w w'
def qe6 (code : Int) (w : World) (e : Ending) (w' : World) : Prop := e = .panicked [{ v := .iface 140 (.int .i64 code), recovered := false }] /\ Below w.heap.size w w'
theorem qkY (w : World) : Calls Tryz.prog 92 #[.int .i64 0] w fun e w' => e = .returned (.tuple #[]) /\ Below w.heap.size w w' := by
 go_enter Tryz.func92, Tryz.ntmps92
 go_wp2
 go_end0
 exact ⟨rfl, Below.refl _ _⟩
theorem qgT (w : World) : Calls Tryz.prog 92 #[.int .i64 1] w (qe6 1 w) := by
 go_enter Tryz.func92, Tryz.ntmps92
 go_wp2
 exact ⟨rfl, rfl, Below.refl _ _⟩
theorem qfI (w : World) : Calls Tryz.prog 88 #[.bool true] w fun e w' => e = .returned (.tuple #[]) /\ Below w.heap.size w w' := by
 go_enter Tryz.func88, Tryz.ntmps88
 go_wp2
 go_end0
 exact ⟨rfl, Below.refl _ _⟩
theorem qgS (w : World) : Calls Tryz.prog 88 #[.bool false] w (qe6 1 w) := by
 have c1 := fun X => qh (qgT X)
 go_enter Tryz.func88, Tryz.ntmps88
 go_wp2_with (first | (go_at_call 92; ((with_reducible refine ((c1 _).out).mono ?_); rintro e w1 ⟨rfl, hb⟩)))
 exact ⟨rfl, rfl, hb⟩
theorem qla (g : Gm.G) (r : Ros.R) (A : Option Addr) (n c : Nat) (w : World) (hn60 : n <= 60) (hn : n = g.qaa.length) (hr : Lies w w.heap.size 6 A n (Gm.qad g.qaa)) :
 Calls Tryz.prog 65 #[.agg (Im.cells g (.slice A n c) r)] w (SOne g r w) := by
 have P0 := qh ((Box.made w 38 (Im.cells g (.slice A n c) r)).alloc (.cells Im.zero 38))
 have Q0 := qh (Box.qaq (n := w.heap.size + 1) (w.alloc (.cells (Im.cells g (.slice A n c) r) 38)) 38 Im.zero (by simp))
 have K0 := qh (qap w (.cells (Im.cells g (.slice A n c) r) 38) (.cells Im.zero 38))
 have c1 := qh (qhf g.qaa A n c _ hn hn60 ((hr.below K0.out).wider K0.out.size))
 have hc := P0.out.cell
 have e58 : (Im.cells g (.slice A n c) r)[58]? = some (.slice A n c) := (Im.qdh _ _ _ 58 (by omega)).trans (Gm.qbc _ _)
 have hN := qh hn
 clear hr hn
 go_enter Tryz.func65, Tryz.ntmps65
 go_upto_region 2 with (first | (with_reducible refine qaz rfl rfl ?_) | (go_at_call 103; ((with_reducible refine ((c1).out).mono ?_); rintro e w1 ⟨A', c', rfl, ho, hb⟩; have D1 := P0.out.below hb P0.out.lt; have D2 := qh (Q0.out.below hb Q0.out.lt); have k1 := D1.cell; have f1 := D1.free; have O1 := qh ho; have HB1 := qh (K0.out.trans (hb.mono K0.out.size)); have F1 := qh (show Box (w1.setCell ⟨w.heap.size, 58, none⟩ (.slice A' n c')) w.heap.size 38 (Im.cells g (.slice A' n c') r) from Im.qey g _ _ r ▸ D1.put 58 (.slice A' n c')); have F2 := qh (D2.out.far (p := ⟨w.heap.size, 58, none⟩) (show w.heap.size + 1 ≠ w.heap.size by omega) (.slice A' n c')); have nO := qh (D1.qaM ho (by decide)); clear hb ho D1)))
 go_wp2_with (first | ((with_reducible refine qak rfl rfl ?_); apply qaC.mk rfl; (focus (with_reducible exact F1.out)); dsimp only) | ((with_reducible refine qaI rfl rfl ?_); apply qcj.mk rfl rfl; (focus (with_reducible exact F2.out)); (focus (exact Im.qaO)); (focus rfl)))
 have hn := hN.out
 subst hn
 refine bodyPost_ret (v := .agg (Im.cells g (.slice A' g.qaa.length c') r)) ?_ ?_ ?_
 · exact results_cell_row rfl _ _ _ _ (Im.cells g (.slice A' g.qaa.length c') r) (0, 0) _ rfl (F2.out.row _).is Tryz.underlying38 rfl (by rw [Im.qaf]; exact qax)
 · rfl
 · refine ⟨A', c', rfl, ?_, ?_⟩
   · have h := ownsRow_setCell_other (a := ⟨w.heap.size, 58, none⟩) O1.out nO.out (.slice A' g.qaa.length c')
     exact Lies.owned (qbi h (F2.out.qaM h (by decide)) (Im.cells g (.slice A' g.qaa.length c') r))
   · exact Below.setRow' (HB1.out.setCell (p := ⟨w.heap.size, 58, none⟩) (Nat.le_refl _) _) (by omega) _
theorem qcs (g : Gm.G) (r : Ros.R) (A : Option Addr) (n c : Nat) (w : World) (hty : Gm.ty g) (hn63 : n <= maxLen) (hn : n = g.qaa.length) (hr : Lies w w.heap.size 6 A n (Gm.qad g.qaa)) :
 Calls Tryz.prog 74 #[.agg (Im.cells g (.slice A n c) r)] w fun e w' => (∃ v, e = .returned (.bool v) /\ (v = true ↔ Im.Ok g r)) /\ Below w.heap.size w w' := by
 have P0 := qh (Box.made w 38 (Im.cells g (.slice A n c) r))
 have K0 := qh (qac w (.cells (Im.cells g (.slice A n c) r) 38))
 have hr0 := (hr.below K0.out).wider K0.out.size
 by_cases hok : Im.Ok g r
 · have cp := qh (qqe g r A n c _ hok hty.2.1 hn hr0)
   have HOK := qh hok
   clear hr hn hok hr0 hty
   go_enter Tryz.func74, Tryz.ntmps74
   go_wp2_with (first | ((with_reducible refine qak rfl rfl ?_); apply qaC.mk rfl; (focus (with_reducible exact P0.out)); dsimp only) | (go_at_call 114; ((with_reducible refine ((cp).out).mono ?_); rintro e w1 ⟨A1, c1, rfl, _, hb⟩; have K1 := qh (K0.out.trans (hb.mono K0.out.size)); clear hb)))
   go_ret
   exact ⟨⟨true, rfl, fun _ => HOK.out, fun _ => rfl⟩, K1.out⟩
 · have cp := qh (qqG g r A n c _ hok hty hn hn63 hr0)
   have HOK := qh hok
   clear hr hn hok hr0 hty
   go_enter Tryz.func74, Tryz.ntmps74
   go_wp2_with (first | ((with_reducible refine qak rfl rfl ?_); apply qaC.mk rfl; (focus (with_reducible exact P0.out)); dsimp only) | (go_at_call 114; ((with_reducible refine ((cp).out).mono ?_); rintro e w1 ⟨rfl, hb⟩; have K1 := qh (K0.out.trans (hb.mono K0.out.size)); clear hb)))
   go_ret
   exact ⟨⟨false, rfl, ⟨fun h => (by cases h), fun h => absurd h HOK.out⟩⟩, K1.out⟩
open Go.RowKit
def qgr : List Nat := qge ++ List.replicate 17 1
theorem qhI (g : Gm.G) (A : Option Addr) (n c : Nat) (r : Ros.R) (o : Nat) : ((Im.cells g (.slice A n c) r)[o]?).map tagV = qgr[o]? := by
 rw [show (Im.cells g (.slice A n c) r)[o]? = ((([Value.int .i64 g.frame, Value.int .u64 g.dice] ++ Gm.qbd g.ship ++ [Value.slice A n c]) ++ (Value.int .i64 r.version :: Ros.qaP r))[o]?) from by unfold Im.cells Gm.cells Ros.cells; simp]
 rw [<- List.getElem?_map]
 rfl
theorem qfX : ∀ o, o < 76 -> ¬ (qgr[o]? = some 1 /\ qgr[o + 1]? = some 2) := by decide
theorem Lies.qob {w : World} {B BG n m : Nat} {A A' : Option Addr} {c : Nat} {l : List Gm.Shot} {g : Gm.G} {r : Ros.R} (h : Lies w B 6 A n (Gm.qad l)) (hn : n = l.length) (hB : Box w BG 38 (Im.cells g (.slice A' m c) r)) (h0 : n ≠ 0) (ad : Addr) (e : A = some ad) : ad.block ≠ BG := by
 intro eb
 subst hn
 have hlt : 0 < l.length := by omega
 have hc := h.cell ad e h0
 have e0 := hc 0 (.int .i64 l[0].owner) (by have := Gm.qbz l 0 0 hlt (by omega); simpa [Gm.Shot.cells] using this)
 have e1 := hc 1 (.int .i32 l[0].x) (by have := Gm.qbz l 0 1 hlt (by omega); simpa [Gm.Shot.cells] using this)
 rw [show ad.add 0 = ad from rfl] at e0
 rw [show ad.add 1 = ⟨ad.block, ad.off + 1, none⟩ from rfl] at e1
 rw [eb, hB.cell] at e1
 have e0' : (Im.cells g (.slice A' m c) r)[ad.off]? = some (.int .i64 l[0].owner) := by
  unfold World.cell? at e0
  rw [eb, hB.is] at e0
  dsimp only at e0
  split at e0
  · cases e0
  · exact e0
 have t0 := qhI g A' m c r ad.off
 have t1 := qhI g A' m c r (ad.off + 1)
 rw [e0'] at t0
 rw [e1] at t1
 have hlt' : ad.off < 76 := by have := (Array.getElem?_eq_some_iff.1 e0').1; rwa [Im.qaf] at this
 exact qfX _ hlt' ⟨t0.symm, t1.symm⟩
theorem Lies.qa8 {w : World} {n BG m : Nat} {A A' : Option Addr} {c : Nat} {l : List Gm.Shot} {g : Gm.G} {r : Ros.R} (h : Lies w w.heap.size 6 A n (Gm.qad l)) (hn : n = l.length) (hB : Box w BG 38 (Im.cells g (.slice A' m c) r)) (cs : Array Value) : Lies (w.setRow BG cs) (w.setRow BG cs).heap.size 6 A n (Gm.qad l) := by
 refine ⟨h.len, fun hn => by obtain ⟨ad, e, hb⟩ := h.start hn; exact ⟨ad, e, by rw [setRow_size]; exact hb⟩, fun ad e h0 j u hu => ?_⟩
 have hne := h.qob hn hB h0 ad e
 rw [World.cell?_of_block (w := w) (by rw [add_block]; exact setRow_other w BG _ cs hne)]
 exact h.cell ad e h0 j u hu
theorem Lies.qcM {w : World} {n BG : Nat} {A : Option Addr} {l : List Gm.Shot} (h : Lies w w.heap.size 6 A n (Gm.qad l)) (hn : n = l.length) (hB : Box w BG 38 Im.zero) (cs : Array Value) : Lies (w.setRow BG cs) (w.setRow BG cs).heap.size 6 A n (Gm.qad l) :=
 h.qa8 hn hB cs
theorem Lies.qoa {w0 w : World} {n B size : Nat} {A : Option Addr} {xs : List Value} (h : Lies w w0.heap.size size A n xs) (hB : w0.heap.size <= B) (cs : Array Value) : Lies (w.setRow B cs) w0.heap.size size A n xs :=
 h.stays fun b hb => setRow_other w B b cs (by omega)
section
variable {P : Program} {ops : Array Oper} {rest : List Oper} {o : Oper} {a : Act} {w : World} {Q : Exit -> Act -> World -> Prop}
theorem qgB (w : World) (ad : Addr) (ty : TypeId) (cs : List Value) (d : TypeDesc) (hc : ∀ j v, cs[j]? = some v -> w.cell? (ad.add j) = some v)
 (hu : P.underlying ty = some d) (hd : d.isRow = true) (hi : (P.info? ty).map (·.size) = some cs.length) :
 (loadVar ty ad).run P w = .ok (.agg cs.toArray) w := by
 have hl : (loadCells ad cs.length).run P w = .ok cs.toArray w := run_loadCells_list (P := P) w ad cs hc
 cases hq : P.info? ty with
 | none => simp [hq] at hi
 | some i =>
  have hs : i.size = cs.length := by simpa [hq] using hi
  have hagg : (isAgg ty).run P w = .ok true w := by
   unfold isAgg
   rw [Sem.run_bind, run_underlying hu w]
   cases d <;> simp_all
  simp [loadVar, Sem.run_bind, hagg, sizeOf, typeInfo, hq, hs, hl]
theorem qeT {x : Operand} {ty : TypeId} {ad : Addr} {cs : List Value} {d : TypeDesc} (ho : o.op = .load ty x) (hx : a.eval x = .pointer (some ad)) (hc : ∀ j v, cs[j]? = some v -> w.cell? (ad.add j) = some v) (hu : P.underlying ty = some d) (hd : d.isRow = true) (hi : (P.info? ty).map (·.size) = some cs.length) :
 (execOp a.eval o).run P w = .ok (.value (.agg cs.toArray)) w := by
 unfold execOp
 simp only [ho, hx, Instr.loadAt, Instr.sureAddr, Sem.run_bind, Sem.run_pure, Result.andThen_ok, qgB w ad ty cs d hc hu hd hi]
end
end Go.Proofs.YtmiopphcfdlneaaGreat
namespace En
open Go
def qp3 : Array Value := cells ⟨0, [], in0⟩ (.slice none 0 0)
theorem ql4 : qp3.size = 26 := rfl
structure S where
 e : E
 adr : Option Addr
 cap : Nat
end En
namespace Go.Proofs.YtmiopphcfdlneaaGreat
open Go.RowKit Go.Shelf
theorem qqv : (Tryz.prog.info? 52).map (·.zero) = some (some (.agg En.qp3)) := by kernel_rfl
theorem ql2 {ops : Array Oper} {Q : Exit -> Act -> World -> Prop} {o : Oper} {rest : List Oper} {a : Act} {w : World} (hgd : o.guard = none) (ho : o.op = .alloc 52)
 (h : wpList Tryz.prog ops Q rest (a.put o.dst (.pointer (some ⟨w.heap.size, 0, none⟩))) (w.alloc (.cells En.qp3 52))) : wpList Tryz.prog ops Q (o :: rest) a w :=
 qbB hgd ho qqv rfl h
theorem qfP {ops : Array Oper} {Q : Exit -> Act -> World -> Prop} {o : Oper} {rest : List Oper} {a : Act} {x y : Operand} {v : World} {old : Array Value} {e : En.E} {s : Value} (hgd : o.guard = none) (ho : o.op = .store 52 x y) (hx : a.eval x = .pointer (some ⟨v.heap.size, 0, none⟩)) (hy : a.eval y = .agg (En.cells e s))
 (hold : old.size = 26) (hs : s.oneCell' = true) (h : wpList Tryz.prog ops Q rest (a.put o.dst undef) (v.alloc (.cells (En.cells e s) 52))) : wpList Tryz.prog ops Q (o :: rest) a (v.alloc (.cells old 52)) :=
 qbv hgd ho hx hy rfl rfl qiR (by rw [En.qaf]; exact hold) (En.cells_one _ _ hs) h
section
variable {w w' : World} {B B' n : Nat} {A : Option Addr} {l : List En.S}
end
open Go.RowKit
section
variable {t : TypeId} {cs : Array Value} {code : Int} {b k : Nat} {vm vm' : Nat -> Value} {w w' : World}
end
theorem qcE {P : Program} {o : Oper} {a : Act} {w : World} {t : TypeId} {z : Value} {cs : Array Value} (ho : o.op = .alloc t) (hz : (P.info? t).map (·.zero) = some (some z)) (hc : z.cells = cs) :
 (execOp a.eval o).run P w = .ok (.value (.pointer (some ⟨w.heap.size, 0, none⟩))) (w.alloc (.cells cs t)) := by
 have hz' : (zeroValue t).run P w = .ok z w := by
  cases hq : P.info? t with
  | none => simp [hq] at hz
  | some i => simp [hq] at hz; simp [zeroValue, typeInfo, hq, hz]
 subst hc
 unfold execOp
 simp only [ho, Instr.alloc, Sem.run_bind, hz', Result.andThen_ok]
 rfl
theorem qb0 {P : Program} {o : Oper} {a : Act} {w : World} {x y : Operand} {B : Nat} {t : TypeId} {cs old : Array Value} (ho : o.op = .store t x y) (hx : a.eval x = .pointer (some ⟨B, 0, none⟩)) (hy : a.eval y = .agg cs) (hB : Box w B t old) (hi : (P.info? t).map (·.size) = some cs.size) (hs : old.size = cs.size) (h1 : cs.all (·.oneCell') = true) :
 (execOp a.eval o).run P w = .ok .skip (w.setRow B cs) := by
 have hs := run_storeVar_row (P := P) w B t t old cs hB.is hi hs h1
 unfold execOp
 simp only [ho, hx, hy, Instr.storeAt, Instr.sureAddr, Sem.run_bind, Sem.run_pure, Result.andThen_ok, hs]
open Go Go.RowKit
theorem qc7 {o : Oper} {a : Act} {w : World} {x : Operand} {B : Nat} {g : Gm.G} {s : Value} {r : Ros.R} (ho : o.op = .load 38 x) (hx : a.eval x = .pointer (some ⟨B, 0, none⟩)) (hB : Box w B 38 (Im.cells g s r)) :
 (execOp a.eval o).run Tryz.prog w = .ok (.value (.agg (Im.cells g s r))) w := qcP ho hx hB Tryz.underlying38 rfl (by rw [Im.qaf]; exact qax)
theorem qdO {g : Gm.G} {s : Value} {r : Ros.R} (h : s.oneCell' = true) : (Im.cells g s r).all (·.oneCell') = true := qfL _ _ _ h
section
variable {G : Gm.G} {r : Ros.R} {code : Int} {b k : Nat} {vm vm' : Nat -> Value} {w w' : World}
end
structure qfy (w : World) (b : Nat) (A : Option Addr) (l : List Gm.Shot) : Prop where
 lies : Lies w w.heap.size 6 A l.length (Gm.qad l)
 new : New6 b A l.length
theorem qfy.call {w w' : World} {b : Nat} {A : Option Addr} {l : List Gm.Shot} (h : qfy w b A l) (hb : Below w.heap.size w w') : qfy w' b A l := ⟨h.lies.call hb, h.new⟩
theorem qfy.qa8 {w : World} {b n BG m : Nat} {A A' : Option Addr} {c : Nat} {l : List Gm.Shot} {g : Gm.G} {r : Ros.R} (h : qfy w b A l) (hn : n = l.length) (hB : Box w BG 38 (Im.cells g (.slice A' m c) r)) (cs : Array Value) : qfy (w.setRow BG cs) b A l := ⟨h.lies.qa8 rfl hB cs, h.new⟩
section
variable {G : Gm.G} {r : Ros.R} {code : Int} {b k : Nat} {vm vm' : Nat -> Value} {w w' : World}
end
end Go.Proofs.YtmiopphcfdlneaaGreat
namespace Rj
open Go Go.RowKit Rz
def done (n0 : Nat) (listed : Array Bool) : Nat -> Bool := fun j => decide (n0 <= j) && listed.getD j false
def also (S : Nat -> Bool) (i : Nat) : Nat -> Bool := fun j => S j || j == i
structure Inv (l : List Oper) (n0 n : Nat) (u : Nat -> Value) (V : Nat -> (Nat -> Value) -> World -> Prop) (D : (Nat -> Bool) -> (Nat -> Value) -> World -> Prop) (K : World -> Prop) (a0 : Act) (listed : Array Bool) (a : Act) (w : World) : Prop where
 head : HeadInv .any l.toArray n listed
 shape : ∃ vm : Nat -> Value, Rx.Shape l (fun j => if j < n0 then u j else vm j) a0 (fun j => listed.getD j false) a /\ (∀ j, n0 <= j -> j < n -> listed.getD j false = true -> V j vm w) /\ D (done n0 listed) vm w
 world : K w
section
variable {P : Program} {l : List Oper} {n0 n : Nat} {K : World -> Prop} {V : Nat -> (Nat -> Value) -> World -> Prop} {D : (Nat -> Bool) -> (Nat -> Value) -> World -> Prop} {A : Nat -> Act} {u : Nat -> Value}
theorem all_ {Q : Exit -> Act -> World -> Prop} (hr : Run P K (l.take n0) A u) (ok : Ok n0 n l) (hDc : ∀ S vm vm' w, (∀ j, n0 <= j -> vm j = vm' j) -> D S vm w -> D S vm' w) (hVd : ∀ j vm vm' w, n0 <= j -> j < n -> (∀ k, k = j \/ dep l j k = true -> vm k = vm' k) -> V j vm w -> V j vm' w)
 (hmid : ∀ i o, n0 <= i -> i < n -> l[i]? = some o -> ∀ (S : Nat -> Bool) (vm : Nat -> Value) w, K w -> S i = false -> (∀ j, n0 <= j -> j < n -> dep l i j = true -> S j = true) -> (∀ j, n0 <= j -> j < n -> S j = true -> V j vm w) -> D S vm w -> Gives P o (qan ((l.drop n0).take (n - n0)) n0 vm (A n0)) w (fun v w' => V i (upd vm i v) w' /\ K w' /\ (∀ j, n0 <= j -> j < n -> j ≠ i -> S j = true -> V j vm w -> V j vm w') /\ D (also S i) (upd vm i v) w'))
 (htail : ∀ (S : Nat -> Bool) (vm : Nat -> Value) w, K w -> (∀ j, n0 <= j -> j < n -> S j = true) -> (∀ j, n0 <= j -> j < n -> V j vm w) -> D S vm w -> wpList P l.toArray Q (l.drop n) (qan ((l.drop n0).take (n - n0)) n0 vm (A n0)) w) :
 ∀ (m : Nat) (listed : Array Bool) (a : Act) (w : World), Inv l n0 n u V D K (A 0) listed a w -> Rx.unl (fun i => listed.getD i false) n = m -> wpAny P .any l.toArray Q (m + (l.length - n)) listed a w := by
 have hll : l.toArray.size = l.length := by simp
 have shapeA : ∀ vm : Nat -> Value, Rx.Shape l (fun j => if j < n0 then u j else vm j) (A 0) (fun j => decide (j < n)) (qan ((l.drop n0).take (n - n0)) n0 vm (A n0)) := fun vm => by
  have h := qdR ok (v := fun j => if j < n0 then u j else vm j) (a0 := A 0) (n - n0) n0 (A n0) (by have := ok.le; omega) (hr.shape ok (fun j hj => by simp [hj]) n0 (Nat.le_refl _))
  rw [qdS (v := fun j => if j < n0 then u j else vm j) (v' := vm) _ _ _ (fun j hj => by simp; intro h; omega)] at h
  exact h
 intro m
 induction m with
 | zero =>
  intro listed a w inv hm
  have hall := Rx.qcx (f := fun i => listed.getD i false) (n := n) hm
  have e : listed = Array.replicate n true ++ Array.replicate (l.length - n) false := by
   apply Array.ext
   · rw [inv.head.size]; simp; have := ok.lt; omega
   · intro i h1 h2
     have hs := inv.head.size
     by_cases hin : i < n
     · have := hall i hin
       simp [h1] at this
       rw [Array.getElem_append_left (by simpa using hin)]
       simpa using this
     · have := inv.head.tail i (by omega) (by rw [<- hs]; exact h1)
       simp [h1] at this
       rw [Array.getElem_append_right (by simp; omega)]
       simpa using this
  obtain ⟨vm, hs, hV, hD⟩ := inv.shape
  have ea : a = qan ((l.drop n0).take (n - n0)) n0 vm (A n0) := hs.ext (shapeA vm) fun j o hj => by
   have hjl : j < l.length := (List.getElem?_eq_some_iff.1 hj).1
   by_cases hjn : j < n
   · rw [hall j hjn]; simp [hjn]
   · have := inv.head.tail j (by omega) (by rw [hll]; exact hjl)
     rw [getD_both this]; simp [hjn]
  have hw := htail _ vm w inv.world (fun j h1 h2 => (by unfold done; rw [hall j h2]; simp [h1])) (fun j h1 h2 => hV j h1 h2 (hall j h2)) hD
  rw [<- ea] at hw
  have hdl : (l.drop n).length = l.length - n := by simp
  have := wpAny_of_seq (md := .any) (Q' := Q) (l.drop n) n listed a w (fun j => by simp [List.getElem?_drop]) (by rw [hdl, e]; exact ok.seq) hw
  rw [hdl] at this
  rw [Nat.zero_add]
  exact this
 | succ m ih =>
  intro listed a w inv hm
  rw [show m + 1 + (l.length - n) = (m + (l.length - n)) + 1 by omega]
  -- somebody of the head has not been
  have hex : ∃ i, i < n /\ listed.getD i false = false := by
   refine Classical.byContradiction fun hno => ?_
   have : ∀ k, k <= n -> Rx.unl (fun i => listed.getD i false) k = 0 := by
    intro k
    induction k with
    | zero => intro _; rfl
    | succ k ihk =>
     intro hk
     unfold Rx.unl
     rw [ihk (by omega)]
     cases h : listed.getD k false
     · exact absurd ⟨k, by omega, h⟩ hno
     · simp
   have := this n (Nat.le_refl _)
   omega
  obtain ⟨i0, hi0, hun0⟩ := hex
  have his0 : i0 < listed.size := by rw [inv.head.size, hll]; have := ok.lt; omega
  refine ⟨fun hr' => ?_, fun i hi => ?_⟩
  · exfalso
    have key : ∀ i, i < n -> listed.getD i false = true := by
     intro i
     induction i using Nat.strongRecOn with
     | _ i ihi =>
      intro hin
      cases hu : listed.getD i false
      · have hil : i < l.length := by have := ok.lt; omega
        have ho : l[i]? = some (l[i]'hil) := List.getElem?_eq_getElem hil
        have his : i < listed.size := by rw [inv.head.size, hll]; exact hil
        have : i ∈ Region.ready .any l.toArray listed := mem_ready.2 ⟨getD_in his hu, _, (by rw [List.getElem?_toArray]; exact ho), fun e he hb => by
         have hd := ok.down i _ hin ho e he hb
         exact ihi e.on hd (by omega)⟩
        rw [hr'] at this; cases this
      · rfl
    rw [key i0 hi0] at hun0; cases hun0
  · have hin : i < n := by
     refine Classical.byContradiction fun hge => ?_
     exact tail_waits ok.sink ok.chain (by rw [hll]; exact ok.lt) inv.head (n - i0) i0 rfl hi0 (getD_in his0 hun0) i (by omega) hi
    obtain ⟨hun, o, ho', hdeps⟩ := mem_ready.1 hi
    have ho : l[i]? = some o := by simpa using ho'
    have hil : i < l.length := (List.getElem?_eq_some_iff.1 ho).1
    have his : i < listed.size := by rw [inv.head.size, hll]; exact hil
    have hun' : listed.getD i false = false := getD_both hun
    have getset : ∀ j, (listed.setIfInBounds i true).getD j false = (listed.getD j false || j == i) := fun j => by
     by_cases hji : j = i
     · subst hji; simp [his]
     · rw [getD_set_ne false (fun e => hji e.symm)]; simp [hji]
    have hun2 : Rx.unl (fun j => (listed.setIfInBounds i true).getD j false) n = m := by
     have := Rx.qde (f := fun j => listed.getD j false) (g := fun j => (listed.setIfInBounds i true).getD j false) (i := i) hun' (by rw [getset]; simp) (fun j hj => by rw [getset]; simp [hj]) hin
     omega
    obtain ⟨vm, hs, hV, hD⟩ := inv.shape
    have next : ∀ v w', (i < n0 -> v = u i) -> (n0 <= i -> V i (upd vm i v) w') -> K w' -> (∀ j, n0 <= j -> j < n -> j ≠ i -> done n0 listed j = true -> V j vm w -> V j vm w') -> D (done n0 (listed.setIfInBounds i true)) (upd vm i v) w' -> wpAny P .any l.toArray Q (m + (l.length - n)) (listed.setIfInBounds i true) (a.put o.dst v) w' := fun v w' h1 h2 hKw hst hDn => by
     refine ih _ _ _ ⟨inv.head.set hi hin, ⟨upd vm i v, ?_, fun j hj1 hj2 hl => ?_, hDn⟩, hKw⟩ hun2
     · have hs' := qfB (v' := fun j => if j < n0 then u j else upd vm i v j) hs fun j hj => by
        by_cases hjn : j < n0
        · simp [hjn]
        · have : j ≠ i := fun e => by subst e; rw [hun'] at hj; cases hj
          simp [hjn, this, upd]
       have hp := hs'.put ok.dist ho
       have ev : (if i < n0 then u i else upd vm i v i) = v := by
        by_cases hin0 : i < n0
        · simp [hin0, h1 hin0]
        · simp [hin0, upd]
       rw [ev] at hp
       exact hp.congr fun j o hj => (getset j).symm
     · by_cases hji : j = i
       · subst hji; exact h2 hj1
       · rw [getset] at hl
         have hlj : listed.getD j false = true := by simpa [hji] using hl
         refine hVd j vm _ w' hj1 hj2 (fun k hk => ?_) (hst j hj1 hj2 hji (by unfold done; rw [hlj]; simp [hj1]) (hV j hj1 hj2 hlj))
         have hki : k ≠ i := fun e => by
          subst e
          rcases hk with rfl | hk
          · exact hji rfl
          · have hjl : j < l.length := by have := ok.lt; omega
            have hoj : l[j]? = some (l[j]'hjl) := List.getElem?_eq_getElem hjl
            obtain ⟨e, he, hb, hon⟩ := qea hoj hk
            have := inv.head.closed j _ (by rw [List.getElem?_toArray]; exact hoj) hlj e he hb
            rw [hon, hun'] at this; cases this
         simp [upd, hki]
    have before : ∀ j, dep l i j = true -> listed.getD j false = true := fun j hd => by
     obtain ⟨e, he, hb, rfl⟩ := qea ho hd
     exact hdeps e he hb
    unfold wpOp
    simp only [ho', Region.wanted, ok.guard i o hin ho, if_true]
    refine .inl ?_
    by_cases hi0' : i < n0
    · have ho2 : (l.take n0)[i]? = some o := by rw [List.getElem?_take, if_pos hi0']; exact ho
      have exec : execOp a.eval o = execOp (A i).eval o := execOp_congr o (fun cs b => Region.noSelect_spec ok.sel i o cs b ho') fun x hx => by
       cases x with
       | tmp t =>
        have ht : t ∈ o.looksAt l.toArray := List.mem_append_left _ (List.mem_filterMap.2 ⟨.tmp t, by simpa using hx, rfl⟩)
        have e := hs.same (hr.shape ok (v := fun j => if j < n0 then u j else vm j) (fun j hj => by simp [hj]) i (by omega)) (t := t) fun j oj hj hd => by
         by_cases hji : j = i
         · subst hji; rw [hun']; simp
         · by_cases hjn : j < n
           · have hdp := ok.looks i j o oj t hin hjn ho hj (fun e => hji e.symm) hd ht
             obtain ⟨e, he, hb, hon⟩ := qea ho hdp
             have := ok.down i o hin ho e he hb
             rw [before j hdp]; simp; omega
           · have hjl : j < l.length := (List.getElem?_eq_some_iff.1 hj).1
             rw [getD_both (inv.head.tail j (by omega) (by rw [hll]; exact hjl))]; simp; omega
        simp only [Act.eval, Array.getD_eq_getD_getElem?, e]
       | const => rfl
       | global => rfl
       | func => rfl
      have hrun := hr.run i o ho2 w inv.world
      have hg : Gives P o (A i) w (fun v w' => v = u i /\ w' = w) := ⟨by unfold gives; rw [hrun]; exact ⟨rfl, rfl⟩⟩
      refine (hg.congr exec).wp fun v w' ⟨hv, hw⟩ => ?_
      subst hw
      refine next v w' (fun _ => hv) (fun h => absurd h (by omega)) inv.world (fun j _ _ _ _ h => h) ?_
      have eS : done n0 (listed.setIfInBounds i true) = done n0 listed := funext fun j => by
       unfold done
       rw [getset]
       by_cases hj : n0 <= j
       · have : (j == i) = false := by simp; omega
         simp [this]
       · simp [hj]
      rw [eS]
      exact hDc _ _ _ _ (fun j hj => by simp [upd, show j ≠ i by omega]) hD
    · have exec : execOp a.eval o = execOp (qan ((l.drop n0).take (n - n0)) n0 vm (A n0)).eval o := execOp_congr o (fun cs b => Region.noSelect_spec ok.sel i o cs b ho') fun x hx => by
       cases x with
       | tmp t =>
        have ht : t ∈ o.looksAt l.toArray := List.mem_append_left _ (List.mem_filterMap.2 ⟨.tmp t, by simpa using hx, rfl⟩)
        by_cases hself : o.dst = some t
        · -- it reads what it writes: told by the check to be nobody else's
          exact (ok.self i o t hin ho hself ht).elim
        · have e := hs.same (shapeA vm) (t := t) fun j oj hj hd => by
           have hji : j ≠ i := fun e => by subst e; rw [ho] at hj; injection hj with hj; subst hj; exact hself hd
           by_cases hjn : j < n
           · rw [before j (ok.looks i j o oj t hin hjn ho hj (fun e => hji e.symm) hd ht)]; simp [hjn]
           · have hjl : j < l.length := (List.getElem?_eq_some_iff.1 hj).1
             rw [getD_both (inv.head.tail j (by omega) (by rw [hll]; exact hjl))]; simp [hjn]
          simp only [Act.eval, Array.getD_eq_getD_getElem?, e]
       | const => rfl
       | global => rfl
       | func => rfl
      refine ((hmid i o (by omega) hin ho (done n0 listed) vm w inv.world (by unfold done; rw [hun']; simp) (fun j h1 h2 hd => (by unfold done; rw [before j hd]; simp [h1])) (fun j h1 h2 hd => hV j h1 h2 (by unfold done at hd; simp at hd; simpa using hd.2)) hD).congr exec).wp fun v w' ⟨h1, h2, h3, h4⟩ => ?_
      refine next v w' (fun h => absurd h (by omega)) (fun _ => h1) h2 h3 ?_
      have eS : done n0 (listed.setIfInBounds i true) = also (done n0 listed) i := funext fun j => by
       unfold done also
       rw [getset]
       by_cases hji : j = i
       · subst hji; simp; omega
       · have hb : (j == i) = false := by simpa using hji
         rw [hb, Bool.or_false, Bool.or_false]
      rw [eS]
      exact h4
end
theorem qgl {P : Program} {l : List Oper} {a : Act} {w : World} {id : Nat} {Q : Exit -> Act -> World -> Prop} (hm : P.follows .mixedOrders = true) (n0 n : Nat) (hB : okB n0 n l = true) (K : World -> Prop) (V : Nat -> (Nat -> Value) -> World -> Prop) (D : (Nat -> Bool) -> (Nat -> Value) -> World -> Prop) (hK : K w.drew)
 (hD0 : ∀ vm, D (fun _ => false) vm w.drew) (hDc : ∀ S vm vm' w, (∀ j, n0 <= j -> vm j = vm' j) -> D S vm w -> D S vm' w)
 (hVd : ∀ j vm vm' w, n0 <= j -> j < n -> (∀ k, k = j \/ dep l j k = true -> vm k = vm' k) -> V j vm w -> V j vm' w)
 (h : qfz P K (fun A => (qlS (fun i o => ∀ (S : Nat -> Bool) (vm : Nat -> Value) w, K w -> S i = false -> (∀ j, n0 <= j -> j < n -> depO o j = true -> S j = true) -> (∀ j, n0 <= j -> j < n -> S j = true -> V j vm w) -> D S vm w -> Gives P o (qan ((l.drop n0).take (n - n0)) n0 vm A) w (fun v w' => V i (upd vm i v) w' /\ K w' /\ (∀ j, n0 <= j -> j < n -> j ≠ i -> S j = true -> V j vm w -> V j vm w') /\ D (also S i) (upd vm i v) w')) ((l.drop n0).take (n - n0)) n0) /\
  (∀ (S : Nat -> Bool) (vm : Nat -> Value) w, K w -> (∀ j, n0 <= j -> j < n -> S j = true) -> (∀ j, n0 <= j -> j < n -> V j vm w) -> D S vm w -> wpList P l.toArray Q (l.drop n) (qan ((l.drop n0).take (n - n0)) n0 vm A) w)) (l.take n0) a) : (Code.region id l.toArray true).wp P Q a w := by
 have ok := Ok.of hB
 obtain ⟨A, u, hr, hA, hmid, htail⟩ := qeo _ _ h
 have hlen : (l.take n0).length = n0 := by simp; have := ok.lt; have := ok.le; omega
 rw [hlen] at hmid htail
 have hmid := fun i o (h1 : n0 <= i) (h2 : i < n) (ho : l[i]? = some o) => (by
  have := qgV _ _ hmid (i - n0) o (by rw [List.getElem?_take, if_pos (by omega), List.getElem?_drop, show n0 + (i - n0) = i by omega]; exact ho)
  rw [show n0 + (i - n0) = i by omega] at this
  exact fun S vm w hK hi hS hV hD => this S vm w hK hi (fun j h1 h2 hd => hS j h1 h2 (by unfold dep; rw [ho]; exact hd)) hV hD : ∀ (S : Nat -> Bool) (vm : Nat -> Value) w, K w -> S i = false -> (∀ j, n0 <= j -> j < n -> dep l i j = true -> S j = true) -> (∀ j, n0 <= j -> j < n -> S j = true -> V j vm w) -> D S vm w -> Gives P o (qan ((l.drop n0).take (n - n0)) n0 vm (A n0)) w (fun v w' => V i (upd vm i v) w' /\ K w' /\ (∀ j, n0 <= j -> j < n -> j ≠ i -> S j = true -> V j vm w -> V j vm w') /\ D (also S i) (upd vm i v) w'))
 refine wp_region_any hm ?_
 have hinv : Inv l n0 n u V D K (A 0) (Array.replicate l.toArray.size false) a w.drew := by
  refine ⟨⟨by simp, fun j oj _ hl => (by rw [getD_replicate_false] at hl; cases hl), fun t _ ht => getD_in (by simpa using ht) (getD_replicate_false _ _)⟩, ⟨fun _ => undef, ?_, fun j _ _ hl => (by rw [getD_replicate_false] at hl; cases hl), ?_⟩, hK⟩
  · rw [hA]
    exact Rx.Shape.start.congr fun j o _ => by rw [getD_replicate_false]
  · have e : done n0 (Array.replicate l.toArray.size false) = fun _ => false := funext fun j => by unfold done; rw [getD_replicate_false]; simp
    rw [e]
    exact hD0 _
 have := all_ (Q := Q) hr ok hDc hVd hmid htail n _ _ _ hinv (qlF n _ fun i _ => getD_replicate_false _ _)
 rw [show n + (l.length - n) = l.toArray.size by have := ok.lt; simp; omega] at this
 exact this
end Rj
namespace Go.Proofs.YtmiopphcfdlneaaGreat
open Go.RowKit Go.Shelf
theorem qbW {P : Program} {K : World -> Prop} {M T : Act -> Prop} {a : Act} (R : Act -> Prop) (hR : R a) (hM : ∀ A, R A -> M A) (hT : T a) : Rz.qfz P K (fun A => M A /\ T A) [] a := ⟨hM a hR, hT⟩
open Go Go.RowKit
structure qoU (P : Option Addr -> Nat -> World -> Prop) : Prop where
 below : ∀ {A c W W'}, P A c W -> Below W.heap.size W W' -> P A c W'
 row : ∀ {A : Option Addr} {c : Nat} {W : World} {B : Nat} {g : Gm.G} {A' : Option Addr} {m' c' : Nat} {r : Ros.R} (cs : Array Value), P A c W -> Box W B 38 (Im.cells g (.slice A' m' c') r) -> P A c (W.setRow B cs)
def stP (G : Gm.G) (r : Ros.R) (v : Value) (P : Option Addr -> Nat -> World -> Prop) (b : Nat) (k : Nat) (vm : Nat -> Value) (w : World) : Prop :=
 match k with
 | 0 => ∃ A c, vm 0 = .tuple #[.agg (Im.cells G (.slice A G.qaa.length c) r), v] /\ P A c w
 | 1 => ∃ A c, vm 1 = .tuple #[.agg (Im.cells G (.slice A G.qaa.length c) r), v] /\ P A c w
 | 2 => ∃ A c, vm 2 = .agg (Im.cells G (.slice A G.qaa.length c) r) /\ P A c w
 | 3 => vm 3 = v
 | 4 => ∃ B g' A' m' c' r', vm 4 = .pointer (some ⟨B, 0, none⟩) /\ b <= B /\ Box w B 38 (Im.cells g' (.slice A' m' c') r')
 | _ => ∃ B A c, vm 4 = .pointer (some ⟨B, 0, none⟩) /\ b <= B /\ Box w B 38 (Im.cells G (.slice A G.qaa.length c) r) /\ P A c w
section
variable {P : Option Addr -> Nat -> World -> Prop} {G : Gm.G} {r : Ros.R} {v : Value} {b k : Nat} {vm vm' : Nat -> Value} {w w' : World}
theorem qhr (h : stP G r v P b 1 vm w) : ∃ A c, vm 1 = .tuple #[.agg (Im.cells G (.slice A G.qaa.length c) r), v] /\ P A c w := h
theorem qny (h : stP G r v P b 0 vm w) : ∃ A c, vm 0 = .tuple #[.agg (Im.cells G (.slice A G.qaa.length c) r), v] /\ P A c w := h
theorem qnx (h : stP G r v P b 2 vm w) : ∃ A c, vm 2 = .agg (Im.cells G (.slice A G.qaa.length c) r) /\ P A c w := h
theorem qnw (h : stP G r v P b 3 vm w) : vm 3 = v := h
theorem qnv (h : stP G r v P b 4 vm w) : ∃ B g' A' m' c' r', vm 4 = .pointer (some ⟨B, 0, none⟩) /\ b <= B /\ Box w B 38 (Im.cells g' (.slice A' m' c') r') := h
theorem qnu (h : stP G r v P b 5 vm w) : ∃ B A c, vm 4 = .pointer (some ⟨B, 0, none⟩) /\ b <= B /\ Box w B 38 (Im.cells G (.slice A G.qaa.length c) r) /\ P A c w := h
theorem qdP (hP : qoU P) (h : stP G r v P b k vm w) (hb : Below w.heap.size w w') : stP G r v P b k vm w' := by
 match k, h with
 | 0, ⟨A, c, e, hl⟩ => exact ⟨A, c, e, hP.below hl hb⟩
 | 1, ⟨A, c, e, hl⟩ => exact ⟨A, c, e, hP.below hl hb⟩
 | 2, ⟨A, c, e, hl⟩ => exact ⟨A, c, e, hP.below hl hb⟩
 | 3, h => exact h
 | 4, ⟨B, g', A', m', c', r', e, hb', hB⟩ => exact ⟨B, g', A', m', c', r', e, hb', hB.below hb hB.lt⟩
 | k + 5, ⟨B, A, c, e, hb', hB, hl⟩ => exact ⟨B, A, c, e, hb', hB.below hb hB.lt, hP.below hl hb⟩
theorem qgt (hP : qoU P) {B : Nat} {g g' : Gm.G} {q r' : Ros.R} {A A' : Option Addr} {m m' c c' : Nat} (h : stP G r v P b k vm w) (hk : k < 5) (h4 : vm 4 = .pointer (some ⟨B, 0, none⟩)) (hB : Box w B 38 (Im.cells g (.slice A m c) q)) : stP G r v P b k vm (w.setRow B (Im.cells g' (.slice A' m' c') r')) := by
 match k, h with
 | 0, ⟨A, c, e, hl⟩ => exact ⟨A, c, e, hP.row _ hl hB⟩
 | 1, ⟨A, c, e, hl⟩ => exact ⟨A, c, e, hP.row _ hl hB⟩
 | 2, ⟨A, c, e, hl⟩ => exact ⟨A, c, e, hP.row _ hl hB⟩
 | 3, h => exact h
 | 4, ⟨B', g1, A1, m1, c1, r1, e, hb', hB'⟩ =>
  have eb : B' = B := by rw [e] at h4; injection h4 with h4; injection h4 with h4; injection h4
  subst eb
  exact ⟨B', g', A', m', c', r', e, hb', hB.row _⟩
theorem qaJ (h : stP G r v P b k vm w) (hk : k < 6) (h0 : vm k = vm' k) (h4 : k = 5 -> vm 4 = vm' 4) : stP G r v P b k vm' w := by
 match k, hk, h with
 | 0, _, ⟨A, c, e, hl⟩ => exact ⟨A, c, h0 ▸ e, hl⟩
 | 1, _, ⟨A, c, e, hl⟩ => exact ⟨A, c, h0 ▸ e, hl⟩
 | 2, _, ⟨A, c, e, hl⟩ => exact ⟨A, c, h0 ▸ e, hl⟩
 | 3, _, h => exact h0.symm.trans h
 | 4, _, ⟨B, g', A', m', c', r', e, hb', hB⟩ => exact ⟨B, g', A', m', c', r', h0 ▸ e, hb', hB⟩
 | 5, _, ⟨B, A, c, e, hb', hB, hl⟩ => exact ⟨B, A, c, (h4 rfl) ▸ e, hb', hB, hl⟩
end
theorem qlH (l : List Gm.Shot) : qoU (fun A _ W => Lies W W.heap.size 6 A l.length (Gm.qad l)) :=
 ⟨fun h hb => h.call hb, fun cs h hB => Lies.qa8 h rfl hB cs⟩
def ShP (b : Nat) (l : List Gm.Shot) (A : Option Addr) (c : Nat) (W : World) : Prop := Lies W W.heap.size 6 A l.length (Gm.qad l) /\ (l.length ≠ 0 -> W.ownsRow b 80 6 (.slice A l.length c) l.length (Gm.qad l))
theorem qii (b : Nat) (l : List Gm.Shot) : qoU (ShP b l) :=
 ⟨fun h hb => ⟨h.1.call hb, fun h0 => own_below (h.2 h0) hb (Nat.le_refl _)⟩, fun cs h hB => ⟨Lies.qa8 h.1 rfl hB cs, fun h0 => qbi (h.2 h0) (hB.qaM (h.2 h0) (by decide)) cs⟩⟩
def preV (n : Nat) (PV : Nat -> (Nat -> Value) -> World -> Prop) (SV : Nat -> (Nat -> Value) -> World -> Prop) (j : Nat) (vm : Nat -> Value) (W : World) : Prop := if j < n then PV j vm W else SV (j - n) (fun k => vm (n + k)) W
theorem qa0 {n j : Nat} {PV SV : Nat -> (Nat -> Value) -> World -> Prop} {vm : Nat -> Value} {W : World} (h : j < n) : preV n PV SV j vm W ↔ PV j vm W := by unfold preV; rw [if_pos h]
theorem qaj {n j : Nat} {PV SV : Nat -> (Nat -> Value) -> World -> Prop} {vm : Nat -> Value} {W : World} (h : n <= j) : preV n PV SV j vm W ↔ SV (j - n) (fun k => vm (n + k)) W := by unfold preV; rw [if_neg (by omega)]
theorem qdF {o : Oper} {a : Act} {w : World} {f : FuncId} {x : Operand} {tx : TypeId} {u : Value} (hc : ∀ (args : Array Value) (W : World), (callFunc f args).run Tryz.prog W = .ok (.enter f args) W) (ho : o.op = .call { callee := .value (.func f), args := #[x], argTypes := #[tx] }) (hx : a.eval x = u) : (execOp a.eval o).run Tryz.prog w = .ok (.enter f #[u]) w := by
 generalize hev : a.eval = ev at hx ⊢
 have hf : ev (.func f) = .func (.func f) #[] #[] := by rw [<- hev]; rfl
 unfold execOp
 simp only [ho]
 go_simp
theorem qb4 {o : Oper} {a : Act} {w : World} {f : FuncId} {x y : Operand} {tx ty : TypeId} {u v : Value} (hc : ∀ (args : Array Value) (W : World), (callFunc f args).run Tryz.prog W = .ok (.enter f args) W) (ho : o.op = .call { callee := .value (.func f), args := #[x, y], argTypes := #[tx, ty] }) (hx : a.eval x = u) (hy : a.eval y = v) : (execOp a.eval o).run Tryz.prog w = .ok (.enter f #[u, v]) w := by
 generalize hev : a.eval = ev at hx hy ⊢
 have hf : ev (.func f) = .func (.func f) #[] #[] := by rw [<- hev]; rfl
 unfold execOp
 simp only [ho]
 go_simp
theorem qmY {o : Oper} {a : Act} {w : World} {z x : Operand} {f : FuncId} {c0 c1 : Value} {tx : TypeId} {u : Value} (hc : ∀ (args : Array Value) (W : World), (callFunc f args).run Tryz.prog W = .ok (.enter f args) W) (ho : o.op = .call { callee := .value z, args := #[x], argTypes := #[tx] }) (hz : a.eval z = .func (.func f) #[] #[c0, c1]) (hx : a.eval x = u) : (execOp a.eval o).run Tryz.prog w = .ok (.enter f #[u, c0, c1]) w := by
 generalize hev : a.eval = ev at hx hz ⊢
 unfold execOp
 simp only [ho]
 go_simp
open Go.RowKit
theorem qo2 (g : Gm.G) (s : Value) (r : Ros.R) : Instr.fill (fun i => some (i * 76, 76)) ((Array.range (1 * 76)).map ((Value.agg Im.zero).cells[· % (Value.agg Im.zero).cells.size]!)) [(0, .agg (Im.cells g s r))] = some (Im.cells g s r) := by kernel_rfl
theorem qlG : ∃ i, Tryz.prog.info? 38 = some i /\ i.zero = some (.agg Im.zero) /\ i.size = 76 := by
 have h1 := qax
 have h2 := qcr
 cases hq : Tryz.prog.info? 38 with
 | none => rw [hq] at h1; cases h1
 | some ie =>
  rw [hq] at h1 h2
  exact ⟨ie, rfl, by simpa using h2, by simpa using h1⟩
theorem qqz (g : Gm.G) (s : Value) (r : Ros.R) (w : World) : (Instr.buildSlice 123 1 #[(0, .agg (Im.cells g s r))]).run Tryz.prog w = .ok (.slice (some ⟨w.heap.size, 0, none⟩) 1 1) (w.alloc (.cells (Im.cells g s r) 38)) := by
 obtain ⟨ie, hq, hz, hs⟩ := qlG
 exact run_buildSlice w _ _ 1 _ _ ie (.agg Im.zero) Tryz.underlying123 hq hz (by rw [hs]; decide) (by rw [hs]; decide) (by rw [hs]; exact qo2 g s r)
section
variable {ops : Array Oper} {rest : List Oper} {o : Oper} {a : Act} {w : World} {Q : Exit -> Act -> World -> Prop} {x y : Operand}
def qib (ops : Array Oper) (Q : Exit -> Act -> World -> Prop) (rest : List Oper) (dst : Option Tmp) (p : Value) (a : Act) (w : World) : Prop :=
 ∃ (ad : Addr) (q : Rg.St), p = .pointer (some ad) /\ (∀ j, j < 76 -> w.cell? (ad.add j) = q.cells[j]?) /\ wpList Tryz.prog ops Q rest (a.put dst (.agg (Im.cells q.g (.slice q.A q.g.qaa.length q.c) q.r))) w
theorem qib.mk {dst : Option Tmp} {p : Value} {ad : Addr} {q : Rg.St} (hp : p = .pointer (some ad)) (hc : ∀ j, j < 76 -> w.cell? (ad.add j) = q.cells[j]?) (h : wpList Tryz.prog ops Q rest (a.put dst (.agg (Im.cells q.g (.slice q.A q.g.qaa.length q.c) q.r))) w) : qib ops Q rest dst p a w := ⟨ad, q, hp, hc, h⟩
theorem qfh (hgd : o.guard = none) (ho : o.op = .load 38 x) (h : qib ops Q rest o.dst (a.eval x) a w) : wpList Tryz.prog ops Q (o :: rest) a w := by
 obtain ⟨ad, q, hx, hc, h⟩ := h
 refine wpList_plain hgd fun _ hK => ?_
 unfold Oper.wp
 rw [qeT (cs := q.cells) ho hx (fun j v hv => by
  have hj : j < 76 := by have := (List.getElem?_eq_some_iff.1 hv).1; rwa [q.len] at this
  rw [hc j hj]; exact hv) Tryz.underlying38 rfl (by rw [q.len]; exact qax)]
 have e : q.cells.toArray = Im.cells q.g (.slice q.A q.g.qaa.length q.c) q.r := by unfold Rg.St.cells Rg.St.arr; rw [Array.toArray_toList]
 rw [e]
 exact hK _ _ h
def ql3 (ops : Array Oper) (Q : Exit -> Act -> World -> Prop) (rest : List Oper) (dst : Option Tmp) (p v : Value) (a : Act) (w : World) : Prop :=
 ∃ (B : Nat) (old : Array Value), p = .pointer (some ⟨B, 0, none⟩) /\ v = .agg Im.zero /\ Box w B 38 old /\ old.size = 76 /\ wpList Tryz.prog ops Q rest (a.put dst undef) (w.setRow B Im.zero)
theorem ql3.mk {dst : Option Tmp} {p v : Value} {B : Nat} {old : Array Value} (hp : p = .pointer (some ⟨B, 0, none⟩)) (hv : v = .agg Im.zero) (hB : Box w B 38 old) (ho : old.size = 76) (h : wpList Tryz.prog ops Q rest (a.put dst undef) (w.setRow B Im.zero)) : ql3 ops Q rest dst p v a w := ⟨B, old, hp, hv, hB, ho, h⟩
theorem qiJ (hgd : o.guard = none) (ho : o.op = .store 38 x y) (h : ql3 ops Q rest o.dst (a.eval x) (a.eval y) a w) : wpList Tryz.prog ops Q (o :: rest) a w := by
 obtain ⟨B, old, hx, hy, hB, h76, h⟩ := h
 exact qbw hgd ho hx hy hB (by rw [Im.qaO]; exact qax) (by rw [Im.qaO]; exact h76) (by kernel_rfl) h
end
open Go Go.RowKit Go.Shelf
theorem qgf {B0 : Nat} {W : World} {o : Oper} {a : Act} {K : Act -> Prop} {B : Nat} {g : Gm.G} {s : Value} {r : Ros.R} {x : Operand} (ho : o.op = .load 38 x) (hx : a.eval x = .pointer (some ⟨B, 0, none⟩)) (hB : ∀ q : Ext B0 W, Box q.w B 38 (Im.cells g s r)) (h : K (a.put o.dst (.agg (Im.cells g s r)))) :
 o.quiet Tryz.prog a (fun w' => ∃ q : Ext B0 W, w' = q.w) K :=
 ⟨_, fun w hw => by obtain ⟨q, e'⟩ := hw; subst e'; unfold Oper.quietAt; rw [qcP ho hx (hB q) Tryz.underlying38 rfl (by rw [Im.qaf]; exact qax)]; exact ⟨rfl, rfl⟩, h⟩
theorem qf2 : ∃ i, Tryz.prog.info? 38 = some i /\ i.zero = some (.agg Im.zero) /\ i.size = 76 /\ i.bytes <= 100000 := by
 have h3 : (Tryz.prog.info? 38).all (fun i => decide (i.bytes <= 100000)) = true := by kernel_rfl
 obtain ⟨i, h, hz, hs⟩ := qlG
 rw [h] at h3
 exact ⟨i, h, hz, hs, of_decide_eq_true h3⟩
theorem qgs (q : Rg.St) : ∀ u ∈ q.cells, u.oneCell' = true := by
 have h := qoq q.g (.slice q.A q.g.qaa.length q.c) q.r rfl
 intro u hu
 exact (Array.all_eq_true_iff_forall_mem.1 h) u (Array.mem_toList_iff.1 hu)
theorem qja (L : List Rg.St) : ∀ u ∈ L.flatMap Rg.St.cells, u.oneCell' = true := fun u hu => by
 obtain ⟨q, _, h⟩ := List.mem_flatMap.1 hu
 exact qgs q u h
theorem qa4 {o : Oper} {a : Act} {w : World} {x : Operand} {ad : Addr} (ho : o.op = .nilCheck x) (hx : a.eval x = .pointer (some ad)) : (execOp a.eval o).run Tryz.prog w = .ok (.value (.pointer (some ad))) w := by
 unfold execOp
 simp only [ho, hx]
 go_simp
theorem qfv {o : Oper} {a : Act} {w : World} {x : Operand} {B : Nat} {v : Value} (ho : o.op = .load 123 x) (hx : a.eval x = .pointer (some ⟨B, 0, none⟩)) (hc : w.cell? ⟨B, 0, none⟩ = some v) : (execOp a.eval o).run Tryz.prog w = .ok (.value v) w := by
 unfold execOp
 simp only [ho, hx]
 go_simp
section
variable {L : List Rg.St} {k : Nat} {q : Rg.St} {base : Nat} {S : Nat -> Bool} {vm vm' : Nat -> Value} {w w' : World}
end
theorem qlc {o : Oper} {a : Act} {W : World} {x : Operand} (q : Rg.St) (ho : o.op = .buildSlice 123 1 #[(0, x)]) (hx : a.eval x = .agg q.arr) : (execOp a.eval o).run Tryz.prog W = .ok (.value (.slice (some ⟨W.heap.size, 0, none⟩) 1 1)) (W.alloc (.cells q.arr 38)) := by
 unfold execOp
 simp only [ho, List.map_toArray, List.map_cons, List.map_nil, hx, Sem.run_bind]
 unfold Rg.St.arr
 simp only [qqz, Result.andThen_ok, Sem.run_pure]
theorem qjZ {o : Oper} {a : Act} {W : World} {x : Operand} {B : Nat} (q : Rg.St) (ho : o.op = .load 38 x) (hx : a.eval x = .pointer (some ⟨B, 0, none⟩)) (hB : Box W B 38 q.arr) : (execOp a.eval o).run Tryz.prog W = .ok (.value (.agg q.arr)) W :=
 qcP ho hx hB Tryz.underlying38 rfl (by rw [q.size]; exact qax)
-- PUSH
def qhB (s : Fd.S) (X : World) (e : Ending) (X' : World) : Prop :=
 ∃ A c, e = .returned (.agg (Rg.St.arr ⟨s.g, s.r, A, c⟩)) /\ ShP X.heap.size s.g.qaa A c X' /\ Below X.heap.size X X'
theorem qca {B R : Nat} {Q : Nat -> Nat} {X : World} (h : Box X B 88 (Ck.cells R Q)) :
 Calls Tryz.prog 42 #[.pointer (some ⟨B, 0, none⟩)] X fun e X' => e = .returned (.bool false) /\ X = X' := by
 have k0 : X.cell? ⟨B, 0, none⟩ = some (.pointer (some ⟨R, 0, none⟩)) := h.cell 0
 clear h
 go_enter Tryz.func42, Tryz.ntmps42
 go_wp2_with fail
 go_ret
 exact ⟨rfl, rfl⟩
theorem qeb (X : World) :
 Calls Tryz.prog 42 #[.pointer none] X fun e X' => e = .returned (.bool true) /\ X = X' := by
 go_enter Tryz.func42, Tryz.ntmps42
 go_wp2_with fail
 go_ret
 exact ⟨rfl, rfl⟩
theorem qcu {o : Oper} {a : Act} {w : World} {x : Operand} {B : Nat} (ho : o.op = .fieldAddr 88 x 0) (hx : a.eval x = .pointer (some ⟨B, 0, none⟩)) : (execOp a.eval o).run Tryz.prog w = .ok (.value (.pointer (some ⟨B, 0, none⟩))) w := by
 unfold execOp
 simp only [ho, hx]
 go_simp
theorem qcW {o : Oper} {a : Act} {w : World} {x : Operand} {B : Nat} {v : Value} (ho : o.op = .load 83 x) (hx : a.eval x = .pointer (some ⟨B, 0, none⟩)) (hc : w.cell? ⟨B, 0, none⟩ = some v) : (execOp a.eval o).run Tryz.prog w = .ok (.value v) w := by
 unfold execOp
 simp only [ho, hx]
 go_simp
section
variable {RP : qcJ} {QP : QuP} (CR : qdM RP) (CQ : qcq QP) {b B : Nat} {F : Nat -> Prop} {m : Ck.K} {X : World}
include CR CQ
theorem qaS.kept (h : qaS RP QP b F B m X) {W : World} (hb : Below X.heap.size X W) : qaS RP QP b F B m W := (qaS.obj CR CQ).keep h (qaB.qa9 hb) (fun _ _ h => h)
theorem qdu (ho : Rg.Ok m.M) (s : Fd.S) (hs : Rg.at_ m.M (Rg.first m.M) = some s) (h : qaS RP QP b F B m X) :
 Calls Tryz.prog 18 #[.pointer (some ⟨B, 0, none⟩)] X (qhB s X) := by
 obtain ⟨f, hf⟩ : ∃ f, f = Rg.first m.M := ⟨_, rfl⟩
 rw [<- hf] at hs
 obtain ⟨X1, hX1⟩ : ∃ X1, X1 = X.alloc (.cells Im.zero 38) := ⟨_, rfl⟩
 have hb1 : Below X.heap.size X X1 := by rw [hX1]; exact qac X _
 have R1 := qh (show Box X1 X.heap.size 38 Im.zero by rw [hX1]; exact Box.made _ _ _)
 have S1 := qh (show X1.heap.size = X.heap.size + 1 by rw [hX1]; simp)
 have K1 := qh hb1
 have C1 := qh (show ∀ W, Below X1.heap.size X1 W -> Calls Tryz.prog 44 #[.pointer (some ⟨m.R, 0, none⟩)] W fun e W' => e = .returned (.int .i64 f) /\ Below W.heap.size W W' from fun W hW => by
  obtain ⟨FR, FQ, h1, _⟩ := (h.kept CR CQ (hb1.trans (hW.mono hb1.size))).fr
  rw [hf]
  exact CR.first b FR m.R m.M ho W h1)
 have C2 := qh (show ∀ W, Below X1.heap.size X1 W -> Calls Tryz.prog 43 #[.pointer (some ⟨m.R, 0, none⟩), .int .i64 f] W (qkm s W) from fun W hW => by
  obtain ⟨FR, FQ, h1, _⟩ := (h.kept CR CQ (hb1.trans (hW.mono hb1.size))).fr
  exact CR.at_yes b FR m.R m.M ho f s hs W h1)
 have BC := qh (h.box.below hb1 h.box.lt)
 have c0 := qh (qca BC.out)
 have KC := qh (show ∀ W, Below X1.heap.size X1 W -> W.cell? ⟨B, 0, none⟩ = some (.pointer (some ⟨m.R, 0, none⟩)) from fun W hW => (BC.out.below hW BC.out.lt).cell 0)
 have HX := qh hX1
 clear hX1 hb1 h hs hf ho
 go_enter Tryz.func18, Tryz.ntmps18
 go_upto_region 1 with (with_reducible refine qaz rfl rfl ?_)
 rw [<- HX.out]
 go_upto_region 3 with (go_at_call 42; ((with_reducible refine ((c0).out).mono ?_); rintro e w1 ⟨rfl, rfl⟩))
 have hPV := (show ∀ j vm W, preV 9 (fun j vm W => (j = 8 /\ (vm 8 = .int .i64 f))) (fun k vm W => stP s.g s.r (.bool true) (ShP X.heap.size s.g.qaa) X1.heap.size k vm W) j vm W = preV 9 (fun j vm W => (j = 8 /\ (vm 8 = .int .i64 f))) (fun k vm W => stP s.g s.r (.bool true) (ShP X.heap.size s.g.qaa) X1.heap.size k vm W) j vm W from fun _ _ _ => rfl)
 clear hPV
 have hMP := qii X.heap.size s.g.qaa
 refine Rz.qbF (by kernel_rfl) 8 15 (by kernel_rfl) (fun X => Below X1.heap.size X1 X) (preV 9 (fun j vm W => (j = 8 /\ (vm 8 = .int .i64 f))) (stP s.g s.r (.bool true) (ShP X.heap.size s.g.qaa) X1.heap.size)) ((Below.refl _ _).drew) ?hvd ?_
 case hvd =>
  intro j vm vm' X h1 h2 he hV
  obtain rfl | rfl | rfl | rfl | rfl | rfl | rfl : j = 8 \/ j = 9 \/ j = 10 \/ j = 11 \/ j = 12 \/ j = 13 \/ j = 14 := by omega
  · rw [qa0 (by omega)] at hV ⊢
    have e0 := he 8 (.inl rfl)
    simp only [Nat.reduceEqDiff, false_and, true_and, or_false, false_or, reduceCtorEq] at hV ⊢
    rw [<- e0]; exact hV
  · rw [qaj (by omega)] at hV ⊢; exact qaJ hV (by omega) (he 9 (.inl rfl)) (fun h => absurd h (by decide))
  · rw [qaj (by omega)] at hV ⊢; exact qaJ hV (by omega) (he 10 (.inl rfl)) (fun h => absurd h (by decide))
  · rw [qaj (by omega)] at hV ⊢; exact qaJ hV (by omega) (he 11 (.inl rfl)) (fun h => absurd h (by decide))
  · rw [qaj (by omega)] at hV ⊢; exact qaJ hV (by omega) (he 12 (.inl rfl)) (fun h => absurd h (by decide))
  · rw [qaj (by omega)] at hV ⊢; exact qaJ hV (by omega) (he 13 (.inl rfl)) (fun h => absurd h (by decide))
  · rw [qaj (by omega)] at hV ⊢; exact qaJ hV (by omega) (he 14 (.inl rfl)) (fun _ => he 13 (.inr (by kernel_rfl)))
 have hmv : ∀ (j : Nat) vm W W', preV 9 (fun j vm W => (j = 8 /\ (vm 8 = .int .i64 f))) (stP s.g s.r (.bool true) (ShP X.heap.size s.g.qaa) X1.heap.size) j vm W -> Below W.heap.size W W' -> preV 9 (fun j vm W => (j = 8 /\ (vm 8 = .int .i64 f))) (stP s.g s.r (.bool true) (ShP X.heap.size s.g.qaa) X1.heap.size) j vm W' := fun j vm W W' h hb => by
  by_cases hj : j < 9
  · rw [qa0 hj] at h ⊢
    rcases h with ⟨hj, h⟩
    · exact ⟨hj, h⟩
  · rw [qaj (by omega)] at h ⊢
    exact qdP hMP h hb
 simp only [List.take_succ_cons, List.take_zero, List.drop_succ_cons, List.drop_zero, Nat.reduceSub]
 refine Rz.qar (v := .pointer (some ⟨B, 0, none⟩)) (fun W hW => ?_) ?_
 · exact Rz.qaV rfl rfl
 refine Rz.qar (v := .pointer (some ⟨B, 0, none⟩)) (fun W hW => ?_) ?_
 · exact qa4 rfl rfl
 refine Rz.qar (v := .pointer (some ⟨B, 0, none⟩)) (fun W hW => ?_) ?_
 · exact qcu rfl rfl
 refine Rz.qar (v := .pointer (some ⟨m.R, 0, none⟩)) (fun W hW => ?_) ?_
 · exact qcW rfl rfl (KC.out W hW)
 simp only [Act.put, List.setIfInBounds_toArray, List.set_cons_succ, List.set_cons_zero]
 refine Rz.qar (v := .pointer (some ⟨B, 0, none⟩)) (fun W hW => ?_) ?_
 · exact Rz.qaV rfl rfl
 refine Rz.qar (v := .pointer (some ⟨B, 0, none⟩)) (fun W hW => ?_) ?_
 · exact qa4 rfl rfl
 refine Rz.qar (v := .pointer (some ⟨B, 0, none⟩)) (fun W hW => ?_) ?_
 · exact qcu rfl rfl
 refine Rz.qar (v := .pointer (some ⟨m.R, 0, none⟩)) (fun W hW => ?_) ?_
 · exact qcW rfl rfl (KC.out W hW)
 simp only [Act.put, List.setIfInBounds_toArray, List.set_cons_succ, List.set_cons_zero]
 refine qbW (fun A => A.tmps.size = 22 /\ A.eval (.tmp 16) = .pointer (some ⟨m.R, 0, none⟩) /\ A.eval (.tmp 12) = .pointer (some ⟨m.R, 0, none⟩)) ⟨rfl, rfl, rfl⟩ ?_ ?_
 · intro A hA0
   obtain ⟨hAs, hAr⟩ : A.tmps.size = 22 /\ A.eval (.tmp 16) = .pointer (some ⟨m.R, 0, none⟩) /\ A.eval (.tmp 12) = .pointer (some ⟨m.R, 0, none⟩) := hA0
   refine ⟨?_, ?_, ?_, ?_, ?_, ?_, ?_, trivial⟩
   · intro vm X2 hX hV
     refine qbk (f := 44) (args := #[.pointer (some ⟨m.R, 0, none⟩)]) (qdF (fun _ _ => by go_simp) rfl ?_) ((C1.out X2 hX).mono ?_)
     · simp only [Rz.qan]
       rw [Rz.qay, Rz.qab (by decide), Rz.qab (by decide), Rz.qab (by decide), Rz.qab (by decide), Rz.qab (by decide), Rz.qab (by decide)]
       exact hAr.1
     · rintro e w' ⟨rfl, hb⟩
       exact ⟨_, rfl, (qa0 (by omega)).2 ⟨rfl, by simp [Rz.upd]⟩, hX.trans (hb.mono hX.size), fun j _ _ _ h => hmv j vm _ _ h hb⟩
   · intro vm X2 hX hV
     have e1 : vm 8 = .int .i64 f := ((qa0 (by omega)).1 (hV 8 (by omega) (by omega) (by kernel_rfl))).2
     refine qbk (f := 43) (args := #[.pointer (some ⟨m.R, 0, none⟩), .int .i64 f]) (qb4 (fun _ _ => by go_simp) rfl ?_ ?_) ((C2.out X2 hX).mono ?_)
     · simp only [Rz.qan]
       rw [Rz.qay, Rz.qab (by decide), Rz.qab (by decide), Rz.qab (by decide), Rz.qab (by decide), Rz.qab (by decide), Rz.qab (by decide)]
       exact hAr.2
     · simp only [Rz.qan]
       rw [Rz.qay, Rz.qab (by decide), Rz.qab (by decide), Rz.qab (by decide), Rz.qab (by decide), Rz.qab (by decide), Rz.qaE (by simp only [Rz.qaD, hAs]; decide)]
       exact e1
     · rintro e w' ⟨A2, c2, rfl, hl, ho, hb⟩
       exact ⟨_, rfl, (qaj (by omega)).2 ⟨A2, c2, by simp [Rz.upd]; rfl, hl, fun h0 => qbE (ho h0) (Nat.le_trans K1.out.size hX.size)⟩, hX.trans (hb.mono hX.size), fun j _ _ _ h => hmv j vm _ _ h hb⟩
   · intro vm X2 hX hV
     obtain ⟨A2, c2, e, hl⟩ := qny ((qaj (by omega)).1 (hV 9 (by omega) (by omega) (by kernel_rfl)))
     refine qaH (w' := X2) (Rz.qaV (v := vm 9) rfl ?_) ⟨(qaj (by omega)).2 ⟨A2, c2, by simpa [Rz.upd] using e, hl⟩, hX, fun j _ _ _ h => h⟩
     simp only [Rz.qan]
     rw [Rz.qay, Rz.qab (by decide), Rz.qab (by decide), Rz.qab (by decide), Rz.qab (by decide), Rz.qaE (by simp only [Rz.qaD, hAs]; decide)]
   · intro vm X2 hX hV
     obtain ⟨A2, c2, e, hl⟩ := qhr ((qaj (by omega)).1 (hV 10 (by omega) (by omega) (by kernel_rfl)))
     refine qaH (w' := X2) (Rz.qbo (v := .agg (Im.cells s.g (.slice A2 (s.g).qaa.length c2) s.r)) (vs := #[.agg (Im.cells s.g (.slice A2 (s.g).qaa.length c2) s.r), (.bool true)]) rfl ?_ rfl) ⟨(qaj (by omega)).2 ⟨A2, c2, by simp [Rz.upd], hl⟩, hX, fun j _ _ _ h => h⟩
     simp only [Rz.qan]
     rw [Rz.qay, Rz.qab (by decide), Rz.qab (by decide), Rz.qab (by decide), Rz.qaE (by simp only [Rz.qaD, hAs]; decide)]
     exact e
   · intro vm X2 hX hV
     obtain ⟨A2, c2, e, hl⟩ := qhr ((qaj (by omega)).1 (hV 10 (by omega) (by omega) (by kernel_rfl)))
     refine qaH (w' := X2) (Rz.qbo (v := (.bool true)) (vs := #[.agg (Im.cells s.g (.slice A2 (s.g).qaa.length c2) s.r), (.bool true)]) rfl ?_ rfl) ⟨(qaj (by omega)).2 (by simp [Rz.upd, stP]), hX, fun j _ _ _ h => h⟩
     simp only [Rz.qan]
     rw [Rz.qay, Rz.qab (by decide), Rz.qab (by decide), Rz.qab (by decide), Rz.qaE (by simp only [Rz.qaD, hAs]; decide)]
     exact e
   · intro vm X2 hX hV
     exact qaH (qcE rfl qcr rfl) ⟨(qaj (by omega)).2 ⟨_, Im.G0, none, 0, 0, Im.R0, by simp [Rz.upd], hX.size, Box.made _ _ _⟩, hX.alloc hX.size _, fun j _ _ _ h => hmv j vm _ _ h (qac _ _)⟩
   · intro vm X2 hX hV
     obtain ⟨B5, g', A', m', c', r', e4, hbB, hB5⟩ := qnv ((qaj (by omega)).1 (hV 13 (by omega) (by omega) (by kernel_rfl)))
     obtain ⟨A2, c2, e2, hl⟩ := qnx ((qaj (by omega)).1 (hV 11 (by omega) (by omega) (by kernel_rfl)))
     have e4' : vm 13 = .pointer (some ⟨B5, 0, none⟩) := e4
     have e2' : vm 11 = .agg (Im.cells s.g (.slice A2 (s.g).qaa.length c2) s.r) := e2
     refine qdt (qb0 (B := B5) (cs := Im.cells s.g (.slice A2 (s.g).qaa.length c2) s.r) rfl ?_ ?_ hB5 (by rw [Im.qaf]; exact qax) (by rw [Im.qaf, Im.qaf]) (qdO rfl)) ⟨(qaj (by omega)).2 ⟨B5, A2, c2, by simpa [Rz.upd] using e4', hbB, hB5.row _, hMP.row _ hl hB5⟩, Below.setRow' hX hbB _, fun j h1 h2 h3 h => ?_⟩
     · simp only [Rz.qan]
       rw [Rz.qay, Rz.qaE (by simp only [Rz.qaD, hAs]; decide)]
       exact e4'
     · simp only [Rz.qan]
       rw [Rz.qay, Rz.qab (by decide), Rz.qab (by decide), Rz.qaE (by simp only [Rz.qaD, hAs]; decide)]
       exact e2'
     · by_cases hj : j < 9
       · rw [qa0 hj] at h ⊢
         rcases h with ⟨hj, h⟩
         · exact ⟨hj, h⟩
       · rw [qaj (by omega)] at h ⊢
         exact qgt hMP h (by omega) e4 hB5
 · intro vm X2 hX hV
   obtain ⟨BX, A2, c2, e4, hbB, hBX, hl⟩ := qnu ((qaj (by omega)).1 (hV 14 (by omega) (by omega)))
   have e3 := qnw ((qaj (by omega)).1 (hV 12 (by omega) (by omega)))
   clear hV
   simp only [Nat.reduceAdd] at e4 e3
   simp only [Rz.qan, Nat.reduceAdd, e4, e3]
   generalize vm 8 = v8
   generalize vm 9 = v9
   generalize vm 10 = v10
   generalize vm 11 = v11
   generalize vm 14 = v14
   have B5 := qh hBX
   have L5 := qh hl
   have R5 := qh (R1.out.below hX R1.out.lt)
   have K5 := qh (K1.out.trans (hX.mono K1.out.size))
   have ne5 : BX ≠ X.heap.size := by have := S1.out; omega
   clear hbB hBX hl hX
   go_wp2_with (first | ((with_reducible refine qak rfl rfl ?_); apply qaC.mk rfl; (focus (with_reducible exact B5.out)); dsimp only) | ((with_reducible refine qaI rfl rfl ?_); apply qcj.mk rfl rfl; (focus (with_reducible exact R5.out)); (focus exact Im.qaO); (focus rfl)))
   refine bodyPost_ret (v := .agg (Im.cells s.g (.slice A2 s.g.qaa.length c2) s.r)) ?_ ?_ ?_
   · exact results_cell_row rfl _ _ _ _ (Im.cells s.g (.slice A2 s.g.qaa.length c2) s.r) (0, 0) _ rfl (R5.out.row _).is Tryz.underlying38 rfl (by rw [Im.qaf]; exact qax)
   · rfl
   · exact ⟨A2, c2, rfl, (qii _ _).row (A := A2) (c := c2) (g := Im.G0) (A' := none) (m' := 0) (c' := 0) (r := Im.R0) _ L5.out (by exact R5.out), Below.setRow' K5.out (Nat.le_refl _) _⟩
theorem qlg (ho : Rg.Ok m.M) (s : Fd.S) (hs : Rg.at_ m.M (Rg.last m.M) = some s) (h : qaS RP QP b F B m X) :
 Calls Tryz.prog 20 #[.pointer (some ⟨B, 0, none⟩)] X (qhB s X) := by
 obtain ⟨f, hf⟩ : ∃ f, f = Rg.last m.M := ⟨_, rfl⟩
 rw [<- hf] at hs
 obtain ⟨X1, hX1⟩ : ∃ X1, X1 = X.alloc (.cells Im.zero 38) := ⟨_, rfl⟩
 have hb1 : Below X.heap.size X X1 := by rw [hX1]; exact qac X _
 have R1 := qh (show Box X1 X.heap.size 38 Im.zero by rw [hX1]; exact Box.made _ _ _)
 have S1 := qh (show X1.heap.size = X.heap.size + 1 by rw [hX1]; simp)
 have K1 := qh hb1
 have C1 := qh (show ∀ W, Below X1.heap.size X1 W -> Calls Tryz.prog 46 #[.pointer (some ⟨m.R, 0, none⟩)] W fun e W' => e = .returned (.int .i64 f) /\ Below W.heap.size W W' from fun W hW => by
  obtain ⟨FR, FQ, h1, _⟩ := (h.kept CR CQ (hb1.trans (hW.mono hb1.size))).fr
  rw [hf]
  exact CR.last b FR m.R m.M ho W h1)
 have C2 := qh (show ∀ W, Below X1.heap.size X1 W -> Calls Tryz.prog 43 #[.pointer (some ⟨m.R, 0, none⟩), .int .i64 f] W (qkm s W) from fun W hW => by
  obtain ⟨FR, FQ, h1, _⟩ := (h.kept CR CQ (hb1.trans (hW.mono hb1.size))).fr
  exact CR.at_yes b FR m.R m.M ho f s hs W h1)
 have BC := qh (h.box.below hb1 h.box.lt)
 have c0 := qh (qca BC.out)
 have KC := qh (show ∀ W, Below X1.heap.size X1 W -> W.cell? ⟨B, 0, none⟩ = some (.pointer (some ⟨m.R, 0, none⟩)) from fun W hW => (BC.out.below hW BC.out.lt).cell 0)
 have HX := qh hX1
 clear hX1 hb1 h hs hf ho
 go_enter Tryz.func20, Tryz.ntmps20
 go_upto_region 1 with (with_reducible refine qaz rfl rfl ?_)
 rw [<- HX.out]
 go_upto_region 3 with (go_at_call 42; ((with_reducible refine ((c0).out).mono ?_); rintro e w1 ⟨rfl, rfl⟩))
 have hPV := (show ∀ j vm W, preV 9 (fun j vm W => (j = 8 /\ (vm 8 = .int .i64 f))) (fun k vm W => stP s.g s.r (.bool true) (ShP X.heap.size s.g.qaa) X1.heap.size k vm W) j vm W = preV 9 (fun j vm W => (j = 8 /\ (vm 8 = .int .i64 f))) (fun k vm W => stP s.g s.r (.bool true) (ShP X.heap.size s.g.qaa) X1.heap.size k vm W) j vm W from fun _ _ _ => rfl)
 clear hPV
 have hMP := qii X.heap.size s.g.qaa
 refine Rz.qbF (by kernel_rfl) 8 15 (by kernel_rfl) (fun X => Below X1.heap.size X1 X) (preV 9 (fun j vm W => (j = 8 /\ (vm 8 = .int .i64 f))) (stP s.g s.r (.bool true) (ShP X.heap.size s.g.qaa) X1.heap.size)) ((Below.refl _ _).drew) ?hvd ?_
 case hvd =>
  intro j vm vm' X h1 h2 he hV
  obtain rfl | rfl | rfl | rfl | rfl | rfl | rfl : j = 8 \/ j = 9 \/ j = 10 \/ j = 11 \/ j = 12 \/ j = 13 \/ j = 14 := by omega
  · rw [qa0 (by omega)] at hV ⊢
    have e0 := he 8 (.inl rfl)
    simp only [Nat.reduceEqDiff, false_and, true_and, or_false, false_or, reduceCtorEq] at hV ⊢
    rw [<- e0]; exact hV
  · rw [qaj (by omega)] at hV ⊢; exact qaJ hV (by omega) (he 9 (.inl rfl)) (fun h => absurd h (by decide))
  · rw [qaj (by omega)] at hV ⊢; exact qaJ hV (by omega) (he 10 (.inl rfl)) (fun h => absurd h (by decide))
  · rw [qaj (by omega)] at hV ⊢; exact qaJ hV (by omega) (he 11 (.inl rfl)) (fun h => absurd h (by decide))
  · rw [qaj (by omega)] at hV ⊢; exact qaJ hV (by omega) (he 12 (.inl rfl)) (fun h => absurd h (by decide))
  · rw [qaj (by omega)] at hV ⊢; exact qaJ hV (by omega) (he 13 (.inl rfl)) (fun h => absurd h (by decide))
  · rw [qaj (by omega)] at hV ⊢; exact qaJ hV (by omega) (he 14 (.inl rfl)) (fun _ => he 13 (.inr (by kernel_rfl)))
 have hmv : ∀ (j : Nat) vm W W', preV 9 (fun j vm W => (j = 8 /\ (vm 8 = .int .i64 f))) (stP s.g s.r (.bool true) (ShP X.heap.size s.g.qaa) X1.heap.size) j vm W -> Below W.heap.size W W' -> preV 9 (fun j vm W => (j = 8 /\ (vm 8 = .int .i64 f))) (stP s.g s.r (.bool true) (ShP X.heap.size s.g.qaa) X1.heap.size) j vm W' := fun j vm W W' h hb => by
  by_cases hj : j < 9
  · rw [qa0 hj] at h ⊢
    rcases h with ⟨hj, h⟩
    · exact ⟨hj, h⟩
  · rw [qaj (by omega)] at h ⊢
    exact qdP hMP h hb
 simp only [List.take_succ_cons, List.take_zero, List.drop_succ_cons, List.drop_zero, Nat.reduceSub]
 refine Rz.qar (v := .pointer (some ⟨B, 0, none⟩)) (fun W hW => ?_) ?_
 · exact Rz.qaV rfl rfl
 refine Rz.qar (v := .pointer (some ⟨B, 0, none⟩)) (fun W hW => ?_) ?_
 · exact qa4 rfl rfl
 refine Rz.qar (v := .pointer (some ⟨B, 0, none⟩)) (fun W hW => ?_) ?_
 · exact qcu rfl rfl
 refine Rz.qar (v := .pointer (some ⟨m.R, 0, none⟩)) (fun W hW => ?_) ?_
 · exact qcW rfl rfl (KC.out W hW)
 simp only [Act.put, List.setIfInBounds_toArray, List.set_cons_succ, List.set_cons_zero]
 refine Rz.qar (v := .pointer (some ⟨B, 0, none⟩)) (fun W hW => ?_) ?_
 · exact Rz.qaV rfl rfl
 refine Rz.qar (v := .pointer (some ⟨B, 0, none⟩)) (fun W hW => ?_) ?_
 · exact qa4 rfl rfl
 refine Rz.qar (v := .pointer (some ⟨B, 0, none⟩)) (fun W hW => ?_) ?_
 · exact qcu rfl rfl
 refine Rz.qar (v := .pointer (some ⟨m.R, 0, none⟩)) (fun W hW => ?_) ?_
 · exact qcW rfl rfl (KC.out W hW)
 simp only [Act.put, List.setIfInBounds_toArray, List.set_cons_succ, List.set_cons_zero]
 refine qbW (fun A => A.tmps.size = 22 /\ A.eval (.tmp 16) = .pointer (some ⟨m.R, 0, none⟩) /\ A.eval (.tmp 12) = .pointer (some ⟨m.R, 0, none⟩)) ⟨rfl, rfl, rfl⟩ ?_ ?_
 · intro A hA0
   obtain ⟨hAs, hAr⟩ : A.tmps.size = 22 /\ A.eval (.tmp 16) = .pointer (some ⟨m.R, 0, none⟩) /\ A.eval (.tmp 12) = .pointer (some ⟨m.R, 0, none⟩) := hA0
   refine ⟨?_, ?_, ?_, ?_, ?_, ?_, ?_, trivial⟩
   · intro vm X2 hX hV
     refine qbk (f := 46) (args := #[.pointer (some ⟨m.R, 0, none⟩)]) (qdF (fun _ _ => by go_simp) rfl ?_) ((C1.out X2 hX).mono ?_)
     · simp only [Rz.qan]
       rw [Rz.qay, Rz.qab (by decide), Rz.qab (by decide), Rz.qab (by decide), Rz.qab (by decide), Rz.qab (by decide), Rz.qab (by decide)]
       exact hAr.1
     · rintro e w' ⟨rfl, hb⟩
       exact ⟨_, rfl, (qa0 (by omega)).2 ⟨rfl, by simp [Rz.upd]⟩, hX.trans (hb.mono hX.size), fun j _ _ _ h => hmv j vm _ _ h hb⟩
   · intro vm X2 hX hV
     have e1 : vm 8 = .int .i64 f := ((qa0 (by omega)).1 (hV 8 (by omega) (by omega) (by kernel_rfl))).2
     refine qbk (f := 43) (args := #[.pointer (some ⟨m.R, 0, none⟩), .int .i64 f]) (qb4 (fun _ _ => by go_simp) rfl ?_ ?_) ((C2.out X2 hX).mono ?_)
     · simp only [Rz.qan]
       rw [Rz.qay, Rz.qab (by decide), Rz.qab (by decide), Rz.qab (by decide), Rz.qab (by decide), Rz.qab (by decide), Rz.qab (by decide)]
       exact hAr.2
     · simp only [Rz.qan]
       rw [Rz.qay, Rz.qab (by decide), Rz.qab (by decide), Rz.qab (by decide), Rz.qab (by decide), Rz.qab (by decide), Rz.qaE (by simp only [Rz.qaD, hAs]; decide)]
       exact e1
     · rintro e w' ⟨A2, c2, rfl, hl, ho, hb⟩
       exact ⟨_, rfl, (qaj (by omega)).2 ⟨A2, c2, by simp [Rz.upd]; rfl, hl, fun h0 => qbE (ho h0) (Nat.le_trans K1.out.size hX.size)⟩, hX.trans (hb.mono hX.size), fun j _ _ _ h => hmv j vm _ _ h hb⟩
   · intro vm X2 hX hV
     obtain ⟨A2, c2, e, hl⟩ := qny ((qaj (by omega)).1 (hV 9 (by omega) (by omega) (by kernel_rfl)))
     refine qaH (w' := X2) (Rz.qaV (v := vm 9) rfl ?_) ⟨(qaj (by omega)).2 ⟨A2, c2, by simpa [Rz.upd] using e, hl⟩, hX, fun j _ _ _ h => h⟩
     simp only [Rz.qan]
     rw [Rz.qay, Rz.qab (by decide), Rz.qab (by decide), Rz.qab (by decide), Rz.qab (by decide), Rz.qaE (by simp only [Rz.qaD, hAs]; decide)]
   · intro vm X2 hX hV
     obtain ⟨A2, c2, e, hl⟩ := qhr ((qaj (by omega)).1 (hV 10 (by omega) (by omega) (by kernel_rfl)))
     refine qaH (w' := X2) (Rz.qbo (v := .agg (Im.cells s.g (.slice A2 (s.g).qaa.length c2) s.r)) (vs := #[.agg (Im.cells s.g (.slice A2 (s.g).qaa.length c2) s.r), (.bool true)]) rfl ?_ rfl) ⟨(qaj (by omega)).2 ⟨A2, c2, by simp [Rz.upd], hl⟩, hX, fun j _ _ _ h => h⟩
     simp only [Rz.qan]
     rw [Rz.qay, Rz.qab (by decide), Rz.qab (by decide), Rz.qab (by decide), Rz.qaE (by simp only [Rz.qaD, hAs]; decide)]
     exact e
   · intro vm X2 hX hV
     obtain ⟨A2, c2, e, hl⟩ := qhr ((qaj (by omega)).1 (hV 10 (by omega) (by omega) (by kernel_rfl)))
     refine qaH (w' := X2) (Rz.qbo (v := (.bool true)) (vs := #[.agg (Im.cells s.g (.slice A2 (s.g).qaa.length c2) s.r), (.bool true)]) rfl ?_ rfl) ⟨(qaj (by omega)).2 (by simp [Rz.upd, stP]), hX, fun j _ _ _ h => h⟩
     simp only [Rz.qan]
     rw [Rz.qay, Rz.qab (by decide), Rz.qab (by decide), Rz.qab (by decide), Rz.qaE (by simp only [Rz.qaD, hAs]; decide)]
     exact e
   · intro vm X2 hX hV
     exact qaH (qcE rfl qcr rfl) ⟨(qaj (by omega)).2 ⟨_, Im.G0, none, 0, 0, Im.R0, by simp [Rz.upd], hX.size, Box.made _ _ _⟩, hX.alloc hX.size _, fun j _ _ _ h => hmv j vm _ _ h (qac _ _)⟩
   · intro vm X2 hX hV
     obtain ⟨B5, g', A', m', c', r', e4, hbB, hB5⟩ := qnv ((qaj (by omega)).1 (hV 13 (by omega) (by omega) (by kernel_rfl)))
     obtain ⟨A2, c2, e2, hl⟩ := qnx ((qaj (by omega)).1 (hV 11 (by omega) (by omega) (by kernel_rfl)))
     have e4' : vm 13 = .pointer (some ⟨B5, 0, none⟩) := e4
     have e2' : vm 11 = .agg (Im.cells s.g (.slice A2 (s.g).qaa.length c2) s.r) := e2
     refine qdt (qb0 (B := B5) (cs := Im.cells s.g (.slice A2 (s.g).qaa.length c2) s.r) rfl ?_ ?_ hB5 (by rw [Im.qaf]; exact qax) (by rw [Im.qaf, Im.qaf]) (qdO rfl)) ⟨(qaj (by omega)).2 ⟨B5, A2, c2, by simpa [Rz.upd] using e4', hbB, hB5.row _, hMP.row _ hl hB5⟩, Below.setRow' hX hbB _, fun j h1 h2 h3 h => ?_⟩
     · simp only [Rz.qan]
       rw [Rz.qay, Rz.qaE (by simp only [Rz.qaD, hAs]; decide)]
       exact e4'
     · simp only [Rz.qan]
       rw [Rz.qay, Rz.qab (by decide), Rz.qab (by decide), Rz.qaE (by simp only [Rz.qaD, hAs]; decide)]
       exact e2'
     · by_cases hj : j < 9
       · rw [qa0 hj] at h ⊢
         rcases h with ⟨hj, h⟩
         · exact ⟨hj, h⟩
       · rw [qaj (by omega)] at h ⊢
         exact qgt hMP h (by omega) e4 hB5
 · intro vm X2 hX hV
   obtain ⟨BX, A2, c2, e4, hbB, hBX, hl⟩ := qnu ((qaj (by omega)).1 (hV 14 (by omega) (by omega)))
   have e3 := qnw ((qaj (by omega)).1 (hV 12 (by omega) (by omega)))
   clear hV
   simp only [Nat.reduceAdd] at e4 e3
   simp only [Rz.qan, Nat.reduceAdd, e4, e3]
   generalize vm 8 = v8
   generalize vm 9 = v9
   generalize vm 10 = v10
   generalize vm 11 = v11
   generalize vm 14 = v14
   have B5 := qh hBX
   have L5 := qh hl
   have R5 := qh (R1.out.below hX R1.out.lt)
   have K5 := qh (K1.out.trans (hX.mono K1.out.size))
   have ne5 : BX ≠ X.heap.size := by have := S1.out; omega
   clear hbB hBX hl hX
   go_wp2_with (first | ((with_reducible refine qak rfl rfl ?_); apply qaC.mk rfl; (focus (with_reducible exact B5.out)); dsimp only) | ((with_reducible refine qaI rfl rfl ?_); apply qcj.mk rfl rfl; (focus (with_reducible exact R5.out)); (focus exact Im.qaO); (focus rfl)))
   refine bodyPost_ret (v := .agg (Im.cells s.g (.slice A2 s.g.qaa.length c2) s.r)) ?_ ?_ ?_
   · exact results_cell_row rfl _ _ _ _ (Im.cells s.g (.slice A2 s.g.qaa.length c2) s.r) (0, 0) _ rfl (R5.out.row _).is Tryz.underlying38 rfl (by rw [Im.qaf]; exact qax)
   · rfl
   · exact ⟨A2, c2, rfl, (qii _ _).row (A := A2) (c := c2) (g := Im.G0) (A' := none) (m' := 0) (c' := 0) (r := Im.R0) _ L5.out (by exact R5.out), Below.setRow' K5.out (Nat.le_refl _) _⟩
end
end Go.Proofs.YtmiopphcfdlneaaGreat