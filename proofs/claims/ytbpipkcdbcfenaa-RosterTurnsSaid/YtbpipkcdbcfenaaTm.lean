/-
RosterBack's walk.
-/
import Derived.Test.YtbpipkcdbcfenaaTi
import Derived.Test.YtbpipkcdbcfenaaTk
import Derived.Test.YtbpipkcdbcfenaaTl
namespace Go.Proofs.Ytbpipkcdbcfenaa
open Go.RowKit Go.Shelf
set_option linter.unusedVariables false
set_option linter.unusedSimpArgs false

theorem Ros.take_ok {r : Ros.R} {k : Nat} {p : Int} (h : Ros.MayTake r k p) : Ros.Ok (Ros.take r k p) := by
  obtain ⟨⟨⟨⟨hok, hv⟩, h0, h8⟩, hp, ho⟩, hpk, hgk⟩ := h
  have hk : k < 8 := by omega
  obtain ⟨h1, h2, h3⟩ := Ros.ok_iff.1 hok
  have hof := Ros.of_cases hok hp.1 hp.2
  have hnone : ∀ j, j < 8 → r.peer j ≠ p := by
    rcases hof with ⟨_, h⟩ | ⟨j, _, e, _⟩
    · exact h
    · rw [ho] at e; omega
  have hgk' : r.gen k ≠ 60000 := hgk
  refine Ros.ok_iff.2 ⟨?_, fun j hj => ?_, fun i j hij hj => ?_⟩
  · show 0 ≤ r.version + 1 ∧ r.version + 1 ≤ 1073741824
    omega
  · by_cases e : j = k
    · subst e
      have hs := (h2 j hj).1
      show (0 ≤ Ros.upd r.gen j _ j ∧ Ros.upd r.gen j _ j ≤ 60000) ∧ (Ros.upd r.peer j p j = -1 ∨ ((0 ≤ Ros.upd r.peer j p j ∧ Ros.upd r.peer j p j < 12) ∧ 0 < Ros.upd r.gen j _ j))
      rw [Ros.upd_same, Ros.upd_same]
      exact ⟨by omega, .inr ⟨hp, by omega⟩⟩
    · show (0 ≤ Ros.upd r.gen k _ j ∧ Ros.upd r.gen k _ j ≤ 60000) ∧ (Ros.upd r.peer k p j = -1 ∨ ((0 ≤ Ros.upd r.peer k p j ∧ Ros.upd r.peer k p j < 12) ∧ 0 < Ros.upd r.gen k _ j))
      rw [Ros.upd_other _ _ e, Ros.upd_other _ _ e]
      exact h2 j hj
  · show Ros.upd r.peer k p i = -1 ∨ Ros.upd r.peer k p i ≠ Ros.upd r.peer k p j
    by_cases e : i = k
    · subst e
      rw [Ros.upd_same, Ros.upd_other _ _ (by omega)]
      exact .inr (fun e => hnone j hj e.symm)
    · rw [Ros.upd_other _ _ e]
      by_cases e' : j = k
      · subst e'
        rw [Ros.upd_same]
        exact .inr (hnone i (by omega))
      · rw [Ros.upd_other _ _ e']
        exact h3 i j hij hj
theorem Ros.take_peer (r : Ros.R) (k : Nat) (p : Int) : (Ros.take r k p).peer k = p := Ros.upd_same _ _ _
theorem Ros.take_gen (r : Ros.R) (k : Nat) (p : Int) : (Ros.take r k p).gen k = r.gen k + 1 := Ros.upd_same _ _ _
theorem Ros.take_give {r : Ros.R} {k : Nat} {p : Int} (h : Ros.MayTake r k p) (hv : r.version + 1 < 1073741824) : Ros.MayGive (Ros.take r k p) k :=
  ⟨⟨⟨Ros.take_ok h, hv⟩, h.1.1.2⟩, by
    have e : (Ros.take r k p).peer (k : Int).toNat = p := Ros.take_peer r k p
    rw [e]; have := h.1.2.1; omega⟩
theorem Ros.back_cells (r : Ros.R) (k : Nat) (p : Int) : Ros.cells ⟨r.version + 2, Ros.upd r.peer k (-1), Ros.upd r.gen k (r.gen k + 1)⟩ = Ros.cells (Ros.give (Ros.take r k p) k) := by
  refine Ros.cells_congr ?_ (fun j _ => ?_) (fun j _ => rfl)
  · show r.version + 2 = r.version + 1 + 1
    omega
  · show Ros.upd r.peer k (-1) j = Ros.upd (Ros.upd r.peer k p) k (-1) j
    unfold Ros.upd
    split <;> rfl

set_option maxRecDepth 100000 in
set_option maxHeartbeats 4000000 in
theorem back_law (r : Ros.R) (s p : Int) (w : World) :
    Calls Try.prog 11 #[.agg (Ros.cells r), .int .i64 s, .int .i64 p] w fun e w' => e = .returned (.bool true) ∧ Kept w w' := by
  have ct := fun X => Lib.hid (told8_any X)
  have P0 := Lib.hid (Box.made w 51 (Ros.cells r))
  have PB := Lib.hid (one_below w (.cells (Ros.cells r) 51))
  have ee := ros_eql_self
  by_cases h0 : s < 0
  · have d0 : decide (s < 0) = true := decide_eq_true h0
    go_enter Try.func11, Try.ntmps11
    go_wp2_with (first | (go_at_call 43; ((with_reducible refine ((ct _).out).mono ?_); rintro e w9 ⟨rfl, hb⟩; have K9 := Lib.hid (PB.out.trans (hb.mono PB.out.size)); clear hb)))
    go_ret
    exact ⟨rfl, K9.out⟩
  by_cases h8 : 8 ≤ s
  · have d0 : decide (s < 0) = false := decide_eq_false h0
    have d8 : decide (8 ≤ s) = true := decide_eq_true h8
    go_enter Try.func11, Try.ntmps11
    go_wp2_with (first | (go_at_call 43; ((with_reducible refine ((ct _).out).mono ?_); rintro e w9 ⟨rfl, hb⟩; have K9 := Lib.hid (PB.out.trans (hb.mono PB.out.size)); clear hb)))
    go_ret
    exact ⟨rfl, K9.out⟩
  have d0 : decide (s < 0) = false := decide_eq_false h0
  have d8 : decide (8 ≤ s) = false := decide_eq_false h8
  obtain ⟨k, rfl⟩ : ∃ k : Nat, s = k := ⟨s.toNat, by omega⟩
  have hk : k < 8 := by omega
  have hk8 : (k : Int) < 8 := by omega
  clear h0 h8
  by_cases hm : Ros.MayTake r k p
  · have cta := fun X => Lib.hid (rostake_yes r k p X hm)
    have ev : (Ros.cells (Ros.take r k p))[0]? = some (.int .i64 (r.version + 1)) := Ros.cells_0 _
    by_cases hv : r.version + 1 < 1073741824
    · have hg := Ros.take_give hm hv
      have cg := fun X => Lib.hid (rosgive_yes (Ros.take r k p) k X hg)
      have ca := fun X => Lib.hid (rosapply_leave_yes (Ros.take r k p) k X hg (r.gen k + 1) p (Ros.take_peer r k p) (Ros.take_gen r k p))
      have hbk := Ros.back_cells r k p
      have e0 := Ros.cells_0 r
      have eg := Ros.cells_gen r k hk
      have ep := Ros.cells_peer r k hk
      generalize r.peer k = pk at ep
      have ea := Ros.cells_gen (Ros.take r k p) k hk
      rw [Ros.take_gen] at ea
      have hgb := (Ros.Ok.seat hm.1.1.1.1 k hk).1
      have hvb := hm.1.1.1.1.1
      obtain ⟨v, hve⟩ : ∃ v, v = r.version := ⟨_, rfl⟩
      obtain ⟨gk, hge⟩ : ∃ gk, gk = r.gen k := ⟨_, rfl⟩
      rw [← hve] at e0 hvb ev
      rw [← hge] at eg ea hgb ca
      have hw1 : IntKind.i64.wrap (gk + 1) = gk + 1 := by rw [IntKind.wrap_i64]; omega
      have hw2 : IntKind.i64.wrap (v + 2) = v + 2 := by rw [IntKind.wrap_i64]; omega
      have HBK := Lib.hid hbk
      have HV := Lib.hid hve
      have HG := Lib.hid hge
      obtain ⟨a, ha⟩ : ∃ a, a = Ros.take r k p := ⟨_, rfl⟩
      obtain ⟨b, hb⟩ : ∃ b, b = Ros.give a k := ⟨_, rfl⟩
      rw [← ha] at cta cg ca ea ev
      rw [← hb] at cg ca
      have HA := Lib.hid ha
      have HB := Lib.hid hb
      clear hm hv hg hbk hge hve ha hb hgb hvb
      go_enter Try.func11, Try.ntmps11
      go_upto_region 9 with (first | ((with_reducible refine ros_alloc rfl rfl ?_)) | ((with_reducible refine ros_store_new rfl rfl rfl rfl rfl ?_)) | ((with_reducible refine ros_load rfl rfl ?_); apply LoadRow.mk rfl; (focus (with_reducible exact P0.out)); (focus (exact ros_info))) | ((with_reducible refine ros_load rfl rfl ?_); apply LoadRow.mk rfl; (focus (with_reducible exact P1.out)); (focus (exact ros_info))) | ((with_reducible refine ros_load rfl rfl ?_); apply LoadRow.mk rfl; (focus (with_reducible exact A1.out)); (focus (exact ros_info))) | ((with_reducible refine ros_load rfl rfl ?_); apply LoadRow.mk rfl; (focus (with_reducible exact P2.out)); (focus (exact ros_info))) | (go_at_call 41; ((with_reducible refine ((cta _).out).mono ?_); rintro e w1 ⟨rfl, hb⟩; have P1 := Lib.hid ((P0.out.below hb P0.out.lt).alloc (.cells (Ros.cells a) 51)); have A1 := Lib.hid (Box.made w1 51 (Ros.cells a)); have K1 := Lib.hid ((PB.out.trans (hb.mono PB.out.size)).alloc (Nat.le_trans PB.out.size hb.size) (.cells (Ros.cells a) 51)); have q1 := P1.out.cell; clear hb)) | (go_at_call 40; ((with_reducible refine ((cg _).out).mono ?_); rintro e w2 ⟨rfl, hb⟩; have P2 := Lib.hid ((P1.out.below hb P1.out.lt).alloc (.cells (Ros.cells b) 51)); have A2 := Lib.hid ((A1.out.below hb A1.out.lt).alloc (.cells (Ros.cells b) 51)); have B2 := Lib.hid (Box.made w2 51 (Ros.cells b)); have K2 := Lib.hid ((K1.out.trans (hb.mono K1.out.size)).alloc (Nat.le_trans K1.out.size hb.size) (.cells (Ros.cells b) 51)); clear hb q1)))
      generalize hV2 : w2.alloc (.cells (Ros.cells b) 51) = V2 at *
      generalize w2.heap.size = b2 at *
      generalize w1.heap.size = b1 at *
      have P3 := Lib.hid (P2.out.alloc (.cells (Ros.cells r) 51))
      have A3 := Lib.hid (A2.out.alloc (.cells (Ros.cells r) 51))
      have B3 := Lib.hid (B2.out.alloc (.cells (Ros.cells r) 51))
      have G3 := Lib.hid (Box.made V2 51 (Ros.cells r))
      have K3 := Lib.hid (K2.out.alloc K2.out.size (.cells (Ros.cells r) 51))
      have l0 := K2.out.size
      have l1 := P2.out.lt
      have l2 := A2.out.lt
      have l3 := B2.out.lt
      go_upto_region 10 with (first | ((with_reducible refine ros_alloc rfl rfl ?_)) | ((with_reducible refine ros_store_new rfl rfl rfl rfl rfl ?_)) | ((with_reducible refine ros_load rfl rfl ?_); apply LoadRow.mk rfl; (focus (with_reducible exact P2.out)); (focus (exact ros_info))))
      generalize hV3 : V2.alloc (.cells (Ros.cells r) 51) = V3 at *
      generalize V2.heap.size = b3 at *
      have p3 := P3.out.cell
      have g3 := G3.out.cell
      have g3f := G3.out.free
      go_upto_region 13 with fail
      obtain ⟨U, hU⟩ : ∃ U, U = ((V3.setCell ⟨b3, 0, none⟩ (.int .i64 (v + 2))).setCell ⟨b3, 1 + k * 2 + 1, none⟩ (.int .i64 (gk + 1))).setCell ⟨b3, 1 + k * 2, none⟩ (.int .i64 (-1)) := ⟨_, rfl⟩
      have GU : Box U b3 51 (Ros.cells b) := by
        have e1 : Ros.cells b = Ros.cells ⟨v + 2, Ros.upd r.peer k (-1), Ros.upd r.gen k (gk + 1)⟩ := by rw [HB.out, HA.out, HV.out, HG.out]; exact HBK.out.symm
        rw [e1, hU]
        exact ((G3.out.rosv _).rosg hk _).rosp hk _
      have PU : Box U w.heap.size 51 (Ros.cells r) := by rw [hU]; exact ((P3.out.far (by show _ ≠ b3; omega) _).far (by show _ ≠ b3; omega) _).far (by show _ ≠ b3; omega) _
      have AU : Box U b1 51 (Ros.cells a) := by rw [hU]; exact ((A3.out.far (by show _ ≠ b3; omega) _).far (by show _ ≠ b3; omega) _).far (by show _ ≠ b3; omega) _
      have BU : Box U b2 51 (Ros.cells b) := by rw [hU]; exact ((B3.out.far (by show _ ≠ b3; omega) _).far (by show _ ≠ b3; omega) _).far (by show _ ≠ b3; omega) _
      have KU : Below w.heap.size w U := by rw [hU]; exact ((K3.out.setCell l0 _).setCell l0 _).setCell l0 _
      rw [← hU]
      have G4 := Lib.hid GU
      have A4 := Lib.hid AU
      have B4 := Lib.hid BU
      have K4 := Lib.hid KU
      clear hU GU PU AU BU KU G3 P3 A3 B3 K3 P2 A2 B2 K2 P1 A1 K1 p3 g3 g3f hV2 hV3 l1 l2 l3 HBK HV HG P0 PB
      have CA := Lib.hid ca
      have HBX := Lib.hid (fun X (hX : Below U.heap.size U X) => A4.out.below hX A4.out.lt)
      clear ca cg cta
      refine Rz.wp_region_z (by kernel_rfl) 9 15 (by kernel_rfl) (fun X => Below U.heap.size U X) (fun j vm => madeV 51 (Ros.cells b) 0 U.heap.size (j - 9) (fun k => vm (9 + k))) ((Below.refl _ _).drew) ?hvd ?_
      case hvd =>
        intro j vm vm' X h1 h2 he hV
        obtain rfl | rfl | rfl | rfl | rfl | rfl : j = 9 ∨ j = 10 ∨ j = 11 ∨ j = 12 ∨ j = 13 ∨ j = 14 := by omega
        · exact madeV_congr hV (by omega) (he 9 (.inl rfl)) (fun h => absurd h (by decide))
        · exact madeV_congr hV (by omega) (he 10 (.inl rfl)) (fun h => absurd h (by decide))
        · exact madeV_congr hV (by omega) (he 11 (.inl rfl)) (fun h => absurd h (by decide))
        · exact madeV_congr hV (by omega) (he 12 (.inl rfl)) (fun h => absurd h (by decide))
        · exact madeV_congr hV (by omega) (he 13 (.inl rfl)) (fun h => absurd h (by decide))
        · exact madeV_congr hV (by omega) (he 14 (.inl rfl)) (fun _ => he 13 (.inr (by kernel_rfl)))
      simp only [List.take_succ_cons, List.take_zero, List.drop_succ_cons, List.drop_zero, Nat.reduceSub]
      repeat (first
        | (apply Rz.head_op; focus (intro W hW; exact exec_load_ros rfl rfl (HBX.out W hW)))
        | (apply Rz.head_op; focus (intro W hW; have q0 := (HBX.out W hW).cell; clear hW; go_simp; first | done | rfl)))
      refine Rz.head_split (fun A => A.tmps.size = 100) (by simp only [Rz.put_size]; rfl) ?_ ?_ ?_
      · intro vm X hX hV
        simp only [Rz.putAll]
        clear hV
        refine gives_call (f := 45) (args := #[.agg (Ros.cells a), .agg #[.int .i64 2, .int .i64 k, .int .i64 (gk + 1), .int .i64 p]]) ?_ ((CA.out X).out.mono ?_)
        · go_simp
          first | done | rfl
        · rintro e w' ⟨rfl, hb⟩
          exact ⟨_, rfl, rfl, hX.trans (hb.mono hX.size), fun j _ _ _ h => madeV_below h hb⟩
      · intro A hAs
        clear CA HBX
        refine ⟨?_, ?_, ?_, ?_, ?_, trivial⟩
        · intro vm X hX hV
          have e : vm 9 = .tuple #[.agg (Ros.cells b), .int .i64 0] := hV 9 (by omega) (by omega) (by kernel_rfl)
          refine gives_val (w' := X) (Rz.exec_move (v := vm 9) rfl ?_) ⟨by simpa [Rz.upd, madeV] using e, hX, fun j _ _ _ h => h⟩
          simp only [Rz.putAll]
          rw [Rz.put_none, Rz.put_other (by decide), Rz.put_other (by decide), Rz.put_other (by decide), Rz.put_other (by decide), Rz.put_same (by rw [hAs]; decide)]
        · intro vm X hX hV
          have e : vm 10 = .tuple #[.agg (Ros.cells b), .int .i64 0] := hV 10 (by omega) (by omega) (by kernel_rfl)
          refine gives_val (w' := X) (Rz.exec_extract (v := .agg (Ros.cells b)) (vs := #[.agg (Ros.cells b), .int .i64 0]) rfl ?_ rfl) ⟨by simp [Rz.upd, madeV], hX, fun j _ _ _ h => h⟩
          simp only [Rz.putAll]
          rw [Rz.put_none, Rz.put_other (by decide), Rz.put_other (by decide), Rz.put_other (by decide), Rz.put_same (by simp only [Rz.put_size, hAs]; decide)]
          exact e
        · intro vm X hX hV
          have e : vm 10 = .tuple #[.agg (Ros.cells b), .int .i64 0] := hV 10 (by omega) (by omega) (by kernel_rfl)
          refine gives_val (w' := X) (Rz.exec_extract (v := .int .i64 0) (vs := #[.agg (Ros.cells b), .int .i64 0]) rfl ?_ rfl) ⟨by simp [Rz.upd, madeV], hX, fun j _ _ _ h => h⟩
          simp only [Rz.putAll]
          rw [Rz.put_none, Rz.put_other (by decide), Rz.put_other (by decide), Rz.put_other (by decide), Rz.put_same (by simp only [Rz.put_size, hAs]; decide)]
          exact e
        · intro vm X hX hV
          exact gives_val (exec_alloc_z rfl ros_zero rfl) ⟨⟨_, _, by simp [Rz.upd], hX.size, Box.made _ _ _, rfl⟩, hX.alloc hX.size _, fun j _ _ _ h => madeV_below h (one_below _ _)⟩
        · intro vm X hX hV
          obtain ⟨BX, old, e4, hbB, hB, hs⟩ : ∃ BX old, vm 13 = .pointer (some ⟨BX, 0, none⟩) ∧ U.heap.size ≤ BX ∧ Box X BX 51 old ∧ old.size = (Ros.cells b).size := hV 13 (by omega) (by omega) (by kernel_rfl)
          have e2 : vm 11 = .agg (Ros.cells b) := hV 11 (by omega) (by omega) (by kernel_rfl)
          refine gives_skip (exec_store_blk (B := BX) (cs := Ros.cells b) rfl ?_ ?_ hB ros_info hs (ros_one _)) ⟨⟨BX, by simpa [Rz.upd] using e4, hbB, hB.row _⟩, Below.setRow' hX hbB _, fun j h1 h2 h3 h => madeV_row h (by omega) e4 hB⟩
          · simp only [Rz.putAll]
            rw [Rz.put_none, Rz.put_same (by simp only [Rz.put_size, hAs]; decide)]
            exact e4
          · simp only [Rz.putAll]
            rw [Rz.put_none, Rz.put_other (by decide), Rz.put_other (by decide), Rz.put_same (by simp only [Rz.put_size, hAs]; decide)]
            exact e2
      · intro vm X hX hV
        obtain ⟨BX, e4, hbB, hBX⟩ : ∃ BX, vm 13 = .pointer (some ⟨BX, 0, none⟩) ∧ U.heap.size ≤ BX ∧ Box X BX 51 (Ros.cells b) := hV 14 (by omega) (by omega)
        have e3 : vm 12 = .int .i64 0 := hV 12 (by omega) (by omega)
        clear hV
        simp only [Rz.putAll, Nat.reduceAdd, e4, e3]
        generalize vm 9 = v9
        generalize vm 10 = v10
        generalize vm 11 = v11
        generalize vm 14 = v14
        have B5 := Lib.hid (B4.out.below hX B4.out.lt)
        have G5 := Lib.hid (G4.out.below hX G4.out.lt)
        have X5 := Lib.hid hBX
        have K5 := Lib.hid (K4.out.trans (hX.mono K4.out.size))
        clear e4 e3 hX hBX hbB HBX CA A4 B4 G4 K4
        go_wp2_with (first | (go_at_call 43; ((with_reducible refine ((ct _).out).mono ?_); rintro e w9 ⟨rfl, hb⟩; have B6 := Lib.hid (B5.out.below hb B5.out.lt); have G6 := Lib.hid (G5.out.below hb G5.out.lt); have X6 := Lib.hid (X5.out.below hb X5.out.lt); have K9 := Lib.hid (K5.out.trans (hb.mono K5.out.size)); clear hb)) | ((with_reducible refine ros_load_g ?_ rfl ?_); (focus first | rfl | kernel_rfl | simp [Region.wanted, yielded]); apply LoadRow.mk rfl; (focus (with_reducible exact B6.out)); (focus (exact ros_info))) | ((with_reducible refine ros_load_g ?_ rfl ?_); (focus first | rfl | kernel_rfl | simp [Region.wanted, yielded]); apply LoadRow.mk rfl; (focus (with_reducible exact G6.out)); (focus (exact ros_info))) | ((with_reducible refine ros_load_g ?_ rfl ?_); (focus first | rfl | kernel_rfl | simp [Region.wanted, yielded]); apply LoadRow.mk rfl; (focus (with_reducible exact X6.out)); (focus (exact ros_info))))
        go_ret
        exact ⟨rfl, K9.out⟩
    · have hg : ¬ Ros.MayGive (Ros.take r k p) k := fun h => hv h.1.1.2
      have cg := fun X => Lib.hid (rosgive_no (Ros.take r k p) k X hg)
      have hve : r.version + 1 = 1073741824 := by have := hm.1.1.1.2; omega
      rw [hve] at ev
      obtain ⟨a, ha⟩ : ∃ a, a = Ros.take r k p := ⟨_, rfl⟩
      rw [← ha] at cta cg ev
      clear hm hv hg hve ha
      go_enter Try.func11, Try.ntmps11
      go_wp2_with (first | ((with_reducible refine ros_alloc rfl rfl ?_)) | ((with_reducible refine ros_store_new rfl rfl rfl rfl rfl ?_)) | ((with_reducible refine ros_load rfl rfl ?_); apply LoadRow.mk rfl; (focus (with_reducible exact P0.out)); (focus (exact ros_info))) | ((with_reducible refine ros_load rfl rfl ?_); apply LoadRow.mk rfl; (focus (with_reducible exact P1.out)); (focus (exact ros_info))) | ((with_reducible refine ros_load rfl rfl ?_); apply LoadRow.mk rfl; (focus (with_reducible exact A1.out)); (focus (exact ros_info))) | (go_at_call 41; ((with_reducible refine ((cta _).out).mono ?_); rintro e w1 ⟨rfl, hb⟩; have P1 := Lib.hid ((P0.out.below hb P0.out.lt).alloc (.cells (Ros.cells a) 51)); have A1 := Lib.hid (Box.made w1 51 (Ros.cells a)); have K1 := Lib.hid ((PB.out.trans (hb.mono PB.out.size)).alloc (Nat.le_trans PB.out.size hb.size) (.cells (Ros.cells a) 51)); have q1 := P1.out.cell; clear hb)) | (go_at_call 40; ((with_reducible refine ((cg _).out).mono ?_); rintro e w2 ⟨rfl, hb⟩; have P2 := Lib.hid ((P1.out.below hb P1.out.lt).alloc (.cells (Ros.cells a) 51)); have A2 := Lib.hid ((A1.out.below hb A1.out.lt).alloc (.cells (Ros.cells a) 51)); have B2 := Lib.hid (Box.made w2 51 (Ros.cells a)); have K2 := Lib.hid ((K1.out.trans (hb.mono K1.out.size)).alloc (Nat.le_trans K1.out.size hb.size) (.cells (Ros.cells a) 51)); clear hb q1)) | (go_at_call 43; ((with_reducible refine ((ct _).out).mono ?_); rintro e w9 ⟨rfl, hb⟩; have a9 := (A2.out.below hb A2.out.lt).cell; have K9 := Lib.hid (K2.out.trans (hb.mono K2.out.size)); clear hb)))
      go_ret
      exact ⟨rfl, K9.out⟩
  · have ctn := fun X => Lib.hid (rostake_no r k p X hm)
    clear hm
    go_enter Try.func11, Try.ntmps11
    go_wp2_with (first | ((with_reducible refine ros_alloc rfl rfl ?_)) | ((with_reducible refine ros_store_new rfl rfl rfl rfl rfl ?_)) | ((with_reducible refine ros_load rfl rfl ?_); apply LoadRow.mk rfl; (focus (with_reducible exact P0.out)); (focus (exact ros_info))) | (go_at_call 41; ((with_reducible refine ((ctn _).out).mono ?_); rintro e w1 ⟨rfl, hb⟩; have P1 := Lib.hid ((P0.out.below hb P0.out.lt).alloc (.cells (Ros.cells r) 51)); have A1 := Lib.hid (Box.made w1 51 (Ros.cells r)); have K1 := Lib.hid ((PB.out.trans (hb.mono PB.out.size)).alloc (Nat.le_trans PB.out.size hb.size) (.cells (Ros.cells r) 51)); have q1 := P1.out.cell; clear hb)) | (go_at_call 43; ((with_reducible refine ((ct _).out).mono ?_); rintro e w9 ⟨rfl, hb⟩; have P9 := Lib.hid (P1.out.below hb P1.out.lt); have A9 := Lib.hid (A1.out.below hb A1.out.lt); have K9 := Lib.hid (K1.out.trans (hb.mono K1.out.size)); clear hb)) | ((with_reducible refine ros_load_g ?_ rfl ?_); (focus first | rfl | kernel_rfl | simp [Region.wanted, yielded]); apply LoadRow.mk rfl; (focus (with_reducible exact P9.out)); (focus (exact ros_info))) | ((with_reducible refine ros_load_g ?_ rfl ?_); (focus first | rfl | kernel_rfl | simp [Region.wanted, yielded]); apply LoadRow.mk rfl; (focus (with_reducible exact A9.out)); (focus (exact ros_info))))
    go_ret
    exact ⟨rfl, K9.out⟩
end Go.Proofs.Ytbpipkcdbcfenaa
