/-
RosterTurns' walk.
-/
import Derived.Test.YtbpipkcdbcfenaaTo
import Derived.Test.YtbpipkcdbcfenaaTp
import Derived.LoopTactic
namespace Go.Proofs.Ytbpipkcdbcfenaa
open Go.RowKit Go.Shelf
set_option linter.unusedVariables false
set_option linter.unusedSimpArgs false

theorem seat_neq (p g : Int) (w : World) : (binOp .neq 48 (.agg #[.int .i64 p, .int .i64 g]) (.agg #[.int .i64 p, .int .i64 g])).run Try.prog w = .ok (.bool false) w := by
  go_simp <;> simp
set_option maxRecDepth 100000 in
set_option maxHeartbeats 16000000 in
theorem turns_law (A : Option Addr) (c n : Nat) (l : List Int) (w : World) (hn : n = l.length) (hnm : n ≤ maxLen) (hL : Lies w w.heap.size 1 A n (l.flatMap fun x => [.int .i64 x])) :
    Calls Try.prog 9 #[.slice A n c] w fun e w' => e = .returned (.bool true) ∧ Kept w w' := by
  have ct := fun X => Lib.hid (told8_any X)
  have cn := fun X => Lib.hid (rosnew_any X)
  have HL := Lib.hid hL
  have NL := Lib.hid hn
  clear hL hn
  go_enter Try.func9, Try.ntmps9
  go_wp2_with (first | ((with_reducible refine ros_store_new rfl rfl rfl rfl rfl ?_)) | ((with_reducible refine ros_alloc rfl rfl ?_)) | (go_at_call 37; ((with_reducible refine ((cn _).out).mono ?_); rintro e w1 ⟨rfl, hb⟩; have P1 := Lib.hid (Box.made w1 51 (Ros.cells Ros.new)); have K1 := Lib.hid (hb.alloc hb.size (.cells (Ros.cells Ros.new) 51)); have szB := hb.size; clear hb)))
  generalize w1.heap.size = B at *
  go_loopw [4, 5, 6, 7, 8, 9, 10, 11] (fun i p s fr nn e k up wr => ∃ f : Nat, f ≤ n ∧ f ≤ 60 ∧ i = .int .i64 f ∧ ∃ r : Ros.R, Ros.Few r f ∧ Box wr B 51 (Ros.cells r) ∧ Below w.heap.size w wr) (fun i _ _ _ _ _ _ _ _ => n - (intOf i).toNat)
  case atStart => exact ⟨0, by omega, by omega, rfl, Ros.new, Ros.Few.start, P1.out, K1.out⟩
  case round =>
    obtain ⟨f, hf, hf60, rfl, r, hr, hB, hb⟩ := hrel
    clear P1 K1 cn
    by_cases hlt : f < n
    · have hf8 : (f : Int) < n := by omega
      by_cases hl6 : f < 60
      · have hf6 : (f : Int) < 60 := by omega
        have hfw : IntKind.i64.wrap (f : Int) = (f : Int) := by rw [IntKind.wrap_i64]; omega
        obtain ⟨ad, rfl, hadl⟩ := HL.out.start (by omega)
        have nb := NL.out
        have q0 := ints_at (HL.out.below hb) nb f (by omega)
        generalize l.getD f 0 = x at q0
        have hp2 : 0 ≤ (IntKind.u64.wrap x).tmod 12 ∧ (IntKind.u64.wrap x).tmod 12 < 12 := by
          rw [Int.tmod_eq_emod_of_nonneg (by simp only [IntKind.wrap_u64]; omega)]; exact ⟨Int.emod_nonneg _ (by omega), Int.emod_lt_of_pos _ (by omega)⟩
        obtain ⟨P, hP, hP12⟩ : ∃ P : Nat, (IntKind.u64.wrap x).tmod 12 = (P : Int) ∧ P < 12 := ⟨((IntKind.u64.wrap x).tmod 12).toNat, by omega, by omega⟩
        have hPw : IntKind.i64.wrap (P : Int) = P := by rw [IntKind.wrap_i64]; omega
        have co := fun X => Lib.hid (rosof_any r P X)
        have cf := fun X => Lib.hid (rosfree_any r X)
        have Q0 := Lib.hid hB
        have QB := Lib.hid hb
        have HR := Lib.hid hr
        clear hp2 nb hB hb hr
        go_upto_region 6 with fail
        have hwB := (Q0.out.lt)
        have ZR := Lib.hid (fun q : Ext wr.heap.size wr => Q0.out.below q.h Q0.out.lt)
        refine wp_region_ext wr.heap.size wr (by kernel_rfl) (by kernel_rfl) (Below.refl _ _) ?_
        repeat (first | (go_big_quiet_want; refine quiet_ros rfl rfl ZR.out ?_; simp only [Act.put, List.setIfInBounds_toArray, List.set_cons_succ, List.set_cons_zero]; go_big_quiet_on) | go_big_quiet_step ((first | (go_at_call 38; with_reducible exact Calls.ext_of (Nat.le_refl _) (co _).out) | (go_at_call 39; with_reducible exact Calls.ext_of (Nat.le_refl _) (cf _).out))))
        refine wpQuiet_nil ?_
        intro _ hw'
        obtain ⟨q, hw''⟩ := hw'
        subst hw''
        have Q1 := Lib.hid (ZR.out q)
        have K1 := Lib.hid (QB.out.trans (q.h.mono QB.out.size))
        generalize q.w = V at *
        have hrc := HR.out
        have hfree := Ros.free_cases hrc.ok
        have hofc := Ros.of_cases hrc.ok (p := P) (by omega) (by omega)
        have e0 := Ros.cells_0 r
        have hvw : IntKind.i64.wrap (r.version + 1) = r.version + 1 := by rw [IntKind.wrap_i64]; have := hrc.ok.1; omega
        have ltB := Q1.out.lt
        clear co cf ZR Q0 QB
        go_upto_region 8 with (first | ((with_reducible refine ros_load rfl rfl ?_); apply LoadRow.mk rfl; (focus (with_reducible exact Q1.out)); (focus (exact ros_info))) | ((with_reducible refine ros_alloc rfl rfl ?_)) | ((with_reducible refine ros_store_new rfl rfl rfl rfl rfl ?_)))
        have R0 := Lib.hid (Q1.out.alloc (.cells (Ros.cells r) 51))
        have N0 := Lib.hid (Box.made V 51 (Ros.cells r))
        have K0 := Lib.hid (K1.out.alloc K1.out.size (.cells (Ros.cells r) 51))
        have szN : w.heap.size ≤ V.heap.size := K1.out.size
        generalize V.alloc (.cells (Ros.cells r) 51) = V1 at *
        generalize V.heap.size = Bn at *
        have neBN : B ≠ Bn := by omega
        clear Q1 K1
        rcases hofc with ⟨hof, hnone⟩ | ⟨j, hj, hof, hpj⟩
        · rw [hof]
          rcases hfree with ⟨hfr, hall⟩ | ⟨m, hm, hfr, hpm, hgm, hall⟩
          · have ht := Ros.turn_none (p := P) (f := f) hrc
            rw [hfr]
            have TT := Lib.hid ht
            obtain ⟨G, hG⟩ : ∃ G, G = r := ⟨_, rfl⟩
            have N3 := Lib.hid (show Box V1 Bn 51 (Ros.cells G) by rw [hG]; exact N0.out)
            have R3 := R0
            have K3 := K0
            have TT := Lib.hid (show Ros.Turn r G P (-1) (-1) f by rw [hG]; exact ht)
            have hofG := hof
            rw [← hG] at hofG
            have e0g : (Ros.cells G)[0]? = some (.int .i64 r.version) := by rw [hG]; exact Ros.cells_0 r
            have HGo := Lib.hid hofG
            clear ht hof hfr hall hrc hG hnone hofG R0 N0 K0
            have cm := fun X => Lib.hid (rosmay_any G X)
            rw [show Ros.may G = true from decide_eq_true TT.out.few.ok] at cm
            have cog := fun X => Lib.hid (rosof_any G P X)
            go_wp2_with (first | ((with_reducible refine ros_load_g ?_ rfl ?_); (focus first | rfl | kernel_rfl | simp [Region.wanted, yielded]); apply LoadRow.mk rfl; (focus (with_reducible exact N3.out)); (focus (exact ros_info))) | (go_at_call 42; ((with_reducible refine ((cm _).out).mono ?_); rintro e w4 ⟨rfl, hb⟩; have R4 := Lib.hid (R3.out.below hb R3.out.lt); have N4 := Lib.hid (N3.out.below hb N3.out.lt); have K4 := Lib.hid (K3.out.trans (hb.mono K3.out.size)); clear hb)))
            go_loopw [10, 11] (fun kk up wx => ∃ k : Nat, k ≤ 8 ∧ kk = .int .i64 k ∧ Box wx B 51 (Ros.cells r) ∧ Box wx Bn 51 (Ros.cells G) ∧ Below w.heap.size w wx) (fun kk _ _ => 8 - (intOf kk).toNat)
            case atStart => exact ⟨0, by omega, rfl, R4.out, N4.out, K4.out⟩
            case round =>
              obtain ⟨k, hk, rfl, hBR, hBN, hBK⟩ := hrel
              clear R4 N4 K4 R3 N3 K3 cm
              by_cases hlt8 : k < 8
              · have hk8 : (k : Int) < 8 := by omega
                have hkw : IntKind.i64.wrap (k : Int) = (k : Int) := by rw [IntKind.wrap_i64]; omega
                have rc := hBR.cell
                have nc := hBN.cell
                have gp := Ros.cells_peer G k hlt8
                have gg := Ros.cells_gen G k hlt8
                have rp := Ros.cells_peer r k hlt8
                have rg := Ros.cells_gen r k hlt8
                have H := Lib.hid (And.intro hBR (And.intro hBN hBK))
                have tr := TT.out.rose k hlt8
                have tk := TT.out.kept k hlt8
                have ts := TT.out.same k hlt8
                clear hBR hBN hBK cog
                have hkn : ((k : Int) == -1) = false := by simp <;> omega
                have hkn2 : ((k : Int) != -1) = true := by simp <;> omega
                have eg : G.gen k = r.gen k := tk (by omega)
                have ep : G.peer k = r.peer k := ts (by omega) (by omega)
                rw [eg] at gg
                rw [ep] at gp
                have hne := seat_neq (r.peer k) (r.gen k)
                generalize r.gen k = gk at *
                generalize r.peer k = pk at *
          
                clear tr tk ts
                go_upto_region 18 with fail
                go_quiet (fail)
                go_wp2
                go_roundw
                case rel => exact ⟨k + 1, by omega, by go_num, H.out.1.draws _, H.out.2.1.draws _, draws_below H.out.2.2 _⟩
                case measure => simp [intOf]; omega
              · have hk8 : ¬ (k : Int) < 8 := by omega
                have R6 := Lib.hid hBR
                have N6 := Lib.hid hBN
                have K6 := Lib.hid hBK
                clear hBR hBN hBK
                rw [HGo.out] at cog
                have hvn : (r.version != r.version + 1) = true := by simp; omega
                generalize r.version = v at *
                go_wp2_with (first | ((with_reducible refine ros_load rfl rfl ?_); apply LoadRow.mk rfl; (focus (with_reducible exact N6.out)); (focus (exact ros_info))) | ((with_reducible refine ros_load rfl rfl ?_); apply LoadRow.mk rfl; (focus (with_reducible exact N5.out)); (focus (exact ros_info))) | ((with_reducible refine ros_store rfl rfl ?_); apply StoreRow.mk rfl rfl; (focus (with_reducible exact R5.out)); (focus (exact ros_info)); (focus rfl); (focus (exact ros_one _))) | (go_at_call 38; ((with_reducible refine ((cog _).out).mono ?_); rintro e w5 ⟨rfl, hb⟩; have R5 := Lib.hid (R6.out.below hb R6.out.lt); have N5 := Lib.hid (N6.out.below hb N6.out.lt); have K5 := Lib.hid (K6.out.trans (hb.mono K6.out.size)); have r5 := R5.out.cell; have n5 := N5.out.cell; clear hb)))
                go_roundw
                case rel => exact ⟨f + 1, by omega, by omega, by go_num, G, TT.out.few, R5.out.row _, Below.setRow' K5.out szB _⟩
                case measure => simp [intOf]; omega
          · obtain ⟨hg, ht⟩ := Ros.turn_take hrc hl6 hm hpm hof (by omega) (by omega)
            rw [hfr]
            have cg := fun X => Lib.hid (rostake_yes r m P X hg)
            generalize hG : Ros.take r m P = G at *
            have hm8 : (m : Int) < 8 := by omega
            have TT := Lib.hid ht
            clear hg ht hof hfr hpm hgm hall hG hrc hnone
            have e0g := Ros.cells_0 G
            rw [(TT.out.out (.inr (by omega))).2] at e0g
            have cm := fun X => Lib.hid (rosmay_any G X)
            rw [show Ros.may G = true from decide_eq_true TT.out.few.ok] at cm
            have cog := fun X => Lib.hid (rosof_any G P X)
            go_wp2_with (first | ((with_reducible refine ros_load rfl rfl ?_); apply LoadRow.mk rfl; (focus (with_reducible exact R0.out)); (focus (exact ros_info))) | ((with_reducible refine ros_store rfl rfl ?_); apply StoreRow.mk rfl rfl; (focus (with_reducible exact N2.out)); (focus (exact ros_info)); (focus rfl); (focus (exact ros_one _))) | (go_at_call 41; ((with_reducible refine ((cg _).out).mono ?_); rintro e w2 ⟨rfl, hb⟩; have R2 := Lib.hid (R0.out.below hb R0.out.lt); have N2 := Lib.hid (N0.out.below hb N0.out.lt); have K2 := Lib.hid (K0.out.trans (hb.mono K0.out.size)); have R3 := Lib.hid (R2.out.row_far neBN (Ros.cells G)); have N3 := Lib.hid (N2.out.row (Ros.cells G)); have K3 := Lib.hid (Below.setRow' K2.out szN (Ros.cells G)); clear hb)) | ((with_reducible refine ros_load_g ?_ rfl ?_); (focus first | rfl | kernel_rfl | simp [Region.wanted, yielded]); apply LoadRow.mk rfl; (focus (with_reducible exact N3.out)); (focus (exact ros_info))) | (go_at_call 42; ((with_reducible refine ((cm _).out).mono ?_); rintro e w4 ⟨rfl, hb⟩; have R4 := Lib.hid (R3.out.below hb R3.out.lt); have N4 := Lib.hid (N3.out.below hb N3.out.lt); have K4 := Lib.hid (K3.out.trans (hb.mono K3.out.size)); clear hb)))
            go_loopw [10, 11] (fun kk up wx => ∃ k : Nat, k ≤ 8 ∧ kk = .int .i64 k ∧ Box wx B 51 (Ros.cells r) ∧ Box wx Bn 51 (Ros.cells G) ∧ Below w.heap.size w wx) (fun kk _ _ => 8 - (intOf kk).toNat)
            case atStart => exact ⟨0, by omega, rfl, R4.out, N4.out, K4.out⟩
            case round =>
              obtain ⟨k, hk, rfl, hBR, hBN, hBK⟩ := hrel
              clear R4 N4 K4 R3 N3 K3 cm
              by_cases hlt8 : k < 8
              · have hk8 : (k : Int) < 8 := by omega
                have hkw : IntKind.i64.wrap (k : Int) = (k : Int) := by rw [IntKind.wrap_i64]; omega
                have rc := hBR.cell
                have nc := hBN.cell
                have gp := Ros.cells_peer G k hlt8
                have gg := Ros.cells_gen G k hlt8
                have rp := Ros.cells_peer r k hlt8
                have rg := Ros.cells_gen r k hlt8
                have H := Lib.hid (And.intro hBR (And.intro hBN hBK))
                have tr := TT.out.rose k hlt8
                have tk := TT.out.kept k hlt8
                have ts := TT.out.same k hlt8
                clear hBR hBN hBK cog
                have hkn2 : ((k : Int) != -1) = true := by simp <;> omega
                by_cases hkm : k = m
                · subst hkm
                  have eg : G.gen k = r.gen k + 1 := tr (by omega) rfl
                  rw [eg] at gg
                  have hgr : r.gen k ≤ 60 := by have := HR.out.gen k hlt8; omega
                  have hg0 : 0 ≤ r.gen k := (HR.out.ok.seat k hlt8).1.1
                  generalize r.gen k = gk at *
                  generalize r.peer k = pk at *
                  generalize G.peer k = pn at *
                  have hgw : IntKind.i64.wrap (gk + 1) = gk + 1 := by rw [IntKind.wrap_i64]; omega
                  have hgn : (gk + 1 != gk) = true := by simp; omega
          
                  clear tr tk ts
                  go_upto_region 18 with fail
                  go_quiet (fail)
                  go_wp2
                  go_roundw
                  case rel => exact ⟨k + 1, by omega, by go_num, H.out.1.draws _, H.out.2.1.draws _, draws_below H.out.2.2 _⟩
                  case measure => simp [intOf]; omega
                · have hne2 : ((k : Int) == (m : Int)) = false := by simp; omega
                  have hne3 : (k == m) = false := by simpa using hkm
                  have eg : G.gen k = r.gen k := tk (by omega)
                  have ep : G.peer k = r.peer k := ts (by omega) (by omega)
                  rw [eg] at gg
                  rw [ep] at gp
                  have hne := seat_neq (r.peer k) (r.gen k)
                  generalize r.gen k = gk at *
                  generalize r.peer k = pk at *
          
                  clear tr tk ts
                  go_upto_region 18 with fail
                  go_quiet (fail)
                  go_wp2
                  go_roundw
                  case rel => exact ⟨k + 1, by omega, by go_num, H.out.1.draws _, H.out.2.1.draws _, draws_below H.out.2.2 _⟩
                  case measure => simp [intOf]; omega
              · have hk8 : ¬ (k : Int) < 8 := by omega
                have R6 := Lib.hid hBR
                have N6 := Lib.hid hBN
                have K6 := Lib.hid hBK
                clear hBR hBN hBK
                have ho : ¬ Ros.of G P < 0 := fun h => by have := (TT.out.out (.inr (by omega))).1.2 h; omega
                generalize Ros.of G P = o at *
                have hod : decide (o < 0) = false := decide_eq_false ho
                clear ho
                go_wp2_with (first | ((with_reducible refine ros_load rfl rfl ?_); apply LoadRow.mk rfl; (focus (with_reducible exact N6.out)); (focus (exact ros_info))) | ((with_reducible refine ros_load rfl rfl ?_); apply LoadRow.mk rfl; (focus (with_reducible exact N5.out)); (focus (exact ros_info))) | ((with_reducible refine ros_store rfl rfl ?_); apply StoreRow.mk rfl rfl; (focus (with_reducible exact R5.out)); (focus (exact ros_info)); (focus rfl); (focus (exact ros_one _))) | (go_at_call 38; ((with_reducible refine ((cog _).out).mono ?_); rintro e w5 ⟨rfl, hb⟩; have R5 := Lib.hid (R6.out.below hb R6.out.lt); have N5 := Lib.hid (N6.out.below hb N6.out.lt); have K5 := Lib.hid (K6.out.trans (hb.mono K6.out.size)); have r5 := R5.out.cell; have n5 := N5.out.cell; clear hb)))
                go_roundw
                case rel => exact ⟨f + 1, by omega, by omega, by go_num, G, TT.out.few, R5.out.row _, Below.setRow' K5.out szB _⟩
                case measure => simp [intOf]; omega
        · obtain ⟨hg, ht⟩ := Ros.turn_give hrc hl6 hj hpj (by omega) (by omega) (Ros.free r)
          rw [hof]
          have cg := fun X => Lib.hid (rosgive_yes r j X hg)
          generalize Ros.free r = fr at *
          generalize hG : Ros.give r j = G at *
          have TT := Lib.hid ht
          clear hg ht hpj hof hfree hG hrc
          have e0g := Ros.cells_0 G
          rw [(TT.out.out (.inl (by omega))).2] at e0g
          have cm := fun X => Lib.hid (rosmay_any G X)
          rw [show Ros.may G = true from decide_eq_true TT.out.few.ok] at cm
          have cog := fun X => Lib.hid (rosof_any G P X)
          go_wp2_with (first | ((with_reducible refine ros_load rfl rfl ?_); apply LoadRow.mk rfl; (focus (with_reducible exact R0.out)); (focus (exact ros_info))) | ((with_reducible refine ros_store rfl rfl ?_); apply StoreRow.mk rfl rfl; (focus (with_reducible exact N2.out)); (focus (exact ros_info)); (focus rfl); (focus (exact ros_one _))) | (go_at_call 40; ((with_reducible refine ((cg _).out).mono ?_); rintro e w2 ⟨rfl, hb⟩; have R2 := Lib.hid (R0.out.below hb R0.out.lt); have N2 := Lib.hid (N0.out.below hb N0.out.lt); have K2 := Lib.hid (K0.out.trans (hb.mono K0.out.size)); have R3 := Lib.hid (R2.out.row_far neBN (Ros.cells G)); have N3 := Lib.hid (N2.out.row (Ros.cells G)); have K3 := Lib.hid (Below.setRow' K2.out szN (Ros.cells G)); clear hb)) | ((with_reducible refine ros_load_g ?_ rfl ?_); (focus first | rfl | kernel_rfl | simp [Region.wanted, yielded]); apply LoadRow.mk rfl; (focus (with_reducible exact N3.out)); (focus (exact ros_info))) | (go_at_call 42; ((with_reducible refine ((cm _).out).mono ?_); rintro e w4 ⟨rfl, hb⟩; have R4 := Lib.hid (R3.out.below hb R3.out.lt); have N4 := Lib.hid (N3.out.below hb N3.out.lt); have K4 := Lib.hid (K3.out.trans (hb.mono K3.out.size)); clear hb)))
          go_loopw [10, 11] (fun kk up wx => ∃ k : Nat, k ≤ 8 ∧ kk = .int .i64 k ∧ Box wx B 51 (Ros.cells r) ∧ Box wx Bn 51 (Ros.cells G) ∧ Below w.heap.size w wx) (fun kk _ _ => 8 - (intOf kk).toNat)
          case atStart => exact ⟨0, by omega, rfl, R4.out, N4.out, K4.out⟩
          case round =>
            obtain ⟨k, hk, rfl, hBR, hBN, hBK⟩ := hrel
            clear R4 N4 K4 R3 N3 K3 cm
            by_cases hlt8 : k < 8
            · have hk8 : (k : Int) < 8 := by omega
              have hkw : IntKind.i64.wrap (k : Int) = (k : Int) := by rw [IntKind.wrap_i64]; omega
              have rc := hBR.cell
              have nc := hBN.cell
              have gp := Ros.cells_peer G k hlt8
              have gg := Ros.cells_gen G k hlt8
              have rp := Ros.cells_peer r k hlt8
              have rg := Ros.cells_gen r k hlt8
              have H := Lib.hid (And.intro hBR (And.intro hBN hBK))
              have tr := TT.out.rose k hlt8
              have tk := TT.out.kept k hlt8
              have ts := TT.out.same k hlt8
              clear hBR hBN hBK cog
              by_cases hkj : k = j
              · subst hkj
                have eg : G.gen k = r.gen k := tk (by omega)
                rw [eg] at gg
                generalize r.gen k = gk at *
                generalize r.peer k = pk at *
                generalize G.peer k = pn at *
          
                clear tr tk ts
                go_upto_region 18 with fail
                go_quiet (fail)
                go_wp2
                go_roundw
                case rel => exact ⟨k + 1, by omega, by go_num, H.out.1.draws _, H.out.2.1.draws _, draws_below H.out.2.2 _⟩
                case measure => simp [intOf]; omega
              · have hne2 : ((k : Int) == (j : Int)) = false := by simp; omega
                have hne3 : (k == j) = false := by simpa using hkj
                have hne4 : ((k : Int) != (j : Int)) = true := by simp; omega
                have hne5 : (k != j) = true := by simpa using hkj
                have eg : G.gen k = r.gen k := tk (by omega)
                have ep : G.peer k = r.peer k := ts (by omega) (by omega)
                rw [eg] at gg
                rw [ep] at gp
                have hne := seat_neq (r.peer k) (r.gen k)
                generalize r.gen k = gk at *
                generalize r.peer k = pk at *
          
                clear tr tk ts
                go_upto_region 18 with fail
                go_quiet (fail)
                go_wp2
                go_roundw
                case rel => exact ⟨k + 1, by omega, by go_num, H.out.1.draws _, H.out.2.1.draws _, draws_below H.out.2.2 _⟩
                case measure => simp [intOf]; omega
            · have hk8 : ¬ (k : Int) < 8 := by omega
              have R6 := Lib.hid hBR
              have N6 := Lib.hid hBN
              have K6 := Lib.hid hBK
              clear hBR hBN hBK
              have ho := (TT.out.out (.inl (by omega))).1.1 (by omega)
              generalize Ros.of G P = o at *
              have hod : decide (o < 0) = true := decide_eq_true ho
              clear ho
              go_wp2_with (first | ((with_reducible refine ros_load rfl rfl ?_); apply LoadRow.mk rfl; (focus (with_reducible exact N6.out)); (focus (exact ros_info))) | ((with_reducible refine ros_load rfl rfl ?_); apply LoadRow.mk rfl; (focus (with_reducible exact N5.out)); (focus (exact ros_info))) | ((with_reducible refine ros_store rfl rfl ?_); apply StoreRow.mk rfl rfl; (focus (with_reducible exact R5.out)); (focus (exact ros_info)); (focus rfl); (focus (exact ros_one _))) | (go_at_call 38; ((with_reducible refine ((cog _).out).mono ?_); rintro e w5 ⟨rfl, hb⟩; have R5 := Lib.hid (R6.out.below hb R6.out.lt); have N5 := Lib.hid (N6.out.below hb N6.out.lt); have K5 := Lib.hid (K6.out.trans (hb.mono K6.out.size)); have r5 := R5.out.cell; have n5 := N5.out.cell; clear hb)))
              go_roundw
              case rel => exact ⟨f + 1, by omega, by omega, by go_num, G, TT.out.few, R5.out.row _, Below.setRow' K5.out szB _⟩
              case measure => simp [intOf]; omega
      · have hf6 : ¬ (f : Int) < 60 := by omega
        have HB := Lib.hid hb
        clear hB hb hr
        go_wp2_with (first | (go_at_call 43; ((with_reducible refine ((ct _).out).mono ?_); rintro e w9 ⟨rfl, hb⟩; have K9 := Lib.hid (HB.out.trans (hb.mono HB.out.size)); clear hb)))
        go_ret
        exact ⟨rfl, K9.out⟩
    · have hf8 : ¬ (f : Int) < n := by omega
      have HB := Lib.hid hb
      clear hB hb hr
      go_wp2_with (first | (go_at_call 43; ((with_reducible refine ((ct _).out).mono ?_); rintro e w9 ⟨rfl, hb⟩; have K9 := Lib.hid (HB.out.trans (hb.mono HB.out.size)); clear hb)))
      go_ret
      exact ⟨rfl, K9.out⟩
end Go.Proofs.Ytbpipkcdbcfenaa
