/-
Several texts in one: Ea Gb Hh Eo Em Rj.
-/
import Derived.Test.YtghomofakpjglaaWn5
namespace Go.Proofs.Ytghomofakpjglaa
open Go.RowKit Go.Shelf
set_option linter.unusedVariables false
set_option linter.unusedSimpArgs false

theorem quiet_e9 {B0 : Nat} {W : World} {o : Oper} {a : Act} {K : Act → Prop} {B : Nat} {e : En.E} {s : Value} {x : Operand} (ho : o.op = .load 60 x) (hx : a.eval x = .pointer (some ⟨B, 0, none⟩)) (hB : ∀ q : Ext B0 W, Box q.w B 60 (En.cells e s)) (h : K (a.put o.dst (.agg (En.cells e s)))) :
    o.quiet Try.prog a (fun w' => ∃ q : Ext B0 W, w' = q.w) K :=
  ⟨_, fun w hw => by obtain ⟨q, e'⟩ := hw; subst e'; unfold Oper.quietAt; rw [exec_load_blk ho hx (hB q) Try.underlying60 rfl en_info]; exact ⟨rfl, rfl⟩, h⟩

theorem en_store_z9 {ops : Array Oper} {Q : Exit → Act → World → Prop} {o : Oper} {rest : List Oper} {a : Act} {x y : Operand} {v : World} {old : Array Value} (hgd : o.guard = none) (ho : o.op = .store 60 x y) (hx : a.eval x = .pointer (some ⟨v.heap.size, 0, none⟩)) (hy : a.eval y = .agg En.zeroC)
    (hold : old.size = 26) (h : wpList Try.prog ops Q rest (a.put o.dst undef) (v.alloc (.cells En.zeroC 60))) : wpList Try.prog ops Q (o :: rest) a (v.alloc (.cells old 60)) :=
  wpList_store_new hgd ho hx hy rfl rfl (by rw [En.zeroC_size]; exact en_info) (by rw [En.zeroC_size]; exact hold) en_zero_one h

set_option maxRecDepth 100000 in
set_option maxHeartbeats 8000000 in
theorem asks9_law (e o : En.S) (bs : List Int) (A : Option Addr) (c : Nat) (w : World) (hty : En.Ty e.e) (he63 : e.e.evs.length ≤ maxLen) (hLe : Lies w w.heap.size 4 e.adr e.e.evs.length (En.evCells e.e.evs)) (ho63 : o.e.evs.length ≤ maxLen) (hLo : Lies w w.heap.size 4 o.adr o.e.evs.length (En.evCells o.e.evs)) (hBy : Im.IsBytes bs) (hbc : bs.length ≤ c) (hLb : Lies w w.heap.size 1 A bs.length (Im.u8s bs)) :
    Calls Try.prog 7 #[.agg (En.cells e.e e.sl), .agg (En.cells o.e o.sl), .slice A bs.length c] w fun r w' => r = .returned (.bool true) ∧ Below w.heap.size w w' := by
  have ct := fun X => Lib.hid (told9_any X)
  have P0 := Lib.hid ((Box.made w 60 (En.cells e.e e.sl)).alloc (.cells (En.cells o.e o.sl) 60))
  have O0 := Lib.hid (Box.made_at (n := w.heap.size + 1) (w.alloc (.cells (En.cells e.e e.sl) 60)) 60 (En.cells o.e o.sl) (by simp))
  have K0 := Lib.hid (two_below' w (.cells (En.cells e.e e.sl) 60) (.cells (En.cells o.e o.sl) 60))
  have LE := Lib.hid (fun X (k : Below w.heap.size w X) => (hLe.below k).wider k.size)
  have LO := Lib.hid (fun X (k : Below w.heap.size w X) => (hLo.below k).wider k.size)
  have LB := Lib.hid (fun X (k : Below w.heap.size w X) => (hLb.below k).wider k.size)
  have cfe := fun X => Lib.hid (show Calls Try.prog 24 #[.agg (En.cells e.e e.sl)] X fun r w' => r = .returned (.bool (decide ((e.e.evs.length : Int) ≤ 20))) ∧ Below X.heap.size X w' from enfew_any e.e e.adr e.e.evs.length e.cap X)
  have cfo := fun X => Lib.hid (show Calls Try.prog 24 #[.agg (En.cells o.e o.sl)] X fun r w' => r = .returned (.bool (decide ((o.e.evs.length : Int) ≤ 20))) ∧ Below X.heap.size X w' from enfew_any o.e o.adr o.e.evs.length o.cap X)
  have cry := fun X k => Lib.hid (show Calls Try.prog 26 #[.agg (En.cells e.e e.sl)] X fun r w' => r = .returned (.bool (decide (En.Ok e.e))) ∧ Below X.heap.size X w' from refmayen_any e.e e.adr e.e.evs.length e.cap X rfl he63 hty.ins (LE.out X k))
  have cmy := fun X k => Lib.hid (show Calls Try.prog 28 #[.agg (En.cells e.e e.sl)] X fun r w' => r = .returned (.bool (decide (En.Ok e.e))) ∧ Below X.heap.size X w' from enmay_any e.e e.adr e.e.evs.length e.cap X rfl he63 (LE.out X k))
  have cgt := fun X k => Lib.hid (enget_any bs A bs.length c X rfl hbc hBy (LB.out X k))
  have crg := fun X => Lib.hid (refget_any bs X hBy)
  have csa := fun X k => Lib.hid (ensame_any e o X he63 ho63 (LE.out X k) (LO.out X k))
  have csr := fun X k => Lib.hid (refsameen_any e o X he63 ho63 (LE.out X k) (LO.out X k))
  have cse := fun X k => Lib.hid (ensame_any e e X he63 he63 (LE.out X k) (LE.out X k))
  rw [En.likeB_yes (En.Like.refl e.e)] at cse
  have hcv := fun X k => conv_bytes bs bs.length A c X _ rfl (LB.out X k)
  have HCV := Lib.hid hcv
  have hgcount := fun (g : En.E) (h : En.get bs = some g) => (En.get_some hBy h).1.count
  clear hcv hLe hLo hLb ho63
  by_cases h1 : (e.e.evs.length : Int) ≤ 20
  · rw [decide_eq_true h1] at cfe
    by_cases h2 : (o.e.evs.length : Int) ≤ 20
    · rw [decide_eq_true h2] at cfo
      by_cases h3 : (bs.length : Int) ≤ 200
      · have d3 : decide (200 < (bs.length : Int)) = false := decide_eq_false (by omega)
        have o63 : o.e.evs.length ≤ maxLen := by unfold maxLen; omega
        by_cases hok : En.Ok e.e
        · have cpy := fun X k => Lib.hid (show Calls Try.prog 27 #[.agg (En.cells e.e e.sl)] X _ from enput_yes e.e e.adr e.e.evs.length e.cap X hok hty.ins rfl (LE.out X k))
          have cpr := fun X k => Lib.hid (show Calls Try.prog 29 #[.agg (En.cells e.e e.sl)] X _ from refputen_any e.e e.adr e.e.evs.length e.cap X hok hty.ins rfl (LE.out X k))
          rw [decide_eq_true hok] at cry cmy
          go_enter Try.func7, Try.ntmps7
          go_upto_region 5 with (first | ((with_reducible refine en_load rfl rfl ?_); apply LoadEn.mk rfl; (focus first | (with_reducible exact P3.out) | (with_reducible exact P2.out) | (with_reducible exact P0.out)); dsimp only) | ((with_reducible refine en_load_g ?_ rfl ?_); (focus first | rfl | kernel_rfl | simp [Region.wanted, yielded]); apply LoadEn.mk rfl; (focus first | (with_reducible exact O1.out) | (with_reducible exact P3.out)); dsimp only) | (go_at_call 24; first | ((with_reducible refine ((cfe _).out).mono ?_); rintro r w1 ⟨rfl, hb⟩; have P1 := Lib.hid (P0.out.below hb P0.out.lt); have O1 := Lib.hid (O0.out.below hb O0.out.lt); have K1 := Lib.hid (K0.out.trans (hb.mono K0.out.size)); clear hb cfe) | ((with_reducible refine ((cfo _).out).mono ?_); rintro r w2 ⟨rfl, hb⟩; have P2 := Lib.hid (P1.out.below hb P1.out.lt); have O2 := Lib.hid (O1.out.below hb O1.out.lt); have K2 := Lib.hid (K1.out.trans (hb.mono K1.out.size)); clear hb cfo)) | (go_at_call 26; ((with_reducible refine ((cry _ K2.out).out).mono ?_); rintro r w3 ⟨rfl, hb⟩; have P3 := Lib.hid (P2.out.below hb P2.out.lt); have O3 := Lib.hid (O2.out.below hb O2.out.lt); have K3 := Lib.hid (K2.out.trans (hb.mono K2.out.size)); clear hb)) | (go_at_call 27; ((with_reducible refine ((cpy _ K3.out).out).mono ?_); rintro r w4 ⟨A4, c4, rfl, hc4, hL4, _, hb⟩; have P4 := Lib.hid (P3.out.below hb P3.out.lt); have O4 := Lib.hid (O3.out.below hb O3.out.lt); have K4 := Lib.hid (K3.out.trans (hb.mono K3.out.size)); have L4 := Lib.hid hL4; clear hb hL4 cpy)))
          have CMY := Lib.hid (fun q : Ext w4.heap.size w4 => (cmy q.w (K4.out.trans (q.h.mono K4.out.size))).out)
          have CPR := Lib.hid (fun q : Ext w4.heap.size w4 => (cpr q.w (K4.out.trans (q.h.mono K4.out.size))).out)
          have ZP := Lib.hid (fun q : Ext w4.heap.size w4 => P4.out.below q.h P4.out.lt)
          have zcv : ∀ q : Ext w4.heap.size w4, (convert 36 9 (.slice A4 (En.put e.e).length c4)).run Try.prog q.w = .ok (.string (strOfNums (En.put e.e))) q.w := fun q => conv_bytes (En.put e.e) (En.put e.e).length A4 c4 q.w _ rfl (L4.out.below q.h)
          generalize strOfNums (En.put e.e) = sp at *
          generalize (En.put e.e).length = np at *
          refine wp_region_ext w4.heap.size w4 (by kernel_rfl) (by kernel_rfl) (Below.refl _ _) ?_
          repeat (first | (go_big_quiet_want; (first | (refine quiet_e9 rfl rfl ZP.out ?_)); simp only [Act.put, List.setIfInBounds_toArray, List.set_cons_succ, List.set_cons_zero]; go_big_quiet_on) | go_big_quiet_step ((first | (go_at_call 28; with_reducible exact Calls.ext_of (Nat.le_refl _) (CMY.out _)) | (go_at_call 29; with_reducible exact Calls.ext_of (Nat.le_refl _) (CPR.out _)))))
          refine wpQuiet_nil ?_
          intro _ hw'
          obtain ⟨q5, hw''⟩ := hw'
          subst hw''
          have P5 := Lib.hid (ZP.out q5)
          have O5 := Lib.hid (O4.out.below q5.h O4.out.lt)
          have K5 := Lib.hid (K4.out.trans (q5.h.mono K4.out.size))
          clear CMY CPR ZP zcv cpr L4 hok
          clear cry cmy
          go_upto_region 8 with (first | (with_reducible refine alloc_en rfl rfl ?_) | (with_reducible refine en_store_new rfl rfl rfl rfl En.zeroC_size rfl ?_) | (with_reducible refine en_store_z9 rfl rfl rfl rfl En.zeroC_size ?_) | (go_at_call 30; ((with_reducible refine ((cgt _ K5.out).out).mono ?_); rintro r w6 (⟨y, S6, hgt, rfl, hE, hb⟩ | ⟨hgt, rfl, hb⟩); (all_goals first | (have Y6 := Lib.hid (Box.made w6 60 (En.cells y (.slice (some ⟨S6, 0, none⟩) y.evs.length y.evs.length))); have E6 := Lib.hid (hE.alloc (.cells (En.cells y (.slice (some ⟨S6, 0, none⟩) y.evs.length y.evs.length)) 60)); have P6 := Lib.hid ((P5.out.below hb P5.out.lt).alloc (.cells (En.cells y (.slice (some ⟨S6, 0, none⟩) y.evs.length y.evs.length)) 60)); have O6 := Lib.hid ((O5.out.below hb O5.out.lt).alloc (.cells (En.cells y (.slice (some ⟨S6, 0, none⟩) y.evs.length y.evs.length)) 60)); have K6 := Lib.hid ((K5.out.trans (hb.mono K5.out.size)).alloc (Nat.le_trans K5.out.size hb.size) (.cells (En.cells y (.slice (some ⟨S6, 0, none⟩) y.evs.length y.evs.length)) 60)); have HG := Lib.hid hgt; clear hb hE hgt cgt) | (have Y6 := Lib.hid (Box.made w6 60 (En.cells ⟨0, [], En.in0⟩ (.slice none 0 0))); have P6 := Lib.hid ((P5.out.below hb P5.out.lt).alloc (.cells (En.cells ⟨0, [], En.in0⟩ (.slice none 0 0)) 60)); have O6 := Lib.hid ((O5.out.below hb O5.out.lt).alloc (.cells (En.cells ⟨0, [], En.in0⟩ (.slice none 0 0)) 60)); have K6 := Lib.hid ((K5.out.trans (hb.mono K5.out.size)).alloc (Nat.le_trans K5.out.size hb.size) (.cells (En.cells ⟨0, [], En.in0⟩ (.slice none 0 0)) 60)); have HG := Lib.hid hgt; clear hb hgt cgt)))))
          · have y16 := hgcount y HG.out
            have y63 : y.evs.length ≤ maxLen := by unfold maxLen; omega
            have hcv := HCV.out _ K6.out
            have crg2 := fun X => Lib.hid (show Calls Try.prog 31 #[.string (strOfNums bs)] X (fun r w' => ∃ A8 c8, r = .returned (.tuple #[.agg (En.cells y (.slice A8 y.evs.length c8)), .int .i64 0]) ∧ Lies w' w'.heap.size 4 A8 y.evs.length (En.evCells y.evs) ∧ Below X.heap.size X w') from (crg X).out.mono (fun r w' h => by
              rcases h with ⟨e', A8, c8, h1, h2⟩ | ⟨h1, _⟩
              · rw [HG.out] at h1; injection h1 with h1; subst h1; exact ⟨A8, c8, h2⟩
              · rw [HG.out] at h1; cases h1))
            generalize strOfNums bs = sb at *
            clear crg HCV
            go_upto_region 9 with (first | (with_reducible refine alloc_en rfl rfl ?_) | (with_reducible refine en_store_new rfl rfl rfl rfl En.zeroC_size rfl ?_) | (go_at_call 31; ((with_reducible refine ((crg2 _).out).mono ?_); rintro r w8 ⟨A8, c8, rfl, hL8, hb⟩; have Y8 := Lib.hid ((Y6.out.below hb Y6.out.lt).alloc (.cells (En.cells y (.slice A8 y.evs.length c8)) 60)); have E8 := Lib.hid ((E6.out.below hb E6.out.lt).alloc (.cells (En.cells y (.slice A8 y.evs.length c8)) 60)); have Z8 := Lib.hid (Box.made w8 60 (En.cells y (.slice A8 y.evs.length c8))); have L8 := Lib.hid ((hL8.below (one_below w8 (.cells (En.cells y (.slice A8 y.evs.length c8)) 60))).wider (one_below w8 (.cells (En.cells y (.slice A8 y.evs.length c8)) 60)).size); have P8 := Lib.hid ((P6.out.below hb P6.out.lt).alloc (.cells (En.cells y (.slice A8 y.evs.length c8)) 60)); have O8 := Lib.hid ((O6.out.below hb O6.out.lt).alloc (.cells (En.cells y (.slice A8 y.evs.length c8)) 60)); have K8 := Lib.hid ((K6.out.trans (hb.mono K6.out.size)).alloc (Nat.le_trans K6.out.size hb.size) (.cells (En.cells y (.slice A8 y.evs.length c8)) 60)); clear hb hL8 crg2)))
            generalize w8.alloc (.cells (En.cells y (.slice A8 y.evs.length c8)) 60) = W8 at *
            have SM := Lib.hid (fun q : Ext W8.heap.size W8 => show Calls Try.prog 32 #[.agg (En.cells y (.slice (some ⟨S6, 0, none⟩) y.evs.length y.evs.length)), .agg (En.cells y (.slice A8 y.evs.length c8))] q.w fun e w' => e = .returned (.bool true) ∧ Below q.w.heap.size q.w w' by
              have := refsameen_any ⟨y, some ⟨S6, 0, none⟩, y.evs.length⟩ ⟨y, A8, c8⟩ q.w y63 y63 (Lies.boxed (E8.out.below q.h E8.out.lt) (En.evCells_len _)) ((L8.out.below q.h).wider q.h.size)
              rw [En.likeB_yes (En.Like.refl y)] at this
              exact this)
            have SA := Lib.hid (fun q : Ext W8.heap.size W8 => (csa q.w (K8.out.trans (q.h.mono K8.out.size))).out)
            have SR := Lib.hid (fun q : Ext W8.heap.size W8 => (csr q.w (K8.out.trans (q.h.mono K8.out.size))).out)
            have SE := Lib.hid (fun q : Ext W8.heap.size W8 => (cse q.w (K8.out.trans (q.h.mono K8.out.size))).out)
            generalize En.likeB e.e o.e = lb at *
            have ZP := Lib.hid (fun q : Ext W8.heap.size W8 => P8.out.below q.h P8.out.lt)
            have ZO := Lib.hid (fun q : Ext W8.heap.size W8 => O8.out.below q.h O8.out.lt)
            have ZY := Lib.hid (fun q : Ext W8.heap.size W8 => Y8.out.below q.h Y8.out.lt)
            have ZZ := Lib.hid (fun q : Ext W8.heap.size W8 => Z8.out.below q.h Z8.out.lt)
            refine wp_region_ext W8.heap.size W8 (by kernel_rfl) (by kernel_rfl) (Below.refl _ _) ?_
            repeat (first | (go_big_quiet_want; (first | (refine quiet_e9 rfl rfl ZP.out ?_) | (refine quiet_e9 rfl rfl ZO.out ?_) | (refine quiet_e9 rfl rfl ZY.out ?_) | (refine quiet_e9 rfl rfl ZZ.out ?_)); simp only [Act.put, List.setIfInBounds_toArray, List.set_cons_succ, List.set_cons_zero]; go_big_quiet_on) | go_big_quiet_step ((first | (go_at_call 25; with_reducible exact Calls.ext_of (Nat.le_refl _) (ct _).out) | (go_at_call 32; first | with_reducible exact Calls.ext_of (Nat.le_refl _) (SM.out _) | with_reducible exact Calls.ext_of (Nat.le_refl _) (SR.out _)) | (go_at_call 33; first | with_reducible exact Calls.ext_of (Nat.le_refl _) (SA.out _) | with_reducible exact Calls.ext_of (Nat.le_refl _) (SE.out _)))))
            refine wpQuiet_nil ?_
            intro _ hw'
            obtain ⟨q9, hw''⟩ := hw'
            subst hw''
            have K9 := Lib.hid (K8.out.trans (q9.h.mono K8.out.size))
            clear SM SA SR SE ZP ZO ZY ZZ
            go_wp2
            go_ret
            exact ⟨ret_bool (by simp), K9.out⟩
          · have hcv := HCV.out _ K6.out
            have crg2 := fun X => Lib.hid (show Calls Try.prog 31 #[.string (strOfNums bs)] X (fun r w' => r = .returned (.tuple #[.agg En.zeroC, .int .i64 2]) ∧ Below X.heap.size X w') from (crg X).out.mono (fun r w' h => by
              rcases h with ⟨e', A8, c8, h1, h2⟩ | ⟨_, h1⟩
              · rw [HG.out] at h1; cases h1
              · exact h1))
            generalize strOfNums bs = sb at *
            clear crg HCV
            go_upto_region 9 with (first | (with_reducible refine alloc_en rfl rfl ?_) | (with_reducible refine en_store_new rfl rfl rfl rfl En.zeroC_size rfl ?_) | (go_at_call 31; ((with_reducible refine ((crg2 _).out).mono ?_); rintro r w8 ⟨rfl, hb⟩; have Y8 := Lib.hid (show Box _ w6.heap.size 60 (En.cells ⟨0, [], En.in0⟩ (.slice none 0 0)) from (Y6.out.below hb Y6.out.lt).alloc (.cells (En.cells ⟨0, [], En.in0⟩ (.slice none 0 0)) 60)); have Z8 := Lib.hid (show Box _ w8.heap.size 60 (En.cells ⟨0, [], En.in0⟩ (.slice none 0 0)) from Box.made w8 60 (En.cells ⟨0, [], En.in0⟩ (.slice none 0 0))); have P8 := Lib.hid ((P6.out.below hb P6.out.lt).alloc (.cells (En.cells ⟨0, [], En.in0⟩ (.slice none 0 0)) 60)); have O8 := Lib.hid ((O6.out.below hb O6.out.lt).alloc (.cells (En.cells ⟨0, [], En.in0⟩ (.slice none 0 0)) 60)); have K8 := Lib.hid ((K6.out.trans (hb.mono K6.out.size)).alloc (Nat.le_trans K6.out.size hb.size) (.cells (En.cells ⟨0, [], En.in0⟩ (.slice none 0 0)) 60)); clear hb crg2)))
            generalize w8.alloc (.cells (En.cells ⟨0, [], En.in0⟩ (.slice none 0 0)) 60) = W8 at *
            have SM := Lib.hid (fun q : Ext W8.heap.size W8 => show Calls Try.prog 32 #[.agg (En.cells ⟨0, [], En.in0⟩ (.slice none 0 0)), .agg (En.cells ⟨0, [], En.in0⟩ (.slice none 0 0))] q.w fun e w' => e = .returned (.bool true) ∧ Below q.w.heap.size q.w w' by
              have := refsameen_any ⟨⟨0, [], En.in0⟩, none, 0⟩ ⟨⟨0, [], En.in0⟩, none, 0⟩ q.w (Nat.zero_le _) (Nat.zero_le _) ⟨rfl, fun h => absurd rfl h, fun _ _ h => absurd rfl h⟩ ⟨rfl, fun h => absurd rfl h, fun _ _ h => absurd rfl h⟩
              rw [En.likeB_yes (En.Like.refl _)] at this
              exact this)
            have SA := Lib.hid (fun q : Ext W8.heap.size W8 => (csa q.w (K8.out.trans (q.h.mono K8.out.size))).out)
            have SR := Lib.hid (fun q : Ext W8.heap.size W8 => (csr q.w (K8.out.trans (q.h.mono K8.out.size))).out)
            have SE := Lib.hid (fun q : Ext W8.heap.size W8 => (cse q.w (K8.out.trans (q.h.mono K8.out.size))).out)
            generalize En.likeB e.e o.e = lb at *
            have ZP := Lib.hid (fun q : Ext W8.heap.size W8 => P8.out.below q.h P8.out.lt)
            have ZO := Lib.hid (fun q : Ext W8.heap.size W8 => O8.out.below q.h O8.out.lt)
            have ZY := Lib.hid (fun q : Ext W8.heap.size W8 => Y8.out.below q.h Y8.out.lt)
            have ZZ := Lib.hid (fun q : Ext W8.heap.size W8 => Z8.out.below q.h Z8.out.lt)
            refine wp_region_ext W8.heap.size W8 (by kernel_rfl) (by kernel_rfl) (Below.refl _ _) ?_
            repeat (first | (go_big_quiet_want; (first | (refine quiet_e9 rfl rfl ZP.out ?_) | (refine quiet_e9 rfl rfl ZO.out ?_) | (refine quiet_e9 rfl rfl ZY.out ?_) | (refine quiet_e9 rfl rfl ZZ.out ?_)); simp only [Act.put, List.setIfInBounds_toArray, List.set_cons_succ, List.set_cons_zero]; go_big_quiet_on) | go_big_quiet_step ((first | (go_at_call 25; with_reducible exact Calls.ext_of (Nat.le_refl _) (ct _).out) | (go_at_call 32; first | with_reducible exact Calls.ext_of (Nat.le_refl _) (SM.out _) | with_reducible exact Calls.ext_of (Nat.le_refl _) (SR.out _)) | (go_at_call 33; first | with_reducible exact Calls.ext_of (Nat.le_refl _) (SA.out _) | with_reducible exact Calls.ext_of (Nat.le_refl _) (SE.out _)))))
            refine wpQuiet_nil ?_
            intro _ hw'
            obtain ⟨q9, hw''⟩ := hw'
            subst hw''
            have K9 := Lib.hid (K8.out.trans (q9.h.mono K8.out.size))
            clear SM SA SR SE ZP ZO ZY ZZ
            go_wp2
            go_ret
            exact ⟨ret_bool (by simp), K9.out⟩
        · have cpn := fun X k => Lib.hid (show Calls Try.prog 27 #[.agg (En.cells e.e e.sl)] X (fun r w' => r = .returned (.tuple #[.slice none 0 0, .int .i64 1]) ∧ Below X.heap.size X w') from enput_no e.e e.adr e.e.evs.length e.cap X hok rfl he63 (LE.out X k))
          rw [decide_eq_false hok] at cry cmy
          go_enter Try.func7, Try.ntmps7
          go_upto_region 5 with (first | ((with_reducible refine en_load rfl rfl ?_); apply LoadEn.mk rfl; (focus first | (with_reducible exact P3.out) | (with_reducible exact P2.out) | (with_reducible exact P0.out)); dsimp only) | ((with_reducible refine en_load_g ?_ rfl ?_); (focus first | rfl | kernel_rfl | simp [Region.wanted, yielded]); apply LoadEn.mk rfl; (focus first | (with_reducible exact O1.out) | (with_reducible exact P3.out)); dsimp only) | (go_at_call 24; first | ((with_reducible refine ((cfe _).out).mono ?_); rintro r w1 ⟨rfl, hb⟩; have P1 := Lib.hid (P0.out.below hb P0.out.lt); have O1 := Lib.hid (O0.out.below hb O0.out.lt); have K1 := Lib.hid (K0.out.trans (hb.mono K0.out.size)); clear hb cfe) | ((with_reducible refine ((cfo _).out).mono ?_); rintro r w2 ⟨rfl, hb⟩; have P2 := Lib.hid (P1.out.below hb P1.out.lt); have O2 := Lib.hid (O1.out.below hb O1.out.lt); have K2 := Lib.hid (K1.out.trans (hb.mono K1.out.size)); clear hb cfo)) | (go_at_call 26; ((with_reducible refine ((cry _ K2.out).out).mono ?_); rintro r w3 ⟨rfl, hb⟩; have P3 := Lib.hid (P2.out.below hb P2.out.lt); have O3 := Lib.hid (O2.out.below hb O2.out.lt); have K3 := Lib.hid (K2.out.trans (hb.mono K2.out.size)); clear hb)) | (go_at_call 27; ((with_reducible refine ((cpn _ K3.out).out).mono ?_); rintro r w4 ⟨rfl, hb⟩; have P4 := Lib.hid (P3.out.below hb P3.out.lt); have O4 := Lib.hid (O3.out.below hb O3.out.lt); have K4 := Lib.hid (K3.out.trans (hb.mono K3.out.size)); clear hb cpn)))
          have CMY := Lib.hid (fun q : Ext w4.heap.size w4 => (cmy q.w (K4.out.trans (q.h.mono K4.out.size))).out)
          have ZP := Lib.hid (fun q : Ext w4.heap.size w4 => P4.out.below q.h P4.out.lt)
          refine wp_region_ext w4.heap.size w4 (by kernel_rfl) (by kernel_rfl) (Below.refl _ _) ?_
          repeat (first | (go_big_quiet_want; (first | (refine quiet_e9 rfl rfl ZP.out ?_)); simp only [Act.put, List.setIfInBounds_toArray, List.set_cons_succ, List.set_cons_zero]; go_big_quiet_on) | go_big_quiet_step ((first | (go_at_call 28; with_reducible exact Calls.ext_of (Nat.le_refl _) (CMY.out _)))))
          refine wpQuiet_nil ?_
          intro _ hw'
          obtain ⟨q5, hw''⟩ := hw'
          subst hw''
          have P5 := Lib.hid (ZP.out q5)
          have O5 := Lib.hid (O4.out.below q5.h O4.out.lt)
          have K5 := Lib.hid (K4.out.trans (q5.h.mono K4.out.size))
          clear CMY ZP hok
          clear cry cmy
          go_upto_region 8 with (first | (with_reducible refine alloc_en rfl rfl ?_) | (with_reducible refine en_store_new rfl rfl rfl rfl En.zeroC_size rfl ?_) | (with_reducible refine en_store_z9 rfl rfl rfl rfl En.zeroC_size ?_) | (go_at_call 30; ((with_reducible refine ((cgt _ K5.out).out).mono ?_); rintro r w6 (⟨y, S6, hgt, rfl, hE, hb⟩ | ⟨hgt, rfl, hb⟩); (all_goals first | (have Y6 := Lib.hid (Box.made w6 60 (En.cells y (.slice (some ⟨S6, 0, none⟩) y.evs.length y.evs.length))); have E6 := Lib.hid (hE.alloc (.cells (En.cells y (.slice (some ⟨S6, 0, none⟩) y.evs.length y.evs.length)) 60)); have P6 := Lib.hid ((P5.out.below hb P5.out.lt).alloc (.cells (En.cells y (.slice (some ⟨S6, 0, none⟩) y.evs.length y.evs.length)) 60)); have O6 := Lib.hid ((O5.out.below hb O5.out.lt).alloc (.cells (En.cells y (.slice (some ⟨S6, 0, none⟩) y.evs.length y.evs.length)) 60)); have K6 := Lib.hid ((K5.out.trans (hb.mono K5.out.size)).alloc (Nat.le_trans K5.out.size hb.size) (.cells (En.cells y (.slice (some ⟨S6, 0, none⟩) y.evs.length y.evs.length)) 60)); have HG := Lib.hid hgt; clear hb hE hgt cgt) | (have Y6 := Lib.hid (Box.made w6 60 (En.cells ⟨0, [], En.in0⟩ (.slice none 0 0))); have P6 := Lib.hid ((P5.out.below hb P5.out.lt).alloc (.cells (En.cells ⟨0, [], En.in0⟩ (.slice none 0 0)) 60)); have O6 := Lib.hid ((O5.out.below hb O5.out.lt).alloc (.cells (En.cells ⟨0, [], En.in0⟩ (.slice none 0 0)) 60)); have K6 := Lib.hid ((K5.out.trans (hb.mono K5.out.size)).alloc (Nat.le_trans K5.out.size hb.size) (.cells (En.cells ⟨0, [], En.in0⟩ (.slice none 0 0)) 60)); have HG := Lib.hid hgt; clear hb hgt cgt)))))
          · have y16 := hgcount y HG.out
            have y63 : y.evs.length ≤ maxLen := by unfold maxLen; omega
            have hcv := HCV.out _ K6.out
            have crg2 := fun X => Lib.hid (show Calls Try.prog 31 #[.string (strOfNums bs)] X (fun r w' => ∃ A8 c8, r = .returned (.tuple #[.agg (En.cells y (.slice A8 y.evs.length c8)), .int .i64 0]) ∧ Lies w' w'.heap.size 4 A8 y.evs.length (En.evCells y.evs) ∧ Below X.heap.size X w') from (crg X).out.mono (fun r w' h => by
              rcases h with ⟨e', A8, c8, h1, h2⟩ | ⟨h1, _⟩
              · rw [HG.out] at h1; injection h1 with h1; subst h1; exact ⟨A8, c8, h2⟩
              · rw [HG.out] at h1; cases h1))
            generalize strOfNums bs = sb at *
            clear crg HCV
            go_upto_region 9 with (first | (with_reducible refine alloc_en rfl rfl ?_) | (with_reducible refine en_store_new rfl rfl rfl rfl En.zeroC_size rfl ?_) | (go_at_call 31; ((with_reducible refine ((crg2 _).out).mono ?_); rintro r w8 ⟨A8, c8, rfl, hL8, hb⟩; have Y8 := Lib.hid ((Y6.out.below hb Y6.out.lt).alloc (.cells (En.cells y (.slice A8 y.evs.length c8)) 60)); have E8 := Lib.hid ((E6.out.below hb E6.out.lt).alloc (.cells (En.cells y (.slice A8 y.evs.length c8)) 60)); have Z8 := Lib.hid (Box.made w8 60 (En.cells y (.slice A8 y.evs.length c8))); have L8 := Lib.hid ((hL8.below (one_below w8 (.cells (En.cells y (.slice A8 y.evs.length c8)) 60))).wider (one_below w8 (.cells (En.cells y (.slice A8 y.evs.length c8)) 60)).size); have P8 := Lib.hid ((P6.out.below hb P6.out.lt).alloc (.cells (En.cells y (.slice A8 y.evs.length c8)) 60)); have O8 := Lib.hid ((O6.out.below hb O6.out.lt).alloc (.cells (En.cells y (.slice A8 y.evs.length c8)) 60)); have K8 := Lib.hid ((K6.out.trans (hb.mono K6.out.size)).alloc (Nat.le_trans K6.out.size hb.size) (.cells (En.cells y (.slice A8 y.evs.length c8)) 60)); clear hb hL8 crg2)))
            generalize w8.alloc (.cells (En.cells y (.slice A8 y.evs.length c8)) 60) = W8 at *
            have SM := Lib.hid (fun q : Ext W8.heap.size W8 => show Calls Try.prog 32 #[.agg (En.cells y (.slice (some ⟨S6, 0, none⟩) y.evs.length y.evs.length)), .agg (En.cells y (.slice A8 y.evs.length c8))] q.w fun e w' => e = .returned (.bool true) ∧ Below q.w.heap.size q.w w' by
              have := refsameen_any ⟨y, some ⟨S6, 0, none⟩, y.evs.length⟩ ⟨y, A8, c8⟩ q.w y63 y63 (Lies.boxed (E8.out.below q.h E8.out.lt) (En.evCells_len _)) ((L8.out.below q.h).wider q.h.size)
              rw [En.likeB_yes (En.Like.refl y)] at this
              exact this)
            have SA := Lib.hid (fun q : Ext W8.heap.size W8 => (csa q.w (K8.out.trans (q.h.mono K8.out.size))).out)
            have SR := Lib.hid (fun q : Ext W8.heap.size W8 => (csr q.w (K8.out.trans (q.h.mono K8.out.size))).out)
            have SE := Lib.hid (fun q : Ext W8.heap.size W8 => (cse q.w (K8.out.trans (q.h.mono K8.out.size))).out)
            generalize En.likeB e.e o.e = lb at *
            have ZP := Lib.hid (fun q : Ext W8.heap.size W8 => P8.out.below q.h P8.out.lt)
            have ZO := Lib.hid (fun q : Ext W8.heap.size W8 => O8.out.below q.h O8.out.lt)
            have ZY := Lib.hid (fun q : Ext W8.heap.size W8 => Y8.out.below q.h Y8.out.lt)
            have ZZ := Lib.hid (fun q : Ext W8.heap.size W8 => Z8.out.below q.h Z8.out.lt)
            refine wp_region_ext W8.heap.size W8 (by kernel_rfl) (by kernel_rfl) (Below.refl _ _) ?_
            repeat (first | (go_big_quiet_want; (first | (refine quiet_e9 rfl rfl ZP.out ?_) | (refine quiet_e9 rfl rfl ZO.out ?_) | (refine quiet_e9 rfl rfl ZY.out ?_) | (refine quiet_e9 rfl rfl ZZ.out ?_)); simp only [Act.put, List.setIfInBounds_toArray, List.set_cons_succ, List.set_cons_zero]; go_big_quiet_on) | go_big_quiet_step ((first | (go_at_call 25; with_reducible exact Calls.ext_of (Nat.le_refl _) (ct _).out) | (go_at_call 32; first | with_reducible exact Calls.ext_of (Nat.le_refl _) (SM.out _) | with_reducible exact Calls.ext_of (Nat.le_refl _) (SR.out _)) | (go_at_call 33; first | with_reducible exact Calls.ext_of (Nat.le_refl _) (SA.out _) | with_reducible exact Calls.ext_of (Nat.le_refl _) (SE.out _)))))
            refine wpQuiet_nil ?_
            intro _ hw'
            obtain ⟨q9, hw''⟩ := hw'
            subst hw''
            have K9 := Lib.hid (K8.out.trans (q9.h.mono K8.out.size))
            clear SM SA SR SE ZP ZO ZY ZZ
            go_wp2
            go_ret
            exact ⟨ret_bool (by simp), K9.out⟩
          · have hcv := HCV.out _ K6.out
            have crg2 := fun X => Lib.hid (show Calls Try.prog 31 #[.string (strOfNums bs)] X (fun r w' => r = .returned (.tuple #[.agg En.zeroC, .int .i64 2]) ∧ Below X.heap.size X w') from (crg X).out.mono (fun r w' h => by
              rcases h with ⟨e', A8, c8, h1, h2⟩ | ⟨_, h1⟩
              · rw [HG.out] at h1; cases h1
              · exact h1))
            generalize strOfNums bs = sb at *
            clear crg HCV
            go_upto_region 9 with (first | (with_reducible refine alloc_en rfl rfl ?_) | (with_reducible refine en_store_new rfl rfl rfl rfl En.zeroC_size rfl ?_) | (go_at_call 31; ((with_reducible refine ((crg2 _).out).mono ?_); rintro r w8 ⟨rfl, hb⟩; have Y8 := Lib.hid (show Box _ w6.heap.size 60 (En.cells ⟨0, [], En.in0⟩ (.slice none 0 0)) from (Y6.out.below hb Y6.out.lt).alloc (.cells (En.cells ⟨0, [], En.in0⟩ (.slice none 0 0)) 60)); have Z8 := Lib.hid (show Box _ w8.heap.size 60 (En.cells ⟨0, [], En.in0⟩ (.slice none 0 0)) from Box.made w8 60 (En.cells ⟨0, [], En.in0⟩ (.slice none 0 0))); have P8 := Lib.hid ((P6.out.below hb P6.out.lt).alloc (.cells (En.cells ⟨0, [], En.in0⟩ (.slice none 0 0)) 60)); have O8 := Lib.hid ((O6.out.below hb O6.out.lt).alloc (.cells (En.cells ⟨0, [], En.in0⟩ (.slice none 0 0)) 60)); have K8 := Lib.hid ((K6.out.trans (hb.mono K6.out.size)).alloc (Nat.le_trans K6.out.size hb.size) (.cells (En.cells ⟨0, [], En.in0⟩ (.slice none 0 0)) 60)); clear hb crg2)))
            generalize w8.alloc (.cells (En.cells ⟨0, [], En.in0⟩ (.slice none 0 0)) 60) = W8 at *
            have SM := Lib.hid (fun q : Ext W8.heap.size W8 => show Calls Try.prog 32 #[.agg (En.cells ⟨0, [], En.in0⟩ (.slice none 0 0)), .agg (En.cells ⟨0, [], En.in0⟩ (.slice none 0 0))] q.w fun e w' => e = .returned (.bool true) ∧ Below q.w.heap.size q.w w' by
              have := refsameen_any ⟨⟨0, [], En.in0⟩, none, 0⟩ ⟨⟨0, [], En.in0⟩, none, 0⟩ q.w (Nat.zero_le _) (Nat.zero_le _) ⟨rfl, fun h => absurd rfl h, fun _ _ h => absurd rfl h⟩ ⟨rfl, fun h => absurd rfl h, fun _ _ h => absurd rfl h⟩
              rw [En.likeB_yes (En.Like.refl _)] at this
              exact this)
            have SA := Lib.hid (fun q : Ext W8.heap.size W8 => (csa q.w (K8.out.trans (q.h.mono K8.out.size))).out)
            have SR := Lib.hid (fun q : Ext W8.heap.size W8 => (csr q.w (K8.out.trans (q.h.mono K8.out.size))).out)
            have SE := Lib.hid (fun q : Ext W8.heap.size W8 => (cse q.w (K8.out.trans (q.h.mono K8.out.size))).out)
            generalize En.likeB e.e o.e = lb at *
            have ZP := Lib.hid (fun q : Ext W8.heap.size W8 => P8.out.below q.h P8.out.lt)
            have ZO := Lib.hid (fun q : Ext W8.heap.size W8 => O8.out.below q.h O8.out.lt)
            have ZY := Lib.hid (fun q : Ext W8.heap.size W8 => Y8.out.below q.h Y8.out.lt)
            have ZZ := Lib.hid (fun q : Ext W8.heap.size W8 => Z8.out.below q.h Z8.out.lt)
            refine wp_region_ext W8.heap.size W8 (by kernel_rfl) (by kernel_rfl) (Below.refl _ _) ?_
            repeat (first | (go_big_quiet_want; (first | (refine quiet_e9 rfl rfl ZP.out ?_) | (refine quiet_e9 rfl rfl ZO.out ?_) | (refine quiet_e9 rfl rfl ZY.out ?_) | (refine quiet_e9 rfl rfl ZZ.out ?_)); simp only [Act.put, List.setIfInBounds_toArray, List.set_cons_succ, List.set_cons_zero]; go_big_quiet_on) | go_big_quiet_step ((first | (go_at_call 25; with_reducible exact Calls.ext_of (Nat.le_refl _) (ct _).out) | (go_at_call 32; first | with_reducible exact Calls.ext_of (Nat.le_refl _) (SM.out _) | with_reducible exact Calls.ext_of (Nat.le_refl _) (SR.out _)) | (go_at_call 33; first | with_reducible exact Calls.ext_of (Nat.le_refl _) (SA.out _) | with_reducible exact Calls.ext_of (Nat.le_refl _) (SE.out _)))))
            refine wpQuiet_nil ?_
            intro _ hw'
            obtain ⟨q9, hw''⟩ := hw'
            subst hw''
            have K9 := Lib.hid (K8.out.trans (q9.h.mono K8.out.size))
            clear SM SA SR SE ZP ZO ZY ZZ
            go_wp2
            go_ret
            exact ⟨ret_bool (by simp), K9.out⟩
      · have d3 : decide (200 < (bs.length : Int)) = true := decide_eq_true (by omega)
        go_enter Try.func7, Try.ntmps7
        go_wp2_with (first | ((with_reducible refine en_load rfl rfl ?_); apply LoadEn.mk rfl; (focus first | (with_reducible exact P3.out) | (with_reducible exact P2.out) | (with_reducible exact P0.out)); dsimp only) | ((with_reducible refine en_load_g ?_ rfl ?_); (focus first | rfl | kernel_rfl | simp [Region.wanted, yielded]); apply LoadEn.mk rfl; (focus first | (with_reducible exact O1.out) | (with_reducible exact P3.out)); dsimp only) | (go_at_call 24; first | ((with_reducible refine ((cfe _).out).mono ?_); rintro r w1 ⟨rfl, hb⟩; have P1 := Lib.hid (P0.out.below hb P0.out.lt); have O1 := Lib.hid (O0.out.below hb O0.out.lt); have K1 := Lib.hid (K0.out.trans (hb.mono K0.out.size)); clear hb cfe) | ((with_reducible refine ((cfo _).out).mono ?_); rintro r w2 ⟨rfl, hb⟩; have P2 := Lib.hid (P1.out.below hb P1.out.lt); have O2 := Lib.hid (O1.out.below hb O1.out.lt); have K2 := Lib.hid (K1.out.trans (hb.mono K1.out.size)); clear hb cfo)) | (go_at_call 25; ((with_reducible refine ((ct _).out).mono ?_); rintro r w9 ⟨rfl, hb⟩; have K9 := Lib.hid (K2.out.trans (hb.mono K2.out.size)); clear hb)))
        go_ret
        exact ⟨rfl, K9.out⟩
    · rw [decide_eq_false h2] at cfo
      go_enter Try.func7, Try.ntmps7
      go_wp2_with (first | ((with_reducible refine en_load rfl rfl ?_); apply LoadEn.mk rfl; (focus first | (with_reducible exact P3.out) | (with_reducible exact P2.out) | (with_reducible exact P0.out)); dsimp only) | ((with_reducible refine en_load_g ?_ rfl ?_); (focus first | rfl | kernel_rfl | simp [Region.wanted, yielded]); apply LoadEn.mk rfl; (focus first | (with_reducible exact O1.out) | (with_reducible exact P3.out)); dsimp only) | (go_at_call 24; first | ((with_reducible refine ((cfe _).out).mono ?_); rintro r w1 ⟨rfl, hb⟩; have P1 := Lib.hid (P0.out.below hb P0.out.lt); have O1 := Lib.hid (O0.out.below hb O0.out.lt); have K1 := Lib.hid (K0.out.trans (hb.mono K0.out.size)); clear hb cfe) | ((with_reducible refine ((cfo _).out).mono ?_); rintro r w2 ⟨rfl, hb⟩; have P2 := Lib.hid (P1.out.below hb P1.out.lt); have O2 := Lib.hid (O1.out.below hb O1.out.lt); have K2 := Lib.hid (K1.out.trans (hb.mono K1.out.size)); clear hb cfo)) | (go_at_call 25; ((with_reducible refine ((ct _).out).mono ?_); rintro r w9 ⟨rfl, hb⟩; have K9 := Lib.hid (K2.out.trans (hb.mono K2.out.size)); clear hb)))
      go_ret
      exact ⟨rfl, K9.out⟩
  · rw [decide_eq_false h1] at cfe
    go_enter Try.func7, Try.ntmps7
    go_wp2_with (first | ((with_reducible refine en_load rfl rfl ?_); apply LoadEn.mk rfl; (focus first | (with_reducible exact P3.out) | (with_reducible exact P2.out) | (with_reducible exact P0.out)); dsimp only) | (go_at_call 24; first | ((with_reducible refine ((cfe _).out).mono ?_); rintro r w1 ⟨rfl, hb⟩; have P1 := Lib.hid (P0.out.below hb P0.out.lt); have O1 := Lib.hid (O0.out.below hb O0.out.lt); have K1 := Lib.hid (K0.out.trans (hb.mono K0.out.size)); clear hb cfe) | ((with_reducible refine ((cfo _).out).mono ?_); rintro r w2 ⟨rfl, hb⟩; have P2 := Lib.hid (P1.out.below hb P1.out.lt); have O2 := Lib.hid (O1.out.below hb O1.out.lt); have K2 := Lib.hid (K1.out.trans (hb.mono K1.out.size)); clear hb cfo)) | (go_at_call 25; ((with_reducible refine ((ct _).out).mono ?_); rintro r w9 ⟨rfl, hb⟩; have K9 := Lib.hid (K1.out.trans (hb.mono K1.out.size)); clear hb)))
    go_ret
    exact ⟨rfl, K9.out⟩
end Go.Proofs.Ytghomofakpjglaa
namespace Go.Proofs.Ytghomofakpjglaa
open Go.RowKit
set_option linter.unusedVariables false

section
variable {w : World} {B : Nat} {g : Gm.G} {s : Value}
end

theorem cells_one (g : Gm.G) (s : Value) (h : s.oneCell' = true) : (Gm.cells g s).all (·.oneCell') = true := by
  refine Array.all_eq_true_iff_forall_mem.2 fun v hv => ?_
  have hv : v ∈ [Value.int .i64 g.frame, Value.int .u64 g.dice] ++ Gm.shipCells g.ship ++ [s] := by simpa [Gm.cells] using hv
  simp only [Gm.shipCells, Gm.Ship.cells, List.mem_append, List.mem_cons, List.not_mem_nil, or_false] at hv
  rcases hv with ((rfl | rfl) | hv) | rfl
  · rfl
  · rfl
  · rcases hv with hv | hv | hv | hv | hv | hv | hv | hv <;> (rcases hv with rfl | rfl | rfl | rfl | rfl | rfl | rfl <;> rfl)
  · exact h

section
variable {ops : Array Oper} {rest : List Oper} {o : Oper} {a : Act} {w : World} {Q : Exit → Act → World → Prop}
/-- A game's load, a game's store, met by their types alone: what they want. -/
def LoadGame (ops : Array Oper) (Q : Exit → Act → World → Prop) (rest : List Oper) (dst : Option Tmp) (p : Value) (a : Act) (w : World) : Prop :=
  ∃ (B : Nat) (g : Gm.G) (s : Value), p = .pointer (some ⟨B, 0, none⟩) ∧ Box w B 28 (Gm.cells g s) ∧ wpList Try.prog ops Q rest (a.put dst (.agg (Gm.cells g s))) w
theorem LoadGame.mk {dst : Option Tmp} {p : Value} {B : Nat} {g : Gm.G} {s : Value} (hp : p = .pointer (some ⟨B, 0, none⟩)) (hB : Box w B 28 (Gm.cells g s)) (h : wpList Try.prog ops Q rest (a.put dst (.agg (Gm.cells g s))) w) : LoadGame ops Q rest dst p a w := ⟨B, g, s, hp, hB, h⟩
def StoreGame (ops : Array Oper) (Q : Exit → Act → World → Prop) (rest : List Oper) (dst : Option Tmp) (p v : Value) (a : Act) (w : World) : Prop :=
  ∃ (B : Nat) (g : Gm.G) (s : Value) (g' : Gm.G) (s' : Value), p = .pointer (some ⟨B, 0, none⟩) ∧ v = .agg (Gm.cells g s) ∧ s.oneCell' = true ∧ Box w B 28 (Gm.cells g' s') ∧ wpList Try.prog ops Q rest (a.put dst undef) (w.setRow B (Gm.cells g s))
theorem StoreGame.mk {dst : Option Tmp} {p v : Value} {B : Nat} {g g' : Gm.G} {s s' : Value} (hp : p = .pointer (some ⟨B, 0, none⟩)) (hv : v = .agg (Gm.cells g s)) (hs : s.oneCell' = true) (hB : Box w B 28 (Gm.cells g' s')) (h : wpList Try.prog ops Q rest (a.put dst undef) (w.setRow B (Gm.cells g s))) : StoreGame ops Q rest dst p v a w := ⟨B, g, s, g', s', hp, hv, hs, hB, h⟩
end
end Go.Proofs.Ytghomofakpjglaa
namespace Go.Proofs.Ytghomofakpjglaa
open Go.ChangeShapes Go.WideShapes Go.ChangeAt Go.RowKit Go.Joins Go.ChangeMaps Go.Deep
set_option linter.unusedVariables false

section
variable {H : Type} {enc : TypeId × Value → H} {w : World} {base : Nat} {spare : Nat → Bool} {held : Bool}
theorem trod_in {fuel : Nat} {a b c : Value} {y : DataW H × List MemPlace} (h : DataW.trod enc Try.prog w base spare held fuel 57 [a, b, c] = some y) : ∃ q : Gm.In, [a, b, c] = q.cells ∧ Gm.tyIn q ∧ y.2 = [] := by
  obtain ⟨y0, y1, y2, n, hx, _, h0, h1, h2⟩ := trod_struct3 Try.underlying57 h
  obtain ⟨x0, e0, rfl, w0⟩ := DataW.trod_int Try.underlying55 h0
  obtain ⟨x1, e1, rfl, w1⟩ := DataW.trod_int Try.underlying55 h1
  obtain ⟨x2, e2, rfl, w2⟩ := DataW.trod_int Try.underlying5 h2
  have c8 : Try.prog.cellsOf 55 = 1 := by kernel_rfl
  have cu : Try.prog.cellsOf 5 = 1 := by kernel_rfl
  simp [c8, cu] at e0 e1 e2
  subst e0 e1 e2
  exact ⟨⟨x0, x1, x2⟩, rfl, ⟨Bd.i8 w0, Bd.i8 w1, Bd.u8 w2⟩, by rw [hx]; rfl⟩
theorem cut24 {α : Type} (l : List α) (h : l.length = 24) : l = (l.drop (0 * 3)).take 3 ++ ((l.drop (1 * 3)).take 3 ++ ((l.drop (2 * 3)).take 3 ++ ((l.drop (3 * 3)).take 3 ++ ((l.drop (4 * 3)).take 3 ++ ((l.drop (5 * 3)).take 3 ++ ((l.drop (6 * 3)).take 3 ++ ((l.drop (7 * 3)).take 3))))))) := by
  match l, h with
  | [a0, a1, a2, a3, a4, a5, a6, a7, a8, a9, a10, a11, a12, a13, a14, a15, a16, a17, a18, a19, a20, a21, a22, a23], _ => rfl
end
end Go.Proofs.Ytghomofakpjglaa
namespace Go.Proofs.Ytghomofakpjglaa
open Go.ChangeShapes Go.WideShapes Go.ChangeAt Go.RowKit Go.Joins Go.ChangeMaps Go.Deep
set_option linter.unusedVariables false

theorem cut_at9 {α : Type} (l : List α) (a b : Nat) : l.drop a = (l.drop a).take b ++ l.drop (a + b) := by
  have := (List.take_append_drop b (l.drop a)).symm
  rwa [List.drop_drop] at this
theorem cut_end9 {α : Type} (l : List α) (a b : Nat) (h : l.length = a + b) : l.drop a = (l.drop a).take b := by
  rw [List.take_of_length_le (by simp; omega)]
section
variable {H : Type} {enc : TypeId × Value → H} {w : World} {base : Nat} {spare : Nat → Bool} {held : Bool}
set_option maxRecDepth 100000 in
theorem trod_ev {base : Nat} {spare : Nat → Bool} {held : Bool} {fuel : Nat} {l : List Value} {y : DataW H × List MemPlace} (hl : l.length = 4) (h : DataW.trod enc Try.prog w base spare held fuel 71 l = some y) : ∃ s : En.Ev, l = s.cells ∧ En.tyEv s := by
  obtain ⟨xs, n, _, _, _, hlen, hf⟩ := DataW.trod_struct Try.underlying71 h
  have ci : Try.prog.cellsOf 3 = 1 := by kernel_rfl
  match l, hl, xs, hlen with
  | [a0, a1, a2, a3], _, [y0, y1, y2, y3], _ =>
    obtain ⟨x0, e0, _, w0⟩ := DataW.trod_int Try.underlying3 (hf 0 _ rfl)
    obtain ⟨x1, e1, _, w1⟩ := DataW.trod_int Try.underlying3 (hf 1 _ rfl)
    obtain ⟨x2, e2, _, w2⟩ := DataW.trod_int Try.underlying3 (hf 2 _ rfl)
    obtain ⟨x3, e3, _, w3⟩ := DataW.trod_int Try.underlying3 (hf 3 _ rfl)
    simp [ci] at e0 e1 e2 e3
    subst e0 e1 e2 e3
    exact ⟨⟨x0, x1, x2, x3⟩, rfl, Bd.i64 w0, Bd.i64 w1, Bd.i64 w2, Bd.i64 w3⟩
set_option maxRecDepth 100000 in
theorem trod_ins {base : Nat} {spare : Nat → Bool} {held : Bool} {fuel : Nat} {l : List Value} {y : DataW H × List MemPlace} (hl : l.length = 24) (h : DataW.trod enc Try.prog w base spare held fuel 58 l = some y) :
    ∃ f : Nat → Gm.In, l = Gm.insCells f ∧ ∀ k, k < 8 → Gm.tyIn (f k) := by
  obtain ⟨xs, m, _, hx, _, hn, he⟩ := DataW.trod_array Try.underlying58 h
  have c3 : Try.prog.cellsOf 57 = 3 := by kernel_rfl
  simp only [c3] at he
  have key : ∀ i, i < 8 → ∃ q : Gm.In, (l.drop (i * 3)).take 3 = q.cells ∧ Gm.tyIn q := by
    intro i hi
    have hlen : ((l.drop (i * 3)).take 3).length = 3 := by simp; omega
    obtain ⟨y, hy⟩ : ∃ y, xs[i]? = some y := ⟨xs[i]'(by omega), List.getElem?_eq_getElem (by omega)⟩
    have h : DataW.trod enc Try.prog w base spare held m 57 ((l.drop (i * 3)).take 3) = xs[i]? := he i hi
    rw [hy] at h
    match hq : (l.drop (i * 3)).take 3, hlen with
    | [a, b, c], _ =>
      rw [hq] at h
      obtain ⟨q, h1, h2, _⟩ := trod_in h
      exact ⟨q, h1, h2⟩
  have hch : ∃ ps : Nat → Gm.In, ∀ i, i < 8 → ((l.drop (i * 3)).take 3 = (ps i).cells ∧ Gm.tyIn (ps i)) :=
    ⟨fun i => if h : i < 8 then (key i h).choose else ⟨0, 0, 0⟩, fun i hi => by dsimp only; rw [dif_pos hi]; exact (key i hi).choose_spec⟩
  obtain ⟨ps, hps⟩ := hch
  refine ⟨ps, ?_, fun i hi => (hps i hi).2⟩
  rw [cut24 l hl]
  unfold Gm.insCells
  rw [(hps 0 (by decide)).1, (hps 1 (by decide)).1, (hps 2 (by decide)).1, (hps 3 (by decide)).1, (hps 4 (by decide)).1, (hps 5 (by decide)).1, (hps 6 (by decide)).1, (hps 7 (by decide)).1]
set_option maxRecDepth 100000 in
theorem trod_entry {base : Nat} {spare : Nat → Bool} {held : Bool} {fuel : Nat} {l : List Value} {y : DataW H × List MemPlace} (hl : l.length = 26) (h : DataW.trod enc Try.prog w base spare held fuel 60 l = some y) :
    ∃ q : En.S, l = q.cells ∧ En.Ty q.e ∧ q.e.evs.length ≤ maxLen ∧ Lies w w.heap.size 4 q.adr q.e.evs.length (En.evCells q.e.evs) := by
  obtain ⟨y0, y1, y2, n, _, _, h0, h1, h2⟩ := trod_struct3 Try.underlying60 h
  have ci : Try.prog.cellsOf 3 = 1 := by kernel_rfl
  have c24 : Try.prog.cellsOf 58 = 24 := by kernel_rfl
  have csl : Try.prog.cellsOf 54 = 1 := by kernel_rfl
  have c4 : Try.prog.cellsOf 71 = 4 := by kernel_rfl
  obtain ⟨x0, e0, _, w0⟩ := DataW.trod_int Try.underlying3 h0
  simp only [c24] at h2
  obtain ⟨f, e2, hty⟩ := trod_ins (by simp; omega) h2
  simp only [csl] at h1
  have hlen1 : ((l.drop 1).take 1).length = 1 := by simp; omega
  obtain ⟨u, hu⟩ : ∃ u, (l.drop 1).take 1 = [u] := by
    match hq : (l.drop 1).take 1, hlen1 with
    | [u], _ => exact ⟨u, rfl⟩
  have h1' : DataW.trod enc Try.prog w base spare held n 54 [u] = some y1 := by rw [← hu]; exact h1
  have hsl : ∃ a m k, u = .slice a m k := by
    rcases DataW.trod_slice Try.underlying54 h1' with ⟨hv, _⟩ | ⟨a, len, cap, elems, rest, k, _, hv, _⟩
    · injection hv with hv; exact ⟨_, _, _, hv⟩
    · injection hv with hv; exact ⟨_, _, _, hv⟩
  obtain ⟨a, m, k, rfl⟩ := hsl
  obtain ⟨A, c, evs, ev, ht, hm, hL⟩ := open_slice (enc := enc) (w := w) (base := base) (spare := spare) (held := held) En.Ev.cells 4 En.tyEv ⟨0, 0, 0, 0⟩ Try.underlying54 c4 (by decide) (fun _ => rfl) (fun hl ht => trod_ev hl ht) (v := .slice a m k) (d := y1.1) (p := y1.2) (fun cs e => by cases e) ⟨n, h1'⟩
  refine ⟨⟨⟨x0, evs, f⟩, A, c⟩, ?_, ⟨Bd.i64 w0, ht, hty⟩, hm, hL⟩
  have e0' : (l.drop 0).take 1 = [Value.int .i64 x0] := by rw [← e0, ci]
  have q2 : l.drop 2 = Gm.insCells f := by rw [← e2]; exact cut_end9 l 2 24 (by omega)
  have q1 : l.drop 1 = [Value.slice A evs.length c] ++ Gm.insCells f := by rw [← q2, ← ev, ← hu]; exact cut_at9 l 1 1
  have q0 : l.drop 0 = [Value.int .i64 x0] ++ ([Value.slice A evs.length c] ++ Gm.insCells f) := by rw [← q1, ← e0']; exact cut_at9 l 0 1
  have ql : l = [Value.int .i64 x0] ++ ([Value.slice A evs.length c] ++ Gm.insCells f) := q0
  rw [ql]
  rfl
set_option maxRecDepth 100000 in
theorem agg_of {b0 : Nat} {v : Value} {t : TypeId} {d : TypeDesc} (hu : Try.prog.underlying t = some d) (hd : d.isRow = true) (hv : Value.okWide Try.prog w .any b0 t v) : ∃ cs, v = .agg cs ∧ cs.size = Try.prog.cellsOf t := by
  cases d <;> first | (cases hd; done) | (obtain ⟨cs, h1, h2, _⟩ : ∃ cs, v = .agg cs ∧ cs.size = Try.prog.cellsOf t ∧ Row.okWide Try.prog w .any b0 t cs := (by simpa [Value.okWide, hu] using hv); exact ⟨cs, h1, h2⟩)
set_option maxRecDepth 100000 in
theorem open_entry {b0 : Nat} {v : Value} {d : DataW H} {p : List MemPlace} (hv : Value.okWide Try.prog w .any b0 60 v) (h : DataW.Trod enc Try.prog w base spare held 60 v d p) :
    ∃ q : En.S, v = .agg (En.cells q.e q.sl) ∧ En.Ty q.e ∧ q.e.evs.length ≤ maxLen ∧ Lies w w.heap.size 4 q.adr q.e.evs.length (En.evCells q.e.evs) := by
  obtain ⟨cs, rfl, hsz⟩ := agg_of Try.underlying60 rfl hv
  rw [show Try.prog.cellsOf 60 = 26 from by kernel_rfl] at hsz
  obtain ⟨l⟩ := cs
  obtain ⟨fuel, hf⟩ := h
  have hf' : DataW.trod enc Try.prog w base spare held fuel 60 l = some (d, p) := hf
  obtain ⟨q, h1, h2⟩ := trod_entry (by simpa using hsz) hf'
  refine ⟨q, ?_, h2⟩
  rw [← En.S.cells_arr, ← h1]
set_option maxRecDepth 100000 in
theorem open_event {b0 : Nat} {v : Value} {d : DataW H} {p : List MemPlace} (hv : Value.okWide Try.prog w .any b0 71 v) (h : DataW.Trod enc Try.prog w base spare held 71 v d p) :
    ∃ q : En.Ev, v = .agg q.cells.toArray ∧ En.tyEv q := by
  obtain ⟨cs, rfl, hsz⟩ := agg_of Try.underlying71 rfl hv
  rw [show Try.prog.cellsOf 71 = 4 from by kernel_rfl] at hsz
  obtain ⟨l⟩ := cs
  obtain ⟨fuel, hf⟩ := h
  have hf' : DataW.trod enc Try.prog w base spare held fuel 71 l = some (d, p) := hf
  obtain ⟨q, h1, h2⟩ := trod_ev (by simpa using hsz) hf'
  exact ⟨q, by rw [h1], h2⟩
set_option maxRecDepth 100000 in
theorem open_entries {b0 : Nat} {v : Value} {d : DataW H} {p : List MemPlace} (hv : Value.okWide Try.prog w .any b0 73 v) (h : DataW.Trod enc Try.prog w base spare held 73 v d p) :
    ∃ (A : Option Addr) (c : Nat) (l : List En.S), v = .slice A l.length c ∧ (∀ q ∈ l, En.Ty q.e) ∧ l.length ≤ maxLen ∧ l.length ≤ c ∧ LiesS w w.heap.size A l.length l := by
  have hag : ∀ cs, v ≠ .agg cs := fun cs e => by subst e; simp [Value.okWide, Try.underlying73, Cell.okWide, Cell.ok] at hv
  obtain ⟨A, c, l, h1, h2, h3, h4, h5⟩ := open_slice_c (enc := enc) (w := w) (base := base) (spare := spare) (held := held) En.S.cells 26 (fun q => En.Ty q.e ∧ q.e.evs.length ≤ maxLen ∧ Lies w w.heap.size 4 q.adr q.e.evs.length (En.evCells q.e.evs)) ⟨⟨0, [], En.in0⟩, none, 0⟩ Try.underlying73 (by kernel_rfl) (by decide) (fun _ => rfl) (fun hl ht => trod_entry hl ht) hag h
  exact ⟨A, c, l, h1, fun q hq => (h2 q hq).1, h3, h5, ⟨h4, fun q hq => (h2 q hq).2.2, fun q hq => (h2 q hq).2.1⟩⟩
set_option maxRecDepth 100000 in
theorem open_bytes {b0 : Nat} {v : Value} {d : DataW H} {p : List MemPlace} (hv : Value.okWide Try.prog w .any b0 36 v) (h : DataW.Trod enc Try.prog w base spare held 36 v d p) :
    ∃ (A : Option Addr) (c : Nat) (l : List Int), v = .slice A l.length c ∧ Im.IsBytes l ∧ l.length ≤ maxLen ∧ l.length ≤ c ∧ Lies w w.heap.size 1 A l.length (Im.u8s l) := by
  have hag : ∀ cs, v ≠ .agg cs := fun cs e => by subst e; simp [Value.okWide, Try.underlying36, Cell.okWide, Cell.ok] at hv
  obtain ⟨A, c, l, h1, h2, h3, h4, h5⟩ := open_slice_c (enc := enc) (w := w) (base := base) (spare := spare) (held := held) (fun x : Int => [Value.int .u8 x]) 1 (fun x => 0 ≤ x ∧ x ≤ 255) 0 Try.underlying36 (by kernel_rfl) (by decide) (fun _ => rfl) (fun hl ht => by
    obtain ⟨x, e, _, w⟩ := DataW.trod_int Try.underlying5 ht
    exact ⟨x, e, Bd.u8 w⟩) hag h
  refine ⟨A, c, l, h1, h2, h3, h5, ?_⟩
  have e : ∀ l : List Int, (l.flatMap fun x => [Value.int .u8 x]) = Im.u8s l := fun l => by
    unfold Im.u8s
    induction l with
    | nil => rfl
    | cons a l ih => rw [List.flatMap_cons, ih]; rfl
  rw [← e]
  exact h4
end
end Go.Proofs.Ytghomofakpjglaa
namespace En
open Go
theorem xor_nat (a b : Nat) (ha : a < 256) (hb : b < 256) : bits .xor .u8 (a : Int) (b : Int) = ((a ^^^ b : Nat) : Int) := by
  have hx : a ^^^ b < 2 ^ 8 := Nat.xor_lt_two_pow (by omega) (by omega)
  show IntKind.u8.wrap ((BitVec.ofInt 8 (a : Int) ^^^ BitVec.ofInt 8 (b : Int)).toNat : Int) = _
  rw [BitVec.toNat_xor, BitVec.toNat_ofInt, BitVec.toNat_ofInt, IntKind.wrap_u8]
  rw [show ((a : Int) % ((2 ^ 8 : Nat) : Int)).toNat = a from by omega, show ((b : Int) % ((2 ^ 8 : Nat) : Int)).toNat = b from by omega]
  omega
theorem xor_turn {x c : Int} (hx : 0 ≤ x ∧ x ≤ 255) (hc : 0 ≤ c ∧ c ≤ 255) : ∃ v : Int, bits .xor .u8 x c = v ∧ (0 ≤ v ∧ v ≤ 255) ∧ (v = x ↔ c = 0) := by
  obtain ⟨a, rfl⟩ := Int.eq_ofNat_of_zero_le hx.1
  obtain ⟨b, rfl⟩ := Int.eq_ofNat_of_zero_le hc.1
  have h := xor_nat a b (by omega) (by omega)
  have hlt : a ^^^ b < 2 ^ 8 := Nat.xor_lt_two_pow (by omega) (by omega)
  refine ⟨_, h, by omega, ⟨fun e => ?_, fun e => ?_⟩⟩
  · have e' : a ^^^ b = a := by exact_mod_cast e
    have e2 : a ^^^ (a ^^^ b) = a ^^^ a := by rw [e']
    rw [← Nat.xor_assoc, Nat.xor_self, Nat.zero_xor] at e2
    omega
  · have : b = 0 := by omega
    subst this
    rw [Nat.xor_zero]
theorem set_bytes {l : List Int} (h : Im.IsBytes l) (k : Nat) {v : Int} (hv : 0 ≤ v ∧ v ≤ 255) : Im.IsBytes (l.set k v) := fun x hx => by
  rcases List.mem_or_eq_of_mem_set hx with hx | rfl
  · exact h x hx
  · exact hv
theorem set_same_iff {l : List Int} {k : Nat} (hk : k < l.length) (v : Int) : l.set k v = l ↔ v = l[k] := by
  constructor
  · intro h
    have := congrArg (fun m => m[k]?) h
    simp [hk] at this
    exact this
  · rintro rfl
    exact List.set_getElem_self hk
/-- What is got out of other bytes is another entry. -/
theorem other {e y : E} (hok : Ok e) (hty : Ty e) {t : List Int} (hB : Im.IsBytes t) (h : get t = some y) : Like y e ↔ t = put e := by
  obtain ⟨h1, h2, h3⟩ := get_some hB h
  constructor
  · intro hl; rw [← h3]; exact put_like hl
  · intro ht
    obtain ⟨e', h4, h5⟩ := get_put hok hty
    rw [← ht, h] at h4
    injection h4 with h4
    subst h4
    exact ⟨h5.1.symm, h5.2.1.symm, fun i hi => (h5.2.2 i hi).symm⟩
end En
namespace Go.Proofs.Ytghomofakpjglaa
open Go.RowKit Go.Shelf
set_option linter.unusedVariables false
set_option linter.unusedSimpArgs false

theorem u8_size : (Try.prog.info? 5).map (·.size) = some 1 := by kernel_rfl
theorem below_grown {B : Nat} {w0 w w' : World} {row : Option Nat} (h : Below B w0 w) (hg : w.grownBy w' row) (hr : ∀ r, row = some r → B ≤ r) (hB : B ≤ w0.heap.size) : Below B w0 w' :=
  ⟨hg.os.trans h.os, hg.tape.trans h.tape, hg.output.trans h.output, Nat.le_trans h.size hg.size, fun i hi => (hg.block i (Nat.lt_of_lt_of_le hi (Nat.le_trans hB h.size)) (fun e => by have := hr i e.symm; omega)).trans (h.block i hi)⟩
theorem Lies.grown {w w' : World} {B size n : Nat} {A : Option Addr} {xs : List Value} {row : Option Nat} (h : Lies w B size A n xs) (hg : w.grownBy w' row) (hr : ∀ r, row = some r → B ≤ r) (hB : B ≤ w.heap.size) : Lies w' B size A n xs :=
  h.stays fun b hb => hg.block b (Nat.lt_of_lt_of_le hb hB) (fun e => by have := hr b e.symm; omega)

theorem Lies.take1 {w : World} {B n : Nat} {A : Option Addr} {bs : List Int} (h : Lies w B 1 A n (Im.u8s bs)) (k : Nat) (hk : k ≤ n) : Lies w B 1 A k (Im.u8s (bs.take k)) := by
  have hl := h.len
  rw [Im.u8s_len] at hl
  refine ⟨by rw [Im.u8s_len, List.length_take]; omega, fun h0 => h.start (by omega), fun ad e h0 j u hu => h.cell ad e (by omega) j u ?_⟩
  have e1 : Im.u8s (bs.take k) = (Im.u8s bs).take k := by unfold Im.u8s; rw [List.map_take]
  rw [e1, List.getElem?_take] at hu
  split at hu
  · exact hu
  · cases hu
theorem own_box {w : World} {base m c : Nat} {A : Option Addr} {bs : List Int} (h : w.ownsRow base 5 1 (.slice A m c) m (Im.u8s bs)) (hm : m ≠ 0) : ∃ g cur, A = some ⟨g, 0, none⟩ ∧ base ≤ g ∧ m ≤ c ∧ Box w g 5 cur ∧ ∀ (j : Nat) (x : Int), bs[j]? = some x → cur[j]? = some (Value.int .u8 x) := by
  obtain ⟨hl, ⟨_, h0⟩ | ⟨g, cap, cur, hv, hbg, hg, hnc, _, _, htake⟩⟩ := h
  · exact absurd h0 hm
  · injection hv with hA _ hc
    subst hc
    refine ⟨g, cur, hA, hbg, hnc, ⟨hg⟩, fun j x hj => ?_⟩
    have hlt : j < bs.length := (List.getElem?_eq_some_iff.1 hj).1
    have h1 : (Im.u8s bs)[j]? = some (Value.int .u8 x) := by unfold Im.u8s; rw [List.getElem?_map, hj]; rfl
    rw [← htake, List.getElem?_take] at h1
    split at h1
    · simpa using h1
    · cases h1
theorem Box.lies {w : World} {g m : Nat} {cur : Array Value} {bs : List Int} (h : Box w g 5 cur) (hm : bs.length = m) (hc : ∀ (j : Nat) (x : Int), bs[j]? = some x → cur[j]? = some (Value.int .u8 x)) : Lies w w.heap.size 1 (some ⟨g, 0, none⟩) m (Im.u8s bs) := by
  refine ⟨by rw [Im.u8s_len]; omega, fun _ => ⟨_, rfl, h.lt⟩, fun ad e h0 j u hu => ?_⟩
  injection e with e
  subst e
  have hadd : (⟨g, 0, none⟩ : Addr).add j = ⟨g, j, none⟩ := by unfold Addr.add; split <;> simp_all
  unfold Im.u8s at hu
  rw [List.getElem?_map] at hu
  cases hj : bs[j]? with
  | none => rw [hj] at hu; cases hu
  | some x =>
    rw [hj] at hu
    injection hu with hu
    subst hu
    rw [hadd, h.cell j]
    exact hc j x hj
theorem own_ge {w : World} {base : Nat} {e : TypeId} {size n : Nat} {v : Value} {xs : List Value} (h : w.ownsRow base e size v n xs) : ∀ r, v.ownBlock = some r → base ≤ r := fun r hr => by
  obtain ⟨_, ⟨rfl, _⟩ | ⟨g, cap, cur, rfl, hbg, _⟩⟩ := h
  · cases hr
  · have e' : g = r := by injection hr
    omega
theorem Box.over {w w' : World} {g B : Nat} {t : TypeId} {cs : Array Value} {row : Option Nat} (h : Box w g t cs) (hg : w.grownBy w' row) (hr : ∀ r, row = some r → B ≤ r) (hlt : g < B) : Box w' g t cs :=
  h.grown hg (fun e => by have := hr g e; omega)

set_option maxRecDepth 100000 in
set_option maxHeartbeats 4000000 in
theorem back9_law (q : En.S) (at0 cb : Int) (w : World) (hty : En.Ty q.e) (hn63 : q.e.evs.length ≤ maxLen) (hr : Lies w w.heap.size 4 q.adr q.e.evs.length (En.evCells q.e.evs)) (hat : -9223372036854775808 ≤ at0 ∧ at0 ≤ 9223372036854775807) (hcb : 0 ≤ cb ∧ cb ≤ 255) :
    Calls Try.prog 8 #[.agg (En.cells q.e q.sl), .int .i64 at0, .int .u8 cb] w fun e w' => e = .returned (.bool true) ∧ Below w.heap.size w w' := by
  obtain ⟨e, A, c⟩ := q
  dsimp only [En.S.sl] at *
  have P0 := Lib.hid (Box.made w 60 (En.cells e (.slice A e.evs.length c)))
  have K0 := Lib.hid (one_below w (.cells (En.cells e (.slice A e.evs.length c)) 60))
  have hr0 := (hr.below K0.out).wider K0.out.size
  have ct := fun X => Lib.hid (told9_any X)
  by_cases hok : En.Ok e
  · have cp := Lib.hid (enput_yes e A e.evs.length c _ hok hty.ins rfl hr0)
    have cg0 := fun A' c' X hc hL => Lib.hid (enget_yes e hok hty A' (En.put e).length c' X rfl hc hL)
    have cg1 := fun A' c' X hc hL => Lib.hid (enget_no (En.put e ++ [cb]) (En.get_app hok hty (by simp)) A' ((En.put e).length + 1) c' X (by simp) hc ((En.put_bytes e).app fun x hx => by obtain rfl := List.mem_singleton.1 hx; exact hcb) hL)
    have cg2 := fun k (hk : k < (En.put e).length) A' c' X hc hL => Lib.hid (enget_no ((En.put e).take k) (En.get_cut hok hty hk) A' k c' X (by rw [List.length_take]; omega) hc ((En.put_bytes e).take k) hL)
    have hlen := En.put_len e
    have hle := En.put_le hok.count
    have hoth := fun t y (hB : Im.IsBytes t) h => En.other hok hty (t := t) (y := y) hB h
    have hyes := En.get_put hok hty
    have hby := En.put_bytes e
    have H0 := Lib.hid (show Lies w w.heap.size 4 A e.evs.length (En.evCells e.evs) from hr)
    generalize En.put e = bs at *
    obtain ⟨m, hm⟩ : ∃ m, m = bs.length := ⟨_, rfl⟩
    rw [← hm] at cp cg0 cg1 cg2 hlen hle
    have HM := Lib.hid hm
    have HOTH := Lib.hid hoth
    have HYES := Lib.hid hyes
    have HBY := Lib.hid hby
    have h6 : 6 ≤ m := by omega
    have HN := Lib.hid hn63
    clear hr hr0 hty hok hn63 hlen hm hoth hyes hby
    go_enter Try.func8, Try.ntmps8
    go_upto_region 5 with (first | ((with_reducible refine en_load rfl rfl ?_); apply LoadEn.mk rfl; (focus (with_reducible exact P0.out)); dsimp only) | (with_reducible refine alloc_en rfl rfl ?_) | (with_reducible refine en_store_new rfl rfl rfl rfl En.zeroC_size rfl ?_) | (go_at_call 27; ((with_reducible refine (cp.out).mono ?_); rintro r w1 ⟨A1, c1, rfl, hc1, hL1, _, hb⟩; have P1 := Lib.hid (P0.out.below hb P0.out.lt); have K1 := Lib.hid (K0.out.trans (hb.mono K0.out.size)); have L1 := Lib.hid hL1; have C1 := Lib.hid hc1; have g0 := cg0 A1 c1 _ hc1 hL1; clear hb cp cg0 hc1 hL1)) | (go_at_call 30; ((with_reducible refine (g0.out).mono ?_); rintro r w2 ⟨e1, S1, hlk, hgt, rfl, hE, hb⟩; have P2 := Lib.hid ((P1.out.below hb P1.out.lt).alloc (.cells (En.cells e1 (.slice (some ⟨S1, 0, none⟩) e1.evs.length e1.evs.length)) 60)); have K2 := Lib.hid ((K1.out.trans (hb.mono K1.out.size)).alloc (Nat.le_trans K1.out.size hb.size) (.cells (En.cells e1 (.slice (some ⟨S1, 0, none⟩) e1.evs.length e1.evs.length)) 60)); have G2 := Lib.hid (Box.made w2 60 (En.cells e1 (.slice (some ⟨S1, 0, none⟩) e1.evs.length e1.evs.length))); have E2 := Lib.hid (hE.alloc (.cells (En.cells e1 (.slice (some ⟨S1, 0, none⟩) e1.evs.length e1.evs.length)) 60)); have L2 := Lib.hid (((L1.out.below hb).wider hb.size).below (one_below w2 (.cells (En.cells e1 (.slice (some ⟨S1, 0, none⟩) e1.evs.length e1.evs.length)) 60))); have l2 := Nat.lt_of_lt_of_le P1.out.lt hb.size; have s2 := hE.lt; have HLK := Lib.hid hlk; have F1 := Lib.hid (show e1.evs.length ≤ maxLen by rw [← hlk.2.1]; exact HN.out); clear hb g0 hE hgt hlk)))
    generalize hV2 : w2.alloc (.cells (En.cells e1 (.slice (some ⟨S1, 0, none⟩) e1.evs.length e1.evs.length)) 60) = V2 at *
    have VS := Lib.hid (show V2.heap.size = w2.heap.size + 1 by rw [← hV2]; simp)
    obtain ⟨i0, hi0, hz0, hz1, hz2⟩ := u8_parts
    have hI := Lib.hid hi0
    have hZ := Lib.hid hz0
    have hS := Lib.hid hz1
    have hY := Lib.hid hz2
    have own0 := Lib.hid (World.ownsRow_lit (base := V2.heap.size) (e := 5) (size := 1) V2 #[] 0 (Nat.le_refl _) (Nat.zero_le _) rfl)
    have M2 := Lib.hid ((L2.out.below ((one_below V2 (.cells #[] 5)).mono (by have := VS.out; omega))).wider (show w2.heap.size ≤ (V2.alloc (.cells #[] 5)).heap.size by have := VS.out; simp; omega))
    have csm := fun X hX1 hX2 => Lib.hid (show Calls Try.prog 33 #[.agg (En.cells e1 (.slice (some ⟨S1, 0, none⟩) e1.evs.length e1.evs.length)), .agg (En.cells e (.slice A e.evs.length c))] X fun r w' => r = .returned (.bool true) ∧ Below X.heap.size X w' by
      have := ensame_any ⟨e1, some ⟨S1, 0, none⟩, e1.evs.length⟩ ⟨e, A, c⟩ X F1.out HN.out hX1 hX2
      rw [En.likeB_yes HLK.out.symm] at this
      exact this)
    clear hi0 hz0 hz1 hz2 hV2
    go_upto_region 6 with (first | ((with_reducible refine append_gate (x := .tmp 35) (y := .tmp 36) (t := 36) (e := 5) (size := 1) (bytes := 1) rfl rfl Try.underlying36 hI.out hZ.out hS.out hY.out rfl (by decide) ?_); refine Appends.mk (base := V2.heap.size) (n := 0) (xs := []) rfl own0.out M2.out (Im.u8s_one _) (by unfold maxLen; omega) (by have := VS.out; omega) (by simp) ?_; intro A3 c3 w3 own3 hg3; simp only [Nat.zero_add, List.nil_append] at own3 ⊢; have OW3 := Lib.hid own3; have P3 := Lib.hid ((P2.out.alloc _).over hg3 (B := V2.heap.size) (own_ge own0.out) (by have := VS.out; omega)); have G3 := Lib.hid ((G2.out.alloc _).over hg3 (B := V2.heap.size) (own_ge own0.out) (by have := VS.out; omega)); have E3 := Lib.hid ((E2.out.alloc _).over hg3 (B := V2.heap.size) (own_ge own0.out) (by have := VS.out; omega)); have L3 := Lib.hid ((L2.out.below ((one_below V2 (.cells #[] 5)).mono (by have := VS.out; omega))).grown hg3 (fun r hr => Nat.le_trans (by have := VS.out; omega) (own_ge own0.out r hr)) (by have := VS.out; simp; omega)); have K3 := Lib.hid (below_grown (K2.out.alloc K2.out.size _) hg3 (fun r hr => Nat.le_trans (by have := VS.out; omega) (own_ge own0.out r hr)) (Nat.le_refl _)); have sz3 : V2.heap.size ≤ w3.heap.size := Nat.le_trans (by simp) hg3.size; clear own3 hg3) | ((with_reducible refine append_gate (x := .tmp 37) (y := .tmp 39) (t := 36) (e := 5) (size := 1) (bytes := 1) rfl rfl Try.underlying36 hI.out hZ.out hS.out hY.out rfl (by decide) ?_); refine Appends.mk (base := V2.heap.size) (n := m) (xs := Im.u8s bs) (m := 1) (news := Im.u8s [cb]) rfl (OW3.out.alloc _) (lies_byte w3 cb) (Im.u8s_one _) (by unfold maxLen; omega) (by have := VS.out; omega) (by have := VS.out; simp; omega) ?_; intro A4 c4 w4 own4 hg4; rw [← Im.u8s_append] at own4; have P4 := Lib.hid ((P3.out.alloc _).over hg4 (B := V2.heap.size) (own_ge OW3.out) (by have := VS.out; omega)); have G4 := Lib.hid ((G3.out.alloc _).over hg4 (B := V2.heap.size) (own_ge OW3.out) (by have := VS.out; omega)); have E4 := Lib.hid ((E3.out.alloc _).over hg4 (B := V2.heap.size) (own_ge OW3.out) (by have := VS.out; omega)); have L4 := Lib.hid ((L3.out.below ((one_below w3 _).mono (by have := VS.out; omega))).grown hg4 (fun r hr => Nat.le_trans (by have := VS.out; omega) (own_ge OW3.out r hr)) (by have := VS.out; simp; omega)); have K4 := Lib.hid (below_grown (K3.out.alloc K3.out.size _) hg4 (fun r hr => Nat.le_trans (by have := VS.out; omega) (own_ge OW3.out r hr)) (Nat.le_refl _)); have sz4 : w3.heap.size ≤ w4.heap.size := Nat.le_trans (by simp) hg4.size; have g4 := cg1 A4 c4 w4 (own_cap own4) (Lies.owned own4); clear own4 hg4) | (with_reducible refine alloc_en rfl rfl ?_) | (with_reducible refine en_store_new rfl rfl rfl rfl En.zeroC_size rfl ?_) | (go_at_call 30; ((with_reducible refine (g4.out).mono ?_); rintro r w5 ⟨rfl, hb⟩; have P5 := Lib.hid ((P4.out.below hb P4.out.lt).alloc (.cells (En.cells ⟨0, [], En.in0⟩ (.slice none 0 0)) 60)); have K5 := Lib.hid ((K4.out.trans (hb.mono K4.out.size)).alloc (Nat.le_trans K4.out.size hb.size) (.cells (En.cells ⟨0, [], En.in0⟩ (.slice none 0 0)) 60)); have G5 := Lib.hid ((G4.out.below hb G4.out.lt).alloc (.cells (En.cells ⟨0, [], En.in0⟩ (.slice none 0 0)) 60)); have E5 := Lib.hid ((E4.out.below hb E4.out.lt).alloc (.cells (En.cells ⟨0, [], En.in0⟩ (.slice none 0 0)) 60)); have L5 := Lib.hid (L4.out.below ((hb.mono (by have := VS.out; omega)).trans ((one_below w5 (.cells (En.cells ⟨0, [], En.in0⟩ (.slice none 0 0)) 60)).mono (Nat.le_trans (by have := VS.out; omega) hb.size)))); have sz5 := hb.size; clear hb g4)))
    have hm6 : ¬ (m : Int) < 6 := by omega
    have c5 := csm _ (Lies.boxed E5.out (En.evCells_len _)) ((H0.out.below K5.out).wider K5.out.size)
    have hwm : IntKind.u64.wrap (m : Int) = m := by rw [IntKind.wrap_u64]; omega
    have u0 : 0 ≤ IntKind.u64.wrap at0 := by rw [IntKind.wrap_u64]; omega
    have u1 : IntKind.u64.wrap at0 ≤ 18446744073709551615 := by rw [IntKind.wrap_u64]; omega
    go_upto_region 9 with (first | ((with_reducible refine en_load_g ?_ rfl ?_); (focus first | rfl | kernel_rfl | simp [Region.wanted, yielded]); apply LoadEn.mk rfl; (focus first | (with_reducible exact G5.out) | (with_reducible exact P5.out)); dsimp only) | (go_at_call 33; ((with_reducible refine (c5.out).mono ?_); rintro r w6 ⟨rfl, hb⟩; have P6 := Lib.hid (P5.out.below hb P5.out.lt); have K6 := Lib.hid (K5.out.trans (hb.mono K5.out.size)); have sz6 := hb.size; have L6 := Lib.hid (L5.out.below (hb.mono (by have := VS.out; simp at sz5 ⊢; omega))); clear hb c5)))
    obtain ⟨kk, hkk, hkm⟩ : ∃ kk : Nat, RowKit.wrap64 (IntKind.u64.wrap at0 % (m : Int)) = kk ∧ kk < m := by
      have h0 : 0 ≤ IntKind.u64.wrap at0 % (m : Int) := Int.emod_nonneg _ (by omega)
      have h1 : IntKind.u64.wrap at0 % (m : Int) < m := Int.emod_lt_of_pos _ (by omega)
      refine ⟨(IntKind.u64.wrap at0 % (m : Int)).toNat, ?_, by omega⟩
      rw [IntWalk.wrap64_in _ (by omega)]; omega
    rw [hkk]
    have hsl := fun W => run_slice_to (P := Try.prog) (t := 36) A1 m c1 kk Try.underlying36 u8_size (by have := C1.out; omega) W
    have g6 := cg2 kk hkm A1 c1 w6 (by have := C1.out; omega) ((L6.out.take1 kk (by omega)).wider (by have := VS.out; simp at sz6 sz5 ⊢; omega))
    have hkl : kk < bs.length := by have := HM.out; omega
    have hbk := HBY.out bs[kk] (List.getElem_mem hkl)
    have hset := fun v => En.set_same_iff hkl v
    have hat' : bs[kk]? = some bs[kk] := List.getElem?_eq_getElem hkl
    generalize bs[kk] = xk at hbk hset hat'
    obtain ⟨v, hxor, hv, hvc⟩ := En.xor_turn hbk hcb
    have HVC := Lib.hid ((hset v).trans hvc)
    have HAT := Lib.hid hat'
    have HTB := Lib.hid (En.set_bytes HBY.out kk hv)
    have HTL := Lib.hid (show (bs.set kk v).length = m by rw [List.length_set]; exact HM.out.symm)
    clear hkk hvc u0 u1 hwm hm6 hset hat' hbk
    go_upto_region 10 with (first | (with_reducible refine alloc_en rfl rfl ?_) | (with_reducible refine en_store_new rfl rfl rfl rfl En.zeroC_size rfl ?_) | (go_at_call 30; ((with_reducible refine (g6.out).mono ?_); rintro r w7 ⟨rfl, hb⟩; have P7 := Lib.hid ((P6.out.below hb P6.out.lt).alloc (.cells (En.cells ⟨0, [], En.in0⟩ (.slice none 0 0)) 60)); have K7 := Lib.hid ((K6.out.trans (hb.mono K6.out.size)).alloc (Nat.le_trans K6.out.size hb.size) (.cells (En.cells ⟨0, [], En.in0⟩ (.slice none 0 0)) 60)); have sz7 := hb.size; have L7 := Lib.hid ((L6.out.below (hb.mono (by have := VS.out; simp at sz6 sz5 ⊢; omega))).below ((one_below w7 (.cells (En.cells ⟨0, [], En.in0⟩ (.slice none 0 0)) 60)).mono (by have := VS.out; simp at sz6 sz5 ⊢; omega))); clear hb g6)))
    generalize hV7 : w7.alloc (.cells (En.cells ⟨0, [], En.in0⟩ (.slice none 0 0)) 60) = V7 at *
    have VS7 := Lib.hid (show V7.heap.size = w7.heap.size + 1 by rw [← hV7]; simp)
    have own7 := Lib.hid (World.ownsRow_lit (base := V7.heap.size) (e := 5) (size := 1) V7 #[] 0 (Nat.le_refl _) (Nat.zero_le _) rfl)
    have BIG := Lib.hid (show w2.heap.size ≤ V7.heap.size by have := VS.out; have := VS7.out; simp at sz6; omega)
    have M7 := Lib.hid ((L7.out.below ((one_below V7 (.cells #[] 5)).mono BIG.out)).wider (show w2.heap.size ≤ (V7.alloc (.cells #[] 5)).heap.size by have := BIG.out; simp; omega))
    clear hV7
    go_upto_region 12 with ((with_reducible refine append_gate (x := .tmp 75) (y := .tmp 76) (t := 36) (e := 5) (size := 1) (bytes := 1) rfl rfl Try.underlying36 hI.out hZ.out hS.out hY.out rfl (by decide) ?_); refine Appends.mk (base := V7.heap.size) (n := 0) (xs := []) rfl own7.out M7.out (Im.u8s_one _) (by unfold maxLen; omega) (by omega) (by simp) ?_; intro A8 c8 w8 own8 hg8; simp only [Nat.zero_add, List.nil_append] at own8 ⊢; have P8 := Lib.hid ((P7.out.alloc _).over hg8 (B := V7.heap.size) (own_ge own7.out) (by have := BIG.out; omega)); have K8 := Lib.hid (below_grown (K7.out.alloc K7.out.size _) hg8 (fun r hr => Nat.le_trans (by have := BIG.out; omega) (own_ge own7.out r hr)) (Nat.le_refl _)); obtain ⟨gg, cur, hA8, hgb, hmc, hB8, hcur⟩ := own_box own8 (by omega); subst hA8; have T8 := Lib.hid hB8; have HCUR := Lib.hid hcur; have t8 := (hB8.cell kk).trans (hcur kk _ HAT.out); have f8 := hB8.free kk; clear own8 hg8 hB8 hcur)
    have hgw : w.heap.size < gg := by have := BIG.out; omega
    have P9 := Lib.hid (P8.out.far (p := ⟨gg, kk, none⟩) (show w.heap.size ≠ gg by omega) (.int .u8 v))
    have K9 := Lib.hid (K8.out.setCell (p := ⟨gg, kk, none⟩) (show w.heap.size ≤ gg by omega) (.int .u8 v))
    have T9 := Lib.hid (T8.out.put kk (.int .u8 v))
    have HC9 := Lib.hid (show ∀ (j : Nat) (x : Int), (bs.set kk v)[j]? = some x → (cur.setIfInBounds kk (.int .u8 v))[j]? = some (Value.int .u8 x) from fun j x hj => by
      by_cases e : kk = j
      · subst e
        have hlt : kk < cur.size := (Array.getElem?_eq_some_iff.1 (HCUR.out kk _ HAT.out)).1
        rw [List.getElem?_set_self (by have := HM.out; omega)] at hj
        injection hj with hj
        subst hj
        rw [Array.getElem?_setIfInBounds_self, if_pos hlt]
      · rw [List.getElem?_set_ne e] at hj
        rw [Array.getElem?_setIfInBounds_ne e]
        exact HCUR.out j x hj)
    have g9 := Lib.hid (enget_any (bs.set kk v) (some ⟨gg, 0, none⟩) m c8 _ HTL.out.symm hmc HTB.out (T9.out.lies HTL.out HC9.out))
    clear t8 f8 P8 K8 T8 HCUR
    generalize hW9 : w8.setCell ⟨gg, kk, none⟩ (.int .u8 v) = W9 at *
    clear hW9
    go_upto_region 13 with (first | (with_reducible refine alloc_en rfl rfl ?_) | (with_reducible refine en_store_new rfl rfl rfl rfl En.zeroC_size rfl ?_) | (go_at_call 30; ((with_reducible refine (g9.out).mono ?_); rintro r w10 (⟨y, S2, hgt, rfl, hE, hb⟩ | ⟨hgt, rfl, hb⟩); (all_goals first | (have G10 := Lib.hid (Box.made w10 60 (En.cells y (.slice (some ⟨S2, 0, none⟩) y.evs.length y.evs.length))); have E10 := Lib.hid (hE.alloc (.cells (En.cells y (.slice (some ⟨S2, 0, none⟩) y.evs.length y.evs.length)) 60)); have P10 := Lib.hid ((P9.out.below hb P9.out.lt).alloc (.cells (En.cells y (.slice (some ⟨S2, 0, none⟩) y.evs.length y.evs.length)) 60)); have T10 := Lib.hid ((T9.out.below hb T9.out.lt).alloc (.cells (En.cells y (.slice (some ⟨S2, 0, none⟩) y.evs.length y.evs.length)) 60)); have K10 := Lib.hid ((K9.out.trans (hb.mono K9.out.size)).alloc (Nat.le_trans K9.out.size hb.size) (.cells (En.cells y (.slice (some ⟨S2, 0, none⟩) y.evs.length y.evs.length)) 60)); have HG := Lib.hid hgt; clear hb hE hgt g9) | (have K10 := Lib.hid ((K9.out.trans (hb.mono K9.out.size)).alloc (Nat.le_trans K9.out.size hb.size) (.cells (En.cells ⟨0, [], En.in0⟩ (.slice none 0 0)) 60)); have HG := Lib.hid hgt; clear hb hgt g9)))))
    · obtain ⟨yok, yty, yput⟩ := En.get_some HTB.out HG.out
      have yf := yok.count
      have hlk := (HOTH.out (bs.set kk v) y HTB.out HG.out).trans HVC.out
      have cp2 := fun X hX => Lib.hid (enput_yes y (some ⟨S2, 0, none⟩) y.evs.length y.evs.length X yok yty.ins rfl hX)
      rw [yput, HTL.out] at cp2
      have csm2 := fun X h1 h2 => Lib.hid (show Calls Try.prog 33 #[.agg (En.cells y (.slice (some ⟨S2, 0, none⟩) y.evs.length y.evs.length)), .agg (En.cells e (.slice A e.evs.length c))] X fun r w' => r = .returned (.bool (En.likeB y e)) ∧ Below X.heap.size X w' from ensame_any ⟨y, some ⟨S2, 0, none⟩, y.evs.length⟩ ⟨e, A, c⟩ X (show y.evs.length ≤ maxLen by unfold maxLen; omega) HN.out h1 h2)
      have hcv := Lib.hid (fun A' c' X B hL => conv_bytes (bs.set kk v) m A' c' X B HTL.out hL)
      have c10 := cp2 _ (Lies.boxed E10.out (En.evCells_len _))
      have HLK2 := Lib.hid hlk
      clear cp2 yok yty yput hlk cg1 cg2 csm own7 M7 P9 K9 T9 P7 K7 L7 hxor
      go_upto_region 18 with (first | ((with_reducible refine en_load rfl rfl ?_); apply LoadEn.mk rfl; (focus (with_reducible exact G10.out)); dsimp only) | (go_at_call 27; ((with_reducible refine (c10.out).mono ?_); rintro r w11 ⟨A11, c11, rfl, _, hL11, _, hb⟩; have L11 := Lib.hid hL11; have G11 := Lib.hid (G10.out.below hb G10.out.lt); have P11 := Lib.hid (P10.out.below hb P10.out.lt); have T11 := Lib.hid (T10.out.below hb T10.out.lt); have E11 := Lib.hid (E10.out.below hb E10.out.lt); have K11 := Lib.hid (K10.out.trans (hb.mono K10.out.size)); clear hb hL11 c10)))
      by_cases hz : cb = 0
      · have hlb := En.likeB_yes (HLK2.out.2 hz)
        subst hz
        rw [hlb] at csm2
        clear hlb
        go_wp2_with (first | (go_at_call 25; ((with_reducible refine ((ct _).out).mono ?_); rintro r w12 ⟨rfl, hb⟩; have v1 := hcv.out A11 c11 w12 _ (L11.out.below hb); have T12 := T11.out.below hb T11.out.lt; have v2 := hcv.out (some ⟨gg, 0, none⟩) c8 w12 _ (T12.lies HTL.out HC9.out); have G12 := Lib.hid (G11.out.below hb G11.out.lt); have P12 := Lib.hid (P11.out.below hb P11.out.lt); have E12 := Lib.hid (E11.out.below hb E11.out.lt); have K12 := Lib.hid (K11.out.trans (hb.mono K11.out.size)); have s12 := csm2 w12 (Lies.boxed E12.out (En.evCells_len _)) ((H0.out.below K12.out).wider K12.out.size); clear hb T12)) | ((with_reducible refine en_load_g ?_ rfl ?_); (focus first | rfl | kernel_rfl | simp [Region.wanted, yielded]); apply LoadEn.mk rfl; (focus first | (with_reducible exact G12.out) | (with_reducible exact P12.out)); dsimp only) | (go_at_call 33; ((with_reducible refine (s12.out).mono ?_); rintro r w13 ⟨rfl, hb⟩; have K13 := Lib.hid (K12.out.trans (hb.mono K12.out.size)); clear hb)))
        go_ret
        exact ⟨rfl, K13.out⟩
      · have hlb := En.likeB_no (fun h => hz (HLK2.out.1 h))
        have hcz : (cb == 0) = false := by simpa using hz
        rw [hlb] at csm2
        clear hlb hz
        go_wp2_with (first | (go_at_call 25; ((with_reducible refine ((ct _).out).mono ?_); rintro r w12 ⟨rfl, hb⟩; have v1 := hcv.out A11 c11 w12 _ (L11.out.below hb); have T12 := T11.out.below hb T11.out.lt; have v2 := hcv.out (some ⟨gg, 0, none⟩) c8 w12 _ (T12.lies HTL.out HC9.out); have G12 := Lib.hid (G11.out.below hb G11.out.lt); have P12 := Lib.hid (P11.out.below hb P11.out.lt); have E12 := Lib.hid (E11.out.below hb E11.out.lt); have K12 := Lib.hid (K11.out.trans (hb.mono K11.out.size)); have s12 := csm2 w12 (Lies.boxed E12.out (En.evCells_len _)) ((H0.out.below K12.out).wider K12.out.size); clear hb T12)) | ((with_reducible refine en_load_g ?_ rfl ?_); (focus first | rfl | kernel_rfl | simp [Region.wanted, yielded]); apply LoadEn.mk rfl; (focus first | (with_reducible exact G12.out) | (with_reducible exact P12.out)); dsimp only) | (go_at_call 33; ((with_reducible refine (s12.out).mono ?_); rintro r w13 ⟨rfl, hb⟩; have K13 := Lib.hid (K12.out.trans (hb.mono K12.out.size)); clear hb)))
        go_ret
        exact ⟨rfl, K13.out⟩
    · have hcne : (cb != 0) = true := by
        have hne : cb ≠ 0 := fun e => by
          obtain ⟨e', h1, _⟩ := HYES.out
          have := HG.out
          rw [HVC.out.2 e, h1] at this
          cases this
        simpa using hne
      go_wp2_with (go_at_call 25; ((with_reducible refine ((ct _).out).mono ?_); rintro r w11 ⟨rfl, hb⟩; have K11 := Lib.hid (K10.out.trans (hb.mono K10.out.size)); clear hb))
      go_ret
      exact ⟨rfl, K11.out⟩
  · have cp := Lib.hid (enput_no e A e.evs.length c _ hok rfl hn63 hr0)
    clear hr hr0 hty hok
    go_enter Try.func8, Try.ntmps8
    go_wp2_with (first | ((with_reducible refine en_load rfl rfl ?_); apply LoadEn.mk rfl; (focus (with_reducible exact P0.out)); dsimp only) | (go_at_call 27; ((with_reducible refine (cp.out).mono ?_); rintro r w1 ⟨rfl, hb⟩; have K1 := Lib.hid (K0.out.trans (hb.mono K0.out.size)); clear hb)) | (go_at_call 25; ((with_reducible refine ((ct _).out).mono ?_); rintro r w2 ⟨rfl, hb⟩; have K2 := Lib.hid (K1.out.trans (hb.mono K1.out.size)); clear hb)))
    go_ret
    exact ⟨rfl, K2.out⟩
end Go.Proofs.Ytghomofakpjglaa
namespace Rj
open Go Go.RowKit Rz
/-- Which of the acts have been. -/
def done (n0 : Nat) (listed : Array Bool) : Nat → Bool := fun j => decide (n0 ≤ j) && listed.getD j false
def also (S : Nat → Bool) (i : Nat) : Nat → Bool := fun j => S j || j == i
structure Inv (l : List Oper) (n0 n : Nat) (u : Nat → Value) (V : Nat → (Nat → Value) → World → Prop) (D : (Nat → Bool) → (Nat → Value) → World → Prop) (K : World → Prop) (a0 : Act) (listed : Array Bool) (a : Act) (w : World) : Prop where
  head : HeadInv .any l.toArray n listed
  shape : ∃ vm : Nat → Value, Rp.Shape l (fun j => if j < n0 then u j else vm j) a0 (fun j => listed.getD j false) a ∧ (∀ j, n0 ≤ j → j < n → listed.getD j false = true → V j vm w) ∧ D (done n0 listed) vm w
  world : K w

section
variable {P : Program} {l : List Oper} {n0 n : Nat} {K : World → Prop} {V : Nat → (Nat → Value) → World → Prop} {D : (Nat → Bool) → (Nat → Value) → World → Prop} {A : Nat → Act} {u : Nat → Value}
theorem all_ {Q : Exit → Act → World → Prop} (hr : Run P K (l.take n0) A u) (ok : Ok n0 n l) (hDc : ∀ S vm vm' w, (∀ j, n0 ≤ j → vm j = vm' j) → D S vm w → D S vm' w) (hVd : ∀ j vm vm' w, n0 ≤ j → j < n → (∀ k, k = j ∨ dep l j k = true → vm k = vm' k) → V j vm w → V j vm' w)
    (hmid : ∀ i o, n0 ≤ i → i < n → l[i]? = some o → ∀ (S : Nat → Bool) (vm : Nat → Value) w, K w → S i = false → (∀ j, n0 ≤ j → j < n → dep l i j = true → S j = true) → (∀ j, n0 ≤ j → j < n → S j = true → V j vm w) → D S vm w → Gives P o (putAll ((l.drop n0).take (n - n0)) n0 vm (A n0)) w (fun v w' => V i (upd vm i v) w' ∧ K w' ∧ (∀ j, n0 ≤ j → j < n → j ≠ i → S j = true → V j vm w → V j vm w') ∧ D (also S i) (upd vm i v) w'))
    (htail : ∀ (S : Nat → Bool) (vm : Nat → Value) w, K w → (∀ j, n0 ≤ j → j < n → S j = true) → (∀ j, n0 ≤ j → j < n → V j vm w) → D S vm w → wpList P l.toArray Q (l.drop n) (putAll ((l.drop n0).take (n - n0)) n0 vm (A n0)) w) :
    ∀ (m : Nat) (listed : Array Bool) (a : Act) (w : World), Inv l n0 n u V D K (A 0) listed a w → Rp.unl (fun i => listed.getD i false) n = m → wpAny P .any l.toArray Q (m + (l.length - n)) listed a w := by
  have hll : l.toArray.size = l.length := by simp
  have shapeA : ∀ vm : Nat → Value, Rp.Shape l (fun j => if j < n0 then u j else vm j) (A 0) (fun j => decide (j < n)) (putAll ((l.drop n0).take (n - n0)) n0 vm (A n0)) := fun vm => by
    have h := putAll_shape ok (v := fun j => if j < n0 then u j else vm j) (a0 := A 0) (n - n0) n0 (A n0) (by have := ok.le; omega) (hr.shape ok (fun j hj => by simp [hj]) n0 (Nat.le_refl _))
    rw [putAll_congr (v := fun j => if j < n0 then u j else vm j) (v' := vm) _ _ _ (fun j hj => by simp; intro h; omega)] at h
    exact h
  intro m
  induction m with
  | zero =>
    intro listed a w inv hm
    have hall := Rp.unl_zero (f := fun i => listed.getD i false) (n := n) hm
    have e : listed = Array.replicate n true ++ Array.replicate (l.length - n) false := by
      apply Array.ext
      · rw [inv.head.size]; simp; have := ok.lt; omega
      · intro i h1 h2
        have hs := inv.head.size
        by_cases hin : i < n
        · have := hall i hin
          simp [h1] at this
          rw [Array.getElem_append_left (by simpa using hin)]
          simpa using this
        · have := inv.head.tail i (by omega) (by rw [← hs]; exact h1)
          simp [h1] at this
          rw [Array.getElem_append_right (by simp; omega)]
          simpa using this
    obtain ⟨vm, hs, hV, hD⟩ := inv.shape
    have ea : a = putAll ((l.drop n0).take (n - n0)) n0 vm (A n0) := hs.ext (shapeA vm) fun j o hj => by
      have hjl : j < l.length := (List.getElem?_eq_some_iff.1 hj).1
      by_cases hjn : j < n
      · rw [hall j hjn]; simp [hjn]
      · have := inv.head.tail j (by omega) (by rw [hll]; exact hjl)
        rw [getD_both this]; simp [hjn]
    have hw := htail _ vm w inv.world (fun j h1 h2 => (by unfold done; rw [hall j h2]; simp [h1])) (fun j h1 h2 => hV j h1 h2 (hall j h2)) hD
    rw [← ea] at hw
    have hdl : (l.drop n).length = l.length - n := by simp
    have := wpAny_of_seq (md := .any) (Q' := Q) (l.drop n) n listed a w (fun j => by simp [List.getElem?_drop]) (by rw [hdl, e]; exact ok.seq) hw
    rw [hdl] at this
    rw [Nat.zero_add]
    exact this
  | succ m ih =>
    intro listed a w inv hm
    rw [show m + 1 + (l.length - n) = (m + (l.length - n)) + 1 by omega]
    -- somebody of the head has not been
    have hex : ∃ i, i < n ∧ listed.getD i false = false := by
      refine Classical.byContradiction fun hno => ?_
      have : ∀ k, k ≤ n → Rp.unl (fun i => listed.getD i false) k = 0 := by
        intro k
        induction k with
        | zero => intro _; rfl
        | succ k ihk =>
          intro hk
          unfold Rp.unl
          rw [ihk (by omega)]
          cases h : listed.getD k false
          · exact absurd ⟨k, by omega, h⟩ hno
          · simp
      have := this n (Nat.le_refl _)
      omega
    obtain ⟨i0, hi0, hun0⟩ := hex
    have his0 : i0 < listed.size := by rw [inv.head.size, hll]; have := ok.lt; omega
    refine ⟨fun hr' => ?_, fun i hi => ?_⟩
    · exfalso
      have key : ∀ i, i < n → listed.getD i false = true := by
        intro i
        induction i using Nat.strongRecOn with
        | _ i ihi =>
          intro hin
          cases hu : listed.getD i false
          · have hil : i < l.length := by have := ok.lt; omega
            have ho : l[i]? = some (l[i]'hil) := List.getElem?_eq_getElem hil
            have his : i < listed.size := by rw [inv.head.size, hll]; exact hil
            have : i ∈ Region.ready .any l.toArray listed := mem_ready.2 ⟨getD_in his hu, _, (by rw [List.getElem?_toArray]; exact ho), fun e he hb => by
              have hd := ok.down i _ hin ho e he hb
              exact ihi e.on hd (by omega)⟩
            rw [hr'] at this; cases this
          · rfl
      rw [key i0 hi0] at hun0; cases hun0
    · have hin : i < n := by
        refine Classical.byContradiction fun hge => ?_
        exact tail_waits ok.sink ok.chain (by rw [hll]; exact ok.lt) inv.head (n - i0) i0 rfl hi0 (getD_in his0 hun0) i (by omega) hi
      obtain ⟨hun, o, ho', hdeps⟩ := mem_ready.1 hi
      have ho : l[i]? = some o := by simpa using ho'
      have hil : i < l.length := (List.getElem?_eq_some_iff.1 ho).1
      have his : i < listed.size := by rw [inv.head.size, hll]; exact hil
      have hun' : listed.getD i false = false := getD_both hun
      have getset : ∀ j, (listed.setIfInBounds i true).getD j false = (listed.getD j false || j == i) := fun j => by
        by_cases hji : j = i
        · subst hji; simp [his]
        · rw [getD_set_ne false (fun e => hji e.symm)]; simp [hji]
      have hun2 : Rp.unl (fun j => (listed.setIfInBounds i true).getD j false) n = m := by
        have := Rp.unl_set (f := fun j => listed.getD j false) (g := fun j => (listed.setIfInBounds i true).getD j false) (i := i) hun' (by rw [getset]; simp) (fun j hj => by rw [getset]; simp [hj]) hin
        omega
      obtain ⟨vm, hs, hV, hD⟩ := inv.shape
      have next : ∀ v w', (i < n0 → v = u i) → (n0 ≤ i → V i (upd vm i v) w') → K w' → (∀ j, n0 ≤ j → j < n → j ≠ i → done n0 listed j = true → V j vm w → V j vm w') → D (done n0 (listed.setIfInBounds i true)) (upd vm i v) w' → wpAny P .any l.toArray Q (m + (l.length - n)) (listed.setIfInBounds i true) (a.put o.dst v) w' := fun v w' h1 h2 hKw hst hDn => by
        refine ih _ _ _ ⟨inv.head.set hi hin, ⟨upd vm i v, ?_, fun j hj1 hj2 hl => ?_, hDn⟩, hKw⟩ hun2
        · have hs' := shape_same_v (v' := fun j => if j < n0 then u j else upd vm i v j) hs fun j hj => by
            by_cases hjn : j < n0
            · simp [hjn]
            · have : j ≠ i := fun e => by subst e; rw [hun'] at hj; cases hj
              simp [hjn, this, upd]
          have hp := hs'.put ok.dist ho
          have ev : (if i < n0 then u i else upd vm i v i) = v := by
            by_cases hin0 : i < n0
            · simp [hin0, h1 hin0]
            · simp [hin0, upd]
          rw [ev] at hp
          exact hp.congr fun j o hj => (getset j).symm
        · by_cases hji : j = i
          · subst hji; exact h2 hj1
          · rw [getset] at hl
            have hlj : listed.getD j false = true := by simpa [hji] using hl
            refine hVd j vm _ w' hj1 hj2 (fun k hk => ?_) (hst j hj1 hj2 hji (by unfold done; rw [hlj]; simp [hj1]) (hV j hj1 hj2 hlj))
            have hki : k ≠ i := fun e => by
              subst e
              rcases hk with rfl | hk
              · exact hji rfl
              · have hjl : j < l.length := by have := ok.lt; omega
                have hoj : l[j]? = some (l[j]'hjl) := List.getElem?_eq_getElem hjl
                obtain ⟨e, he, hb, hon⟩ := dep_spec hoj hk
                have := inv.head.closed j _ (by rw [List.getElem?_toArray]; exact hoj) hlj e he hb
                rw [hon, hun'] at this; cases this
            simp [upd, hki]
      have before : ∀ j, dep l i j = true → listed.getD j false = true := fun j hd => by
        obtain ⟨e, he, hb, rfl⟩ := dep_spec ho hd
        exact hdeps e he hb
      unfold wpOp
      simp only [ho', Region.wanted, ok.guard i o hin ho, if_true]
      refine .inl ?_
      by_cases hi0' : i < n0
      · have ho2 : (l.take n0)[i]? = some o := by rw [List.getElem?_take, if_pos hi0']; exact ho
        have exec : execOp a.eval o = execOp (A i).eval o := execOp_congr o (fun cs b => Region.noSelect_spec ok.sel i o cs b ho') fun x hx => by
          cases x with
          | tmp t =>
            have ht : t ∈ o.looksAt l.toArray := List.mem_append_left _ (List.mem_filterMap.2 ⟨.tmp t, by simpa using hx, rfl⟩)
            have e := hs.same (hr.shape ok (v := fun j => if j < n0 then u j else vm j) (fun j hj => by simp [hj]) i (by omega)) (t := t) fun j oj hj hd => by
              by_cases hji : j = i
              · subst hji; rw [hun']; simp
              · by_cases hjn : j < n
                · have hdp := ok.looks i j o oj t hin hjn ho hj (fun e => hji e.symm) hd ht
                  obtain ⟨e, he, hb, hon⟩ := dep_spec ho hdp
                  have := ok.down i o hin ho e he hb
                  rw [before j hdp]; simp; omega
                · have hjl : j < l.length := (List.getElem?_eq_some_iff.1 hj).1
                  rw [getD_both (inv.head.tail j (by omega) (by rw [hll]; exact hjl))]; simp; omega
            simp only [Act.eval, Array.getD_eq_getD_getElem?, e]
          | const => rfl
          | global => rfl
          | func => rfl
        have hrun := hr.run i o ho2 w inv.world
        have hg : Gives P o (A i) w (fun v w' => v = u i ∧ w' = w) := ⟨by unfold gives; rw [hrun]; exact ⟨rfl, rfl⟩⟩
        refine (hg.congr exec).wp fun v w' ⟨hv, hw⟩ => ?_
        subst hw
        refine next v w' (fun _ => hv) (fun h => absurd h (by omega)) inv.world (fun j _ _ _ _ h => h) ?_
        have eS : done n0 (listed.setIfInBounds i true) = done n0 listed := funext fun j => by
          unfold done
          rw [getset]
          by_cases hj : n0 ≤ j
          · have : (j == i) = false := by simp; omega
            simp [this]
          · simp [hj]
        rw [eS]
        exact hDc _ _ _ _ (fun j hj => by simp [upd, show j ≠ i by omega]) hD
      · have exec : execOp a.eval o = execOp (putAll ((l.drop n0).take (n - n0)) n0 vm (A n0)).eval o := execOp_congr o (fun cs b => Region.noSelect_spec ok.sel i o cs b ho') fun x hx => by
          cases x with
          | tmp t =>
            have ht : t ∈ o.looksAt l.toArray := List.mem_append_left _ (List.mem_filterMap.2 ⟨.tmp t, by simpa using hx, rfl⟩)
            by_cases hself : o.dst = some t
            · -- it reads what it writes: told by the check to be nobody else's
              exact (ok.self i o t hin ho hself ht).elim
            · have e := hs.same (shapeA vm) (t := t) fun j oj hj hd => by
                have hji : j ≠ i := fun e => by subst e; rw [ho] at hj; injection hj with hj; subst hj; exact hself hd
                by_cases hjn : j < n
                · rw [before j (ok.looks i j o oj t hin hjn ho hj (fun e => hji e.symm) hd ht)]; simp [hjn]
                · have hjl : j < l.length := (List.getElem?_eq_some_iff.1 hj).1
                  rw [getD_both (inv.head.tail j (by omega) (by rw [hll]; exact hjl))]; simp [hjn]
              simp only [Act.eval, Array.getD_eq_getD_getElem?, e]
          | const => rfl
          | global => rfl
          | func => rfl
        refine ((hmid i o (by omega) hin ho (done n0 listed) vm w inv.world (by unfold done; rw [hun']; simp) (fun j h1 h2 hd => (by unfold done; rw [before j hd]; simp [h1])) (fun j h1 h2 hd => hV j h1 h2 (by unfold done at hd; simp at hd; simpa using hd.2)) hD).congr exec).wp fun v w' ⟨h1, h2, h3, h4⟩ => ?_
        refine next v w' (fun h => absurd h (by omega)) (fun _ => h1) h2 h3 ?_
        have eS : done n0 (listed.setIfInBounds i true) = also (done n0 listed) i := funext fun j => by
          unfold done also
          rw [getset]
          by_cases hji : j = i
          · subst hji; simp; omega
          · have hb : (j == i) = false := by simpa using hji
            rw [hb, Bool.or_false, Bool.or_false]
        rw [eS]
        exact h4
end
/-- **As wp_region_z, with D carried on.** -/
theorem wp_region_j {P : Program} {l : List Oper} {a : Act} {w : World} {id : Nat} {Q : Exit → Act → World → Prop} (hm : P.follows .mixedOrders = true) (n0 n : Nat) (hB : okB n0 n l = true) (K : World → Prop) (V : Nat → (Nat → Value) → World → Prop) (D : (Nat → Bool) → (Nat → Value) → World → Prop) (hK : K w.drew)
    (hD0 : ∀ vm, D (fun _ => false) vm w.drew) (hDc : ∀ S vm vm' w, (∀ j, n0 ≤ j → vm j = vm' j) → D S vm w → D S vm' w)
    (hVd : ∀ j vm vm' w, n0 ≤ j → j < n → (∀ k, k = j ∨ dep l j k = true → vm k = vm' k) → V j vm w → V j vm' w)
    (h : wpHead P K (fun A => (midAll (fun i o => ∀ (S : Nat → Bool) (vm : Nat → Value) w, K w → S i = false → (∀ j, n0 ≤ j → j < n → depO o j = true → S j = true) → (∀ j, n0 ≤ j → j < n → S j = true → V j vm w) → D S vm w → Gives P o (putAll ((l.drop n0).take (n - n0)) n0 vm A) w (fun v w' => V i (upd vm i v) w' ∧ K w' ∧ (∀ j, n0 ≤ j → j < n → j ≠ i → S j = true → V j vm w → V j vm w') ∧ D (also S i) (upd vm i v) w')) ((l.drop n0).take (n - n0)) n0) ∧
      (∀ (S : Nat → Bool) (vm : Nat → Value) w, K w → (∀ j, n0 ≤ j → j < n → S j = true) → (∀ j, n0 ≤ j → j < n → V j vm w) → D S vm w → wpList P l.toArray Q (l.drop n) (putAll ((l.drop n0).take (n - n0)) n0 vm A) w)) (l.take n0) a) : (Code.region id l.toArray true).wp P Q a w := by
  have ok := Ok.of hB
  obtain ⟨A, u, hr, hA, hmid, htail⟩ := run_of_head _ _ h
  have hlen : (l.take n0).length = n0 := by simp; have := ok.lt; have := ok.le; omega
  rw [hlen] at hmid htail
  have hmid := fun i o (h1 : n0 ≤ i) (h2 : i < n) (ho : l[i]? = some o) => (by
    have := midAll_at _ _ hmid (i - n0) o (by rw [List.getElem?_take, if_pos (by omega), List.getElem?_drop, show n0 + (i - n0) = i by omega]; exact ho)
    rw [show n0 + (i - n0) = i by omega] at this
    exact fun S vm w hK hi hS hV hD => this S vm w hK hi (fun j h1 h2 hd => hS j h1 h2 (by unfold dep; rw [ho]; exact hd)) hV hD : ∀ (S : Nat → Bool) (vm : Nat → Value) w, K w → S i = false → (∀ j, n0 ≤ j → j < n → dep l i j = true → S j = true) → (∀ j, n0 ≤ j → j < n → S j = true → V j vm w) → D S vm w → Gives P o (putAll ((l.drop n0).take (n - n0)) n0 vm (A n0)) w (fun v w' => V i (upd vm i v) w' ∧ K w' ∧ (∀ j, n0 ≤ j → j < n → j ≠ i → S j = true → V j vm w → V j vm w') ∧ D (also S i) (upd vm i v) w'))
  refine wp_region_any hm ?_
  have hinv : Inv l n0 n u V D K (A 0) (Array.replicate l.toArray.size false) a w.drew := by
    refine ⟨⟨by simp, fun j oj _ hl => (by rw [getD_replicate_false] at hl; cases hl), fun t _ ht => getD_in (by simpa using ht) (getD_replicate_false _ _)⟩, ⟨fun _ => undef, ?_, fun j _ _ hl => (by rw [getD_replicate_false] at hl; cases hl), ?_⟩, hK⟩
    · rw [hA]
      exact Rp.Shape.start.congr fun j o _ => by rw [getD_replicate_false]
    · have e : done n0 (Array.replicate l.toArray.size false) = fun _ => false := funext fun j => by unfold done; rw [getD_replicate_false]; simp
      rw [e]
      exact hD0 _
  have := all_ (Q := Q) hr ok hDc hVd hmid htail n _ _ _ hinv (unl_none n _ fun i _ => getD_replicate_false _ _)
  rw [show n + (l.length - n) = l.toArray.size by have := ok.lt; simp; omega] at this
  exact this
end Rj
