/-
EntryAsks: which entries may be, are the same, and their bytes, is what the document says.
-/
import Derived.Test.YtbihnmingedgfaaEb
import Derived.Test.YtbihnmingedgfaaQx
namespace Go.Proofs.Ytbihnmingedgfaa
open Go.RowKit Go.Shelf
set_option linter.unusedVariables false
set_option linter.unusedSimpArgs false

theorem quiet_e9 {B0 : Nat} {W : World} {o : Oper} {a : Act} {K : Act → Prop} {B : Nat} {e : En.E} {s : Value} {x : Operand} (ho : o.op = .load 72 x) (hx : a.eval x = .pointer (some ⟨B, 0, none⟩)) (hB : ∀ q : Ext B0 W, Box q.w B 72 (En.cells e s)) (h : K (a.put o.dst (.agg (En.cells e s)))) :
    o.quiet Try.prog a (fun w' => ∃ q : Ext B0 W, w' = q.w) K :=
  ⟨_, fun w hw => by obtain ⟨q, e'⟩ := hw; subst e'; unfold Oper.quietAt; rw [exec_load_blk ho hx (hB q) Try.underlying72 rfl en_info]; exact ⟨rfl, rfl⟩, h⟩

theorem en_store_z9 {ops : Array Oper} {Q : Exit → Act → World → Prop} {o : Oper} {rest : List Oper} {a : Act} {x y : Operand} {v : World} {old : Array Value} (hgd : o.guard = none) (ho : o.op = .store 72 x y) (hx : a.eval x = .pointer (some ⟨v.heap.size, 0, none⟩)) (hy : a.eval y = .agg En.zeroC)
    (hold : old.size = 26) (h : wpList Try.prog ops Q rest (a.put o.dst undef) (v.alloc (.cells En.zeroC 72))) : wpList Try.prog ops Q (o :: rest) a (v.alloc (.cells old 72)) :=
  wpList_store_new hgd ho hx hy rfl rfl (by rw [En.zeroC_size]; exact en_info) (by rw [En.zeroC_size]; exact hold) en_zero_one h

set_option maxRecDepth 100000 in
set_option maxHeartbeats 8000000 in
theorem asks9_law (e o : En.S) (bs : List Int) (A : Option Addr) (c : Nat) (w : World) (hty : En.Ty e.e) (he63 : e.e.evs.length ≤ maxLen) (hLe : Lies w w.heap.size 4 e.adr e.e.evs.length (En.evCells e.e.evs)) (ho63 : o.e.evs.length ≤ maxLen) (hLo : Lies w w.heap.size 4 o.adr o.e.evs.length (En.evCells o.e.evs)) (hBy : Im.IsBytes bs) (hbc : bs.length ≤ c) (hLb : Lies w w.heap.size 1 A bs.length (Im.u8s bs)) :
    Calls Try.prog 9 #[.agg (En.cells e.e e.sl), .agg (En.cells o.e o.sl), .slice A bs.length c] w fun r w' => r = .returned (.bool true) ∧ Below w.heap.size w w' := by
  have ct := fun X => Lib.hid (told9_any X)
  have P0 := Lib.hid ((Box.made w 72 (En.cells e.e e.sl)).alloc (.cells (En.cells o.e o.sl) 72))
  have O0 := Lib.hid (Box.made_at (n := w.heap.size + 1) (w.alloc (.cells (En.cells e.e e.sl) 72)) 72 (En.cells o.e o.sl) (by simp))
  have K0 := Lib.hid (two_below' w (.cells (En.cells e.e e.sl) 72) (.cells (En.cells o.e o.sl) 72))
  have LE := Lib.hid (fun X (k : Below w.heap.size w X) => (hLe.below k).wider k.size)
  have LO := Lib.hid (fun X (k : Below w.heap.size w X) => (hLo.below k).wider k.size)
  have LB := Lib.hid (fun X (k : Below w.heap.size w X) => (hLb.below k).wider k.size)
  have cfe := fun X => Lib.hid (show Calls Try.prog 39 #[.agg (En.cells e.e e.sl)] X fun r w' => r = .returned (.bool (decide ((e.e.evs.length : Int) ≤ 20))) ∧ Below X.heap.size X w' from few_any e.e e.adr e.e.evs.length e.cap X)
  have cfo := fun X => Lib.hid (show Calls Try.prog 39 #[.agg (En.cells o.e o.sl)] X fun r w' => r = .returned (.bool (decide ((o.e.evs.length : Int) ≤ 20))) ∧ Below X.heap.size X w' from few_any o.e o.adr o.e.evs.length o.cap X)
  have cry := fun X k => Lib.hid (show Calls Try.prog 41 #[.agg (En.cells e.e e.sl)] X fun r w' => r = .returned (.bool (decide (En.Ok e.e))) ∧ Below X.heap.size X w' from refmayen_any e.e e.adr e.e.evs.length e.cap X rfl he63 hty.ins (LE.out X k))
  have cmy := fun X k => Lib.hid (show Calls Try.prog 43 #[.agg (En.cells e.e e.sl)] X fun r w' => r = .returned (.bool (decide (En.Ok e.e))) ∧ Below X.heap.size X w' from enmay_any e.e e.adr e.e.evs.length e.cap X rfl he63 (LE.out X k))
  have cgt := fun X k => Lib.hid (enget_any bs A bs.length c X rfl hbc hBy (LB.out X k))
  have crg := fun X => Lib.hid (refget_any bs X hBy)
  have csa := fun X k => Lib.hid (ensame_any e o X he63 ho63 (LE.out X k) (LO.out X k))
  have csr := fun X k => Lib.hid (refsame_any e o X he63 ho63 (LE.out X k) (LO.out X k))
  have cse := fun X k => Lib.hid (ensame_any e e X he63 he63 (LE.out X k) (LE.out X k))
  rw [En.likeB_yes (En.Like.refl e.e)] at cse
  have hcv := fun X k => conv_bytes bs bs.length A c X _ rfl (LB.out X k)
  have HCV := Lib.hid hcv
  have hgcount := fun (g : En.E) (h : En.get bs = some g) => (En.get_some hBy h).1.count
  clear hcv hLe hLo hLb ho63
  by_cases h1 : (e.e.evs.length : Int) ≤ 20
  · rw [decide_eq_true h1] at cfe
    by_cases h2 : (o.e.evs.length : Int) ≤ 20
    · rw [decide_eq_true h2] at cfo
      by_cases h3 : (bs.length : Int) ≤ 200
      · have d3 : decide (200 < (bs.length : Int)) = false := decide_eq_false (by omega)
        have o63 : o.e.evs.length ≤ maxLen := by unfold maxLen; omega
        by_cases hok : En.Ok e.e
        · have cpy := fun X k => Lib.hid (show Calls Try.prog 42 #[.agg (En.cells e.e e.sl)] X _ from enput_yes e.e e.adr e.e.evs.length e.cap X hok hty.ins rfl (LE.out X k))
          have cpr := fun X k => Lib.hid (show Calls Try.prog 44 #[.agg (En.cells e.e e.sl)] X _ from refputen_any e.e e.adr e.e.evs.length e.cap X hok hty.ins rfl (LE.out X k))
          rw [decide_eq_true hok] at cry cmy
          go_enter Try.func9, Try.ntmps9
          go_upto_region 5 with (first | ((with_reducible refine en_load rfl rfl ?_); apply LoadEn.mk rfl; (focus first | (with_reducible exact P3.out) | (with_reducible exact P2.out) | (with_reducible exact P0.out)); dsimp only) | ((with_reducible refine en_load_g ?_ rfl ?_); (focus first | rfl | kernel_rfl | simp [Region.wanted, yielded]); apply LoadEn.mk rfl; (focus first | (with_reducible exact O1.out) | (with_reducible exact P3.out)); dsimp only) | (go_at_call 39; first | ((with_reducible refine ((cfe _).out).mono ?_); rintro r w1 ⟨rfl, hb⟩; have P1 := Lib.hid (P0.out.below hb P0.out.lt); have O1 := Lib.hid (O0.out.below hb O0.out.lt); have K1 := Lib.hid (K0.out.trans (hb.mono K0.out.size)); clear hb cfe) | ((with_reducible refine ((cfo _).out).mono ?_); rintro r w2 ⟨rfl, hb⟩; have P2 := Lib.hid (P1.out.below hb P1.out.lt); have O2 := Lib.hid (O1.out.below hb O1.out.lt); have K2 := Lib.hid (K1.out.trans (hb.mono K1.out.size)); clear hb cfo)) | (go_at_call 41; ((with_reducible refine ((cry _ K2.out).out).mono ?_); rintro r w3 ⟨rfl, hb⟩; have P3 := Lib.hid (P2.out.below hb P2.out.lt); have O3 := Lib.hid (O2.out.below hb O2.out.lt); have K3 := Lib.hid (K2.out.trans (hb.mono K2.out.size)); clear hb)) | (go_at_call 42; ((with_reducible refine ((cpy _ K3.out).out).mono ?_); rintro r w4 ⟨A4, c4, rfl, hc4, hL4, _, hb⟩; have P4 := Lib.hid (P3.out.below hb P3.out.lt); have O4 := Lib.hid (O3.out.below hb O3.out.lt); have K4 := Lib.hid (K3.out.trans (hb.mono K3.out.size)); have L4 := Lib.hid hL4; clear hb hL4 cpy)))
          have CMY := Lib.hid (fun q : Ext w4.heap.size w4 => (cmy q.w (K4.out.trans (q.h.mono K4.out.size))).out)
          have CPR := Lib.hid (fun q : Ext w4.heap.size w4 => (cpr q.w (K4.out.trans (q.h.mono K4.out.size))).out)
          have ZP := Lib.hid (fun q : Ext w4.heap.size w4 => P4.out.below q.h P4.out.lt)
          have zcv : ∀ q : Ext w4.heap.size w4, (convert 54 9 (.slice A4 (En.put e.e).length c4)).run Try.prog q.w = .ok (.string (strOfNums (En.put e.e))) q.w := fun q => conv_bytes (En.put e.e) (En.put e.e).length A4 c4 q.w _ rfl (L4.out.below q.h)
          generalize strOfNums (En.put e.e) = sp at *
          generalize (En.put e.e).length = np at *
          refine wp_region_ext w4.heap.size w4 (by kernel_rfl) (by kernel_rfl) (Below.refl _ _) ?_
          repeat (first | (go_big_quiet_want; (first | (refine quiet_e9 rfl rfl ZP.out ?_)); simp only [Act.put, List.setIfInBounds_toArray, List.set_cons_succ, List.set_cons_zero]; go_big_quiet_on) | go_big_quiet_step ((first | (go_at_call 43; with_reducible exact Calls.ext_of (Nat.le_refl _) (CMY.out _)) | (go_at_call 44; with_reducible exact Calls.ext_of (Nat.le_refl _) (CPR.out _)))))
          refine wpQuiet_nil ?_
          intro _ hw'
          obtain ⟨q5, hw''⟩ := hw'
          subst hw''
          have P5 := Lib.hid (ZP.out q5)
          have O5 := Lib.hid (O4.out.below q5.h O4.out.lt)
          have K5 := Lib.hid (K4.out.trans (q5.h.mono K4.out.size))
          clear CMY CPR ZP zcv cpr L4 hok
          clear cry cmy
          go_upto_region 8 with (first | (with_reducible refine alloc_en rfl rfl ?_) | (with_reducible refine en_store_new rfl rfl rfl rfl En.zeroC_size rfl ?_) | (with_reducible refine en_store_z9 rfl rfl rfl rfl En.zeroC_size ?_) | (go_at_call 45; ((with_reducible refine ((cgt _ K5.out).out).mono ?_); rintro r w6 (⟨y, S6, hgt, rfl, hE, hb⟩ | ⟨hgt, rfl, hb⟩); (all_goals first | (have Y6 := Lib.hid (Box.made w6 72 (En.cells y (.slice (some ⟨S6, 0, none⟩) y.evs.length y.evs.length))); have E6 := Lib.hid (hE.alloc (.cells (En.cells y (.slice (some ⟨S6, 0, none⟩) y.evs.length y.evs.length)) 72)); have P6 := Lib.hid ((P5.out.below hb P5.out.lt).alloc (.cells (En.cells y (.slice (some ⟨S6, 0, none⟩) y.evs.length y.evs.length)) 72)); have O6 := Lib.hid ((O5.out.below hb O5.out.lt).alloc (.cells (En.cells y (.slice (some ⟨S6, 0, none⟩) y.evs.length y.evs.length)) 72)); have K6 := Lib.hid ((K5.out.trans (hb.mono K5.out.size)).alloc (Nat.le_trans K5.out.size hb.size) (.cells (En.cells y (.slice (some ⟨S6, 0, none⟩) y.evs.length y.evs.length)) 72)); have HG := Lib.hid hgt; clear hb hE hgt cgt) | (have Y6 := Lib.hid (Box.made w6 72 (En.cells ⟨0, [], En.in0⟩ (.slice none 0 0))); have P6 := Lib.hid ((P5.out.below hb P5.out.lt).alloc (.cells (En.cells ⟨0, [], En.in0⟩ (.slice none 0 0)) 72)); have O6 := Lib.hid ((O5.out.below hb O5.out.lt).alloc (.cells (En.cells ⟨0, [], En.in0⟩ (.slice none 0 0)) 72)); have K6 := Lib.hid ((K5.out.trans (hb.mono K5.out.size)).alloc (Nat.le_trans K5.out.size hb.size) (.cells (En.cells ⟨0, [], En.in0⟩ (.slice none 0 0)) 72)); have HG := Lib.hid hgt; clear hb hgt cgt)))))
          · have y16 := hgcount y HG.out
            have y63 : y.evs.length ≤ maxLen := by unfold maxLen; omega
            have hcv := HCV.out _ K6.out
            have crg2 := fun X => Lib.hid (show Calls Try.prog 46 #[.string (strOfNums bs)] X (fun r w' => ∃ A8 c8, r = .returned (.tuple #[.agg (En.cells y (.slice A8 y.evs.length c8)), .int .i64 0]) ∧ Lies w' w'.heap.size 4 A8 y.evs.length (En.evCells y.evs) ∧ Below X.heap.size X w') from (crg X).out.mono (fun r w' h => by
              rcases h with ⟨e', A8, c8, h1, h2⟩ | ⟨h1, _⟩
              · rw [HG.out] at h1; injection h1 with h1; subst h1; exact ⟨A8, c8, h2⟩
              · rw [HG.out] at h1; cases h1))
            generalize strOfNums bs = sb at *
            clear crg HCV
            go_upto_region 9 with (first | (with_reducible refine alloc_en rfl rfl ?_) | (with_reducible refine en_store_new rfl rfl rfl rfl En.zeroC_size rfl ?_) | (go_at_call 46; ((with_reducible refine ((crg2 _).out).mono ?_); rintro r w8 ⟨A8, c8, rfl, hL8, hb⟩; have Y8 := Lib.hid ((Y6.out.below hb Y6.out.lt).alloc (.cells (En.cells y (.slice A8 y.evs.length c8)) 72)); have E8 := Lib.hid ((E6.out.below hb E6.out.lt).alloc (.cells (En.cells y (.slice A8 y.evs.length c8)) 72)); have Z8 := Lib.hid (Box.made w8 72 (En.cells y (.slice A8 y.evs.length c8))); have L8 := Lib.hid ((hL8.below (one_below w8 (.cells (En.cells y (.slice A8 y.evs.length c8)) 72))).wider (one_below w8 (.cells (En.cells y (.slice A8 y.evs.length c8)) 72)).size); have P8 := Lib.hid ((P6.out.below hb P6.out.lt).alloc (.cells (En.cells y (.slice A8 y.evs.length c8)) 72)); have O8 := Lib.hid ((O6.out.below hb O6.out.lt).alloc (.cells (En.cells y (.slice A8 y.evs.length c8)) 72)); have K8 := Lib.hid ((K6.out.trans (hb.mono K6.out.size)).alloc (Nat.le_trans K6.out.size hb.size) (.cells (En.cells y (.slice A8 y.evs.length c8)) 72)); clear hb hL8 crg2)))
            generalize w8.alloc (.cells (En.cells y (.slice A8 y.evs.length c8)) 72) = W8 at *
            have SM := Lib.hid (fun q : Ext W8.heap.size W8 => show Calls Try.prog 47 #[.agg (En.cells y (.slice (some ⟨S6, 0, none⟩) y.evs.length y.evs.length)), .agg (En.cells y (.slice A8 y.evs.length c8))] q.w fun e w' => e = .returned (.bool true) ∧ Below q.w.heap.size q.w w' by
              have := refsame_any ⟨y, some ⟨S6, 0, none⟩, y.evs.length⟩ ⟨y, A8, c8⟩ q.w y63 y63 (Lies.boxed (E8.out.below q.h E8.out.lt) (En.evCells_len _)) ((L8.out.below q.h).wider q.h.size)
              rw [En.likeB_yes (En.Like.refl y)] at this
              exact this)
            have SA := Lib.hid (fun q : Ext W8.heap.size W8 => (csa q.w (K8.out.trans (q.h.mono K8.out.size))).out)
            have SR := Lib.hid (fun q : Ext W8.heap.size W8 => (csr q.w (K8.out.trans (q.h.mono K8.out.size))).out)
            have SE := Lib.hid (fun q : Ext W8.heap.size W8 => (cse q.w (K8.out.trans (q.h.mono K8.out.size))).out)
            generalize En.likeB e.e o.e = lb at *
            have ZP := Lib.hid (fun q : Ext W8.heap.size W8 => P8.out.below q.h P8.out.lt)
            have ZO := Lib.hid (fun q : Ext W8.heap.size W8 => O8.out.below q.h O8.out.lt)
            have ZY := Lib.hid (fun q : Ext W8.heap.size W8 => Y8.out.below q.h Y8.out.lt)
            have ZZ := Lib.hid (fun q : Ext W8.heap.size W8 => Z8.out.below q.h Z8.out.lt)
            refine wp_region_ext W8.heap.size W8 (by kernel_rfl) (by kernel_rfl) (Below.refl _ _) ?_
            repeat (first | (go_big_quiet_want; (first | (refine quiet_e9 rfl rfl ZP.out ?_) | (refine quiet_e9 rfl rfl ZO.out ?_) | (refine quiet_e9 rfl rfl ZY.out ?_) | (refine quiet_e9 rfl rfl ZZ.out ?_)); simp only [Act.put, List.setIfInBounds_toArray, List.set_cons_succ, List.set_cons_zero]; go_big_quiet_on) | go_big_quiet_step ((first | (go_at_call 40; with_reducible exact Calls.ext_of (Nat.le_refl _) (ct _).out) | (go_at_call 47; first | with_reducible exact Calls.ext_of (Nat.le_refl _) (SM.out _) | with_reducible exact Calls.ext_of (Nat.le_refl _) (SR.out _)) | (go_at_call 48; first | with_reducible exact Calls.ext_of (Nat.le_refl _) (SA.out _) | with_reducible exact Calls.ext_of (Nat.le_refl _) (SE.out _)))))
            refine wpQuiet_nil ?_
            intro _ hw'
            obtain ⟨q9, hw''⟩ := hw'
            subst hw''
            have K9 := Lib.hid (K8.out.trans (q9.h.mono K8.out.size))
            clear SM SA SR SE ZP ZO ZY ZZ
            go_wp2
            go_ret
            exact ⟨ret_bool (by simp), K9.out⟩
          · have hcv := HCV.out _ K6.out
            have crg2 := fun X => Lib.hid (show Calls Try.prog 46 #[.string (strOfNums bs)] X (fun r w' => r = .returned (.tuple #[.agg En.zeroC, .int .i64 2]) ∧ Below X.heap.size X w') from (crg X).out.mono (fun r w' h => by
              rcases h with ⟨e', A8, c8, h1, h2⟩ | ⟨_, h1⟩
              · rw [HG.out] at h1; cases h1
              · exact h1))
            generalize strOfNums bs = sb at *
            clear crg HCV
            go_upto_region 9 with (first | (with_reducible refine alloc_en rfl rfl ?_) | (with_reducible refine en_store_new rfl rfl rfl rfl En.zeroC_size rfl ?_) | (go_at_call 46; ((with_reducible refine ((crg2 _).out).mono ?_); rintro r w8 ⟨rfl, hb⟩; have Y8 := Lib.hid (show Box _ w6.heap.size 72 (En.cells ⟨0, [], En.in0⟩ (.slice none 0 0)) from (Y6.out.below hb Y6.out.lt).alloc (.cells (En.cells ⟨0, [], En.in0⟩ (.slice none 0 0)) 72)); have Z8 := Lib.hid (show Box _ w8.heap.size 72 (En.cells ⟨0, [], En.in0⟩ (.slice none 0 0)) from Box.made w8 72 (En.cells ⟨0, [], En.in0⟩ (.slice none 0 0))); have P8 := Lib.hid ((P6.out.below hb P6.out.lt).alloc (.cells (En.cells ⟨0, [], En.in0⟩ (.slice none 0 0)) 72)); have O8 := Lib.hid ((O6.out.below hb O6.out.lt).alloc (.cells (En.cells ⟨0, [], En.in0⟩ (.slice none 0 0)) 72)); have K8 := Lib.hid ((K6.out.trans (hb.mono K6.out.size)).alloc (Nat.le_trans K6.out.size hb.size) (.cells (En.cells ⟨0, [], En.in0⟩ (.slice none 0 0)) 72)); clear hb crg2)))
            generalize w8.alloc (.cells (En.cells ⟨0, [], En.in0⟩ (.slice none 0 0)) 72) = W8 at *
            have SM := Lib.hid (fun q : Ext W8.heap.size W8 => show Calls Try.prog 47 #[.agg (En.cells ⟨0, [], En.in0⟩ (.slice none 0 0)), .agg (En.cells ⟨0, [], En.in0⟩ (.slice none 0 0))] q.w fun e w' => e = .returned (.bool true) ∧ Below q.w.heap.size q.w w' by
              have := refsame_any ⟨⟨0, [], En.in0⟩, none, 0⟩ ⟨⟨0, [], En.in0⟩, none, 0⟩ q.w (Nat.zero_le _) (Nat.zero_le _) ⟨rfl, fun h => absurd rfl h, fun _ _ h => absurd rfl h⟩ ⟨rfl, fun h => absurd rfl h, fun _ _ h => absurd rfl h⟩
              rw [En.likeB_yes (En.Like.refl _)] at this
              exact this)
            have SA := Lib.hid (fun q : Ext W8.heap.size W8 => (csa q.w (K8.out.trans (q.h.mono K8.out.size))).out)
            have SR := Lib.hid (fun q : Ext W8.heap.size W8 => (csr q.w (K8.out.trans (q.h.mono K8.out.size))).out)
            have SE := Lib.hid (fun q : Ext W8.heap.size W8 => (cse q.w (K8.out.trans (q.h.mono K8.out.size))).out)
            generalize En.likeB e.e o.e = lb at *
            have ZP := Lib.hid (fun q : Ext W8.heap.size W8 => P8.out.below q.h P8.out.lt)
            have ZO := Lib.hid (fun q : Ext W8.heap.size W8 => O8.out.below q.h O8.out.lt)
            have ZY := Lib.hid (fun q : Ext W8.heap.size W8 => Y8.out.below q.h Y8.out.lt)
            have ZZ := Lib.hid (fun q : Ext W8.heap.size W8 => Z8.out.below q.h Z8.out.lt)
            refine wp_region_ext W8.heap.size W8 (by kernel_rfl) (by kernel_rfl) (Below.refl _ _) ?_
            repeat (first | (go_big_quiet_want; (first | (refine quiet_e9 rfl rfl ZP.out ?_) | (refine quiet_e9 rfl rfl ZO.out ?_) | (refine quiet_e9 rfl rfl ZY.out ?_) | (refine quiet_e9 rfl rfl ZZ.out ?_)); simp only [Act.put, List.setIfInBounds_toArray, List.set_cons_succ, List.set_cons_zero]; go_big_quiet_on) | go_big_quiet_step ((first | (go_at_call 40; with_reducible exact Calls.ext_of (Nat.le_refl _) (ct _).out) | (go_at_call 47; first | with_reducible exact Calls.ext_of (Nat.le_refl _) (SM.out _) | with_reducible exact Calls.ext_of (Nat.le_refl _) (SR.out _)) | (go_at_call 48; first | with_reducible exact Calls.ext_of (Nat.le_refl _) (SA.out _) | with_reducible exact Calls.ext_of (Nat.le_refl _) (SE.out _)))))
            refine wpQuiet_nil ?_
            intro _ hw'
            obtain ⟨q9, hw''⟩ := hw'
            subst hw''
            have K9 := Lib.hid (K8.out.trans (q9.h.mono K8.out.size))
            clear SM SA SR SE ZP ZO ZY ZZ
            go_wp2
            go_ret
            exact ⟨ret_bool (by simp), K9.out⟩
        · have cpn := fun X k => Lib.hid (show Calls Try.prog 42 #[.agg (En.cells e.e e.sl)] X (fun r w' => r = .returned (.tuple #[.slice none 0 0, .int .i64 1]) ∧ Below X.heap.size X w') from enput_no e.e e.adr e.e.evs.length e.cap X hok rfl he63 (LE.out X k))
          rw [decide_eq_false hok] at cry cmy
          go_enter Try.func9, Try.ntmps9
          go_upto_region 5 with (first | ((with_reducible refine en_load rfl rfl ?_); apply LoadEn.mk rfl; (focus first | (with_reducible exact P3.out) | (with_reducible exact P2.out) | (with_reducible exact P0.out)); dsimp only) | ((with_reducible refine en_load_g ?_ rfl ?_); (focus first | rfl | kernel_rfl | simp [Region.wanted, yielded]); apply LoadEn.mk rfl; (focus first | (with_reducible exact O1.out) | (with_reducible exact P3.out)); dsimp only) | (go_at_call 39; first | ((with_reducible refine ((cfe _).out).mono ?_); rintro r w1 ⟨rfl, hb⟩; have P1 := Lib.hid (P0.out.below hb P0.out.lt); have O1 := Lib.hid (O0.out.below hb O0.out.lt); have K1 := Lib.hid (K0.out.trans (hb.mono K0.out.size)); clear hb cfe) | ((with_reducible refine ((cfo _).out).mono ?_); rintro r w2 ⟨rfl, hb⟩; have P2 := Lib.hid (P1.out.below hb P1.out.lt); have O2 := Lib.hid (O1.out.below hb O1.out.lt); have K2 := Lib.hid (K1.out.trans (hb.mono K1.out.size)); clear hb cfo)) | (go_at_call 41; ((with_reducible refine ((cry _ K2.out).out).mono ?_); rintro r w3 ⟨rfl, hb⟩; have P3 := Lib.hid (P2.out.below hb P2.out.lt); have O3 := Lib.hid (O2.out.below hb O2.out.lt); have K3 := Lib.hid (K2.out.trans (hb.mono K2.out.size)); clear hb)) | (go_at_call 42; ((with_reducible refine ((cpn _ K3.out).out).mono ?_); rintro r w4 ⟨rfl, hb⟩; have P4 := Lib.hid (P3.out.below hb P3.out.lt); have O4 := Lib.hid (O3.out.below hb O3.out.lt); have K4 := Lib.hid (K3.out.trans (hb.mono K3.out.size)); clear hb cpn)))
          have CMY := Lib.hid (fun q : Ext w4.heap.size w4 => (cmy q.w (K4.out.trans (q.h.mono K4.out.size))).out)
          have ZP := Lib.hid (fun q : Ext w4.heap.size w4 => P4.out.below q.h P4.out.lt)
          refine wp_region_ext w4.heap.size w4 (by kernel_rfl) (by kernel_rfl) (Below.refl _ _) ?_
          repeat (first | (go_big_quiet_want; (first | (refine quiet_e9 rfl rfl ZP.out ?_)); simp only [Act.put, List.setIfInBounds_toArray, List.set_cons_succ, List.set_cons_zero]; go_big_quiet_on) | go_big_quiet_step ((first | (go_at_call 43; with_reducible exact Calls.ext_of (Nat.le_refl _) (CMY.out _)))))
          refine wpQuiet_nil ?_
          intro _ hw'
          obtain ⟨q5, hw''⟩ := hw'
          subst hw''
          have P5 := Lib.hid (ZP.out q5)
          have O5 := Lib.hid (O4.out.below q5.h O4.out.lt)
          have K5 := Lib.hid (K4.out.trans (q5.h.mono K4.out.size))
          clear CMY ZP hok
          clear cry cmy
          go_upto_region 8 with (first | (with_reducible refine alloc_en rfl rfl ?_) | (with_reducible refine en_store_new rfl rfl rfl rfl En.zeroC_size rfl ?_) | (with_reducible refine en_store_z9 rfl rfl rfl rfl En.zeroC_size ?_) | (go_at_call 45; ((with_reducible refine ((cgt _ K5.out).out).mono ?_); rintro r w6 (⟨y, S6, hgt, rfl, hE, hb⟩ | ⟨hgt, rfl, hb⟩); (all_goals first | (have Y6 := Lib.hid (Box.made w6 72 (En.cells y (.slice (some ⟨S6, 0, none⟩) y.evs.length y.evs.length))); have E6 := Lib.hid (hE.alloc (.cells (En.cells y (.slice (some ⟨S6, 0, none⟩) y.evs.length y.evs.length)) 72)); have P6 := Lib.hid ((P5.out.below hb P5.out.lt).alloc (.cells (En.cells y (.slice (some ⟨S6, 0, none⟩) y.evs.length y.evs.length)) 72)); have O6 := Lib.hid ((O5.out.below hb O5.out.lt).alloc (.cells (En.cells y (.slice (some ⟨S6, 0, none⟩) y.evs.length y.evs.length)) 72)); have K6 := Lib.hid ((K5.out.trans (hb.mono K5.out.size)).alloc (Nat.le_trans K5.out.size hb.size) (.cells (En.cells y (.slice (some ⟨S6, 0, none⟩) y.evs.length y.evs.length)) 72)); have HG := Lib.hid hgt; clear hb hE hgt cgt) | (have Y6 := Lib.hid (Box.made w6 72 (En.cells ⟨0, [], En.in0⟩ (.slice none 0 0))); have P6 := Lib.hid ((P5.out.below hb P5.out.lt).alloc (.cells (En.cells ⟨0, [], En.in0⟩ (.slice none 0 0)) 72)); have O6 := Lib.hid ((O5.out.below hb O5.out.lt).alloc (.cells (En.cells ⟨0, [], En.in0⟩ (.slice none 0 0)) 72)); have K6 := Lib.hid ((K5.out.trans (hb.mono K5.out.size)).alloc (Nat.le_trans K5.out.size hb.size) (.cells (En.cells ⟨0, [], En.in0⟩ (.slice none 0 0)) 72)); have HG := Lib.hid hgt; clear hb hgt cgt)))))
          · have y16 := hgcount y HG.out
            have y63 : y.evs.length ≤ maxLen := by unfold maxLen; omega
            have hcv := HCV.out _ K6.out
            have crg2 := fun X => Lib.hid (show Calls Try.prog 46 #[.string (strOfNums bs)] X (fun r w' => ∃ A8 c8, r = .returned (.tuple #[.agg (En.cells y (.slice A8 y.evs.length c8)), .int .i64 0]) ∧ Lies w' w'.heap.size 4 A8 y.evs.length (En.evCells y.evs) ∧ Below X.heap.size X w') from (crg X).out.mono (fun r w' h => by
              rcases h with ⟨e', A8, c8, h1, h2⟩ | ⟨h1, _⟩
              · rw [HG.out] at h1; injection h1 with h1; subst h1; exact ⟨A8, c8, h2⟩
              · rw [HG.out] at h1; cases h1))
            generalize strOfNums bs = sb at *
            clear crg HCV
            go_upto_region 9 with (first | (with_reducible refine alloc_en rfl rfl ?_) | (with_reducible refine en_store_new rfl rfl rfl rfl En.zeroC_size rfl ?_) | (go_at_call 46; ((with_reducible refine ((crg2 _).out).mono ?_); rintro r w8 ⟨A8, c8, rfl, hL8, hb⟩; have Y8 := Lib.hid ((Y6.out.below hb Y6.out.lt).alloc (.cells (En.cells y (.slice A8 y.evs.length c8)) 72)); have E8 := Lib.hid ((E6.out.below hb E6.out.lt).alloc (.cells (En.cells y (.slice A8 y.evs.length c8)) 72)); have Z8 := Lib.hid (Box.made w8 72 (En.cells y (.slice A8 y.evs.length c8))); have L8 := Lib.hid ((hL8.below (one_below w8 (.cells (En.cells y (.slice A8 y.evs.length c8)) 72))).wider (one_below w8 (.cells (En.cells y (.slice A8 y.evs.length c8)) 72)).size); have P8 := Lib.hid ((P6.out.below hb P6.out.lt).alloc (.cells (En.cells y (.slice A8 y.evs.length c8)) 72)); have O8 := Lib.hid ((O6.out.below hb O6.out.lt).alloc (.cells (En.cells y (.slice A8 y.evs.length c8)) 72)); have K8 := Lib.hid ((K6.out.trans (hb.mono K6.out.size)).alloc (Nat.le_trans K6.out.size hb.size) (.cells (En.cells y (.slice A8 y.evs.length c8)) 72)); clear hb hL8 crg2)))
            generalize w8.alloc (.cells (En.cells y (.slice A8 y.evs.length c8)) 72) = W8 at *
            have SM := Lib.hid (fun q : Ext W8.heap.size W8 => show Calls Try.prog 47 #[.agg (En.cells y (.slice (some ⟨S6, 0, none⟩) y.evs.length y.evs.length)), .agg (En.cells y (.slice A8 y.evs.length c8))] q.w fun e w' => e = .returned (.bool true) ∧ Below q.w.heap.size q.w w' by
              have := refsame_any ⟨y, some ⟨S6, 0, none⟩, y.evs.length⟩ ⟨y, A8, c8⟩ q.w y63 y63 (Lies.boxed (E8.out.below q.h E8.out.lt) (En.evCells_len _)) ((L8.out.below q.h).wider q.h.size)
              rw [En.likeB_yes (En.Like.refl y)] at this
              exact this)
            have SA := Lib.hid (fun q : Ext W8.heap.size W8 => (csa q.w (K8.out.trans (q.h.mono K8.out.size))).out)
            have SR := Lib.hid (fun q : Ext W8.heap.size W8 => (csr q.w (K8.out.trans (q.h.mono K8.out.size))).out)
            have SE := Lib.hid (fun q : Ext W8.heap.size W8 => (cse q.w (K8.out.trans (q.h.mono K8.out.size))).out)
            generalize En.likeB e.e o.e = lb at *
            have ZP := Lib.hid (fun q : Ext W8.heap.size W8 => P8.out.below q.h P8.out.lt)
            have ZO := Lib.hid (fun q : Ext W8.heap.size W8 => O8.out.below q.h O8.out.lt)
            have ZY := Lib.hid (fun q : Ext W8.heap.size W8 => Y8.out.below q.h Y8.out.lt)
            have ZZ := Lib.hid (fun q : Ext W8.heap.size W8 => Z8.out.below q.h Z8.out.lt)
            refine wp_region_ext W8.heap.size W8 (by kernel_rfl) (by kernel_rfl) (Below.refl _ _) ?_
            repeat (first | (go_big_quiet_want; (first | (refine quiet_e9 rfl rfl ZP.out ?_) | (refine quiet_e9 rfl rfl ZO.out ?_) | (refine quiet_e9 rfl rfl ZY.out ?_) | (refine quiet_e9 rfl rfl ZZ.out ?_)); simp only [Act.put, List.setIfInBounds_toArray, List.set_cons_succ, List.set_cons_zero]; go_big_quiet_on) | go_big_quiet_step ((first | (go_at_call 40; with_reducible exact Calls.ext_of (Nat.le_refl _) (ct _).out) | (go_at_call 47; first | with_reducible exact Calls.ext_of (Nat.le_refl _) (SM.out _) | with_reducible exact Calls.ext_of (Nat.le_refl _) (SR.out _)) | (go_at_call 48; first | with_reducible exact Calls.ext_of (Nat.le_refl _) (SA.out _) | with_reducible exact Calls.ext_of (Nat.le_refl _) (SE.out _)))))
            refine wpQuiet_nil ?_
            intro _ hw'
            obtain ⟨q9, hw''⟩ := hw'
            subst hw''
            have K9 := Lib.hid (K8.out.trans (q9.h.mono K8.out.size))
            clear SM SA SR SE ZP ZO ZY ZZ
            go_wp2
            go_ret
            exact ⟨ret_bool (by simp), K9.out⟩
          · have hcv := HCV.out _ K6.out
            have crg2 := fun X => Lib.hid (show Calls Try.prog 46 #[.string (strOfNums bs)] X (fun r w' => r = .returned (.tuple #[.agg En.zeroC, .int .i64 2]) ∧ Below X.heap.size X w') from (crg X).out.mono (fun r w' h => by
              rcases h with ⟨e', A8, c8, h1, h2⟩ | ⟨_, h1⟩
              · rw [HG.out] at h1; cases h1
              · exact h1))
            generalize strOfNums bs = sb at *
            clear crg HCV
            go_upto_region 9 with (first | (with_reducible refine alloc_en rfl rfl ?_) | (with_reducible refine en_store_new rfl rfl rfl rfl En.zeroC_size rfl ?_) | (go_at_call 46; ((with_reducible refine ((crg2 _).out).mono ?_); rintro r w8 ⟨rfl, hb⟩; have Y8 := Lib.hid (show Box _ w6.heap.size 72 (En.cells ⟨0, [], En.in0⟩ (.slice none 0 0)) from (Y6.out.below hb Y6.out.lt).alloc (.cells (En.cells ⟨0, [], En.in0⟩ (.slice none 0 0)) 72)); have Z8 := Lib.hid (show Box _ w8.heap.size 72 (En.cells ⟨0, [], En.in0⟩ (.slice none 0 0)) from Box.made w8 72 (En.cells ⟨0, [], En.in0⟩ (.slice none 0 0))); have P8 := Lib.hid ((P6.out.below hb P6.out.lt).alloc (.cells (En.cells ⟨0, [], En.in0⟩ (.slice none 0 0)) 72)); have O8 := Lib.hid ((O6.out.below hb O6.out.lt).alloc (.cells (En.cells ⟨0, [], En.in0⟩ (.slice none 0 0)) 72)); have K8 := Lib.hid ((K6.out.trans (hb.mono K6.out.size)).alloc (Nat.le_trans K6.out.size hb.size) (.cells (En.cells ⟨0, [], En.in0⟩ (.slice none 0 0)) 72)); clear hb crg2)))
            generalize w8.alloc (.cells (En.cells ⟨0, [], En.in0⟩ (.slice none 0 0)) 72) = W8 at *
            have SM := Lib.hid (fun q : Ext W8.heap.size W8 => show Calls Try.prog 47 #[.agg (En.cells ⟨0, [], En.in0⟩ (.slice none 0 0)), .agg (En.cells ⟨0, [], En.in0⟩ (.slice none 0 0))] q.w fun e w' => e = .returned (.bool true) ∧ Below q.w.heap.size q.w w' by
              have := refsame_any ⟨⟨0, [], En.in0⟩, none, 0⟩ ⟨⟨0, [], En.in0⟩, none, 0⟩ q.w (Nat.zero_le _) (Nat.zero_le _) ⟨rfl, fun h => absurd rfl h, fun _ _ h => absurd rfl h⟩ ⟨rfl, fun h => absurd rfl h, fun _ _ h => absurd rfl h⟩
              rw [En.likeB_yes (En.Like.refl _)] at this
              exact this)
            have SA := Lib.hid (fun q : Ext W8.heap.size W8 => (csa q.w (K8.out.trans (q.h.mono K8.out.size))).out)
            have SR := Lib.hid (fun q : Ext W8.heap.size W8 => (csr q.w (K8.out.trans (q.h.mono K8.out.size))).out)
            have SE := Lib.hid (fun q : Ext W8.heap.size W8 => (cse q.w (K8.out.trans (q.h.mono K8.out.size))).out)
            generalize En.likeB e.e o.e = lb at *
            have ZP := Lib.hid (fun q : Ext W8.heap.size W8 => P8.out.below q.h P8.out.lt)
            have ZO := Lib.hid (fun q : Ext W8.heap.size W8 => O8.out.below q.h O8.out.lt)
            have ZY := Lib.hid (fun q : Ext W8.heap.size W8 => Y8.out.below q.h Y8.out.lt)
            have ZZ := Lib.hid (fun q : Ext W8.heap.size W8 => Z8.out.below q.h Z8.out.lt)
            refine wp_region_ext W8.heap.size W8 (by kernel_rfl) (by kernel_rfl) (Below.refl _ _) ?_
            repeat (first | (go_big_quiet_want; (first | (refine quiet_e9 rfl rfl ZP.out ?_) | (refine quiet_e9 rfl rfl ZO.out ?_) | (refine quiet_e9 rfl rfl ZY.out ?_) | (refine quiet_e9 rfl rfl ZZ.out ?_)); simp only [Act.put, List.setIfInBounds_toArray, List.set_cons_succ, List.set_cons_zero]; go_big_quiet_on) | go_big_quiet_step ((first | (go_at_call 40; with_reducible exact Calls.ext_of (Nat.le_refl _) (ct _).out) | (go_at_call 47; first | with_reducible exact Calls.ext_of (Nat.le_refl _) (SM.out _) | with_reducible exact Calls.ext_of (Nat.le_refl _) (SR.out _)) | (go_at_call 48; first | with_reducible exact Calls.ext_of (Nat.le_refl _) (SA.out _) | with_reducible exact Calls.ext_of (Nat.le_refl _) (SE.out _)))))
            refine wpQuiet_nil ?_
            intro _ hw'
            obtain ⟨q9, hw''⟩ := hw'
            subst hw''
            have K9 := Lib.hid (K8.out.trans (q9.h.mono K8.out.size))
            clear SM SA SR SE ZP ZO ZY ZZ
            go_wp2
            go_ret
            exact ⟨ret_bool (by simp), K9.out⟩
      · have d3 : decide (200 < (bs.length : Int)) = true := decide_eq_true (by omega)
        go_enter Try.func9, Try.ntmps9
        go_wp2_with (first | ((with_reducible refine en_load rfl rfl ?_); apply LoadEn.mk rfl; (focus first | (with_reducible exact P3.out) | (with_reducible exact P2.out) | (with_reducible exact P0.out)); dsimp only) | ((with_reducible refine en_load_g ?_ rfl ?_); (focus first | rfl | kernel_rfl | simp [Region.wanted, yielded]); apply LoadEn.mk rfl; (focus first | (with_reducible exact O1.out) | (with_reducible exact P3.out)); dsimp only) | (go_at_call 39; first | ((with_reducible refine ((cfe _).out).mono ?_); rintro r w1 ⟨rfl, hb⟩; have P1 := Lib.hid (P0.out.below hb P0.out.lt); have O1 := Lib.hid (O0.out.below hb O0.out.lt); have K1 := Lib.hid (K0.out.trans (hb.mono K0.out.size)); clear hb cfe) | ((with_reducible refine ((cfo _).out).mono ?_); rintro r w2 ⟨rfl, hb⟩; have P2 := Lib.hid (P1.out.below hb P1.out.lt); have O2 := Lib.hid (O1.out.below hb O1.out.lt); have K2 := Lib.hid (K1.out.trans (hb.mono K1.out.size)); clear hb cfo)) | (go_at_call 40; ((with_reducible refine ((ct _).out).mono ?_); rintro r w9 ⟨rfl, hb⟩; have K9 := Lib.hid (K2.out.trans (hb.mono K2.out.size)); clear hb)))
        go_ret
        exact ⟨rfl, K9.out⟩
    · rw [decide_eq_false h2] at cfo
      go_enter Try.func9, Try.ntmps9
      go_wp2_with (first | ((with_reducible refine en_load rfl rfl ?_); apply LoadEn.mk rfl; (focus first | (with_reducible exact P3.out) | (with_reducible exact P2.out) | (with_reducible exact P0.out)); dsimp only) | ((with_reducible refine en_load_g ?_ rfl ?_); (focus first | rfl | kernel_rfl | simp [Region.wanted, yielded]); apply LoadEn.mk rfl; (focus first | (with_reducible exact O1.out) | (with_reducible exact P3.out)); dsimp only) | (go_at_call 39; first | ((with_reducible refine ((cfe _).out).mono ?_); rintro r w1 ⟨rfl, hb⟩; have P1 := Lib.hid (P0.out.below hb P0.out.lt); have O1 := Lib.hid (O0.out.below hb O0.out.lt); have K1 := Lib.hid (K0.out.trans (hb.mono K0.out.size)); clear hb cfe) | ((with_reducible refine ((cfo _).out).mono ?_); rintro r w2 ⟨rfl, hb⟩; have P2 := Lib.hid (P1.out.below hb P1.out.lt); have O2 := Lib.hid (O1.out.below hb O1.out.lt); have K2 := Lib.hid (K1.out.trans (hb.mono K1.out.size)); clear hb cfo)) | (go_at_call 40; ((with_reducible refine ((ct _).out).mono ?_); rintro r w9 ⟨rfl, hb⟩; have K9 := Lib.hid (K2.out.trans (hb.mono K2.out.size)); clear hb)))
      go_ret
      exact ⟨rfl, K9.out⟩
  · rw [decide_eq_false h1] at cfe
    go_enter Try.func9, Try.ntmps9
    go_wp2_with (first | ((with_reducible refine en_load rfl rfl ?_); apply LoadEn.mk rfl; (focus first | (with_reducible exact P3.out) | (with_reducible exact P2.out) | (with_reducible exact P0.out)); dsimp only) | (go_at_call 39; first | ((with_reducible refine ((cfe _).out).mono ?_); rintro r w1 ⟨rfl, hb⟩; have P1 := Lib.hid (P0.out.below hb P0.out.lt); have O1 := Lib.hid (O0.out.below hb O0.out.lt); have K1 := Lib.hid (K0.out.trans (hb.mono K0.out.size)); clear hb cfe) | ((with_reducible refine ((cfo _).out).mono ?_); rintro r w2 ⟨rfl, hb⟩; have P2 := Lib.hid (P1.out.below hb P1.out.lt); have O2 := Lib.hid (O1.out.below hb O1.out.lt); have K2 := Lib.hid (K1.out.trans (hb.mono K1.out.size)); clear hb cfo)) | (go_at_call 40; ((with_reducible refine ((ct _).out).mono ?_); rintro r w9 ⟨rfl, hb⟩; have K9 := Lib.hid (K1.out.trans (hb.mono K1.out.size)); clear hb)))
    go_ret
    exact ⟨rfl, K9.out⟩
end Go.Proofs.Ytbihnmingedgfaa
