/-
RosterFree's walk.
-/
import Derived.Test.YtbpipkcdbcfenaaTn
import Derived.LoopTactic
namespace Go.Proofs.Ytbpipkcdbcfenaa
open Go.RowKit Go.Shelf
set_option linter.unusedVariables false
set_option linter.unusedSimpArgs false

theorem wrap64_two (k : Nat) (hk : k < 8) : wrap64 ((2 : Int) ^ k) = ((2 ^ k : Nat) : Int) := by
  match k, hk with
  | 0, _ | 1, _ | 2, _ | 3, _ | 4, _ | 5, _ | 6, _ | 7, _ => decide +kernel
set_option maxRecDepth 100000 in
set_option maxHeartbeats 4000000 in
theorem free_none (r : Ros.R) (w : World) (hok : Ros.Ok r) (hf : Ros.free r = -1) (hall : ∀ k, k < 8 → r.peer k = -1 → r.gen k = 60000) :
    Calls Try.prog 10 #[.agg (Ros.cells r)] w fun e w' => e = .returned (.bool true) ∧ Kept w w' := by
  have ct := fun X => Lib.hid (told8_any X)
  have cm := fun X => Lib.hid (rosmay_any r X)
  rw [show Ros.may r = true from decide_eq_true hok] at cm
  have cf := fun X => Lib.hid (rosfree_any r X)
  rw [hf] at cf
  have P0 := Lib.hid (Box.made w 51 (Ros.cells r))
  have PB := Lib.hid (one_below w (.cells (Ros.cells r) 51))
  have HOK := Lib.hid hok
  have HALL := Lib.hid hall
  clear hf hok hall
  go_enter Try.func10, Try.ntmps10
  go_wp2_with (first | ((with_reducible refine ros_load rfl rfl ?_); apply LoadRow.mk rfl; (focus (with_reducible exact P0.out)); (focus (exact ros_info))) | ((with_reducible refine ros_load rfl rfl ?_); apply LoadRow.mk rfl; (focus (with_reducible exact P1.out)); (focus (exact ros_info))) | (go_at_call 42; ((with_reducible refine ((cm _).out).mono ?_); rintro e w1 ⟨rfl, hb⟩; have P1 := Lib.hid (P0.out.below hb P0.out.lt); have K1 := Lib.hid (PB.out.trans (hb.mono PB.out.size)); clear hb)) | (go_at_call 39; ((with_reducible refine ((cf _).out).mono ?_); rintro e w2 ⟨rfl, hb⟩; have P2 := Lib.hid (P1.out.below hb P1.out.lt); have K2 := Lib.hid (K1.out.trans (hb.mono K1.out.size)); clear hb)))
  go_loopw [4] (fun i wr => ∃ k : Nat, k ≤ 8 ∧ i = .int .i64 k ∧ Box wr w.heap.size 51 (Ros.cells r) ∧ Below w.heap.size w wr) (fun i _ => 8 - (intOf i).toNat)
  case atStart => exact ⟨0, by omega, rfl, P2.out, K2.out⟩
  case round =>
    obtain ⟨k, hk, rfl, hB, hb⟩ := hrel
    clear P0 PB P1 K1 P2 K2 cm cf
    by_cases hlt : k < 8
    · have hk8 : (k : Int) < 8 := by omega
      have hc := hB.cell
      have cp := Ros.cells_peer r k hlt
      have cg := Ros.cells_gen r k hlt
      have hs := (HOK.out.seat k hlt).2
      have ha := HALL.out k hlt
      obtain ⟨pk, hpk⟩ : ∃ pk, r.peer k = pk := ⟨_, rfl⟩
      obtain ⟨gk, hgk⟩ : ∃ gk, r.gen k = gk := ⟨_, rfl⟩
      rw [hpk] at cp hs ha
      rw [hgk] at cg hs ha
      have H := Lib.hid (And.intro hB hb)
      clear hB hb hpk hgk
      by_cases hp : 0 ≤ pk
      · have dp : decide (0 ≤ pk) = true := decide_eq_true hp
        clear hs ha
        go_wp2
        go_roundw
        case rel => exact ⟨k + 1, by omega, by go_num, H.out⟩
        case measure => simp [intOf]; omega
      · have dp : decide (0 ≤ pk) = false := decide_eq_false hp
        obtain rfl : gk = 60000 := ha (by omega)
        clear hs ha
        go_wp2
        go_roundw
        case rel => exact ⟨k + 1, by omega, by go_num, H.out⟩
        case measure => simp [intOf]; omega
    · have hk8 : ¬ (k : Int) < 8 := by omega
      have HB := Lib.hid hb
      clear hB hb
      go_wp2_with (first | (go_at_call 43; ((with_reducible refine ((ct _).out).mono ?_); rintro e w9 ⟨rfl, hb⟩; have K9 := Lib.hid (HB.out.trans (hb.mono HB.out.size)); clear hb)))
      go_ret
      exact ⟨rfl, K9.out⟩

set_option maxRecDepth 100000 in
set_option maxHeartbeats 8000000 in
theorem free_some (r : Ros.R) (f : Nat) (w : World) (hok : Ros.Ok r) (hf8 : f < 8) (hf : Ros.free r = f) (hpf : r.peer f = -1) (hgf : r.gen f < 60000) (hall : ∀ k, k < 8 → r.peer k = -1 → r.gen f ≤ r.gen k ∧ (r.gen k = r.gen f → f ≤ k)) :
    Calls Try.prog 10 #[.agg (Ros.cells r)] w fun e w' => e = .returned (.bool true) ∧ Kept w w' := by
  have ct := fun X => Lib.hid (told8_any X)
  have cm := fun X => Lib.hid (rosmay_any r X)
  rw [show Ros.may r = true from decide_eq_true hok] at cm
  have cf := fun X => Lib.hid (rosfree_any r X)
  rw [hf] at cf
  have P0 := Lib.hid (Box.made w 51 (Ros.cells r))
  have PB := Lib.hid (one_below w (.cells (Ros.cells r) 51))
  have hf8' : (f : Int) < 8 := by omega
  have hfn : decide ((f : Int) < 0) = false := decide_eq_false (by omega)
  have fp := Ros.cells_peer r f hf8
  have fg := Ros.cells_gen r f hf8
  rw [hpf] at fp
  have HOK := Lib.hid hok
  have HALL := Lib.hid hall
  have HPF := Lib.hid hpf
  have HGF := Lib.hid hgf
  clear hf hok hall hpf hgf
  go_enter Try.func10, Try.ntmps10
  go_wp2_with (first | ((with_reducible refine ros_load rfl rfl ?_); apply LoadRow.mk rfl; (focus (with_reducible exact P0.out)); (focus (exact ros_info))) | ((with_reducible refine ros_load rfl rfl ?_); apply LoadRow.mk rfl; (focus (with_reducible exact P1.out)); (focus (exact ros_info))) | (go_at_call 42; ((with_reducible refine ((cm _).out).mono ?_); rintro e w1 ⟨rfl, hb⟩; have P1 := Lib.hid (P0.out.below hb P0.out.lt); have K1 := Lib.hid (PB.out.trans (hb.mono PB.out.size)); clear hb)) | (go_at_call 39; ((with_reducible refine ((cf _).out).mono ?_); rintro e w2 ⟨rfl, hb⟩; have P2 := Lib.hid (P1.out.below hb P1.out.lt); have K2 := Lib.hid (K1.out.trans (hb.mono K1.out.size)); clear hb)))
  go_loopw [4] (fun i wr => ∃ k : Nat, k ≤ 8 ∧ i = .int .i64 k ∧ Box wr w.heap.size 51 (Ros.cells r) ∧ Below w.heap.size w wr) (fun i _ => 8 - (intOf i).toNat)
  case atStart => exact ⟨0, by omega, rfl, P2.out, K2.out⟩
  case round =>
    obtain ⟨k, hk, rfl, hB, hb⟩ := hrel
    clear P0 PB P1 K1 P2 K2 cm cf
    by_cases hlt : k < 8
    · have hk8 : (k : Int) < 8 := by omega
      have hc := hB.cell
      have cp := Ros.cells_peer r k hlt
      have cg := Ros.cells_gen r k hlt
      have hs := (HOK.out.seat k hlt).2
      have ha := HALL.out k hlt
      obtain ⟨pk, hpk⟩ : ∃ pk, r.peer k = pk := ⟨_, rfl⟩
      obtain ⟨gk, hgk⟩ : ∃ gk, r.gen k = gk := ⟨_, rfl⟩
      obtain ⟨gf, hgf⟩ : ∃ gf, r.gen f = gf := ⟨_, rfl⟩
      rw [hpk] at cp hs ha
      rw [hgk] at cg hs ha
      rw [hgf] at fg ha
      have H := Lib.hid (And.intro hB hb)
      clear hB hb hpk hgk hgf
      by_cases hp : 0 ≤ pk
      · have dp : decide (0 ≤ pk) = true := decide_eq_true hp
        clear hs ha
        go_wp2
        go_roundw
        case rel => exact ⟨k + 1, by omega, by go_num, H.out⟩
        case measure => simp [intOf]; omega
      · have dp : decide (0 ≤ pk) = false := decide_eq_false hp
        have ha := ha (by omega)
        have d1 : decide (gk < gf) = false := decide_eq_false (by omega)
        by_cases he : gk = gf
        · have d2 : (gk == gf) = true := by simpa using he
          have d3 : decide ((k : Int) < (f : Int)) = false := decide_eq_false (by have := ha.2 he; omega)
          have d4 : decide (k < f) = false := decide_eq_false (by have := ha.2 he; omega)
          clear hs ha he
          go_upto_region 11 with fail
          go_quiet (fail)
          go_wp2
          go_roundw
          case rel => exact ⟨k + 1, by omega, by go_num, H.out.1.draws _, draws_below H.out.2 _⟩
          case measure => simp [intOf]; omega
        · have d2 : (gk == gf) = false := by simpa using he
          clear hs ha he
          go_upto_region 11 with fail
          go_quiet (fail)
          go_wp2
          go_roundw
          case rel => exact ⟨k + 1, by omega, by go_num, H.out.1.draws _, draws_below H.out.2 _⟩
          case measure => simp [intOf]; omega
    · have hk8 : ¬ (k : Int) < 8 := by omega
      have co := fun X => Lib.hid (rosof_any r 0 X)
      have cr := fun X => Lib.hid (rosmask_any r X)
      have c0 := Ros.cells_0 r
      have Q0 := Lib.hid hB
      have QB := Lib.hid hb
      clear hB hb
      by_cases hm : Ros.MayTake r f 0
      · have cta := fun X => Lib.hid (rostake_yes r f 0 X hm)
        have co2 := fun X => Lib.hid (rosof_any (Ros.take r f 0) 0 X)
        have cr2 := fun X => Lib.hid (rosmask_any (Ros.take r f 0) X)
        rw [Ros.of_take hm] at co2
        rw [Ros.mask_take hm] at cr2
        rw [hm.1.2.2] at co
        have dv : decide (r.version < 1073741824) = true := decide_eq_true hm.1.1.1.2
        have hmb : Ros.mask r < 256 := by rw [show Ros.mask r = Ros.maskSt r Ros.all8 from if_pos HOK.out]; exact Ros.mask_bd r _
        obtain ⟨m, hme⟩ : ∃ m, m = Ros.mask r := ⟨_, rfl⟩
        rw [← hme] at cr cr2 hmb
        have hor := orr_nat m (2 ^ f) (by omega) (by have : 2 ^ f < 2 ^ 8 := Nat.pow_lt_pow_right (by omega) hf8; omega)
        have HOR := Lib.hid hor
        clear hor
        have hwf : IntKind.u64.wrap (f : Int) = f := by rw [IntKind.wrap_u64]; omega
        obtain ⟨x, hx⟩ : ∃ x, x = Ros.take r f 0 := ⟨_, rfl⟩
        rw [← hx] at cta co2 cr2
        obtain ⟨v, hv⟩ : ∃ v, v = r.version := ⟨_, rfl⟩
        rw [← hv] at dv c0
        clear hm hme hx hmb hv HALL HOK HGF HPF
        go_upto_region 16 with (first | ((with_reducible refine ros_load rfl rfl ?_); apply LoadRow.mk rfl; (focus (with_reducible exact Q0.out)); (focus (exact ros_info))) | ((with_reducible refine ros_alloc rfl rfl ?_)) | ((with_reducible refine ros_store_new rfl rfl rfl rfl rfl ?_)) | (go_at_call 41; ((with_reducible refine ((cta _).out).mono ?_); rintro e w3 ⟨rfl, hb⟩; have Q3 := Lib.hid ((Q0.out.below hb Q0.out.lt).alloc (.cells (Ros.cells x) 51)); have X3 := Lib.hid (Box.made w3 51 (Ros.cells x)); have K3 := Lib.hid ((QB.out.trans (hb.mono QB.out.size)).alloc (Nat.le_trans QB.out.size hb.size) (.cells (Ros.cells x) 51)); clear hb)))
        generalize w3.alloc (.cells (Ros.cells x) 51) = V at *
        generalize w3.heap.size = b3 at *
        have z1 : ∀ q : Ext V.heap.size V, q.w.cell? ⟨w.heap.size, 1 + f * 2, none⟩ = some (.int .i64 (-1)) := fun q => q.cell Q3.out.lt ((Q3.out.cell _).trans fp)
        have z2 : ∀ q : Ext V.heap.size V, q.w.cell? ⟨w.heap.size, 0, none⟩ = some (.int .i64 v) := fun q => q.cell Q3.out.lt ((Q3.out.cell _).trans c0)
        have ZR := Lib.hid (fun q : Ext V.heap.size V => Q3.out.below q.h Q3.out.lt)
        have ZX := Lib.hid (fun q : Ext V.heap.size V => X3.out.below q.h X3.out.lt)
        clear Q3 X3 Q0 QB c0 fp fg
        refine wp_region_ext V.heap.size V (by kernel_rfl) (by kernel_rfl) (Below.refl _ _) ?_
        repeat (first | (go_big_quiet_want; refine quiet_ros rfl rfl ZR.out ?_; simp only [Act.put, List.setIfInBounds_toArray, List.set_cons_succ, List.set_cons_zero]; go_big_quiet_on) | (go_big_quiet_want; refine quiet_ros rfl rfl ZX.out ?_; simp only [Act.put, List.setIfInBounds_toArray, List.set_cons_succ, List.set_cons_zero]; go_big_quiet_on) | go_big_quiet_step ((first | (go_at_call 43; with_reducible exact Calls.ext_of (Nat.le_refl _) (ct _).out) | (go_at_call 38; with_reducible exact Calls.ext_of (Nat.le_refl _) (co _).out) | (go_at_call 38; with_reducible exact Calls.ext_of (Nat.le_refl _) (co2 _).out) | (go_at_call 44; with_reducible exact Calls.ext_of (Nat.le_refl _) (cr _).out) | (go_at_call 44; with_reducible exact Calls.ext_of (Nat.le_refl _) (cr2 _).out))))
        refine wpQuiet_nil ?_
        intro _ hw'
        obtain ⟨q, hw''⟩ := hw'
        subst hw''
        have KQ := Lib.hid (K3.out.trans (q.h.mono K3.out.size))
        go_wp2
        go_ret
        exact ⟨ret_bool (by rw [wrap64_two f hf8, HOR.out]; simp), KQ.out⟩
      · have ctn := fun X => Lib.hid (rostake_no r f 0 X hm)
        have hcases : Ros.of r 0 ≠ -1 ∨ ¬ r.version < 1073741824 := by
          by_cases h1 : Ros.of r 0 = -1
          · refine .inr fun h2 => hm ⟨⟨⟨⟨HOK.out, h2⟩, by omega⟩, by omega, h1⟩, HPF.out, ?_⟩
            have := HGF.out
            show r.gen f ≠ 60000
            omega
          · exact .inl h1
        obtain ⟨v, hv⟩ : ∃ v, v = r.version := ⟨_, rfl⟩
        rw [← hv] at c0 hcases
        have hofc := Ros.of_cases HOK.out (p := 0) (by omega) (by omega)
        obtain ⟨o, ho⟩ : ∃ o, o = Ros.of r 0 := ⟨_, rfl⟩
        rw [← ho] at co hcases hofc
        have hob : o = -1 ∨ 0 ≤ o := by
          rcases hofc with ⟨h, _⟩ | ⟨j, _, h, _⟩
          · exact .inl h
          · exact .inr (by omega)
        clear hm hv ho hofc HALL HOK HGF HPF
        go_upto_region 16 with (first | ((with_reducible refine ros_load rfl rfl ?_); apply LoadRow.mk rfl; (focus (with_reducible exact Q0.out)); (focus (exact ros_info))) | ((with_reducible refine ros_alloc rfl rfl ?_)) | ((with_reducible refine ros_store_new rfl rfl rfl rfl rfl ?_)) | (go_at_call 41; ((with_reducible refine ((ctn _).out).mono ?_); rintro e w3 ⟨rfl, hb⟩; have Q3 := Lib.hid ((Q0.out.below hb Q0.out.lt).alloc (.cells (Ros.cells r) 51)); have X3 := Lib.hid (Box.made w3 51 (Ros.cells r)); have K3 := Lib.hid ((QB.out.trans (hb.mono QB.out.size)).alloc (Nat.le_trans QB.out.size hb.size) (.cells (Ros.cells r) 51)); clear hb)))
        generalize w3.alloc (.cells (Ros.cells r) 51) = V at *
        generalize w3.heap.size = b3 at *
        have z1 : ∀ q : Ext V.heap.size V, q.w.cell? ⟨w.heap.size, 1 + f * 2, none⟩ = some (.int .i64 (-1)) := fun q => q.cell Q3.out.lt ((Q3.out.cell _).trans fp)
        have z2 : ∀ q : Ext V.heap.size V, q.w.cell? ⟨w.heap.size, 0, none⟩ = some (.int .i64 v) := fun q => q.cell Q3.out.lt ((Q3.out.cell _).trans c0)
        have ZR := Lib.hid (fun q : Ext V.heap.size V => Q3.out.below q.h Q3.out.lt)
        have ZX := Lib.hid (fun q : Ext V.heap.size V => X3.out.below q.h X3.out.lt)
        clear Q3 X3 Q0 QB c0 fp fg
        by_cases hn : o = -1
        · have dv : decide (v < 1073741824) = false := decide_eq_false (by omega)
          subst hn
          clear hcases hob
          refine wp_region_ext V.heap.size V (by kernel_rfl) (by kernel_rfl) (Below.refl _ _) ?_
          repeat (first | (go_big_quiet_want; refine quiet_ros rfl rfl ZR.out ?_; simp only [Act.put, List.setIfInBounds_toArray, List.set_cons_succ, List.set_cons_zero]; go_big_quiet_on) | (go_big_quiet_want; refine quiet_ros rfl rfl ZX.out ?_; simp only [Act.put, List.setIfInBounds_toArray, List.set_cons_succ, List.set_cons_zero]; go_big_quiet_on) | go_big_quiet_step ((first | (go_at_call 43; with_reducible exact Calls.ext_of (Nat.le_refl _) (ct _).out) | (go_at_call 38; with_reducible exact Calls.ext_of (Nat.le_refl _) (co _).out) | (go_at_call 38; with_reducible exact Calls.ext_of (Nat.le_refl _) (co _).out) | (go_at_call 44; with_reducible exact Calls.ext_of (Nat.le_refl _) (cr _).out) | (go_at_call 44; with_reducible exact Calls.ext_of (Nat.le_refl _) (cr _).out))))
          refine wpQuiet_nil ?_
          intro _ hw'
          obtain ⟨q, hw''⟩ := hw'
          subst hw''
          have KQ := Lib.hid (K3.out.trans (q.h.mono K3.out.size))
          go_wp2
          go_ret
          exact ⟨rfl, KQ.out⟩
        · have dn : decide (o < 0) = false := decide_eq_false (by omega)
          clear hcases hob hn
          refine wp_region_ext V.heap.size V (by kernel_rfl) (by kernel_rfl) (Below.refl _ _) ?_
          repeat (first | (go_big_quiet_want; refine quiet_ros rfl rfl ZR.out ?_; simp only [Act.put, List.setIfInBounds_toArray, List.set_cons_succ, List.set_cons_zero]; go_big_quiet_on) | (go_big_quiet_want; refine quiet_ros rfl rfl ZX.out ?_; simp only [Act.put, List.setIfInBounds_toArray, List.set_cons_succ, List.set_cons_zero]; go_big_quiet_on) | go_big_quiet_step ((first | (go_at_call 43; with_reducible exact Calls.ext_of (Nat.le_refl _) (ct _).out) | (go_at_call 38; with_reducible exact Calls.ext_of (Nat.le_refl _) (co _).out) | (go_at_call 38; with_reducible exact Calls.ext_of (Nat.le_refl _) (co _).out) | (go_at_call 44; with_reducible exact Calls.ext_of (Nat.le_refl _) (cr _).out) | (go_at_call 44; with_reducible exact Calls.ext_of (Nat.le_refl _) (cr _).out))))
          refine wpQuiet_nil ?_
          intro _ hw'
          obtain ⟨q, hw''⟩ := hw'
          subst hw''
          have KQ := Lib.hid (K3.out.trans (q.h.mono K3.out.size))
          go_wp2
          go_ret
          exact ⟨rfl, KQ.out⟩

theorem free_law (r : Ros.R) (w : World) :
    Calls Try.prog 10 #[.agg (Ros.cells r)] w fun e w' => e = .returned (.bool true) ∧ Kept w w' := by
  by_cases hok : Ros.Ok r
  · rcases Ros.free_cases hok with ⟨h1, h2⟩ | ⟨f, h0, h1, h2, h3, h4⟩
    · exact free_none r w hok h1 h2
    · exact free_some r f w hok h0 h1 h2 h3 h4
  · have ct := fun X => Lib.hid (told8_any X)
    have cm := fun X => Lib.hid (rosmay_any r X)
    rw [show Ros.may r = false from decide_eq_false hok] at cm
    have P0 := Lib.hid (Box.made w 51 (Ros.cells r))
    have PB := Lib.hid (one_below w (.cells (Ros.cells r) 51))
    clear hok
    go_enter Try.func10, Try.ntmps10
    go_wp2_with (first | ((with_reducible refine ros_load rfl rfl ?_); apply LoadRow.mk rfl; (focus (with_reducible exact P0.out)); (focus (exact ros_info))) | (go_at_call 42; ((with_reducible refine ((cm _).out).mono ?_); rintro e w1 ⟨rfl, hb⟩; have P1 := Lib.hid (P0.out.below hb P0.out.lt); have K1 := Lib.hid (PB.out.trans (hb.mono PB.out.size)); clear hb)) | (go_at_call 43; ((with_reducible refine ((ct _).out).mono ?_); rintro e w9 ⟨rfl, hb⟩; have K9 := Lib.hid (K1.out.trans (hb.mono K1.out.size)); clear hb)))
    go_ret
    exact ⟨rfl, K9.out⟩
end Go.Proofs.Ytbpipkcdbcfenaa
