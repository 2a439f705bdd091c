/-
EntryFront's walk.
-/
import Derived.Test.YtbihnmingedgfaaEf
namespace Go.Proofs.Ytbihnmingedgfaa
open Go.RowKit Go.Shelf
set_option linter.unusedVariables false
set_option linter.unusedSimpArgs false

theorem head_every {P : Program} {K : World → Prop} {M T : Act → Prop} {a : Act} (R : Act → Prop) (hR : R a) (hM : ∀ A, R A → M A) (hT : T a) : Rz.wpHead P K (fun A => M A ∧ T A) [] a := ⟨hM a hR, hT⟩

set_option maxRecDepth 100000 in
set_option maxHeartbeats 4000000 in
theorem front9_law (l : List En.S) (A : Option Addr) (c : Nat) (cut : Int) (q : En.S) (w : World) (hl63 : l.length ≤ maxLen) (hlc : l.length ≤ c) (hL : LiesS w w.heap.size A l.length l) (hcut : -9223372036854775808 ≤ cut ∧ cut ≤ 9223372036854775807) (hq63 : q.e.evs.length ≤ maxLen) (hQ : Lies w w.heap.size 4 q.adr q.e.evs.length (En.evCells q.e.evs)) :
    Calls Try.prog 12 #[.slice A l.length c, .int .i64 cut, .agg (En.cells q.e q.sl)] w fun e w' => e = .returned (.bool true) ∧ Below w.heap.size w w' := by
  have ct := fun X => Lib.hid (told9_any X)
  have P0 := Lib.hid (Box.made w 72 (En.cells q.e q.sl))
  have K0 := Lib.hid (one_below w (.cells (En.cells q.e q.sl) 72))
  have L0 := Lib.hid ((hL.below K0.out).wider K0.out.size)
  have Q0 := Lib.hid ((hQ.below K0.out).wider K0.out.size)
  obtain ⟨n, hn⟩ : ∃ n, n = l.length := ⟨_, rfl⟩
  rw [← hn] at hl63 hlc L0 ⊢
  have HN := Lib.hid hn
  clear hn hL hQ
  have cfs := fun (u : En.S) X => Lib.hid (show Calls Try.prog 39 #[.agg (En.cells u.e u.sl)] X fun r w' => r = .returned (.bool (decide ((u.e.evs.length : Int) ≤ 20))) ∧ Below X.heap.size X w' from few_any u.e u.adr u.e.evs.length u.cap X)
  have cfq := cfs q
  by_cases hn10 : (n : Int) ≤ 10
  · have h10 : decide (10 < (n : Int)) = false := decide_eq_false (by omega)
    by_cases hf : (q.e.evs.length : Int) ≤ 20
    · rw [decide_eq_true hf] at cfq
      go_enter Try.func12, Try.ntmps12
      go_wp2_with (first | ((with_reducible refine en_load_g ?_ rfl ?_); (focus first | rfl | kernel_rfl | simp [Region.wanted, yielded]); apply LoadEn.mk rfl; (focus (with_reducible exact P0.out)); dsimp only) | (go_at_call 39; ((with_reducible refine ((cfq _).out).mono ?_); rintro r w1 ⟨rfl, hb⟩; have P1 := Lib.hid (P0.out.below hb P0.out.lt); have K1 := Lib.hid (K0.out.trans (hb.mono K0.out.size)); have L1 := Lib.hid ((L0.out.below hb).wider hb.size); have Q1 := Lib.hid ((Q0.out.below hb).wider hb.size); clear hb)))
      go_loopw [7] (fun i wr => ∃ k : Nat, k ≤ n ∧ i = .int .i64 k ∧ Below w1.heap.size w1 wr) (fun i _ => n - (intOf i).toNat)
      case atStart => exact ⟨0, by omega, rfl, Below.refl _ _⟩
      case round =>
        obtain ⟨k, hk, rfl, hb⟩ := hrel
        have P2 := Lib.hid (P1.out.below hb P1.out.lt)
        have K2 := Lib.hid (K1.out.trans (hb.mono K1.out.size))
        have L2 := Lib.hid ((L1.out.below hb).wider hb.size)
        have Q2 := Lib.hid ((Q1.out.below hb).wider hb.size)
        by_cases hlt : k < n
        · have hk8 : (k : Int) < n := by omega
          have hkl : k < l.length := by have := HN.out; omega
          obtain ⟨ad, rfl, hbl, a0⟩ := L2.out.at k hkl
          have hbl' : (ad.add (k * 26)).block < wr.heap.size := by rw [add_block]; exact hbl
          have LA := Lib.hid a0
          have HB := Lib.hid hb
          have cf := fun X => cfs l[k] X
          clear a0 hb cfs cfq L1 Q1 P1 K1 L0 Q0 K0 P0
          obtain ⟨u, hu⟩ : ∃ u, u = l[k] := ⟨_, rfl⟩
          rw [← hu] at LA cf
          clear hu
          by_cases hfu : (u.e.evs.length : Int) ≤ 20
          · rw [decide_eq_true hfu] at cf
            go_wp2_with (first | ((with_reducible refine load_at_gate rfl rfl Try.underlying72 rfl en_info26 ?_); (apply LoadAt.mk rfl LA.out (En.S.cells_len _); rw [En.S.cells_arr])) | (go_at_call 39; ((with_reducible refine ((cf _).out).mono ?_); rintro r w3 ⟨rfl, hb⟩; have K3 := Lib.hid (HB.out.trans (hb.mono HB.out.size)); clear hb)))
            go_roundw
            case rel => exact ⟨k + 1, by omega, by go_num, K3.out⟩
            case measure => simp [intOf]; omega
          · rw [decide_eq_false hfu] at cf
            go_wp2_with (first | ((with_reducible refine load_at_gate rfl rfl Try.underlying72 rfl en_info26 ?_); (apply LoadAt.mk rfl LA.out (En.S.cells_len _); rw [En.S.cells_arr])) | (go_at_call 39; ((with_reducible refine ((cf _).out).mono ?_); rintro r w3 ⟨rfl, hb⟩; have K3 := Lib.hid (K2.out.trans (hb.mono K2.out.size)); clear hb)) | (go_at_call 40; ((with_reducible refine ((ct _).out).mono ?_); rintro r w4 ⟨rfl, hb⟩; have K4 := Lib.hid (K3.out.trans (hb.mono K3.out.size)); clear hb)))
            go_ret
            exact ⟨rfl, K4.out⟩
        · have hk8 : ¬ (k : Int) < n := by omega
          clear hb L1 Q1 P1 K1 L0 Q0 K0 P0 cfs cfq
          have hwn : IntKind.i64.wrap ((n : Int) + 1) = n + 1 := by rw [IntKind.wrap_i64]; omega
          have hwm : IntKind.u64.wrap ((n : Int) + 1) = n + 1 := by rw [IntKind.wrap_u64]; omega
          have u0 : 0 ≤ IntKind.u64.wrap cut := by rw [IntKind.wrap_u64]; omega
          have u1 : IntKind.u64.wrap cut ≤ 18446744073709551615 := by rw [IntKind.wrap_u64]; omega
          go_upto_region 9 with fail
          obtain ⟨kk, hkk, hkm⟩ : ∃ kk : Nat, RowKit.wrap64 (IntKind.u64.wrap cut % ((n : Int) + 1)) = kk ∧ kk < n + 1 := by
            have h0 : 0 ≤ IntKind.u64.wrap cut % ((n : Int) + 1) := Int.emod_nonneg _ (by omega)
            have h1 : IntKind.u64.wrap cut % ((n : Int) + 1) < n + 1 := Int.emod_lt_of_pos _ (by omega)
            refine ⟨(IntKind.u64.wrap cut % ((n : Int) + 1)).toNat, ?_, by omega⟩
            rw [IntWalk.wrap64_in _ (by omega)]; omega
          rw [hkk]
          have hkn : kk ≤ n := by omega
          obtain ⟨i0, hi0, hz0, hz1, hz2⟩ := en_parts
          have hI := Lib.hid hi0
          have hZ := Lib.hid hz0
          have hSZ := Lib.hid hz1
          have hBY := Lib.hid hz2
          clear hkk hwn hwm u0 u1 hi0 hz0 hz1 hz2 hkm
          refine Rj.wp_region_j (by kernel_rfl) 0 8 (by kernel_rfl) (fun X => Below wr.heap.size wr X) (fun j vm _ => frV A n c kk q j vm) (fun S vm X => FrD l kk q wr.heap.size S vm X) ((Below.refl _ _).drew) (fun _ => FrD.start) (fun S vm vm' X he h => h.congr he) (fun j vm vm' X h1 h2 he hV => frV_congr hV (he j (.inl rfl))) ?_
          simp only [List.take_succ_cons, List.take_zero, List.drop_succ_cons, List.drop_zero, Nat.reduceSub]
          refine head_every (fun A' => A'.tmps.size = 93 ∧ A'.eval (.tmp 0) = .slice A n c ∧ A'.eval (.tmp 8) = .int .i64 (kk : Int) ∧ A'.eval (.tmp 5) = .pointer (some ⟨w.heap.size, 0, none⟩)) ⟨rfl, rfl, rfl, rfl⟩ ?_ ?_
          · intro A' ⟨hAs, hA0, hA8, hA5⟩
            refine ⟨?_, ?_, ?_, ?_, ?_, ?_, ?_, ?_, trivial⟩
            · intro S vm X hX hSi hS hV hD
              refine gives_val (v := .slice (some ⟨X.heap.size, 0, none⟩) 0 0) (w' := X.alloc (.cells #[] 72)) (exec_slice_en0 rfl) ⟨trivial, hX.alloc hX.size _, fun j _ _ _ _ h => h, hD.op0 hX.size hSi⟩
            · intro S vm X hX hSi hS hV hD
              refine gives_val (w' := X) (Rz.exec_move (v := .slice A n c) rfl ?_) ⟨by simp [frV, Rz.upd], hX, fun j _ _ _ _ h => h, hD.skip 1 (by omega) _⟩
              · simp only [Rz.putAll]
                rw [Rz.put_other (by decide), Rz.put_other (by decide), Rz.put_other (by decide), Rz.put_other (by decide), Rz.put_other (by decide), Rz.put_other (by decide), Rz.put_other (by decide), Rz.put_other (by decide)]
                exact hA0
            · intro S vm X hX hSi hS hV hD
              refine gives_val (w' := X) (Rz.exec_move (v := .int .i64 (kk : Int)) rfl ?_) ⟨by simp [frV, Rz.upd], hX, fun j _ _ _ _ h => h, hD.skip 2 (by omega) _⟩
              · simp only [Rz.putAll]
                rw [Rz.put_other (by decide), Rz.put_other (by decide), Rz.put_other (by decide), Rz.put_other (by decide), Rz.put_other (by decide), Rz.put_other (by decide), Rz.put_other (by decide), Rz.put_other (by decide)]
                exact hA8
            · intro S vm X hX hSi hS hV hD
              have e1 : vm 1 = .slice A n c := hV 1 (by omega) (by omega) (hS 1 (by omega) (by omega) (by kernel_rfl))
              have e2 : vm 2 = .int .i64 (kk : Int) := hV 2 (by omega) (by omega) (hS 2 (by omega) (by omega) (by kernel_rfl))
              refine gives_val (w' := X) (v := .slice A kk c) (exec_slice_to (len := n) (n := kk) rfl ?_ ?_ Try.underlying85 en_info (by omega)) ⟨by simp [frV, Rz.upd], hX, fun j _ _ _ _ h => h, hD.skip 3 (by omega) _⟩
              · simp only [Rz.putAll]
                rw [Rz.put_other (by decide), Rz.put_other (by decide), Rz.put_other (by decide), Rz.put_other (by decide), Rz.put_other (by decide), Rz.put_other (by decide), Rz.put_same (by simp only [Rz.put_size, hAs]; decide)]
                exact e1
              · simp only [Rz.putAll]
                rw [Rz.put_other (by decide), Rz.put_other (by decide), Rz.put_other (by decide), Rz.put_other (by decide), Rz.put_other (by decide), Rz.put_same (by simp only [Rz.put_size, hAs]; decide)]
                exact e2
            · intro S vm X hX hSi hS hV hD
              have e3 : vm 3 = .slice A kk c := hV 3 (by omega) (by omega) (hS 3 (by omega) (by omega) (by kernel_rfl))
              have s0 := hS 0 (by omega) (by omega) (by kernel_rfl)
              have hlies := ((L2.out.take kk hkn).row.below hX).wider hX.size
              refine gives_append (t := 85) (size := 26) (bytes := 56) (v := vm 0) (base := wr.heap.size) (n := 0) (xs := []) (A := A) (m := kk) (c := c) (news := En.sCells (l.take kk)) rfl ?_ ?_ Try.underlying85 hI.out hZ.out hSZ.out hBY.out En.zeroC_size (by decide) (hD.a0 s0 hSi) hlies (En.sCells_one _) (by unfold maxLen; omega) (by omega) hX.size ?_
              · simp only [Rz.putAll]
                rw [Rz.put_other (by decide), Rz.put_other (by decide), Rz.put_other (by decide), Rz.put_other (by decide), Rz.put_other (by decide), Rz.put_other (by decide), Rz.put_other (by decide), Rz.put_same (by simp only [Rz.put_size, hAs]; decide)]
              · simp only [Rz.putAll]
                rw [Rz.put_other (by decide), Rz.put_other (by decide), Rz.put_other (by decide), Rz.put_other (by decide), Rz.put_same (by simp only [Rz.put_size, hAs]; decide)]
                exact e3
              · intro A5 c5 w5 ho5 hg5 hn5
                simp only [Nat.zero_add, List.nil_append] at ho5 hn5 ⊢
                exact ⟨trivial, below_grew hX hg5 (own_from (hD.a0 s0 hSi)) (Nat.le_refl _), fun j _ _ _ _ h => h, hD.op4 hSi s0 ho5 hg5 hn5⟩
            · intro S vm X hX hSi hS hV hD
              refine gives_val (w' := X) (exec_load_en (e := q.e) (s := q.sl) (B := w.heap.size) rfl ?_ (P2.out.below hX P2.out.lt)) ⟨by simp [frV, Rz.upd], hX, fun j _ _ _ _ h => h, hD.skip 5 (by omega) _⟩
              · simp only [Rz.putAll]
                rw [Rz.put_other (by decide), Rz.put_other (by decide), Rz.put_other (by decide), Rz.put_other (by decide), Rz.put_other (by decide), Rz.put_other (by decide), Rz.put_other (by decide), Rz.put_other (by decide)]
                exact hA5
            · intro S vm X hX hSi hS hV hD
              have e5 : vm 5 = .agg (En.cells q.e q.sl) := hV 5 (by omega) (by omega) (hS 5 (by omega) (by omega) (by kernel_rfl))
              refine gives_val (v := .slice (some ⟨X.heap.size, 0, none⟩) 1 1) (w' := X.alloc (.cells (En.cells q.e q.sl) 72)) (exec_slice_en (e := q.e) (s := q.sl) rfl ?_) ⟨trivial, hX.alloc hX.size _, fun j _ _ _ _ h => h, hD.op6⟩
              · simp only [Rz.putAll]
                rw [Rz.put_other (by decide), Rz.put_other (by decide), Rz.put_same (by simp only [Rz.put_size, hAs]; decide)]
                exact e5
            · intro S vm X hX hSi hS hV hD
              have s4 := hS 4 (by omega) (by omega) (by kernel_rfl)
              have s6 := hS 6 (by omega) (by omega) (by kernel_rfl)
              obtain ⟨Y, e6, hY, _, hne⟩ := hD.a6 s6 hSi
              have hlies := Lies.boxed (n := 1) (size := 26) (xs := q.cells) (by rw [En.S.cells_arr]; exact hY) (by rw [En.S.cells_len])
              refine gives_append (t := 85) (size := 26) (bytes := 56) (v := vm 4) (base := wr.heap.size) (n := kk) (xs := En.sCells (l.take kk)) (A := some ⟨Y, 0, none⟩) (m := 1) (c := 1) (news := q.cells) rfl ?_ ?_ Try.underlying85 hI.out hZ.out hSZ.out hBY.out En.zeroC_size (by decide) (hD.a4 s4 hSi) hlies (by have := En.sCells_one [q]; unfold En.sCells at this; simpa using this) (by unfold maxLen; omega) (by omega) hX.size ?_
              · simp only [Rz.putAll]
                rw [Rz.put_other (by decide), Rz.put_other (by decide), Rz.put_other (by decide), Rz.put_same (by simp only [Rz.put_size, hAs]; decide)]
              · simp only [Rz.putAll]
                rw [Rz.put_other (by decide), Rz.put_same (by simp only [Rz.put_size, hAs]; decide)]
                exact e6
              · intro A5 c5 w5 ho5 hg5 hn5
                rw [En.sCells_take_one] at ho5
                exact ⟨trivial, below_grew hX hg5 (own_from (hD.a4 s4 hSi)) (Nat.le_refl _), fun j _ _ _ _ h => h, hD.op7 hSi s4 ho5⟩
          · intro S vm X hX hS hV hD
            have own9 := hD.a7 (hS 7 (by omega) (by omega))
            obtain ⟨A9, c9, e9⟩ := owned_slice own9
            rw [e9] at own9
            have hLm := Lies.owned own9
            have hX9 := (hX : Below wr.heap.size wr X)
            have P3 := Lib.hid (P2.out.below hX9 P2.out.lt)
            have K3 := Lib.hid (K2.out.trans (hX9.mono K2.out.size))
            have L3 := Lib.hid ((L2.out.below hX9).wider hX9.size)
            have Q3 := Lib.hid ((Q2.out.below hX9).wider hX9.size)
            have hkl : kk ≤ l.length := by have := HN.out; omega
            have M3 := Lib.hid (LiesS.snoc (q := q) hkl hLm L3.out.each L3.out.few Q3.out hq63)
            have hc9 : kk + 1 ≤ c9 := own_cap own9
            clear hS hV hD own9 hLm hX9 hX P2 K2 L2 Q2 hI hZ hSZ hBY
            simp only [Rz.putAll, Nat.reduceAdd, e9]
            generalize vm 0 = v0
            generalize vm 1 = v1
            generalize vm 2 = v2
            generalize vm 3 = v3
            generalize vm 4 = v4
            generalize vm 5 = v5
            generalize vm 6 = v6
            clear e9
            simp only [Act.put, List.setIfInBounds_toArray, List.set_cons_succ, List.set_cons_zero]
            have hsl := fun W => run_slice_to (P := Try.prog) (t := 85) A n c kk Try.underlying85 en_info (by omega) W
            have f1 := En.front_self l
            have f2 := En.front_cut hkl
            have f3 := En.front_back hkl
            rw [← HN.out] at f3
            have ca := fun X' (h : Below X.heap.size X X') => Lib.hid (front_any l l A A n n c c X' hl63 hl63 hlc ((L3.out.below h).wider h.size) ((L3.out.below h).wider h.size))
            have cb := fun X' (h : Below X.heap.size X X') => Lib.hid (front_any (l.take kk) l A A kk n c c X' (by omega) hl63 hlc (((L3.out.below h).wider h.size).take kk hkn) ((L3.out.below h).wider h.size))
            have cc := fun X' (h : Below X.heap.size X X') => Lib.hid (front_any l (l.take kk) A A n kk c c X' hl63 (by omega) (by omega) ((L3.out.below h).wider h.size) (((L3.out.below h).wider h.size).take kk hkn))
            have cd := fun X' (h : Below X.heap.size X X') => Lib.hid (front_any (l.take kk ++ [q]) l A9 A (kk + 1) n c9 c X' (by unfold maxLen; omega) hl63 hlc ((M3.out.below h).wider h.size) ((L3.out.below h).wider h.size))
            rw [f1] at ca
            rw [f2] at cb
            rw [f3] at cc
            have hwk : IntKind.i64.wrap ((kk : Int) + 1) = ((kk + 1 : Nat) : Int) := by rw [IntKind.wrap_i64]; omega
            clear f1 f2 f3
            by_cases hkn2 : kk < n
            · have hkl2 : kk < l.length := by have := HN.out; omega
              have f4 := En.front_turn hkl2 q
              rw [f4] at cd
              have hk9 : (kk : Int) < n := by omega
              have hkne : ((kk : Int) == n) = false := by simp; omega
              have hdne : decide (kk = n) = false := decide_eq_false (by omega)
              rw [hdne] at cc
              obtain ⟨ad, rfl, hbl, a0⟩ := L3.out.at kk hkl2
              have u64 := L3.out.few l[kk] (List.getElem_mem hkl2)
              have ul := L3.out.each l[kk] (List.getElem_mem hkl2)
              generalize l[kk] = u at cd a0 u64 ul
              have csm := fun X' (h : Below X.heap.size X X') => Lib.hid (refsame_any u q X' u64 hq63 ((ul.below h).wider h.size) ((Q3.out.below h).wider h.size))
              generalize En.likeB u.e q.e = lb at cd csm
              have ZT := Lib.hid (fun z : Ext X.heap.size X => P3.out.below z.h P3.out.lt)
              have ZA := Lib.hid (fun (z : Ext X.heap.size X) j v (hv : u.cells[j]? = some v) => (World.cell?_of_block (w := X) (w' := z.w) (by rw [add_block, add_block]; exact z.h.block _ hbl)).trans (a0 j v hv))
              have CSM := Lib.hid (fun z : Ext X.heap.size X => (csm z.w z.h).out)
              clear a0 csm f4 hkn2 hbl
              go_upto_region 10 with fail
              refine wp_region_ext X.heap.size X (by kernel_rfl) (by kernel_rfl) (Below.refl _ _) ?_
              repeat (first | (go_big_quiet_want; (first | (refine quiet_en rfl rfl ZT.out ?_) | (refine quiet_at rfl rfl ZA.out ?_)); simp only [Act.put, List.setIfInBounds_toArray, List.set_cons_succ, List.set_cons_zero]; go_big_quiet_on) | go_big_quiet_step ((go_at_call 47; with_reducible exact Calls.ext_of (Nat.le_refl _) (CSM.out _))))
              refine wpQuiet_nil ?_
              intro _ hw'
              obtain ⟨z, hw''⟩ := hw'
              subst hw''
              have J4 := Lib.hid z.h
              clear ZT ZA CSM P3 L3 Q3 M3
              go_wp2_with (first | (go_at_call 40; ((with_reducible refine ((ct _).out).mono ?_); rintro r w5 ⟨rfl, hb⟩; have J5 := Lib.hid (J4.out.trans (hb.mono J4.out.size)); clear hb)) | (go_at_call 49; first | ((with_reducible refine (((ca _ J5.out).out).mono ?_)); rintro r w6 ⟨rfl, hb⟩; have J6 := Lib.hid (J5.out.trans (hb.mono J5.out.size)); clear hb ca) | ((with_reducible refine (((cb _ J6.out).out).mono ?_)); rintro r w7 ⟨rfl, hb⟩; have J7 := Lib.hid (J6.out.trans (hb.mono J6.out.size)); clear hb cb) | ((with_reducible refine (((cc _ J7.out).out).mono ?_)); rintro r w8 ⟨rfl, hb⟩; have J8 := Lib.hid (J7.out.trans (hb.mono J7.out.size)); clear hb cc) | ((with_reducible refine (((cd _ J8.out).out).mono ?_)); rintro r w9 ⟨rfl, hb⟩; have J9 := Lib.hid (J8.out.trans (hb.mono J8.out.size)); clear hb cd)))
              go_ret
              exact ⟨ret_bool (by simp), K3.out.trans (J9.out.mono K3.out.size)⟩
            · obtain rfl : kk = n := by omega
              have e0 : l.take kk = l := List.take_of_length_le (by have := HN.out; omega)
              have f4 : En.frontB (l.take kk ++ [q]) l = false := by rw [e0]; exact En.front_over q
              rw [f4] at cd
              have hk9 : ¬ (kk : Int) < kk := by omega
              have hkne : ((kk : Int) == kk) = true := by simp
              have hdne : decide (kk = kk) = true := decide_eq_true rfl
              rw [hdne] at cc
              clear f4
              go_upto_region 10 with fail
              refine wp_region_ext X.heap.size X (by kernel_rfl) (by kernel_rfl) (Below.refl _ _) ?_
              repeat (go_big_quiet_step (fail))
              refine wpQuiet_nil ?_
              intro _ hw'
              obtain ⟨z, hw''⟩ := hw'
              subst hw''
              have J4 := Lib.hid z.h
              clear P3 L3 Q3 M3
              go_wp2_with (first | (go_at_call 40; ((with_reducible refine ((ct _).out).mono ?_); rintro r w5 ⟨rfl, hb⟩; have J5 := Lib.hid (J4.out.trans (hb.mono J4.out.size)); clear hb)) | (go_at_call 49; first | ((with_reducible refine (((ca _ J5.out).out).mono ?_)); rintro r w6 ⟨rfl, hb⟩; have J6 := Lib.hid (J5.out.trans (hb.mono J5.out.size)); clear hb ca) | ((with_reducible refine (((cb _ J6.out).out).mono ?_)); rintro r w7 ⟨rfl, hb⟩; have J7 := Lib.hid (J6.out.trans (hb.mono J6.out.size)); clear hb cb) | ((with_reducible refine (((cc _ J7.out).out).mono ?_)); rintro r w8 ⟨rfl, hb⟩; have J8 := Lib.hid (J7.out.trans (hb.mono J7.out.size)); clear hb cc) | ((with_reducible refine (((cd _ J8.out).out).mono ?_)); rintro r w9 ⟨rfl, hb⟩; have J9 := Lib.hid (J8.out.trans (hb.mono J8.out.size)); clear hb cd)))
              go_ret
              exact ⟨ret_bool (by simp), K3.out.trans (J9.out.mono K3.out.size)⟩
    · have cf2 : decide ((q.e.evs.length : Int) ≤ 20) = false := decide_eq_false hf
      rw [cf2] at cfq
      go_enter Try.func12, Try.ntmps12
      go_wp2_with (first | ((with_reducible refine en_load_g ?_ rfl ?_); (focus first | rfl | kernel_rfl | simp [Region.wanted, yielded]); apply LoadEn.mk rfl; (focus (with_reducible exact P0.out)); dsimp only) | (go_at_call 39; ((with_reducible refine ((cfq _).out).mono ?_); rintro r w1 ⟨rfl, hb⟩; have K1 := Lib.hid (K0.out.trans (hb.mono K0.out.size)); clear hb)) | (go_at_call 40; ((with_reducible refine ((ct _).out).mono ?_); rintro r w2 ⟨rfl, hb⟩; have K2 := Lib.hid (K1.out.trans (hb.mono K1.out.size)); clear hb)))
      go_ret
      exact ⟨rfl, K2.out⟩
  · have h10 : decide (10 < (n : Int)) = true := decide_eq_true (by omega)
    go_enter Try.func12, Try.ntmps12
    go_wp2_with (go_at_call 40; ((with_reducible refine ((ct _).out).mono ?_); rintro r w2 ⟨rfl, hb⟩; have K2 := Lib.hid (K0.out.trans (hb.mono K0.out.size)); clear hb))
    go_ret
    exact ⟨rfl, K2.out⟩
end Go.Proofs.Ytbihnmingedgfaa
