/-
The document's answer: which states may be; few shots.
-/
import Derived.Test.YtbihnmingedgfaaIj
import Derived.Test.YtbihnmingedgfaaI3
import Derived.Test.YtbihnmingedgfaaI4
namespace Go.Proofs.Ytbihnmingedgfaa
open Go.RowKit Go.Shelf
set_option linter.unusedVariables false
set_option linter.unusedSimpArgs false

set_option maxRecDepth 100000 in
set_option maxHeartbeats 4000000 in
theorem refstate_any (g : Gm.G) (r : Ros.R) (A : Option Addr) (n c : Nat) (w : World) (hty : Gm.ty g) (hn : n = g.shots.length) (hn63 : n ≤ maxLen) (hr : Lies w w.heap.size 6 A n (Gm.shotCells g.shots)) :
    Calls Try.prog 30 #[.agg (Im.cells g (.slice A n c) r)] w fun e w' => (∃ v, e = .returned (.bool v) ∧ (v = true ↔ Im.Ok g r)) ∧ Below w.heap.size w w' := by
  have P0 := Lib.hid (Box.made w 53 (Im.cells g (.slice A n c) r))
  have K0 := Lib.hid (one_below w (.cells (Im.cells g (.slice A n c) r) 53))
  have HQ := Lib.hid ((hr.below K0.out).wider K0.out.size)
  have cg := fun X hX => Lib.hid (refmay_any g A n c X hty hn hn63 hX)
  have cr := fun X => Lib.hid (refros_may r X)
  clear hr hn hty hn63
  by_cases hg : Gm.ok g
  · have HG := Lib.hid hg
    by_cases hok : Ros.Ok r
    · have HR := Lib.hid hok
      clear hg hok
      go_enter Try.func30, Try.ntmps30
      go_wp2_with (first | ((with_reducible refine im_load_game rfl rfl ?_); apply LoadIm.mk rfl; (focus (with_reducible exact P0.out)); dsimp only) | ((with_reducible refine im_load_ros_g ?_ rfl ?_); (focus first | rfl | kernel_rfl | simp [Region.wanted, yielded]); apply LoadIm.mk rfl; (focus (with_reducible exact P1.out)); dsimp only) | (go_at_call 56; ((with_reducible refine ((cg _ HQ.out).out).mono ?_); rintro e w1 ⟨⟨v1, rfl, hv1⟩, hb⟩; obtain rfl : v1 = true := hv1.2 HG.out; have P1 := Lib.hid (P0.out.below hb P0.out.lt); have K1 := Lib.hid (K0.out.trans (hb.mono K0.out.size)); clear hb hv1)) | (go_at_call 80; ((with_reducible refine ((cr _).out).mono ?_); rintro e w2 ⟨⟨v2, rfl, hv2⟩, hb⟩; obtain rfl : v2 = true := hv2.2 HR.out; have P2 := Lib.hid (P1.out.below hb P1.out.lt); have K2 := Lib.hid (K1.out.trans (hb.mono K1.out.size)); clear hb hv2)))
      go_loopw [3] (fun i wr => ∃ k : Nat, k ≤ 8 ∧ i = .int .i64 k ∧ Box wr w.heap.size 53 (Im.cells g (.slice A n c) r) ∧ Below w.heap.size w wr ∧ ∀ j, j < k → (g.ship j).on = decide (0 ≤ r.peer j)) (fun i _ => 8 - (intOf i).toNat)
      case atStart => exact ⟨0, by omega, rfl, P2.out, K2.out, fun j hj => absurd hj (Nat.not_lt_zero j)⟩
      case round =>
        obtain ⟨k, hk, rfl, hB, hb, hall⟩ := hrel
        clear P0 K0 P1 K1 P2 K2 HQ cg cr
        by_cases hlt : k < 8
        · have hk8 : (k : Int) < 8 := by omega
          have e0 : wr.cell? ⟨w.heap.size, 2 + k * 7, none⟩ = some (.bool (g.ship k).on) := (hB.cell _).trans ((Im.cells_ship g _ r k 0 hlt (by omega)).trans rfl)
          have e1 : wr.cell? ⟨w.heap.size, 60 + k * 2, none⟩ = some (.int .i64 (r.peer k)) := (hB.cell _).trans (by
            have := Im.cells_r g (.slice A n c) r (1 + k * 2)
            rw [show 60 + k * 2 = 59 + (1 + k * 2) by omega]
            exact this.trans (Ros.cells_peer r k hlt))
          obtain ⟨on, hon⟩ : ∃ on, on = (g.ship k).on := ⟨_, rfl⟩
          obtain ⟨pk, hpk⟩ : ∃ pk, pk = r.peer k := ⟨_, rfl⟩
          rw [← hon] at e0
          rw [← hpk] at e1
          have HON := Lib.hid hon
          have HPK := Lib.hid hpk
          have HALL := Lib.hid hall
          have HB := Lib.hid hB
          have HBB := Lib.hid hb
          clear hon hpk hall hB hb
          by_cases hm : on = decide (0 ≤ pk)
          · have hnew := Lib.hid (show ∀ j, j < k + 1 → (g.ship j).on = decide (0 ≤ r.peer j) from fun j hj => by
              by_cases e : j = k
              · rw [e, ← HON.out, ← HPK.out]; exact hm
              · exact HALL.out j (by omega))
            cases hd : decide (0 ≤ pk)
            · rw [hd] at hm
              subst hm
              go_upto_region 6 with fail
              go_quiet (fail)
              go_wp2
              go_roundw
              case rel => exact ⟨k + 1, by omega, by go_num, HB.out.draws _, draws_below HBB.out _, hnew.out⟩
              case measure => simp [intOf]; omega
            · rw [hd] at hm
              subst hm
              go_upto_region 6 with fail
              go_quiet (fail)
              go_wp2
              go_roundw
              case rel => exact ⟨k + 1, by omega, by go_num, HB.out.draws _, draws_below HBB.out _, hnew.out⟩
              case measure => simp [intOf]; omega
          · have hno := Lib.hid (show ¬ Im.Ok g r from fun h => hm (by rw [HON.out, HPK.out]; exact h.2.2 k hlt))
            cases hd : decide (0 ≤ pk)
            · obtain rfl : on = true := by
                cases on
                · exact absurd hd.symm hm
                · rfl
              clear hm
              go_upto_region 6 with fail
              go_quiet (fail)
              go_wp2
              go_ret
              exact ⟨by first | exact ⟨false, rfl, by simp; exact hno.out⟩ | exact .inl ⟨rfl, hno.out⟩, draws_below HBB.out _⟩
            · obtain rfl : on = false := by
                cases on
                · rfl
                · exact absurd hd.symm hm
              clear hm
              go_upto_region 6 with fail
              go_quiet (fail)
              go_wp2
              go_ret
              exact ⟨by first | exact ⟨false, rfl, by simp; exact hno.out⟩ | exact .inl ⟨rfl, hno.out⟩, draws_below HBB.out _⟩
        · have hk8 : ¬ (k : Int) < 8 := by omega
          have hyes := Lib.hid (show Im.Ok g r from ⟨HG.out, HR.out, fun j hj => hall j (by omega)⟩)
          have HBB := Lib.hid hb
          clear hall hB hb
          go_wp2
          go_ret
          exact ⟨by first | exact ⟨true, rfl, by simp; exact hyes.out⟩ | exact .inr ⟨rfl, hyes.out⟩, HBB.out⟩
    · have HR := Lib.hid hok
      have hno := Lib.hid (show ¬ Im.Ok g r from fun h => hok h.2.1)
      clear hg hok
      go_enter Try.func30, Try.ntmps30
      go_wp2_with (first | ((with_reducible refine im_load_game rfl rfl ?_); apply LoadIm.mk rfl; (focus (with_reducible exact P0.out)); dsimp only) | ((with_reducible refine im_load_ros_g ?_ rfl ?_); (focus first | rfl | kernel_rfl | simp [Region.wanted, yielded]); apply LoadIm.mk rfl; (focus (with_reducible exact P1.out)); dsimp only) | (go_at_call 56; ((with_reducible refine ((cg _ HQ.out).out).mono ?_); rintro e w1 ⟨⟨v1, rfl, hv1⟩, hb⟩; obtain rfl : v1 = true := hv1.2 HG.out; have P1 := Lib.hid (P0.out.below hb P0.out.lt); have K1 := Lib.hid (K0.out.trans (hb.mono K0.out.size)); clear hb hv1)) | (go_at_call 80; ((with_reducible refine ((cr _).out).mono ?_); rintro e w2 ⟨⟨v2, rfl, hv2⟩, hb⟩; obtain rfl : v2 = false := (by cases v2 <;> first | rfl | exact absurd (hv2.1 rfl) HR.out); have P2 := Lib.hid (P1.out.below hb P1.out.lt); have K2 := Lib.hid (K1.out.trans (hb.mono K1.out.size)); clear hb hv2)))
      go_ret
      exact ⟨by first | exact ⟨false, rfl, by simp; exact hno.out⟩ | exact .inl ⟨rfl, hno.out⟩, K2.out⟩
  · have HG := Lib.hid hg
    have hno := Lib.hid (show ¬ Im.Ok g r from fun h => hg h.1)
    have HR := Lib.hid True.intro
    clear hg
    go_enter Try.func30, Try.ntmps30
    go_wp2_with (first | ((with_reducible refine im_load_game rfl rfl ?_); apply LoadIm.mk rfl; (focus (with_reducible exact P0.out)); dsimp only) | ((with_reducible refine im_load_ros_g ?_ rfl ?_); (focus first | rfl | kernel_rfl | simp [Region.wanted, yielded]); apply LoadIm.mk rfl; (focus (with_reducible exact P1.out)); dsimp only) | (go_at_call 56; ((with_reducible refine ((cg _ HQ.out).out).mono ?_); rintro e w1 ⟨⟨v1, rfl, hv1⟩, hb⟩; obtain rfl : v1 = false := (by cases v1 <;> first | rfl | exact absurd (hv1.1 rfl) HG.out); have P1 := Lib.hid (P0.out.below hb P0.out.lt); have K1 := Lib.hid (K0.out.trans (hb.mono K0.out.size)); clear hb hv1)) | (go_at_call 80; ((with_reducible refine ((cr _).out).mono ?_); rintro e w2 ⟨⟨v2, rfl, hv2⟩, hb⟩; obtain rfl : v2 = false := (by cases v2 <;> first | rfl | exact absurd (hv2.1 rfl) HR.out); have P2 := Lib.hid (P1.out.below hb P1.out.lt); have K2 := Lib.hid (K1.out.trans (hb.mono K1.out.size)); clear hb hv2)))
    go_ret
    exact ⟨by first | exact ⟨false, rfl, by simp; exact hno.out⟩ | exact .inl ⟨rfl, hno.out⟩, K1.out⟩

theorem few_any (g : Gm.G) (A : Option Addr) (n c : Nat) (w : World) (hn63 : n ≤ maxLen) :
    Calls Try.prog 27 #[.agg (Gm.cells g (.slice A n c))] w fun e w' => e = .returned (.bool (decide (n ≤ 60))) ∧ Below w.heap.size w w' := by
  have hc : ∀ W : World, ∀ j, (W.alloc (.cells (Gm.cells g (.slice A n c)) 30)).cell? ⟨W.heap.size, j, none⟩ = (Gm.cells g (.slice A n c))[j]? := fun W j => (Box.made W _ _).cell j
  have h58 := Gm.cells_58 g (.slice A n c)
  have n63 : (n : Int) ≤ 9223372036854775807 := by unfold maxLen at hn63; omega
  have hd : decide (n ≤ 60) = decide ((n : Int) ≤ 60) := by rw [Bool.eq_iff_iff]; simp; omega
  rw [hd]
  go_enter Try.func27, Try.ntmps27
  go_wp2
  go_ret
  exact ⟨rfl, one_below _ _⟩
end Go.Proofs.Ytbihnmingedgfaa
