/-
ImageLong: how many bytes an image has.
-/
import Derived.Test.YtbihnmingedgfaaIt
namespace Im
open Go
def cnt (f : Nat → Gm.Ship) : Nat → Nat
  | 0 => 0
  | k + 1 => cnt f k + (if (f k).on = true then 1 else 0)
theorem cnt_le (f : Nat → Gm.Ship) : ∀ k, cnt f k ≤ k
  | 0 => Nat.le_refl _
  | k + 1 => by unfold cnt; have := cnt_le f k; split <;> omega
end Im
namespace Go.Proofs.Ytbihnmingedgfaa
open Go.RowKit Go.Shelf
set_option linter.unusedVariables false
set_option linter.unusedSimpArgs false

theorem Im.ships_cnt (f : Nat → Gm.Ship) : ∀ k, (Im.ships f k).length = k + 21 * Im.cnt f k
  | 0 => rfl
  | k + 1 => by
    show (Im.ships f k ++ Im.ship (f k)).length = _
    have e : Im.cnt f (k + 1) = Im.cnt f k + (if (f k).on = true then 1 else 0) := rfl
    rw [List.length_append, Im.ships_cnt f k, Im.ship_len, e]
    by_cases h : (f k).on = true
    · rw [if_pos h, if_pos h]; omega
    · rw [if_neg h, if_neg h]; omega
theorem Im.put_len (g : Gm.G) (r : Ros.R) : (Im.put g r).length = 49 + 18 * g.shots.length + 21 * Im.cnt g.ship 8 := by
  have e2 := Im.shots_len g.shots
  have e3 := Im.seats_len r 8
  have e1 := Im.ships_cnt g.ship 8
  unfold Im.put
  simp only [List.length_append, Im.bytesOf_len, e1, e2, e3]
  omega

set_option maxRecDepth 100000 in
set_option maxHeartbeats 2000000 in
theorem long_law (g : Gm.G) (r : Ros.R) (A : Option Addr) (n c : Nat) (w : World) (hty : Gm.ty g) (hn : n = g.shots.length) (hn63 : n ≤ maxLen) (hr : Lies w w.heap.size 6 A n (Gm.shotCells g.shots)) :
    Calls Try.prog 7 #[.agg (Im.cells g (.slice A n c) r)] w fun e w' => e = .returned (.bool true) ∧ Below w.heap.size w w' := by
  have P0 := Lib.hid (Box.made w 53 (Im.cells g (.slice A n c) r))
  have K0 := Lib.hid (one_below w (.cells (Im.cells g (.slice A n c) r) 53))
  have hr0 := (hr.below K0.out).wider K0.out.size
  have ct := fun X => Lib.hid (told7_any X)
  by_cases hok : Im.Ok g r
  · have hm := Im.put_len g r
    have hn32 : n ≤ 32 := by rw [hn]; exact hok.1.2.2.1
    have hcl := Im.cnt_le g.ship 8
    rw [← hn] at hm
    have cp := Lib.hid (put_yes g r A n c _ hok hty.2.1 hn hr0)
    generalize (Im.put g r).length = m at hm cp
    generalize Im.put g r = bs at cp
    have c58 := (P0.out.cell 58).trans ((Im.cells_g _ _ _ 58 (by omega)).trans (Gm.cells_58 _ _))
    have HM := Lib.hid hm
    have HC := Lib.hid hcl
    clear hr hr0 hn hty hok hm hcl hn63 c58
    go_enter Try.func7, Try.ntmps7
    go_wp2_with (first | ((with_reducible refine im_load_state rfl rfl ?_); apply LoadIm.mk rfl; (focus (with_reducible exact P0.out)); dsimp only) | (go_at_call 29; ((with_reducible refine (cp.out).mono ?_); rintro e w1 ⟨A1, c1, rfl, _, hb⟩; have P1 := Lib.hid (P0.out.below hb P0.out.lt); have K1 := Lib.hid (K0.out.trans (hb.mono K0.out.size)); have c58 := (P1.out.cell 58).trans ((Im.cells_g _ _ _ 58 (by omega)).trans (Gm.cells_58 _ _)); clear hb cp)))
    go_loopw [5, 6] (fun l i wr => ∃ k : Nat, k ≤ 8 ∧ i = .int .i64 k ∧ l = .int .i64 (49 + 18 * (n : Int) + 21 * (Im.cnt g.ship k : Int)) ∧ w1 = wr) (fun _ i _ => 8 - (intOf i).toNat)
    case atStart => exact ⟨0, by omega, rfl, by simp [Im.cnt], rfl⟩
    case round =>
      obtain ⟨k, hk, rfl, rfl, rfl⟩ := hrel
      by_cases hlt : k < 8
      · have hk8 : (k : Int) < 8 := by omega
        have e0 := (P1.out.cell (2 + k * 7)).trans (Im.cells_ship g _ r k 0 hlt (by omega))
        simp only [Gm.Ship.cells, List.getElem?_toArray, List.getElem?_cons_zero, Nat.add_zero] at e0
        have hkl := Im.cnt_le g.ship k
        have hstep : Im.cnt g.ship (k + 1) = Im.cnt g.ship k + (if (g.ship k).on = true then 1 else 0) := rfl
        obtain ⟨on, hon⟩ : ∃ on, on = (g.ship k).on := ⟨_, rfl⟩
        obtain ⟨q, hq⟩ : ∃ q, q = Im.cnt g.ship k := ⟨_, rfl⟩
        rw [← hon] at e0 hstep
        rw [← hq] at hkl hstep ⊢
        have HT := Lib.hid hstep
        clear hon hq hstep
        cases on
        · go_wp2
          go_roundw
          case rel => exact ⟨k + 1, by omega, by go_num, by rw [HT.out]; simp, by first | rfl | trivial⟩
          case measure => simp [intOf]; omega
        · go_wp2
          go_roundw
          case rel => exact ⟨k + 1, by omega, by go_num, by rw [HT.out]; simp; omega, by first | rfl | trivial⟩
          case measure => simp [intOf]; omega
      · have hk8 : ¬ (k : Int) < 8 := by omega
        obtain rfl : k = 8 := by omega
        have hcl := HC.out
        have hmi : (m : Int) = 49 + 18 * (n : Int) + 21 * (Im.cnt g.ship 8 : Int) := by have := HM.out; omega
        have hle : 49 + 18 * (n : Int) + 21 * (Im.cnt g.ship 8 : Int) ≤ 793 := by omega
        obtain ⟨L, hL⟩ : ∃ L, L = 49 + 18 * (n : Int) + 21 * (Im.cnt g.ship 8 : Int) := ⟨_, rfl⟩
        rw [← hL] at hmi hle ⊢
        have HMI := Lib.hid hmi
        clear hL hmi hcl
        go_wp2_with (go_at_call 28; ((with_reducible refine ((ct _).out).mono ?_); rintro e w2 ⟨rfl, hb⟩; have K2 := Lib.hid (K1.out.trans (hb.mono K1.out.size)); clear hb))
        go_ret
        exact ⟨ret_bool (by simp [HMI.out]), K2.out⟩
  · have cp := Lib.hid (put_no g r A n c _ hok hty hn hn63 hr0)
    clear hr hr0 hn hty hok
    go_enter Try.func7, Try.ntmps7
    go_wp2_with (first | ((with_reducible refine im_load_state rfl rfl ?_); apply LoadIm.mk rfl; (focus (with_reducible exact P0.out)); dsimp only) | (go_at_call 29; ((with_reducible refine (cp.out).mono ?_); rintro e w1 ⟨rfl, hb⟩; have K1 := Lib.hid (K0.out.trans (hb.mono K0.out.size)); clear hb)) | (go_at_call 28; ((with_reducible refine ((ct _).out).mono ?_); rintro e w2 ⟨rfl, hb⟩; have K2 := Lib.hid (K1.out.trans (hb.mono K1.out.size)); clear hb)))
    go_ret
    exact ⟨ret_bool (by simp), K2.out⟩
end Go.Proofs.Ytbihnmingedgfaa
