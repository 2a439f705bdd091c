/-
SerialRuns: the walk.
-/
import Derived.Test.YtgjkodbigdgdmaaVh
namespace Sr
/-- After i numbers one behind the other. -/
def run (f : Int) (i : Nat) : H := if i = 0 then none else ⟨true, (f + ((i : Int) - 1)) % 65536, 2 ^ min (i - 1) 32 - 1⟩
theorem run_succ (f : Int) (i : Nat) : run f (i + 1) = ⟨true, (f + (i : Int)) % 65536, 2 ^ min i 32 - 1⟩ := by
  unfold run
  rw [if_neg (by omega), show ((i + 1 : Nat) : Int) - 1 = i by omega, Nat.add_sub_cancel]
theorem ones_lt (i : Nat) : 2 ^ min i 32 - 1 < 4294967296 := by
  have : (2 : Nat) ^ min i 32 ≤ 2 ^ 32 := Nat.pow_le_pow_right (by decide) (Nat.min_le_right _ _)
  omega
theorem run_ok (f : Int) (i : Nat) : (run f i).Ok := by
  cases i with
  | zero => exact none_ok
  | succ i => rw [run_succ]; exact ⟨by dsimp only; omega, ones_lt i⟩
theorem ones_up (i : Nat) : up (2 ^ min i 32 - 1) 1 = 2 ^ min (i + 1) 32 - 1 := by
  apply Nat.eq_of_testBit_eq
  intro j
  rw [up_test _ _ (by decide), Nat.testBit_two_pow_sub_one, Nat.testBit_two_pow_sub_one, Bool.eq_iff_iff]
  simp only [Bool.and_eq_true, Bool.or_eq_true, decide_eq_true_iff]
  have : (1 : Int).toNat = 1 := rfl
  omega
theorem run_new (f : Int) (i : Nat) (hi : i ≤ 200) : fresh (run f i) ((f + (i : Int)) % 65536) = true ∧ note (run f i) ((f + (i : Int)) % 65536) = run f (i + 1) := by
  cases i with
  | zero => rw [run_succ]; exact ⟨rfl, rfl⟩
  | succ i =>
    rw [run_succ, run_succ]
    have hw : way ((f + (i : Int)) % 65536) ((f + ((i + 1 : Nat) : Int)) % 65536) = 1 := way_unique (by omega) (by decide)
    obtain ⟨h1, h2⟩ := note_ahead (h := ⟨true, (f + (i : Int)) % 65536, 2 ^ min i 32 - 1⟩) rfl (s := (f + ((i + 1 : Nat) : Int)) % 65536) (by rw [hw]; decide)
    refine ⟨h1, ?_⟩
    rw [h2, hw, ones_up]
theorem run_old (f : Int) (i : Nat) : fresh (run f (i + 1)) ((f + (i : Int)) % 65536) = false ∧ note (run f (i + 1)) ((f + (i : Int)) % 65536) = run f (i + 1) := by
  rw [run_succ]
  have hw : way ((f + (i : Int)) % 65536) ((f + (i : Int)) % 65536) = 0 := way_unique (by omega) (by decide)
  exact note_old (h := ⟨true, (f + (i : Int)) % 65536, 2 ^ min i 32 - 1⟩) rfl (by rw [hw]; decide) (.inl (by rw [hw]; rfl))
theorem run_told (a : Int) (ha : 0 ≤ a ∧ a ≤ 65535) (k i : Nat) (hk : 1 ≤ k) (hi : i < 40) : told ((a - (i : Int)) % 65536) a (2 ^ min (k - 1) 32 - 1) = decide (i < k ∧ i ≤ 32) := by
  have hw : way ((a - (i : Int)) % 65536) a = i := way_unique (by omega) (by omega)
  unfold told has
  rw [hw, Nat.testBit_two_pow_sub_one, Bool.eq_iff_iff]
  simp only [Bool.and_eq_true, Bool.or_eq_true, decide_eq_true_iff]
  omega
theorem run_next (a : Int) (n : Nat) : told ((a + 1) % 65536) a n = false := by
  have hw : way ((a + 1) % 65536) a = -1 := way_unique (by omega) (by decide)
  unfold told has
  rw [hw, decide_eq_false (by omega), decide_eq_false (by decide)]; rfl
end Sr
namespace Go.Proofs.Ytgjkodbigdgdmaa
open Go.RowKit
set_option linter.unusedVariables false

set_option maxRecDepth 100000 in
set_option maxHeartbeats 2000000 in
theorem runs11_main (f z : Int) (hf : 0 ≤ f ∧ f ≤ 65535) (w : World) :
    Calls Try.prog 7 #[.int .u16 f, .int .i64 z] w fun e w' => e = .returned (.bool true) ∧ Kept w w' := by
  have cn := fun X => Lib.hid (sernew_any X)
  have c0 := fun X => Lib.hid (told11_any X)
  have wu : ∀ x, IntKind.u16.wrap x = x % 65536 := IntKind.wrap_u16
  go_enter Try.func7, Try.ntmps7
  go_upto_region 5 with ((go_at_call 15; ((with_reducible refine ((cn _).out).mono ?_); rintro e w0 ⟨rfl, rfl⟩; have HB0 := Lib.hid (Box.made w 48 Sr.none.cells); have HK0 := Lib.hid (one_below w (.cells Sr.none.cells 48)))))
  obtain ⟨g, hg, hgz⟩ := mod_small z 1 100 (by decide) (by decide)
  obtain ⟨k, rfl⟩ : ∃ k : Nat, g = (k : Int) := ⟨g.toNat, by omega⟩
  rw [hgz]
  clear hgz cn
  have hk1 : 1 ≤ k := by omega
  have hk100 : k ≤ 100 := by omega
  go_wp2
  go_loopw [7] (fun i wr => ∃ j : Nat, j ≤ k ∧ i = .int .i64 j ∧ Box wr w.heap.size 48 (Sr.run f j).cells ∧ Below w.heap.size w wr) (fun i _ => k - (intOf i).toNat)
  case atStart => exact ⟨0, Nat.zero_le _, rfl, HB0.out, HK0.out⟩
  case round =>
    obtain ⟨j, hj, rfl, hB, hK⟩ := hrel
    clear HB0 HK0
    have HB1 := Lib.hid hB
    have HK1 := Lib.hid hK
    clear hB hK
    by_cases hlt : j < k
    · have hjk : (j : Int) < (k : Int) := by omega
      have n1 := t_note _ _ (Sr.run_ok f j) _ true (Sr.run_new f j (by omega)).1 (Sr.run_new f j (by omega)).2 w.heap.size
      have n2 := t_note _ _ (Sr.run_ok f (j + 1)) _ false (Sr.run_old f j).1 (Sr.run_old f j).2 w.heap.size
      go_wp2_with ((go_at_call 16; first | ((with_reducible refine ((n1 _ HB1.out).out).mono ?_); rintro e w2 ⟨rfl, hb, ho⟩; have HB2 := Lib.hid hb; have HK2 := Lib.hid (ho.kept HK1.out (Nat.le_refl _)); clear hb ho) | ((with_reducible refine ((n2 _ HB2.out).out).mono ?_); rintro e w3 ⟨rfl, hb, ho⟩; have HB3 := Lib.hid hb; have HK3 := Lib.hid (ho.kept HK2.out (Nat.le_refl _)); clear hb ho)))
      go_roundw
      case rel => exact ⟨j + 1, by omega, by go_num, HB3.out, HK3.out⟩
      case measure => simp [intOf]; omega
    · obtain rfl : j = k := by omega
      obtain ⟨m, rfl⟩ : ∃ m, j = m + 1 := ⟨j - 1, by omega⟩
      rw [Sr.run_succ] at HB1
      have hz1 : ((m + 1 : Nat) : Int) - 1 = (m : Int) := by omega
      have cl := Lib.hid (serlast_any _ w.heap.size wr HB1.out)
      have hU := Sr.ones_lt m
      dsimp only at cl
      have tn := fun X => t_told (((f + (m : Int)) % 65536 + 1) % 65536) ((f + (m : Int)) % 65536) (2 ^ min m 32 - 1) _ rfl hU false (Sr.run_next _ _) X
      have ht := Lib.hid (fun (i : Nat) (hi : i < 40) => Sr.run_told ((f + (m : Int)) % 65536) (by omega) (m + 1) i (by omega) hi)
      have hA : 0 ≤ (f + (m : Int)) % 65536 ∧ (f + (m : Int)) % 65536 ≤ 65535 := by omega
      rw [Nat.add_sub_cancel] at ht
      go_upto_region 13 with ((go_at_call 18; ((with_reducible refine ((cl).out).mono ?_); rintro e w2 ⟨rfl, hb⟩; have HK2 := Lib.hid (HK1.out.trans (hb.mono HK1.out.size)); clear hb)))
      generalize (f + (m : Int)) % 65536 = A at *
      generalize 2 ^ min m 32 - 1 = U at *
      clear HB1 cl
      go_wp2
      go_loopw [10] (fun i wr => ∃ j : Nat, j ≤ 40 ∧ i = .int .i64 j ∧ Below w.heap.size w wr) (fun i _ => 40 - (intOf i).toNat)
      case atStart => exact ⟨0, Nat.zero_le _, rfl, HK2.out⟩
      case round =>
        obtain ⟨i, hi, rfl, hK⟩ := hrel
        clear HK1 HK2
        have HK3 := Lib.hid hK
        clear hK
        by_cases hlt : i < 40
        · have hti := Lib.hid (ht.out i hlt)
          clear ht
          have hi40 : (i : Int) < 40 := by omega
          by_cases h1 : i < m + 1
          · by_cases h2 : i ≤ 32
            · have h3 : (i : Int) < (m : Int) + 1 := by omega
              have h4 : (i : Int) ≤ 32 := by omega
              have tv := fun X => t_told ((A - (i : Int)) % 65536) A U _ rfl hU true (by rw [hti.out]; exact decide_eq_true (by omega)) X
              generalize ((U : Nat) : Int) = u at *
              go_wp2_with ((go_at_call 13; ((with_reducible refine (tv _).out.mono ?_); rintro e w3 ⟨rfl, hb⟩; have HK4 := Lib.hid (HK3.out.trans (hb.mono HK3.out.size)); clear hb)))
              go_roundw
              case rel => exact ⟨i + 1, by omega, by go_num, HK4.out⟩
              case measure => simp [intOf]; omega
            · have h3 : (i : Int) < (m : Int) + 1 := by omega
              have h4 : ¬ (i : Int) ≤ 32 := by omega
              have tv := fun X => t_told ((A - (i : Int)) % 65536) A U _ rfl hU false (by rw [hti.out]; exact decide_eq_false (by omega)) X
              generalize ((U : Nat) : Int) = u at *
              go_wp2_with ((go_at_call 13; ((with_reducible refine (tv _).out.mono ?_); rintro e w3 ⟨rfl, hb⟩; have HK4 := Lib.hid (HK3.out.trans (hb.mono HK3.out.size)); clear hb)))
              go_roundw
              case rel => exact ⟨i + 1, by omega, by go_num, HK4.out⟩
              case measure => simp [intOf]; omega
          · have h3 : ¬ (i : Int) < (m : Int) + 1 := by omega
            have tv := fun X => t_told ((A - (i : Int)) % 65536) A U _ rfl hU false (by rw [hti.out]; exact decide_eq_false (by omega)) X
            generalize ((U : Nat) : Int) = u at *
            go_wp2_with ((go_at_call 13; ((with_reducible refine (tv _).out.mono ?_); rintro e w3 ⟨rfl, hb⟩; have HK4 := Lib.hid (HK3.out.trans (hb.mono HK3.out.size)); clear hb)))
            go_roundw
            case rel => exact ⟨i + 1, by omega, by go_num, HK4.out⟩
            case measure => simp [intOf]; omega
        · obtain rfl : i = 40 := by omega
          clear ht
          generalize ((U : Nat) : Int) = u at *
          go_wp2_with (first | (go_at_call 13; ((with_reducible refine (tn _).out.mono ?_); rintro e w5 ⟨rfl, hb⟩; have HK5 := Lib.hid (HK4.out.trans (hb.mono HK4.out.size)); clear hb)) | (go_at_call 9; ((with_reducible refine (c0 _).out.mono ?_); rintro e w4 ⟨rfl, hb⟩; have HK4 := Lib.hid (HK3.out.trans (hb.mono HK3.out.size)); clear hb)))
          all_goals
            go_ret
            exact ⟨ret_bool (by simp), HK5.out⟩
end Go.Proofs.Ytgjkodbigdgdmaa
