/-
SerialGaps: the walk.
-/
import Derived.Test.YtgjkodbigdgdmaaVe
namespace Sr
theorem way_gap (f d : Int) (i j : Int) (hd : -32768 ≤ d ∧ d ≤ 32767) (h : j - i = d) : way ((f + i) % 65536) ((f + j) % 65536) = d := way_unique (by omega) hd
theorem up_zero_test (d : Int) (hd : 0 < d) (i : Nat) : (up 0 d).testBit i = decide (i < 32 ∧ d = (i : Int) + 1) := by
  rw [up_test 0 d hd, Nat.zero_testBit, Bool.and_false, Bool.or_false, ← Bool.decide_and]
theorem gaps (f g : Int) (hf : 0 ≤ f ∧ f ≤ 65535) (hg : 2 ≤ g ∧ g ≤ 60) :
    fresh none f = true ∧ note none f = ⟨true, f, 0⟩ ∧ fresh ⟨true, f, 0⟩ ((f + g) % 65536) = true ∧ note ⟨true, f, 0⟩ ((f + g) % 65536) = ⟨true, (f + g) % 65536, up 0 g⟩ ∧
      told ((f + 1) % 65536) ((f + g) % 65536) (up 0 g) = false ∧ fresh ⟨true, (f + g) % 65536, up 0 g⟩ ((f + 1) % 65536) = decide (g - 1 ≤ 32) ∧
      fresh (note ⟨true, (f + g) % 65536, up 0 g⟩ ((f + 1) % 65536)) f = false ∧ told f ((f + g) % 65536) (up 0 g) = decide (g ≤ 32) := by
  have hf0 : f = (f + 0) % 65536 := by omega
  have w1 : way f ((f + g) % 65536) = g := way_unique (by omega) (by omega)
  have w2 : way ((f + 1) % 65536) ((f + g) % 65536) = g - 1 := way_gap f (g - 1) 1 g (by omega) (by omega)
  have w3 : way ((f + g) % 65536) ((f + 1) % 65536) = 1 - g := way_gap f (1 - g) g 1 (by omega) (by omega)
  have w4 : way ((f + g) % 65536) f = -g := way_unique (by omega) (by omega)
  have h1 : has (up 0 g) (g - 1) = false := by
    unfold has
    rw [up_zero_test g (by omega), decide_eq_false (show ¬ ((g - 1 - 1).toNat < 32 ∧ g = ((g - 1 - 1).toNat : Int) + 1) by omega), Bool.and_false]
  have h2 : has (up 0 g) g = decide (g ≤ 32) := by
    unfold has
    rw [up_zero_test g (by omega), Bool.eq_iff_iff, Bool.and_eq_true, decide_eq_true_iff, decide_eq_true_iff, decide_eq_true_iff]
    omega
  refine ⟨rfl, rfl, ?_, ?_, ?_, ?_, ?_, ?_⟩
  · exact (note_ahead (h := ⟨true, f, 0⟩) rfl (by rw [w1]; omega)).1
  · rw [(note_ahead (h := ⟨true, f, 0⟩) rfl (by rw [w1]; omega)).2, w1]
  · unfold told
    rw [w2, h1, decide_eq_false (by omega)]; rfl
  · unfold fresh
    dsimp only
    rw [w2, w3, h1, decide_eq_false (show ¬ 0 < 1 - g by omega)]
    simp only [Bool.not_true, Bool.false_or, Bool.not_false, Bool.and_true]
    rw [Bool.eq_iff_iff, decide_eq_true_iff, decide_eq_true_iff]; omega
  · have hn : note ⟨true, (f + g) % 65536, up 0 g⟩ ((f + 1) % 65536) = ⟨true, (f + g) % 65536, up 0 g ||| bitN (g - 1)⟩ := by
      unfold note
      dsimp only
      rw [if_neg (by decide), w3, if_neg (by omega), w2]
    rw [hn]
    unfold fresh
    dsimp only
    rw [w1, w4, decide_eq_false (show ¬ 0 < -g by omega)]
    simp only [Bool.not_true, Bool.false_or]
    by_cases h : g ≤ 32
    · have h3 : has (up 0 g ||| bitN (g - 1)) g = true := by
        unfold has
        rw [decide_eq_true (by omega), Bool.true_and, Nat.testBit_or, up_zero_test g (by omega), decide_eq_true (by omega)]; rfl
      rw [h3]; simp
    · rw [decide_eq_false (by omega)]; rfl
  · unfold told
    rw [w1, h2, decide_eq_false (by omega), Bool.false_or]
end Sr
namespace Go.Proofs.Ytgjkodbigdgdmaa
open Go.RowKit
set_option linter.unusedVariables false

theorem u64_wrap_is (z : Int) : IntKind.u64.wrap z = z % 18446744073709551616 := by simp [IntKind.wrap, IntKind.bits, IntKind.signed]
theorem mod_small (z k : Int) (n : Int) (hk : 0 ≤ k ∧ k ≤ 100) (hn : 0 < n ∧ n ≤ 100) : ∃ g : Int, (k ≤ g ∧ g < k + n) ∧ wrap64 (k + wrap64 ((IntKind.u64.wrap z).tmod n)) = g := by
  rw [u64_wrap_is]
  obtain ⟨y, hy⟩ : ∃ y, y = z % 18446744073709551616 := ⟨_, rfl⟩
  rw [← hy]
  have hy0 : 0 ≤ y := by omega
  clear hy
  have h1 := Int.emod_nonneg y (show n ≠ 0 by omega)
  have h2 := Int.emod_lt_of_pos y hn.1
  rw [Int.tmod_eq_emod_of_nonneg hy0, IntWalk.wrap64_in (y % n) (by omega), IntWalk.wrap64_in _ (by omega)]
  exact ⟨_, by omega, rfl⟩
set_option maxRecDepth 100000 in
set_option maxHeartbeats 2000000 in
theorem gaps11_main (f z : Int) (hf : 0 ≤ f ∧ f ≤ 65535) (w : World) :
    Calls Try.prog 8 #[.int .u16 f, .int .i64 z] w fun e w' => e = .returned (.bool true) ∧ Kept w w' := by
  have cn := fun X => Lib.hid (sernew_any X)
  go_enter Try.func8, Try.ntmps8
  go_upto_region 5 with ((go_at_call 15; ((with_reducible refine ((cn _).out).mono ?_); rintro e w0 ⟨rfl, rfl⟩; have HB0 := Lib.hid (Box.made w 48 Sr.none.cells); have HK0 := Lib.hid (one_below w (.cells Sr.none.cells 48)))))
  obtain ⟨g, hg, hgz⟩ := mod_small z 2 59 (by decide) (by decide)
  rw [hgz]
  clear hgz
  obtain ⟨e1, e2, e3, e4, e5, e6, e7, e8⟩ := Sr.gaps f g hf ⟨by omega, by omega⟩
  have n1 := t_note Sr.none ⟨true, f, 0⟩ Sr.none_ok f true e1 e2 w.heap.size
  have n2 := t_note ⟨true, f, 0⟩ _ ⟨hf, by dsimp only; decide⟩ ((f + g) % 65536) true e3 e4 w.heap.size
  have hUl := Sr.up_lt 0 g
  have o3 : Sr.H.Ok ⟨true, (f + g) % 65536, Sr.up 0 g⟩ := ⟨by dsimp only; omega, hUl⟩
  have n3 := t_note ⟨true, (f + g) % 65536, Sr.up 0 g⟩ _ o3 ((f + 1) % 65536) _ e6 rfl w.heap.size
  have n4 := t_note _ _ (Sr.note_ok o3 (s := (f + 1) % 65536) (by omega)) f false e7 rfl w.heap.size
  have cl := fun X hX => Lib.hid (serlast_any ⟨true, (f + g) % 65536, Sr.up 0 g⟩ w.heap.size X hX)
  have t1 := t_told ((f + 1) % 65536) ((f + g) % 65536) (Sr.up 0 g) _ rfl hUl false e5
  have t2 := t_told f ((f + g) % 65536) (Sr.up 0 g) _ rfl hUl _ e8
  have c0 := fun X => Lib.hid (told11_any X)
  have wu : ∀ x, IntKind.u16.wrap x = x % 65536 := IntKind.wrap_u16
  clear e1 e2 e3 e4 e5 e6 e7 e8 o3 cn
  generalize Sr.note (Sr.note ⟨true, (f + g) % 65536, Sr.up 0 g⟩ ((f + 1) % 65536)) f = H4 at *
  generalize Sr.note ⟨true, (f + g) % 65536, Sr.up 0 g⟩ ((f + 1) % 65536) = H3 at *
  generalize Sr.up 0 g = U at *
  dsimp only at cl
  generalize (U : Int) = u at *
  go_wp2_with (first | (go_at_call 16; first | ((with_reducible refine ((n1 _ HB0.out).out).mono ?_); rintro e w1 ⟨rfl, hb, ho⟩; have HB1 := Lib.hid hb; have HK1 := Lib.hid (ho.kept HK0.out (Nat.le_refl _)); clear hb ho) | ((with_reducible refine ((n2 _ HB1.out).out).mono ?_); rintro e w2 ⟨rfl, hb, ho⟩; have HB2 := Lib.hid hb; have HK2 := Lib.hid (ho.kept HK1.out (Nat.le_refl _)); clear hb ho) | ((with_reducible refine ((n3 _ HB4.out).out).mono ?_); rintro e w5 ⟨rfl, hb, ho⟩; have HB5 := Lib.hid hb; have HK5 := Lib.hid (ho.kept HK4.out (Nat.le_refl _)); clear hb ho) | ((with_reducible refine ((n4 _ HB5.out).out).mono ?_); rintro e w6 ⟨rfl, hb, ho⟩; have HB6 := Lib.hid hb; have HK6 := Lib.hid (ho.kept HK5.out (Nat.le_refl _)); clear hb ho)) | (go_at_call 18; ((with_reducible refine ((cl _ HB2.out).out).mono ?_); rintro e w3 ⟨rfl, hb⟩; have HB3 := Lib.hid (HB2.out.below hb HB2.out.lt); have HK3 := Lib.hid (HK2.out.trans (hb.mono HK2.out.size)); clear hb)) | (go_at_call 13; first | ((with_reducible refine (t1 _).out.mono ?_); rintro e w4 ⟨rfl, hb⟩; have HB4 := Lib.hid (HB3.out.below hb HB3.out.lt); have HK4 := Lib.hid (HK3.out.trans (hb.mono HK3.out.size)); clear hb) | ((with_reducible refine (t2 _).out.mono ?_); rintro e w8 ⟨rfl, hb⟩; have HK8 := Lib.hid (HK7.out.trans (hb.mono HK7.out.size)); clear hb)) | (go_at_call 9; ((with_reducible refine (c0 _).out.mono ?_); rintro e w7 ⟨rfl, hb⟩; have HK7 := Lib.hid (HK6.out.trans (hb.mono HK6.out.size)); clear hb)))
  all_goals
    go_ret
    exact ⟨ret_bool (by simp), HK8.out⟩
end Go.Proofs.Ytgjkodbigdgdmaa
