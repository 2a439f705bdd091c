/-
FixBack: the walk.
-/
import Derived.Test.YtpcndjmhikigfaaFt
import Derived.Test.YtpcndjmhikigfaaFk
namespace Go.Proofs.Ytpcndjmhikigfaa
open Go.RowKit
set_option linter.unusedVariables false

theorem u64_mod (n m : Int) (hm : 0 < m) : 0 ≤ (IntKind.u64.wrap n).tmod m ∧ (IntKind.u64.wrap n).tmod m < m := by
  have h : 0 ≤ IntKind.u64.wrap n := by simp only [IntKind.wrap_u64]; omega
  rw [Int.tmod_eq_emod_of_nonneg h]
  exact ⟨Int.emod_nonneg _ (by omega), Int.emod_lt_of_pos _ hm⟩
theorem V_some : ∃ k V : Nat, 2 ^ k = V ∧ 1048576 * V = Fl.U ∧ 0 < V := by
  obtain ⟨k, hk⟩ : ∃ k : Nat, k = 1054 := ⟨_, rfl⟩
  refine ⟨k, 2 ^ k, rfl, ?_, Nat.two_pow_pos k⟩
  have : 2 ^ 20 * 2 ^ k = Fl.U := by rw [← Nat.pow_add]; exact Fo.U_pow (by omega)
  rw [← this]
theorem of_frac {g : Nat} {n a : Int} {V : Nat} (hn : Fl.isNaN g = false) (hV : 1048576 * V = Fl.U) (hV0 : 0 < V) (hz : Fl.Z g = n * V) (h : n.tdiv 16 = a) (wa : I32 a) : Fo.of g = a := by
  unfold Fo.of
  rw [hn, hz, ← hV]
  simp only [Bool.false_eq_true, if_false]
  have e : (65536 * (n * (V : Int))).tdiv ((1048576 * V : Nat) : Int) = a := by
    rw [show ((1048576 * V : Nat) : Int) = 65536 * (16 * (V : Int)) from by omega, Int.mul_tdiv_mul_of_pos _ _ (by omega), Int.mul_tdiv_mul_of_pos_left _ _ (by omega), h]
  rw [e]
  exact Fx.cut_in wa.1 wa.2
theorem tdiv16_pos (a j : Int) (h : 0 ≤ a) (h0 : 0 ≤ j) (h1 : j < 16) : (16 * a + j).tdiv 16 = a := by
  rw [Int.tdiv_eq_ediv_of_nonneg (by omega)]; omega
theorem tdiv16_neg (a j : Int) (h : a < 0) (h0 : 0 ≤ j) (h1 : j < 16) : (16 * a - j).tdiv 16 = a := by
  have : 16 * a - j = -(16 * (-a) + j) := by omega
  rw [this, Int.neg_tdiv, tdiv16_pos (-a) j (by omega) h0 h1]; omega

structure Back (a : Int) (j : Int) (g1 g2 m : Nat) : Prop where
  e3 : Ieee.double.add (Fo.val a) (k2 j) = some g1
  e4 : Ieee.double.sub (Fo.val a) (k2 j) = some g2
  e5 : Ieee.double.mul (Fo.val a) 4679240012837945344 = some m
  p1 : 0 ≤ a → Fo.of g1 = a
  p2 : a < 0 → Fo.of g2 = a
  o : (FloatKind.f64.format.order m (floatOfInt .f64 a) == some .eq) = true
theorem back_some (a j : Int) (wa : I32 a) (h0 : 0 ≤ j) (h1 : j < 16) : ∃ g1 g2 m, Back a j g1 g2 m := by
  obtain ⟨_, vlt, f1, z1⟩ := Fo.val_spec a (by omega)
  obtain ⟨_, _, z2, f2⟩ := k_spec j h0 h1
  obtain ⟨k, V, hk, hV, hV0⟩ := V_some
  have big := Fo.Ginf_big
  rw [← hV] at z1 z2 big
  have m1 : a * ((1048576 * V : Nat) : Int) = 1048576 * (a * V) := by rw [Int.natCast_mul, Int.mul_left_comm]; rfl
  have m2 : j * ((1048576 * V : Nat) : Int) = 1048576 * (j * V) := by rw [Int.natCast_mul, Int.mul_left_comm]; rfl
  rw [m1] at z1
  rw [m2] at z2
  have s1 : Fl.Z (Fo.val a) + Fl.Z (k2 j) = (16 * a + j) * V := by rw [Int.add_mul, Int.mul_assoc]; omega
  have s2 : Fl.Z (Fo.val a) - Fl.Z (k2 j) = (16 * a - j) * V := by rw [Int.sub_mul, Int.mul_assoc]; omega
  have bV : ∀ n : Int, n.natAbs ≤ 68719476736 → (n * V).natAbs = n.natAbs * 2 ^ k ∧ (n * V).natAbs < Fl.G Fl.inf := fun n hn => by
    have e : (n * (V : Int)).natAbs = n.natAbs * V := by rw [Int.natAbs_mul]; rfl
    rw [hk]
    have := Nat.mul_le_mul_right V hn
    omega
  obtain ⟨b1, b1'⟩ := bV (16 * a + j) (by omega)
  obtain ⟨b2, b2'⟩ := bV (16 * a - j) (by omega)
  obtain ⟨g1, e3, y1, n1⟩ := add_exact f1 f2 s1 (16 * a + j).natAbs k (by omega) b1 b1'
  obtain ⟨g2, e4, y2, n2⟩ := sub_exact f1 f2 s2 (16 * a - j).natAbs k (by omega) b2 b2'
  obtain ⟨m, e5, _, nm, hm⟩ := Fo.mul16 (Fo.fin_num f1)
  obtain ⟨r, eo, gr, lr⟩ := Fo.of_int a (by omega)
  have i63 := Fo.inf63
  refine ⟨g1, g2, m, e3, e4, e5, fun h => of_frac n1 hV hV0 y1 (tdiv16_pos a j h h0 h1) wa, fun h => of_frac n2 hV hV0 y2 (tdiv16_neg a j h h0 h1) wa, ?_⟩
  rw [← hV] at gr
  have zo : Fl.Z (floatOfInt .f64 a) = 1048576 * (a * V) := by
    rw [eo, word_Z _ (by omega), gr]
    by_cases c : a < 0
    · rw [decide_eq_true c]
      simp only [if_true]
      obtain ⟨n, rfl⟩ : ∃ n : Nat, a = -(n : Int) := ⟨a.natAbs, by omega⟩
      rw [show (-(n : Int)).natAbs = n from by omega, Int.neg_mul, ← Int.natCast_mul, Nat.mul_left_comm]
      omega
    · rw [decide_eq_false c]
      simp only [Bool.false_eq_true, if_false]
      obtain ⟨n, rfl⟩ : ∃ n : Nat, a = (n : Int) := ⟨a.natAbs, by omega⟩
      rw [show (n : Int).natAbs = n from by omega, ← Int.natCast_mul, Nat.mul_left_comm]
      omega
  have no : Fl.isNaN (floatOfInt .f64 a) = false := by
    obtain ⟨p3, p4⟩ := Fl.word_parts (decide (a < 0)) (r := r) (by omega)
    unfold Fl.isNaN; rw [eo, p4]; simp; omega
  refine (Fl.eq_iff nm no).trans (decide_eq_true ?_)
  obtain ⟨c1, c2⟩ := bV a (by omega)
  have c3 := bV (1048576 * a) 
  rw [zo, ← z1]
  have c4 : (1048576 * (a * (V : Int))).natAbs < Fl.G Fl.inf := by
    have e : (1048576 * (a * (V : Int))).natAbs = 1048576 * (a.natAbs * V) := by rw [Int.natAbs_mul, Int.natAbs_mul]; rfl
    have := Nat.mul_le_mul_right V (show a.natAbs ≤ 2147483648 by omega)
    omega
  rcases hm with ⟨h, _⟩ | ⟨_, h⟩ | ⟨_, h⟩ <;> omega

set_option maxRecDepth 100000 in
set_option maxHeartbeats 2000000 in
theorem back_pos (a p j : Int) (f g1 g2 m : Nat) (wa : I32 a) (hs : 0 ≤ a) (hf : Fo.val a = f) (hj : (IntKind.u64.wrap p).tmod 16 = j) (h0 : 0 ≤ j) (h1 : j < 16) (hb : Back a j g1 g2 m) (w : World) :
    Calls Try.prog 4 #[.int .i32 a, .int .i64 p] w fun e w' => e = .returned (.bool true) ∧ Kept w w' := by
  have hk := Kept.refl w
  obtain ⟨q1, q2, _, _⟩ := k_spec j h0 h1
  obtain ⟨e3, e4, e5, p1, p2, o⟩ := hb
  rw [hf] at e3 e4 e5
  have r1 := fun w => run_float_arith (P := Try.prog) w .quo 22 .f64 _ _ _ q1
  have r2 := fun w => run_float_arith (P := Try.prog) w .quo 22 .f64 _ _ _ q2
  have r3 := fun w => run_float_arith (P := Try.prog) w .add 22 .f64 _ _ _ e3
  have r4 := fun w => run_float_arith (P := Try.prog) w .sub 22 .f64 _ _ _ e4
  have r5 := fun w => run_float_arith (P := Try.prog) w .mul 22 .f64 _ _ _ e5
  have c0 := fun (x : World) (h : Kept w x) => Lib.hid (told_t h)
  have c1 := fun (x : World) (h : Kept w x) => Lib.hid (float_t h a f wa hf)
  have c2 := fun (x : World) (h : Kept w x) => Lib.hid (fixof_t h f a (by rw [← hf]; exact Fo.of_val a wa.1 wa.2))
  have c3 := fun (x : World) (h : Kept w x) => Lib.hid (fixof_t h g1 a (p1 hs))
  clear q1 q2 e3 e4 e5 p1 p2 hf
  go_enter Try.func4, Try.ntmps4
  go_wp2_with (first | (go_at_call 11; ((with_reducible refine ((c0 _ (by assumption)).out).mono ?_); rintro e w' ⟨rfl, hk⟩)) | (go_at_call 26; ((with_reducible refine ((c1 _ (by assumption)).out).mono ?_); rintro e w' ⟨rfl, hk⟩)) | (go_at_call 24; first | ((with_reducible refine ((c2 _ (by assumption)).out).mono ?_); rintro e w' ⟨rfl, hk⟩) | ((with_reducible refine ((c3 _ (by assumption)).out).mono ?_); rintro e w' ⟨rfl, hk⟩)))
  all_goals
    go_ret
    exact ⟨ret_bool (by simp), by assumption⟩

set_option maxRecDepth 100000 in
set_option maxHeartbeats 2000000 in
theorem back_neg (a p j : Int) (f g1 g2 m : Nat) (wa : I32 a) (hs : a < 0) (hf : Fo.val a = f) (hj : (IntKind.u64.wrap p).tmod 16 = j) (h0 : 0 ≤ j) (h1 : j < 16) (hb : Back a j g1 g2 m) (w : World) :
    Calls Try.prog 4 #[.int .i32 a, .int .i64 p] w fun e w' => e = .returned (.bool true) ∧ Kept w w' := by
  have hk := Kept.refl w
  obtain ⟨q1, q2, _, _⟩ := k_spec j h0 h1
  obtain ⟨e3, e4, e5, p1, p2, o⟩ := hb
  rw [hf] at e3 e4 e5
  have r1 := fun w => run_float_arith (P := Try.prog) w .quo 22 .f64 _ _ _ q1
  have r2 := fun w => run_float_arith (P := Try.prog) w .quo 22 .f64 _ _ _ q2
  have r3 := fun w => run_float_arith (P := Try.prog) w .add 22 .f64 _ _ _ e3
  have r4 := fun w => run_float_arith (P := Try.prog) w .sub 22 .f64 _ _ _ e4
  have r5 := fun w => run_float_arith (P := Try.prog) w .mul 22 .f64 _ _ _ e5
  have c0 := fun (x : World) (h : Kept w x) => Lib.hid (told_t h)
  have c1 := fun (x : World) (h : Kept w x) => Lib.hid (float_t h a f wa hf)
  have c2 := fun (x : World) (h : Kept w x) => Lib.hid (fixof_t h f a (by rw [← hf]; exact Fo.of_val a wa.1 wa.2))
  have c3 := fun (x : World) (h : Kept w x) => Lib.hid (fixof_t h g2 a (p2 hs))
  clear q1 q2 e3 e4 e5 p1 p2 hf
  go_enter Try.func4, Try.ntmps4
  go_wp2_with (first | (go_at_call 11; ((with_reducible refine ((c0 _ (by assumption)).out).mono ?_); rintro e w' ⟨rfl, hk⟩)) | (go_at_call 26; ((with_reducible refine ((c1 _ (by assumption)).out).mono ?_); rintro e w' ⟨rfl, hk⟩)) | (go_at_call 24; first | ((with_reducible refine ((c2 _ (by assumption)).out).mono ?_); rintro e w' ⟨rfl, hk⟩) | ((with_reducible refine ((c3 _ (by assumption)).out).mono ?_); rintro e w' ⟨rfl, hk⟩)))
  all_goals
    go_ret
    exact ⟨ret_bool (by simp), by assumption⟩

theorem back_law (a p : Int) (wa : I32 a) (w : World) :
    Calls Try.prog 4 #[.int .i32 a, .int .i64 p] w fun e w' => e = .returned (.bool true) ∧ Kept w w' := by
  obtain ⟨j0, j1⟩ := u64_mod p 16 (by omega)
  obtain ⟨g1, g2, m, hb⟩ := back_some a _ wa j0 j1
  by_cases h : 0 ≤ a
  · exact back_pos a p _ _ g1 g2 m wa h rfl rfl j0 j1 hb w
  · exact back_neg a p _ _ g1 g2 m wa (by omega) rfl rfl j0 j1 hb w

end Go.Proofs.Ytpcndjmhikigfaa
