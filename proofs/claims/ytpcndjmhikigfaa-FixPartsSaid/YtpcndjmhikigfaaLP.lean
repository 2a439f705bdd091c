/-
FixParts: the walk.
-/
import Derived.Test.YtpcndjmhikigfaaFt
import Derived.Test.YtpcndjmhikigfaaFz
namespace Go.Proofs.Ytpcndjmhikigfaa
open Go.RowKit
set_option linter.unusedVariables false

theorem parts_sq {a : Int} (h : 0 < a) (wa : I32 a) : Fx.root a * Fx.root a ≤ a * 65536 ∧ a * 65536 < (Fx.root a + 1) * (Fx.root a + 1) ∧ 0 ≤ Fx.root a ∧ Fx.root a < 16777216 := by
  have hb := Fx.root_bd (a := a) wa.2
  rw [root_pos h] at *
  obtain ⟨s1, s2⟩ := Fx.sq_spec (a.toNat * 65536)
  generalize Fx.sq (a.toNat * 65536) = r at *
  have e1 : ((r : Int) * r) = ((r * r : Nat) : Int) := by rw [Int.natCast_mul]
  have e2 : ((r : Int) + 1) * (r + 1) = (((r + 1) * (r + 1) : Nat) : Int) := by rw [Int.natCast_mul]; rfl
  rw [e1, e2]
  omega
theorem sqr_bd {r : Int} (h0 : 0 ≤ r) (h1 : r < 16777216) : 0 ≤ r * r ∧ r * r ≤ 281474976710656 ∧ 0 ≤ (r + 1) * (r + 1) ∧ (r + 1) * (r + 1) ≤ 281474976710656 := by
  obtain ⟨n, rfl⟩ := Int.eq_ofNat_of_zero_le h0
  have a1 := Nat.mul_le_mul (show n ≤ 16777216 by omega) (show n ≤ 16777216 by omega)
  have a2 := Nat.mul_le_mul (show n + 1 ≤ 16777216 by omega) (show n + 1 ≤ 16777216 by omega)
  have e1 : ((n : Int) * n) = ((n * n : Nat) : Int) := by rw [Int.natCast_mul]
  have e2 : ((n : Int) + 1) * (n + 1) = (((n + 1) * (n + 1) : Nat) : Int) := by rw [Int.natCast_mul]; rfl
  rw [e1, e2]
  omega
/-- What a division leaves. -/
theorem parts_left {a b : Int} (wa : I32 a) (wb : I32 b) (hb : b ≠ 0) (h1 : Fx.div a b < 2147483647) (h2 : -2147483648 < Fx.div a b) :
    (a * 65536 - Fx.div a b * b).natAbs < b.natAbs ∧ (0 ≤ a → 0 ≤ a * 65536 - Fx.div a b * b) ∧ (a ≤ 0 → a * 65536 - Fx.div a b * b ≤ 0) ∧ (Fx.div a b * b).natAbs ≤ 140737488355328 := by
  have e : Fx.div a b = (a * 65536).tdiv b := by
    unfold Fx.div at *
    rw [if_neg hb] at *
    unfold Fx.cut at *
    omega
  rw [e]
  have t := Int.tmod_add_mul_tdiv (a * 65536) b
  have l : a * 65536 - (a * 65536).tdiv b * b = (a * 65536).tmod b := by rw [Int.mul_comm ((a * 65536).tdiv b)]; omega
  rw [l]
  refine ⟨?_, fun h => Int.tmod_nonneg _ (by omega), fun h => ?_, ?_⟩
  · rw [Int.natAbs_tmod]
    exact Nat.mod_lt _ (by omega)
  · have := Int.neg_tmod (-(a * 65536)) b
    rw [Int.neg_neg] at this
    have h2 := Int.tmod_nonneg (a := -(a * 65536)) b (by omega)
    omega
  · rw [Int.natAbs_mul, Int.natAbs_tdiv]
    exact Nat.le_trans (Nat.div_mul_le_self _ _) (by omega)
theorem parts_x {l b : Int} (hl : l.natAbs < b.natAbs) (wb : I32 b) (h : l ≠ 0) : (l * b != 0) = true ∧ -4611686018427387904 ≤ l * b ∧ l * b ≤ 4611686018427387904 := by
  have hb : b ≠ 0 := by omega
  refine ⟨?_, Fx.prod_bd (by omega) wb⟩
  rw [bne_iff_ne]
  exact Int.mul_ne_zero h hb

set_option maxRecDepth 100000 in
set_option maxHeartbeats 2000000 in
theorem parts_zero_down (a b : Int) (wa : I32 a) (wb : I32 b) (hb : b = 0) (h0 : a ≤ 0) (w : World) :
    Calls Try.prog 6 #[.int .i32 a, .int .i32 b] w fun e w' => e = .returned (.bool true) ∧ Kept w w' := by
  have hk := Kept.refl w
  have c0 := fun (x : World) (h : Kept w x) => Lib.hid (told_t h)
  subst hb
  have c3 := fun (x : World) (h : Kept w x) => Lib.hid (fixroot_t h a 0 wa (root_neg h0))
  go_enter Try.func6, Try.ntmps6
  go_wp2_with (first | (go_at_call 11; ((with_reducible refine ((c0 _ (by assumption)).out).mono ?_); rintro e w' ⟨rfl, hk⟩)) | (go_at_call 20; ((with_reducible refine ((c3 _ (by assumption)).out).mono ?_); rintro e w' ⟨rfl, hk⟩)))
  all_goals
    go_ret
    exact ⟨ret_bool (by simp), by assumption⟩

set_option maxRecDepth 100000 in
set_option maxHeartbeats 2000000 in
theorem parts_zero_up (a b : Int) (r S T : Int) (wa : I32 a) (wb : I32 b) (hb : b = 0) (h0 : 0 < a) (hr : Fx.root a = r) (hr0 : 0 ≤ r) (hr1 : r < 16777216) (hS : r * r = S) (hT : (r + 1) * (r + 1) = T) (hS0 : 0 ≤ S) (hT0 : 0 ≤ T) (hT1 : T ≤ 281474976710656) (hS1 : S ≤ a * 65536) (hT2 : a * 65536 < T) (w : World) :
    Calls Try.prog 6 #[.int .i32 a, .int .i32 b] w fun e w' => e = .returned (.bool true) ∧ Kept w w' := by
  have hk := Kept.refl w
  have c0 := fun (x : World) (h : Kept w x) => Lib.hid (told_t h)
  subst hb
  have c3 := fun (x : World) (h : Kept w x) => Lib.hid (fixroot_t h a r wa hr)
  clear hr
  go_enter Try.func6, Try.ntmps6
  go_wp2_with (first | (go_at_call 11; ((with_reducible refine ((c0 _ (by assumption)).out).mono ?_); rintro e w' ⟨rfl, hk⟩)) | (go_at_call 20; ((with_reducible refine ((c3 _ (by assumption)).out).mono ?_); rintro e w' ⟨rfl, hk⟩)))
  all_goals
    go_ret
    exact ⟨ret_bool (by simp), by assumption⟩

set_option maxRecDepth 100000 in
set_option maxHeartbeats 2000000 in
theorem parts_hi_down (a b : Int) (wa : I32 a) (wb : I32 b) (hb : b ≠ 0) (hq : Fx.div a b = 2147483647) (h0 : a ≤ 0) (w : World) :
    Calls Try.prog 6 #[.int .i32 a, .int .i32 b] w fun e w' => e = .returned (.bool true) ∧ Kept w w' := by
  have hk := Kept.refl w
  have c0 := fun (x : World) (h : Kept w x) => Lib.hid (told_t h)
  have c1 := fun (x : World) (h : Kept w x) => Lib.hid (fixdiv_t h a b 2147483647 wa wb hq)
  have hbb : (b != 0) = true := by simpa using hb
  have c3 := fun (x : World) (h : Kept w x) => Lib.hid (fixroot_t h a 0 wa (root_neg h0))
  clear hq hb
  go_enter Try.func6, Try.ntmps6
  go_wp2_with (first | (go_at_call 11; ((with_reducible refine ((c0 _ (by assumption)).out).mono ?_); rintro e w' ⟨rfl, hk⟩)) | (go_at_call 18; ((with_reducible refine ((c1 _ (by assumption)).out).mono ?_); rintro e w' ⟨rfl, hk⟩)) | (go_at_call 20; ((with_reducible refine ((c3 _ (by assumption)).out).mono ?_); rintro e w' ⟨rfl, hk⟩)))
  all_goals
    go_ret
    exact ⟨ret_bool (by simp), by assumption⟩

set_option maxRecDepth 100000 in
set_option maxHeartbeats 2000000 in
theorem parts_hi_up (a b : Int) (r S T : Int) (wa : I32 a) (wb : I32 b) (hb : b ≠ 0) (hq : Fx.div a b = 2147483647) (h0 : 0 < a) (hr : Fx.root a = r) (hr0 : 0 ≤ r) (hr1 : r < 16777216) (hS : r * r = S) (hT : (r + 1) * (r + 1) = T) (hS0 : 0 ≤ S) (hT0 : 0 ≤ T) (hT1 : T ≤ 281474976710656) (hS1 : S ≤ a * 65536) (hT2 : a * 65536 < T) (w : World) :
    Calls Try.prog 6 #[.int .i32 a, .int .i32 b] w fun e w' => e = .returned (.bool true) ∧ Kept w w' := by
  have hk := Kept.refl w
  have c0 := fun (x : World) (h : Kept w x) => Lib.hid (told_t h)
  have c1 := fun (x : World) (h : Kept w x) => Lib.hid (fixdiv_t h a b 2147483647 wa wb hq)
  have hbb : (b != 0) = true := by simpa using hb
  have c3 := fun (x : World) (h : Kept w x) => Lib.hid (fixroot_t h a r wa hr)
  clear hq hb hr
  go_enter Try.func6, Try.ntmps6
  go_wp2_with (first | (go_at_call 11; ((with_reducible refine ((c0 _ (by assumption)).out).mono ?_); rintro e w' ⟨rfl, hk⟩)) | (go_at_call 18; ((with_reducible refine ((c1 _ (by assumption)).out).mono ?_); rintro e w' ⟨rfl, hk⟩)) | (go_at_call 20; ((with_reducible refine ((c3 _ (by assumption)).out).mono ?_); rintro e w' ⟨rfl, hk⟩)))
  all_goals
    go_ret
    exact ⟨ret_bool (by simp), by assumption⟩

set_option maxRecDepth 100000 in
set_option maxHeartbeats 2000000 in
theorem parts_lo_down (a b : Int) (wa : I32 a) (wb : I32 b) (hb : b ≠ 0) (hq : Fx.div a b = -2147483648) (h0 : a ≤ 0) (w : World) :
    Calls Try.prog 6 #[.int .i32 a, .int .i32 b] w fun e w' => e = .returned (.bool true) ∧ Kept w w' := by
  have hk := Kept.refl w
  have c0 := fun (x : World) (h : Kept w x) => Lib.hid (told_t h)
  have c1 := fun (x : World) (h : Kept w x) => Lib.hid (fixdiv_t h a b (-2147483648) wa wb hq)
  have hbb : (b != 0) = true := by simpa using hb
  have c3 := fun (x : World) (h : Kept w x) => Lib.hid (fixroot_t h a 0 wa (root_neg h0))
  clear hq hb
  go_enter Try.func6, Try.ntmps6
  go_wp2_with (first | (go_at_call 11; ((with_reducible refine ((c0 _ (by assumption)).out).mono ?_); rintro e w' ⟨rfl, hk⟩)) | (go_at_call 18; ((with_reducible refine ((c1 _ (by assumption)).out).mono ?_); rintro e w' ⟨rfl, hk⟩)) | (go_at_call 20; ((with_reducible refine ((c3 _ (by assumption)).out).mono ?_); rintro e w' ⟨rfl, hk⟩)))
  all_goals
    go_ret
    exact ⟨ret_bool (by simp), by assumption⟩

set_option maxRecDepth 100000 in
set_option maxHeartbeats 2000000 in
theorem parts_lo_up (a b : Int) (r S T : Int) (wa : I32 a) (wb : I32 b) (hb : b ≠ 0) (hq : Fx.div a b = -2147483648) (h0 : 0 < a) (hr : Fx.root a = r) (hr0 : 0 ≤ r) (hr1 : r < 16777216) (hS : r * r = S) (hT : (r + 1) * (r + 1) = T) (hS0 : 0 ≤ S) (hT0 : 0 ≤ T) (hT1 : T ≤ 281474976710656) (hS1 : S ≤ a * 65536) (hT2 : a * 65536 < T) (w : World) :
    Calls Try.prog 6 #[.int .i32 a, .int .i32 b] w fun e w' => e = .returned (.bool true) ∧ Kept w w' := by
  have hk := Kept.refl w
  have c0 := fun (x : World) (h : Kept w x) => Lib.hid (told_t h)
  have c1 := fun (x : World) (h : Kept w x) => Lib.hid (fixdiv_t h a b (-2147483648) wa wb hq)
  have hbb : (b != 0) = true := by simpa using hb
  have c3 := fun (x : World) (h : Kept w x) => Lib.hid (fixroot_t h a r wa hr)
  clear hq hb hr
  go_enter Try.func6, Try.ntmps6
  go_wp2_with (first | (go_at_call 11; ((with_reducible refine ((c0 _ (by assumption)).out).mono ?_); rintro e w' ⟨rfl, hk⟩)) | (go_at_call 18; ((with_reducible refine ((c1 _ (by assumption)).out).mono ?_); rintro e w' ⟨rfl, hk⟩)) | (go_at_call 20; ((with_reducible refine ((c3 _ (by assumption)).out).mono ?_); rintro e w' ⟨rfl, hk⟩)))
  all_goals
    go_ret
    exact ⟨ret_bool (by simp), by assumption⟩

set_option maxRecDepth 100000 in
set_option maxHeartbeats 2000000 in
theorem parts_none_down (a b : Int) (q Q z : Int) (wa : I32 a) (wb : I32 b) (hb : b ≠ 0) (hq : Fx.div a b = q) (hq1 : q < 2147483647) (hq2 : -2147483648 < q) (hQ : q * b = Q) (hQ1 : -140737488355328 ≤ Q ∧ Q ≤ 140737488355328) (hz : (b.natAbs : Int) = z) (hz0 : 0 < z) (hz1 : z ≤ 2147483648) (hL : a * 65536 - Q = 0) (h0 : a ≤ 0) (w : World) :
    Calls Try.prog 6 #[.int .i32 a, .int .i32 b] w fun e w' => e = .returned (.bool true) ∧ Kept w w' := by
  have hk := Kept.refl w
  have c0 := fun (x : World) (h : Kept w x) => Lib.hid (told_t h)
  have c1 := fun (x : World) (h : Kept w x) => Lib.hid (fixdiv_t h a b q wa wb hq)
  have hbb : (b != 0) = true := by simpa using hb
  have hq1' : q ≤ 2147483647 := by omega
  have hq2' : -2147483648 ≤ q := by omega
  have c2 := fun (x : World) (h : Kept w x) => Lib.hid (size_t h b z wb hz)
  have c3 := fun (x : World) (h : Kept w x) => Lib.hid (fixroot_t h a 0 wa (root_neg h0))
  clear hq hb hz
  go_enter Try.func6, Try.ntmps6
  go_wp2_with (first | (go_at_call 11; ((with_reducible refine ((c0 _ (by assumption)).out).mono ?_); rintro e w' ⟨rfl, hk⟩)) | (go_at_call 18; ((with_reducible refine ((c1 _ (by assumption)).out).mono ?_); rintro e w' ⟨rfl, hk⟩)) | (go_at_call 27; ((with_reducible refine ((c2 _ (by assumption)).out).mono ?_); rintro e w' ⟨rfl, hk⟩)) | (go_at_call 20; ((with_reducible refine ((c3 _ (by assumption)).out).mono ?_); rintro e w' ⟨rfl, hk⟩)))
  all_goals
    go_ret
    exact ⟨ret_bool (by simp), by assumption⟩

set_option maxRecDepth 100000 in
set_option maxHeartbeats 2000000 in
theorem parts_none_up (a b : Int) (q Q z r S T : Int) (wa : I32 a) (wb : I32 b) (hb : b ≠ 0) (hq : Fx.div a b = q) (hq1 : q < 2147483647) (hq2 : -2147483648 < q) (hQ : q * b = Q) (hQ1 : -140737488355328 ≤ Q ∧ Q ≤ 140737488355328) (hz : (b.natAbs : Int) = z) (hz0 : 0 < z) (hz1 : z ≤ 2147483648) (hL : a * 65536 - Q = 0) (h0 : 0 < a) (hr : Fx.root a = r) (hr0 : 0 ≤ r) (hr1 : r < 16777216) (hS : r * r = S) (hT : (r + 1) * (r + 1) = T) (hS0 : 0 ≤ S) (hT0 : 0 ≤ T) (hT1 : T ≤ 281474976710656) (hS1 : S ≤ a * 65536) (hT2 : a * 65536 < T) (w : World) :
    Calls Try.prog 6 #[.int .i32 a, .int .i32 b] w fun e w' => e = .returned (.bool true) ∧ Kept w w' := by
  have hk := Kept.refl w
  have c0 := fun (x : World) (h : Kept w x) => Lib.hid (told_t h)
  have c1 := fun (x : World) (h : Kept w x) => Lib.hid (fixdiv_t h a b q wa wb hq)
  have hbb : (b != 0) = true := by simpa using hb
  have hq1' : q ≤ 2147483647 := by omega
  have hq2' : -2147483648 ≤ q := by omega
  have c2 := fun (x : World) (h : Kept w x) => Lib.hid (size_t h b z wb hz)
  have c3 := fun (x : World) (h : Kept w x) => Lib.hid (fixroot_t h a r wa hr)
  clear hq hb hz hr
  go_enter Try.func6, Try.ntmps6
  go_wp2_with (first | (go_at_call 11; ((with_reducible refine ((c0 _ (by assumption)).out).mono ?_); rintro e w' ⟨rfl, hk⟩)) | (go_at_call 18; ((with_reducible refine ((c1 _ (by assumption)).out).mono ?_); rintro e w' ⟨rfl, hk⟩)) | (go_at_call 27; ((with_reducible refine ((c2 _ (by assumption)).out).mono ?_); rintro e w' ⟨rfl, hk⟩)) | (go_at_call 20; ((with_reducible refine ((c3 _ (by assumption)).out).mono ?_); rintro e w' ⟨rfl, hk⟩)))
  all_goals
    go_ret
    exact ⟨ret_bool (by simp), by assumption⟩

set_option maxRecDepth 100000 in
set_option maxHeartbeats 2000000 in
theorem parts_pos_up (a b : Int) (q Q z L X r S T : Int) (wa : I32 a) (wb : I32 b) (hb : b ≠ 0) (hq : Fx.div a b = q) (hq1 : q < 2147483647) (hq2 : -2147483648 < q) (hQ : q * b = Q) (hQ1 : -140737488355328 ≤ Q ∧ Q ≤ 140737488355328) (hz : (b.natAbs : Int) = z) (hz0 : 0 < z) (hz1 : z ≤ 2147483648) (hL : a * 65536 - Q = L) (hX : L * b = X) (hX1 : -4611686018427387904 ≤ X ∧ X ≤ 4611686018427387904) (hX0 : (X != 0) = true) (hL0 : 0 < L) (hL1 : L < z) (ha : 0 < a) (h0 : 0 < a) (hr : Fx.root a = r) (hr0 : 0 ≤ r) (hr1 : r < 16777216) (hS : r * r = S) (hT : (r + 1) * (r + 1) = T) (hS0 : 0 ≤ S) (hT0 : 0 ≤ T) (hT1 : T ≤ 281474976710656) (hS1 : S ≤ a * 65536) (hT2 : a * 65536 < T) (w : World) :
    Calls Try.prog 6 #[.int .i32 a, .int .i32 b] w fun e w' => e = .returned (.bool true) ∧ Kept w w' := by
  have hk := Kept.refl w
  have c0 := fun (x : World) (h : Kept w x) => Lib.hid (told_t h)
  have c1 := fun (x : World) (h : Kept w x) => Lib.hid (fixdiv_t h a b q wa wb hq)
  have hbb : (b != 0) = true := by simpa using hb
  have hq1' : q ≤ 2147483647 := by omega
  have hq2' : -2147483648 ≤ q := by omega
  have c2 := fun (x : World) (h : Kept w x) => Lib.hid (size_t h b z wb hz)
  have c3 := fun (x : World) (h : Kept w x) => Lib.hid (fixroot_t h a r wa hr)
  clear hq hb hz hr
  go_enter Try.func6, Try.ntmps6
  go_wp2_with (first | (go_at_call 11; ((with_reducible refine ((c0 _ (by assumption)).out).mono ?_); rintro e w' ⟨rfl, hk⟩)) | (go_at_call 18; ((with_reducible refine ((c1 _ (by assumption)).out).mono ?_); rintro e w' ⟨rfl, hk⟩)) | (go_at_call 27; ((with_reducible refine ((c2 _ (by assumption)).out).mono ?_); rintro e w' ⟨rfl, hk⟩)) | (go_at_call 20; ((with_reducible refine ((c3 _ (by assumption)).out).mono ?_); rintro e w' ⟨rfl, hk⟩)))
  all_goals
    go_ret
    exact ⟨ret_bool (by simp), by assumption⟩

set_option maxRecDepth 100000 in
set_option maxHeartbeats 2000000 in
theorem parts_neg_down (a b : Int) (q Q z L X : Int) (wa : I32 a) (wb : I32 b) (hb : b ≠ 0) (hq : Fx.div a b = q) (hq1 : q < 2147483647) (hq2 : -2147483648 < q) (hQ : q * b = Q) (hQ1 : -140737488355328 ≤ Q ∧ Q ≤ 140737488355328) (hz : (b.natAbs : Int) = z) (hz0 : 0 < z) (hz1 : z ≤ 2147483648) (hL : a * 65536 - Q = L) (hX : L * b = X) (hX1 : -4611686018427387904 ≤ X ∧ X ≤ 4611686018427387904) (hX0 : (X != 0) = true) (hL0 : L < 0) (hL1 : -z < L) (ha : a < 0) (h0 : a ≤ 0) (w : World) :
    Calls Try.prog 6 #[.int .i32 a, .int .i32 b] w fun e w' => e = .returned (.bool true) ∧ Kept w w' := by
  have hk := Kept.refl w
  have c0 := fun (x : World) (h : Kept w x) => Lib.hid (told_t h)
  have c1 := fun (x : World) (h : Kept w x) => Lib.hid (fixdiv_t h a b q wa wb hq)
  have hbb : (b != 0) = true := by simpa using hb
  have hq1' : q ≤ 2147483647 := by omega
  have hq2' : -2147483648 ≤ q := by omega
  have c2 := fun (x : World) (h : Kept w x) => Lib.hid (size_t h b z wb hz)
  have c3 := fun (x : World) (h : Kept w x) => Lib.hid (fixroot_t h a 0 wa (root_neg h0))
  clear hq hb hz
  go_enter Try.func6, Try.ntmps6
  go_wp2_with (first | (go_at_call 11; ((with_reducible refine ((c0 _ (by assumption)).out).mono ?_); rintro e w' ⟨rfl, hk⟩)) | (go_at_call 18; ((with_reducible refine ((c1 _ (by assumption)).out).mono ?_); rintro e w' ⟨rfl, hk⟩)) | (go_at_call 27; ((with_reducible refine ((c2 _ (by assumption)).out).mono ?_); rintro e w' ⟨rfl, hk⟩)) | (go_at_call 20; ((with_reducible refine ((c3 _ (by assumption)).out).mono ?_); rintro e w' ⟨rfl, hk⟩)))
  all_goals
    go_ret
    exact ⟨ret_bool (by simp), by assumption⟩

theorem parts_law (a b : Int) (wa : I32 a) (wb : I32 b) (w : World) :
    Calls Try.prog 6 #[.int .i32 a, .int .i32 b] w fun e w' => e = .returned (.bool true) ∧ Kept w w' := by
  have bd := Fx.div_bd a b
  by_cases h0 : a ≤ 0
  · by_cases hb : b = 0
    · exact parts_zero_down a b wa wb hb h0 w
    · by_cases q1 : Fx.div a b = 2147483647
      · exact parts_hi_down a b wa wb hb q1 h0 w
      · by_cases q2 : Fx.div a b = -2147483648
        · exact parts_lo_down a b wa wb hb q2 h0 w
        · obtain ⟨l1, l2, l3, l4⟩ := parts_left wa wb hb (by omega) (by omega)
          by_cases hl : a * 65536 - Fx.div a b * b = 0
          · exact parts_none_down a b _ _ _ wa wb hb rfl (by omega) (by omega) rfl (by omega) rfl (by omega) (by omega) hl h0 w
          · obtain ⟨x0, x1⟩ := parts_x l1 wb hl
            exact parts_neg_down a b _ _ _ _ _ wa wb hb rfl (by omega) (by omega) rfl (by omega) rfl (by omega) (by omega) rfl rfl x1 x0 (by omega) (by omega) (by omega) h0 w
  · obtain ⟨r1, r2, r3, r4⟩ := parts_sq (by omega) wa
    obtain ⟨r5, r6, r7, r8⟩ := sqr_bd r3 r4
    by_cases hb : b = 0
    · exact parts_zero_up a b _ _ _ wa wb hb (by omega) rfl r3 r4 rfl rfl r5 r7 r8 r1 r2 w
    · by_cases q1 : Fx.div a b = 2147483647
      · exact parts_hi_up a b _ _ _ wa wb hb q1 (by omega) rfl r3 r4 rfl rfl r5 r7 r8 r1 r2 w
      · by_cases q2 : Fx.div a b = -2147483648
        · exact parts_lo_up a b _ _ _ wa wb hb q2 (by omega) rfl r3 r4 rfl rfl r5 r7 r8 r1 r2 w
        · obtain ⟨l1, l2, l3, l4⟩ := parts_left wa wb hb (by omega) (by omega)
          by_cases hl : a * 65536 - Fx.div a b * b = 0
          · exact parts_none_up a b _ _ _ _ _ _ wa wb hb rfl (by omega) (by omega) rfl (by omega) rfl (by omega) (by omega) hl (by omega) rfl r3 r4 rfl rfl r5 r7 r8 r1 r2 w
          · obtain ⟨x0, x1⟩ := parts_x l1 wb hl
            exact parts_pos_up a b _ _ _ _ _ _ _ _ wa wb hb rfl (by omega) (by omega) rfl (by omega) rfl (by omega) (by omega) rfl rfl x1 x0 (by omega) (by omega) (by omega) (by omega) rfl r3 r4 rfl rfl r5 r7 r8 r1 r2 w

end Go.Proofs.Ytpcndjmhikigfaa
