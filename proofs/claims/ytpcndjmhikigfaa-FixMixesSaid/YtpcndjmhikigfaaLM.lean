/-
FixMixes: the walk.
-/
import Derived.Test.YtpcndjmhikigfaaFt
import Derived.Test.YtpcndjmhikigfaaFz
namespace Go.Proofs.Ytpcndjmhikigfaa
open Go.RowKit
set_option linter.unusedVariables false

theorem mixes_m {a p : Int} (wa : I32 a) (hp : -65536 ≤ p ∧ p ≤ 65536) : (Fx.mul a p).natAbs ≤ a.natAbs := by
  have h : ((a * p).tdiv 65536).natAbs ≤ a.natAbs := by
    rw [Int.natAbs_tdiv, Int.natAbs_mul]
    have := Nat.mul_le_mul_left a.natAbs (show p.natAbs ≤ 65536 by omega)
    show a.natAbs * p.natAbs / 65536 ≤ a.natAbs
    omega
  unfold Fx.mul Fx.cut
  omega
theorem mixes_h {a : Int} (wa : I32 a) : Fx.mul a 32768 = a.tdiv 2 := by
  have e : (a * 32768).tdiv 65536 = a.tdiv 2 := by
    rw [show a * 32768 = 32768 * a from Int.mul_comm _ _, show (65536 : Int) = 32768 * 2 from rfl, Int.mul_tdiv_mul_of_pos _ _ (by omega)]
  unfold Fx.mul
  rw [e]
  have := Fx.tdiv_bd (a := a) (b := 2) 2147483648 (by omega)
  have t := Int.tmod_add_mul_tdiv a 2
  have t2 : (a.tmod 2).natAbs ≤ 1 := by
    rw [Int.natAbs_tmod]
    have := Nat.mod_lt a.natAbs (show 0 < (2 : Int).natAbs by decide)
    have h2 : (2 : Int).natAbs = 2 := rfl
    omega
  exact Fx.cut_in (by omega) (by omega)
theorem tmod2 (a : Int) : -1 ≤ a.tmod 2 ∧ a.tmod 2 ≤ 1 := by
  have h : (a.tmod 2).natAbs ≤ 1 := by
    rw [Int.natAbs_tmod]
    have := Nat.mod_lt a.natAbs (show 0 < (2 : Int).natAbs by decide)
    have h2 : (2 : Int).natAbs = 2 := rfl
    omega
  omega
theorem mixes_d {k : Int} (h : I32 (2 * k)) : Fx.div k 32768 = 2 * k := by
  have e : (k * 65536).tdiv 32768 = 2 * k := by
    rw [show k * 65536 = (2 * k) * 32768 from by omega, Int.mul_tdiv_cancel _ (by omega)]
  unfold Fx.div
  rw [if_neg (by omega), e]
  exact Fx.cut_in h.1 h.2

set_option maxRecDepth 100000 in
set_option maxHeartbeats 2000000 in
theorem mixes_pos (a q p m k z r : Int) (wa : I32 a) (wq : I32 q) (hp : Fx.clamp q (-65536) 65536 = p) (wp : I32 p) (hm : Fx.mul a p = m) (wm : I32 m) (hz : (a.natAbs : Int) = z)
    (hk : Fx.mul a 32768 = k) (wk : I32 k) (wkk : I32 (2 * k)) (hr : a.tmod 2 = r) (hr1 : a - 2 * k = r) (wr : -1 ≤ r ∧ r ≤ 1) (h0 : 0 ≤ m) (h1 : m ≤ z) (w : World) :
    Calls Try.prog 9 #[.int .i32 a, .int .i32 q] w fun e w' => e = .returned (.bool true) ∧ Kept w w' := by
  have hkk := Kept.refl w
  have w1 : I32 (-65536) := by omega
  have w2 : I32 65536 := by omega
  have w3 : I32 32768 := by omega
  have e1 : Fx.cut (k + k) = 2 * k := by unfold Fx.cut; omega
  have e2 : Fx.cut (a - 2 * k) = r := by unfold Fx.cut; omega
  have e3 := mixes_d wkk
  have c0 := fun (x : World) (h : Kept w x) => Lib.hid (told_t h)
  have c1 := fun (x : World) (h : Kept w x) => Lib.hid (fixclamp_t h q (-65536) 65536 p wq w1 w2 hp)
  have c2 := fun (x : World) (h : Kept w x) => Lib.hid (fixmul_t h a p m wa wp hm)
  have c3 := fun (x : World) (h : Kept w x) => Lib.hid (fixmul_t h a 32768 k wa w3 hk)
  have c4 := fun (x : World) (h : Kept w x) => Lib.hid (fixadd_t h k k (2 * k) wk wk e1)
  have c5 := fun (x : World) (h : Kept w x) => Lib.hid (fixsub_t h a (2 * k) r wa wkk e2)
  have c6 := fun (x : World) (h : Kept w x) => Lib.hid (fixdiv_t h k 32768 (2 * k) wk w3 e3)
  have c7 := fun (x : World) (h : Kept w x) => Lib.hid (size_t h a z wa hz)
  clear hp hm hk e1 e2 e3 hz hr1 w1 w2 w3
  go_enter Try.func9, Try.ntmps9
  go_wp2_with (first | (go_at_call 11; ((with_reducible refine ((c0 _ (by assumption)).out).mono ?_); rintro e w' ⟨rfl, hk⟩)) | (go_at_call 22; ((with_reducible refine ((c1 _ (by assumption)).out).mono ?_); rintro e w' ⟨rfl, hk⟩)) | (go_at_call 16; first | ((with_reducible refine ((c2 _ (by assumption)).out).mono ?_); rintro e w' ⟨rfl, hk⟩) | ((with_reducible refine ((c3 _ (by assumption)).out).mono ?_); rintro e w' ⟨rfl, hk⟩)) | (go_at_call 12; ((with_reducible refine ((c4 _ (by assumption)).out).mono ?_); rintro e w' ⟨rfl, hk⟩)) | (go_at_call 14; ((with_reducible refine ((c5 _ (by assumption)).out).mono ?_); rintro e w' ⟨rfl, hk⟩)) | (go_at_call 18; ((with_reducible refine ((c6 _ (by assumption)).out).mono ?_); rintro e w' ⟨rfl, hk⟩)) | (go_at_call 27; ((with_reducible refine ((c7 _ (by assumption)).out).mono ?_); rintro e w' ⟨rfl, hk⟩)))
  all_goals
    go_ret
    exact ⟨ret_bool (by simp), by assumption⟩

set_option maxRecDepth 100000 in
set_option maxHeartbeats 2000000 in
theorem mixes_neg (a q p m k z r : Int) (wa : I32 a) (wq : I32 q) (hp : Fx.clamp q (-65536) 65536 = p) (wp : I32 p) (hm : Fx.mul a p = m) (wm : I32 m) (hz : (a.natAbs : Int) = z)
    (hk : Fx.mul a 32768 = k) (wk : I32 k) (wkk : I32 (2 * k)) (hr : a.tmod 2 = r) (hr1 : a - 2 * k = r) (wr : -1 ≤ r ∧ r ≤ 1) (h0 : m < 0) (h1 : -m ≤ z) (w : World) :
    Calls Try.prog 9 #[.int .i32 a, .int .i32 q] w fun e w' => e = .returned (.bool true) ∧ Kept w w' := by
  have hkk := Kept.refl w
  have w1 : I32 (-65536) := by omega
  have w2 : I32 65536 := by omega
  have w3 : I32 32768 := by omega
  have e1 : Fx.cut (k + k) = 2 * k := by unfold Fx.cut; omega
  have e2 : Fx.cut (a - 2 * k) = r := by unfold Fx.cut; omega
  have e3 := mixes_d wkk
  have c0 := fun (x : World) (h : Kept w x) => Lib.hid (told_t h)
  have c1 := fun (x : World) (h : Kept w x) => Lib.hid (fixclamp_t h q (-65536) 65536 p wq w1 w2 hp)
  have c2 := fun (x : World) (h : Kept w x) => Lib.hid (fixmul_t h a p m wa wp hm)
  have c3 := fun (x : World) (h : Kept w x) => Lib.hid (fixmul_t h a 32768 k wa w3 hk)
  have c4 := fun (x : World) (h : Kept w x) => Lib.hid (fixadd_t h k k (2 * k) wk wk e1)
  have c5 := fun (x : World) (h : Kept w x) => Lib.hid (fixsub_t h a (2 * k) r wa wkk e2)
  have c6 := fun (x : World) (h : Kept w x) => Lib.hid (fixdiv_t h k 32768 (2 * k) wk w3 e3)
  have c7 := fun (x : World) (h : Kept w x) => Lib.hid (size_t h a z wa hz)
  clear hp hm hk e1 e2 e3 hz hr1 w1 w2 w3
  go_enter Try.func9, Try.ntmps9
  go_wp2_with (first | (go_at_call 11; ((with_reducible refine ((c0 _ (by assumption)).out).mono ?_); rintro e w' ⟨rfl, hk⟩)) | (go_at_call 22; ((with_reducible refine ((c1 _ (by assumption)).out).mono ?_); rintro e w' ⟨rfl, hk⟩)) | (go_at_call 16; first | ((with_reducible refine ((c2 _ (by assumption)).out).mono ?_); rintro e w' ⟨rfl, hk⟩) | ((with_reducible refine ((c3 _ (by assumption)).out).mono ?_); rintro e w' ⟨rfl, hk⟩)) | (go_at_call 12; ((with_reducible refine ((c4 _ (by assumption)).out).mono ?_); rintro e w' ⟨rfl, hk⟩)) | (go_at_call 14; ((with_reducible refine ((c5 _ (by assumption)).out).mono ?_); rintro e w' ⟨rfl, hk⟩)) | (go_at_call 18; ((with_reducible refine ((c6 _ (by assumption)).out).mono ?_); rintro e w' ⟨rfl, hk⟩)) | (go_at_call 27; ((with_reducible refine ((c7 _ (by assumption)).out).mono ?_); rintro e w' ⟨rfl, hk⟩)))
  all_goals
    go_ret
    exact ⟨ret_bool (by simp), by assumption⟩

theorem mixes_law (a q : Int) (wa : I32 a) (wq : I32 q) (w : World) :
    Calls Try.prog 9 #[.int .i32 a, .int .i32 q] w fun e w' => e = .returned (.bool true) ∧ Kept w w' := by
  have bp : -65536 ≤ Fx.clamp q (-65536) 65536 ∧ Fx.clamp q (-65536) 65536 ≤ 65536 := by unfold Fx.clamp; omega
  have bm := mixes_m wa bp
  have hh := mixes_h wa
  have t := Int.tmod_add_mul_tdiv a 2
  have t2 := tmod2 a
  have hk2 : (Fx.mul a 32768).natAbs = a.natAbs / 2 := by rw [hh, Int.natAbs_tdiv]; rfl
  have wm := Fx.mul_bd a (Fx.clamp q (-65536) 65536)
  rw [← hh] at t
  by_cases h : 0 ≤ Fx.mul a (Fx.clamp q (-65536) 65536)
  · exact mixes_pos a q _ _ _ _ _ wa wq rfl (by omega) rfl wm rfl rfl (by omega) (by omega) rfl (by omega) t2 h (by omega) w
  · exact mixes_neg a q _ _ _ _ _ wa wq rfl (by omega) rfl wm rfl rfl (by omega) (by omega) rfl (by omega) t2 (by omega) (by omega) w

end Go.Proofs.Ytpcndjmhikigfaa
