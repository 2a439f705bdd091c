/-
CurveEnds: the walk.
-/
import Derived.Test.YtdddpnjamgbcmaaCt
namespace Go.Proofs.Ytdddpnjamgbcmaa
open Go.RowKit
set_option linter.unusedVariables false

set_option maxRecDepth 100000 in
set_option maxHeartbeats 2000000 in
theorem ends_nan (a b t m : Nat) (wa : a < 2 ^ 64) (wb : b < 2 ^ 64) (hm : Cv.mix a b t = m) (he : m = a) (jt : (FloatKind.f64.format.order t t != some .eq) = true) (w : World) :
    Calls Try.prog 5 #[.float .f64 a, .float .f64 b, .float .f64 t] w fun e w' => e = .returned (.bool true) ∧ Kept w w' := by
  have hk := Kept.refl w
  have c0 := fun (X : World) (hX : Kept w X) => Lib.hid (told_t hX)
  have c1 := fun (X : World) (hX : Kept w X) => Lib.hid (mix_t hX a b t m hm)
  have c2 := fun (X : World) (hX : Kept w X) => Lib.hid (same_t hX m a true (he ▸ wa) wa (by rw [he]; exact Cv.same_self a))
  clear hm he
  go_enter Try.func5, Try.ntmps5
  go_wp2_with (first | (go_at_call 11; ((with_reducible refine ((c0 _ (by assumption)).out).mono ?_); rintro e w' ⟨rfl, hk⟩)) | (go_at_call 18; ((with_reducible refine ((c1 _ (by assumption)).out).mono ?_); rintro e w' ⟨rfl, hk⟩)) | (go_at_call 12; ((with_reducible refine ((c2 _ (by assumption)).out).mono ?_); rintro e w' ⟨rfl, hk⟩)))
  all_goals
    go_ret
    exact ⟨ret_bool (by simp), by assumption⟩

set_option maxRecDepth 100000 in
set_option maxHeartbeats 2000000 in
theorem ends_low (a b t m : Nat) (wa : a < 2 ^ 64) (wb : b < 2 ^ 64) (hm : Cv.mix a b t = m) (he : m = a) (jt : (FloatKind.f64.format.order t t != some .eq) = false)(jl : (FloatKind.f64.format.order t 0 == some .lt || FloatKind.f64.format.order t 0 == some .eq) = true) (w : World) :
    Calls Try.prog 5 #[.float .f64 a, .float .f64 b, .float .f64 t] w fun e w' => e = .returned (.bool true) ∧ Kept w w' := by
  have hk := Kept.refl w
  have c0 := fun (X : World) (hX : Kept w X) => Lib.hid (told_t hX)
  have c1 := fun (X : World) (hX : Kept w X) => Lib.hid (mix_t hX a b t m hm)
  have c2 := fun (X : World) (hX : Kept w X) => Lib.hid (same_t hX m a true (he ▸ wa) wa (by rw [he]; exact Cv.same_self a))
  clear hm he
  go_enter Try.func5, Try.ntmps5
  go_wp2_with (first | (go_at_call 11; ((with_reducible refine ((c0 _ (by assumption)).out).mono ?_); rintro e w' ⟨rfl, hk⟩)) | (go_at_call 18; ((with_reducible refine ((c1 _ (by assumption)).out).mono ?_); rintro e w' ⟨rfl, hk⟩)) | (go_at_call 12; ((with_reducible refine ((c2 _ (by assumption)).out).mono ?_); rintro e w' ⟨rfl, hk⟩)))
  all_goals
    go_ret
    exact ⟨ret_bool (by simp), by assumption⟩

set_option maxRecDepth 100000 in
set_option maxHeartbeats 2000000 in
theorem ends_high (a b t m : Nat) (wa : a < 2 ^ 64) (wb : b < 2 ^ 64) (hm : Cv.mix a b t = m) (he : m = b) (jt : (FloatKind.f64.format.order t t != some .eq) = false)(jl : (FloatKind.f64.format.order t 0 == some .lt || FloatKind.f64.format.order t 0 == some .eq) = false)(jh : (FloatKind.f64.format.order t 4607182418800017408 == some .gt || FloatKind.f64.format.order t 4607182418800017408 == some .eq) = true) (w : World) :
    Calls Try.prog 5 #[.float .f64 a, .float .f64 b, .float .f64 t] w fun e w' => e = .returned (.bool true) ∧ Kept w w' := by
  have hk := Kept.refl w
  have c0 := fun (X : World) (hX : Kept w X) => Lib.hid (told_t hX)
  have c1 := fun (X : World) (hX : Kept w X) => Lib.hid (mix_t hX a b t m hm)
  have c2 := fun (X : World) (hX : Kept w X) => Lib.hid (same_t hX m b true (he ▸ wb) wb (by rw [he]; exact Cv.same_self b))
  clear hm he
  go_enter Try.func5, Try.ntmps5
  go_wp2_with (first | (go_at_call 11; ((with_reducible refine ((c0 _ (by assumption)).out).mono ?_); rintro e w' ⟨rfl, hk⟩)) | (go_at_call 18; ((with_reducible refine ((c1 _ (by assumption)).out).mono ?_); rintro e w' ⟨rfl, hk⟩)) | (go_at_call 12; ((with_reducible refine ((c2 _ (by assumption)).out).mono ?_); rintro e w' ⟨rfl, hk⟩)))
  all_goals
    go_ret
    exact ⟨ret_bool (by simp), by assumption⟩

set_option maxRecDepth 100000 in
set_option maxHeartbeats 2000000 in
theorem ends_an (a b t m : Nat) (wa : a < 2 ^ 64) (wb : b < 2 ^ 64) (hm : Cv.mix a b t = m) (jt : (FloatKind.f64.format.order t t != some .eq) = false)(jl : (FloatKind.f64.format.order t 0 == some .lt || FloatKind.f64.format.order t 0 == some .eq) = false)(jh : (FloatKind.f64.format.order t 4607182418800017408 == some .gt || FloatKind.f64.format.order t 4607182418800017408 == some .eq) = false)(ja : (FloatKind.f64.format.order a a != some .eq) = true)(jm : (FloatKind.f64.format.order m m != some .eq) = true) (w : World) :
    Calls Try.prog 5 #[.float .f64 a, .float .f64 b, .float .f64 t] w fun e w' => e = .returned (.bool true) ∧ Kept w w' := by
  have hk := Kept.refl w
  have c0 := fun (X : World) (hX : Kept w X) => Lib.hid (told_t hX)
  have c1 := fun (X : World) (hX : Kept w X) => Lib.hid (mix_t hX a b t m hm)
  clear hm
  go_enter Try.func5, Try.ntmps5
  go_wp2_with (first | (go_at_call 11; ((with_reducible refine ((c0 _ (by assumption)).out).mono ?_); rintro e w' ⟨rfl, hk⟩)) | (go_at_call 18; ((with_reducible refine ((c1 _ (by assumption)).out).mono ?_); rintro e w' ⟨rfl, hk⟩)))
  all_goals
    go_ret
    exact ⟨ret_bool (by simp), by assumption⟩

set_option maxRecDepth 100000 in
set_option maxHeartbeats 2000000 in
theorem ends_bn (a b t m : Nat) (wa : a < 2 ^ 64) (wb : b < 2 ^ 64) (hm : Cv.mix a b t = m) (jt : (FloatKind.f64.format.order t t != some .eq) = false)(jl : (FloatKind.f64.format.order t 0 == some .lt || FloatKind.f64.format.order t 0 == some .eq) = false)(jh : (FloatKind.f64.format.order t 4607182418800017408 == some .gt || FloatKind.f64.format.order t 4607182418800017408 == some .eq) = false)(ja : (FloatKind.f64.format.order a a != some .eq) = false)(jb : (FloatKind.f64.format.order b b != some .eq) = true)(jm : (FloatKind.f64.format.order m m != some .eq) = true) (w : World) :
    Calls Try.prog 5 #[.float .f64 a, .float .f64 b, .float .f64 t] w fun e w' => e = .returned (.bool true) ∧ Kept w w' := by
  have hk := Kept.refl w
  have c0 := fun (X : World) (hX : Kept w X) => Lib.hid (told_t hX)
  have c1 := fun (X : World) (hX : Kept w X) => Lib.hid (mix_t hX a b t m hm)
  clear hm
  go_enter Try.func5, Try.ntmps5
  go_wp2_with (first | (go_at_call 11; ((with_reducible refine ((c0 _ (by assumption)).out).mono ?_); rintro e w' ⟨rfl, hk⟩)) | (go_at_call 18; ((with_reducible refine ((c1 _ (by assumption)).out).mono ?_); rintro e w' ⟨rfl, hk⟩)))
  all_goals
    go_ret
    exact ⟨ret_bool (by simp), by assumption⟩

set_option maxRecDepth 100000 in
set_option maxHeartbeats 2000000 in
theorem ends_mid (a b t m : Nat) (wa : a < 2 ^ 64) (wb : b < 2 ^ 64) (hm : Cv.mix a b t = m) (jt : (FloatKind.f64.format.order t t != some .eq) = false)(jl : (FloatKind.f64.format.order t 0 == some .lt || FloatKind.f64.format.order t 0 == some .eq) = false)(jh : (FloatKind.f64.format.order t 4607182418800017408 == some .gt || FloatKind.f64.format.order t 4607182418800017408 == some .eq) = false)(ja : (FloatKind.f64.format.order a a != some .eq) = false)(jb : (FloatKind.f64.format.order b b != some .eq) = false)(jm : (FloatKind.f64.format.order m m == some .eq) = true) (na : Fl.isNaN a = false) (w : World) :
    Calls Try.prog 5 #[.float .f64 a, .float .f64 b, .float .f64 t] w fun e w' => e = .returned (.bool true) ∧ Kept w w' := by
  have hk := Kept.refl w
  have c0 := fun (X : World) (hX : Kept w X) => Lib.hid (told_t hX)
  have c1 := fun (X : World) (hX : Kept w X) => Lib.hid (mix_t hX a b t m hm)
  have c3 := fun (X : World) (hX : Kept w X) => Lib.hid (mix_t hX a a t a (Cv.mix_self na))
  have c4 := fun (X : World) (hX : Kept w X) => Lib.hid (same_t hX a a true wa wa (Cv.same_self a))
  clear hm na
  go_enter Try.func5, Try.ntmps5
  go_wp2_with (first | (go_at_call 11; ((with_reducible refine ((c0 _ (by assumption)).out).mono ?_); rintro e w' ⟨rfl, hk⟩)) | (go_at_call 18; first | ((with_reducible refine ((c1 _ (by assumption)).out).mono ?_); rintro e w' ⟨rfl, hk⟩) | ((with_reducible refine ((c3 _ (by assumption)).out).mono ?_); rintro e w' ⟨rfl, hk⟩)) | (go_at_call 12; ((with_reducible refine ((c4 _ (by assumption)).out).mono ?_); rintro e w' ⟨rfl, hk⟩)))
  all_goals
    go_ret
    exact ⟨ret_bool (by simp), by assumption⟩

theorem ends_law (a b t : Nat) (wa : a < 2 ^ 64) (wb : b < 2 ^ 64) (w : World) :
    Calls Try.prog 5 #[.float .f64 a, .float .f64 b, .float .f64 t] w fun e w' => e = .returned (.bool true) ∧ Kept w w' := by
  have jt := ne_self t
  have ja := ne_self a
  have jb := ne_self b
  have up := Cv.U0
  cases ht : Fl.isNaN t
  · have jl := Fl.le_iff ht Cv.n0
    have jh := Fl.ge_iff ht Cv.n1
    rw [Cv.z0] at jl
    rw [Cv.z1] at jh
    rw [ht] at jt
    by_cases c1 : Fl.Z t ≤ 0
    · rw [decide_eq_true c1] at jl
      have hu : Cv.unit t = 0 := by unfold Cv.unit; rw [ht, if_neg (by simp), if_pos c1]
      exact ends_low a b t _ wa wb rfl (by unfold Cv.mix; rw [hu, Cv.z0, if_pos rfl]) jt jl w
    · rw [decide_eq_false c1] at jl
      by_cases c2 : (Fl.U : Int) ≤ Fl.Z t
      · rw [decide_eq_true c2] at jh
        have hu : Cv.unit t = 4607182418800017408 := by unfold Cv.unit; rw [ht, if_neg (by simp), if_neg c1, if_pos c2]
        exact ends_high a b t _ wa wb rfl (by unfold Cv.mix; rw [hu, Cv.z1, if_neg (by omega), if_pos rfl]) jt jl jh w
      · rw [decide_eq_false c2] at jh
        have hu : Cv.unit t = t := by unfold Cv.unit; rw [ht, if_neg (by simp), if_neg c1, if_neg c2]
        have h0 : Fl.Z (Cv.unit t) ≠ 0 := by rw [hu]; omega
        have h1 : Fl.Z (Cv.unit t) ≠ Fl.U := by rw [hu]; omega
        have nl : (FloatKind.f64.format.order 9221120237041090561 9221120237041090561 != some .eq) = true := by decide +kernel
        cases na : Fl.isNaN a
        · rw [na] at ja
          cases nb : Fl.isNaN b
          · rw [nb] at jb
            have k := Cv.mix_num (t := t) na nb
            have jm := Fl.eq_iff k k
            rw [decide_eq_true rfl] at jm
            exact ends_mid a b t _ wa wb rfl jt jl jh ja jb jm na w
          · rw [nb] at jb
            exact ends_bn a b t _ wa wb (Cv.mix_nan h0 h1 (by rw [nb]; simp)) jt jl jh ja jb nl w
        · rw [na] at ja
          exact ends_an a b t _ wa wb (Cv.mix_nan h0 h1 (by rw [na]; simp)) jt jl jh ja nl w
  · rw [ht] at jt
    have hu : Cv.unit t = 0 := by unfold Cv.unit; rw [ht, if_pos rfl]
    exact ends_nan a b t _ wa wb rfl (by unfold Cv.mix; rw [hu, Cv.z0, if_pos rfl]) jt w

end Go.Proofs.Ytdddpnjamgbcmaa
