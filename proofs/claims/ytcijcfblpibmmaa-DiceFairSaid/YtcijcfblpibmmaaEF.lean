/-
DiceFair: the walk.
-/
import Derived.Test.YtcijcfblpibmmaaDt
namespace Go.Proofs.Ytcijcfblpibmmaa
open Go.RowKit
set_option linter.unusedVariables false
theorem half_0 {r : Int} (h : 0 ≤ r ∧ r ≤ 18446744073709551615) : Dn.share r 1 = 0 ∧ Dn.share r 2 / 2 = Dn.share r 1 := by unfold Dn.share; omega
theorem half_1 {r : Int} (h : 0 ≤ r ∧ r ≤ 18446744073709551615) : r / 9223372036854775808 = Dn.share r 2 ∧ Dn.share r 4 / 2 = Dn.share r 2 := by unfold Dn.share; omega
theorem half_2 {r : Int} (h : 0 ≤ r ∧ r ≤ 18446744073709551615) : r / 4611686018427387904 = Dn.share r 4 ∧ Dn.share r 8 / 2 = Dn.share r 4 := by unfold Dn.share; omega
theorem half_3 {r : Int} (h : 0 ≤ r ∧ r ≤ 18446744073709551615) : r / 2305843009213693952 = Dn.share r 8 ∧ Dn.share r 16 / 2 = Dn.share r 8 := by unfold Dn.share; omega
theorem half_4 {r : Int} (h : 0 ≤ r ∧ r ≤ 18446744073709551615) : r / 1152921504606846976 = Dn.share r 16 ∧ Dn.share r 32 / 2 = Dn.share r 16 := by unfold Dn.share; omega
theorem half_5 {r : Int} (h : 0 ≤ r ∧ r ≤ 18446744073709551615) : r / 576460752303423488 = Dn.share r 32 ∧ Dn.share r 64 / 2 = Dn.share r 32 := by unfold Dn.share; omega
theorem half_6 {r : Int} (h : 0 ≤ r ∧ r ≤ 18446744073709551615) : r / 288230376151711744 = Dn.share r 64 ∧ Dn.share r 128 / 2 = Dn.share r 64 := by unfold Dn.share; omega
theorem half_7 {r : Int} (h : 0 ≤ r ∧ r ≤ 18446744073709551615) : r / 144115188075855872 = Dn.share r 128 ∧ Dn.share r 256 / 2 = Dn.share r 128 := by unfold Dn.share; omega
theorem half_8 {r : Int} (h : 0 ≤ r ∧ r ≤ 18446744073709551615) : r / 72057594037927936 = Dn.share r 256 ∧ Dn.share r 512 / 2 = Dn.share r 256 := by unfold Dn.share; omega
theorem half_9 {r : Int} (h : 0 ≤ r ∧ r ≤ 18446744073709551615) : r / 36028797018963968 = Dn.share r 512 ∧ Dn.share r 1024 / 2 = Dn.share r 512 := by unfold Dn.share; omega
theorem half_10 {r : Int} (h : 0 ≤ r ∧ r ≤ 18446744073709551615) : r / 18014398509481984 = Dn.share r 1024 ∧ Dn.share r 2048 / 2 = Dn.share r 1024 := by unfold Dn.share; omega
theorem half_11 {r : Int} (h : 0 ≤ r ∧ r ≤ 18446744073709551615) : r / 9007199254740992 = Dn.share r 2048 ∧ Dn.share r 4096 / 2 = Dn.share r 2048 := by unfold Dn.share; omega
theorem half_12 {r : Int} (h : 0 ≤ r ∧ r ≤ 18446744073709551615) : r / 4503599627370496 = Dn.share r 4096 ∧ Dn.share r 8192 / 2 = Dn.share r 4096 := by unfold Dn.share; omega
theorem half_13 {r : Int} (h : 0 ≤ r ∧ r ≤ 18446744073709551615) : r / 2251799813685248 = Dn.share r 8192 ∧ Dn.share r 16384 / 2 = Dn.share r 8192 := by unfold Dn.share; omega
theorem half_14 {r : Int} (h : 0 ≤ r ∧ r ≤ 18446744073709551615) : r / 1125899906842624 = Dn.share r 16384 ∧ Dn.share r 32768 / 2 = Dn.share r 16384 := by unfold Dn.share; omega
theorem half_15 {r : Int} (h : 0 ≤ r ∧ r ≤ 18446744073709551615) : r / 562949953421312 = Dn.share r 32768 ∧ Dn.share r 65536 / 2 = Dn.share r 32768 := by unfold Dn.share; omega
theorem half_16 {r : Int} (h : 0 ≤ r ∧ r ≤ 18446744073709551615) : r / 281474976710656 = Dn.share r 65536 ∧ Dn.share r 131072 / 2 = Dn.share r 65536 := by unfold Dn.share; omega
theorem half_17 {r : Int} (h : 0 ≤ r ∧ r ≤ 18446744073709551615) : r / 140737488355328 = Dn.share r 131072 ∧ Dn.share r 262144 / 2 = Dn.share r 131072 := by unfold Dn.share; omega
theorem half_18 {r : Int} (h : 0 ≤ r ∧ r ≤ 18446744073709551615) : r / 70368744177664 = Dn.share r 262144 ∧ Dn.share r 524288 / 2 = Dn.share r 262144 := by unfold Dn.share; omega
theorem half_19 {r : Int} (h : 0 ≤ r ∧ r ≤ 18446744073709551615) : r / 35184372088832 = Dn.share r 524288 ∧ Dn.share r 1048576 / 2 = Dn.share r 524288 := by unfold Dn.share; omega

set_option maxRecDepth 100000 in
set_option maxHeartbeats 2000000 in
theorem fair_0 (d n N r g x y a b : Int) (wd : 0 ≤ d ∧ d ≤ 18446744073709551615) (hN : IntKind.u64.wrap n = N) (wN : 0 ≤ N ∧ N ≤ 18446744073709551615) (hm : N % 20 = 0) (h1 : Dn.next d = r) (wr : 0 ≤ r ∧ r ≤ 18446744073709551615) (h2 : Dn.next r = g) (h3 : Dn.share r 16777216 = x) (h4 : Dn.share g 16777216 = y) (wx : 0 ≤ x ∧ x < 16777216) (wy : 0 ≤ y ∧ y < 16777216) (h5 : Dn.share r 1 = a) (h6 : Dn.share r 2 = b) (wa : 0 ≤ a ∧ a < 1) (wb : 0 ≤ b ∧ b < 2) (hq : a = 0) (hb : b / 2 = a) (w : World) :
    Calls Try.prog 7 #[.int .u64 d, .int .i64 n] w fun e w' => e = .returned (.bool true) ∧ Kept w w' := by
  have hk := Kept.refl w
  have c0 := fun (X : World) (hX : Kept w X) => Lib.hid (told_t hX)
  have c3 := fun (X : World) (hX : Kept w X) => Lib.hid (place_t hX d r g x y wd h1 h2 h3 h4)
  have c4 := fun (X : World) (hX : Kept w X) => Lib.hid (pickin_t hX d 1 a r wd (by omega) h1 h5)
  have c5 := fun (X : World) (hX : Kept w X) => Lib.hid (pickin_t hX d 2 b r wd (by omega) h1 h6)
  have c6 := fun (X : World) (hX : Kept w X) => Lib.hid (pickin_t hX d 16777216 x r wd (by omega) h1 h3)
  clear h1 h2 h3 h4 h5 h6
  subst hq
  go_enter Try.func7, Try.ntmps7
  go_wp2_with (first | (go_at_call 8; ((with_reducible refine ((c0 _ (by assumption)).out).mono ?_); rintro e w' ⟨rfl, hk⟩)) | (go_at_call 11; ((with_reducible refine ((c3 _ (by assumption)).out).mono ?_); rintro e w' ⟨rfl, hk⟩)) | (go_at_call 9; first | ((with_reducible refine ((c4 _ (by assumption)).out).mono ?_); rintro e w' ⟨rfl, hk⟩) | ((with_reducible refine ((c5 _ (by assumption)).out).mono ?_); rintro e w' ⟨rfl, hk⟩) | ((with_reducible refine ((c6 _ (by assumption)).out).mono ?_); rintro e w' ⟨rfl, hk⟩)))
  all_goals
    go_ret
    exact ⟨ret_bool (by simp), by assumption⟩

set_option maxRecDepth 100000 in
set_option maxHeartbeats 2000000 in
theorem fair_1 (d n N r g x y a b : Int) (wd : 0 ≤ d ∧ d ≤ 18446744073709551615) (hN : IntKind.u64.wrap n = N) (wN : 0 ≤ N ∧ N ≤ 18446744073709551615) (hm : N % 20 = 1) (h1 : Dn.next d = r) (wr : 0 ≤ r ∧ r ≤ 18446744073709551615) (h2 : Dn.next r = g) (h3 : Dn.share r 16777216 = x) (h4 : Dn.share g 16777216 = y) (wx : 0 ≤ x ∧ x < 16777216) (wy : 0 ≤ y ∧ y < 16777216) (h5 : Dn.share r 2 = a) (h6 : Dn.share r 4 = b) (wa : 0 ≤ a ∧ a < 2) (wb : 0 ≤ b ∧ b < 4) (hq : r / 9223372036854775808 = a) (hb : b / 2 = a) (w : World) :
    Calls Try.prog 7 #[.int .u64 d, .int .i64 n] w fun e w' => e = .returned (.bool true) ∧ Kept w w' := by
  have hk := Kept.refl w
  have c0 := fun (X : World) (hX : Kept w X) => Lib.hid (told_t hX)
  have c3 := fun (X : World) (hX : Kept w X) => Lib.hid (place_t hX d r g x y wd h1 h2 h3 h4)
  have c4 := fun (X : World) (hX : Kept w X) => Lib.hid (pickin_t hX d 2 a r wd (by omega) h1 h5)
  have c5 := fun (X : World) (hX : Kept w X) => Lib.hid (pickin_t hX d 4 b r wd (by omega) h1 h6)
  have c6 := fun (X : World) (hX : Kept w X) => Lib.hid (pickin_t hX d 16777216 x r wd (by omega) h1 h3)
  clear h1 h2 h3 h4 h5 h6
  go_enter Try.func7, Try.ntmps7
  go_wp2_with (first | (go_at_call 8; ((with_reducible refine ((c0 _ (by assumption)).out).mono ?_); rintro e w' ⟨rfl, hk⟩)) | (go_at_call 11; ((with_reducible refine ((c3 _ (by assumption)).out).mono ?_); rintro e w' ⟨rfl, hk⟩)) | (go_at_call 9; first | ((with_reducible refine ((c4 _ (by assumption)).out).mono ?_); rintro e w' ⟨rfl, hk⟩) | ((with_reducible refine ((c5 _ (by assumption)).out).mono ?_); rintro e w' ⟨rfl, hk⟩) | ((with_reducible refine ((c6 _ (by assumption)).out).mono ?_); rintro e w' ⟨rfl, hk⟩)))
  all_goals
    go_ret
    exact ⟨ret_bool (by simp), by assumption⟩

set_option maxRecDepth 100000 in
set_option maxHeartbeats 2000000 in
theorem fair_2 (d n N r g x y a b : Int) (wd : 0 ≤ d ∧ d ≤ 18446744073709551615) (hN : IntKind.u64.wrap n = N) (wN : 0 ≤ N ∧ N ≤ 18446744073709551615) (hm : N % 20 = 2) (h1 : Dn.next d = r) (wr : 0 ≤ r ∧ r ≤ 18446744073709551615) (h2 : Dn.next r = g) (h3 : Dn.share r 16777216 = x) (h4 : Dn.share g 16777216 = y) (wx : 0 ≤ x ∧ x < 16777216) (wy : 0 ≤ y ∧ y < 16777216) (h5 : Dn.share r 4 = a) (h6 : Dn.share r 8 = b) (wa : 0 ≤ a ∧ a < 4) (wb : 0 ≤ b ∧ b < 8) (hq : r / 4611686018427387904 = a) (hb : b / 2 = a) (w : World) :
    Calls Try.prog 7 #[.int .u64 d, .int .i64 n] w fun e w' => e = .returned (.bool true) ∧ Kept w w' := by
  have hk := Kept.refl w
  have c0 := fun (X : World) (hX : Kept w X) => Lib.hid (told_t hX)
  have c3 := fun (X : World) (hX : Kept w X) => Lib.hid (place_t hX d r g x y wd h1 h2 h3 h4)
  have c4 := fun (X : World) (hX : Kept w X) => Lib.hid (pickin_t hX d 4 a r wd (by omega) h1 h5)
  have c5 := fun (X : World) (hX : Kept w X) => Lib.hid (pickin_t hX d 8 b r wd (by omega) h1 h6)
  have c6 := fun (X : World) (hX : Kept w X) => Lib.hid (pickin_t hX d 16777216 x r wd (by omega) h1 h3)
  clear h1 h2 h3 h4 h5 h6
  go_enter Try.func7, Try.ntmps7
  go_wp2_with (first | (go_at_call 8; ((with_reducible refine ((c0 _ (by assumption)).out).mono ?_); rintro e w' ⟨rfl, hk⟩)) | (go_at_call 11; ((with_reducible refine ((c3 _ (by assumption)).out).mono ?_); rintro e w' ⟨rfl, hk⟩)) | (go_at_call 9; first | ((with_reducible refine ((c4 _ (by assumption)).out).mono ?_); rintro e w' ⟨rfl, hk⟩) | ((with_reducible refine ((c5 _ (by assumption)).out).mono ?_); rintro e w' ⟨rfl, hk⟩) | ((with_reducible refine ((c6 _ (by assumption)).out).mono ?_); rintro e w' ⟨rfl, hk⟩)))
  all_goals
    go_ret
    exact ⟨ret_bool (by simp), by assumption⟩

set_option maxRecDepth 100000 in
set_option maxHeartbeats 2000000 in
theorem fair_3 (d n N r g x y a b : Int) (wd : 0 ≤ d ∧ d ≤ 18446744073709551615) (hN : IntKind.u64.wrap n = N) (wN : 0 ≤ N ∧ N ≤ 18446744073709551615) (hm : N % 20 = 3) (h1 : Dn.next d = r) (wr : 0 ≤ r ∧ r ≤ 18446744073709551615) (h2 : Dn.next r = g) (h3 : Dn.share r 16777216 = x) (h4 : Dn.share g 16777216 = y) (wx : 0 ≤ x ∧ x < 16777216) (wy : 0 ≤ y ∧ y < 16777216) (h5 : Dn.share r 8 = a) (h6 : Dn.share r 16 = b) (wa : 0 ≤ a ∧ a < 8) (wb : 0 ≤ b ∧ b < 16) (hq : r / 2305843009213693952 = a) (hb : b / 2 = a) (w : World) :
    Calls Try.prog 7 #[.int .u64 d, .int .i64 n] w fun e w' => e = .returned (.bool true) ∧ Kept w w' := by
  have hk := Kept.refl w
  have c0 := fun (X : World) (hX : Kept w X) => Lib.hid (told_t hX)
  have c3 := fun (X : World) (hX : Kept w X) => Lib.hid (place_t hX d r g x y wd h1 h2 h3 h4)
  have c4 := fun (X : World) (hX : Kept w X) => Lib.hid (pickin_t hX d 8 a r wd (by omega) h1 h5)
  have c5 := fun (X : World) (hX : Kept w X) => Lib.hid (pickin_t hX d 16 b r wd (by omega) h1 h6)
  have c6 := fun (X : World) (hX : Kept w X) => Lib.hid (pickin_t hX d 16777216 x r wd (by omega) h1 h3)
  clear h1 h2 h3 h4 h5 h6
  go_enter Try.func7, Try.ntmps7
  go_wp2_with (first | (go_at_call 8; ((with_reducible refine ((c0 _ (by assumption)).out).mono ?_); rintro e w' ⟨rfl, hk⟩)) | (go_at_call 11; ((with_reducible refine ((c3 _ (by assumption)).out).mono ?_); rintro e w' ⟨rfl, hk⟩)) | (go_at_call 9; first | ((with_reducible refine ((c4 _ (by assumption)).out).mono ?_); rintro e w' ⟨rfl, hk⟩) | ((with_reducible refine ((c5 _ (by assumption)).out).mono ?_); rintro e w' ⟨rfl, hk⟩) | ((with_reducible refine ((c6 _ (by assumption)).out).mono ?_); rintro e w' ⟨rfl, hk⟩)))
  all_goals
    go_ret
    exact ⟨ret_bool (by simp), by assumption⟩

set_option maxRecDepth 100000 in
set_option maxHeartbeats 2000000 in
theorem fair_4 (d n N r g x y a b : Int) (wd : 0 ≤ d ∧ d ≤ 18446744073709551615) (hN : IntKind.u64.wrap n = N) (wN : 0 ≤ N ∧ N ≤ 18446744073709551615) (hm : N % 20 = 4) (h1 : Dn.next d = r) (wr : 0 ≤ r ∧ r ≤ 18446744073709551615) (h2 : Dn.next r = g) (h3 : Dn.share r 16777216 = x) (h4 : Dn.share g 16777216 = y) (wx : 0 ≤ x ∧ x < 16777216) (wy : 0 ≤ y ∧ y < 16777216) (h5 : Dn.share r 16 = a) (h6 : Dn.share r 32 = b) (wa : 0 ≤ a ∧ a < 16) (wb : 0 ≤ b ∧ b < 32) (hq : r / 1152921504606846976 = a) (hb : b / 2 = a) (w : World) :
    Calls Try.prog 7 #[.int .u64 d, .int .i64 n] w fun e w' => e = .returned (.bool true) ∧ Kept w w' := by
  have hk := Kept.refl w
  have c0 := fun (X : World) (hX : Kept w X) => Lib.hid (told_t hX)
  have c3 := fun (X : World) (hX : Kept w X) => Lib.hid (place_t hX d r g x y wd h1 h2 h3 h4)
  have c4 := fun (X : World) (hX : Kept w X) => Lib.hid (pickin_t hX d 16 a r wd (by omega) h1 h5)
  have c5 := fun (X : World) (hX : Kept w X) => Lib.hid (pickin_t hX d 32 b r wd (by omega) h1 h6)
  have c6 := fun (X : World) (hX : Kept w X) => Lib.hid (pickin_t hX d 16777216 x r wd (by omega) h1 h3)
  clear h1 h2 h3 h4 h5 h6
  go_enter Try.func7, Try.ntmps7
  go_wp2_with (first | (go_at_call 8; ((with_reducible refine ((c0 _ (by assumption)).out).mono ?_); rintro e w' ⟨rfl, hk⟩)) | (go_at_call 11; ((with_reducible refine ((c3 _ (by assumption)).out).mono ?_); rintro e w' ⟨rfl, hk⟩)) | (go_at_call 9; first | ((with_reducible refine ((c4 _ (by assumption)).out).mono ?_); rintro e w' ⟨rfl, hk⟩) | ((with_reducible refine ((c5 _ (by assumption)).out).mono ?_); rintro e w' ⟨rfl, hk⟩) | ((with_reducible refine ((c6 _ (by assumption)).out).mono ?_); rintro e w' ⟨rfl, hk⟩)))
  all_goals
    go_ret
    exact ⟨ret_bool (by simp), by assumption⟩

set_option maxRecDepth 100000 in
set_option maxHeartbeats 2000000 in
theorem fair_5 (d n N r g x y a b : Int) (wd : 0 ≤ d ∧ d ≤ 18446744073709551615) (hN : IntKind.u64.wrap n = N) (wN : 0 ≤ N ∧ N ≤ 18446744073709551615) (hm : N % 20 = 5) (h1 : Dn.next d = r) (wr : 0 ≤ r ∧ r ≤ 18446744073709551615) (h2 : Dn.next r = g) (h3 : Dn.share r 16777216 = x) (h4 : Dn.share g 16777216 = y) (wx : 0 ≤ x ∧ x < 16777216) (wy : 0 ≤ y ∧ y < 16777216) (h5 : Dn.share r 32 = a) (h6 : Dn.share r 64 = b) (wa : 0 ≤ a ∧ a < 32) (wb : 0 ≤ b ∧ b < 64) (hq : r / 576460752303423488 = a) (hb : b / 2 = a) (w : World) :
    Calls Try.prog 7 #[.int .u64 d, .int .i64 n] w fun e w' => e = .returned (.bool true) ∧ Kept w w' := by
  have hk := Kept.refl w
  have c0 := fun (X : World) (hX : Kept w X) => Lib.hid (told_t hX)
  have c3 := fun (X : World) (hX : Kept w X) => Lib.hid (place_t hX d r g x y wd h1 h2 h3 h4)
  have c4 := fun (X : World) (hX : Kept w X) => Lib.hid (pickin_t hX d 32 a r wd (by omega) h1 h5)
  have c5 := fun (X : World) (hX : Kept w X) => Lib.hid (pickin_t hX d 64 b r wd (by omega) h1 h6)
  have c6 := fun (X : World) (hX : Kept w X) => Lib.hid (pickin_t hX d 16777216 x r wd (by omega) h1 h3)
  clear h1 h2 h3 h4 h5 h6
  go_enter Try.func7, Try.ntmps7
  go_wp2_with (first | (go_at_call 8; ((with_reducible refine ((c0 _ (by assumption)).out).mono ?_); rintro e w' ⟨rfl, hk⟩)) | (go_at_call 11; ((with_reducible refine ((c3 _ (by assumption)).out).mono ?_); rintro e w' ⟨rfl, hk⟩)) | (go_at_call 9; first | ((with_reducible refine ((c4 _ (by assumption)).out).mono ?_); rintro e w' ⟨rfl, hk⟩) | ((with_reducible refine ((c5 _ (by assumption)).out).mono ?_); rintro e w' ⟨rfl, hk⟩) | ((with_reducible refine ((c6 _ (by assumption)).out).mono ?_); rintro e w' ⟨rfl, hk⟩)))
  all_goals
    go_ret
    exact ⟨ret_bool (by simp), by assumption⟩

set_option maxRecDepth 100000 in
set_option maxHeartbeats 2000000 in
theorem fair_6 (d n N r g x y a b : Int) (wd : 0 ≤ d ∧ d ≤ 18446744073709551615) (hN : IntKind.u64.wrap n = N) (wN : 0 ≤ N ∧ N ≤ 18446744073709551615) (hm : N % 20 = 6) (h1 : Dn.next d = r) (wr : 0 ≤ r ∧ r ≤ 18446744073709551615) (h2 : Dn.next r = g) (h3 : Dn.share r 16777216 = x) (h4 : Dn.share g 16777216 = y) (wx : 0 ≤ x ∧ x < 16777216) (wy : 0 ≤ y ∧ y < 16777216) (h5 : Dn.share r 64 = a) (h6 : Dn.share r 128 = b) (wa : 0 ≤ a ∧ a < 64) (wb : 0 ≤ b ∧ b < 128) (hq : r / 288230376151711744 = a) (hb : b / 2 = a) (w : World) :
    Calls Try.prog 7 #[.int .u64 d, .int .i64 n] w fun e w' => e = .returned (.bool true) ∧ Kept w w' := by
  have hk := Kept.refl w
  have c0 := fun (X : World) (hX : Kept w X) => Lib.hid (told_t hX)
  have c3 := fun (X : World) (hX : Kept w X) => Lib.hid (place_t hX d r g x y wd h1 h2 h3 h4)
  have c4 := fun (X : World) (hX : Kept w X) => Lib.hid (pickin_t hX d 64 a r wd (by omega) h1 h5)
  have c5 := fun (X : World) (hX : Kept w X) => Lib.hid (pickin_t hX d 128 b r wd (by omega) h1 h6)
  have c6 := fun (X : World) (hX : Kept w X) => Lib.hid (pickin_t hX d 16777216 x r wd (by omega) h1 h3)
  clear h1 h2 h3 h4 h5 h6
  go_enter Try.func7, Try.ntmps7
  go_wp2_with (first | (go_at_call 8; ((with_reducible refine ((c0 _ (by assumption)).out).mono ?_); rintro e w' ⟨rfl, hk⟩)) | (go_at_call 11; ((with_reducible refine ((c3 _ (by assumption)).out).mono ?_); rintro e w' ⟨rfl, hk⟩)) | (go_at_call 9; first | ((with_reducible refine ((c4 _ (by assumption)).out).mono ?_); rintro e w' ⟨rfl, hk⟩) | ((with_reducible refine ((c5 _ (by assumption)).out).mono ?_); rintro e w' ⟨rfl, hk⟩) | ((with_reducible refine ((c6 _ (by assumption)).out).mono ?_); rintro e w' ⟨rfl, hk⟩)))
  all_goals
    go_ret
    exact ⟨ret_bool (by simp), by assumption⟩

set_option maxRecDepth 100000 in
set_option maxHeartbeats 2000000 in
theorem fair_7 (d n N r g x y a b : Int) (wd : 0 ≤ d ∧ d ≤ 18446744073709551615) (hN : IntKind.u64.wrap n = N) (wN : 0 ≤ N ∧ N ≤ 18446744073709551615) (hm : N % 20 = 7) (h1 : Dn.next d = r) (wr : 0 ≤ r ∧ r ≤ 18446744073709551615) (h2 : Dn.next r = g) (h3 : Dn.share r 16777216 = x) (h4 : Dn.share g 16777216 = y) (wx : 0 ≤ x ∧ x < 16777216) (wy : 0 ≤ y ∧ y < 16777216) (h5 : Dn.share r 128 = a) (h6 : Dn.share r 256 = b) (wa : 0 ≤ a ∧ a < 128) (wb : 0 ≤ b ∧ b < 256) (hq : r / 144115188075855872 = a) (hb : b / 2 = a) (w : World) :
    Calls Try.prog 7 #[.int .u64 d, .int .i64 n] w fun e w' => e = .returned (.bool true) ∧ Kept w w' := by
  have hk := Kept.refl w
  have c0 := fun (X : World) (hX : Kept w X) => Lib.hid (told_t hX)
  have c3 := fun (X : World) (hX : Kept w X) => Lib.hid (place_t hX d r g x y wd h1 h2 h3 h4)
  have c4 := fun (X : World) (hX : Kept w X) => Lib.hid (pickin_t hX d 128 a r wd (by omega) h1 h5)
  have c5 := fun (X : World) (hX : Kept w X) => Lib.hid (pickin_t hX d 256 b r wd (by omega) h1 h6)
  have c6 := fun (X : World) (hX : Kept w X) => Lib.hid (pickin_t hX d 16777216 x r wd (by omega) h1 h3)
  clear h1 h2 h3 h4 h5 h6
  go_enter Try.func7, Try.ntmps7
  go_wp2_with (first | (go_at_call 8; ((with_reducible refine ((c0 _ (by assumption)).out).mono ?_); rintro e w' ⟨rfl, hk⟩)) | (go_at_call 11; ((with_reducible refine ((c3 _ (by assumption)).out).mono ?_); rintro e w' ⟨rfl, hk⟩)) | (go_at_call 9; first | ((with_reducible refine ((c4 _ (by assumption)).out).mono ?_); rintro e w' ⟨rfl, hk⟩) | ((with_reducible refine ((c5 _ (by assumption)).out).mono ?_); rintro e w' ⟨rfl, hk⟩) | ((with_reducible refine ((c6 _ (by assumption)).out).mono ?_); rintro e w' ⟨rfl, hk⟩)))
  all_goals
    go_ret
    exact ⟨ret_bool (by simp), by assumption⟩

set_option maxRecDepth 100000 in
set_option maxHeartbeats 2000000 in
theorem fair_8 (d n N r g x y a b : Int) (wd : 0 ≤ d ∧ d ≤ 18446744073709551615) (hN : IntKind.u64.wrap n = N) (wN : 0 ≤ N ∧ N ≤ 18446744073709551615) (hm : N % 20 = 8) (h1 : Dn.next d = r) (wr : 0 ≤ r ∧ r ≤ 18446744073709551615) (h2 : Dn.next r = g) (h3 : Dn.share r 16777216 = x) (h4 : Dn.share g 16777216 = y) (wx : 0 ≤ x ∧ x < 16777216) (wy : 0 ≤ y ∧ y < 16777216) (h5 : Dn.share r 256 = a) (h6 : Dn.share r 512 = b) (wa : 0 ≤ a ∧ a < 256) (wb : 0 ≤ b ∧ b < 512) (hq : r / 72057594037927936 = a) (hb : b / 2 = a) (w : World) :
    Calls Try.prog 7 #[.int .u64 d, .int .i64 n] w fun e w' => e = .returned (.bool true) ∧ Kept w w' := by
  have hk := Kept.refl w
  have c0 := fun (X : World) (hX : Kept w X) => Lib.hid (told_t hX)
  have c3 := fun (X : World) (hX : Kept w X) => Lib.hid (place_t hX d r g x y wd h1 h2 h3 h4)
  have c4 := fun (X : World) (hX : Kept w X) => Lib.hid (pickin_t hX d 256 a r wd (by omega) h1 h5)
  have c5 := fun (X : World) (hX : Kept w X) => Lib.hid (pickin_t hX d 512 b r wd (by omega) h1 h6)
  have c6 := fun (X : World) (hX : Kept w X) => Lib.hid (pickin_t hX d 16777216 x r wd (by omega) h1 h3)
  clear h1 h2 h3 h4 h5 h6
  go_enter Try.func7, Try.ntmps7
  go_wp2_with (first | (go_at_call 8; ((with_reducible refine ((c0 _ (by assumption)).out).mono ?_); rintro e w' ⟨rfl, hk⟩)) | (go_at_call 11; ((with_reducible refine ((c3 _ (by assumption)).out).mono ?_); rintro e w' ⟨rfl, hk⟩)) | (go_at_call 9; first | ((with_reducible refine ((c4 _ (by assumption)).out).mono ?_); rintro e w' ⟨rfl, hk⟩) | ((with_reducible refine ((c5 _ (by assumption)).out).mono ?_); rintro e w' ⟨rfl, hk⟩) | ((with_reducible refine ((c6 _ (by assumption)).out).mono ?_); rintro e w' ⟨rfl, hk⟩)))
  all_goals
    go_ret
    exact ⟨ret_bool (by simp), by assumption⟩

set_option maxRecDepth 100000 in
set_option maxHeartbeats 2000000 in
theorem fair_9 (d n N r g x y a b : Int) (wd : 0 ≤ d ∧ d ≤ 18446744073709551615) (hN : IntKind.u64.wrap n = N) (wN : 0 ≤ N ∧ N ≤ 18446744073709551615) (hm : N % 20 = 9) (h1 : Dn.next d = r) (wr : 0 ≤ r ∧ r ≤ 18446744073709551615) (h2 : Dn.next r = g) (h3 : Dn.share r 16777216 = x) (h4 : Dn.share g 16777216 = y) (wx : 0 ≤ x ∧ x < 16777216) (wy : 0 ≤ y ∧ y < 16777216) (h5 : Dn.share r 512 = a) (h6 : Dn.share r 1024 = b) (wa : 0 ≤ a ∧ a < 512) (wb : 0 ≤ b ∧ b < 1024) (hq : r / 36028797018963968 = a) (hb : b / 2 = a) (w : World) :
    Calls Try.prog 7 #[.int .u64 d, .int .i64 n] w fun e w' => e = .returned (.bool true) ∧ Kept w w' := by
  have hk := Kept.refl w
  have c0 := fun (X : World) (hX : Kept w X) => Lib.hid (told_t hX)
  have c3 := fun (X : World) (hX : Kept w X) => Lib.hid (place_t hX d r g x y wd h1 h2 h3 h4)
  have c4 := fun (X : World) (hX : Kept w X) => Lib.hid (pickin_t hX d 512 a r wd (by omega) h1 h5)
  have c5 := fun (X : World) (hX : Kept w X) => Lib.hid (pickin_t hX d 1024 b r wd (by omega) h1 h6)
  have c6 := fun (X : World) (hX : Kept w X) => Lib.hid (pickin_t hX d 16777216 x r wd (by omega) h1 h3)
  clear h1 h2 h3 h4 h5 h6
  go_enter Try.func7, Try.ntmps7
  go_wp2_with (first | (go_at_call 8; ((with_reducible refine ((c0 _ (by assumption)).out).mono ?_); rintro e w' ⟨rfl, hk⟩)) | (go_at_call 11; ((with_reducible refine ((c3 _ (by assumption)).out).mono ?_); rintro e w' ⟨rfl, hk⟩)) | (go_at_call 9; first | ((with_reducible refine ((c4 _ (by assumption)).out).mono ?_); rintro e w' ⟨rfl, hk⟩) | ((with_reducible refine ((c5 _ (by assumption)).out).mono ?_); rintro e w' ⟨rfl, hk⟩) | ((with_reducible refine ((c6 _ (by assumption)).out).mono ?_); rintro e w' ⟨rfl, hk⟩)))
  all_goals
    go_ret
    exact ⟨ret_bool (by simp), by assumption⟩

set_option maxRecDepth 100000 in
set_option maxHeartbeats 2000000 in
theorem fair_10 (d n N r g x y a b : Int) (wd : 0 ≤ d ∧ d ≤ 18446744073709551615) (hN : IntKind.u64.wrap n = N) (wN : 0 ≤ N ∧ N ≤ 18446744073709551615) (hm : N % 20 = 10) (h1 : Dn.next d = r) (wr : 0 ≤ r ∧ r ≤ 18446744073709551615) (h2 : Dn.next r = g) (h3 : Dn.share r 16777216 = x) (h4 : Dn.share g 16777216 = y) (wx : 0 ≤ x ∧ x < 16777216) (wy : 0 ≤ y ∧ y < 16777216) (h5 : Dn.share r 1024 = a) (h6 : Dn.share r 2048 = b) (wa : 0 ≤ a ∧ a < 1024) (wb : 0 ≤ b ∧ b < 2048) (hq : r / 18014398509481984 = a) (hb : b / 2 = a) (w : World) :
    Calls Try.prog 7 #[.int .u64 d, .int .i64 n] w fun e w' => e = .returned (.bool true) ∧ Kept w w' := by
  have hk := Kept.refl w
  have c0 := fun (X : World) (hX : Kept w X) => Lib.hid (told_t hX)
  have c3 := fun (X : World) (hX : Kept w X) => Lib.hid (place_t hX d r g x y wd h1 h2 h3 h4)
  have c4 := fun (X : World) (hX : Kept w X) => Lib.hid (pickin_t hX d 1024 a r wd (by omega) h1 h5)
  have c5 := fun (X : World) (hX : Kept w X) => Lib.hid (pickin_t hX d 2048 b r wd (by omega) h1 h6)
  have c6 := fun (X : World) (hX : Kept w X) => Lib.hid (pickin_t hX d 16777216 x r wd (by omega) h1 h3)
  clear h1 h2 h3 h4 h5 h6
  go_enter Try.func7, Try.ntmps7
  go_wp2_with (first | (go_at_call 8; ((with_reducible refine ((c0 _ (by assumption)).out).mono ?_); rintro e w' ⟨rfl, hk⟩)) | (go_at_call 11; ((with_reducible refine ((c3 _ (by assumption)).out).mono ?_); rintro e w' ⟨rfl, hk⟩)) | (go_at_call 9; first | ((with_reducible refine ((c4 _ (by assumption)).out).mono ?_); rintro e w' ⟨rfl, hk⟩) | ((with_reducible refine ((c5 _ (by assumption)).out).mono ?_); rintro e w' ⟨rfl, hk⟩) | ((with_reducible refine ((c6 _ (by assumption)).out).mono ?_); rintro e w' ⟨rfl, hk⟩)))
  all_goals
    go_ret
    exact ⟨ret_bool (by simp), by assumption⟩

set_option maxRecDepth 100000 in
set_option maxHeartbeats 2000000 in
theorem fair_11 (d n N r g x y a b : Int) (wd : 0 ≤ d ∧ d ≤ 18446744073709551615) (hN : IntKind.u64.wrap n = N) (wN : 0 ≤ N ∧ N ≤ 18446744073709551615) (hm : N % 20 = 11) (h1 : Dn.next d = r) (wr : 0 ≤ r ∧ r ≤ 18446744073709551615) (h2 : Dn.next r = g) (h3 : Dn.share r 16777216 = x) (h4 : Dn.share g 16777216 = y) (wx : 0 ≤ x ∧ x < 16777216) (wy : 0 ≤ y ∧ y < 16777216) (h5 : Dn.share r 2048 = a) (h6 : Dn.share r 4096 = b) (wa : 0 ≤ a ∧ a < 2048) (wb : 0 ≤ b ∧ b < 4096) (hq : r / 9007199254740992 = a) (hb : b / 2 = a) (w : World) :
    Calls Try.prog 7 #[.int .u64 d, .int .i64 n] w fun e w' => e = .returned (.bool true) ∧ Kept w w' := by
  have hk := Kept.refl w
  have c0 := fun (X : World) (hX : Kept w X) => Lib.hid (told_t hX)
  have c3 := fun (X : World) (hX : Kept w X) => Lib.hid (place_t hX d r g x y wd h1 h2 h3 h4)
  have c4 := fun (X : World) (hX : Kept w X) => Lib.hid (pickin_t hX d 2048 a r wd (by omega) h1 h5)
  have c5 := fun (X : World) (hX : Kept w X) => Lib.hid (pickin_t hX d 4096 b r wd (by omega) h1 h6)
  have c6 := fun (X : World) (hX : Kept w X) => Lib.hid (pickin_t hX d 16777216 x r wd (by omega) h1 h3)
  clear h1 h2 h3 h4 h5 h6
  go_enter Try.func7, Try.ntmps7
  go_wp2_with (first | (go_at_call 8; ((with_reducible refine ((c0 _ (by assumption)).out).mono ?_); rintro e w' ⟨rfl, hk⟩)) | (go_at_call 11; ((with_reducible refine ((c3 _ (by assumption)).out).mono ?_); rintro e w' ⟨rfl, hk⟩)) | (go_at_call 9; first | ((with_reducible refine ((c4 _ (by assumption)).out).mono ?_); rintro e w' ⟨rfl, hk⟩) | ((with_reducible refine ((c5 _ (by assumption)).out).mono ?_); rintro e w' ⟨rfl, hk⟩) | ((with_reducible refine ((c6 _ (by assumption)).out).mono ?_); rintro e w' ⟨rfl, hk⟩)))
  all_goals
    go_ret
    exact ⟨ret_bool (by simp), by assumption⟩

set_option maxRecDepth 100000 in
set_option maxHeartbeats 2000000 in
theorem fair_12 (d n N r g x y a b : Int) (wd : 0 ≤ d ∧ d ≤ 18446744073709551615) (hN : IntKind.u64.wrap n = N) (wN : 0 ≤ N ∧ N ≤ 18446744073709551615) (hm : N % 20 = 12) (h1 : Dn.next d = r) (wr : 0 ≤ r ∧ r ≤ 18446744073709551615) (h2 : Dn.next r = g) (h3 : Dn.share r 16777216 = x) (h4 : Dn.share g 16777216 = y) (wx : 0 ≤ x ∧ x < 16777216) (wy : 0 ≤ y ∧ y < 16777216) (h5 : Dn.share r 4096 = a) (h6 : Dn.share r 8192 = b) (wa : 0 ≤ a ∧ a < 4096) (wb : 0 ≤ b ∧ b < 8192) (hq : r / 4503599627370496 = a) (hb : b / 2 = a) (w : World) :
    Calls Try.prog 7 #[.int .u64 d, .int .i64 n] w fun e w' => e = .returned (.bool true) ∧ Kept w w' := by
  have hk := Kept.refl w
  have c0 := fun (X : World) (hX : Kept w X) => Lib.hid (told_t hX)
  have c3 := fun (X : World) (hX : Kept w X) => Lib.hid (place_t hX d r g x y wd h1 h2 h3 h4)
  have c4 := fun (X : World) (hX : Kept w X) => Lib.hid (pickin_t hX d 4096 a r wd (by omega) h1 h5)
  have c5 := fun (X : World) (hX : Kept w X) => Lib.hid (pickin_t hX d 8192 b r wd (by omega) h1 h6)
  have c6 := fun (X : World) (hX : Kept w X) => Lib.hid (pickin_t hX d 16777216 x r wd (by omega) h1 h3)
  clear h1 h2 h3 h4 h5 h6
  go_enter Try.func7, Try.ntmps7
  go_wp2_with (first | (go_at_call 8; ((with_reducible refine ((c0 _ (by assumption)).out).mono ?_); rintro e w' ⟨rfl, hk⟩)) | (go_at_call 11; ((with_reducible refine ((c3 _ (by assumption)).out).mono ?_); rintro e w' ⟨rfl, hk⟩)) | (go_at_call 9; first | ((with_reducible refine ((c4 _ (by assumption)).out).mono ?_); rintro e w' ⟨rfl, hk⟩) | ((with_reducible refine ((c5 _ (by assumption)).out).mono ?_); rintro e w' ⟨rfl, hk⟩) | ((with_reducible refine ((c6 _ (by assumption)).out).mono ?_); rintro e w' ⟨rfl, hk⟩)))
  all_goals
    go_ret
    exact ⟨ret_bool (by simp), by assumption⟩

set_option maxRecDepth 100000 in
set_option maxHeartbeats 2000000 in
theorem fair_13 (d n N r g x y a b : Int) (wd : 0 ≤ d ∧ d ≤ 18446744073709551615) (hN : IntKind.u64.wrap n = N) (wN : 0 ≤ N ∧ N ≤ 18446744073709551615) (hm : N % 20 = 13) (h1 : Dn.next d = r) (wr : 0 ≤ r ∧ r ≤ 18446744073709551615) (h2 : Dn.next r = g) (h3 : Dn.share r 16777216 = x) (h4 : Dn.share g 16777216 = y) (wx : 0 ≤ x ∧ x < 16777216) (wy : 0 ≤ y ∧ y < 16777216) (h5 : Dn.share r 8192 = a) (h6 : Dn.share r 16384 = b) (wa : 0 ≤ a ∧ a < 8192) (wb : 0 ≤ b ∧ b < 16384) (hq : r / 2251799813685248 = a) (hb : b / 2 = a) (w : World) :
    Calls Try.prog 7 #[.int .u64 d, .int .i64 n] w fun e w' => e = .returned (.bool true) ∧ Kept w w' := by
  have hk := Kept.refl w
  have c0 := fun (X : World) (hX : Kept w X) => Lib.hid (told_t hX)
  have c3 := fun (X : World) (hX : Kept w X) => Lib.hid (place_t hX d r g x y wd h1 h2 h3 h4)
  have c4 := fun (X : World) (hX : Kept w X) => Lib.hid (pickin_t hX d 8192 a r wd (by omega) h1 h5)
  have c5 := fun (X : World) (hX : Kept w X) => Lib.hid (pickin_t hX d 16384 b r wd (by omega) h1 h6)
  have c6 := fun (X : World) (hX : Kept w X) => Lib.hid (pickin_t hX d 16777216 x r wd (by omega) h1 h3)
  clear h1 h2 h3 h4 h5 h6
  go_enter Try.func7, Try.ntmps7
  go_wp2_with (first | (go_at_call 8; ((with_reducible refine ((c0 _ (by assumption)).out).mono ?_); rintro e w' ⟨rfl, hk⟩)) | (go_at_call 11; ((with_reducible refine ((c3 _ (by assumption)).out).mono ?_); rintro e w' ⟨rfl, hk⟩)) | (go_at_call 9; first | ((with_reducible refine ((c4 _ (by assumption)).out).mono ?_); rintro e w' ⟨rfl, hk⟩) | ((with_reducible refine ((c5 _ (by assumption)).out).mono ?_); rintro e w' ⟨rfl, hk⟩) | ((with_reducible refine ((c6 _ (by assumption)).out).mono ?_); rintro e w' ⟨rfl, hk⟩)))
  all_goals
    go_ret
    exact ⟨ret_bool (by simp), by assumption⟩

set_option maxRecDepth 100000 in
set_option maxHeartbeats 2000000 in
theorem fair_14 (d n N r g x y a b : Int) (wd : 0 ≤ d ∧ d ≤ 18446744073709551615) (hN : IntKind.u64.wrap n = N) (wN : 0 ≤ N ∧ N ≤ 18446744073709551615) (hm : N % 20 = 14) (h1 : Dn.next d = r) (wr : 0 ≤ r ∧ r ≤ 18446744073709551615) (h2 : Dn.next r = g) (h3 : Dn.share r 16777216 = x) (h4 : Dn.share g 16777216 = y) (wx : 0 ≤ x ∧ x < 16777216) (wy : 0 ≤ y ∧ y < 16777216) (h5 : Dn.share r 16384 = a) (h6 : Dn.share r 32768 = b) (wa : 0 ≤ a ∧ a < 16384) (wb : 0 ≤ b ∧ b < 32768) (hq : r / 1125899906842624 = a) (hb : b / 2 = a) (w : World) :
    Calls Try.prog 7 #[.int .u64 d, .int .i64 n] w fun e w' => e = .returned (.bool true) ∧ Kept w w' := by
  have hk := Kept.refl w
  have c0 := fun (X : World) (hX : Kept w X) => Lib.hid (told_t hX)
  have c3 := fun (X : World) (hX : Kept w X) => Lib.hid (place_t hX d r g x y wd h1 h2 h3 h4)
  have c4 := fun (X : World) (hX : Kept w X) => Lib.hid (pickin_t hX d 16384 a r wd (by omega) h1 h5)
  have c5 := fun (X : World) (hX : Kept w X) => Lib.hid (pickin_t hX d 32768 b r wd (by omega) h1 h6)
  have c6 := fun (X : World) (hX : Kept w X) => Lib.hid (pickin_t hX d 16777216 x r wd (by omega) h1 h3)
  clear h1 h2 h3 h4 h5 h6
  go_enter Try.func7, Try.ntmps7
  go_wp2_with (first | (go_at_call 8; ((with_reducible refine ((c0 _ (by assumption)).out).mono ?_); rintro e w' ⟨rfl, hk⟩)) | (go_at_call 11; ((with_reducible refine ((c3 _ (by assumption)).out).mono ?_); rintro e w' ⟨rfl, hk⟩)) | (go_at_call 9; first | ((with_reducible refine ((c4 _ (by assumption)).out).mono ?_); rintro e w' ⟨rfl, hk⟩) | ((with_reducible refine ((c5 _ (by assumption)).out).mono ?_); rintro e w' ⟨rfl, hk⟩) | ((with_reducible refine ((c6 _ (by assumption)).out).mono ?_); rintro e w' ⟨rfl, hk⟩)))
  all_goals
    go_ret
    exact ⟨ret_bool (by simp), by assumption⟩

set_option maxRecDepth 100000 in
set_option maxHeartbeats 2000000 in
theorem fair_15 (d n N r g x y a b : Int) (wd : 0 ≤ d ∧ d ≤ 18446744073709551615) (hN : IntKind.u64.wrap n = N) (wN : 0 ≤ N ∧ N ≤ 18446744073709551615) (hm : N % 20 = 15) (h1 : Dn.next d = r) (wr : 0 ≤ r ∧ r ≤ 18446744073709551615) (h2 : Dn.next r = g) (h3 : Dn.share r 16777216 = x) (h4 : Dn.share g 16777216 = y) (wx : 0 ≤ x ∧ x < 16777216) (wy : 0 ≤ y ∧ y < 16777216) (h5 : Dn.share r 32768 = a) (h6 : Dn.share r 65536 = b) (wa : 0 ≤ a ∧ a < 32768) (wb : 0 ≤ b ∧ b < 65536) (hq : r / 562949953421312 = a) (hb : b / 2 = a) (w : World) :
    Calls Try.prog 7 #[.int .u64 d, .int .i64 n] w fun e w' => e = .returned (.bool true) ∧ Kept w w' := by
  have hk := Kept.refl w
  have c0 := fun (X : World) (hX : Kept w X) => Lib.hid (told_t hX)
  have c3 := fun (X : World) (hX : Kept w X) => Lib.hid (place_t hX d r g x y wd h1 h2 h3 h4)
  have c4 := fun (X : World) (hX : Kept w X) => Lib.hid (pickin_t hX d 32768 a r wd (by omega) h1 h5)
  have c5 := fun (X : World) (hX : Kept w X) => Lib.hid (pickin_t hX d 65536 b r wd (by omega) h1 h6)
  have c6 := fun (X : World) (hX : Kept w X) => Lib.hid (pickin_t hX d 16777216 x r wd (by omega) h1 h3)
  clear h1 h2 h3 h4 h5 h6
  go_enter Try.func7, Try.ntmps7
  go_wp2_with (first | (go_at_call 8; ((with_reducible refine ((c0 _ (by assumption)).out).mono ?_); rintro e w' ⟨rfl, hk⟩)) | (go_at_call 11; ((with_reducible refine ((c3 _ (by assumption)).out).mono ?_); rintro e w' ⟨rfl, hk⟩)) | (go_at_call 9; first | ((with_reducible refine ((c4 _ (by assumption)).out).mono ?_); rintro e w' ⟨rfl, hk⟩) | ((with_reducible refine ((c5 _ (by assumption)).out).mono ?_); rintro e w' ⟨rfl, hk⟩) | ((with_reducible refine ((c6 _ (by assumption)).out).mono ?_); rintro e w' ⟨rfl, hk⟩)))
  all_goals
    go_ret
    exact ⟨ret_bool (by simp), by assumption⟩

set_option maxRecDepth 100000 in
set_option maxHeartbeats 2000000 in
theorem fair_16 (d n N r g x y a b : Int) (wd : 0 ≤ d ∧ d ≤ 18446744073709551615) (hN : IntKind.u64.wrap n = N) (wN : 0 ≤ N ∧ N ≤ 18446744073709551615) (hm : N % 20 = 16) (h1 : Dn.next d = r) (wr : 0 ≤ r ∧ r ≤ 18446744073709551615) (h2 : Dn.next r = g) (h3 : Dn.share r 16777216 = x) (h4 : Dn.share g 16777216 = y) (wx : 0 ≤ x ∧ x < 16777216) (wy : 0 ≤ y ∧ y < 16777216) (h5 : Dn.share r 65536 = a) (h6 : Dn.share r 131072 = b) (wa : 0 ≤ a ∧ a < 65536) (wb : 0 ≤ b ∧ b < 131072) (hq : r / 281474976710656 = a) (hb : b / 2 = a) (w : World) :
    Calls Try.prog 7 #[.int .u64 d, .int .i64 n] w fun e w' => e = .returned (.bool true) ∧ Kept w w' := by
  have hk := Kept.refl w
  have c0 := fun (X : World) (hX : Kept w X) => Lib.hid (told_t hX)
  have c3 := fun (X : World) (hX : Kept w X) => Lib.hid (place_t hX d r g x y wd h1 h2 h3 h4)
  have c4 := fun (X : World) (hX : Kept w X) => Lib.hid (pickin_t hX d 65536 a r wd (by omega) h1 h5)
  have c5 := fun (X : World) (hX : Kept w X) => Lib.hid (pickin_t hX d 131072 b r wd (by omega) h1 h6)
  have c6 := fun (X : World) (hX : Kept w X) => Lib.hid (pickin_t hX d 16777216 x r wd (by omega) h1 h3)
  clear h1 h2 h3 h4 h5 h6
  go_enter Try.func7, Try.ntmps7
  go_wp2_with (first | (go_at_call 8; ((with_reducible refine ((c0 _ (by assumption)).out).mono ?_); rintro e w' ⟨rfl, hk⟩)) | (go_at_call 11; ((with_reducible refine ((c3 _ (by assumption)).out).mono ?_); rintro e w' ⟨rfl, hk⟩)) | (go_at_call 9; first | ((with_reducible refine ((c4 _ (by assumption)).out).mono ?_); rintro e w' ⟨rfl, hk⟩) | ((with_reducible refine ((c5 _ (by assumption)).out).mono ?_); rintro e w' ⟨rfl, hk⟩) | ((with_reducible refine ((c6 _ (by assumption)).out).mono ?_); rintro e w' ⟨rfl, hk⟩)))
  all_goals
    go_ret
    exact ⟨ret_bool (by simp), by assumption⟩

set_option maxRecDepth 100000 in
set_option maxHeartbeats 2000000 in
theorem fair_17 (d n N r g x y a b : Int) (wd : 0 ≤ d ∧ d ≤ 18446744073709551615) (hN : IntKind.u64.wrap n = N) (wN : 0 ≤ N ∧ N ≤ 18446744073709551615) (hm : N % 20 = 17) (h1 : Dn.next d = r) (wr : 0 ≤ r ∧ r ≤ 18446744073709551615) (h2 : Dn.next r = g) (h3 : Dn.share r 16777216 = x) (h4 : Dn.share g 16777216 = y) (wx : 0 ≤ x ∧ x < 16777216) (wy : 0 ≤ y ∧ y < 16777216) (h5 : Dn.share r 131072 = a) (h6 : Dn.share r 262144 = b) (wa : 0 ≤ a ∧ a < 131072) (wb : 0 ≤ b ∧ b < 262144) (hq : r / 140737488355328 = a) (hb : b / 2 = a) (w : World) :
    Calls Try.prog 7 #[.int .u64 d, .int .i64 n] w fun e w' => e = .returned (.bool true) ∧ Kept w w' := by
  have hk := Kept.refl w
  have c0 := fun (X : World) (hX : Kept w X) => Lib.hid (told_t hX)
  have c3 := fun (X : World) (hX : Kept w X) => Lib.hid (place_t hX d r g x y wd h1 h2 h3 h4)
  have c4 := fun (X : World) (hX : Kept w X) => Lib.hid (pickin_t hX d 131072 a r wd (by omega) h1 h5)
  have c5 := fun (X : World) (hX : Kept w X) => Lib.hid (pickin_t hX d 262144 b r wd (by omega) h1 h6)
  have c6 := fun (X : World) (hX : Kept w X) => Lib.hid (pickin_t hX d 16777216 x r wd (by omega) h1 h3)
  clear h1 h2 h3 h4 h5 h6
  go_enter Try.func7, Try.ntmps7
  go_wp2_with (first | (go_at_call 8; ((with_reducible refine ((c0 _ (by assumption)).out).mono ?_); rintro e w' ⟨rfl, hk⟩)) | (go_at_call 11; ((with_reducible refine ((c3 _ (by assumption)).out).mono ?_); rintro e w' ⟨rfl, hk⟩)) | (go_at_call 9; first | ((with_reducible refine ((c4 _ (by assumption)).out).mono ?_); rintro e w' ⟨rfl, hk⟩) | ((with_reducible refine ((c5 _ (by assumption)).out).mono ?_); rintro e w' ⟨rfl, hk⟩) | ((with_reducible refine ((c6 _ (by assumption)).out).mono ?_); rintro e w' ⟨rfl, hk⟩)))
  all_goals
    go_ret
    exact ⟨ret_bool (by simp), by assumption⟩

set_option maxRecDepth 100000 in
set_option maxHeartbeats 2000000 in
theorem fair_18 (d n N r g x y a b : Int) (wd : 0 ≤ d ∧ d ≤ 18446744073709551615) (hN : IntKind.u64.wrap n = N) (wN : 0 ≤ N ∧ N ≤ 18446744073709551615) (hm : N % 20 = 18) (h1 : Dn.next d = r) (wr : 0 ≤ r ∧ r ≤ 18446744073709551615) (h2 : Dn.next r = g) (h3 : Dn.share r 16777216 = x) (h4 : Dn.share g 16777216 = y) (wx : 0 ≤ x ∧ x < 16777216) (wy : 0 ≤ y ∧ y < 16777216) (h5 : Dn.share r 262144 = a) (h6 : Dn.share r 524288 = b) (wa : 0 ≤ a ∧ a < 262144) (wb : 0 ≤ b ∧ b < 524288) (hq : r / 70368744177664 = a) (hb : b / 2 = a) (w : World) :
    Calls Try.prog 7 #[.int .u64 d, .int .i64 n] w fun e w' => e = .returned (.bool true) ∧ Kept w w' := by
  have hk := Kept.refl w
  have c0 := fun (X : World) (hX : Kept w X) => Lib.hid (told_t hX)
  have c3 := fun (X : World) (hX : Kept w X) => Lib.hid (place_t hX d r g x y wd h1 h2 h3 h4)
  have c4 := fun (X : World) (hX : Kept w X) => Lib.hid (pickin_t hX d 262144 a r wd (by omega) h1 h5)
  have c5 := fun (X : World) (hX : Kept w X) => Lib.hid (pickin_t hX d 524288 b r wd (by omega) h1 h6)
  have c6 := fun (X : World) (hX : Kept w X) => Lib.hid (pickin_t hX d 16777216 x r wd (by omega) h1 h3)
  clear h1 h2 h3 h4 h5 h6
  go_enter Try.func7, Try.ntmps7
  go_wp2_with (first | (go_at_call 8; ((with_reducible refine ((c0 _ (by assumption)).out).mono ?_); rintro e w' ⟨rfl, hk⟩)) | (go_at_call 11; ((with_reducible refine ((c3 _ (by assumption)).out).mono ?_); rintro e w' ⟨rfl, hk⟩)) | (go_at_call 9; first | ((with_reducible refine ((c4 _ (by assumption)).out).mono ?_); rintro e w' ⟨rfl, hk⟩) | ((with_reducible refine ((c5 _ (by assumption)).out).mono ?_); rintro e w' ⟨rfl, hk⟩) | ((with_reducible refine ((c6 _ (by assumption)).out).mono ?_); rintro e w' ⟨rfl, hk⟩)))
  all_goals
    go_ret
    exact ⟨ret_bool (by simp), by assumption⟩

set_option maxRecDepth 100000 in
set_option maxHeartbeats 2000000 in
theorem fair_19 (d n N r g x y a b : Int) (wd : 0 ≤ d ∧ d ≤ 18446744073709551615) (hN : IntKind.u64.wrap n = N) (wN : 0 ≤ N ∧ N ≤ 18446744073709551615) (hm : N % 20 = 19) (h1 : Dn.next d = r) (wr : 0 ≤ r ∧ r ≤ 18446744073709551615) (h2 : Dn.next r = g) (h3 : Dn.share r 16777216 = x) (h4 : Dn.share g 16777216 = y) (wx : 0 ≤ x ∧ x < 16777216) (wy : 0 ≤ y ∧ y < 16777216) (h5 : Dn.share r 524288 = a) (h6 : Dn.share r 1048576 = b) (wa : 0 ≤ a ∧ a < 524288) (wb : 0 ≤ b ∧ b < 1048576) (hq : r / 35184372088832 = a) (hb : b / 2 = a) (w : World) :
    Calls Try.prog 7 #[.int .u64 d, .int .i64 n] w fun e w' => e = .returned (.bool true) ∧ Kept w w' := by
  have hk := Kept.refl w
  have c0 := fun (X : World) (hX : Kept w X) => Lib.hid (told_t hX)
  have c3 := fun (X : World) (hX : Kept w X) => Lib.hid (place_t hX d r g x y wd h1 h2 h3 h4)
  have c4 := fun (X : World) (hX : Kept w X) => Lib.hid (pickin_t hX d 524288 a r wd (by omega) h1 h5)
  have c5 := fun (X : World) (hX : Kept w X) => Lib.hid (pickin_t hX d 1048576 b r wd (by omega) h1 h6)
  have c6 := fun (X : World) (hX : Kept w X) => Lib.hid (pickin_t hX d 16777216 x r wd (by omega) h1 h3)
  clear h1 h2 h3 h4 h5 h6
  go_enter Try.func7, Try.ntmps7
  go_wp2_with (first | (go_at_call 8; ((with_reducible refine ((c0 _ (by assumption)).out).mono ?_); rintro e w' ⟨rfl, hk⟩)) | (go_at_call 11; ((with_reducible refine ((c3 _ (by assumption)).out).mono ?_); rintro e w' ⟨rfl, hk⟩)) | (go_at_call 9; first | ((with_reducible refine ((c4 _ (by assumption)).out).mono ?_); rintro e w' ⟨rfl, hk⟩) | ((with_reducible refine ((c5 _ (by assumption)).out).mono ?_); rintro e w' ⟨rfl, hk⟩) | ((with_reducible refine ((c6 _ (by assumption)).out).mono ?_); rintro e w' ⟨rfl, hk⟩)))
  all_goals
    go_ret
    exact ⟨ret_bool (by simp), by assumption⟩

theorem fair_law (d n : Int) (wd : 0 ≤ d ∧ d ≤ 18446744073709551615) (w : World) :
    Calls Try.prog 7 #[.int .u64 d, .int .i64 n] w fun e w' => e = .returned (.bool true) ∧ Kept w w' := by
  have hN : 0 ≤ IntKind.u64.wrap n ∧ IntKind.u64.wrap n ≤ 18446744073709551615 := by rw [wrap_u64']; omega
  have hr := Dn.next_bd d
  have b1 := Dn.share_bd hr (show (1 : Int) ≤ 16777216 ∧ (16777216 : Int) ≤ 2147483647 by omega)
  have b2 := Dn.share_bd (Dn.next_bd (Dn.next d)) (show (1 : Int) ≤ 16777216 ∧ (16777216 : Int) ≤ 2147483647 by omega)
  have hm : 0 ≤ IntKind.u64.wrap n % 20 ∧ IntKind.u64.wrap n % 20 < 20 := by omega
  generalize hM : IntKind.u64.wrap n % 20 = m at *
  obtain ⟨k, rfl⟩ : ∃ k : Nat, m = k := ⟨m.toNat, by omega⟩
  have hk : k < 20 := by omega
  clear hm
  match k, hk with
  | 0, _ => exact fair_0 d n _ _ _ _ _ _ _ wd rfl hN hM rfl hr rfl rfl rfl b1.2.2 b2.2.2 rfl rfl (Dn.share_bd hr (by omega)).2.2 (Dn.share_bd hr (by omega)).2.2 (half_0 hr).1 (half_0 hr).2 w
  | 1, _ => exact fair_1 d n _ _ _ _ _ _ _ wd rfl hN hM rfl hr rfl rfl rfl b1.2.2 b2.2.2 rfl rfl (Dn.share_bd hr (by omega)).2.2 (Dn.share_bd hr (by omega)).2.2 (half_1 hr).1 (half_1 hr).2 w
  | 2, _ => exact fair_2 d n _ _ _ _ _ _ _ wd rfl hN hM rfl hr rfl rfl rfl b1.2.2 b2.2.2 rfl rfl (Dn.share_bd hr (by omega)).2.2 (Dn.share_bd hr (by omega)).2.2 (half_2 hr).1 (half_2 hr).2 w
  | 3, _ => exact fair_3 d n _ _ _ _ _ _ _ wd rfl hN hM rfl hr rfl rfl rfl b1.2.2 b2.2.2 rfl rfl (Dn.share_bd hr (by omega)).2.2 (Dn.share_bd hr (by omega)).2.2 (half_3 hr).1 (half_3 hr).2 w
  | 4, _ => exact fair_4 d n _ _ _ _ _ _ _ wd rfl hN hM rfl hr rfl rfl rfl b1.2.2 b2.2.2 rfl rfl (Dn.share_bd hr (by omega)).2.2 (Dn.share_bd hr (by omega)).2.2 (half_4 hr).1 (half_4 hr).2 w
  | 5, _ => exact fair_5 d n _ _ _ _ _ _ _ wd rfl hN hM rfl hr rfl rfl rfl b1.2.2 b2.2.2 rfl rfl (Dn.share_bd hr (by omega)).2.2 (Dn.share_bd hr (by omega)).2.2 (half_5 hr).1 (half_5 hr).2 w
  | 6, _ => exact fair_6 d n _ _ _ _ _ _ _ wd rfl hN hM rfl hr rfl rfl rfl b1.2.2 b2.2.2 rfl rfl (Dn.share_bd hr (by omega)).2.2 (Dn.share_bd hr (by omega)).2.2 (half_6 hr).1 (half_6 hr).2 w
  | 7, _ => exact fair_7 d n _ _ _ _ _ _ _ wd rfl hN hM rfl hr rfl rfl rfl b1.2.2 b2.2.2 rfl rfl (Dn.share_bd hr (by omega)).2.2 (Dn.share_bd hr (by omega)).2.2 (half_7 hr).1 (half_7 hr).2 w
  | 8, _ => exact fair_8 d n _ _ _ _ _ _ _ wd rfl hN hM rfl hr rfl rfl rfl b1.2.2 b2.2.2 rfl rfl (Dn.share_bd hr (by omega)).2.2 (Dn.share_bd hr (by omega)).2.2 (half_8 hr).1 (half_8 hr).2 w
  | 9, _ => exact fair_9 d n _ _ _ _ _ _ _ wd rfl hN hM rfl hr rfl rfl rfl b1.2.2 b2.2.2 rfl rfl (Dn.share_bd hr (by omega)).2.2 (Dn.share_bd hr (by omega)).2.2 (half_9 hr).1 (half_9 hr).2 w
  | 10, _ => exact fair_10 d n _ _ _ _ _ _ _ wd rfl hN hM rfl hr rfl rfl rfl b1.2.2 b2.2.2 rfl rfl (Dn.share_bd hr (by omega)).2.2 (Dn.share_bd hr (by omega)).2.2 (half_10 hr).1 (half_10 hr).2 w
  | 11, _ => exact fair_11 d n _ _ _ _ _ _ _ wd rfl hN hM rfl hr rfl rfl rfl b1.2.2 b2.2.2 rfl rfl (Dn.share_bd hr (by omega)).2.2 (Dn.share_bd hr (by omega)).2.2 (half_11 hr).1 (half_11 hr).2 w
  | 12, _ => exact fair_12 d n _ _ _ _ _ _ _ wd rfl hN hM rfl hr rfl rfl rfl b1.2.2 b2.2.2 rfl rfl (Dn.share_bd hr (by omega)).2.2 (Dn.share_bd hr (by omega)).2.2 (half_12 hr).1 (half_12 hr).2 w
  | 13, _ => exact fair_13 d n _ _ _ _ _ _ _ wd rfl hN hM rfl hr rfl rfl rfl b1.2.2 b2.2.2 rfl rfl (Dn.share_bd hr (by omega)).2.2 (Dn.share_bd hr (by omega)).2.2 (half_13 hr).1 (half_13 hr).2 w
  | 14, _ => exact fair_14 d n _ _ _ _ _ _ _ wd rfl hN hM rfl hr rfl rfl rfl b1.2.2 b2.2.2 rfl rfl (Dn.share_bd hr (by omega)).2.2 (Dn.share_bd hr (by omega)).2.2 (half_14 hr).1 (half_14 hr).2 w
  | 15, _ => exact fair_15 d n _ _ _ _ _ _ _ wd rfl hN hM rfl hr rfl rfl rfl b1.2.2 b2.2.2 rfl rfl (Dn.share_bd hr (by omega)).2.2 (Dn.share_bd hr (by omega)).2.2 (half_15 hr).1 (half_15 hr).2 w
  | 16, _ => exact fair_16 d n _ _ _ _ _ _ _ wd rfl hN hM rfl hr rfl rfl rfl b1.2.2 b2.2.2 rfl rfl (Dn.share_bd hr (by omega)).2.2 (Dn.share_bd hr (by omega)).2.2 (half_16 hr).1 (half_16 hr).2 w
  | 17, _ => exact fair_17 d n _ _ _ _ _ _ _ wd rfl hN hM rfl hr rfl rfl rfl b1.2.2 b2.2.2 rfl rfl (Dn.share_bd hr (by omega)).2.2 (Dn.share_bd hr (by omega)).2.2 (half_17 hr).1 (half_17 hr).2 w
  | 18, _ => exact fair_18 d n _ _ _ _ _ _ _ wd rfl hN hM rfl hr rfl rfl rfl b1.2.2 b2.2.2 rfl rfl (Dn.share_bd hr (by omega)).2.2 (Dn.share_bd hr (by omega)).2.2 (half_18 hr).1 (half_18 hr).2 w
  | 19, _ => exact fair_19 d n _ _ _ _ _ _ _ wd rfl hN hM rfl hr rfl rfl rfl b1.2.2 b2.2.2 rfl rfl (Dn.share_bd hr (by omega)).2.2 (Dn.share_bd hr (by omega)).2.2 (half_19 hr).1 (half_19 hr).2 w
  | k + 20, h => exact absurd h (by omega)

end Go.Proofs.Ytcijcfblpibmmaa
