/-
DiceAsks: the walk.
-/
import Derived.Test.YtcijcfblpibmmaaDt
namespace Go.Proofs.Ytcijcfblpibmmaa
open Go.RowKit
set_option linter.unusedVariables false

set_option maxRecDepth 100000 in
set_option maxHeartbeats 2000000 in
theorem asks_long (d n : Int) (s : ByteArray) (hl : 200 < s.size) (hs : s.size ≤ maxLen) (w : World) :
    Calls Try.prog 3 #[.int .u64 d, .int .i64 n, .string s] w fun e w' => e = .returned (.bool true) ∧ Kept w w' := by
  have hk := Kept.refl w
  have c0 := fun (X : World) (hX : Kept w X) => Lib.hid (told_t hX)
  unfold maxLen at hs
  go_enter Try.func3, Try.ntmps3
  go_wp2_with (first | (go_at_call 8; ((with_reducible refine ((c0 _ (by assumption)).out).mono ?_); rintro e w' ⟨rfl, hk⟩)))
  all_goals
    go_ret
    exact ⟨ret_bool (by simp), by assumption⟩

set_option maxRecDepth 100000 in
set_option maxHeartbeats 2000000 in
theorem asks_in (d n r g x y u : Int) (s : ByteArray) (a : Int) (wd : 0 ≤ d ∧ d ≤ 18446744073709551615) (h1 : Dn.next d = r) (h2 : Dn.next r = g) (h3 : Dn.share r 16777216 = x) (h4 : Dn.share g 16777216 = y) (h5 : Dn.seed s.data.toList = u) (hl : s.size ≤ 200) (hs : s.size ≤ maxLen) (wn : 1 ≤ n ∧ n ≤ 2147483647) (h6 : Dn.share r n = a) (w : World) :
    Calls Try.prog 3 #[.int .u64 d, .int .i64 n, .string s] w fun e w' => e = .returned (.bool true) ∧ Kept w w' := by
  have hk := Kept.refl w
  have c0 := fun (X : World) (hX : Kept w X) => Lib.hid (told_t hX)
  have c1 := fun (X : World) (hX : Kept w X) => Lib.hid (next_t hX d r wd h1)
  have c2 := fun (X : World) (hX : Kept w X) => Lib.hid (refnext_t hX d r wd h1)
  have c3 := fun (X : World) (hX : Kept w X) => Lib.hid (place_t hX d r g x y wd h1 h2 h3 h4)
  have c4 := fun (X : World) (hX : Kept w X) => Lib.hid (refplace_t hX d r g x y wd h1 h2 h3 h4)
  have c5 := fun (X : World) (hX : Kept w X) => Lib.hid (seed_t hX s u hs h5)
  have c6 := fun (X : World) (hX : Kept w X) => Lib.hid (refseed_t hX s u hs h5)
  have c7 := fun (X : World) (hX : Kept w X) => Lib.hid (pickin_t hX d n a r wd wn h1 h6)
  have c8 := fun (X : World) (hX : Kept w X) => Lib.hid (refpickin_t hX d n a r wd wn h1 h6)
  clear h1 h2 h3 h4 h5 hs
  clear h6 wn
  go_enter Try.func3, Try.ntmps3
  go_wp2_with (first | (go_at_call 8; ((with_reducible refine ((c0 _ (by assumption)).out).mono ?_); rintro e w' ⟨rfl, hk⟩)) | (go_at_call 13; ((with_reducible refine ((c1 _ (by assumption)).out).mono ?_); rintro e w' ⟨rfl, hk⟩)) | (go_at_call 14; ((with_reducible refine ((c2 _ (by assumption)).out).mono ?_); rintro e w' ⟨rfl, hk⟩)) | (go_at_call 11; ((with_reducible refine ((c3 _ (by assumption)).out).mono ?_); rintro e w' ⟨rfl, hk⟩)) | (go_at_call 12; ((with_reducible refine ((c4 _ (by assumption)).out).mono ?_); rintro e w' ⟨rfl, hk⟩)) | (go_at_call 15; ((with_reducible refine ((c5 _ (by assumption)).out).mono ?_); rintro e w' ⟨rfl, hk⟩)) | (go_at_call 16; ((with_reducible refine ((c6 _ (by assumption)).out).mono ?_); rintro e w' ⟨rfl, hk⟩)) | (go_at_call 9; ((with_reducible refine ((c7 _ (by assumption)).out).mono ?_); rintro e w' ⟨rfl, hk⟩)) | (go_at_call 10; ((with_reducible refine ((c8 _ (by assumption)).out).mono ?_); rintro e w' ⟨rfl, hk⟩)))
  all_goals
    go_ret
    exact ⟨ret_bool (by simp), by assumption⟩

set_option maxRecDepth 100000 in
set_option maxHeartbeats 2000000 in
theorem asks_out (d n r g x y u : Int) (s : ByteArray) (wd : 0 ≤ d ∧ d ≤ 18446744073709551615) (h1 : Dn.next d = r) (h2 : Dn.next r = g) (h3 : Dn.share r 16777216 = x) (h4 : Dn.share g 16777216 = y) (h5 : Dn.seed s.data.toList = u) (hl : s.size ≤ 200) (hs : s.size ≤ maxLen) (wn : n < 1 ∨ 2147483647 < n) (w : World) :
    Calls Try.prog 3 #[.int .u64 d, .int .i64 n, .string s] w fun e w' => e = .returned (.bool true) ∧ Kept w w' := by
  have hk := Kept.refl w
  have c0 := fun (X : World) (hX : Kept w X) => Lib.hid (told_t hX)
  have c1 := fun (X : World) (hX : Kept w X) => Lib.hid (next_t hX d r wd h1)
  have c2 := fun (X : World) (hX : Kept w X) => Lib.hid (refnext_t hX d r wd h1)
  have c3 := fun (X : World) (hX : Kept w X) => Lib.hid (place_t hX d r g x y wd h1 h2 h3 h4)
  have c4 := fun (X : World) (hX : Kept w X) => Lib.hid (refplace_t hX d r g x y wd h1 h2 h3 h4)
  have c5 := fun (X : World) (hX : Kept w X) => Lib.hid (seed_t hX s u hs h5)
  have c6 := fun (X : World) (hX : Kept w X) => Lib.hid (refseed_t hX s u hs h5)
  have c7 := fun (X : World) (hX : Kept w X) => Lib.hid (pickout_t hX d n wn)
  have c8 := fun (X : World) (hX : Kept w X) => Lib.hid (refpickout_t hX d n wn)
  clear h1 h2 h3 h4 h5 hs
  clear wn
  go_enter Try.func3, Try.ntmps3
  go_wp2_with (first | (go_at_call 8; ((with_reducible refine ((c0 _ (by assumption)).out).mono ?_); rintro e w' ⟨rfl, hk⟩)) | (go_at_call 13; ((with_reducible refine ((c1 _ (by assumption)).out).mono ?_); rintro e w' ⟨rfl, hk⟩)) | (go_at_call 14; ((with_reducible refine ((c2 _ (by assumption)).out).mono ?_); rintro e w' ⟨rfl, hk⟩)) | (go_at_call 11; ((with_reducible refine ((c3 _ (by assumption)).out).mono ?_); rintro e w' ⟨rfl, hk⟩)) | (go_at_call 12; ((with_reducible refine ((c4 _ (by assumption)).out).mono ?_); rintro e w' ⟨rfl, hk⟩)) | (go_at_call 15; ((with_reducible refine ((c5 _ (by assumption)).out).mono ?_); rintro e w' ⟨rfl, hk⟩)) | (go_at_call 16; ((with_reducible refine ((c6 _ (by assumption)).out).mono ?_); rintro e w' ⟨rfl, hk⟩)) | (go_at_call 9; ((with_reducible refine ((c7 _ (by assumption)).out).mono ?_); rintro e w' ⟨rfl, hk⟩)) | (go_at_call 10; ((with_reducible refine ((c8 _ (by assumption)).out).mono ?_); rintro e w' ⟨rfl, hk⟩)))
  all_goals
    go_ret
    exact ⟨ret_bool (by simp), by assumption⟩

theorem asks_law (d n : Int) (s : ByteArray) (wd : 0 ≤ d ∧ d ≤ 18446744073709551615) (hs : s.size ≤ maxLen) (w : World) :
    Calls Try.prog 3 #[.int .u64 d, .int .i64 n, .string s] w fun e w' => e = .returned (.bool true) ∧ Kept w w' := by
  by_cases hl : 200 < s.size
  · exact asks_long d n s hl hs w
  · by_cases hn : 1 ≤ n ∧ n ≤ 2147483647
    · exact asks_in d n _ _ _ _ _ s _ wd rfl rfl rfl rfl rfl (by omega) hs hn rfl w
    · exact asks_out d n _ _ _ _ _ s wd rfl rfl rfl rfl rfl (by omega) hs (by omega) w

end Go.Proofs.Ytcijcfblpibmmaa
