/-
The contracts of package dice with named answers, carried on from a world that is kept; that told is true.
-/
import Derived.Test.YtcijcfblpibmmaaDs
namespace Go.Proofs.Ytcijcfblpibmmaa
open Go.RowKit
set_option linter.unusedVariables false

theorem next_t {v w : World} (hb : Kept v w) (d r : Int) (wd : 0 ≤ d ∧ d ≤ 18446744073709551615) (h : Dn.next d = r) :
    Calls Try.prog 13 #[.int .u64 d] w fun e w' => e = .returned (.int .u64 r) ∧ Kept v w' := by
  subst_vars; exact on_below hb (next_any d wd w)

theorem pickin_t {v w : World} (hb : Kept v w) (d n a r : Int) (wd : 0 ≤ d ∧ d ≤ 18446744073709551615) (wn : 1 ≤ n ∧ n ≤ 2147483647) (h : Dn.next d = r) (h' : Dn.share r n = a) :
    Calls Try.prog 9 #[.int .u64 d, .int .i64 n] w fun e w' => e = .returned (.tuple #[.int .i64 a, .int .u64 r]) ∧ Kept v w' := by
  subst_vars; exact on_below hb (pick_in d n wd wn w)

theorem pickout_t {v w : World} (hb : Kept v w) (d n : Int) (wn : n < 1 ∨ 2147483647 < n)  :
    Calls Try.prog 9 #[.int .u64 d, .int .i64 n] w fun e w' => e = .returned (.tuple #[.int .i64 0, .int .u64 d]) ∧ Kept v w' := by
  subst_vars; exact on_below hb (pick_out d n wn w)

theorem place_t {v w : World} (hb : Kept v w) (d r g x y : Int) (wd : 0 ≤ d ∧ d ≤ 18446744073709551615) (h : Dn.next d = r) (h' : Dn.next r = g) (hx : Dn.share r 16777216 = x) (hy : Dn.share g 16777216 = y) :
    Calls Try.prog 11 #[.int .u64 d] w fun e w' => e = .returned (.tuple #[.int .i32 x, .int .i32 y, .int .u64 g]) ∧ Kept v w' := by
  subst_vars; exact on_below hb (place_any d wd w)

theorem seed_t {v w : World} (hb : Kept v w) (s : ByteArray) (r : Int) (hs : s.size ≤ maxLen) (h : Dn.seed s.data.toList = r) :
    Calls Try.prog 15 #[.string s] w fun e w' => e = .returned (.int .u64 r) ∧ Kept v w' := by
  subst_vars; exact on_below hb (seed_any s w hs)

theorem refnext_t {v w : World} (hb : Kept v w) (d r : Int) (wd : 0 ≤ d ∧ d ≤ 18446744073709551615) (h : Dn.next d = r) :
    Calls Try.prog 14 #[.int .u64 d] w fun e w' => e = .returned (.int .u64 r) ∧ Kept v w' := by
  subst_vars; exact on_same hb (refnext_any d wd w)

theorem refpickin_t {v w : World} (hb : Kept v w) (d n a r : Int) (wd : 0 ≤ d ∧ d ≤ 18446744073709551615) (wn : 1 ≤ n ∧ n ≤ 2147483647) (h : Dn.next d = r) (h' : Dn.share r n = a) :
    Calls Try.prog 10 #[.int .u64 d, .int .i64 n] w fun e w' => e = .returned (.tuple #[.int .i64 a, .int .u64 r]) ∧ Kept v w' := by
  subst_vars; exact on_same hb (refpick_in d n wd wn w)

theorem refpickout_t {v w : World} (hb : Kept v w) (d n : Int) (wn : n < 1 ∨ 2147483647 < n)  :
    Calls Try.prog 10 #[.int .u64 d, .int .i64 n] w fun e w' => e = .returned (.tuple #[.int .i64 0, .int .u64 d]) ∧ Kept v w' := by
  subst_vars; exact on_same hb (refpick_out d n wn w)

theorem refplace_t {v w : World} (hb : Kept v w) (d r g x y : Int) (wd : 0 ≤ d ∧ d ≤ 18446744073709551615) (h : Dn.next d = r) (h' : Dn.next r = g) (hx : Dn.share r 16777216 = x) (hy : Dn.share g 16777216 = y) :
    Calls Try.prog 12 #[.int .u64 d] w fun e w' => e = .returned (.tuple #[.int .i32 x, .int .i32 y, .int .u64 g]) ∧ Kept v w' := by
  subst_vars; exact on_same hb (refplace_any d wd w)

theorem refseed_t {v w : World} (hb : Kept v w) (s : ByteArray) (r : Int) (hs : s.size ≤ maxLen) (h : Dn.seed s.data.toList = r) :
    Calls Try.prog 16 #[.string s] w fun e w' => e = .returned (.int .u64 r) ∧ Kept v w' := by
  subst_vars; exact on_same hb (refseed_any s w hs)

set_option maxRecDepth 100000 in
set_option maxHeartbeats 2000000 in
theorem told_any (w : World) :
    Calls Try.prog 8 #[] w fun e w' => e = .returned (.bool true) ∧ Kept w w' := by
  have hk := Kept.refl w
  have p1 := fun (X : World) (hX : Kept w X) => Lib.hid (pickin_t hX 0 1 0 1442695040888963407 (by decide) (by decide) (by decide +kernel) (by decide +kernel))
  have p2 := fun (X : World) (hX : Kept w X) => Lib.hid (pickout_t hX 7 0 (by omega))
  have n1 := fun (X : World) (hX : Kept w X) => Lib.hid (next_t hX 0 1442695040888963407 (by decide) (by decide +kernel))
  have s1 := fun (X : World) (hX : Kept w X) => Lib.hid (seed_t hX ⟨#[]⟩ 14695981039346656037 (by decide) (by decide +kernel))
  have s2 := fun (X : World) (hX : Kept w X) => Lib.hid (seed_t hX ⟨#[97]⟩ 12638187200555641996 (by decide) (by decide +kernel))
  go_enter Try.func8, Try.ntmps8
  go_wp2_with (first | (go_at_call 9; first | ((with_reducible refine ((p1 _ (by assumption)).out).mono ?_); rintro e w' ⟨rfl, hk⟩) | ((with_reducible refine ((p2 _ (by assumption)).out).mono ?_); rintro e w' ⟨rfl, hk⟩)) | (go_at_call 13; ((with_reducible refine ((n1 _ (by assumption)).out).mono ?_); rintro e w' ⟨rfl, hk⟩)) | (go_at_call 15; first | ((with_reducible refine ((s1 _ (by assumption)).out).mono ?_); rintro e w' ⟨rfl, hk⟩) | ((with_reducible refine ((s2 _ (by assumption)).out).mono ?_); rintro e w' ⟨rfl, hk⟩)))
  go_ret
  exact ⟨rfl, by assumption⟩
theorem told_t {v w : World} (hb : Kept v w) :
    Calls Try.prog 8 #[] w fun e w' => e = .returned (.bool true) ∧ Kept v w' := on_below hb (told_any w)

end Go.Proofs.Ytcijcfblpibmmaa
