/-
DiceRange: the walk.
-/
import Derived.Test.YtcijcfblpibmmaaDt
namespace Go.Proofs.Ytcijcfblpibmmaa
open Go.RowKit
set_option linter.unusedVariables false

set_option maxRecDepth 100000 in
set_option maxHeartbeats 2000000 in
theorem range_walk (d n N m r g x y a : Int) (wd : 0 ≤ d ∧ d ≤ 18446744073709551615) (hN : IntKind.u64.wrap n = N) (wN : 0 ≤ N ∧ N ≤ 18446744073709551615) (hm : N % 2147483647 = m) (wm : 0 ≤ m ∧ m < 2147483647) (h1 : Dn.next d = r) (h2 : Dn.next r = g) (h3 : Dn.share r 16777216 = x) (h4 : Dn.share g 16777216 = y) (h6 : Dn.share r (1 + m) = a) (wx : 0 ≤ x ∧ x < 16777216) (wy : 0 ≤ y ∧ y < 16777216) (wa : 0 ≤ a ∧ a < 1 + m) (w : World) :
    Calls Try.prog 4 #[.int .u64 d, .int .i64 n] w fun e w' => e = .returned (.bool true) ∧ Kept w w' := by
  have hk := Kept.refl w
  have c0 := fun (X : World) (hX : Kept w X) => Lib.hid (told_t hX)
  have c1 := fun (X : World) (hX : Kept w X) => Lib.hid (next_t hX d r wd h1)
  have c3 := fun (X : World) (hX : Kept w X) => Lib.hid (place_t hX d r g x y wd h1 h2 h3 h4)
  have c7 := fun (X : World) (hX : Kept w X) => Lib.hid (pickin_t hX d (1 + m) a r wd (by omega) h1 h6)
  clear h1 h2 h3 h4 h6
  go_enter Try.func4, Try.ntmps4
  go_wp2_with (first | (go_at_call 8; ((with_reducible refine ((c0 _ (by assumption)).out).mono ?_); rintro e w' ⟨rfl, hk⟩)) | (go_at_call 13; ((with_reducible refine ((c1 _ (by assumption)).out).mono ?_); rintro e w' ⟨rfl, hk⟩)) | (go_at_call 11; ((with_reducible refine ((c3 _ (by assumption)).out).mono ?_); rintro e w' ⟨rfl, hk⟩)) | (go_at_call 9; ((with_reducible refine ((c7 _ (by assumption)).out).mono ?_); rintro e w' ⟨rfl, hk⟩)))
  all_goals
    go_ret
    exact ⟨ret_bool (by simp), by assumption⟩

theorem range_law (d n : Int) (wd : 0 ≤ d ∧ d ≤ 18446744073709551615) (w : World) :
    Calls Try.prog 4 #[.int .u64 d, .int .i64 n] w fun e w' => e = .returned (.bool true) ∧ Kept w w' := by
  have hN : 0 ≤ IntKind.u64.wrap n ∧ IntKind.u64.wrap n ≤ 18446744073709551615 := by rw [wrap_u64']; omega
  have b1 := Dn.share_bd (Dn.next_bd d) (show (1 : Int) ≤ 16777216 ∧ (16777216 : Int) ≤ 2147483647 by omega)
  have b2 := Dn.share_bd (Dn.next_bd (Dn.next d)) (show (1 : Int) ≤ 16777216 ∧ (16777216 : Int) ≤ 2147483647 by omega)
  have hm : 0 ≤ IntKind.u64.wrap n % 2147483647 ∧ IntKind.u64.wrap n % 2147483647 < 2147483647 := by omega
  have b3 := Dn.share_bd (n := 1 + IntKind.u64.wrap n % 2147483647) (Dn.next_bd d) (by omega)
  exact range_walk d n _ _ _ _ _ _ _ wd rfl hN rfl hm rfl rfl rfl rfl rfl b1.2.2 b2.2.2 b3.2.2 w

end Go.Proofs.Ytcijcfblpibmmaa
