/-
DiceGoes: the walk.
-/
import Derived.Test.YtcijcfblpibmmaaDt
namespace Go.Proofs.Ytcijcfblpibmmaa
open Go.RowKit
set_option linter.unusedVariables false

set_option maxRecDepth 100000 in
set_option maxHeartbeats 2000000 in
theorem goes_same (d r p q : Int) (wd : 0 ≤ d ∧ d ≤ 18446744073709551615) (h1 : Dn.next d = r) (a1 : bits .and .u64 r 1 = p) (a2 : bits .and .u64 d 1 = q) (hpq : (p == q) = false) (hpq' : (p != q) = true) (w : World) :
    Calls Try.prog 5 #[.int .u64 d, .int .u64 d] w fun e w' => e = .returned (.bool true) ∧ Kept w w' := by
  have hk := Kept.refl w
  have c0 := fun (X : World) (hX : Kept w X) => Lib.hid (told_t hX)
  have c1 := fun (X : World) (hX : Kept w X) => Lib.hid (next_t hX d r wd h1)
  clear h1
  go_enter Try.func5, Try.ntmps5
  go_wp2_with (first | (go_at_call 8; ((with_reducible refine ((c0 _ (by assumption)).out).mono ?_); rintro e w' ⟨rfl, hk⟩)) | (go_at_call 13; ((with_reducible refine ((c1 _ (by assumption)).out).mono ?_); rintro e w' ⟨rfl, hk⟩)))
  all_goals
    go_ret
    exact ⟨ret_bool (by simp), by assumption⟩

set_option maxRecDepth 100000 in
set_option maxHeartbeats 2000000 in
theorem goes_apart (c d b r p q : Int) (wc : 0 ≤ c ∧ c ≤ 18446744073709551615) (wd : 0 ≤ d ∧ d ≤ 18446744073709551615) (h0 : Dn.next c = b) (h1 : Dn.next d = r) (e1 : (b == r) = false) (e2 : (c == d) = false) (a1 : bits .and .u64 r 1 = p) (a2 : bits .and .u64 d 1 = q) (hpq : (p == q) = false) (hpq' : (p != q) = true) (w : World) :
    Calls Try.prog 5 #[.int .u64 c, .int .u64 d] w fun e w' => e = .returned (.bool true) ∧ Kept w w' := by
  have hk := Kept.refl w
  have c0 := fun (X : World) (hX : Kept w X) => Lib.hid (told_t hX)
  have c1 := fun (X : World) (hX : Kept w X) => Lib.hid (next_t hX d r wd h1)
  have c2 := fun (X : World) (hX : Kept w X) => Lib.hid (next_t hX c b wc h0)
  clear h0 h1
  go_enter Try.func5, Try.ntmps5
  go_wp2_with (first | (go_at_call 8; ((with_reducible refine ((c0 _ (by assumption)).out).mono ?_); rintro e w' ⟨rfl, hk⟩)) | (go_at_call 13; first | ((with_reducible refine ((c1 _ (by assumption)).out).mono ?_); rintro e w' ⟨rfl, hk⟩) | ((with_reducible refine ((c2 _ (by assumption)).out).mono ?_); rintro e w' ⟨rfl, hk⟩)))
  all_goals
    go_ret
    exact ⟨ret_bool (by simp), by assumption⟩

theorem u64_and1 (a : Int) (h : 0 ≤ a ∧ a ≤ 18446744073709551615) : bits .and .u64 a 1 = a % 2 := by
  rw [u64_and a 1 h.1 (Int.lt_of_le_of_lt h.2 (by decide)) (by decide) (by decide)]
  have : a.toNat &&& (1 : Int).toNat = a.toNat % 2 := nat_mask1 _
  rw [this]; omega
theorem goes_law (c d : Int) (wc : 0 ≤ c ∧ c ≤ 18446744073709551615) (wd : 0 ≤ d ∧ d ≤ 18446744073709551615) (w : World) :
    Calls Try.prog 5 #[.int .u64 c, .int .u64 d] w fun e w' => e = .returned (.bool true) ∧ Kept w w' := by
  have a1 := u64_and1 _ (Dn.next_bd d)
  have a2 := u64_and1 d wd
  have ho := Dn.next_odd d
  have p1 : (Dn.next d % 2 == d % 2) = false := by simpa using ho
  have p2 : (Dn.next d % 2 != d % 2) = true := by simpa using ho
  by_cases h : c = d
  · subst h; exact goes_same c _ _ _ wd rfl a1 a2 p1 p2 w
  · have hn : Dn.next c ≠ Dn.next d := fun e => h ((Dn.next_inj wc wd).1 e)
    exact goes_apart c d _ _ _ _ wc wd rfl rfl (by simpa using hn) (by simpa using h) a1 a2 p1 p2 w

end Go.Proofs.Ytcijcfblpibmmaa
