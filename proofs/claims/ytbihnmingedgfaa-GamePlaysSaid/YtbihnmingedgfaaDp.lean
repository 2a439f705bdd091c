/-
The contracts of package dice, and of the document's: places; the document's throws, picks, places.
-/
import Derived.Test.YtbihnmingedgfaaKp
import Derived.Test.YtbihnmingedgfaaDn
import Derived.LoopTactic
import Derived.Outline
import Derived.Laws.EntriesVeiled
import Derived.Laws.IdiomStrings
import Derived.OneCell
namespace Go.Proofs.Ytbihnmingedgfaa
open Go.RowKit
set_option linter.unusedVariables false

theorem wrap_u64' (n : Int) : IntKind.u64.wrap n = n % 18446744073709551616 := by simp [IntKind.wrap, IntKind.bits, IntKind.signed]
theorem next_wraps (d : Int) : IntKind.u64.wrap (IntKind.u64.wrap (d * 6364136223846793005) + 1442695040888963407) = Dn.next d := by
  rw [wrap_u64', wrap_u64']; unfold Dn.next
  generalize d * 6364136223846793005 = x
  omega
theorem xor_nought (d : Int) (wd : 0 ≤ d ∧ d ≤ 18446744073709551615) : bits .xor .u64 d 0 = d := by
  rw [u64_xor d 0 wd.1 (Int.lt_of_le_of_lt wd.2 (by decide)) (by decide) (by decide)]
  have : d.toNat ^^^ (0 : Int).toNat = d.toNat := Nat.xor_zero _
  rw [this]
  exact Int.toNat_of_nonneg wd.1

set_option maxHeartbeats 400000 in
theorem refnext_any (d : Int) (wd : 0 ≤ d ∧ d ≤ 18446744073709551615) (w : World) :
    Calls Try.prog 144 #[.int .u64 d] w fun e w' => e = .returned (.int .u64 (Dn.next d)) ∧ w = w' := by
  go_enter Try.func144, Try.ntmps144
  go_wp2
  go_ret
  exact ⟨ret_int (next_wraps d), rfl⟩

theorem four_below (w : World) (o1 o2 o3 o4 : Obj) : Below w.heap.size w ((((w.alloc o1).alloc o2).alloc o3).alloc o4) :=
  ((((Below.refl _ _).alloc (Nat.le_refl _) _).alloc (by simp) _).alloc (by simp; omega) _).alloc (by simp; omega) _

set_option maxHeartbeats 400000 in
theorem share_any (d n : Int) (wd : 0 ≤ d ∧ d ≤ 18446744073709551615) (wn : 1 ≤ n ∧ n ≤ 2147483647) (w : World) :
    Calls Try.prog 143 #[.int .u64 d, .int .i64 n] w fun e w' => e = .returned (.int .i64 (Dn.share d n)) ∧ w = w' := by
  have hp := Dn.share_bd wd wn
  go_enter Try.func143, Try.ntmps143
  go_wp2
  go_ret
  exact ⟨ret_int rfl, rfl⟩

set_option maxHeartbeats 400000 in
theorem refpick_in (d n : Int) (wd : 0 ≤ d ∧ d ≤ 18446744073709551615) (wn : 1 ≤ n ∧ n ≤ 2147483647) (w : World) :
    Calls Try.prog 109 #[.int .u64 d, .int .i64 n] w fun e w' => e = .returned (.tuple #[.int .i64 (Dn.share (Dn.next d) n), .int .u64 (Dn.next d)]) ∧ w = w' := by
  have c1 := fun X => Lib.hid (refnext_any d wd X)
  have hb := Dn.next_bd d
  have hp := Dn.share_bd hb wn
  have hs : Hid (Dn.share (Dn.next d) n = Dn.next d / 4294967296 * n / 4294967296) := Lib.hid rfl
  go_enter Try.func109, Try.ntmps109
  go_wp2_with (go_at_call 144; ((with_reducible refine ((c1 _).out).mono ?_); rintro e w' ⟨rfl, rfl⟩))
  go_ret2
  exact ⟨by rw [hs.out]; rfl, rfl⟩

set_option maxHeartbeats 400000 in
theorem refpick_out (d n : Int) (wn : n < 1 ∨ 2147483647 < n) (w : World) :
    Calls Try.prog 109 #[.int .u64 d, .int .i64 n] w fun e w' => e = .returned (.tuple #[.int .i64 0, .int .u64 d]) ∧ w = w' := by
  rcases wn with h | h
  · have h' : decide (n < 1) = true := decide_eq_true h
    go_enter Try.func109, Try.ntmps109
    go_wp2
    go_ret2
    exact ⟨rfl, rfl⟩
  · have h' : decide (n < 1) = false := decide_eq_false (by omega)
    go_enter Try.func109, Try.ntmps109
    go_wp2
    go_ret2
    exact ⟨rfl, rfl⟩

set_option maxHeartbeats 400000 in
theorem refplace_any (d : Int) (wd : 0 ≤ d ∧ d ≤ 18446744073709551615) (w : World) :
    Calls Try.prog 57 #[.int .u64 d] w fun e w' => e = .returned (.tuple #[.int .i32 (Dn.share (Dn.next d) 16777216), .int .i32 (Dn.share (Dn.next (Dn.next d)) 16777216), .int .u64 (Dn.next (Dn.next d))]) ∧ w = w' := by
  have c1 := fun X => Lib.hid (refpick_in d 16777216 wd (by omega) X)
  have c2 := fun X => Lib.hid (refpick_in (Dn.next d) 16777216 (Dn.next_bd d) (by omega) X)
  have b1 := Dn.share_bd (Dn.next_bd d) (show (1 : Int) ≤ 16777216 ∧ (16777216 : Int) ≤ 2147483647 by omega)
  have b2 := Dn.share_bd (Dn.next_bd (Dn.next d)) (show (1 : Int) ≤ 16777216 ∧ (16777216 : Int) ≤ 2147483647 by omega)
  go_enter Try.func57, Try.ntmps57
  go_wp2_with (go_at_call 109; first | ((with_reducible refine ((c1 _).out).mono ?_); rintro e w' ⟨rfl, rfl⟩) | ((with_reducible refine ((c2 _).out).mono ?_); rintro e w' ⟨rfl, rfl⟩))
  go_ret3
  exact ⟨rfl, rfl⟩

set_option maxHeartbeats 400000 in
theorem place_any (d : Int) (wd : 0 ≤ d ∧ d ≤ 18446744073709551615) (w : World) :
    Calls Try.prog 106 #[.int .u64 d] w fun e w' => e = .returned (.tuple #[.int .i32 (Dn.share (Dn.next d) 16777216), .int .i32 (Dn.share (Dn.next (Dn.next d)) 16777216), .int .u64 (Dn.next (Dn.next d))]) ∧ Below w.heap.size w w' := by
  have hmf : ∀ (fn : Fn) (first cap : Array Value) (w : World), (Instr.makeFunc fn first cap).run Try.prog w = .ok (.func fn first cap) w := fun _ _ _ _ => rfl
  have h1 := xor_nought d wd
  have h2 := next_wraps d
  have h3 := xor_nought _ (Dn.next_bd d)
  have h4 := next_wraps (Dn.next d)
  have c1 := fun X => Lib.hid (share_any (Dn.next d) 16777216 (Dn.next_bd _) (by omega) X)
  have c2 := fun X => Lib.hid (share_any (Dn.next (Dn.next d)) 16777216 (Dn.next_bd _) (by omega) X)
  have b1 := Dn.share_bd (Dn.next_bd d) (show (1 : Int) ≤ 16777216 ∧ (16777216 : Int) ≤ 2147483647 by omega)
  have b2 := Dn.share_bd (Dn.next_bd (Dn.next d)) (show (1 : Int) ≤ 16777216 ∧ (16777216 : Int) ≤ 2147483647 by omega)
  go_enter Try.func106, Try.ntmps106
  go_wp2_with (first | (go_at_call 143; first | ((with_reducible refine ((c1 _).out).mono ?_); rintro e w' ⟨rfl, rfl⟩) | ((with_reducible refine ((c2 _).out).mono ?_); rintro e w' ⟨rfl, rfl⟩)) | go_in)
  go_ret3
  exact ⟨rfl, four_below _ _ _ _ _⟩
end Go.Proofs.Ytbihnmingedgfaa
