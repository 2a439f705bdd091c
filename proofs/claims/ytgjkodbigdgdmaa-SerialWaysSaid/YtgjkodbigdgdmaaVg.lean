/-
SerialWays: the walk.
-/
import Derived.Test.YtgjkodbigdgdmaaVe
namespace Sr
theorem way_shift (a b n : Int) : way ((a + n) % 65536) ((b + n) % 65536) = way a b := by
  unfold way
  have : ((b + n) % 65536 - (a + n) % 65536) % 65536 = (b - a) % 65536 := by omega
  rw [this]
theorem way_add (a b : Int) (hb : 0 ≤ b ∧ b ≤ 65535) : (a + way a b) % 65536 = b := by
  have := way_mod a b
  omega
end Sr
namespace Go.Proofs.Ytgjkodbigdgdmaa
open Go.RowKit
set_option linter.unusedVariables false

set_option maxRecDepth 100000 in
set_option maxHeartbeats 2000000 in
theorem ways11_main (a b n : Int) (ha : 0 ≤ a ∧ a ≤ 65535) (hb : 0 ≤ b ∧ b ≤ 65535) (w : World) :
    Calls Try.prog 6 #[.int .u16 a, .int .u16 b, .int .i64 n] w fun e w' => e = .returned (.bool true) ∧ Kept w w' := by
  have c0 := Lib.hid (told11_any w)
  have c1 := fun X => Lib.hid (serway_any a b X)
  have c2 := fun X => Lib.hid (serway_any b a X)
  have c3 := fun X => Lib.hid (serahead_any b a X)
  have c4 := fun X => Lib.hid (serway_any ((a + n) % 65536) ((b + n) % 65536) X)
  rw [Sr.way_shift a b n] at c4
  have hbk := Sr.way_back a b
  have hbd := Sr.way_bd a b
  have hbd' := Sr.way_bd b a
  have had := Sr.way_add a b hb
  have wu : ∀ x, IntKind.u16.wrap x = x % 65536 := IntKind.wrap_u16
  generalize Sr.way a b = k at *
  generalize Sr.way b a = k' at *
  rcases hbk with hk | ⟨rfl, rfl⟩
  · have h1 : (k == -k') = true := by simpa using hk
    clear hk
    go_enter Try.func6, Try.ntmps6
    go_wp2_with (first | (go_at_call 9; ((with_reducible refine (c0.out).mono ?_); rintro e w1 ⟨rfl, hb⟩; have HK := Lib.hid hb; clear hb)) | (go_at_call 10; first | ((with_reducible refine ((c1 _).out).mono ?_); rintro e w9 ⟨rfl, rfl⟩) | ((with_reducible refine ((c2 _).out).mono ?_); rintro e w9 ⟨rfl, rfl⟩) | ((with_reducible refine ((c4 _).out).mono ?_); rintro e w9 ⟨rfl, rfl⟩)) | (go_at_call 12; ((with_reducible refine ((c3 _).out).mono ?_); rintro e w9 ⟨rfl, rfl⟩)))
    all_goals
      trace_state
      go_ret
      exact ⟨ret_bool (by simp), HK.out⟩
  · go_enter Try.func6, Try.ntmps6
    go_wp2_with (first | (go_at_call 9; ((with_reducible refine (c0.out).mono ?_); rintro e w1 ⟨rfl, hb⟩; have HK := Lib.hid hb; clear hb)) | (go_at_call 10; first | ((with_reducible refine ((c1 _).out).mono ?_); rintro e w9 ⟨rfl, rfl⟩) | ((with_reducible refine ((c2 _).out).mono ?_); rintro e w9 ⟨rfl, rfl⟩) | ((with_reducible refine ((c4 _).out).mono ?_); rintro e w9 ⟨rfl, rfl⟩)) | (go_at_call 12; ((with_reducible refine ((c3 _).out).mono ?_); rintro e w9 ⟨rfl, rfl⟩)))
    all_goals
      trace_state
      go_ret
      exact ⟨ret_bool (by simp), HK.out⟩
end Go.Proofs.Ytgjkodbigdgdmaa
