/-
SerialAsks, SerialWays: the walks.
-/
import Derived.Test.YtgjkodbigdgdmaaVe
namespace Go.Proofs.Ytgjkodbigdgdmaa
open Go.RowKit
set_option linter.unusedVariables false

set_option maxRecDepth 100000 in
set_option maxHeartbeats 2000000 in
theorem asks11_main (a b c : Int) (n : Nat) (ha : 0 ≤ a ∧ a ≤ 65535) (hb : 0 ≤ b ∧ b ≤ 65535) (hc : 0 ≤ c ∧ c ≤ 65535) (hn : n < 4294967296) (w : World) :
    Calls Try.prog 3 #[.int .u16 a, .int .u16 b, .int .u16 c, .int .u32 (n : Int)] w fun e w' => e = .returned (.bool true) ∧ Kept w w' := by
  have c0 := Lib.hid (told11_any w)
  have c1 := fun X => Lib.hid (serway_any a b X)
  have c2 := fun X => Lib.hid (refway_any a b ha hb X)
  have c3 := fun X => Lib.hid (serahead_any a b X)
  have c4 := fun X => Lib.hid (refway_any b a hb ha X)
  have c5 := fun X => Lib.hid (sertold_any a c n hn X)
  have c6 := fun X => Lib.hid (reftold_any a c n hc ha hn X)
  generalize Sr.way a b = k at *
  generalize Sr.way b a = k' at *
  generalize Sr.told a c n = T at *
  go_enter Try.func3, Try.ntmps3
  go_wp2_with (first | (go_at_call 9; ((with_reducible refine (c0.out).mono ?_); rintro e w1 ⟨rfl, hb⟩; have HK := Lib.hid hb; clear hb)) | (go_at_call 10; ((with_reducible refine ((c1 _).out).mono ?_); rintro e w9 ⟨rfl, rfl⟩)) | (go_at_call 11; first | ((with_reducible refine ((c2 _).out).mono ?_); rintro e w9 ⟨rfl, rfl⟩) | ((with_reducible refine ((c4 _).out).mono ?_); rintro e w9 ⟨rfl, rfl⟩)) | (go_at_call 12; ((with_reducible refine ((c3 _).out).mono ?_); rintro e w9 ⟨rfl, rfl⟩)) | (go_at_call 13; ((with_reducible refine (c5 _).out.mono ?_); rintro e w2 ⟨rfl, hb⟩; have HL := Lib.hid hb; clear hb)) | (go_at_call 14; ((with_reducible refine ((c6 _).out).mono ?_); rintro e w9 ⟨rfl, rfl⟩)))
  all_goals
    go_ret
    exact ⟨ret_bool (by simp), HK.out.trans (HL.out.mono HK.out.size)⟩
end Go.Proofs.Ytgjkodbigdgdmaa
