/-
SerialAsks: of any bits.
-/
import Derived.Test.YtgjkodbigdgdmaaVf
namespace Go.Proofs.Ytgjkodbigdgdmaa
open Go.RowKit
set_option linter.unusedVariables false

theorem asks11_law (a b c z : Int) (ha : 0 ≤ a ∧ a ≤ 65535) (hb : 0 ≤ b ∧ b ≤ 65535) (hc : 0 ≤ c ∧ c ≤ 65535) (hz : 0 ≤ z ∧ z ≤ 4294967295) (w : World) :
    Calls Try.prog 3 #[.int .u16 a, .int .u16 b, .int .u16 c, .int .u32 z] w fun e w' => e = .returned (.bool true) ∧ Kept w w' := by
  obtain ⟨n, rfl⟩ : ∃ n : Nat, z = (n : Int) := ⟨z.toNat, by omega⟩
  exact asks11_main a b c n ha hb hc (by omega) w
end Go.Proofs.Ytgjkodbigdgdmaa
