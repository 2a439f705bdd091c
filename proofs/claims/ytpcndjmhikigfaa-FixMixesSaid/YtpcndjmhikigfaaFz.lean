/-
How great a number is: the contract.
-/
import Derived.Test.YtpcndjmhikigfaaFt
namespace Go.Proofs.Ytpcndjmhikigfaa
open Go.RowKit
set_option linter.unusedVariables false

set_option maxHeartbeats 400000 in
theorem size_t {v w : World} (hb : Kept v w) (a n : Int) (wa : I32 a) (h : (a.natAbs : Int) = n) :
    Calls Try.prog 27 #[.int .i32 a] w fun e w' => e = .returned (.int .i64 n) ∧ Kept v w' := by
  by_cases h0 : a < 0
  · have hn := Lib.hid (show -a = n by omega)
    clear h
    go_enter Try.func27, Try.ntmps27
    go_wp2
    go_ret
    exact ⟨congrArg (fun x => Ending.returned (.int .i64 x)) hn.out, hb⟩
  · have hn := Lib.hid (show a = n by omega)
    clear h
    go_enter Try.func27, Try.ntmps27
    go_wp2
    go_ret
    exact ⟨congrArg (fun x => Ending.returned (.int .i64 x)) hn.out, hb⟩

end Go.Proofs.Ytpcndjmhikigfaa
