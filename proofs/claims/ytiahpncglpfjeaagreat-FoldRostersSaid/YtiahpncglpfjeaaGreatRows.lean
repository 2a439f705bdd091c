/-
  No cell of these rows narrows 'for every input' (looked for: loops, veiled, ifaces, maps, wideKeys, modest, calm, conditions, laid).
  DERIVED. THE GIVEN ROWS OF THIS SEAT. 6 by the template 'for every input the law returns true; each argument reads behind the call as it read before'; 0 by the template 'total and deterministic' (their statements: YtiahpncglpfjeaaGreatTotals.lean).
  GIVEN WITH THE SEED: the statements are not yours to turn. If you find one false, say at which input.
  Laid BY PROGRAM, IN A SANDBOX (cutbox-rows.mjs): the forced cells as the released guide's own fill.sh prints them over the translation 9dd8f07fb3524aea… (all of the seat's roots in one cut). By AI agents, Wed Nov 11 2026. No macro, syntax, notation, axiom, sorry.
-/
import Derived.Test.YtiahpncglpfjeaaGreatChecked
import GoSem.Claim
import GoSem.ClaimJoined
import GoSem.ClaimMapViews
import Derived.JoinedTies
import Derived.KernelRfl
namespace Go.Proofs.YtiahpncglpfjeaaGreat
/- THE CELL 'sum', in the pinned program and in every row, IS THE sha256 OF THE DUMP (.gsa) THAT YtiahpncglpfjeaaGreatProg.lean LOADS. Nothing in Lean hashes anything: it is a label: what it is worth is what the hold of that sum in a sandbox is worth. -/
noncomputable def Tryz.pinned : Pinned := { name := "ytiahpncglpfjeaagreat", sum := "9dd8f07fb3524aea5424c8434856287435d853855e22912accd60b6ca1df3d48", checked := Tryz.checked }
namespace Rows
def none {H : Type} : Left H := { results := [], args := [] }

/-- 'ceilidhlaw10.FoldAsks': WHATEVER THE INPUT: true; the input reads as it did. -/
def foldAsksSpec : ChangeSpec := { name := "foldAsks", fn := fun _ => fun
  | [d1, d2, d3] => { results := [.lit (.bool true)], args := [d1, d2, d3] }
  | _ => none }
def foldAsksRow : OpenClaim := { program := "ytiahpncglpfjeaagreat", sum := "9dd8f07fb3524aea5424c8434856287435d853855e22912accd60b6ca1df3d48", func := "ceilidh/ceilidhlaw10.FoldAsks", spec := "foldAsks", unfollowed := true, recurses := true, apart := false }
def FoldAsksSaid : Prop := foldAsksRow.holds Tryz.pinned (OpenSpec.ofChange foldAsksSpec)

/-- ITS FALSE NEIGHBOUR: 'it returns false'. Refute it at one input. -/
def foldAsksWrong : ChangeSpec := { name := "foldAsks", fn := fun _ => fun
  | [d1, d2, d3] => { results := [.lit (.bool false)], args := [d1, d2, d3] }
  | _ => none }
def FoldAsksWrongFalsely : Prop := foldAsksRow.holds Tryz.pinned (OpenSpec.ofChange foldAsksWrong)

/-- 'ceilidhlaw10.FoldRuns': WHATEVER THE INPUT: true; the input reads as it did. -/
def foldRunsSpec : ChangeSpec := { name := "foldRuns", fn := fun _ => fun
  | [d1, d2, d3] => { results := [.lit (.bool true)], args := [d1, d2, d3] }
  | _ => none }
def foldRunsRow : OpenClaim := { program := "ytiahpncglpfjeaagreat", sum := "9dd8f07fb3524aea5424c8434856287435d853855e22912accd60b6ca1df3d48", func := "ceilidh/ceilidhlaw10.FoldRuns", spec := "foldRuns", unfollowed := true, recurses := true, apart := false }
def FoldRunsSaid : Prop := foldRunsRow.holds Tryz.pinned (OpenSpec.ofChange foldRunsSpec)

/-- ITS FALSE NEIGHBOUR: 'it returns false'. Refute it at one input. -/
def foldRunsWrong : ChangeSpec := { name := "foldRuns", fn := fun _ => fun
  | [d1, d2, d3] => { results := [.lit (.bool false)], args := [d1, d2, d3] }
  | _ => none }
def FoldRunsWrongFalsely : Prop := foldRunsRow.holds Tryz.pinned (OpenSpec.ofChange foldRunsWrong)

/-- 'ceilidhlaw10.FoldWrong': WHATEVER THE INPUT: true; the input reads as it did. -/
def foldWrongSpec : ChangeSpec := { name := "foldWrong", fn := fun _ => fun
  | [d1, d2, d3] => { results := [.lit (.bool true)], args := [d1, d2, d3] }
  | _ => none }
def foldWrongRow : OpenClaim := { program := "ytiahpncglpfjeaagreat", sum := "9dd8f07fb3524aea5424c8434856287435d853855e22912accd60b6ca1df3d48", func := "ceilidh/ceilidhlaw10.FoldWrong", spec := "foldWrong", unfollowed := true, recurses := true, apart := false }
def FoldWrongSaid : Prop := foldWrongRow.holds Tryz.pinned (OpenSpec.ofChange foldWrongSpec)

/-- ITS FALSE NEIGHBOUR: 'it returns false'. Refute it at one input. -/
def foldWrongWrong : ChangeSpec := { name := "foldWrong", fn := fun _ => fun
  | [d1, d2, d3] => { results := [.lit (.bool false)], args := [d1, d2, d3] }
  | _ => none }
def FoldWrongWrongFalsely : Prop := foldWrongRow.holds Tryz.pinned (OpenSpec.ofChange foldWrongWrong)

/-- 'ceilidhlaw10.FoldRosters': WHATEVER THE INPUT: true; the input reads as it did. -/
def foldRostersSpec : ChangeSpec := { name := "foldRosters", fn := fun _ => fun
  | [d1, d2] => { results := [.lit (.bool true)], args := [d1, d2] }
  | _ => none }
def foldRostersRow : OpenClaim := { program := "ytiahpncglpfjeaagreat", sum := "9dd8f07fb3524aea5424c8434856287435d853855e22912accd60b6ca1df3d48", func := "ceilidh/ceilidhlaw10.FoldRosters", spec := "foldRosters", unfollowed := true, recurses := true, apart := false }
def FoldRostersSaid : Prop := foldRostersRow.holds Tryz.pinned (OpenSpec.ofChange foldRostersSpec)

/-- ITS FALSE NEIGHBOUR: 'it returns false'. Refute it at one input. -/
def foldRostersWrong : ChangeSpec := { name := "foldRosters", fn := fun _ => fun
  | [d1, d2] => { results := [.lit (.bool false)], args := [d1, d2] }
  | _ => none }
def FoldRostersWrongFalsely : Prop := foldRostersRow.holds Tryz.pinned (OpenSpec.ofChange foldRostersWrong)

/-- 'ceilidhlaw10.FoldInputs': WHATEVER THE INPUT: true; the input reads as it did. -/
def foldInputsSpec : ChangeSpec := { name := "foldInputs", fn := fun _ => fun
  | [d1, d2, d3] => { results := [.lit (.bool true)], args := [d1, d2, d3] }
  | _ => none }
def foldInputsRow : OpenClaim := { program := "ytiahpncglpfjeaagreat", sum := "9dd8f07fb3524aea5424c8434856287435d853855e22912accd60b6ca1df3d48", func := "ceilidh/ceilidhlaw10.FoldInputs", spec := "foldInputs", unfollowed := true, recurses := true, apart := false }
def FoldInputsSaid : Prop := foldInputsRow.holds Tryz.pinned (OpenSpec.ofChange foldInputsSpec)

/-- ITS FALSE NEIGHBOUR: 'it returns false'. Refute it at one input. -/
def foldInputsWrong : ChangeSpec := { name := "foldInputs", fn := fun _ => fun
  | [d1, d2, d3] => { results := [.lit (.bool false)], args := [d1, d2, d3] }
  | _ => none }
def FoldInputsWrongFalsely : Prop := foldInputsRow.holds Tryz.pinned (OpenSpec.ofChange foldInputsWrong)

/-- 'ceilidhlaw10.FoldSwap': WHATEVER THE INPUT: true; the input reads as it did. -/
def foldSwapSpec : ChangeSpec := { name := "foldSwap", fn := fun _ => fun
  | [d1, d2, d3] => { results := [.lit (.bool true)], args := [d1, d2, d3] }
  | _ => none }
def foldSwapRow : OpenClaim := { program := "ytiahpncglpfjeaagreat", sum := "9dd8f07fb3524aea5424c8434856287435d853855e22912accd60b6ca1df3d48", func := "ceilidh/ceilidhlaw10.FoldSwap", spec := "foldSwap", unfollowed := true, recurses := true, apart := false }
def FoldSwapSaid : Prop := foldSwapRow.holds Tryz.pinned (OpenSpec.ofChange foldSwapSpec)

/-- ITS FALSE NEIGHBOUR: 'it returns false'. Refute it at one input. -/
def foldSwapWrong : ChangeSpec := { name := "foldSwap", fn := fun _ => fun
  | [d1, d2, d3] => { results := [.lit (.bool false)], args := [d1, d2, d3] }
  | _ => none }
def FoldSwapWrongFalsely : Prop := foldSwapRow.holds Tryz.pinned (OpenSpec.ofChange foldSwapWrong)

/- THE SECOND FORM. 'bulk': how many values and letters a reading holds, each counted each time it is reached (what is shared counts as often as it is met; a slice's spare places count too). A statement '..UptoSaid' is the law's where the arguments, and the package variables that the reading takes, are together of bulk at most 1048576: NARROWER than '..Said'. Prove '..Said' where nothing that the law and all that it calls make is longer than what came in: it says more and counts as full. Else prove '..UptoSaid'. A law counts once. -/
mutual
def uptoBulk {H : Type} : DataW H → Nat
  | .lit (.string bytes) => bytes.length + 1
  | .lit _ => 1
  | .nil => 1
  | .ptr d => uptoBulk d + 1
  | .slice elems spare => uptoBulkAll elems + uptoBulkAll spare + 1
  | .agg parts => uptoBulkAll parts + 1
  | .iface _ d => uptoBulk d + 1
  | .map entries => uptoBulkEntries entries + 1
  | .held _ => 1
def uptoBulkAll {H : Type} : List (DataW H) → Nat
  | [] => 0
  | d :: r => uptoBulk d + uptoBulkAll r
def uptoBulkEntries {H : Type} : List (Lit × DataW H) → Nat
  | [] => 0
  | x :: r => uptoBulkEntry x + uptoBulkEntries r
def uptoBulkEntry {H : Type} : Lit × DataW H → Nat
  | (.string bytes, d) => bytes.length + uptoBulk d + 1
  | (_, d) => uptoBulk d + 1
 end
def uptoSmall : (H : Type) → List (DataW H) → Bool := fun _ ds => decide (uptoBulkAll ds ≤ 1048576)
def OpenSpec.upto (s : _root_.Go.ChangeSpec) : _root_.Go.OpenSpec := { _root_.Go.OpenSpec.ofChange s with cond := some uptoSmall }

/-- 'ceilidhlaw10.FoldAsks', WHERE WHAT IT READS IS OF BULK AT MOST 1048576: true; the input reads as it did. -/
def foldAsksUptoRow : OpenClaim := { program := "ytiahpncglpfjeaagreat", sum := "9dd8f07fb3524aea5424c8434856287435d853855e22912accd60b6ca1df3d48", func := "ceilidh/ceilidhlaw10.FoldAsks", spec := "foldAsks", unfollowed := true, recurses := true, apart := false, narrowed := true }
def FoldAsksUptoSaid : Prop := foldAsksUptoRow.holds Tryz.pinned (OpenSpec.upto foldAsksSpec)

/-- 'ceilidhlaw10.FoldRuns', WHERE WHAT IT READS IS OF BULK AT MOST 1048576: true; the input reads as it did. -/
def foldRunsUptoRow : OpenClaim := { program := "ytiahpncglpfjeaagreat", sum := "9dd8f07fb3524aea5424c8434856287435d853855e22912accd60b6ca1df3d48", func := "ceilidh/ceilidhlaw10.FoldRuns", spec := "foldRuns", unfollowed := true, recurses := true, apart := false, narrowed := true }
def FoldRunsUptoSaid : Prop := foldRunsUptoRow.holds Tryz.pinned (OpenSpec.upto foldRunsSpec)

/-- 'ceilidhlaw10.FoldWrong', WHERE WHAT IT READS IS OF BULK AT MOST 1048576: true; the input reads as it did. -/
def foldWrongUptoRow : OpenClaim := { program := "ytiahpncglpfjeaagreat", sum := "9dd8f07fb3524aea5424c8434856287435d853855e22912accd60b6ca1df3d48", func := "ceilidh/ceilidhlaw10.FoldWrong", spec := "foldWrong", unfollowed := true, recurses := true, apart := false, narrowed := true }
def FoldWrongUptoSaid : Prop := foldWrongUptoRow.holds Tryz.pinned (OpenSpec.upto foldWrongSpec)

/-- 'ceilidhlaw10.FoldRosters', WHERE WHAT IT READS IS OF BULK AT MOST 1048576: true; the input reads as it did. -/
def foldRostersUptoRow : OpenClaim := { program := "ytiahpncglpfjeaagreat", sum := "9dd8f07fb3524aea5424c8434856287435d853855e22912accd60b6ca1df3d48", func := "ceilidh/ceilidhlaw10.FoldRosters", spec := "foldRosters", unfollowed := true, recurses := true, apart := false, narrowed := true }
def FoldRostersUptoSaid : Prop := foldRostersUptoRow.holds Tryz.pinned (OpenSpec.upto foldRostersSpec)

/-- 'ceilidhlaw10.FoldInputs', WHERE WHAT IT READS IS OF BULK AT MOST 1048576: true; the input reads as it did. -/
def foldInputsUptoRow : OpenClaim := { program := "ytiahpncglpfjeaagreat", sum := "9dd8f07fb3524aea5424c8434856287435d853855e22912accd60b6ca1df3d48", func := "ceilidh/ceilidhlaw10.FoldInputs", spec := "foldInputs", unfollowed := true, recurses := true, apart := false, narrowed := true }
def FoldInputsUptoSaid : Prop := foldInputsUptoRow.holds Tryz.pinned (OpenSpec.upto foldInputsSpec)

/-- 'ceilidhlaw10.FoldSwap', WHERE WHAT IT READS IS OF BULK AT MOST 1048576: true; the input reads as it did. -/
def foldSwapUptoRow : OpenClaim := { program := "ytiahpncglpfjeaagreat", sum := "9dd8f07fb3524aea5424c8434856287435d853855e22912accd60b6ca1df3d48", func := "ceilidh/ceilidhlaw10.FoldSwap", spec := "foldSwap", unfollowed := true, recurses := true, apart := false, narrowed := true }
def FoldSwapUptoSaid : Prop := foldSwapUptoRow.holds Tryz.pinned (OpenSpec.upto foldSwapSpec)

end Rows
end Go.Proofs.YtiahpncglpfjeaaGreat
