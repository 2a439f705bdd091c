/-
  No cell of these rows narrows 'for every input' (looked for: loops, veiled, ifaces, maps, wideKeys, modest, calm, conditions, laid).
  DERIVED. THE GIVEN ROWS OF THIS SEAT. 4 by the template 'for every input the law returns true; each argument reads behind the call as it read before'; 0 by the template 'total and deterministic' (their statements: YtcohbkgimlojpaaTotals.lean).
  GIVEN WITH THE SEED: the statements are not yours to turn. If you find one false, say at which input.
  Laid BY PROGRAM, IN A SANDBOX (cutbox-rows.mjs): the forced cells as the released guide's own fill.sh prints them over the translation 52bfbc6989bf89da… (all of the seat's roots in one cut). By AI agents, Wed Nov 11 2026. No macro, syntax, notation, axiom, sorry.
-/
import Derived.Test.YtcohbkgimlojpaaChecked
import GoSem.Claim
import GoSem.ClaimJoined
import GoSem.ClaimMapViews
import Derived.JoinedTies
import Derived.KernelRfl
namespace Go.Proofs.Ytcohbkgimlojpaa
/- THE CELL 'sum', in the pinned program and in every row, IS THE sha256 OF THE DUMP (.gsa) THAT YtcohbkgimlojpaaProg.lean LOADS. Nothing in Lean hashes anything: it is a label: what it is worth is what the hold of that sum in a sandbox is worth. -/
noncomputable def Try.pinned : Pinned := { name := "ytcohbkgimlojpaa", sum := "52bfbc6989bf89da9c344ffc703df4af8b0dfc1365878085819e07f7bffb1668", checked := Try.checked }
namespace Rows
def none {H : Type} : Left H := { results := [], args := [] }

/-- 'ceilidhlaw14.QueuePlays': WHATEVER THE INPUT: true; the input reads as it did. -/
def queuePlaysSpec : ChangeSpec := { name := "queuePlays", fn := fun _ => fun
  | [d1, d2, d3, d4] => { results := [.lit (.bool true)], args := [d1, d2, d3, d4] }
  | _ => none }
def queuePlaysRow : OpenClaim := { program := "ytcohbkgimlojpaa", sum := "52bfbc6989bf89da9c344ffc703df4af8b0dfc1365878085819e07f7bffb1668", func := "ceilidh/ceilidhlaw14.QueuePlays", spec := "queuePlays", apart := false }
def QueuePlaysSaid : Prop := queuePlaysRow.holds Try.pinned (OpenSpec.ofChange queuePlaysSpec)

/-- ITS FALSE NEIGHBOUR: 'it returns false'. Refute it at one input. -/
def queuePlaysWrong : ChangeSpec := { name := "queuePlays", fn := fun _ => fun
  | [d1, d2, d3, d4] => { results := [.lit (.bool false)], args := [d1, d2, d3, d4] }
  | _ => none }
def QueuePlaysWrongFalsely : Prop := queuePlaysRow.holds Try.pinned (OpenSpec.ofChange queuePlaysWrong)

/-- 'ceilidhlaw14.QueueRepeats': WHATEVER THE INPUT: true; the input reads as it did. -/
def queueRepeatsSpec : ChangeSpec := { name := "queueRepeats", fn := fun _ => fun
  | [d1, d2, d3] => { results := [.lit (.bool true)], args := [d1, d2, d3] }
  | _ => none }
def queueRepeatsRow : OpenClaim := { program := "ytcohbkgimlojpaa", sum := "52bfbc6989bf89da9c344ffc703df4af8b0dfc1365878085819e07f7bffb1668", func := "ceilidh/ceilidhlaw14.QueueRepeats", spec := "queueRepeats", apart := false }
def QueueRepeatsSaid : Prop := queueRepeatsRow.holds Try.pinned (OpenSpec.ofChange queueRepeatsSpec)

/-- ITS FALSE NEIGHBOUR: 'it returns false'. Refute it at one input. -/
def queueRepeatsWrong : ChangeSpec := { name := "queueRepeats", fn := fun _ => fun
  | [d1, d2, d3] => { results := [.lit (.bool false)], args := [d1, d2, d3] }
  | _ => none }
def QueueRepeatsWrongFalsely : Prop := queueRepeatsRow.holds Try.pinned (OpenSpec.ofChange queueRepeatsWrong)

/-- 'ceilidhlaw14.QueueDone': WHATEVER THE INPUT: true; the input reads as it did. -/
def queueDoneSpec : ChangeSpec := { name := "queueDone", fn := fun _ => fun
  | [d1, d2, d3, d4] => { results := [.lit (.bool true)], args := [d1, d2, d3, d4] }
  | _ => none }
def queueDoneRow : OpenClaim := { program := "ytcohbkgimlojpaa", sum := "52bfbc6989bf89da9c344ffc703df4af8b0dfc1365878085819e07f7bffb1668", func := "ceilidh/ceilidhlaw14.QueueDone", spec := "queueDone", apart := false }
def QueueDoneSaid : Prop := queueDoneRow.holds Try.pinned (OpenSpec.ofChange queueDoneSpec)

/-- ITS FALSE NEIGHBOUR: 'it returns false'. Refute it at one input. -/
def queueDoneWrong : ChangeSpec := { name := "queueDone", fn := fun _ => fun
  | [d1, d2, d3, d4] => { results := [.lit (.bool false)], args := [d1, d2, d3, d4] }
  | _ => none }
def QueueDoneWrongFalsely : Prop := queueDoneRow.holds Try.pinned (OpenSpec.ofChange queueDoneWrong)

/-- 'ceilidhlaw14.QueueKnown': WHATEVER THE INPUT: true; the input reads as it did. -/
def queueKnownSpec : ChangeSpec := { name := "queueKnown", fn := fun _ => fun
  | [d] => { results := [.lit (.bool true)], args := [d] }
  | _ => none }
def queueKnownRow : OpenClaim := { program := "ytcohbkgimlojpaa", sum := "52bfbc6989bf89da9c344ffc703df4af8b0dfc1365878085819e07f7bffb1668", func := "ceilidh/ceilidhlaw14.QueueKnown", spec := "queueKnown", apart := false }
def QueueKnownSaid : Prop := queueKnownRow.holds Try.pinned (OpenSpec.ofChange queueKnownSpec)

/-- ITS FALSE NEIGHBOUR: 'it returns false'. Refute it at one input. -/
def queueKnownWrong : ChangeSpec := { name := "queueKnown", fn := fun _ => fun
  | [d] => { results := [.lit (.bool false)], args := [d] }
  | _ => none }
def QueueKnownWrongFalsely : Prop := queueKnownRow.holds Try.pinned (OpenSpec.ofChange queueKnownWrong)

/- THE SECOND FORM. 'bulk': how many values and letters a reading holds, each counted each time it is reached (what is shared counts as often as it is met; a slice's spare places count too). A statement '..UptoSaid' is the law's where the arguments, and the package variables that the reading takes, are together of bulk at most 1048576: NARROWER than '..Said'. Prove '..Said' where nothing that the law and all that it calls make is longer than what came in: it says more and counts as full. Else prove '..UptoSaid'. A law counts once. -/
mutual
def uptoBulk {H : Type} : DataW H → Nat
  | .lit (.string bytes) => bytes.length + 1
  | .lit _ => 1
  | .nil => 1
  | .ptr d => uptoBulk d + 1
  | .slice elems spare => uptoBulkAll elems + uptoBulkAll spare + 1
  | .agg parts => uptoBulkAll parts + 1
  | .iface _ d => uptoBulk d + 1
  | .map entries => uptoBulkEntries entries + 1
  | .held _ => 1
def uptoBulkAll {H : Type} : List (DataW H) → Nat
  | [] => 0
  | d :: r => uptoBulk d + uptoBulkAll r
def uptoBulkEntries {H : Type} : List (Lit × DataW H) → Nat
  | [] => 0
  | x :: r => uptoBulkEntry x + uptoBulkEntries r
def uptoBulkEntry {H : Type} : Lit × DataW H → Nat
  | (.string bytes, d) => bytes.length + uptoBulk d + 1
  | (_, d) => uptoBulk d + 1
 end
def uptoSmall : (H : Type) → List (DataW H) → Bool := fun _ ds => decide (uptoBulkAll ds ≤ 1048576)
def OpenSpec.upto (s : _root_.Go.ChangeSpec) : _root_.Go.OpenSpec := { _root_.Go.OpenSpec.ofChange s with cond := some uptoSmall }

/-- 'ceilidhlaw14.QueuePlays', WHERE WHAT IT READS IS OF BULK AT MOST 1048576: true; the input reads as it did. -/
def queuePlaysUptoRow : OpenClaim := { program := "ytcohbkgimlojpaa", sum := "52bfbc6989bf89da9c344ffc703df4af8b0dfc1365878085819e07f7bffb1668", func := "ceilidh/ceilidhlaw14.QueuePlays", spec := "queuePlays", apart := false, narrowed := true }
def QueuePlaysUptoSaid : Prop := queuePlaysUptoRow.holds Try.pinned (OpenSpec.upto queuePlaysSpec)

/-- 'ceilidhlaw14.QueueRepeats', WHERE WHAT IT READS IS OF BULK AT MOST 1048576: true; the input reads as it did. -/
def queueRepeatsUptoRow : OpenClaim := { program := "ytcohbkgimlojpaa", sum := "52bfbc6989bf89da9c344ffc703df4af8b0dfc1365878085819e07f7bffb1668", func := "ceilidh/ceilidhlaw14.QueueRepeats", spec := "queueRepeats", apart := false, narrowed := true }
def QueueRepeatsUptoSaid : Prop := queueRepeatsUptoRow.holds Try.pinned (OpenSpec.upto queueRepeatsSpec)

/-- 'ceilidhlaw14.QueueDone', WHERE WHAT IT READS IS OF BULK AT MOST 1048576: true; the input reads as it did. -/
def queueDoneUptoRow : OpenClaim := { program := "ytcohbkgimlojpaa", sum := "52bfbc6989bf89da9c344ffc703df4af8b0dfc1365878085819e07f7bffb1668", func := "ceilidh/ceilidhlaw14.QueueDone", spec := "queueDone", apart := false, narrowed := true }
def QueueDoneUptoSaid : Prop := queueDoneUptoRow.holds Try.pinned (OpenSpec.upto queueDoneSpec)

/-- 'ceilidhlaw14.QueueKnown', WHERE WHAT IT READS IS OF BULK AT MOST 1048576: true; the input reads as it did. -/
def queueKnownUptoRow : OpenClaim := { program := "ytcohbkgimlojpaa", sum := "52bfbc6989bf89da9c344ffc703df4af8b0dfc1365878085819e07f7bffb1668", func := "ceilidh/ceilidhlaw14.QueueKnown", spec := "queueKnown", apart := false, narrowed := true }
def QueueKnownUptoSaid : Prop := queueKnownUptoRow.holds Try.pinned (OpenSpec.upto queueKnownSpec)

end Rows
end Go.Proofs.Ytcohbkgimlojpaa
