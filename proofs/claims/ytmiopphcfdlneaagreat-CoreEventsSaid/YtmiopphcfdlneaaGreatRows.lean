/-
  No cell of these rows narrows 'for every input' (looked for: loops, veiled, ifaces, maps, wideKeys, modest, calm, conditions, laid).
  DERIVED. THE GIVEN ROWS OF THIS SEAT. 8 by the template 'for every input the law returns true; each argument reads behind the call as it read before'; 0 by the template 'total and deterministic' (their statements: YtmiopphcfdlneaaGreatTotals.lean).
  GIVEN WITH THE SEED: the statements are not yours to turn. If you find one false, say at which input.
  Laid BY PROGRAM, IN A SANDBOX (cutbox-rows.mjs): the forced cells as the released guide's own fill.sh prints them over the translation b0ee2db4bf5c3fb2… (all of the seat's roots in one cut). By AI agents, Wed Nov 11 2026. No macro, syntax, notation, axiom, sorry.
-/
import Derived.Test.YtmiopphcfdlneaaGreatChecked
import GoSem.Claim
import GoSem.ClaimJoined
import GoSem.ClaimMapViews
import Derived.JoinedTies
import Derived.KernelRfl
namespace Go.Proofs.YtmiopphcfdlneaaGreat
/- THE CELL 'sum', in the pinned program and in every row, IS THE sha256 OF THE DUMP (.gsa) THAT YtmiopphcfdlneaaGreatProg.lean LOADS. Nothing in Lean hashes anything: it is a label: what it is worth is what the hold of that sum in a sandbox is worth. -/
noncomputable def Tryz.pinned : Pinned := { name := "ytmiopphcfdlneaagreat", sum := "b0ee2db4bf5c3fb2d0a3a044997edb9dc852dc45c7d904d3bfd301af2a8e7a76", checked := Tryz.checked }
namespace Rows
def none {H : Type} : Left H := { results := [], args := [] }

/-- 'ceilidhlaw16.CorePlays': WHATEVER THE INPUT: true; the input reads as it did. -/
def corePlaysSpec : ChangeSpec := { name := "corePlays", fn := fun _ => fun
  | [d1, d2, d3] => { results := [.lit (.bool true)], args := [d1, d2, d3] }
  | _ => none }
def corePlaysRow : OpenClaim := { program := "ytmiopphcfdlneaagreat", sum := "b0ee2db4bf5c3fb2d0a3a044997edb9dc852dc45c7d904d3bfd301af2a8e7a76", func := "ceilidh/ceilidhlaw16.CorePlays", spec := "corePlays", unfollowed := true, recurses := true, apart := false }
def CorePlaysSaid : Prop := corePlaysRow.holds Tryz.pinned (OpenSpec.ofChange corePlaysSpec)

/-- ITS FALSE NEIGHBOUR: 'it returns false'. Refute it at one input. -/
def corePlaysWrong : ChangeSpec := { name := "corePlays", fn := fun _ => fun
  | [d1, d2, d3] => { results := [.lit (.bool false)], args := [d1, d2, d3] }
  | _ => none }
def CorePlaysWrongFalsely : Prop := corePlaysRow.holds Tryz.pinned (OpenSpec.ofChange corePlaysWrong)

/-- 'ceilidhlaw16.CoreShown': WHATEVER THE INPUT: true; the input reads as it did. -/
def coreShownSpec : ChangeSpec := { name := "coreShown", fn := fun _ => fun
  | [d1, d2, d3] => { results := [.lit (.bool true)], args := [d1, d2, d3] }
  | _ => none }
def coreShownRow : OpenClaim := { program := "ytmiopphcfdlneaagreat", sum := "b0ee2db4bf5c3fb2d0a3a044997edb9dc852dc45c7d904d3bfd301af2a8e7a76", func := "ceilidh/ceilidhlaw16.CoreShown", spec := "coreShown", unfollowed := true, recurses := true, apart := false }
def CoreShownSaid : Prop := coreShownRow.holds Tryz.pinned (OpenSpec.ofChange coreShownSpec)

/-- ITS FALSE NEIGHBOUR: 'it returns false'. Refute it at one input. -/
def coreShownWrong : ChangeSpec := { name := "coreShown", fn := fun _ => fun
  | [d1, d2, d3] => { results := [.lit (.bool false)], args := [d1, d2, d3] }
  | _ => none }
def CoreShownWrongFalsely : Prop := coreShownRow.holds Tryz.pinned (OpenSpec.ofChange coreShownWrong)

/-- 'ceilidhlaw16.CoreOrder': WHATEVER THE INPUT: true; the input reads as it did. -/
def coreOrderSpec : ChangeSpec := { name := "coreOrder", fn := fun _ => fun
  | [d1, d2, d3] => { results := [.lit (.bool true)], args := [d1, d2, d3] }
  | _ => none }
def coreOrderRow : OpenClaim := { program := "ytmiopphcfdlneaagreat", sum := "b0ee2db4bf5c3fb2d0a3a044997edb9dc852dc45c7d904d3bfd301af2a8e7a76", func := "ceilidh/ceilidhlaw16.CoreOrder", spec := "coreOrder", unfollowed := true, recurses := true, apart := false }
def CoreOrderSaid : Prop := coreOrderRow.holds Tryz.pinned (OpenSpec.ofChange coreOrderSpec)

/-- ITS FALSE NEIGHBOUR: 'it returns false'. Refute it at one input. -/
def coreOrderWrong : ChangeSpec := { name := "coreOrder", fn := fun _ => fun
  | [d1, d2, d3] => { results := [.lit (.bool false)], args := [d1, d2, d3] }
  | _ => none }
def CoreOrderWrongFalsely : Prop := coreOrderRow.holds Tryz.pinned (OpenSpec.ofChange coreOrderWrong)

/-- 'ceilidhlaw16.CoreRight': WHATEVER THE INPUT: true; the input reads as it did. -/
def coreRightSpec : ChangeSpec := { name := "coreRight", fn := fun _ => fun
  | [d1, d2, d3] => { results := [.lit (.bool true)], args := [d1, d2, d3] }
  | _ => none }
def coreRightRow : OpenClaim := { program := "ytmiopphcfdlneaagreat", sum := "b0ee2db4bf5c3fb2d0a3a044997edb9dc852dc45c7d904d3bfd301af2a8e7a76", func := "ceilidh/ceilidhlaw16.CoreRight", spec := "coreRight", unfollowed := true, recurses := true, apart := false }
def CoreRightSaid : Prop := coreRightRow.holds Tryz.pinned (OpenSpec.ofChange coreRightSpec)

/-- ITS FALSE NEIGHBOUR: 'it returns false'. Refute it at one input. -/
def coreRightWrong : ChangeSpec := { name := "coreRight", fn := fun _ => fun
  | [d1, d2, d3] => { results := [.lit (.bool false)], args := [d1, d2, d3] }
  | _ => none }
def CoreRightWrongFalsely : Prop := coreRightRow.holds Tryz.pinned (OpenSpec.ofChange coreRightWrong)

/-- 'ceilidhlaw16.CoreStays': WHATEVER THE INPUT: true; the input reads as it did. -/
def coreStaysSpec : ChangeSpec := { name := "coreStays", fn := fun _ => fun
  | [d1, d2, d3] => { results := [.lit (.bool true)], args := [d1, d2, d3] }
  | _ => none }
def coreStaysRow : OpenClaim := { program := "ytmiopphcfdlneaagreat", sum := "b0ee2db4bf5c3fb2d0a3a044997edb9dc852dc45c7d904d3bfd301af2a8e7a76", func := "ceilidh/ceilidhlaw16.CoreStays", spec := "coreStays", unfollowed := true, recurses := true, apart := false }
def CoreStaysSaid : Prop := coreStaysRow.holds Tryz.pinned (OpenSpec.ofChange coreStaysSpec)

/-- ITS FALSE NEIGHBOUR: 'it returns false'. Refute it at one input. -/
def coreStaysWrong : ChangeSpec := { name := "coreStays", fn := fun _ => fun
  | [d1, d2, d3] => { results := [.lit (.bool false)], args := [d1, d2, d3] }
  | _ => none }
def CoreStaysWrongFalsely : Prop := coreStaysRow.holds Tryz.pinned (OpenSpec.ofChange coreStaysWrong)

/-- 'ceilidhlaw16.CoreLate': WHATEVER THE INPUT: true; the input reads as it did. -/
def coreLateSpec : ChangeSpec := { name := "coreLate", fn := fun _ => fun
  | [d1, d2, d3, d4, d5, d6] => { results := [.lit (.bool true)], args := [d1, d2, d3, d4, d5, d6] }
  | _ => none }
def coreLateRow : OpenClaim := { program := "ytmiopphcfdlneaagreat", sum := "b0ee2db4bf5c3fb2d0a3a044997edb9dc852dc45c7d904d3bfd301af2a8e7a76", func := "ceilidh/ceilidhlaw16.CoreLate", spec := "coreLate", unfollowed := true, recurses := true, apart := false }
def CoreLateSaid : Prop := coreLateRow.holds Tryz.pinned (OpenSpec.ofChange coreLateSpec)

/-- ITS FALSE NEIGHBOUR: 'it returns false'. Refute it at one input. -/
def coreLateWrong : ChangeSpec := { name := "coreLate", fn := fun _ => fun
  | [d1, d2, d3, d4, d5, d6] => { results := [.lit (.bool false)], args := [d1, d2, d3, d4, d5, d6] }
  | _ => none }
def CoreLateWrongFalsely : Prop := coreLateRow.holds Tryz.pinned (OpenSpec.ofChange coreLateWrong)

/-- 'ceilidhlaw16.CoreEvents': WHATEVER THE INPUT: true; the input reads as it did. -/
def coreEventsSpec : ChangeSpec := { name := "coreEvents", fn := fun _ => fun
  | [d1, d2, d3, d4, d5] => { results := [.lit (.bool true)], args := [d1, d2, d3, d4, d5] }
  | _ => none }
def coreEventsRow : OpenClaim := { program := "ytmiopphcfdlneaagreat", sum := "b0ee2db4bf5c3fb2d0a3a044997edb9dc852dc45c7d904d3bfd301af2a8e7a76", func := "ceilidh/ceilidhlaw16.CoreEvents", spec := "coreEvents", unfollowed := true, recurses := true, apart := false }
def CoreEventsSaid : Prop := coreEventsRow.holds Tryz.pinned (OpenSpec.ofChange coreEventsSpec)

/-- ITS FALSE NEIGHBOUR: 'it returns false'. Refute it at one input. -/
def coreEventsWrong : ChangeSpec := { name := "coreEvents", fn := fun _ => fun
  | [d1, d2, d3, d4, d5] => { results := [.lit (.bool false)], args := [d1, d2, d3, d4, d5] }
  | _ => none }
def CoreEventsWrongFalsely : Prop := coreEventsRow.holds Tryz.pinned (OpenSpec.ofChange coreEventsWrong)

/-- 'ceilidhlaw16.CoreOwn': WHATEVER THE INPUT: true; the input reads as it did. -/
def coreOwnSpec : ChangeSpec := { name := "coreOwn", fn := fun _ => fun
  | [d1, d2] => { results := [.lit (.bool true)], args := [d1, d2] }
  | _ => none }
def coreOwnRow : OpenClaim := { program := "ytmiopphcfdlneaagreat", sum := "b0ee2db4bf5c3fb2d0a3a044997edb9dc852dc45c7d904d3bfd301af2a8e7a76", func := "ceilidh/ceilidhlaw16.CoreOwn", spec := "coreOwn", unfollowed := true, recurses := true, apart := false }
def CoreOwnSaid : Prop := coreOwnRow.holds Tryz.pinned (OpenSpec.ofChange coreOwnSpec)

/-- ITS FALSE NEIGHBOUR: 'it returns false'. Refute it at one input. -/
def coreOwnWrong : ChangeSpec := { name := "coreOwn", fn := fun _ => fun
  | [d1, d2] => { results := [.lit (.bool false)], args := [d1, d2] }
  | _ => none }
def CoreOwnWrongFalsely : Prop := coreOwnRow.holds Tryz.pinned (OpenSpec.ofChange coreOwnWrong)

/- THE SECOND FORM. 'bulk': how many values and letters a reading holds, each counted each time it is reached (what is shared counts as often as it is met; a slice's spare places count too). A statement '..UptoSaid' is the law's where the arguments, and the package variables that the reading takes, are together of bulk at most 1048576: NARROWER than '..Said'. Prove '..Said' where nothing that the law and all that it calls make is longer than what came in: it says more and counts as full. Else prove '..UptoSaid'. A law counts once. -/
mutual
def uptoBulk {H : Type} : DataW H → Nat
  | .lit (.string bytes) => bytes.length + 1
  | .lit _ => 1
  | .nil => 1
  | .ptr d => uptoBulk d + 1
  | .slice elems spare => uptoBulkAll elems + uptoBulkAll spare + 1
  | .agg parts => uptoBulkAll parts + 1
  | .iface _ d => uptoBulk d + 1
  | .map entries => uptoBulkEntries entries + 1
  | .held _ => 1
def uptoBulkAll {H : Type} : List (DataW H) → Nat
  | [] => 0
  | d :: r => uptoBulk d + uptoBulkAll r
def uptoBulkEntries {H : Type} : List (Lit × DataW H) → Nat
  | [] => 0
  | x :: r => uptoBulkEntry x + uptoBulkEntries r
def uptoBulkEntry {H : Type} : Lit × DataW H → Nat
  | (.string bytes, d) => bytes.length + uptoBulk d + 1
  | (_, d) => uptoBulk d + 1
 end
def uptoSmall : (H : Type) → List (DataW H) → Bool := fun _ ds => decide (uptoBulkAll ds ≤ 1048576)
def OpenSpec.upto (s : _root_.Go.ChangeSpec) : _root_.Go.OpenSpec := { _root_.Go.OpenSpec.ofChange s with cond := some uptoSmall }

/-- 'ceilidhlaw16.CorePlays', WHERE WHAT IT READS IS OF BULK AT MOST 1048576: true; the input reads as it did. -/
def corePlaysUptoRow : OpenClaim := { program := "ytmiopphcfdlneaagreat", sum := "b0ee2db4bf5c3fb2d0a3a044997edb9dc852dc45c7d904d3bfd301af2a8e7a76", func := "ceilidh/ceilidhlaw16.CorePlays", spec := "corePlays", unfollowed := true, recurses := true, apart := false, narrowed := true }
def CorePlaysUptoSaid : Prop := corePlaysUptoRow.holds Tryz.pinned (OpenSpec.upto corePlaysSpec)

/-- 'ceilidhlaw16.CoreShown', WHERE WHAT IT READS IS OF BULK AT MOST 1048576: true; the input reads as it did. -/
def coreShownUptoRow : OpenClaim := { program := "ytmiopphcfdlneaagreat", sum := "b0ee2db4bf5c3fb2d0a3a044997edb9dc852dc45c7d904d3bfd301af2a8e7a76", func := "ceilidh/ceilidhlaw16.CoreShown", spec := "coreShown", unfollowed := true, recurses := true, apart := false, narrowed := true }
def CoreShownUptoSaid : Prop := coreShownUptoRow.holds Tryz.pinned (OpenSpec.upto coreShownSpec)

/-- 'ceilidhlaw16.CoreOrder', WHERE WHAT IT READS IS OF BULK AT MOST 1048576: true; the input reads as it did. -/
def coreOrderUptoRow : OpenClaim := { program := "ytmiopphcfdlneaagreat", sum := "b0ee2db4bf5c3fb2d0a3a044997edb9dc852dc45c7d904d3bfd301af2a8e7a76", func := "ceilidh/ceilidhlaw16.CoreOrder", spec := "coreOrder", unfollowed := true, recurses := true, apart := false, narrowed := true }
def CoreOrderUptoSaid : Prop := coreOrderUptoRow.holds Tryz.pinned (OpenSpec.upto coreOrderSpec)

/-- 'ceilidhlaw16.CoreRight', WHERE WHAT IT READS IS OF BULK AT MOST 1048576: true; the input reads as it did. -/
def coreRightUptoRow : OpenClaim := { program := "ytmiopphcfdlneaagreat", sum := "b0ee2db4bf5c3fb2d0a3a044997edb9dc852dc45c7d904d3bfd301af2a8e7a76", func := "ceilidh/ceilidhlaw16.CoreRight", spec := "coreRight", unfollowed := true, recurses := true, apart := false, narrowed := true }
def CoreRightUptoSaid : Prop := coreRightUptoRow.holds Tryz.pinned (OpenSpec.upto coreRightSpec)

/-- 'ceilidhlaw16.CoreStays', WHERE WHAT IT READS IS OF BULK AT MOST 1048576: true; the input reads as it did. -/
def coreStaysUptoRow : OpenClaim := { program := "ytmiopphcfdlneaagreat", sum := "b0ee2db4bf5c3fb2d0a3a044997edb9dc852dc45c7d904d3bfd301af2a8e7a76", func := "ceilidh/ceilidhlaw16.CoreStays", spec := "coreStays", unfollowed := true, recurses := true, apart := false, narrowed := true }
def CoreStaysUptoSaid : Prop := coreStaysUptoRow.holds Tryz.pinned (OpenSpec.upto coreStaysSpec)

/-- 'ceilidhlaw16.CoreLate', WHERE WHAT IT READS IS OF BULK AT MOST 1048576: true; the input reads as it did. -/
def coreLateUptoRow : OpenClaim := { program := "ytmiopphcfdlneaagreat", sum := "b0ee2db4bf5c3fb2d0a3a044997edb9dc852dc45c7d904d3bfd301af2a8e7a76", func := "ceilidh/ceilidhlaw16.CoreLate", spec := "coreLate", unfollowed := true, recurses := true, apart := false, narrowed := true }
def CoreLateUptoSaid : Prop := coreLateUptoRow.holds Tryz.pinned (OpenSpec.upto coreLateSpec)

/-- 'ceilidhlaw16.CoreEvents', WHERE WHAT IT READS IS OF BULK AT MOST 1048576: true; the input reads as it did. -/
def coreEventsUptoRow : OpenClaim := { program := "ytmiopphcfdlneaagreat", sum := "b0ee2db4bf5c3fb2d0a3a044997edb9dc852dc45c7d904d3bfd301af2a8e7a76", func := "ceilidh/ceilidhlaw16.CoreEvents", spec := "coreEvents", unfollowed := true, recurses := true, apart := false, narrowed := true }
def CoreEventsUptoSaid : Prop := coreEventsUptoRow.holds Tryz.pinned (OpenSpec.upto coreEventsSpec)

/-- 'ceilidhlaw16.CoreOwn', WHERE WHAT IT READS IS OF BULK AT MOST 1048576: true; the input reads as it did. -/
def coreOwnUptoRow : OpenClaim := { program := "ytmiopphcfdlneaagreat", sum := "b0ee2db4bf5c3fb2d0a3a044997edb9dc852dc45c7d904d3bfd301af2a8e7a76", func := "ceilidh/ceilidhlaw16.CoreOwn", spec := "coreOwn", unfollowed := true, recurses := true, apart := false, narrowed := true }
def CoreOwnUptoSaid : Prop := coreOwnUptoRow.holds Tryz.pinned (OpenSpec.upto coreOwnSpec)

end Rows
end Go.Proofs.YtmiopphcfdlneaaGreat
