/-
The program's lay: what a need says; a writer, a reader made; what stays.
-/
import Derived.Test.YtbihnmingedgfaaIc
import Derived.LoopTactic
import Derived.WalkLawsBesides
import Derived.Defers
import Derived.Recover
namespace Go.Proofs.Ytbihnmingedgfaa
open Go.RowKit Go.Shelf
set_option linter.unusedVariables false
set_option linter.unusedSimpArgs false

theorem need_yes (s : ByteArray) (w : World) : Calls Try.prog 76 #[.bool true, .string s] w fun e w' => e = .returned (.tuple #[]) ∧ w = w' := by
  go_enter Try.func76, Try.ntmps76
  go_wp2
  go_end0
  exact ⟨rfl, rfl⟩

theorem need_no (s : ByteArray) (w : World) : Calls Try.prog 76 #[.bool false, .string s] w fun e w' => e = .panicked [{ v := .iface 9 (.string s), recovered := false }] ∧ w = w' := by
  go_enter Try.func76, Try.ntmps76
  go_wp2
  first | exact ⟨rfl, rfl, rfl⟩ | exact ⟨rfl, rfl⟩

theorem Wr.nil {b Bb Bp : Nat} {W : World} (h1 : Box W Bp 120 #[.pointer (some ⟨Bb, 0, none⟩)]) (h2 : Box W Bb 54 #[.slice none 0 0]) : Wr b Bb Bp [] W :=
  ⟨h1, none, 0, h2, World.ownsRow_nil _ _ _ _⟩

theorem writer_any (p : Addr) (w : World) : Calls Try.prog 79 #[.pointer (some p)] w fun e w' => e = .returned (.func (.func 129) #[] #[.pointer (some ⟨w.heap.size, 0, none⟩)]) ∧ w' = w.alloc (.cells #[.pointer (some p)] 120) := by
  have hmf : ∀ (fn : Fn) (first cap : Array Value) (w : World), (Instr.makeFunc fn first cap).run Try.prog w = .ok (.func fn first cap) w := fun _ _ _ _ => rfl
  go_enter Try.func79, Try.ntmps79
  go_wp2
  go_ret
  exact ⟨rfl, rfl⟩

theorem reader_any (p : Addr) (w : World) : Calls Try.prog 84 #[.pointer (some p)] w fun e w' => e = .returned (.func (.func 130) #[] #[.pointer (some ⟨w.heap.size, 0, none⟩)]) ∧ w' = w.alloc (.cells #[.pointer (some p)] 120) := by
  have hmf : ∀ (fn : Fn) (first cap : Array Value) (w : World), (Instr.makeFunc fn first cap).run Try.prog w = .ok (.func fn first cap) w := fun _ _ _ _ => rfl
  go_enter Try.func84, Try.ntmps84
  go_wp2
  go_ret
  exact ⟨rfl, rfl⟩

/-- All blocks but B, b's variable and rows of bytes stay. -/
def Kb (B : Nat) (w w' : World) : Prop := ∀ g t cs, Box w g t cs → g ≠ B → t ≠ 54 → t ≠ 5 → Box w' g t cs
section
variable {B b Bb Bp : Nat} {bs : List Int} {w w' w'' : World}
theorem Kb.refl (w : World) : Kb B w w := fun _ _ _ h _ _ _ => h
theorem Kb.trans (h : Kb B w w') (k : Kb B w' w'') : Kb B w w'' := fun g t cs hg hne h1 h2 => k g t cs (h g t cs hg hne h1 h2) hne h1 h2
theorem Kb.call (h : Kb B w w') (hb : Below w'.heap.size w' w'') : Kb B w w'' := fun g t cs hg hne h1 h2 => (h g t cs hg hne h1 h2).below hb (h g t cs hg hne h1 h2).lt
theorem Kb.wrote (h : Kb B w w') (hW : Wrote b Bb w' w'') (hv : ∃ A n c, Box w' Bb 54 #[.slice A n c]) : Kb B w w'' := fun g t cs hg hne h1 h2 => (h g t cs hg hne h1 h2).wrote' hW hv h1 h2
theorem Kb.put (h : Kb B w w') (i : Nat) (u : Value) : Kb B w (w'.setCell ⟨B, i, none⟩ u) := fun g t cs hg hne h1 h2 => (h g t cs hg hne h1 h2).far (p := ⟨B, i, none⟩) hne u
theorem Kb.row (h : Kb B w w') {S : Nat} (hS : w.heap.size ≤ S) (cs' : Array Value) : Kb B w (w'.setRow S cs') := fun g t cs hg hne h1 h2 => (h g t cs hg hne h1 h2).row_far (by have := hg.lt; omega) cs'
end
end Go.Proofs.Ytbihnmingedgfaa
