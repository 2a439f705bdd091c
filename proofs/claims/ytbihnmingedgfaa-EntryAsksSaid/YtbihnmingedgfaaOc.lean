/-
Bytes turned into a string.
-/
import Derived.Test.YtbihnmingedgfaaIa
import Derived.Laws.BytesArg
namespace Go.Proofs.Ytbihnmingedgfaa
open Go.RowKit Go.Shelf
set_option linter.unusedVariables false
set_option linter.unusedSimpArgs false

theorem conv_bytes (l : List Int) (m : Nat) (A : Option Addr) (c : Nat) (w : World) (B : Nat) (hm : l.length = m) (hL : Lies w B 1 A m (Im.u8s l)) :
    (convert 54 9 (.slice A m c)).run Try.prog w = .ok (.string (strOfNums l)) w := by
  cases A with
  | none =>
    have hm0 : m = 0 := by
      by_cases h0 : m = 0
      · exact h0
      · obtain ⟨ad, e, _⟩ := hL.start h0
        cases e
    have hl0 : l = [] := List.eq_nil_of_length_eq_zero (by omega)
    subst hl0
    exact run_convert_bytes_nil (P := Try.prog) (w := w) 54 5 Try.underlying54 Try.underlying5 m c 9 Try.underlying9
  | some ad =>
    have hl : (loadCells ad m).run Try.prog w = .ok (l.map (Value.int .u8)).toArray w := by
      have := run_loadCells_list (P := Try.prog) w ad (l.map (Value.int .u8)) (fun j v hj => hL.cell ad rfl (fun h0 => by
        have := (List.getElem?_eq_some_iff.1 hj).1
        rw [List.length_map] at this
        omega) j v hj)
      simpa [hm] using this
    rw [run_convert_bytes_string w 54 9 5 _ m c Try.underlying54 Try.underlying5 Try.underlying9, run_bytesToString w _ m c l hl, foldl_push_bytes]
    simp [strOfNums, ByteArray.empty, ByteArray.emptyWithCapacity]
    rfl

end Go.Proofs.Ytbihnmingedgfaa
