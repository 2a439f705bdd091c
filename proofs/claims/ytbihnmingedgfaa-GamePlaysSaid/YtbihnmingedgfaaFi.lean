/-
A []Input that came in: opened.
-/
import Derived.Test.YtbihnmingedgfaaHh
import Derived.Test.YtbihnmingedgfaaMw
import Derived.ChangeOld
import Derived.ChangeArms
namespace Gm
def inCells (l : List In) : List Go.Value := l.flatMap In.cells
theorem inCells_len (l : List In) : (inCells l).length = l.length * 3 := by
  induction l with
  | nil => rfl
  | cons s l ih => unfold inCells at *; rw [List.flatMap_cons, List.length_append, ih, List.length_cons]; simp [In.cells]; omega
theorem inCells_at (l : List In) (k j : Nat) (hk : k < l.length) (hj : j < 3) : (inCells l)[k * 3 + j]? = l[k].cells[j]? := by
  induction l generalizing k with
  | nil => simp at hk
  | cons s l ih =>
    unfold inCells at *
    rw [List.flatMap_cons]
    match k with
    | 0 => rw [List.getElem?_append_left (by simp [In.cells]; omega)]; simp
    | k + 1 =>
      rw [List.getElem?_append_right (by simp [In.cells]; omega)]
      have := ih k (by simpa using hk)
      rw [show (k + 1) * 3 + j - s.cells.length = k * 3 + j from by simp [In.cells]; omega, this]
      simp
end Gm
namespace Go.Proofs.Ytbihnmingedgfaa
open Go.ChangeShapes Go.WideShapes Go.ChangeAt Go.RowKit Go.Joins Go.ChangeMaps Go.Deep
set_option linter.unusedVariables false

theorem cells?_cell {w : World} {base : Nat} {a : Addr} {n : Nat} {cs : List Value} (h : w.cells? base a n = some cs) : cs.length = n ∧ ∀ j, j < n → w.cell? (a.add j) = cs[j]? := by
  unfold World.cells? at h
  split at h
  · have hl := mapM_some_length h
    refine ⟨by simpa using hl, fun j hj => ?_⟩
    have := mapM_some_get h j j (by simp [hj])
    rw [this]
  · cases h

theorem cells_one_of {v x : Value} (h : ∀ cs, v ≠ .agg cs) (hv : v.cells.toList = [x]) : v = x := by
  cases v <;> first | exact absurd rfl (h _) | simpa [Value.cells] using hv
section
variable {H : Type} {enc : TypeId × Value → H} {w : World} {base : Nat} {spare : Nat → Bool} {held : Bool}
set_option maxRecDepth 100000 in
theorem open_inputs {v : Value} {d : DataW H} {p : List MemPlace} {b0 : Nat} (hv0 : Value.okWide Try.prog w .any b0 22 v) (h : DataW.Trod enc Try.prog w base spare held 22 v d p) : ∃ (A : Option Addr) (c : Nat) (l : List Gm.In), v = .slice A l.length c ∧ (∀ x ∈ l, Gm.tyIn x) ∧ l.length ≤ maxLen ∧ Lies w w.heap.size 3 A l.length (Gm.inCells l) := by
  obtain ⟨fuel, hf⟩ := h
  have hag : ∀ cs, v ≠ .agg cs := fun cs e => by subst e; simp [Value.okWide, Try.underlying22, Cell.okWide, Cell.ok] at hv0
  have c3 : Try.prog.cellsOf 37 = 3 := by kernel_rfl
  rcases DataW.trod_slice Try.underlying22 hf with ⟨hv, _⟩ | ⟨a, len, cap, elems, rest, n, rfl, hv, _, _, hlc, hcm, hlen, hel, _, _⟩
  · have ev : v = .slice none 0 0 := cells_one_of hag hv
    exact ⟨none, 0, [], ev, fun x hx => (by cases hx), Nat.zero_le _, Lies.empty⟩
  · have ev : v = .slice (some a) len cap := cells_one_of hag hv
    simp only [c3] at hel
    have key : ∀ i, i < len → ∃ q : Gm.In, w.cells? base (a.add (i * 3)) 3 = some q.cells ∧ Gm.tyIn q := by
      intro i hi
      obtain ⟨y, hy⟩ : ∃ y, elems[i]? = some y := ⟨elems[i]'(by omega), List.getElem?_eq_getElem (by omega)⟩
      have h := hel i hi
      rw [hy, Option.bind_eq_some_iff] at h
      obtain ⟨cs, hcs, ht⟩ := h
      have hl := (cells?_cell hcs).1
      match cs, hl with
      | [x0, x1, x2], _ =>
        obtain ⟨q, h1, h2, _⟩ := trod_in ht
        exact ⟨q, by rw [hcs, h1], h2⟩
    have hch : ∃ ps : Nat → Gm.In, ∀ i, i < len → (w.cells? base (a.add (i * 3)) 3 = some (ps i).cells ∧ Gm.tyIn (ps i)) :=
      ⟨fun i => if h : i < len then (key i h).choose else ⟨0, 0, 0⟩, fun i hi => by dsimp only; rw [dif_pos hi]; exact (key i hi).choose_spec⟩
    obtain ⟨ps, hps⟩ := hch
    have ll : ((List.range len).map ps).length = len := by simp
    refine ⟨some a, cap, (List.range len).map ps, by rw [ll]; exact ev, fun x hx => ?_, by rw [ll]; omega, ⟨?_, fun h0 => ?_, fun ad e h0 j u hu => ?_⟩⟩
    · obtain ⟨i, hi, rfl⟩ := List.mem_map.1 hx
      exact (hps i (by simpa using hi)).2
    · rw [Gm.inCells_len]
    · rw [ll] at h0
      exact ⟨a, rfl, by have := World.cells?_block (hps 0 (by omega)).1 (by decide); simpa [Addr.add] using this⟩
    · injection e with e
      subst e
      have hjl : j < len * 3 := by have := (List.getElem?_eq_some_iff.1 hu).1; rwa [Gm.inCells_len, ll] at this
      have hq := (cells?_cell (hps (j / 3) (by omega)).1).2 (j % 3) (by omega)
      rw [add_twice, show j / 3 * 3 + j % 3 = j by omega] at hq
      rw [hq, ← hu]
      have := Gm.inCells_at ((List.range len).map ps) (j / 3) (j % 3) (by rw [ll]; omega) (by omega)
      rw [show j / 3 * 3 + j % 3 = j by omega] at this
      rw [this]
      simp
end
end Go.Proofs.Ytbihnmingedgfaa
