/-
Words for the shots: rows that are owned, one shot appended, a ship stored.
-/
import Derived.Test.YtbihnmingedgfaaGb
import Derived.Test.YtbihnmingedgfaaOw
namespace Go.Proofs.Ytbihnmingedgfaa
open Go.RowKit
set_option linter.unusedVariables false

theorem shot_info : (Try.prog.info? 108).map (fun i => (i.zero, i.size, i.bytes)) = some (some (.agg #[.int .i64 0, .int .i32 0, .int .i32 0, .int .i32 0, .int .i32 0, .int .i64 0]), 6, 32) := by kernel_rfl
theorem shotCells_one (l : List Gm.Shot) : ∀ u ∈ Gm.shotCells l, u.oneCell' = true := by
  intro u hu
  obtain ⟨s, _, hs⟩ := List.mem_flatMap.1 hu
  simp only [Gm.Shot.cells, List.mem_cons, List.not_mem_nil, or_false] at hs
  rcases hs with rfl | rfl | rfl | rfl | rfl | rfl <;> rfl

theorem empty_row (w1 : World) (B : Nat) (o : Obj) (hB : B ≤ w1.heap.size) : ((w1.alloc o).alloc (.cells #[] 108)).ownsRow B 108 6 (.slice (some ⟨w1.heap.size + 1, 0, none⟩) 0 0) 0 [] := by
  have := World.ownsRow_lit (base := B) (e := 108) (size := 6) (w1.alloc o) #[] 0 (by simp <;> omega) (by unfold maxLen; omega) rfl
  simpa using this
theorem lies_two {w : World} {size n : Nat} {A : Option Addr} {xs : List Value} (h : Lies w w.heap.size size A n xs) (o1 o2 : Obj) : Lies ((w.alloc o1).alloc o2) ((w.alloc o1).alloc o2).heap.size size A n xs :=
  (h.below (two_below' w o1 o2)).wider (by simp <;> omega)
/-- The seven stores of a ship. -/
def stored (w : World) (B k : Nat) (t : Gm.Ship) : World :=
  ((((((w.setCell ⟨B, 2 + k * 7, none⟩ (.bool t.on)).setCell ⟨B, 2 + k * 7 + 1, none⟩ (.int .i32 t.x)).setCell ⟨B, 2 + k * 7 + 2, none⟩ (.int .i32 t.y)).setCell ⟨B, 2 + k * 7 + 3, none⟩ (.int .i32 t.vx)).setCell ⟨B, 2 + k * 7 + 4, none⟩ (.int .i32 t.vy)).setCell ⟨B, 2 + k * 7 + 5, none⟩ (.int .i64 t.cool)).setCell ⟨B, 2 + k * 7 + 6, none⟩ (.int .i64 t.score)
theorem stored_far {w : World} {B B' k : Nat} {t : TypeId} {cs : Array Value} (h : Box w B' t cs) (hne : B' ≠ B) (s : Gm.Ship) : Box (stored w B k s) B' t cs :=
  ((((((h.far hne _).far hne _).far hne _).far hne _).far hne _).far hne _).far hne _
theorem stored_below {w0 w : World} {C B k : Nat} (h : Below C w0 w) (hC : C ≤ B) (s : Gm.Ship) : Below C w0 (stored w B k s) :=
  ((((((h.setCell hC _).setCell hC _).setCell hC _).setCell hC _).setCell hC _).setCell hC _).setCell hC _
theorem stored_own {w : World} {base : Nat} {e : TypeId} {size n B k : Nat} {v : Value} {xs : List Value} (h : w.ownsRow base e size v n xs) (hne : v.ownBlock ≠ some B) (s : Gm.Ship) : (stored w B k s).ownsRow base e size v n xs :=
  ownsRow_setCell_other (ownsRow_setCell_other (ownsRow_setCell_other (ownsRow_setCell_other (ownsRow_setCell_other (ownsRow_setCell_other (ownsRow_setCell_other h hne _) hne _) hne _) hne _) hne _) hne _) hne _
theorem lies_made (w : World) (t : TypeId) (s : Gm.Shot) : Lies (w.alloc (.cells #[.int .i64 s.owner, .int .i32 s.x, .int .i32 s.y, .int .i32 s.vx, .int .i32 s.vy, .int .i64 s.left] t)) (w.alloc (.cells #[.int .i64 s.owner, .int .i32 s.x, .int .i32 s.y, .int .i32 s.vx, .int .i32 s.vy, .int .i64 s.left] t)).heap.size 6 (some ⟨w.heap.size, 0, none⟩) 1 (Gm.shotCells [s]) := by
  refine ⟨rfl, fun _ => ⟨_, rfl, by simp⟩, fun ad e _ j u hu => ?_⟩
  injection e with e
  subst e
  have hadd : (⟨w.heap.size, 0, none⟩ : Addr).add j = ⟨w.heap.size, j, none⟩ := by unfold Addr.add; split <;> simp_all
  rw [hadd, (Box.made w t _).cell j, ← hu]
  simp [Gm.shotCells, Gm.Shot.cells]
end Go.Proofs.Ytbihnmingedgfaa
