/-
Ships compared, one and eight at once; shots compared.
-/
import Derived.Test.YtbihnmingedgfaaGm
import Derived.Test.YtbihnmingedgfaaKp
import Derived.Test.YtbihnmingedgfaaBy
import Derived.Laws.StructEq
import Derived.ChangeKeysEq
namespace Go.Proofs.Ytbihnmingedgfaa
open Go.RowKit
set_option linter.unusedVariables false

theorem ship_fields : (Try.prog.fieldsOf 26).toList.map (fun f => (f.name == "_", f.type, f.offset)) = [(false, 4, 0), (false, 21, 1), (false, 21, 2), (false, 21, 3), (false, 21, 4), (false, 3, 5), (false, 3, 6)] := by kernel_rfl


theorem ifs7 (w : World) (a b c d e f g : Bool) : (if a = true then if b = true then if c = true then if d = true then if e = true then if f = true then if g = true then Result.ok true w else Result.ok false w else Result.ok false w else Result.ok false w else Result.ok false w else Result.ok false w else Result.ok false w else Result.ok false w) = Result.ok (a && (b && (c && (d && (e && (f && g)))))) w := by
  cases a <;> cases b <;> cases c <;> cases d <;> cases e <;> cases f <;> cases g <;> rfl
set_option maxHeartbeats 1000000 in
theorem ship_eq (s t : Gm.Ship) (w : World) : (Op.equalIn 9999 26 (.agg s.cells.toArray) (.agg t.cells.toArray)).run Try.prog w = .ok (s.eqB t) w := by
  obtain ⟨a1, a2, a3, a4, a5, a6, a7⟩ := s
  obtain ⟨b1, b2, b3, b4, b5, b6, b7⟩ := t
  have h := ifs7 w (a1 == b1) (a2 == b2) (a3 == b3) (a4 == b4) (a5 == b5) (a6 == b6) (a7 == b7)
  simp only [beq_iff_eq] at h
  simp only [Gm.Ship.cells]
  go_simp
  rfl
theorem ship_info : (Try.prog.info? 26).map (·.size) = some 7 := by kernel_rfl
set_option maxHeartbeats 1000000 in
theorem ship_part (f : Nat → Gm.Ship) (i : Nat) (hi : i < 8) (w : World) : (part 26 (Gm.shipCells f).toArray (i * 7)).run Try.prog w = .ok (.agg (f i).cells.toArray) w := by
  have h := Gm.shipCells_list f i hi
  cases hq : Try.prog.info? 26 with
  | none => have := ship_info; simp [hq] at this
  | some j =>
    have hs : j.size = 7 := by have := ship_info; simpa [hq] using this
    simp [part, isAgg, sizeOf, typeInfo, hq, hs, run_underlying (Try.underlying26) w, h]
theorem ships_eq (f g : Nat → Gm.Ship) (w : World) : (Op.equalIn 10000 27 (.agg (Gm.shipCells f).toArray) (.agg (Gm.shipCells g).toArray)).run Try.prog w = .ok (Gm.shipsEq f g) w := by
  cases hq : Try.prog.info? 26 with
  | none => have := ship_info; simp [hq] at this
  | some j =>
    have hs : Try.prog.cellsOf 26 = 7 := by kernel_rfl
    rw [run_equalIn_array w 9999 _ _ Try.underlying27 hq, hs]
    exact run_eqItems_all w 9999 _ 7 _ _ (fun i => .agg (f i).cells.toArray) (fun i => .agg (g i).cells.toArray) (fun i => (f i).eqB (g i)) (List.range 8)
      (fun i hi => ⟨ship_part f i (by simpa using hi) w, ship_part g i (by simpa using hi) w, ship_eq _ _ w⟩)
theorem ships_neq (f g : Nat → Gm.Ship) (w : World) : (binOp .neq 27 (.agg (Gm.shipCells f).toArray) (.agg (Gm.shipCells g).toArray)).run Try.prog w = .ok (.bool (!Gm.shipsEq f g)) w := by
  simp only [binOp]
  simp [Op.equal, Op.maxDepth, ships_eq]
theorem ships_eql (f g : Nat → Gm.Ship) (w : World) : (binOp .eql 27 (.agg (Gm.shipCells f).toArray) (.agg (Gm.shipCells g).toArray)).run Try.prog w = .ok (.bool (Gm.shipsEq f g)) w := by
  simp only [binOp]
  simp [Op.equal, Op.maxDepth, ships_eq]
end Go.Proofs.Ytbihnmingedgfaa
