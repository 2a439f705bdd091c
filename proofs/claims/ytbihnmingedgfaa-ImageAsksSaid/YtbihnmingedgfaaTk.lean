/-
A roster is the same as itself.
-/
import Derived.Test.YtbihnmingedgfaaTd
namespace Go.Proofs.Ytbihnmingedgfaa
open Go.RowKit
set_option linter.unusedVariables false

theorem seat_in (a b c d : Int) (w : World) : (Op.equalIn 9998 48 (.agg #[.int .i64 a, .int .i64 b]) (.agg #[.int .i64 c, .int .i64 d])).run Try.prog w = .ok (a == c && b == d) w := by
  by_cases h1 : a = c
  · by_cases h2 : b = d
    · subst h1 h2; go_simp <;> simp
    · have h3 : (b == d) = false := by simpa using h2
      subst h1; go_simp <;> simp [h3, h2]
  · have h3 : (a == c) = false := by simpa using h1
    go_simp <;> simp [h3, h1]
theorem seat2_info : (Try.prog.info? 48).map (·.size) = some 2 := by kernel_rfl
theorem seatCells_list (r : Ros.R) (i : Nat) (hi : i < 8) : ((Ros.seatCells r).drop (i * 2)).take 2 = Ros.pair r i := by
  match i, hi with
  | 0, _ | 1, _ | 2, _ | 3, _ | 4, _ | 5, _ | 6, _ | 7, _ => rfl
theorem seat_part (r : Ros.R) (i : Nat) (hi : i < 8) (w : World) : (part 48 (Ros.seatCells r).toArray (i * 2)).run Try.prog w = .ok (.agg (Ros.pair r i).toArray) w := by
  have h := seatCells_list r i hi
  cases hq : Try.prog.info? 48 with
  | none => have := seat2_info; simp [hq] at this
  | some j =>
    have hs : j.size = 2 := by have := seat2_info; simpa [hq] using this
    simp [part, isAgg, sizeOf, typeInfo, hq, hs, run_underlying (Try.underlying48) w, h]
theorem seats_in (r : Ros.R) (w : World) : (Op.equalIn 9999 49 (.agg (Ros.seatCells r).toArray) (.agg (Ros.seatCells r).toArray)).run Try.prog w = .ok true w := by
  cases hq : Try.prog.info? 48 with
  | none => have := seat2_info; simp [hq] at this
  | some j =>
    have hs : Try.prog.cellsOf 48 = 2 := by kernel_rfl
    rw [run_equalIn_array w 9998 _ _ Try.underlying49 hq, hs]
    rw [run_eqItems_all w 9998 _ 2 _ _ (fun i => .agg (Ros.pair r i).toArray) (fun i => .agg (Ros.pair r i).toArray) (fun _ => true) (List.range 8)
      (fun i hi => ⟨seat_part r i (by simpa using hi) w, seat_part r i (by simpa using hi) w, by rw [show (Ros.pair r i).toArray = #[.int .i64 (r.peer i), .int .i64 (r.gen i)] from rfl, seat_in]; simp⟩)]
    rfl
set_option maxRecDepth 100000 in
set_option maxHeartbeats 2000000 in
theorem ros_eql_self (r : Ros.R) (w : World) : (binOp .eql 51 (.agg (Ros.cells r)) (.agg (Ros.cells r))).run Try.prog w = .ok (.bool true) w := by
  have hs := seats_in r
  simp only [Ros.cells, Ros.seatCells, Ros.pair, List.cons_append, List.nil_append] at hs ⊢
  generalize r.version = v
  generalize r.peer 0 = p0 at *
  generalize r.peer 1 = p1 at *
  generalize r.peer 2 = p2 at *
  generalize r.peer 3 = p3 at *
  generalize r.peer 4 = p4 at *
  generalize r.peer 5 = p5 at *
  generalize r.peer 6 = p6 at *
  generalize r.peer 7 = p7 at *
  generalize r.gen 0 = g0 at *
  generalize r.gen 1 = g1 at *
  generalize r.gen 2 = g2 at *
  generalize r.gen 3 = g3 at *
  generalize r.gen 4 = g4 at *
  generalize r.gen 5 = g5 at *
  generalize r.gen 6 = g6 at *
  generalize r.gen 7 = g7 at *
  go_simp
end Go.Proofs.Ytbihnmingedgfaa
