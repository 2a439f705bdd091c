/-
A game's block: what a store makes of it; a struct handed back.
-/
import Derived.Test.YtbihnmingedgfaaGr
import Derived.Test.YtbihnmingedgfaaMv
import Derived.Test.YtbihnmingedgfaaBy
namespace Go.Proofs.Ytbihnmingedgfaa
open Go.RowKit
set_option linter.unusedVariables false

section
variable {w : World} {B : Nat} {g : Gm.G} {s : Value}
theorem blk_frame (h : Box w B 30 (Gm.cells g s)) (d : Int) : Box (w.setCell ⟨B, 0, none⟩ (.int .i64 d)) B 30 (Gm.cells { g with frame := d } s) := h.put 0 _
theorem blk_dice (h : Box w B 30 (Gm.cells g s)) (d : Int) : Box (w.setCell ⟨B, 1, none⟩ (.int .u64 d)) B 30 (Gm.cells { g with dice := d } s) := h.put 1 _
theorem blk_shots (h : Box w B 30 (Gm.cells g s)) (s' : Value) : Box (w.setCell ⟨B, 58, none⟩ s') B 30 (Gm.cells g s') := h.put 58 _
theorem set7_list (a b s : Value) (f : Nat → Gm.Ship) (i : Nat) (hi : i < 8) (t : Gm.Ship) :
    (((((((([a, b] ++ Gm.shipCells f ++ [s]).set (2 + i * 7) (.bool t.on)).set (2 + i * 7 + 1) (.int .i32 t.x)).set (2 + i * 7 + 2) (.int .i32 t.y)).set (2 + i * 7 + 3) (.int .i32 t.vx)).set (2 + i * 7 + 4) (.int .i32 t.vy)).set (2 + i * 7 + 5) (.int .i64 t.cool)).set (2 + i * 7 + 6) (.int .i64 t.score)) = [a, b] ++ Gm.shipCells (Gm.upd f i t) ++ [s] := by
  match i, hi with
  | 0, _ => rfl
  | 1, _ => rfl
  | 2, _ => rfl
  | 3, _ => rfl
  | 4, _ => rfl
  | 5, _ => rfl
  | 6, _ => rfl
  | 7, _ => rfl
theorem set7 (g : Gm.G) (s : Value) (i : Nat) (hi : i < 8) (t : Gm.Ship) :
    ((((((((Gm.cells g s).setIfInBounds (2 + i * 7) (.bool t.on)).setIfInBounds (2 + i * 7 + 1) (.int .i32 t.x)).setIfInBounds (2 + i * 7 + 2) (.int .i32 t.y)).setIfInBounds (2 + i * 7 + 3) (.int .i32 t.vx)).setIfInBounds (2 + i * 7 + 4) (.int .i32 t.vy)).setIfInBounds (2 + i * 7 + 5) (.int .i64 t.cool)).setIfInBounds (2 + i * 7 + 6) (.int .i64 t.score)) = Gm.cells { g with ship := Gm.upd g.ship i t } s := by
  unfold Gm.cells
  simp only [List.setIfInBounds_toArray]
  rw [set7_list _ _ _ _ _ hi]
theorem blk_ship (h : Box w B 30 (Gm.cells g s)) {i : Nat} (hi : i < 8) (t : Gm.Ship) :
    Box (((((((w.setCell ⟨B, 2 + i * 7, none⟩ (.bool t.on)).setCell ⟨B, 2 + i * 7 + 1, none⟩ (.int .i32 t.x)).setCell ⟨B, 2 + i * 7 + 2, none⟩ (.int .i32 t.y)).setCell ⟨B, 2 + i * 7 + 3, none⟩ (.int .i32 t.vx)).setCell ⟨B, 2 + i * 7 + 4, none⟩ (.int .i32 t.vy)).setCell ⟨B, 2 + i * 7 + 5, none⟩ (.int .i64 t.cool)).setCell ⟨B, 2 + i * 7 + 6, none⟩ (.int .i64 t.score)) B 30 (Gm.cells { g with ship := Gm.upd g.ship i t } s) := by
  rw [← set7 g s i hi t]
  exact ((((((h.put _ _).put _ _).put _ _).put _ _).put _ _).put _ _).put _ _
end

theorem game_info : (Try.prog.info? 30).map (·.size) = some 59 := by kernel_rfl
theorem cells_one (g : Gm.G) (s : Value) (h : s.oneCell' = true) : (Gm.cells g s).all (·.oneCell') = true := by
  refine Array.all_eq_true_iff_forall_mem.2 fun v hv => ?_
  have hv : v ∈ [Value.int .i64 g.frame, Value.int .u64 g.dice] ++ Gm.shipCells g.ship ++ [s] := by simpa [Gm.cells] using hv
  simp only [Gm.shipCells, Gm.Ship.cells, List.mem_append, List.mem_cons, List.not_mem_nil, or_false] at hv
  rcases hv with ((rfl | rfl) | hv) | rfl
  · rfl
  · rfl
  · rcases hv with hv | hv | hv | hv | hv | hv | hv | hv <;> (rcases hv with rfl | rfl | rfl | rfl | rfl | rfl | rfl <;> rfl)
  · exact h

def zeroG : Gm.G := ⟨0, 0, fun _ => Gm.Ship.none, []⟩
theorem game_zero : (Try.prog.info? 30).map (·.zero) = some (some (.agg (Gm.cells zeroG (.slice none 0 0)))) := by kernel_rfl
theorem built_new (d : Int) : Try.prog.built 30 [(1, .int .u64 d)] = some (Gm.cells (Gm.new d) (.slice none 0 0)) := by kernel_rfl
theorem built_ship (x y c : Int) : Try.prog.built 26 [(0, .bool true), (1, .int .i32 x), (2, .int .i32 y), (6, .int .i64 c)] = some #[.bool true, .int .i32 x, .int .i32 y, .int .i32 0, .int .i32 0, .int .i64 0, .int .i64 c] := by kernel_rfl
theorem built_ship0 (x y : Int) : Try.prog.built 26 [(0, .bool true), (1, .int .i32 x), (2, .int .i32 y)] = some #[.bool true, .int .i32 x, .int .i32 y, .int .i32 0, .int .i32 0, .int .i64 0, .int .i64 0] := by kernel_rfl
theorem built_shot (o x y vx vy l : Int) : Try.prog.built 108 [(0, .int .i64 o), (1, .int .i32 x), (2, .int .i32 y), (3, .int .i32 vx), (4, .int .i32 vy), (5, .int .i64 l)] = some #[.int .i64 o, .int .i32 x, .int .i32 y, .int .i32 vx, .int .i32 vy, .int .i64 l] := by kernel_rfl

section
variable {ops : Array Oper} {rest : List Oper} {o : Oper} {a : Act} {w : World} {Q : Exit → Act → World → Prop}
theorem wpList_load_game {x : Operand} {B : Nat} {g : Gm.G} {s : Value} (hgd : o.guard = none) (ho : o.op = .load 30 x) (hx : a.eval x = .pointer (some ⟨B, 0, none⟩)) (hB : Box w B 30 (Gm.cells g s))
    (h : wpList Try.prog ops Q rest (a.put o.dst (.agg (Gm.cells g s))) w) : wpList Try.prog ops Q (o :: rest) a w :=
  wpList_load_blk hgd ho hx hB Try.underlying30 rfl game_info h
theorem wpList_alloc_game (hgd : o.guard = none) (ho : o.op = .alloc 30)
    (h : wpList Try.prog ops Q rest (a.put o.dst (.pointer (some ⟨w.heap.size, 0, none⟩))) (w.alloc (.cells (Gm.cells zeroG (.slice none 0 0)) 30))) : wpList Try.prog ops Q (o :: rest) a w :=
  wpList_alloc_z hgd ho game_zero rfl h
theorem wpList_store_game_new {x y : Operand} {v : World} {old : Array Value} {g : Gm.G} {s : Value} (hgd : o.guard = none) (ho : o.op = .store 30 x y) (hx : a.eval x = .pointer (some ⟨v.heap.size, 0, none⟩)) (hy : a.eval y = .agg (Gm.cells g s))
    (hs : s.oneCell' = true) (hold : old.size = 59) (h : wpList Try.prog ops Q rest (a.put o.dst undef) (v.alloc (.cells (Gm.cells g s) 30))) : wpList Try.prog ops Q (o :: rest) a (v.alloc (.cells old 30)) :=
  wpList_store_new hgd ho hx hy rfl rfl game_info hold (cells_one _ _ hs) h
theorem wpList_store_game {x y : Operand} {B : Nat} {g g' : Gm.G} {s s' : Value} (hgd : o.guard = none) (ho : o.op = .store 30 x y) (hx : a.eval x = .pointer (some ⟨B, 0, none⟩)) (hy : a.eval y = .agg (Gm.cells g s))
    (hs : s.oneCell' = true) (hB : Box w B 30 (Gm.cells g' s')) (h : wpList Try.prog ops Q rest (a.put o.dst undef) (w.setRow B (Gm.cells g s))) : wpList Try.prog ops Q (o :: rest) a w :=
  wpList_store_blk hgd ho hx hy hB game_info rfl (cells_one _ _ hs) h
/-- A game's load, a game's store, met by their types alone: what they want. -/
def LoadGame (ops : Array Oper) (Q : Exit → Act → World → Prop) (rest : List Oper) (dst : Option Tmp) (p : Value) (a : Act) (w : World) : Prop :=
  ∃ (B : Nat) (g : Gm.G) (s : Value), p = .pointer (some ⟨B, 0, none⟩) ∧ Box w B 30 (Gm.cells g s) ∧ wpList Try.prog ops Q rest (a.put dst (.agg (Gm.cells g s))) w
theorem LoadGame.mk {dst : Option Tmp} {p : Value} {B : Nat} {g : Gm.G} {s : Value} (hp : p = .pointer (some ⟨B, 0, none⟩)) (hB : Box w B 30 (Gm.cells g s)) (h : wpList Try.prog ops Q rest (a.put dst (.agg (Gm.cells g s))) w) : LoadGame ops Q rest dst p a w := ⟨B, g, s, hp, hB, h⟩
theorem load_gate {x : Operand} (hgd : o.guard = none) (ho : o.op = .load 30 x) (h : LoadGame ops Q rest o.dst (a.eval x) a w) : wpList Try.prog ops Q (o :: rest) a w := by
  obtain ⟨B, g, s, hx, hB, h⟩ := h
  exact wpList_load_game hgd ho hx hB h
def StoreGame (ops : Array Oper) (Q : Exit → Act → World → Prop) (rest : List Oper) (dst : Option Tmp) (p v : Value) (a : Act) (w : World) : Prop :=
  ∃ (B : Nat) (g : Gm.G) (s : Value) (g' : Gm.G) (s' : Value), p = .pointer (some ⟨B, 0, none⟩) ∧ v = .agg (Gm.cells g s) ∧ s.oneCell' = true ∧ Box w B 30 (Gm.cells g' s') ∧ wpList Try.prog ops Q rest (a.put dst undef) (w.setRow B (Gm.cells g s))
theorem StoreGame.mk {dst : Option Tmp} {p v : Value} {B : Nat} {g g' : Gm.G} {s s' : Value} (hp : p = .pointer (some ⟨B, 0, none⟩)) (hv : v = .agg (Gm.cells g s)) (hs : s.oneCell' = true) (hB : Box w B 30 (Gm.cells g' s')) (h : wpList Try.prog ops Q rest (a.put dst undef) (w.setRow B (Gm.cells g s))) : StoreGame ops Q rest dst p v a w := ⟨B, g, s, g', s', hp, hv, hs, hB, h⟩
theorem store_gate {x y : Operand} (hgd : o.guard = none) (ho : o.op = .store 30 x y) (h : StoreGame ops Q rest o.dst (a.eval x) (a.eval y) a w) : wpList Try.prog ops Q (o :: rest) a w := by
  obtain ⟨B, g, s, g', s', hx, hy, hs, hB, h⟩ := h
  exact wpList_store_game hgd ho hx hy hs hB h
end
end Go.Proofs.Ytbihnmingedgfaa
