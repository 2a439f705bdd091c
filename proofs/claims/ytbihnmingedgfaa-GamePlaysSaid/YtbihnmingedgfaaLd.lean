/-
A game loaded whole, in a region that draws its order; an input of a list.
-/
import Derived.Test.YtbihnmingedgfaaHy
import Derived.Test.YtbihnmingedgfaaPs
import Derived.Test.YtbihnmingedgfaaFi
import Derived.Test.YtbihnmingedgfaaRz
import Derived.Test.YtbihnmingedgfaaBy
namespace Go.Proofs.Ytbihnmingedgfaa
open Go.RowKit
set_option linter.unusedVariables false

theorem exec_load_game {o : Oper} {a : Act} {w : World} {x : Operand} {B : Nat} {g : Gm.G} {s : Value} (ho : o.op = .load 30 x) (hx : a.eval x = .pointer (some ⟨B, 0, none⟩)) (hB : Box w B 30 (Gm.cells g s)) :
    (execOp a.eval o).run Try.prog w = .ok (.value (.agg (Gm.cells g s))) w := exec_load_blk ho hx hB Try.underlying30 rfl game_info
theorem exec_alloc_game {o : Oper} {a : Act} {w : World} (ho : o.op = .alloc 30) :
    (execOp a.eval o).run Try.prog w = .ok (.value (.pointer (some ⟨w.heap.size, 0, none⟩))) (w.alloc (.cells (Gm.cells zeroG (.slice none 0 0)) 30)) := by
  have hz : (zeroValue 30).run Try.prog w = .ok (.agg (Gm.cells zeroG (.slice none 0 0))) w := by
    have hz := game_zero
    cases hq : Try.prog.info? 30 with
    | none => simp [hq] at hz
    | some i => simp [hq] at hz; simp [zeroValue, typeInfo, hq, hz]
  unfold execOp
  simp only [ho, Instr.alloc, Sem.run_bind, hz, Result.andThen_ok]
  rfl
/-- What 'h, e := Step(..)' leaves, one by one: the call, its tuple, the game, the code, h's block, the game in it. -/
def stepV (G : Gm.G) (code : Int) (b : Nat) (k : Nat) (vm : Nat → Value) (w : World) : Prop :=
  match k with
  | 0 => ∃ A c, vm 0 = .tuple #[.agg (Gm.cells G (.slice A G.shots.length c)), .int .i64 code] ∧ Lies w w.heap.size 6 A G.shots.length (Gm.shotCells G.shots)
  | 1 => ∃ A c, vm 1 = .tuple #[.agg (Gm.cells G (.slice A G.shots.length c)), .int .i64 code] ∧ Lies w w.heap.size 6 A G.shots.length (Gm.shotCells G.shots)
  | 2 => ∃ A c, vm 2 = .agg (Gm.cells G (.slice A G.shots.length c)) ∧ Lies w w.heap.size 6 A G.shots.length (Gm.shotCells G.shots)
  | 3 => vm 3 = .int .i64 code
  | 4 => ∃ B g' A' m c', vm 4 = .pointer (some ⟨B, 0, none⟩) ∧ b ≤ B ∧ Box w B 30 (Gm.cells g' (.slice A' m c'))
  | _ => ∃ B A c, vm 4 = .pointer (some ⟨B, 0, none⟩) ∧ b ≤ B ∧ Box w B 30 (Gm.cells G (.slice A G.shots.length c)) ∧ Lies w w.heap.size 6 A G.shots.length (Gm.shotCells G.shots)
section
variable {G : Gm.G} {code : Int} {b k : Nat} {vm vm' : Nat → Value} {w w' : World}
theorem stepV_1 (h : stepV G code b 1 vm w) : ∃ A c, vm 1 = .tuple #[.agg (Gm.cells G (.slice A G.shots.length c)), .int .i64 code] ∧ Lies w w.heap.size 6 A G.shots.length (Gm.shotCells G.shots) := h
theorem stepV_2 (h : stepV G code b 2 vm w) : ∃ A c, vm 2 = .agg (Gm.cells G (.slice A G.shots.length c)) ∧ Lies w w.heap.size 6 A G.shots.length (Gm.shotCells G.shots) := h
theorem stepV_4 (h : stepV G code b 4 vm w) : ∃ B g' A' m c', vm 4 = .pointer (some ⟨B, 0, none⟩) ∧ b ≤ B ∧ Box w B 30 (Gm.cells g' (.slice A' m c')) := h
theorem stepV_below (h : stepV G code b k vm w) (hb : Below w.heap.size w w') : stepV G code b k vm w' := by
  match k, h with
  | 0, ⟨A, c, e, hl⟩ => exact ⟨A, c, e, hl.call hb⟩
  | 1, ⟨A, c, e, hl⟩ => exact ⟨A, c, e, hl.call hb⟩
  | 2, ⟨A, c, e, hl⟩ => exact ⟨A, c, e, hl.call hb⟩
  | 3, h => exact h
  | 4, ⟨B, g', A', m, c', e, hb', hB⟩ => exact ⟨B, g', A', m, c', e, hb', hB.below hb hB.lt⟩
  | k + 5, ⟨B, A, c, e, hb', hB, hl⟩ => exact ⟨B, A, c, e, hb', hB.below hb hB.lt, hl.call hb⟩
theorem stepV_row {B : Nat} {g g' : Gm.G} {A A' : Option Addr} {m m' c c' : Nat} (h : stepV G code b k vm w) (hk : k < 5) (h4 : vm 4 = .pointer (some ⟨B, 0, none⟩)) (hB : Box w B 30 (Gm.cells g (.slice A m c))) : stepV G code b k vm (w.setRow B (Gm.cells g' (.slice A' m' c'))) := by
  match k, h with
  | 0, ⟨A, c, e, hl⟩ => exact ⟨A, c, e, hl.game_row rfl hB _⟩
  | 1, ⟨A, c, e, hl⟩ => exact ⟨A, c, e, hl.game_row rfl hB _⟩
  | 2, ⟨A, c, e, hl⟩ => exact ⟨A, c, e, hl.game_row rfl hB _⟩
  | 3, h => exact h
  | 4, ⟨B', g1, A1, m1, c1, e, hb', hB'⟩ =>
    have eb : B' = B := by rw [e] at h4; injection h4 with h4; injection h4 with h4; injection h4
    subst eb
    exact ⟨B', g', A', m', c', e, hb', hB.row _⟩
theorem stepV_congr (h : stepV G code b k vm w) (hk : k < 6) (h0 : vm k = vm' k) (h4 : k = 5 → vm 4 = vm' 4) : stepV G code b k vm' w := by
  match k, hk, h with
  | 0, _, ⟨A, c, e, hl⟩ => exact ⟨A, c, h0 ▸ e, hl⟩
  | 1, _, ⟨A, c, e, hl⟩ => exact ⟨A, c, h0 ▸ e, hl⟩
  | 2, _, ⟨A, c, e, hl⟩ => exact ⟨A, c, h0 ▸ e, hl⟩
  | 3, _, h => exact h0.symm.trans h
  | 4, _, ⟨B, g', A', m, c', e, hb', hB⟩ => exact ⟨B, g', A', m, c', h0 ▸ e, hb', hB⟩
  | 5, _, ⟨B, A, c, e, hb', hB, hl⟩ => exact ⟨B, A, c, (h4 rfl) ▸ e, hb', hB, hl⟩
end
theorem exec_store_game {o : Oper} {a : Act} {w : World} {x y : Operand} {B : Nat} {g g' : Gm.G} {A A' : Option Addr} {m m' c c' : Nat} (ho : o.op = .store 30 x y) (hx : a.eval x = .pointer (some ⟨B, 0, none⟩)) (hy : a.eval y = .agg (Gm.cells g (.slice A m c))) (hB : Box w B 30 (Gm.cells g' (.slice A' m' c'))) :
    (execOp a.eval o).run Try.prog w = .ok .skip (w.setRow B (Gm.cells g (.slice A m c))) := by
  have hs := run_storeVar_row (P := Try.prog) w B 30 30 (Gm.cells g' (.slice A' m' c')) (Gm.cells g (.slice A m c)) hB.is game_info rfl (cells_one _ _ rfl)
  unfold execOp
  simp only [ho, hx, hy, Instr.storeAt, Instr.sureAddr, Sem.run_bind, Sem.run_pure, Result.andThen_ok, hs]
/-- The cells of one input of a list. -/
theorem ins_at {w : World} {B n : Nat} {ad : Addr} {l : List Gm.In} (h : Lies w B 3 (some ad) n (Gm.inCells l)) (hn : n = l.length) (k : Nat) (hk : k < l.length) :
    w.cell? (ad.add (k * 3)) = some (.int .i8 l[k].x) ∧ w.cell? ⟨(ad.add (k * 3)).block, (ad.add (k * 3)).off + 1, none⟩ = some (.int .i8 l[k].y) ∧
      w.cell? ⟨(ad.add (k * 3)).block, (ad.add (k * 3)).off + 2, none⟩ = some (.int .u8 l[k].b) := by
  have hc := h.cell ad rfl (by omega)
  have hj : ∀ j v, j < 3 → l[k].cells[j]? = some v → w.cell? ((ad.add (k * 3)).add j) = some v := fun j v hj hv => by
    rw [add_twice]
    exact hc _ v (by rw [Gm.inCells_at l k j hk hj, hv])
  have h0 := hj 0 _ (by decide) rfl
  have h1 := hj 1 _ (by decide) rfl
  have h2 := hj 2 _ (by decide) rfl
  exact ⟨h0, h1, h2⟩
end Go.Proofs.Ytbihnmingedgfaa
