/-
A list of shots lies in no block that holds a game.
-/
import Derived.Test.YtbihnmingedgfaaHw
namespace Go.Proofs.Ytbihnmingedgfaa
open Go.RowKit
set_option linter.unusedVariables false

def tagV (v : Value) : Nat := match v with | .int .i64 _ => 1 | .int .i32 _ => 2 | _ => 0
def gameTags : List Nat := [1, 0] ++ ([0, 2, 2, 2, 2, 1, 1] ++ ([0, 2, 2, 2, 2, 1, 1] ++ ([0, 2, 2, 2, 2, 1, 1] ++ ([0, 2, 2, 2, 2, 1, 1] ++ ([0, 2, 2, 2, 2, 1, 1] ++ ([0, 2, 2, 2, 2, 1, 1] ++ ([0, 2, 2, 2, 2, 1, 1] ++ [0, 2, 2, 2, 2, 1, 1]))))))) ++ [0]
theorem game_tags (g : Gm.G) (A : Option Addr) (n c : Nat) (o : Nat) : ((Gm.cells g (.slice A n c))[o]?).map tagV = gameTags[o]? := by
  rw [show (Gm.cells g (.slice A n c))[o]? = (([Value.int .i64 g.frame, Value.int .u64 g.dice] ++ Gm.shipCells g.ship ++ [Value.slice A n c])[o]?) from by unfold Gm.cells; simp]
  rw [← List.getElem?_map]
  rfl
theorem no_shot_in_game : ∀ o, o < 59 → ¬ (gameTags[o]? = some 1 ∧ gameTags[o + 1]? = some 2) := by decide
theorem Lies.off_game {w : World} {B BG n m : Nat} {A A' : Option Addr} {c : Nat} {l : List Gm.Shot} {g : Gm.G} (h : Lies w B 6 A n (Gm.shotCells l)) (hn : n = l.length) (hB : Box w BG 30 (Gm.cells g (.slice A' m c))) (h0 : n ≠ 0) (ad : Addr) (e : A = some ad) : ad.block ≠ BG := by
  intro eb
  subst hn
  have hlt : 0 < l.length := by omega
  have hc := h.cell ad e h0
  have e0 := hc 0 (.int .i64 l[0].owner) (by have := Gm.shotCells_at l 0 0 hlt (by omega); simpa [Gm.Shot.cells] using this)
  have e1 := hc 1 (.int .i32 l[0].x) (by have := Gm.shotCells_at l 0 1 hlt (by omega); simpa [Gm.Shot.cells] using this)
  rw [show ad.add 0 = ad from rfl] at e0
  rw [show ad.add 1 = ⟨ad.block, ad.off + 1, none⟩ from rfl] at e1
  rw [eb, hB.cell] at e1
  have e0' : (Gm.cells g (.slice A' m c))[ad.off]? = some (.int .i64 l[0].owner) := by
    unfold World.cell? at e0
    rw [eb, hB.is] at e0
    dsimp only at e0
    split at e0
    · cases e0
    · exact e0
  have t0 := game_tags g A' m c ad.off
  have t1 := game_tags g A' m c (ad.off + 1)
  rw [e0'] at t0
  rw [e1] at t1
  have hlt' : ad.off < 59 := by have := (Array.getElem?_eq_some_iff.1 e0').1; rwa [Gm.cells_size] at this
  exact no_shot_in_game _ hlt' ⟨t0.symm, t1.symm⟩
/-- A game's block is stored whole: the shots stay. -/
theorem Lies.game_row {w : World} {n BG m : Nat} {A A' : Option Addr} {c : Nat} {l : List Gm.Shot} {g : Gm.G} (h : Lies w w.heap.size 6 A n (Gm.shotCells l)) (hn : n = l.length) (hB : Box w BG 30 (Gm.cells g (.slice A' m c))) (cs : Array Value) : Lies (w.setRow BG cs) (w.setRow BG cs).heap.size 6 A n (Gm.shotCells l) := by
  refine ⟨h.len, fun hn => by obtain ⟨ad, e, hb⟩ := h.start hn; exact ⟨ad, e, by rw [setRow_size]; exact hb⟩, fun ad e h0 j u hu => ?_⟩
  have hne := h.off_game hn hB h0 ad e
  rw [World.cell?_of_block (w := w) (by rw [add_block]; exact setRow_other w BG _ cs hne)]
  exact h.cell ad e h0 j u hu
theorem Lies.alloc {w : World} {size n : Nat} {A : Option Addr} {xs : List Value} (h : Lies w w.heap.size size A n xs) (o : Obj) : Lies (w.alloc o) (w.alloc o).heap.size size A n xs :=
  (h.below (one_below w o)).wider (one_below w o).size
theorem Lies.call {w w' : World} {size n : Nat} {A : Option Addr} {xs : List Value} (h : Lies w w.heap.size size A n xs) (hb : Below w.heap.size w w') : Lies w' w'.heap.size size A n xs :=
  (h.below hb).wider hb.size
end Go.Proofs.Ytbihnmingedgfaa
