/-
A State that came in: opened.
-/
import Derived.Test.YtbihnmingedgfaaOp
import Derived.Test.YtbihnmingedgfaaTj
import Derived.Test.YtbihnmingedgfaaIg
namespace Go.Proofs.Ytbihnmingedgfaa
open Go.ChangeShapes Go.WideShapes Go.ChangeAt Go.RowKit Go.Joins Go.ChangeMaps Go.Deep
set_option linter.unusedVariables false

theorem cut_at {α : Type} (l : List α) (a b : Nat) : l.drop a = (l.drop a).take b ++ l.drop (a + b) := by
  have := (List.take_append_drop b (l.drop a)).symm
  rwa [List.drop_drop] at this
theorem cut_end {α : Type} (l : List α) (a b : Nat) (h : l.length = a + b) : l.drop a = (l.drop a).take b := by
  rw [List.take_of_length_le (by simp; omega)]
section
variable {H : Type} {enc : TypeId × Value → H} {w : World} {base : Nat} {spare : Nat → Bool} {held : Bool}
set_option maxRecDepth 100000 in
theorem trod_ship {fuel : Nat} {l : List Value} {y : DataW H × List MemPlace} (hl : l.length = 7) (h : DataW.trod enc Try.prog w base spare held fuel 26 l = some y) : ∃ s : Gm.Ship, l = s.cells ∧ Gm.tyShip s := by
  obtain ⟨xs, n, _, _, _, hlen, hf⟩ := DataW.trod_struct Try.underlying26 h
  have cb : Try.prog.cellsOf 4 = 1 := by kernel_rfl
  have c32 : Try.prog.cellsOf 21 = 1 := by kernel_rfl
  have ci : Try.prog.cellsOf 3 = 1 := by kernel_rfl
  match l, hl, xs, hlen with
  | [a0, a1, a2, a3, a4, a5, a6], _, [y0, y1, y2, y3, y4, y5, y6], _ =>
    obtain ⟨x0, e0, _⟩ := DataW.trod_bool Try.underlying4 (hf 0 _ rfl)
    obtain ⟨x1, e1, _, w1⟩ := DataW.trod_int Try.underlying21 (hf 1 _ rfl)
    obtain ⟨x2, e2, _, w2⟩ := DataW.trod_int Try.underlying21 (hf 2 _ rfl)
    obtain ⟨x3, e3, _, w3⟩ := DataW.trod_int Try.underlying21 (hf 3 _ rfl)
    obtain ⟨x4, e4, _, w4⟩ := DataW.trod_int Try.underlying21 (hf 4 _ rfl)
    obtain ⟨x5, e5, _, w5⟩ := DataW.trod_int Try.underlying3 (hf 5 _ rfl)
    obtain ⟨x6, e6, _, w6⟩ := DataW.trod_int Try.underlying3 (hf 6 _ rfl)
    simp [cb, c32, ci] at e0 e1 e2 e3 e4 e5 e6
    subst e0 e1 e2 e3 e4 e5 e6
    exact ⟨⟨x0, x1, x2, x3, x4, x5, x6⟩, rfl, Bd.i32 w1, Bd.i32 w2, Bd.i32 w3, Bd.i32 w4, Bd.i64 w5, Bd.i64 w6⟩
set_option maxRecDepth 100000 in
theorem trod_shot {base : Nat} {spare : Nat → Bool} {held : Bool} {fuel : Nat} {l : List Value} {y : DataW H × List MemPlace} (hl : l.length = 6) (h : DataW.trod enc Try.prog w base spare held fuel 108 l = some y) : ∃ s : Gm.Shot, l = s.cells ∧ Gm.tyShot s := by
  obtain ⟨xs, n, _, _, _, hlen, hf⟩ := DataW.trod_struct Try.underlying108 h
  have c32 : Try.prog.cellsOf 21 = 1 := by kernel_rfl
  have ci : Try.prog.cellsOf 3 = 1 := by kernel_rfl
  match l, hl, xs, hlen with
  | [a0, a1, a2, a3, a4, a5], _, [y0, y1, y2, y3, y4, y5], _ =>
    obtain ⟨x0, e0, _, w0⟩ := DataW.trod_int Try.underlying3 (hf 0 _ rfl)
    obtain ⟨x1, e1, _, w1⟩ := DataW.trod_int Try.underlying21 (hf 1 _ rfl)
    obtain ⟨x2, e2, _, w2⟩ := DataW.trod_int Try.underlying21 (hf 2 _ rfl)
    obtain ⟨x3, e3, _, w3⟩ := DataW.trod_int Try.underlying21 (hf 3 _ rfl)
    obtain ⟨x4, e4, _, w4⟩ := DataW.trod_int Try.underlying21 (hf 4 _ rfl)
    obtain ⟨x5, e5, _, w5⟩ := DataW.trod_int Try.underlying3 (hf 5 _ rfl)
    simp [c32, ci] at e0 e1 e2 e3 e4 e5
    subst e0 e1 e2 e3 e4 e5
    exact ⟨⟨x0, x1, x2, x3, x4, x5⟩, rfl, Bd.i64 w0, Bd.i32 w1, Bd.i32 w2, Bd.i32 w3, Bd.i32 w4, Bd.i64 w5⟩
set_option maxRecDepth 100000 in
theorem trod_ships {fuel : Nat} {l : List Value} {y : DataW H × List MemPlace} (hl : l.length = 56) (h : DataW.trod enc Try.prog w base spare held fuel 27 l = some y) :
    ∃ f : Nat → Gm.Ship, l = Gm.shipCells f ∧ ∀ k, k < 8 → Gm.tyShip (f k) := by
  obtain ⟨xs, m, _, _, _, hn, he⟩ := DataW.trod_array Try.underlying27 h
  have c7 : Try.prog.cellsOf 26 = 7 := by kernel_rfl
  simp only [c7] at he
  have key : ∀ i, i < 8 → ∃ s : Gm.Ship, (l.drop (i * 7)).take 7 = s.cells ∧ Gm.tyShip s := by
    intro i hi
    have hlen : ((l.drop (i * 7)).take 7).length = 7 := by simp; omega
    obtain ⟨y, hy⟩ : ∃ y, xs[i]? = some y := ⟨xs[i]'(by omega), List.getElem?_eq_getElem (by omega)⟩
    have h := he i hi
    rw [hy] at h
    exact trod_ship hlen h
  have hch : ∃ ps : Nat → Gm.Ship, ∀ i, i < 8 → ((l.drop (i * 7)).take 7 = (ps i).cells ∧ Gm.tyShip (ps i)) :=
    ⟨fun i => if h : i < 8 then (key i h).choose else Gm.Ship.none, fun i hi => by dsimp only; rw [dif_pos hi]; exact (key i hi).choose_spec⟩
  obtain ⟨ps, hps⟩ := hch
  refine ⟨ps, ?_, fun i hi => (hps i hi).2⟩
  have q7 : l.drop (7 * 7) = (ps 7).cells := (cut_end l (7 * 7) 7 (by omega)).trans (hps 7 (by omega)).1
  have q6 : l.drop (6 * 7) = (ps 6).cells ++ (ps 7).cells := by rw [← q7, ← (hps 6 (by omega)).1]; exact cut_at l (6 * 7) 7
  have q5 : l.drop (5 * 7) = (ps 5).cells ++ ((ps 6).cells ++ (ps 7).cells) := by rw [← q6, ← (hps 5 (by omega)).1]; exact cut_at l (5 * 7) 7
  have q4 : l.drop (4 * 7) = (ps 4).cells ++ ((ps 5).cells ++ ((ps 6).cells ++ (ps 7).cells)) := by rw [← q5, ← (hps 4 (by omega)).1]; exact cut_at l (4 * 7) 7
  have q3 : l.drop (3 * 7) = (ps 3).cells ++ ((ps 4).cells ++ ((ps 5).cells ++ ((ps 6).cells ++ (ps 7).cells))) := by rw [← q4, ← (hps 3 (by omega)).1]; exact cut_at l (3 * 7) 7
  have q2 : l.drop (2 * 7) = (ps 2).cells ++ ((ps 3).cells ++ ((ps 4).cells ++ ((ps 5).cells ++ ((ps 6).cells ++ (ps 7).cells)))) := by rw [← q3, ← (hps 2 (by omega)).1]; exact cut_at l (2 * 7) 7
  have q1 : l.drop (1 * 7) = (ps 1).cells ++ ((ps 2).cells ++ ((ps 3).cells ++ ((ps 4).cells ++ ((ps 5).cells ++ ((ps 6).cells ++ (ps 7).cells))))) := by rw [← q2, ← (hps 1 (by omega)).1]; exact cut_at l (1 * 7) 7
  have q0 : l.drop (0 * 7) = (ps 0).cells ++ ((ps 1).cells ++ ((ps 2).cells ++ ((ps 3).cells ++ ((ps 4).cells ++ ((ps 5).cells ++ ((ps 6).cells ++ (ps 7).cells)))))) := by rw [← q1, ← (hps 0 (by omega)).1]; exact cut_at l (0 * 7) 7
  exact q0
set_option maxRecDepth 100000 in
theorem trod_game {fuel : Nat} {l : List Value} {y : DataW H × List MemPlace} (hl : l.length = 59) (h : DataW.trod enc Try.prog w base spare held fuel 30 l = some y) :
    ∃ (g : Gm.G) (A : Option Addr) (c : Nat), l.toArray = Gm.cells g (.slice A g.shots.length c) ∧ Gm.ty g ∧ g.shots.length ≤ maxLen ∧ Lies w w.heap.size 6 A g.shots.length (Gm.shotCells g.shots) := by
  obtain ⟨y0, y1, y2, y3, n, _, _, h0, h1, h2, h3⟩ := trod_struct4 Try.underlying30 h
  have ci : Try.prog.cellsOf 3 = 1 := by kernel_rfl
  have cu : Try.prog.cellsOf 24 = 1 := by kernel_rfl
  have cs8 : Try.prog.cellsOf 27 = 56 := by kernel_rfl
  have csl : Try.prog.cellsOf 28 = 1 := by kernel_rfl
  have c6 : Try.prog.cellsOf 108 = 6 := by kernel_rfl
  obtain ⟨x0, e0, _, w0⟩ := DataW.trod_int Try.underlying3 h0
  obtain ⟨x1, e1, _, w1⟩ := DataW.trod_int Try.underlying24 h1
  simp only [cs8] at h2
  obtain ⟨f, e2, hty⟩ := trod_ships (by simp; omega) h2
  simp only [csl] at h3
  have hlen3 : ((l.drop 58).take 1).length = 1 := by simp; omega
  obtain ⟨u, hu⟩ : ∃ u, (l.drop 58).take 1 = [u] := by
    match hq : (l.drop 58).take 1, hlen3 with
    | [u], _ => exact ⟨u, rfl⟩
  have h3' : DataW.trod enc Try.prog w base spare held n 28 [u] = some y3 := by rw [← hu]; exact h3
  have hsl : ∃ a m k, u = .slice a m k := by
    rcases DataW.trod_slice Try.underlying28 h3' with ⟨hv, _⟩ | ⟨a, len, cap, elems, rest, k, _, hv, _⟩
    · injection hv with hv; exact ⟨_, _, _, hv⟩
    · injection hv with hv; exact ⟨_, _, _, hv⟩
  obtain ⟨a, m, k, rfl⟩ := hsl
  obtain ⟨A, c, shots, ev, ht, hm, hL⟩ := open_slice (enc := enc) (w := w) (base := base) (spare := spare) (held := held) Gm.Shot.cells 6 Gm.tyShot ⟨0, 0, 0, 0, 0, 0⟩ Try.underlying28 c6 (by decide) (fun _ => rfl) (fun hl ht => trod_shot hl ht) (v := .slice a m k) (d := y3.1) (p := y3.2) (fun cs e => by cases e) ⟨n, h3'⟩
  refine ⟨⟨x0, x1, f, shots⟩, A, c, ?_, ⟨Bd.i64 w0, by have := Bd.u64 w1; omega, hty, fun i hi => ht _ (List.getElem_mem hi)⟩, hm, hL⟩
  have e0' : (l.drop 0).take 1 = [Value.int .i64 x0] := by rw [← e0, ci]
  have e1' : (l.drop 1).take 1 = [Value.int .u64 x1] := by rw [← e1, cu]
  have e2' : (l.drop 2).take 56 = Gm.shipCells f := e2
  have q3 : l.drop 58 = [Value.slice A shots.length c] := by rw [← ev, ← hu]; exact cut_end l 58 1 (by omega)
  have q2 : l.drop 2 = Gm.shipCells f ++ [Value.slice A shots.length c] := by rw [← q3, ← e2']; exact cut_at l 2 56
  have q1 : l.drop 1 = [Value.int .u64 x1] ++ (Gm.shipCells f ++ [Value.slice A shots.length c]) := by rw [← q2, ← e1']; exact cut_at l 1 1
  have q0 : l.drop 0 = [Value.int .i64 x0] ++ ([Value.int .u64 x1] ++ (Gm.shipCells f ++ [Value.slice A shots.length c])) := by rw [← q1, ← e0']; exact cut_at l 0 1
  have ql : l = [Value.int .i64 x0] ++ ([Value.int .u64 x1] ++ (Gm.shipCells f ++ [Value.slice A shots.length c])) := q0
  rw [ql]
  rfl
set_option maxRecDepth 100000 in
theorem open_state {b0 : Nat} {v : Value} {d : DataW H} {p : List MemPlace} (hv : Value.okWide Try.prog w .any b0 53 v) (h : DataW.Trod enc Try.prog w base spare held 53 v d p) :
    ∃ (A : Option Addr) (c : Nat) (g : Gm.G) (r : Ros.R), v = .agg (Im.cells g (.slice A g.shots.length c) r) ∧ Gm.ty g ∧ g.shots.length ≤ maxLen ∧ Lies w w.heap.size 6 A g.shots.length (Gm.shotCells g.shots) := by
  obtain ⟨cs, rfl, hsz, _⟩ : ∃ cs, v = .agg cs ∧ cs.size = Try.prog.cellsOf 53 ∧ Row.okWide Try.prog w .any b0 53 cs := by
    simpa [Value.okWide, Try.underlying53] using hv
  rw [show Try.prog.cellsOf 53 = 76 from by kernel_rfl] at hsz
  obtain ⟨l⟩ := cs
  have hl : l.length = 76 := by simpa using hsz
  obtain ⟨fuel, hf⟩ := h
  have hf' : DataW.trod enc Try.prog w base spare held fuel 53 l = some (d, p) := hf
  obtain ⟨y0, y1, n, _, _, h0, h1⟩ := trod_struct2 Try.underlying53 hf'
  have cg : Try.prog.cellsOf 30 = 59 := by kernel_rfl
  have cr : Try.prog.cellsOf 51 = 17 := by kernel_rfl
  simp only [cg] at h0
  simp only [cr] at h1
  obtain ⟨g, A, c, e0, hg, hm, hL⟩ := trod_game (by simp; omega) h0
  obtain ⟨r, e1, _, _⟩ := trod_ros (by simp; omega) h1
  refine ⟨A, c, g, r, ?_, hg, hm, hL⟩
  have q1 : l.drop 59 = (l.drop 59).take 17 := cut_end l 59 17 (by omega)
  have q0 : l.drop 0 = (l.drop 0).take 59 ++ l.drop 59 := cut_at l 0 59
  have e0' : ((l.drop 0).take 59).toArray = Gm.cells g (.slice A g.shots.length c) := e0
  have e1' : ((l.drop 59).take 17).toArray = Ros.cells r := e1
  have ql : l.toArray = Im.cells g (.slice A g.shots.length c) r := by
    unfold Im.cells
    rw [← e0', ← e1', ← q1]
    have := congrArg List.toArray q0
    simp at this ⊢
  exact congrArg Value.agg ql
end
end Go.Proofs.Ytbihnmingedgfaa
