/-
A roster that came in: opened.
-/
import Derived.Test.YtbihnmingedgfaaOp
import Derived.Test.YtbihnmingedgfaaTa
import Derived.Test.YtbihnmingedgfaaTd
namespace Go.Proofs.Ytbihnmingedgfaa
open Go.ChangeShapes Go.WideShapes Go.ChangeAt Go.RowKit Go.Joins Go.ChangeMaps Go.Deep
set_option linter.unusedVariables false

def Ros.ty (r : Ros.R) : Prop := (-9223372036854775808 ≤ r.version ∧ r.version ≤ 9223372036854775807) ∧ ∀ k, k < 8 → (-9223372036854775808 ≤ r.peer k ∧ r.peer k ≤ 9223372036854775807) ∧ (-9223372036854775808 ≤ r.gen k ∧ r.gen k ≤ 9223372036854775807)
theorem cut16 {α : Type} (l : List α) (h : l.length = 16) : l = (l.drop (0 * 2)).take 2 ++ ((l.drop (1 * 2)).take 2 ++ ((l.drop (2 * 2)).take 2 ++ ((l.drop (3 * 2)).take 2 ++ ((l.drop (4 * 2)).take 2 ++ ((l.drop (5 * 2)).take 2 ++ ((l.drop (6 * 2)).take 2 ++ ((l.drop (7 * 2)).take 2))))))) := by
  match l, h with
  | [a0, a1, a2, a3, a4, a5, a6, a7, a8, a9, a10, a11, a12, a13, a14, a15], _ => rfl
section
variable {H : Type} {enc : TypeId × Value → H} {w : World} {base : Nat} {spare : Nat → Bool} {held : Bool}
theorem trod_seat {fuel : Nat} {a b : Value} {y : DataW H × List MemPlace} (h : DataW.trod enc Try.prog w base spare held fuel 48 [a, b] = some y) : ∃ p g : Int, [a, b] = [.int .i64 p, .int .i64 g] ∧ ((-9223372036854775808 ≤ p ∧ p ≤ 9223372036854775807) ∧ (-9223372036854775808 ≤ g ∧ g ≤ 9223372036854775807)) ∧ y.2 = [] := by
  obtain ⟨y0, y1, n, hx, _, h0, h1⟩ := trod_struct2 Try.underlying48 h
  obtain ⟨x0, e0, rfl, w0⟩ := DataW.trod_int Try.underlying3 h0
  obtain ⟨x1, e1, rfl, w1⟩ := DataW.trod_int Try.underlying3 h1
  have c8 : Try.prog.cellsOf 3 = 1 := by kernel_rfl
  simp [c8] at e0 e1
  subst e0 e1
  exact ⟨x0, x1, rfl, ⟨Bd.i64 w0, Bd.i64 w1⟩, by rw [hx]; rfl⟩
set_option maxRecDepth 100000 in
theorem trod_seats {fuel : Nat} {l : List Value} {y : DataW H × List MemPlace} (hl : l.length = 16) (h : DataW.trod enc Try.prog w base spare held fuel 49 l = some y) :
    ∃ f g : Nat → Int, (∀ v, l = Ros.seatCells ⟨v, f, g⟩) ∧ (∀ k, k < 8 → (-9223372036854775808 ≤ f k ∧ f k ≤ 9223372036854775807) ∧ (-9223372036854775808 ≤ g k ∧ g k ≤ 9223372036854775807)) ∧ y.2 = [] := by
  obtain ⟨xs, m, rfl, hx, _, hn, he⟩ := DataW.trod_array Try.underlying49 h
  have c2 : Try.prog.cellsOf 48 = 2 := by kernel_rfl
  simp only [c2] at he
  have key : ∀ i, i < 8 → ∃ q : Int × Int, (l.drop (i * 2)).take 2 = [.int .i64 q.1, .int .i64 q.2] ∧ ((-9223372036854775808 ≤ q.1 ∧ q.1 ≤ 9223372036854775807) ∧ (-9223372036854775808 ≤ q.2 ∧ q.2 ≤ 9223372036854775807)) ∧ ∀ y, xs[i]? = some y → y.2 = [] := by
    intro i hi
    have hlen : ((l.drop (i * 2)).take 2).length = 2 := by simp; omega
    obtain ⟨y, hy⟩ : ∃ y, xs[i]? = some y := ⟨xs[i]'(by omega), List.getElem?_eq_getElem (by omega)⟩
    have h : DataW.trod enc Try.prog w base spare held m 48 ((l.drop (i * 2)).take 2) = xs[i]? := he i hi
    rw [hy] at h
    match hq : (l.drop (i * 2)).take 2, hlen with
    | [a, b], _ =>
      rw [hq] at h
      obtain ⟨p, g, h1, h2, h3⟩ := trod_seat h
      exact ⟨(p, g), h1, h2, fun z hz => by rw [hy] at hz; cases hz; exact h3⟩
  have hch : ∃ ps : Nat → Int × Int, ∀ i, i < 8 → ((l.drop (i * 2)).take 2 = [.int .i64 (ps i).1, .int .i64 (ps i).2] ∧ ((-9223372036854775808 ≤ (ps i).1 ∧ (ps i).1 ≤ 9223372036854775807) ∧ (-9223372036854775808 ≤ (ps i).2 ∧ (ps i).2 ≤ 9223372036854775807)) ∧ ∀ y, xs[i]? = some y → y.2 = []) :=
    ⟨fun i => if h : i < 8 then (key i h).choose else (0, 0), fun i hi => by dsimp only; rw [dif_pos hi]; exact (key i hi).choose_spec⟩
  obtain ⟨ps, hps⟩ := hch
  refine ⟨fun k => (ps k).1, fun k => (ps k).2, fun v => ?_, fun i hi => (hps i hi).2.1, ?_⟩
  · rw [cut16 l hl]
    unfold Ros.seatCells Ros.pair
    rw [(hps 0 (by decide)).1, (hps 1 (by decide)).1, (hps 2 (by decide)).1, (hps 3 (by decide)).1, (hps 4 (by decide)).1, (hps 5 (by decide)).1, (hps 6 (by decide)).1, (hps 7 (by decide)).1]
  · rw [hx]
    apply List.flatMap_eq_nil_iff.2
    intro y hy
    obtain ⟨i, hi, rfl⟩ := List.getElem_of_mem hy
    exact (hps i (by omega)).2.2 _ (List.getElem?_eq_getElem hi)
set_option maxRecDepth 100000 in
theorem trod_ros {fuel : Nat} {l : List Value} {y : DataW H × List MemPlace} (hl : l.length = 17) (h : DataW.trod enc Try.prog w base spare held fuel 51 l = some y) : ∃ r : Ros.R, l.toArray = Ros.cells r ∧ Ros.ty r ∧ y.2 = [] := by
  obtain ⟨y0, y1, n, hx, _, h0, h1⟩ := trod_struct2 Try.underlying51 h
  obtain ⟨x0, e0, rfl, w0⟩ := DataW.trod_int Try.underlying3 h0
  have c8 : Try.prog.cellsOf 3 = 1 := by kernel_rfl
  have c16 : Try.prog.cellsOf 49 = 16 := by kernel_rfl
  simp only [c16] at h1
  obtain ⟨f, g, h2, h3, h4⟩ := trod_seats (by simp; omega) h1
  simp only [c8] at e0
  refine ⟨⟨x0, f, g⟩, ?_, ⟨Bd.i64 w0, h3⟩, by rw [hx, h4]; rfl⟩
  match l, hl with
  | a :: t, hl =>
    have ht : t = Ros.seatCells ⟨x0, f, g⟩ := by
      rw [← h2 x0]
      have : t.length = 16 := by simpa using hl
      simp [List.take_of_length_le, this]
    simp at e0
    subst e0
    rw [ht]; rfl
set_option maxRecDepth 100000 in
theorem open_ros {b0 : Nat} {v : Value} {d : DataW H} {p : List MemPlace} (hv : Value.okWide Try.prog w .any b0 51 v) (h : DataW.Trod enc Try.prog w base spare held 51 v d p) : ∃ r : Ros.R, v = .agg (Ros.cells r) ∧ Ros.ty r ∧ p = [] := by
  obtain ⟨cs, rfl, hsz, _⟩ : ∃ cs, v = .agg cs ∧ cs.size = Try.prog.cellsOf 51 ∧ Row.okWide Try.prog w .any b0 51 cs := by
    simpa [Value.okWide, Try.underlying51] using hv
  rw [show Try.prog.cellsOf 51 = 17 from by kernel_rfl] at hsz
  obtain ⟨l⟩ := cs
  obtain ⟨fuel, hf⟩ := h
  have hf' : DataW.trod enc Try.prog w base spare held fuel 51 l = some (d, p) := hf
  obtain ⟨r, h1, h2, h3⟩ := trod_ros (by simpa using hsz) hf'
  exact ⟨r, by rw [← h1], h2, h3⟩
end
end Go.Proofs.Ytbihnmingedgfaa
