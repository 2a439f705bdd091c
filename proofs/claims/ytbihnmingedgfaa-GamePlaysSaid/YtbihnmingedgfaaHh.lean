/-
An [8]Input that came in: opened.
-/
import Derived.Test.YtbihnmingedgfaaGm
import Derived.Test.YtbihnmingedgfaaBd
import Derived.Test.YtbihnmingedgfaaGb
import Derived.ProofKit
import Derived.OpenShut
import Derived.Carry
import Derived.Lib.SmallJoins
namespace Go.Proofs.Ytbihnmingedgfaa
open Go.ChangeShapes Go.WideShapes Go.ChangeAt Go.RowKit Go.Joins Go.ChangeMaps Go.Deep
set_option linter.unusedVariables false

section
variable {H : Type} {enc : TypeId × Value → H} {w : World} {base : Nat} {spare : Nat → Bool} {held : Bool}
theorem trod_in {fuel : Nat} {a b c : Value} {y : DataW H × List MemPlace} (h : DataW.trod enc Try.prog w base spare held fuel 37 [a, b, c] = some y) : ∃ q : Gm.In, [a, b, c] = q.cells ∧ Gm.tyIn q ∧ y.2 = [] := by
  obtain ⟨y0, y1, y2, n, hx, _, h0, h1, h2⟩ := trod_struct3 Try.underlying37 h
  obtain ⟨x0, e0, rfl, w0⟩ := DataW.trod_int Try.underlying35 h0
  obtain ⟨x1, e1, rfl, w1⟩ := DataW.trod_int Try.underlying35 h1
  obtain ⟨x2, e2, rfl, w2⟩ := DataW.trod_int Try.underlying5 h2
  have c8 : Try.prog.cellsOf 35 = 1 := by kernel_rfl
  have cu : Try.prog.cellsOf 5 = 1 := by kernel_rfl
  simp [c8, cu] at e0 e1 e2
  subst e0 e1 e2
  exact ⟨⟨x0, x1, x2⟩, rfl, ⟨Bd.i8 w0, Bd.i8 w1, Bd.u8 w2⟩, by rw [hx]; rfl⟩
theorem cut24 {α : Type} (l : List α) (h : l.length = 24) : l = (l.drop (0 * 3)).take 3 ++ ((l.drop (1 * 3)).take 3 ++ ((l.drop (2 * 3)).take 3 ++ ((l.drop (3 * 3)).take 3 ++ ((l.drop (4 * 3)).take 3 ++ ((l.drop (5 * 3)).take 3 ++ ((l.drop (6 * 3)).take 3 ++ ((l.drop (7 * 3)).take 3))))))) := by
  match l, h with
  | [a0, a1, a2, a3, a4, a5, a6, a7, a8, a9, a10, a11, a12, a13, a14, a15, a16, a17, a18, a19, a20, a21, a22, a23], _ => rfl
set_option maxRecDepth 100000 in
theorem open_ins {b0 : Nat} {v : Value} {d : DataW H} {p : List MemPlace} (hv : Value.okWide Try.prog w .any b0 38 v) (h : DataW.Trod enc Try.prog w base spare held 38 v d p) : ∃ ps : Nat → Gm.In, v = .agg (Gm.insCells ps).toArray ∧ (∀ i, i < 8 → Gm.tyIn (ps i)) ∧ p = [] := by
  obtain ⟨cs, rfl, hsz, _⟩ : ∃ cs, v = .agg cs ∧ cs.size = Try.prog.cellsOf 38 ∧ Row.okWide Try.prog w .any b0 38 cs := by
    simpa [Value.okWide, Try.underlying38] using hv
  rw [show Try.prog.cellsOf 38 = 24 from by kernel_rfl] at hsz
  obtain ⟨l⟩ := cs
  have hl : l.length = 24 := by simpa using hsz
  obtain ⟨fuel, hf⟩ := h
  obtain ⟨xs, m, rfl, hx, _, hn, he⟩ := DataW.trod_array Try.underlying38 hf
  have c3 : Try.prog.cellsOf 37 = 3 := by kernel_rfl
  simp only [c3] at he
  have key : ∀ i, i < 8 → ∃ q : Gm.In, (l.drop (i * 3)).take 3 = q.cells ∧ Gm.tyIn q ∧ ∀ y, xs[i]? = some y → y.2 = [] := by
    intro i hi
    have hlen : ((l.drop (i * 3)).take 3).length = 3 := by simp; omega
    obtain ⟨y, hy⟩ : ∃ y, xs[i]? = some y := ⟨xs[i]'(by omega), List.getElem?_eq_getElem (by omega)⟩
    have h : DataW.trod enc Try.prog w base spare held m 37 ((l.drop (i * 3)).take 3) = xs[i]? := he i hi
    rw [hy] at h
    match hq : (l.drop (i * 3)).take 3, hlen with
    | [a, b, c], _ =>
      rw [hq] at h
      obtain ⟨q, h1, h2, h3⟩ := trod_in h
      exact ⟨q, h1, h2, fun z hz => by rw [hy] at hz; cases hz; exact h3⟩
  have hch : ∃ ps : Nat → Gm.In, ∀ i, i < 8 → ((l.drop (i * 3)).take 3 = (ps i).cells ∧ Gm.tyIn (ps i) ∧ ∀ y, xs[i]? = some y → y.2 = []) :=
    ⟨fun i => if h : i < 8 then (key i h).choose else ⟨0, 0, 0⟩, fun i hi => by dsimp only; rw [dif_pos hi]; exact (key i hi).choose_spec⟩
  obtain ⟨ps, hps⟩ := hch
  refine ⟨ps, ?_, fun i hi => (hps i hi).2.1, ?_⟩
  · have e : l = Gm.insCells ps := by
      rw [cut24 l hl]
      unfold Gm.insCells
      rw [(hps 0 (by decide)).1, (hps 1 (by decide)).1, (hps 2 (by decide)).1, (hps 3 (by decide)).1, (hps 4 (by decide)).1, (hps 5 (by decide)).1, (hps 6 (by decide)).1, (hps 7 (by decide)).1]
    rw [e]
  · simp only [Prod.mk.injEq] at hx
    rw [hx.2]
    apply List.flatMap_eq_nil_iff.2
    intro y hy
    obtain ⟨i, hi, rfl⟩ := List.getElem_of_mem hy
    exact (hps i (by omega)).2.2 _ (List.getElem?_eq_getElem hi)
end
end Go.Proofs.Ytbihnmingedgfaa
