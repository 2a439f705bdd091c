/-
An Entry, an Event, a []Entry, a []byte that came in: opened.
-/
import Derived.Test.YtbihnmingedgfaaOp
import Derived.Test.YtbihnmingedgfaaEs
import Derived.Test.YtbihnmingedgfaaHh
namespace Go.Proofs.Ytbihnmingedgfaa
open Go.ChangeShapes Go.WideShapes Go.ChangeAt Go.RowKit Go.Joins Go.ChangeMaps Go.Deep
set_option linter.unusedVariables false

theorem cut_at9 {α : Type} (l : List α) (a b : Nat) : l.drop a = (l.drop a).take b ++ l.drop (a + b) := by
  have := (List.take_append_drop b (l.drop a)).symm
  rwa [List.drop_drop] at this
theorem cut_end9 {α : Type} (l : List α) (a b : Nat) (h : l.length = a + b) : l.drop a = (l.drop a).take b := by
  rw [List.take_of_length_le (by simp; omega)]
section
variable {H : Type} {enc : TypeId × Value → H} {w : World} {base : Nat} {spare : Nat → Bool} {held : Bool}
set_option maxRecDepth 100000 in
theorem trod_ev {base : Nat} {spare : Nat → Bool} {held : Bool} {fuel : Nat} {l : List Value} {y : DataW H × List MemPlace} (hl : l.length = 4) (h : DataW.trod enc Try.prog w base spare held fuel 83 l = some y) : ∃ s : En.Ev, l = s.cells ∧ En.tyEv s := by
  obtain ⟨xs, n, _, _, _, hlen, hf⟩ := DataW.trod_struct Try.underlying83 h
  have ci : Try.prog.cellsOf 3 = 1 := by kernel_rfl
  match l, hl, xs, hlen with
  | [a0, a1, a2, a3], _, [y0, y1, y2, y3], _ =>
    obtain ⟨x0, e0, _, w0⟩ := DataW.trod_int Try.underlying3 (hf 0 _ rfl)
    obtain ⟨x1, e1, _, w1⟩ := DataW.trod_int Try.underlying3 (hf 1 _ rfl)
    obtain ⟨x2, e2, _, w2⟩ := DataW.trod_int Try.underlying3 (hf 2 _ rfl)
    obtain ⟨x3, e3, _, w3⟩ := DataW.trod_int Try.underlying3 (hf 3 _ rfl)
    simp [ci] at e0 e1 e2 e3
    subst e0 e1 e2 e3
    exact ⟨⟨x0, x1, x2, x3⟩, rfl, Bd.i64 w0, Bd.i64 w1, Bd.i64 w2, Bd.i64 w3⟩
set_option maxRecDepth 100000 in
theorem trod_ins {base : Nat} {spare : Nat → Bool} {held : Bool} {fuel : Nat} {l : List Value} {y : DataW H × List MemPlace} (hl : l.length = 24) (h : DataW.trod enc Try.prog w base spare held fuel 38 l = some y) :
    ∃ f : Nat → Gm.In, l = Gm.insCells f ∧ ∀ k, k < 8 → Gm.tyIn (f k) := by
  obtain ⟨xs, m, _, hx, _, hn, he⟩ := DataW.trod_array Try.underlying38 h
  have c3 : Try.prog.cellsOf 37 = 3 := by kernel_rfl
  simp only [c3] at he
  have key : ∀ i, i < 8 → ∃ q : Gm.In, (l.drop (i * 3)).take 3 = q.cells ∧ Gm.tyIn q := by
    intro i hi
    have hlen : ((l.drop (i * 3)).take 3).length = 3 := by simp; omega
    obtain ⟨y, hy⟩ : ∃ y, xs[i]? = some y := ⟨xs[i]'(by omega), List.getElem?_eq_getElem (by omega)⟩
    have h : DataW.trod enc Try.prog w base spare held m 37 ((l.drop (i * 3)).take 3) = xs[i]? := he i hi
    rw [hy] at h
    match hq : (l.drop (i * 3)).take 3, hlen with
    | [a, b, c], _ =>
      rw [hq] at h
      obtain ⟨q, h1, h2, _⟩ := trod_in h
      exact ⟨q, h1, h2⟩
  have hch : ∃ ps : Nat → Gm.In, ∀ i, i < 8 → ((l.drop (i * 3)).take 3 = (ps i).cells ∧ Gm.tyIn (ps i)) :=
    ⟨fun i => if h : i < 8 then (key i h).choose else ⟨0, 0, 0⟩, fun i hi => by dsimp only; rw [dif_pos hi]; exact (key i hi).choose_spec⟩
  obtain ⟨ps, hps⟩ := hch
  refine ⟨ps, ?_, fun i hi => (hps i hi).2⟩
  rw [cut24 l hl]
  unfold Gm.insCells
  rw [(hps 0 (by decide)).1, (hps 1 (by decide)).1, (hps 2 (by decide)).1, (hps 3 (by decide)).1, (hps 4 (by decide)).1, (hps 5 (by decide)).1, (hps 6 (by decide)).1, (hps 7 (by decide)).1]
set_option maxRecDepth 100000 in
theorem trod_entry {base : Nat} {spare : Nat → Bool} {held : Bool} {fuel : Nat} {l : List Value} {y : DataW H × List MemPlace} (hl : l.length = 26) (h : DataW.trod enc Try.prog w base spare held fuel 72 l = some y) :
    ∃ q : En.S, l = q.cells ∧ En.Ty q.e ∧ q.e.evs.length ≤ maxLen ∧ Lies w w.heap.size 4 q.adr q.e.evs.length (En.evCells q.e.evs) := by
  obtain ⟨y0, y1, y2, n, _, _, h0, h1, h2⟩ := trod_struct3 Try.underlying72 h
  have ci : Try.prog.cellsOf 3 = 1 := by kernel_rfl
  have c24 : Try.prog.cellsOf 38 = 24 := by kernel_rfl
  have csl : Try.prog.cellsOf 70 = 1 := by kernel_rfl
  have c4 : Try.prog.cellsOf 83 = 4 := by kernel_rfl
  obtain ⟨x0, e0, _, w0⟩ := DataW.trod_int Try.underlying3 h0
  simp only [c24] at h2
  obtain ⟨f, e2, hty⟩ := trod_ins (by simp; omega) h2
  simp only [csl] at h1
  have hlen1 : ((l.drop 1).take 1).length = 1 := by simp; omega
  obtain ⟨u, hu⟩ : ∃ u, (l.drop 1).take 1 = [u] := by
    match hq : (l.drop 1).take 1, hlen1 with
    | [u], _ => exact ⟨u, rfl⟩
  have h1' : DataW.trod enc Try.prog w base spare held n 70 [u] = some y1 := by rw [← hu]; exact h1
  have hsl : ∃ a m k, u = .slice a m k := by
    rcases DataW.trod_slice Try.underlying70 h1' with ⟨hv, _⟩ | ⟨a, len, cap, elems, rest, k, _, hv, _⟩
    · injection hv with hv; exact ⟨_, _, _, hv⟩
    · injection hv with hv; exact ⟨_, _, _, hv⟩
  obtain ⟨a, m, k, rfl⟩ := hsl
  obtain ⟨A, c, evs, ev, ht, hm, hL⟩ := open_slice (enc := enc) (w := w) (base := base) (spare := spare) (held := held) En.Ev.cells 4 En.tyEv ⟨0, 0, 0, 0⟩ Try.underlying70 c4 (by decide) (fun _ => rfl) (fun hl ht => trod_ev hl ht) (v := .slice a m k) (d := y1.1) (p := y1.2) (fun cs e => by cases e) ⟨n, h1'⟩
  refine ⟨⟨⟨x0, evs, f⟩, A, c⟩, ?_, ⟨Bd.i64 w0, ht, hty⟩, hm, hL⟩
  have e0' : (l.drop 0).take 1 = [Value.int .i64 x0] := by rw [← e0, ci]
  have q2 : l.drop 2 = Gm.insCells f := by rw [← e2]; exact cut_end9 l 2 24 (by omega)
  have q1 : l.drop 1 = [Value.slice A evs.length c] ++ Gm.insCells f := by rw [← q2, ← ev, ← hu]; exact cut_at9 l 1 1
  have q0 : l.drop 0 = [Value.int .i64 x0] ++ ([Value.slice A evs.length c] ++ Gm.insCells f) := by rw [← q1, ← e0']; exact cut_at9 l 0 1
  have ql : l = [Value.int .i64 x0] ++ ([Value.slice A evs.length c] ++ Gm.insCells f) := q0
  rw [ql]
  rfl
set_option maxRecDepth 100000 in
theorem agg_of {b0 : Nat} {v : Value} {t : TypeId} {d : TypeDesc} (hu : Try.prog.underlying t = some d) (hd : d.isRow = true) (hv : Value.okWide Try.prog w .any b0 t v) : ∃ cs, v = .agg cs ∧ cs.size = Try.prog.cellsOf t := by
  cases d <;> first | (cases hd; done) | (obtain ⟨cs, h1, h2, _⟩ : ∃ cs, v = .agg cs ∧ cs.size = Try.prog.cellsOf t ∧ Row.okWide Try.prog w .any b0 t cs := (by simpa [Value.okWide, hu] using hv); exact ⟨cs, h1, h2⟩)
set_option maxRecDepth 100000 in
theorem open_entry {b0 : Nat} {v : Value} {d : DataW H} {p : List MemPlace} (hv : Value.okWide Try.prog w .any b0 72 v) (h : DataW.Trod enc Try.prog w base spare held 72 v d p) :
    ∃ q : En.S, v = .agg (En.cells q.e q.sl) ∧ En.Ty q.e ∧ q.e.evs.length ≤ maxLen ∧ Lies w w.heap.size 4 q.adr q.e.evs.length (En.evCells q.e.evs) := by
  obtain ⟨cs, rfl, hsz⟩ := agg_of Try.underlying72 rfl hv
  rw [show Try.prog.cellsOf 72 = 26 from by kernel_rfl] at hsz
  obtain ⟨l⟩ := cs
  obtain ⟨fuel, hf⟩ := h
  have hf' : DataW.trod enc Try.prog w base spare held fuel 72 l = some (d, p) := hf
  obtain ⟨q, h1, h2⟩ := trod_entry (by simpa using hsz) hf'
  refine ⟨q, ?_, h2⟩
  rw [← En.S.cells_arr, ← h1]
set_option maxRecDepth 100000 in
theorem open_event {b0 : Nat} {v : Value} {d : DataW H} {p : List MemPlace} (hv : Value.okWide Try.prog w .any b0 83 v) (h : DataW.Trod enc Try.prog w base spare held 83 v d p) :
    ∃ q : En.Ev, v = .agg q.cells.toArray ∧ En.tyEv q := by
  obtain ⟨cs, rfl, hsz⟩ := agg_of Try.underlying83 rfl hv
  rw [show Try.prog.cellsOf 83 = 4 from by kernel_rfl] at hsz
  obtain ⟨l⟩ := cs
  obtain ⟨fuel, hf⟩ := h
  have hf' : DataW.trod enc Try.prog w base spare held fuel 83 l = some (d, p) := hf
  obtain ⟨q, h1, h2⟩ := trod_ev (by simpa using hsz) hf'
  exact ⟨q, by rw [h1], h2⟩
set_option maxRecDepth 100000 in
theorem open_entries {b0 : Nat} {v : Value} {d : DataW H} {p : List MemPlace} (hv : Value.okWide Try.prog w .any b0 85 v) (h : DataW.Trod enc Try.prog w base spare held 85 v d p) :
    ∃ (A : Option Addr) (c : Nat) (l : List En.S), v = .slice A l.length c ∧ (∀ q ∈ l, En.Ty q.e) ∧ l.length ≤ maxLen ∧ l.length ≤ c ∧ LiesS w w.heap.size A l.length l := by
  have hag : ∀ cs, v ≠ .agg cs := fun cs e => by subst e; simp [Value.okWide, Try.underlying85, Cell.okWide, Cell.ok] at hv
  obtain ⟨A, c, l, h1, h2, h3, h4, h5⟩ := open_slice_c (enc := enc) (w := w) (base := base) (spare := spare) (held := held) En.S.cells 26 (fun q => En.Ty q.e ∧ q.e.evs.length ≤ maxLen ∧ Lies w w.heap.size 4 q.adr q.e.evs.length (En.evCells q.e.evs)) ⟨⟨0, [], En.in0⟩, none, 0⟩ Try.underlying85 (by kernel_rfl) (by decide) (fun _ => rfl) (fun hl ht => trod_entry hl ht) hag h
  exact ⟨A, c, l, h1, fun q hq => (h2 q hq).1, h3, h5, ⟨h4, fun q hq => (h2 q hq).2.2, fun q hq => (h2 q hq).2.1⟩⟩
set_option maxRecDepth 100000 in
theorem open_bytes {b0 : Nat} {v : Value} {d : DataW H} {p : List MemPlace} (hv : Value.okWide Try.prog w .any b0 54 v) (h : DataW.Trod enc Try.prog w base spare held 54 v d p) :
    ∃ (A : Option Addr) (c : Nat) (l : List Int), v = .slice A l.length c ∧ Im.IsBytes l ∧ l.length ≤ maxLen ∧ l.length ≤ c ∧ Lies w w.heap.size 1 A l.length (Im.u8s l) := by
  have hag : ∀ cs, v ≠ .agg cs := fun cs e => by subst e; simp [Value.okWide, Try.underlying54, Cell.okWide, Cell.ok] at hv
  obtain ⟨A, c, l, h1, h2, h3, h4, h5⟩ := open_slice_c (enc := enc) (w := w) (base := base) (spare := spare) (held := held) (fun x : Int => [Value.int .u8 x]) 1 (fun x => 0 ≤ x ∧ x ≤ 255) 0 Try.underlying54 (by kernel_rfl) (by decide) (fun _ => rfl) (fun hl ht => by
    obtain ⟨x, e, _, w⟩ := DataW.trod_int Try.underlying5 ht
    exact ⟨x, e, Bd.u8 w⟩) hag h
  refine ⟨A, c, l, h1, h2, h3, h5, ?_⟩
  have e : ∀ l : List Int, (l.flatMap fun x => [Value.int .u8 x]) = Im.u8s l := fun l => by
    unfold Im.u8s
    induction l with
    | nil => rfl
    | cons a l ih => rw [List.flatMap_cons, ih]; rfl
  rw [← e]
  exact h4
end
end Go.Proofs.Ytbihnmingedgfaa
