/-
Several texts in one: Bd Op Ee Ez Zb Zsh Sha Ta Ig Fa Ga Ha Hb Eq.
-/
import Derived.Test.YtghomofakpjglaaWi2
namespace Bd
open Go
theorem i8 {a : Int} (h : (Lit.int .i8 a).wf = true) : -128 ≤ a ∧ a ≤ 127 := by
  simpa [Lit.wf, IntKind.min, IntKind.max, IntKind.signed, IntKind.bits] using h
theorem i32 {a : Int} (h : (Lit.int .i32 a).wf = true) : -2147483648 ≤ a ∧ a ≤ 2147483647 := by
  simpa [Lit.wf, IntKind.min, IntKind.max, IntKind.signed, IntKind.bits] using h
theorem i64 {a : Int} (h : (Lit.int .i64 a).wf = true) : -9223372036854775808 ≤ a ∧ a ≤ 9223372036854775807 := by
  simpa [Lit.wf, IntKind.min, IntKind.max, IntKind.signed, IntKind.bits] using h
theorem u8 {a : Int} (h : (Lit.int .u8 a).wf = true) : 0 ≤ a ∧ a ≤ 255 := by
  simpa [Lit.wf, IntKind.min, IntKind.max, IntKind.signed, IntKind.bits] using h
theorem u32 {a : Int} (h : (Lit.int .u32 a).wf = true) : 0 ≤ a ∧ a ≤ 4294967295 := by
  simpa [Lit.wf, IntKind.min, IntKind.max, IntKind.signed, IntKind.bits] using h
theorem u64 {a : Int} (h : (Lit.int .u64 a).wf = true) : 0 ≤ a ∧ a ≤ 18446744073709551615 := by
  simpa [Lit.wf, IntKind.min, IntKind.max, IntKind.signed, IntKind.bits] using h
end Bd
namespace Go.Proofs.Ytghomofakpjglaa
open Go.ChangeShapes Go.WideShapes Go.ChangeAt Go.RowKit Go.Joins Go.ChangeMaps Go.Deep
set_option linter.unusedVariables false

theorem cells?_cell' {w : World} {base : Nat} {a : Addr} {n : Nat} {cs : List Value} (h : w.cells? base a n = some cs) : cs.length = n ∧ ∀ j, j < n → w.cell? (a.add j) = cs[j]? := by
  unfold World.cells? at h
  split at h
  · have hl := mapM_some_length h
    refine ⟨by simpa using hl, fun j hj => ?_⟩
    have := mapM_some_get h j j (by simp [hj])
    rw [this]
  · cases h
theorem cells_one_of' {v x : Value} (h : ∀ cs, v ≠ .agg cs) (hv : v.cells.toList = [x]) : v = x := by
  cases v <;> first | exact absurd rfl (h _) | simpa [Value.cells] using hv
section
variable {α : Type} {cells : α → List Value} {c : Nat}
theorem flat_len (hc : ∀ a, (cells a).length = c) (l : List α) : (l.flatMap cells).length = l.length * c := by
  induction l with
  | nil => simp
  | cons s l ih => rw [List.flatMap_cons, List.length_append, ih, List.length_cons, hc, Nat.succ_mul]; omega
theorem flat_at (hc : ∀ a, (cells a).length = c) (l : List α) (k j : Nat) (hk : k < l.length) (hj : j < c) : (l.flatMap cells)[k * c + j]? = (cells l[k])[j]? := by
  induction l generalizing k with
  | nil => simp at hk
  | cons s l ih =>
    rw [List.flatMap_cons]
    match k with
    | 0 => rw [List.getElem?_append_left (by rw [hc]; omega)]; simp
    | k + 1 =>
      rw [List.getElem?_append_right (by rw [hc, Nat.succ_mul]; omega)]
      have := ih k (by simpa using hk)
      rw [show (k + 1) * c + j - (cells s).length = k * c + j from by rw [hc, Nat.succ_mul]; omega, this]
      simp
end
section
variable {H : Type} {enc : TypeId × Value → H} {w : World} {base : Nat} {spare : Nat → Bool} {held : Bool}
set_option maxRecDepth 100000 in
theorem open_slice_c {α : Type} {t e : TypeId} (cells : α → List Value) (c : Nat) (ty : α → Prop) (z : α) (hu : Try.prog.underlying t = some (.slice e)) (hce : Try.prog.cellsOf e = c) (hc0 : 0 < c) (hlen : ∀ a, (cells a).length = c)
    (hel : ∀ {base : Nat} {spare : Nat → Bool} {held : Bool} {fuel : Nat} {l : List Value} {y : DataW H × List MemPlace}, l.length = c → DataW.trod enc Try.prog w base spare held fuel e l = some y → ∃ q : α, l = cells q ∧ ty q)
    {v : Value} {d : DataW H} {p : List MemPlace} (hag : ∀ cs, v ≠ .agg cs) (h : DataW.Trod enc Try.prog w base spare held t v d p) : ∃ (A : Option Addr) (cc : Nat) (l : List α), v = .slice A l.length cc ∧ (∀ x ∈ l, ty x) ∧ l.length ≤ maxLen ∧ Lies w w.heap.size c A l.length (l.flatMap cells) ∧ l.length ≤ cc := by
  obtain ⟨fuel, hf⟩ := h
  rcases DataW.trod_slice hu hf with ⟨hv, _⟩ | ⟨a, len, cap, elems, rest, n, rfl, hv, _, _, hlc, hcm, hlen', hel', _, _⟩
  · have ev : v = .slice none 0 0 := cells_one_of' hag hv
    exact ⟨none, 0, [], ev, fun x hx => (by cases hx), Nat.zero_le _, Lies.empty, Nat.le_refl _⟩
  · have ev : v = .slice (some a) len cap := cells_one_of' hag hv
    simp only [hce] at hel'
    have key : ∀ i, i < len → ∃ q : α, w.cells? base (a.add (i * c)) c = some (cells q) ∧ ty q := by
      intro i hi
      obtain ⟨y, hy⟩ : ∃ y, elems[i]? = some y := ⟨elems[i]'(by omega), List.getElem?_eq_getElem (by omega)⟩
      have h := hel' i hi
      rw [hy, Option.bind_eq_some_iff] at h
      obtain ⟨cs, hcs, ht⟩ := h
      have hl := (cells?_cell' hcs).1
      obtain ⟨q, h1, h2⟩ := hel hl ht
      exact ⟨q, by rw [hcs, h1], h2⟩
    have hch : ∃ ps : Nat → α, ∀ i, i < len → (w.cells? base (a.add (i * c)) c = some (cells (ps i)) ∧ ty (ps i)) :=
      ⟨fun i => if h : i < len then (key i h).choose else z, fun i hi => by dsimp only; rw [dif_pos hi]; exact (key i hi).choose_spec⟩
    obtain ⟨ps, hps⟩ := hch
    have ll : ((List.range len).map ps).length = len := by simp
    have lf : (((List.range len).map ps).flatMap cells).length = len * c := by rw [flat_len hlen, ll]
    refine ⟨some a, cap, (List.range len).map ps, by rw [ll]; exact ev, fun x hx => ?_, by rw [ll]; omega, ⟨?_, fun h0 => ?_, fun ad e h0 j u hu => ?_⟩, by rw [ll]; exact hlc⟩
    · obtain ⟨i, hi, rfl⟩ := List.mem_map.1 hx
      exact (hps i (by simpa using hi)).2
    · rw [lf, ll]
    · rw [ll] at h0
      exact ⟨a, rfl, by have := World.cells?_block (hps 0 (by omega)).1 hc0; simpa [Addr.add] using this⟩
    · injection e with e
      subst e
      have hjl : j < len * c := by have := (List.getElem?_eq_some_iff.1 hu).1; rwa [lf] at this
      have hjc : j / c < len := (Nat.div_lt_iff_lt_mul hc0).2 hjl
      have hjm : j % c < c := Nat.mod_lt _ hc0
      have hjj : j / c * c + j % c = j := by rw [Nat.mul_comm]; exact Nat.div_add_mod j c
      have hq := (cells?_cell' (hps (j / c) hjc).1).2 (j % c) hjm
      rw [add_twice, hjj] at hq
      rw [hq, ← hu]
      have := flat_at hlen ((List.range len).map ps) (j / c) (j % c) (by rw [ll]; exact hjc) hjm
      rw [hjj] at this
      rw [this]
      simp
/-- A list of whole numbers. -/
theorem open_slice {α : Type} {t e : TypeId} (cells : α → List Value) (c : Nat) (ty : α → Prop) (z : α) (hu : Try.prog.underlying t = some (.slice e)) (hce : Try.prog.cellsOf e = c) (hc0 : 0 < c) (hlen : ∀ a, (cells a).length = c)
    (hel : ∀ {base : Nat} {spare : Nat → Bool} {held : Bool} {fuel : Nat} {l : List Value} {y : DataW H × List MemPlace}, l.length = c → DataW.trod enc Try.prog w base spare held fuel e l = some y → ∃ q : α, l = cells q ∧ ty q)
    {v : Value} {d : DataW H} {p : List MemPlace} (hag : ∀ cs, v ≠ .agg cs) (h : DataW.Trod enc Try.prog w base spare held t v d p) : ∃ (A : Option Addr) (cc : Nat) (l : List α), v = .slice A l.length cc ∧ (∀ x ∈ l, ty x) ∧ l.length ≤ maxLen ∧ Lies w w.heap.size c A l.length (l.flatMap cells) := by
  obtain ⟨A, cc, l, h1, h2, h3, h4, _⟩ := open_slice_c cells c ty z hu hce hc0 hlen hel hag h
  exact ⟨A, cc, l, h1, h2, h3, h4⟩

end
end Go.Proofs.Ytghomofakpjglaa
namespace Go.Proofs.Ytghomofakpjglaa
open Go.RowKit Go.Shelf
set_option linter.unusedVariables false
set_option linter.unusedSimpArgs false

section
variable {ops : Array Oper} {rest : List Oper} {o : Oper} {a : Act} {w : World} {Q : Exit → Act → World → Prop} {x y : Operand} {dst : Option Tmp} {p : Value}
/-- What the load of an entry, or of a part of it, wants. -/
def LoadEn (ops : Array Oper) (Q : Exit → Act → World → Prop) (rest : List Oper) (dst : Option Tmp) (p : Value) (off : Nat) (pick : En.E → Value → Array Value) (a : Act) (w : World) : Prop :=
  ∃ (B : Nat) (e : En.E) (s : Value), p = .pointer (some ⟨B, off, none⟩) ∧ Box w B 60 (En.cells e s) ∧ wpList Try.prog ops Q rest (a.put dst (.agg (pick e s))) w
theorem LoadEn.mk {off : Nat} {pick : En.E → Value → Array Value} {B : Nat} {e : En.E} {s : Value} (hp : p = .pointer (some ⟨B, off, none⟩)) (hB : Box w B 60 (En.cells e s)) (h : wpList Try.prog ops Q rest (a.put dst (.agg (pick e s))) w) : LoadEn ops Q rest dst p off pick a w := ⟨B, e, s, hp, hB, h⟩
end

end Go.Proofs.Ytghomofakpjglaa
namespace En
open Go
end En
namespace Go.Proofs.Ytghomofakpjglaa
open Go.RowKit Go.Shelf
set_option linter.unusedVariables false
set_option linter.unusedSimpArgs false

theorem need_any (v : Bool) (s : ByteArray) (w : World) : Calls Try.prog 37 #[.bool v, .string s] w fun e w' => (v = true ∧ e = .returned (.tuple #[]) ∧ w = w') ∨ (v = false ∧ Pan e ∧ w = w') := by
  cases v
  · exact (need_no s w).mono fun e w' ⟨h1, h2⟩ => .inr ⟨rfl, ⟨s, h1⟩, h2⟩
  · exact (need_yes s w).mono fun e w' ⟨h1, h2⟩ => .inl ⟨rfl, h1, h2⟩

end Go.Proofs.Ytghomofakpjglaa
namespace Im
open Go
/-- One behind the other is read, so many times. -/
def decN {α : Type} (dec : List Int → Option (α × List Int)) : Nat → List Int → Option (List α × List Int)
  | 0, bs => some ([], bs)
  | n + 1, bs => (dec bs).bind fun q => (decN dec n q.2).bind fun r => some (q.1 :: r.1, r.2)
/-- How many there are, and these. -/
def decL {α : Type} (size : Nat) (dec : List Int → Option (α × List Int)) (bs : List Int) : Option (List α × List Int) := (rdn size bs).bind fun n => decN dec n.1.toNat n.2
section
variable {α : Type} {dec : List Int → Option (α × List Int)}
/-- From l on. -/
def decFrom (dec : List Int → Option (α × List Int)) (l : List α) (n : Nat) (bs : List Int) : Option (List α × List Int) := (decN dec n bs).bind fun r => some (l ++ r.1, r.2)
theorem decFrom_nil (n : Nat) (bs : List Int) : decFrom dec [] n bs = decN dec n bs := by
  unfold decFrom
  cases decN dec n bs <;> rfl
theorem decFrom_zero (l : List α) (bs : List Int) : decFrom dec l 0 bs = some (l, bs) := by
  unfold decFrom decN
  simp
theorem decFrom_some {l : List α} {n : Nat} {bs rest : List Int} {v : α} (h : dec bs = some (v, rest)) : decFrom dec l (n + 1) bs = decFrom dec (l ++ [v]) n rest := by
  unfold decFrom
  rw [decN, h, Option.bind_some]
  cases decN dec n rest <;> simp
theorem decFrom_none {l : List α} {n : Nat} {bs : List Int} (h : dec bs = none) : decFrom dec l (n + 1) bs = none := by
  unfold decFrom
  rw [decN, h]
  rfl
end
theorem flat_take {ys : List (List Int)} {k : Nat} (h : k < ys.length) : (ys.take (k + 1)).flatten = (ys.take k).flatten ++ ys.getD k [] := by
  have e : ys.getD k [] = ys[k] := by simp [h]
  rw [List.take_succ_eq_append_getElem h, List.flatten_append, e]
  simp
theorem flat_le (ys : List (List Int)) (k : Nat) : (ys.take k).flatten.length ≤ ys.flatten.length := by
  have h : ys.flatten.length = (ys.take k).flatten.length + (ys.drop k).flatten.length := by
    rw [← List.length_append, ← List.flatten_append, List.take_append_drop]
  omega
end Im
namespace Go.Proofs.Ytghomofakpjglaa
open Go.RowKit Go.Shelf
set_option linter.unusedVariables false
set_option linter.unusedSimpArgs false

/-- All variables that hold bytes stay, but two. -/
def VarK (Bb P : Nat) (w w' : World) : Prop := ∀ g cs, Box w g 36 cs → g ≠ Bb → g ≠ P → Box w' g 36 cs
section
variable {b Bb P L : Nat} {w w' w'' : World}
theorem VarK.refl (w : World) : VarK Bb P w w := fun _ _ h _ _ => h
theorem VarK.trans (h : VarK Bb P w w') (k : VarK Bb P w' w'') : VarK Bb P w w'' := fun g cs hg h1 h2 => k g cs (h g cs hg h1 h2) h1 h2
theorem VarK.call (h : VarK Bb P w w') (hb : Below w'.heap.size w' w'') : VarK Bb P w w'' := fun g cs hg h1 h2 => (h g cs hg h1 h2).below hb (h g cs hg h1 h2).lt
theorem VarK.wrote (h : VarK Bb P w w') (k : Wrote b Bb w' w'') : VarK Bb P w w'' := fun g cs hg h1 h2 => (h g cs hg h1 h2).wrote k h1 (by decide)
theorem VarK.put (h : VarK Bb P w w') (i : Nat) (u : Value) : VarK Bb P w (w'.setCell ⟨P, i, none⟩ u) := fun g cs hg h1 h2 => (h g cs hg h1 h2).far (p := ⟨P, i, none⟩) h2 u
theorem VarK.fresh (h : VarK Bb P w w') (k : VarK Bb L w' w'') (hL : w.heap.size ≤ L) : VarK Bb P w w'' := fun g cs hg h1 h2 => k g cs (h g cs hg h1 h2) h1 (by have := hg.lt; omega)
end
/-- What the layout of one element does, when it writes: its bytes come behind the others; the element may be another one then. -/
def EachW (fe : Nat) (T : TypeId) (sz : Nat) (C : List Value) (ys : List (List Int)) (b Bb Bp : Nat) (w : World) : Prop :=
  ∀ (k S : Nat) (X : World) (Y : Array Value) (bs : List Int), k < ys.length → Below b w X → b ≤ S → Wr b Bb Bp bs X → bs.length + (ys.getD k []).length ≤ 65536 → Box X S T Y → (∀ j, j < sz → Y[k * sz + j]? = C[k * sz + j]?) →
    Calls Try.prog fe #[.func (.func 73) #[] #[.pointer (some ⟨Bp, 0, none⟩)], .pointer (some ⟨S, k * sz, none⟩)] X fun e w' => e = .returned (.tuple #[]) ∧ Wr b Bb Bp (bs ++ ys.getD k []) w' ∧ Below b X w' ∧ Kb S X w' ∧ VarK Bb S X w' ∧ ∃ Y', Box w' S T Y' ∧ Y'.size = Y.size ∧ ∀ j, (j < k * sz ∨ k * sz + sz ≤ j) → Y'[j]? = Y[j]?
/-- What the layout of one element does, when it reads. -/
def EachR {α : Type} (fe : Nat) (T : TypeId) (sz : Nat) (zc : List Value) (dec : List Int → Option (α × List Int)) (Good : World → α → List Value → Prop) (b Bb Bp : Nat) (w : World) : Prop :=
  ∀ (k S : Nat) (X : World) (Y : Array Value) (bs : List Int), Im.IsBytes bs → Below b w X → b ≤ S → b ≤ X.heap.size → Rd b Bb Bp bs X → Box X S T Y → (∀ j, j < sz → Y[k * sz + j]? = zc[j]?) →
    Calls Try.prog fe #[.func (.func 76) #[] #[.pointer (some ⟨Bp, 0, none⟩)], .pointer (some ⟨S, k * sz, none⟩)] X fun e w' =>
      (∃ v rest C, dec bs = some (v, rest) ∧ e = .returned (.tuple #[]) ∧ Im.IsBytes rest ∧ Rd b Bb Bp rest w' ∧ Rk b Bb S X w' ∧ C.length = sz ∧ Good w' v C ∧ ∃ Y', Box w' S T Y' ∧ Im.Patch Y (k * sz) C Y') ∨
      (dec bs = none ∧ Pan e ∧ Rk b Bb S X w')
/-- The elements of a list that was read, one by one. -/
def AllGood {α : Type} (sz : Nat) (Good : α → List Value → Prop) : List α → List (List Value) → Prop
  | [], [] => True
  | v :: l, C :: Cs => C.length = sz ∧ Good v C ∧ AllGood sz Good l Cs
  | _, _ => False
section
variable {α : Type} {sz : Nat} {Good Good' : α → List Value → Prop}
theorem AllGood.snoc : ∀ {l : List α} {Cs : List (List Value)}, AllGood sz Good l Cs → ∀ {v : α} {C : List Value}, C.length = sz → Good v C → AllGood sz Good (l ++ [v]) (Cs ++ [C])
  | [], [], _, v, C, h1, h2 => ⟨h1, h2, trivial⟩
  | _ :: _, _ :: _, h, v, C, h1, h2 => ⟨h.1, h.2.1, h.2.2.snoc h1 h2⟩
  | [], _ :: _, h, _, _, _, _ => h.elim
  | _ :: _, [], h, _, _, _, _ => h.elim
theorem AllGood.mono (hG : ∀ v C, Good v C → Good' v C) : ∀ {l : List α} {Cs : List (List Value)}, AllGood sz Good l Cs → AllGood sz Good' l Cs
  | [], [], _ => trivial
  | _ :: _, _ :: _, h => ⟨h.1, hG _ _ h.2.1, h.2.2.mono hG⟩
  | [], _ :: _, h => h.elim
  | _ :: _, [], h => h.elim
theorem AllGood.len : ∀ {l : List α} {Cs : List (List Value)}, AllGood sz Good l Cs → Cs.length = l.length ∧ Cs.flatten.length = l.length * sz
  | [], [], _ => ⟨rfl, by simp⟩
  | _ :: l, _ :: Cs, h => by
    have := h.2.2.len
    refine ⟨by simp [this.1], ?_⟩
    rw [List.flatten_cons, List.length_append, h.1, this.2, List.length_cons, Nat.add_mul]; omega
  | [], _ :: _, h => h.elim
  | _ :: _, [], h => h.elim
end
/-- What is left behind a list. -/
def GotL {α : Type} (T : TypeId) (sz : Nat) (D : Option (List α × List Int)) (Good : World → α → List Value → Prop) (b Bb Bp P o : Nat) (t : TypeId) (cs : Array Value) (w : World) (e : Ending) (w' : World) : Prop :=
  (∃ l rest S Cs, D = some (l, rest) ∧ e = .returned (.tuple #[]) ∧ Im.IsBytes rest ∧ Rd b Bb Bp rest w' ∧ Rk b Bb P w w' ∧ w.heap.size ≤ S ∧ Box w' P t (cs.setIfInBounds o (.slice (some ⟨S, 0, none⟩) l.length l.length)) ∧ Box w' S T Cs.flatten.toArray ∧ AllGood sz (Good w') l Cs) ∨
  (D = none ∧ Pan e ∧ Rk b Bb P w w' ∧ Box w' P t cs)
theorem Im.Patch.snoc {Y Y' : Array Value} {Cs : List (List Value)} {z C : List Value} {n k sz : Nat} (h : Im.Patch Y (k * sz) C Y') (hY : ∀ j, Y[j]? = if j < k * sz then Cs.flatten[j]? else if j < n * sz then z[j % sz]? else none) (hC : C.length = sz) (hk : k < n) (hl : Cs.flatten.length = k * sz) : ∀ j, Y'[j]? = if j < (k + 1) * sz then (Cs ++ [C]).flatten[j]? else if j < n * sz then z[j % sz]? else none := fun j => by
  have e : (k + 1) * sz = k * sz + sz := by rw [Nat.add_mul]; omega
  have e2 : (Cs ++ [C]).flatten = Cs.flatten ++ C := by simp
  have hkn : (k + 1) * sz ≤ n * sz := Nat.mul_le_mul_right _ hk
  rw [h j, e, e2, hC]
  by_cases h1 : j < k * sz
  · rw [if_neg (by omega), if_pos (by omega), hY j, if_pos h1, List.getElem?_append_left (by omega)]
  · by_cases h2 : j < k * sz + sz
    · rw [if_pos (by omega), if_pos h2, List.getElem?_append_right (by omega), hl]
    · rw [if_neg (by omega), if_neg (by omega), hY j, if_neg h1]
theorem made_rows (z : Array Value) (n : Nat) (hz : 0 < z.size) : ∀ j, (madeCells z (n * z.size))[j]? = if j < 0 * z.size then ([] : List (List Value)).flatten[j]? else if j < n * z.size then z.toList[j % z.size]? else none := fun j => by
  rw [if_neg (by omega)]
  by_cases hj : j < n * z.size
  · rw [if_pos hj]
    unfold madeCells
    rw [Array.getElem?_map, Array.getElem?_range, if_pos hj]
    have h2 := Nat.mod_lt j hz
    simp [h2]
  · rw [if_neg hj]
    exact Array.getElem?_eq_none (by rw [size_madeCells]; omega)
end Go.Proofs.Ytghomofakpjglaa
namespace Go.Proofs.Ytghomofakpjglaa
open Go.RowKit Go.Shelf
set_option linter.unusedVariables false
set_option linter.unusedSimpArgs false

theorem zsh_infoZ : (Try.prog.info? 88).map (fun i => (i.zero, i.size, i.bytes)) = some (some (Value.agg #[.int .i64 0, .int .i32 0, .int .i32 0, .int .i32 0, .int .i32 0, .int .i64 0]), 6, 32) := by kernel_rfl
theorem zsh_sz : (Try.prog.info? 88).map (·.size) = some 6 := by kernel_rfl

set_option maxRecDepth 100000 in
set_option maxHeartbeats 4000000 in
theorem listzsh_w (C : List Value) (ys : List (List Int)) (n : Nat) (A : Option Addr) (c size : Nat) (z : Int) (hz : z = size) (P o : Nat) (t : TypeId) (cs : Array Value) (bs : List Int) (b Bb Bp : Nat) (w : World) (hn : ys.length = n) (hn16 : n ≤ 4096) (hs : size ≤ 8) (hbB : b ≤ Bb) (hbP : b ≤ P) (hbw : b ≤ w.heap.size) (h : Wr b Bb Bp bs w) (hl : bs.length + size + ys.flatten.length ≤ 65536) (hP : Box w P t cs)
    (ho : cs[o]? = some (.slice A n c)) (hL : Lies w b 6 A n C) (hone : ∀ u ∈ C, u.oneCell' = true) (h1 : t ≠ 36) (h2 : t ≠ 5) (h3 : t ≠ 82) (hc : EachW 71 88 6 C ys b Bb Bp w) :
    Calls Try.prog 70 #[.func (.func 73) #[] #[.pointer (some ⟨Bp, 0, none⟩)], .int .i64 z, .pointer (some ⟨P, o, none⟩), .func (.func 71) #[] #[]] w fun e w' => e = .returned (.tuple #[]) ∧ Wr b Bb Bp (bs ++ (Im.bytesOf size n ++ ys.flatten)) w' ∧ Below b w w' ∧ Kb P w w' ∧ VarK Bb P w w' ∧ ∃ S, Box w' P t (cs.setIfInBounds o (.slice (some ⟨S, 0, none⟩) n n)) := by
  subst hz
  have k0 := hP.cell o
  rw [ho] at k0
  have ltP := hP.lt
  have hwn : IntKind.u64.wrap (n : Int) = n := by rw [IntKind.wrap_u64]; omega
  have HL := Lib.hid (Box.made w 3 #[.int .i64 n])
  have HPA := Lib.hid (hP.alloc (.cells #[.int .i64 n] 3))
  have HA := Lib.hid (h.alloc (.cells #[.int .i64 n] 3))
  have WA := Lib.hid ((Wrote.refl hbB w).alloc (.cells #[.int .i64 n] 3))
  have KA := Lib.hid ((Kb.refl (B := P) w).call (one_below w (.cells #[.int .i64 n] 3)))
  have VA := Lib.hid ((VarK.refl (Bb := Bb) (P := P) w).call (one_below w (.cells #[.int .i64 n] 3)))
  have c1 := Lib.hid (layint_w size size rfl n w.heap.size 0 3 #[.int .i64 n] bs b Bb Bp _ hs (by omega) hbB HA.out (by omega) HL.out rfl (by decide) (by decide) (by decide))
  rw [hwn] at c1
  have hvar := Lib.hid HA.out.isvar
  have HO := Lib.hid ho
  have HLs := Lib.hid hL
  obtain ⟨i0, hi0, hz0, hz1, hz2⟩ := info_parts zsh_infoZ
  obtain ⟨Z, hZ⟩ : ∃ Z, Z = madeCells (Value.agg #[.int .i64 0, .int .i32 0, .int .i32 0, .int .i32 0, .int .i32 0, .int .i64 0]).cells (n * 6) := ⟨_, rfl⟩
  have hZs : Z.size = n * 6 := by rw [hZ, size_madeCells]
  have hCs : C.length = n * 6 := hL.len
  have hmk : ∀ W : World, (Instr.makeSlice 26 (.int .i64 (n : Int)) (.int .i64 (n : Int))).run Try.prog W = .ok (.slice (some ⟨W.heap.size, 0, none⟩) n n) (W.alloc (.cells Z 88)) := fun W => by
    have := run_make (P := Try.prog) W 26 88 i0 _ Try.underlying26 hi0 hz0 .i64 .i64 n n (by omega) (Int.le_refl _) (by rw [hz2]; omega) (by omega)
    rw [this, hZ, hz1, Int.toNat_natCast]
  have hcp : ∀ W : World, Lies W W.heap.size 6 A n C → (Builtin.copy_ #[26, 26] 3 #[.slice (some ⟨W.heap.size, 0, none⟩) n n, .slice A n c]).run Try.prog (W.alloc (.cells Z 88)) = .ok (.int .i64 n) (W.alloc (.cells C.toArray 88)) := fun W hW => by
    cases A with
    | none =>
      have hn0 : n = 0 := by
        by_cases h0 : n = 0
        · exact h0
        · obtain ⟨ad, e, _⟩ := hW.start h0
          cases e
      have hl0 : C = [] := List.eq_nil_of_length_eq_zero (by omega)
      have hz : Z = #[] := Array.eq_empty_of_size_eq_zero (by omega)
      have := run_copy_nought (P := Try.prog) (W.alloc (.cells Z 88)) 26 26 3 88 ⟨W.heap.size, 0, none⟩ n n c Try.underlying26 (by rw [Option.isSome_map]; rw [hi0]; rfl)
      rw [hn0] at this ⊢
      rw [hl0]
      rw [hz] at this ⊢
      simpa [goInt] using this
    | some ad =>
      have hc : ∀ j v, C[j]? = some v → (W.alloc (.cells Z 88)).cell? (ad.add j) = some v := fun j v hv => by
        have hn0 : n ≠ 0 := fun e => by
          have := (List.getElem?_eq_some_iff.1 hv).1
          omega
        exact (hW.below (one_below W (.cells Z 88))).cell ad rfl hn0 j v hv
      have := run_copy_rows (P := Try.prog) (W.alloc (.cells Z 88)) 26 26 3 88 6 W.heap.size n n ad n c Z 88 C Try.underlying26 zsh_sz (Box.made W _ _).is (by rw [hW.len]; simp) hc (by rw [hW.len, hZs]) hone
      rw [World.setRow_alloc_new] at this
      simpa [goInt] using this
  have NL := Lib.hid hn
  have HC := Lib.hid hc
  have HCS := Lib.hid hCs
  clear h hP ho hL hZ hn hc hCs
  go_enter Try.func70, Try.ntmps70
  go_upto_region 2 with (go_at_call 67; ((with_reducible refine (c1.out).mono ?_); rintro e w1 ⟨rfl, hI1, hK1⟩; have L1 := HL.out.wrote' hK1 hvar.out (by decide) (by decide); have l1 := L1.cell 0; have P1 := Lib.hid (HPA.out.wrote' hK1 hvar.out h1 h2); have I1 := Lib.hid hI1; have K1 := Lib.hid (WA.out.trans hK1); have B1 := Lib.hid (KA.out.wrote hK1 hvar.out); have V1 := Lib.hid (VA.out.wrote hK1); clear hI1 hK1 L1 k0))
  have lw1 := (HLs.out.below (K1.out.to hbw))
  have hcpw := hcp w1 (lw1.wider (Nat.le_trans hbw K1.out.size))
  have p58 : ∀ x, (w1.alloc x).cell? ⟨P, o, none⟩ = some (.slice A n c) := fun x => ((P1.out.alloc x).cell o).trans HO.out
  have sz1 : w.heap.size ≤ w1.heap.size := K1.out.size
  clear hcp lw1 HLs HL HPA HA WA KA VA c1
  go_upto_region 4 with fail
  obtain ⟨U, hU⟩ : ∃ U, U = w1.alloc (.cells C.toArray 88) := ⟨_, rfl⟩
  have PU : Box U P t cs := by rw [hU]; exact P1.out.alloc _
  have SU : Box U w1.heap.size 88 C.toArray := by rw [hU]; exact Box.made w1 _ _
  have IU : Wr b Bb Bp (bs ++ Im.bytesOf size n) U := by rw [hU]; exact I1.out.alloc _
  have BU : Below b w U := by rw [hU]; exact (K1.out.to hbw).alloc (Nat.le_trans hbw sz1) _
  have KU : Kb P w U := by rw [hU]; exact B1.out.call (one_below _ _)
  have VU : VarK Bb P w U := by rw [hU]; exact V1.out.call (one_below _ _)
  have hSP : w1.heap.size ≠ P := by have := P1.out.lt; omega
  have hbS : b ≤ w1.heap.size := Nat.le_trans hbw sz1
  have hSw : w.heap.size ≤ w1.heap.size := sz1
  rw [← hU]
  generalize w1.heap.size = S at *
  have IU := Lib.hid IU
  have PU := Lib.hid PU
  have SU := Lib.hid SU
  have BU := Lib.hid BU
  have KU := Lib.hid KU
  have VU := Lib.hid VU
  clear hU I1 K1 P1 B1 V1 p58 hcpw hmk l1 hvar sz1
  go_upto_region 5 with fail
  go_loopw [10, 27] (fun _ i wr => ∃ k : Nat, k ≤ n ∧ i = .int .i64 k ∧ Wr b Bb Bp (bs ++ Im.bytesOf size n ++ (ys.take k).flatten) wr ∧ Below b U wr ∧ Kb S U wr ∧ VarK Bb S U wr ∧ ∃ Y, Box wr S 88 Y ∧ Y.size = C.length ∧ ∀ j, k * 6 ≤ j → Y[j]? = C[j]?) (fun _ i _ => n - (intOf i).toNat)
  case atStart => exact ⟨0, by omega, rfl, by simpa using IU.out, Below.refl _ _, Kb.refl _, VarK.refl _, _, SU.out, by simp, fun j _ => by simp⟩
  case round =>
    obtain ⟨k, hk, rfl, hI, hB, hK, hVK, Y, hY, hYs, hYc⟩ := hrel
    by_cases hlt : k < n
    · have hk8 : (k : Int) < n := by omega
      have hkl : k < ys.length := by have := NL.out; omega
      have ht := Im.flat_take hkl
      have hle := Im.flat_le ys (k + 1)
      rw [ht, List.length_append] at hle
      have HT := Lib.hid ht
      have cc := Lib.hid (HC.out k S wr Y (bs ++ Im.bytesOf size n ++ (ys.take k).flatten) hkl (BU.out.trans hB) hbS hI (by rw [List.length_append, List.length_append, Im.bytesOf_len]; omega) hY (fun j hj => hYc _ (by omega)))
      have HB := Lib.hid hB
      have HK := Lib.hid hK
      have HVK := Lib.hid hVK
      have HYs := Lib.hid hYs
      have HYc := Lib.hid hYc
      clear ht hle hI hB hK hVK hYs hYc hY
      go_wp2_with (go_at_call 71; ((with_reducible refine (cc.out).mono ?_); rintro e w3 ⟨rfl, hI, hB, hK, hVK, Y', hY, hYs, hYc⟩; have V3 := Lib.hid (HVK.out.trans hVK); have I3 := Lib.hid hI; have B3 := Lib.hid (HB.out.trans hB); have K3 := Lib.hid (HK.out.trans hK); have Y3 := Lib.hid hY; have Z3 := Lib.hid (hYs.trans HYs.out); have C3 := Lib.hid hYc; clear hI hB hK hVK hY hYs hYc))
      go_roundw
      case rel => exact ⟨k + 1, by omega, by go_num, by rw [HT.out, ← List.append_assoc]; exact I3.out, B3.out, K3.out, V3.out, Y', Y3.out, Z3.out, fun j hj => by rw [C3.out j (by omega)]; exact HYc.out j (by omega)⟩
      case measure => simp [intOf]; omega
    · have hk8 : ¬ (k : Int) < n := by omega
      obtain rfl : k = n := by omega
      have ht : ys.take k = ys := List.take_of_length_le (by have := NL.out; omega)
      rw [ht] at hI
      have HI := Lib.hid hI
      have HK := Lib.hid hK
      have HB := Lib.hid hB
      have HVK := Lib.hid hVK
      have PW := Lib.hid (hK P t cs PU.out hSP.symm h1 h2)
      have pc : wr.cell? ⟨P, o, none⟩ = some (.slice A k c) := (PW.out.cell o).trans HO.out
      have pf : wr.frozen? ⟨P, o, none⟩ = false := PW.out.free o
      clear hI hK hB hVK hY hYs hYc
      go_wp2
      go_end0
      exact ⟨rfl, by rw [← List.append_assoc]; exact HI.out.off (p := ⟨P, o, none⟩) PW.out h3 h1 h2 _, (BU.out.trans HB.out).setCell hbP _, (KU.out.fresh HK.out hSw).put o _, (VU.out.fresh HVK.out hSw).put o _, S, PW.out.put o _⟩

set_option maxRecDepth 100000 in
set_option maxHeartbeats 4000000 in
theorem listzsh_r {α : Type} (dec : List Int → Option (α × List Int)) (Good : World → α → List Value → Prop) (size : Nat) (z : Int) (hz : z = size) (P o : Nat) (t : TypeId) (cs : Array Value) (bs : List Int) (b Bb Bp : Nat) (w : World) (hBy : Im.IsBytes bs) (hs : 1 ≤ size ∧ size ≤ 2) (hbB : b ≤ Bb) (hbP : b ≤ P) (hbw : b ≤ w.heap.size) (h : Rd b Bb Bp bs w) (hP : Box w P t cs)
    (ho : cs[o]? = some (.slice none 0 0)) (h1 : t ≠ 36) (h2 : t ≠ 5) (h3 : t ≠ 82)
    (hG1 : ∀ X X' S Y v C, Box X S 88 Y → Kb S X X' → Good X v C → Good X' v C) (hG2 : ∀ X X' Y v C, Box X P t Y → Kb P X X' → Good X v C → Good X' v C)
    (hc : EachR 71 88 6 (Value.agg #[.int .i64 0, .int .i32 0, .int .i32 0, .int .i32 0, .int .i32 0, .int .i64 0]).cells.toList dec Good b Bb Bp w) :
    Calls Try.prog 70 #[.func (.func 76) #[] #[.pointer (some ⟨Bp, 0, none⟩)], .int .i64 z, .pointer (some ⟨P, o, none⟩), .func (.func 71) #[] #[]] w (GotL 88 6 (Im.decL size dec bs) Good b Bb Bp P o t cs w) := by
  subst hz
  have k0 := hP.cell o
  rw [ho] at k0
  have ltP := hP.lt
  have HPA := Lib.hid (hP.alloc (.cells #[.int .i64 0] 3))
  have HKA := Lib.hid (Rk.alloc (w := w) (Bb := Bb) (P := P) hbw (.cells #[.int .i64 0] 3))
  have c1 := Lib.hid (part_int size size rfl 0 w.heap.size 0 3 #[.int .i64 0] bs b Bb Bp _ (by omega) hBy hbB hbw (by simp <;> omega) (h.call (one_below w (.cells #[.int .i64 0] 3)) hbw) (Box.made w 3 #[.int .i64 0]) rfl (by decide) (by decide) (by decide))
  obtain ⟨i0, hi0, hz0, hz1, hz2⟩ := info_parts zsh_infoZ
  have hmk : ∀ (n : Nat), n < 65536 → ∀ W : World, (Instr.makeSlice 26 (.int .i64 (n : Int)) (.int .i64 (n : Int))).run Try.prog W = .ok (.slice (some ⟨W.heap.size, 0, none⟩) n n) (W.alloc (.cells (madeCells (Value.agg #[.int .i64 0, .int .i32 0, .int .i32 0, .int .i32 0, .int .i32 0, .int .i64 0]).cells (n * 6)) 88)) := fun n hn W => by
    have := run_make (P := Try.prog) W 26 88 i0 _ Try.underlying26 hi0 hz0 .i64 .i64 n n (by omega) (Int.le_refl _) (by rw [hz2]; omega) (by omega)
    rw [this, hz1, Int.toNat_natCast]
  have hcp : ∀ (n : Nat) (Z : Array Value) (W : World), (Builtin.copy_ #[26, 26] 3 #[.slice (some ⟨W.heap.size, 0, none⟩) n n, .slice none 0 0]).run Try.prog (W.alloc (.cells Z 88)) = .ok (.int .i64 0) (W.alloc (.cells Z 88)) := fun n Z W => by
    have := run_copy_nought (P := Try.prog) (W.alloc (.cells Z 88)) 26 26 3 88 ⟨W.heap.size, 0, none⟩ n n 0 Try.underlying26 (by rw [Option.isSome_map]; rw [hi0]; rfl)
    simpa [goInt] using this
  have HO := Lib.hid ho
  have HB := Lib.hid hbP
  have HW := Lib.hid hbw
  have HY := Lib.hid hBy
  have HC := Lib.hid hc
  have G1 := Lib.hid hG1
  have G2 := Lib.hid hG2
  have HS := Lib.hid hs
  clear h hP ho hBy hc hG1 hG2 hs
  go_enter Try.func70, Try.ntmps70
  go_upto_region 2 with (go_at_call 67; ((with_reducible refine (c1.out).mono ?_); rintro r w1 (⟨m, r1, hr, rfl, hI, hK, hB1⟩ | ⟨hn, ⟨ss, rfl⟩, hK, cs', hB1, hs⟩); (all_goals first | (have R1 := Lib.hid hr; have Y1 := Lib.hid (Im.rdn_inv HY.out hr); have l1 := hB1.cell 0; have P1 := Lib.hid (hK.kb _ _ _ HPA.out (by omega) h1 h2); have I1 := Lib.hid hI; have K1 := Lib.hid (HKA.out.local hK (Nat.le_refl _)); clear hr hI hK hB1 c1 k0) | (have N1 := Lib.hid hn; have F1 := Lib.hid (HKA.out.local hK (Nat.le_refl _)); have Q1 := Lib.hid (hK.kb _ _ _ HPA.out (by omega) h1 h2); clear hn hK hB1 hs c1 k0))))
  rotate_left
  · refine ⟨rfl, .inr ⟨?_, ⟨_, rfl⟩, F1.out, Q1.out⟩⟩
    unfold Im.decL
    rw [N1.out, Option.bind_none]
  obtain ⟨n, hmn⟩ : ∃ n : Nat, m = n := ⟨m.toNat, by have := Y1.out.2.1; omega⟩
  subst hmn
  have hn256 : n < 65536 := by
    have h1 := Y1.out.2.2.1
    have h2 : (2 : Int) ^ (8 * size) ≤ 2 ^ 16 := by
      have := Nat.pow_le_pow_right (show 0 < 2 by decide) (show 8 * size ≤ 16 by have := HS.out; omega)
      exact_mod_cast this
    omega
  have HDE := Lib.hid (show Im.decL size dec bs = Im.decFrom dec [] n r1 by unfold Im.decL; rw [R1.out, Option.bind_some, Int.toNat_natCast, Im.decFrom_nil])
  simp only [List.getElem?_toArray, Array.setIfInBounds, List.size_toArray, List.length_cons, List.length_nil, Nat.zero_add, Nat.lt_add_one, dite_true, List.set_toArray, List.set_cons_zero, List.getElem?_cons_zero] at l1
  have hmkn := hmk n hn256
  obtain ⟨Z, hZ⟩ : ∃ Z, Z = madeCells (Value.agg #[.int .i64 0, .int .i32 0, .int .i32 0, .int .i32 0, .int .i32 0, .int .i64 0]).cells (n * 6) := ⟨_, rfl⟩
  rw [← hZ] at hmkn
  have HZ := Lib.hid (show ∀ j, Z[j]? = if j < 0 * 6 then ([] : List (List Value)).flatten[j]? else if j < n * 6 then (Value.agg #[.int .i64 0, .int .i32 0, .int .i32 0, .int .i32 0, .int .i32 0, .int .i64 0]).cells.toList[j % 6]? else none from by rw [hZ]; exact made_rows (Value.agg #[.int .i64 0, .int .i32 0, .int .i32 0, .int .i32 0, .int .i32 0, .int .i64 0]).cells n (by decide))
  have hcpw := hcp n Z w1
  have p58 : ∀ x, (w1.alloc x).cell? ⟨P, o, none⟩ = some (.slice none 0 0) := fun x => ((P1.out.alloc x).cell o).trans HO.out
  have s1 := Nat.le_trans HW.out K1.out.below.size
  have sz1 := K1.out.below.size
  clear hcp HPA HKA hmk hZ
  go_upto_region 4 with fail
  obtain ⟨U, hU⟩ : ∃ U, U = w1.alloc (.cells Z 88) := ⟨_, rfl⟩
  have PU := Lib.hid (show Box U P t cs by (rw [hU]; exact P1.out.alloc _))
  have SU := Lib.hid (show Box U w1.heap.size 88 Z by (rw [hU]; exact Box.made w1 _ _))
  have IU := Lib.hid (show Rd b Bb Bp r1 U by (rw [hU]; exact I1.out.call (one_below w1 _) s1))
  have KU := Lib.hid (show Rk b Bb P w U by (rw [hU]; exact K1.out.trans (Rk.alloc (w := w1) (Bb := Bb) (P := P) s1 _)))
  have hSB : Hid (w1.heap.size ≠ P) := Lib.hid (by have := P1.out.lt; omega)
  have hSw : Hid (b ≤ w1.heap.size) := Lib.hid s1
  have hSz : Hid (w.heap.size ≤ w1.heap.size) := Lib.hid sz1
  rw [← hU]
  generalize w1.heap.size = S at *
  clear hU I1 K1 P1 p58 hcpw hmkn l1 s1 sz1
  have hbU : b ≤ U.heap.size := Nat.le_trans HW.out KU.out.below.size
  go_upto_region 5 with fail
  go_loopw [10, 27] (fun _ i wr => ∃ (k : Nat) (l : List α) (Cs : List (List Value)) (bs' : List Int), k ≤ n ∧ i = .int .i64 k ∧ l.length = k ∧ Im.IsBytes bs' ∧ Im.decFrom dec [] n r1 = Im.decFrom dec l (n - k) bs' ∧ Rd b Bb Bp bs' wr ∧ Rk b Bb S U wr ∧ AllGood 6 (Good wr) l Cs ∧ ∃ Y, Box wr S 88 Y ∧ ∀ j, Y[j]? = if j < k * 6 then Cs.flatten[j]? else if j < n * 6 then (Value.agg #[.int .i64 0, .int .i32 0, .int .i32 0, .int .i32 0, .int .i32 0, .int .i64 0]).cells.toList[j % 6]? else none) (fun _ i _ => n - (intOf i).toNat)
  case atStart => exact ⟨0, [], [], r1, by omega, rfl, rfl, Y1.out.2.2.2, rfl, IU.out, Rk.refl _ _ _ _, trivial, Z, SU.out, HZ.out⟩
  case round =>
    obtain ⟨k, l, Cs, bs', hk, rfl, hlen, hy, hdec, hI, hK, hA, Y, hB, hYc⟩ := hrel
    by_cases hlt : k < n
    · have hk8 : (k : Int) < n := by omega
      rw [show n - k = (n - (k + 1)) + 1 by omega] at hdec
      have hwy : b ≤ wr.heap.size := Nat.le_trans hbU hK.below.size
      have hkn : (k + 1) * 6 ≤ n * 6 := Nat.mul_le_mul_right _ hlt
      have cc := Lib.hid (HC.out k S wr Y bs' hy (KU.out.below.trans hK.below) hSw.out hwy hI hB (fun j hj => by rw [hYc, if_neg (by omega), if_pos (by omega)]; congr 1; omega))
      have HNX := Lib.hid hdec
      have HLEN := Lib.hid hlen
      have K2 := Lib.hid hK
      have HA := Lib.hid hA
      have HBX := Lib.hid hB
      have HYC := Lib.hid hYc
      clear hI hK hB hdec hlen hy hwy hA hYc hkn
      go_wp2_with (go_at_call 71; ((with_reducible refine (cc.out).mono ?_); rintro e w3 (⟨v, r3, C, hr, rfl, hy, hI, hK, hCl, hG, Y', hB, hP⟩ | ⟨hn, ⟨ss, rfl⟩, hK⟩); (all_goals first | (have R3 := Lib.hid hr; have Y3 := Lib.hid hy; have I3 := Lib.hid hI; have K3 := Lib.hid (K2.out.trans hK); have A3 := Lib.hid ((HA.out.mono (fun v C => G1.out wr w3 S Y v C HBX.out hK.kb)).snoc hCl hG); have B3 := Lib.hid hB; have Z3 := Lib.hid (Im.Patch.snoc hP HYC.out hCl hlt (by rw [HA.out.len.2, HLEN.out])); clear hr hy hI hK hCl hG hB hP) | (have N3 := Lib.hid hn; have F3 := Lib.hid (K2.out.trans hK); clear hn hK))))
      · go_roundw
        case rel => exact ⟨k + 1, l ++ [v], Cs ++ [C], r3, by omega, by go_num, by rw [List.length_append, HLEN.out]; rfl, Y3.out, by rw [HNX.out, Im.decFrom_some R3.out], I3.out, K3.out, A3.out, Y', B3.out, Z3.out⟩
        case measure => simp [intOf]; omega
      · refine ⟨rfl, .inr ⟨?_, ⟨_, rfl⟩, KU.out.local F3.out hSz.out, F3.out.kb _ _ _ PU.out hSB.out.symm h1 h2⟩⟩
        rw [HDE.out, HNX.out, Im.decFrom_none N3.out]
    · have hk8 : ¬ (k : Int) < n := by omega
      obtain rfl : k = n := by omega
      rw [Nat.sub_self, Im.decFrom_zero] at hdec
      have HI := Lib.hid hI
      have HK := Lib.hid hK
      have HDX := Lib.hid hdec
      have HL := Lib.hid hlen
      have HYY := Lib.hid hy
      have PW := Lib.hid (hK.kb _ _ _ PU.out hSB.out.symm h1 h2)
      have pc : wr.cell? ⟨P, o, none⟩ = some (.slice none 0 0) := (PW.out.cell o).trans HO.out
      have pf : wr.frozen? ⟨P, o, none⟩ = false := PW.out.free o
      have eY : Y = Cs.flatten.toArray := by
        apply Array.ext_getElem?
        intro j
        have hl2 := hA.len.2
        rw [hYc j]
        by_cases hj : j < k * 6
        · rw [if_pos hj, List.getElem?_toArray]
        · rw [if_neg hj, if_neg hj, List.getElem?_toArray, List.getElem?_eq_none (by rw [hl2, hlen]; omega)]
      have HA := Lib.hid hA
      rw [eY] at hB
      have HBX := Lib.hid hB
      clear hI hK hB hdec hlen hy hA hYc eY
      go_wp2
      go_end0
      refine .inl ⟨l, bs', S, Cs, by rw [HDE.out, HDX.out], rfl, HYY.out, HI.out.off (p := ⟨P, o, none⟩) PW.out h3 h1 HB.out _, ?_, hSz.out, ?_, HBX.out.far hSB.out _, HA.out.mono fun v C => G2.out wr _ cs v C PW.out ((Kb.refl wr).put o _)⟩
      · exact (KU.out.local HK.out hSz.out).put HB.out o _
      · rw [HL.out]; exact PW.out.put o _
end Go.Proofs.Ytghomofakpjglaa
namespace Go.Proofs.Ytghomofakpjglaa
open Go.RowKit Go.Shelf
set_option linter.unusedVariables false
set_option linter.unusedSimpArgs false
set_option maxRecDepth 100000 in
set_option maxHeartbeats 4000000 in
theorem layshot_w (s : Gm.Shot) (hok : Gm.okShot s) (P o : Nat) (t : TypeId) (cs : Array Value) (bk : List Int) (b Bb Bp : Nat) (w : World) (hbB : b ≤ Bb) (h : Wr b Bb Bp bk w) (hl : bk.length + 18 ≤ 65536) (hP : Box w P t cs)
    (sc : ∀ j, j < 6 → cs[o + j]? = s.cells[j]?) (h1 : t ≠ 36) (h2 : t ≠ 5) (h3 : t ≠ 82) :
    Calls Try.prog 71 #[.func (.func 73) #[] #[.pointer (some ⟨Bp, 0, none⟩)], .pointer (some ⟨P, o, none⟩)] w fun e w' => e = .returned (.tuple #[]) ∧ Wr b Bb Bp (bk ++ Im.shot s) w' ∧ Wrote b Bb w w' := by
  obtain ⟨owner, x, y, vx, vy, left⟩ := s
  have s0 := sc 0 (by omega)
  have s1 := sc 1 (by omega)
  have s2 := sc 2 (by omega)
  have s3 := sc 3 (by omega)
  have s4 := sc 4 (by omega)
  have s5 := sc 5 (by omega)
  simp only [Gm.Shot.cells, List.getElem?_cons_zero, List.getElem?_cons_succ, Nat.add_zero] at s0 s1 s2 s3 s4 s5
  obtain ⟨w0, w1', ⟨w2, w2'⟩, ⟨w3, w3'⟩, ⟨w4, w4'⟩, ⟨w5, w5'⟩, w6, w6'⟩ := hok
  dsimp only at w0 w1' w2 w2' w3 w3' w4 w4' w5 w5' w6 w6'
  have HSN := Lib.hid (show bk ++ Im.shot ⟨owner, x, y, vx, vy, left⟩ = bk ++ Im.bytesOf 1 owner ++ Im.flight (fun k => match k with | 0 => x | 1 => y | 2 => vx | _ => vy) 4 ++ Im.bytesOf 1 left from (show ∀ a b c d : List Int, a ++ (b ++ (c ++ d)) = a ++ b ++ c ++ d from fun a b c d => by simp) _ _ _ _)
  have hwo : IntKind.u64.wrap owner = owner := by rw [IntKind.wrap_u64]; omega
  have hwl : IntKind.u64.wrap left = left := by rw [IntKind.wrap_u64]; omega
  have P2 := Lib.hid hP
  have IV2 := Lib.hid h.isvar
  have ltP := hP.lt
  have c3 := Lib.hid (layint_w 1 1 rfl owner P o t cs bk b Bb Bp w (by decide) (by omega) hbB h (by omega) P2.out s0 h1 h2 h3)
  rw [hwo] at c3
  have p2 := P2.out.cell
  clear sc h hwo hP
  go_enter Try.func71, Try.ntmps71
  go_upto_region 1 with (go_at_call 67; ((with_reducible refine (c3.out).mono ?_); rintro e w3 ⟨rfl, hI, hK⟩; have P3 := Lib.hid (P2.out.wrote' hK IV2.out h1 h2); have p3 := P3.out.cell; have IV3 := Lib.hid hI.isvar; have I3 := Lib.hid hI; have K3 := Lib.hid hK; clear hI hK))
  have lf := Im.flight_len (fun k => match k with | 0 => x | 1 => y | 2 => vx | _ => vy) 4
  have cf := fun X (hX : Wr b Bb Bp (bk ++ Im.bytesOf 1 owner) X) (hB : Box X P t cs) Bq hq => Lib.hid (layflight_w (fun k => match k with | 0 => x | 1 => y | 2 => vx | _ => vy) (fun j => o + 1 + j) P Bq t cs (bk ++ Im.bytesOf 1 owner) b Bb Bp X (fun k hk => by
    match k, hk with
    | 0, _ => exact (show -2147483648 ≤ x ∧ x ≤ 2147483647 by omega)
    | 1, _ => exact (show -2147483648 ≤ y ∧ y ≤ 2147483647 by omega)
    | 2, _ => exact (show -2147483648 ≤ vx ∧ vx ≤ 2147483647 by omega)
    | 3, _ => exact (show -2147483648 ≤ vy ∧ vy ≤ 2147483647 by omega)) hbB hX (by rw [List.length_append, Im.bytesOf_len]; omega) hB (fun k hk => by
    match k, hk with
    | 0, _ => exact s1
    | 1, _ => exact s2
    | 2, _ => exact s3
    | 3, _ => exact s4) h1 h2 h3 hq 4)
  refine Rp.wp_region_lex (by kernel_rfl) [] (by kernel_rfl) (· = w3.drew) (fun _ => True) (fun _ => True) rfl (fun W hW => ⟨trivial, trivial⟩) ?_
  repeat (first
    | (apply Rp.lex_free rfl rfl; focus (intro _; go_simp; first | done | rfl))
    | (apply Rp.lex_look rfl rfl rfl rfl; focus (intro W hW; clear hW; go_simp; first | done | rfl)))
  refine Rp.lex_make rfl (W' := w3.drew.alloc (.cells #[.pointer (some ⟨P, o + 1, none⟩), .pointer (some ⟨P, o + 2, none⟩), .pointer (some ⟨P, o + 3, none⟩), .pointer (some ⟨P, o + 4, none⟩)] 139)) (v := .slice (some ⟨w3.drew.heap.size, 0, none⟩) 4 4) ?_ ⟨trivial, trivial⟩ ?_
  focus (go_simp; first | done | rfl)
  refine Rp.lex_call (C' := fun Z => Wr b Bb Bp (bk ++ Im.bytesOf 1 owner ++ Im.flight (fun k => match k with | 0 => x | 1 => y | 2 => vx | _ => vy) 4) Z ∧ Wrote b Bb w Z ∧ Box Z P t cs) (v := .tuple #[]) (f := 89) (args := #[.func (.func 73) #[] #[.pointer (some ⟨Bp, 0, none⟩)], .slice (some ⟨w3.drew.heap.size, 0, none⟩) 4 4]) rfl ?_ ?_ ?_ ?_
  · intro Z hZ; clear hZ; go_simp; first | done | rfl | exact ⟨rfl, rfl⟩
  · intro Z hZ
    subst hZ
    have hW := (I3.out.call (one_below' w3)).alloc (.cells #[.pointer (some ⟨P, o + 1, none⟩), .pointer (some ⟨P, o + 2, none⟩), .pointer (some ⟨P, o + 3, none⟩), .pointer (some ⟨P, o + 4, none⟩)] 139)
    refine (cf _ hW (P3.out.drew.alloc _) w3.drew.heap.size (Box.made _ _ _)).out.mono ?_
    rintro e Z2 ⟨rfl, hI2, hK2⟩
    exact ⟨rfl, hI2, (K3.out.drew.alloc _).trans hK2, (P3.out.drew.alloc _).wrote' hK2 hW.isvar h1 h2⟩
  · exact fun Z hZ => ⟨trivial, trivial⟩
  refine Rp.lex_end fun W4 hW4 => ?_
  obtain ⟨hI4, hK4, hP4⟩ := hW4
  have P4 := Lib.hid hP4
  have p4 := P4.out.cell
  have IV4 := Lib.hid hI4.isvar
  have K4 := Lib.hid hK4
  have c5 := Lib.hid (layint_w 1 1 rfl left P (o + 5) t _ _ b Bb Bp W4 (by decide) (by omega) hbB hI4 (by rw [List.length_append, List.length_append, Im.bytesOf_len, lf]; omega) hP4 s5 h1 h2 h3)
  rw [hwl] at c5
  generalize Im.flight (fun k => match k with | 0 => x | 1 => y | 2 => vx | _ => vy) 4 = FL at *
  clear hI4 hK4 hP4 cf lf hwl s0 s1 s2 s3 s4 s5 p3 p2 c3
  go_wp2_with (go_at_call 67; ((with_reducible refine (c5.out).mono ?_); rintro e w5 ⟨rfl, hI, hK⟩; have P5 := Lib.hid (P4.out.wrote' hK IV4.out h1 h2); have IV5 := Lib.hid hI.isvar; have I5 := Lib.hid hI; have K5 := Lib.hid (K4.out.trans hK); clear hI hK))
  go_end0
  exact ⟨rfl, by rw [HSN.out]; exact I5.out, K5.out⟩
theorem eachshot_w (l : List Gm.Shot) (hok : ∀ s ∈ l, Gm.okShot s) (b Bb Bp : Nat) (w : World) (hbB : b ≤ Bb) (hbw : b ≤ w.heap.size) : EachW 71 88 6 (Gm.shotCells l) (l.map Im.shot) b Bb Bp w := by
  intro k S X Y bs hk hB hbS hI hl hY hc
  rw [List.length_map] at hk
  have e : (l.map Im.shot).getD k [] = Im.shot l[k] := by simp [hk]
  rw [e] at hl ⊢
  have ok := hok l[k] (List.getElem_mem hk)
  have sc : ∀ j, j < 6 → Y[k * 6 + j]? = (l[k]).cells[j]? := fun j hj => by rw [hc j hj]; exact Gm.shotCells_at l k j hk hj
  rw [Im.shot_len] at hl
  refine (layshot_w l[k] ok S (k * 6) 88 Y bs b Bb Bp X hbB hI hl hY sc (by decide) (by decide) (by decide)).mono ?_
  rintro e w' ⟨rfl, h1, h2⟩
  have hv := hI.isvar
  exact ⟨rfl, h1, h2.to (Nat.le_trans hbw hB.size), (Kb.refl X).wrote h2 hv, (VarK.refl X).wrote h2, Y, hY.wrote' h2 hv (by decide) (by decide), rfl, fun _ _ => rfl⟩
theorem layshotl_w (l : List Gm.Shot) (n : Nat) (A : Option Addr) (c B : Nat) (t : TypeId) (cs : Array Value) (bs : List Int) (b Bb Bp : Nat) (w : World) (hn : n = l.length) (hn32 : n ≤ 32) (hok : ∀ s ∈ l, Gm.okShot s) (hbB : b ≤ Bb) (hbP : b ≤ B) (hbw : b ≤ w.heap.size) (h : Wr b Bb Bp bs w) (hl : bs.length + 1 + 18 * 32 ≤ 65536) (hP : Box w B t cs)
    (ho : cs[58]? = some (.slice A n c)) (hL : Lies w b 6 A n (Gm.shotCells l)) (h1 : t ≠ 36) (h2 : t ≠ 5) (h3 : t ≠ 82) (h4 : t ≠ 88) :
    Calls Try.prog 70 #[.func (.func 73) #[] #[.pointer (some ⟨Bp, 0, none⟩)], .int .i64 1, .pointer (some ⟨B, 58, none⟩), .func (.func 71) #[] #[]] w fun e w' => e = .returned (.tuple #[]) ∧ Wr b Bb Bp (bs ++ (Im.bytesOf 1 n ++ Im.shots l)) w' ∧ Below b w w' ∧ Kb B w w' ∧ ∃ S, Box w' B t (cs.setIfInBounds 58 (.slice (some ⟨S, 0, none⟩) n n)) := by
  have he := Im.shots_len l
  have hf : (l.map Im.shot).flatten = Im.shots l := rfl
  refine (listzsh_w (Gm.shotCells l) (l.map Im.shot) n A c 1 1 rfl B 58 t cs bs b Bb Bp w (by rw [List.length_map, hn]) (by omega) (by decide) hbB hbP hbw h (by rw [hf]; omega) hP ho hL (shotCells_one l) h1 h2 h3 (eachshot_w l hok b Bb Bp w hbB hbw)).mono ?_
  rintro e w' ⟨rfl, h1, h2, h3, _, h4⟩
  exact ⟨rfl, h1, h2, h3, h4⟩
end Go.Proofs.Ytghomofakpjglaa
namespace Ros
open Go

/-- A roster: of its seats those of slots 0 to 7 count. -/
structure R where
  version : Int
  peer : Nat → Int
  gen : Nat → Int

def pair (r : R) (k : Nat) : List Value := [.int .i64 (r.peer k), .int .i64 (r.gen k)]
def seatCells (r : R) : List Value := pair r 0 ++ (pair r 1 ++ (pair r 2 ++ (pair r 3 ++ (pair r 4 ++ (pair r 5 ++ (pair r 6 ++ pair r 7))))))
/-- Its 17 cells. -/
def cells (r : R) : Array Value := (Value.int .i64 r.version :: seatCells r).toArray
theorem cells_size (r : R) : (cells r).size = 17 := rfl
theorem cells_0 (r : R) : (cells r)[0]? = some (.int .i64 r.version) := rfl
theorem cells_peer (r : R) (k : Nat) (hk : k < 8) : (cells r)[1 + k * 2]? = some (.int .i64 (r.peer k)) := by
  match k, hk with
  | 0, _ | 1, _ | 2, _ | 3, _ | 4, _ | 5, _ | 6, _ | 7, _ => rfl
theorem cells_gen (r : R) (k : Nat) (hk : k < 8) : (cells r)[1 + k * 2 + 1]? = some (.int .i64 (r.gen k)) := by
  match k, hk with
  | 0, _ | 1, _ | 2, _ | 3, _ | 4, _ | 5, _ | 6, _ | 7, _ => rfl
def upd (f : Nat → Int) (i : Nat) (v : Int) : Nat → Int := fun j => if j = i then v else f j
theorem upd_same (f : Nat → Int) (i : Nat) (v : Int) : upd f i v i = v := by unfold upd; rw [if_pos rfl]
theorem upd_other (f : Nat → Int) {i j : Nat} (v : Int) (h : j ≠ i) : upd f i v j = f j := by unfold upd; rw [if_neg h]
theorem cells_setv (r : R) (v : Int) : (cells r).setIfInBounds 0 (.int .i64 v) = cells { r with version := v } := rfl
theorem cells_setp (r : R) (k : Nat) (hk : k < 8) (v : Int) : (cells r).setIfInBounds (1 + k * 2) (.int .i64 v) = cells { r with peer := upd r.peer k v } := by
  unfold cells
  rw [List.setIfInBounds_toArray]
  match k, hk with
  | 0, _ | 1, _ | 2, _ | 3, _ | 4, _ | 5, _ | 6, _ | 7, _ => rfl
theorem cells_setg (r : R) (k : Nat) (hk : k < 8) (v : Int) : (cells r).setIfInBounds (1 + k * 2 + 1) (.int .i64 v) = cells { r with gen := upd r.gen k v } := by
  unfold cells
  rw [List.setIfInBounds_toArray]
  match k, hk with
  | 0, _ | 1, _ | 2, _ | 3, _ | 4, _ | 5, _ | 6, _ | 7, _ => rfl
theorem cells_ints (r : R) : ∀ v ∈ (cells r).toList, ∃ n : Int, v = .int .i64 n := by
  intro v hv
  simp only [cells, seatCells, pair, List.mem_cons, List.mem_append, List.not_mem_nil, or_false] at hv
  rcases hv with rfl | hv
  · exact ⟨_, rfl⟩
  · rcases hv with hv | hv | hv | hv | hv | hv | hv | hv <;> (rcases hv with rfl | rfl <;> exact ⟨_, rfl⟩)
/-- Only eight seats are looked at. -/
theorem cells_congr {r s : R} (hv : r.version = s.version) (hp : ∀ k, k < 8 → r.peer k = s.peer k) (hg : ∀ k, k < 8 → r.gen k = s.gen k) : cells r = cells s := by
  unfold cells seatCells pair
  rw [hv, hp 0 (by omega), hp 1 (by omega), hp 2 (by omega), hp 3 (by omega), hp 4 (by omega), hp 5 (by omega), hp 6 (by omega), hp 7 (by omega),
    hg 0 (by omega), hg 1 (by omega), hg 2 (by omega), hg 3 (by omega), hg 4 (by omega), hg 5 (by omega), hg 6 (by omega), hg 7 (by omega)]

abbrev Sl := { k : Nat // k < 8 }
def slots : Nat → Nat → List Sl
  | 0, _ => []
  | n + 1, i => if h : i < 8 then ⟨i, h⟩ :: slots n (i + 1) else []
abbrev all8 : List Sl := slots 8 0
theorem slots_yes {n i : Nat} (h : i < 8) : slots (n + 1) i = ⟨i, h⟩ :: slots n (i + 1) := by
  show (if _ : _ then _ else _) = _; rw [dif_pos h]
theorem slots_len : ∀ n i, (slots n i).length ≤ n
  | 0, _ => Nat.le_refl _
  | n + 1, i => by
    unfold slots
    split
    · have := slots_len n (i + 1); simp; omega
    · simp
theorem all8_is : all8 = [⟨0, by omega⟩, ⟨1, by omega⟩, ⟨2, by omega⟩, ⟨3, by omega⟩, ⟨4, by omega⟩, ⟨5, by omega⟩, ⟨6, by omega⟩, ⟨7, by omega⟩] := rfl
theorem mem_all8 (k : Nat) (hk : k < 8) : (⟨k, hk⟩ : Sl) ∈ all8 := by
  rw [all8_is]
  match k, hk with
  | 0, _ | 1, _ | 2, _ | 3, _ | 4, _ | 5, _ | 6, _ | 7, _ => simp

def OkSeat (r : R) (k : Nat) : Prop := (0 ≤ r.gen k ∧ r.gen k ≤ 60000) ∧ (r.peer k = -1 ∨ ((0 ≤ r.peer k ∧ r.peer k < 12) ∧ 0 < r.gen k))
def Good (r : R) (l : List Sl) : Prop := (∀ y ∈ l, OkSeat r y.1) ∧ l.Pairwise (fun a b => r.peer a.1 = -1 ∨ r.peer a.1 ≠ r.peer b.1)
def Ok (r : R) : Prop := (0 ≤ r.version ∧ r.version ≤ 1073741824) ∧ Good r all8
instance (r : R) (k : Nat) : Decidable (OkSeat r k) := by unfold OkSeat; infer_instance
instance (r : R) (l : List Sl) : Decidable (Good r l) := by unfold Good; infer_instance
instance (r : R) : Decidable (Ok r) := by unfold Ok; infer_instance
def may (r : R) : Bool := decide (Ok r)

theorem good_nil (r : R) : Good r [] := ⟨by simp, .nil⟩
theorem good_snoc {r : R} {l : List Sl} {x : Sl} : Good r (l ++ [x]) ↔ Good r l ∧ OkSeat r x.1 ∧ ∀ y ∈ l, r.peer y.1 = -1 ∨ r.peer y.1 ≠ r.peer x.1 := by
  unfold Good
  rw [List.pairwise_append]
  simp only [List.mem_append, List.mem_singleton, List.pairwise_cons, List.not_mem_nil, false_imp_iff, implies_true, List.Pairwise.nil, and_true, true_and]
  constructor
  · rintro ⟨h1, h2, h3⟩
    exact ⟨⟨fun y hy => h1 y (.inl hy), h2⟩, h1 x (.inr rfl), fun y hy => h3 y hy x rfl⟩
  · rintro ⟨⟨h1, h2⟩, h3, h4⟩
    refine ⟨?_, h2, ?_⟩
    · rintro y (hy | rfl)
      · exact h1 y hy
      · exact h3
    · rintro y hy z rfl
      exact h4 y hy
theorem good_front {r : R} {l m : List Sl} (h : Good r (l ++ m)) : Good r l := by
  unfold Good at *
  exact ⟨fun y hy => h.1 y (by simp [hy]), (List.pairwise_append.1 h.2).1⟩
/-- Does one of them have the peer? -/
def hasF (r : R) (l : List Sl) (p : Nat) : Bool := l.any fun y => decide (r.peer y.1 = (p : Int))
theorem hasF_no {r : R} {l : List Sl} {x : Sl} (h : r.peer x.1 = -1) (p : Nat) : hasF r (l ++ [x]) p = hasF r l p := by
  unfold hasF
  rw [List.any_append]
  simp [h]
  try (intro hp; omega)
theorem hasF_yes {r : R} {l : List Sl} {x : Sl} {p : Nat} (h : r.peer x.1 = (p : Int)) (q : Nat) : hasF r (l ++ [x]) q = if q = p then true else hasF r l q := by
  unfold hasF
  rw [List.any_append]
  by_cases e : q = p
  · subst e; simp [h]
  · have e' : ¬ (p : Int) = (q : Int) := by omega
    simp [h, e, e']
theorem hasF_iff {r : R} {l : List Sl} {p : Nat} : hasF r l p = false ↔ ∀ y ∈ l, r.peer y.1 ≠ (p : Int) := by
  unfold hasF
  rw [List.any_eq_false]
  simp
/-- The twelve cells of 'has'. -/
def hasCells (f : Nat → Bool) : Array Value := #[.bool (f 0), .bool (f 1), .bool (f 2), .bool (f 3), .bool (f 4), .bool (f 5), .bool (f 6), .bool (f 7), .bool (f 8), .bool (f 9), .bool (f 10), .bool (f 11)]
theorem hasCells_at (f : Nat → Bool) (p : Nat) (hp : p < 12) : (hasCells f)[p]? = some (.bool (f p)) := by
  match p, hp with
  | 0, _ | 1, _ | 2, _ | 3, _ | 4, _ | 5, _ | 6, _ | 7, _ | 8, _ | 9, _ | 10, _ | 11, _ => rfl
theorem hasCells_set (f : Nat → Bool) (p : Nat) (hp : p < 12) : (hasCells f).setIfInBounds p (.bool true) = hasCells (fun q => if q = p then true else f q) := by
  match p, hp with
  | 0, _ | 1, _ | 2, _ | 3, _ | 4, _ | 5, _ | 6, _ | 7, _ | 8, _ | 9, _ | 10, _ | 11, _ => rfl
theorem Ok.seat {r : R} (h : Ok r) (k : Nat) (hk : k < 8) : OkSeat r k := h.2.1 ⟨k, hk⟩ (mem_all8 k hk)
theorem ok_iff {r : R} : Ok r ↔ (0 ≤ r.version ∧ r.version ≤ 1073741824) ∧ (∀ k, k < 8 → OkSeat r k) ∧ ∀ j k, j < k → k < 8 → r.peer j = -1 ∨ r.peer j ≠ r.peer k := by
  constructor
  · intro h
    refine ⟨h.1, h.seat, fun j k hjk hk => ?_⟩
    have h2 := h.2.2
    rw [all8_is] at h2
    rw [List.pairwise_iff_getElem] at h2
    have := h2 j k (by simp; omega) (by simp; omega) hjk
    have e : ∀ i (hi : i < 8), ([⟨0, by omega⟩, ⟨1, by omega⟩, ⟨2, by omega⟩, ⟨3, by omega⟩, ⟨4, by omega⟩, ⟨5, by omega⟩, ⟨6, by omega⟩, ⟨7, by omega⟩] : List Sl)[i] = ⟨i, hi⟩ := by
      intro i hi
      match i, hi with
      | 0, _ | 1, _ | 2, _ | 3, _ | 4, _ | 5, _ | 6, _ | 7, _ => rfl
    rw [e j (by omega), e k hk] at this
    exact this
  · rintro ⟨h1, h2, h3⟩
    refine ⟨h1, fun y _ => h2 y.1 y.2, ?_⟩
    rw [all8_is, List.pairwise_iff_getElem]
    intro i j hi hj hij
    have e : ∀ i (hi : i < 8), ([⟨0, by omega⟩, ⟨1, by omega⟩, ⟨2, by omega⟩, ⟨3, by omega⟩, ⟨4, by omega⟩, ⟨5, by omega⟩, ⟨6, by omega⟩, ⟨7, by omega⟩] : List Sl)[i] = ⟨i, hi⟩ := by
      intro i hi
      match i, hi with
      | 0, _ | 1, _ | 2, _ | 3, _ | 4, _ | 5, _ | 6, _ | 7, _ => rfl
    rw [e i (by simpa using hi), e j (by simpa using hj)]
    exact h3 i j hij (by simpa using hj)
theorem Ok.one {r : R} (h : Ok r) {j k : Nat} (hj : j < 8) (hk : k < 8) (he : r.peer j = r.peer k) (hn : r.peer j ≠ -1) : j = k := by
  have h3 := (ok_iff.1 h).2.2
  rcases Nat.lt_trichotomy j k with hl | hl | hl
  · rcases h3 j k hl hk with e | e
    · exact absurd e hn
    · exact absurd he e
  · exact hl
  · rcases h3 k j hl hj with e | e
    · exact absurd (he.trans e) hn
    · exact absurd he.symm e

def new : R := ⟨0, fun _ => -1, fun _ => 0⟩
def seatOf (r : R) (p : Int) : List Sl → Int
  | [] => -1
  | x :: l => if r.peer x.1 = p then x.1 else seatOf r p l
def of (r : R) (p : Int) : Int := if Ok r ∧ 0 ≤ p ∧ p < 12 then seatOf r p all8 else -1
/-- The free slot. -/
def freeStep (r : R) (st : Int × Int) (x : Sl) : Int × Int := if r.peer x.1 = -1 ∧ r.gen x.1 < st.2 then (x.1, r.gen x.1) else st
def freeSt (r : R) (l : List Sl) : Int × Int := l.foldl (freeStep r) (-1, 60000)
def free (r : R) : Int := if Ok r then (freeSt r all8).1 else -1
/-- Who has a slot, by bits. -/
def maskStep (r : R) (m : Nat) (x : Sl) : Nat := if r.peer x.1 = -1 then m else m ||| 2 ^ x.1
def maskSt (r : R) (l : List Sl) : Nat := l.foldl (maskStep r) 0
def mask (r : R) : Nat := if Ok r then maskSt r all8 else 0

def MayTake (r : R) (slot peer : Int) : Prop := (((Ok r ∧ r.version < 1073741824) ∧ 0 ≤ slot ∧ slot < 8) ∧ (0 ≤ peer ∧ peer < 12) ∧ of r peer = -1) ∧ r.peer slot.toNat = -1 ∧ r.gen slot.toNat ≠ 60000
def take (r : R) (k : Nat) (peer : Int) : R := ⟨r.version + 1, upd r.peer k peer, upd r.gen k (r.gen k + 1)⟩
def MayGive (r : R) (slot : Int) : Prop := ((Ok r ∧ r.version < 1073741824) ∧ 0 ≤ slot ∧ slot < 8) ∧ r.peer slot.toNat ≠ -1
instance (r : R) (s p : Int) : Decidable (MayTake r s p) := by unfold MayTake; infer_instance
instance (r : R) (s : Int) : Decidable (MayGive r s) := by unfold MayGive; infer_instance
end Ros
namespace Go.Proofs.Ytghomofakpjglaa
open Go.RowKit Go.Shelf
set_option linter.unusedVariables false

/-- The 76 cells of a state whose shots are the slice s. -/
def Im.cells (g : Gm.G) (s : Value) (r : Ros.R) : Array Value := Gm.cells g s ++ Ros.cells r
theorem Im.cells_size (g : Gm.G) (s : Value) (r : Ros.R) : (Im.cells g s r).size = 76 := by unfold Im.cells; rw [Array.size_append, Gm.cells_size, Ros.cells_size]
theorem Im.cells_g (g : Gm.G) (s : Value) (r : Ros.R) (i : Nat) (hi : i < 59) : (Im.cells g s r)[i]? = (Gm.cells g s)[i]? := by
  unfold Im.cells; rw [Array.getElem?_append_left (by rw [Gm.cells_size]; exact hi)]
theorem Im.cells_r (g : Gm.G) (s : Value) (r : Ros.R) (i : Nat) : (Im.cells g s r)[59 + i]? = (Ros.cells r)[i]? := by
  unfold Im.cells; rw [Array.getElem?_append_right (by rw [Gm.cells_size]; omega), Gm.cells_size]; congr 1; omega
theorem Im.cells_ship (g : Gm.G) (s : Value) (r : Ros.R) (k j : Nat) (hk : k < 8) (hj : j < 7) : (Im.cells g s r)[2 + k * 7 + j]? = (g.ship k).cells[j]? :=
  (Im.cells_g g s r _ (by omega)).trans (Gm.cells_ship g s k j hk hj)
theorem Im.cells_peer (g : Gm.G) (s : Value) (r : Ros.R) (k : Nat) (hk : k < 8) : (Im.cells g s r)[60 + k * 2]? = some (.int .i64 (r.peer k)) := by
  rw [show 60 + k * 2 = 59 + (1 + k * 2) by omega, Im.cells_r]; exact Ros.cells_peer r k hk
theorem Im.cells_gen (g : Gm.G) (s : Value) (r : Ros.R) (k : Nat) (hk : k < 8) : (Im.cells g s r)[60 + k * 2 + 1]? = some (.int .i64 (r.gen k)) := by
  rw [show 60 + k * 2 + 1 = 59 + (1 + k * 2 + 1) by omega, Im.cells_r]; exact Ros.cells_gen r k hk
theorem Im.cells_shots (g : Gm.G) (s s' : Value) (r : Ros.R) : (Im.cells g s r).setIfInBounds 58 s' = Im.cells g s' r := by
  unfold Im.cells Gm.cells Ros.cells
  simp only [List.append_toArray, List.setIfInBounds_toArray]
  congr 1
def Im.ships (f : Nat → Gm.Ship) : Nat → List Int
  | 0 => []
  | k + 1 => Im.ships f k ++ Im.ship (f k)
theorem Im.ship_len (s : Gm.Ship) : (Im.ship s).length = if s.on = true then 22 else 1 := by
  unfold Im.ship
  split
  · rw [List.length_append, List.length_append, List.length_append, Im.bytesOf_len, Im.bytesOf_len, Im.bytesOf_len, Im.flight_len]
  · rfl
theorem Im.ship_le (s : Gm.Ship) : (Im.ship s).length ≤ 22 := by rw [Im.ship_len]; split <;> omega
theorem Im.ships_le (f : Nat → Gm.Ship) : ∀ k, (Im.ships f k).length ≤ 22 * k
  | 0 => Nat.le_refl _
  | k + 1 => by
    show (Im.ships f k ++ Im.ship (f k)).length ≤ _
    have := Im.ships_le f k
    have := Im.ship_le (f k)
    rw [List.length_append]; omega
def Im.seats (r : Ros.R) : Nat → List Int
  | 0 => []
  | k + 1 => Im.seats r k ++ (Im.bytesOf 1 (r.peer k + 1) ++ Im.bytesOf 2 (r.gen k))
theorem Im.seats_len (r : Ros.R) : ∀ k, (Im.seats r k).length = 3 * k
  | 0 => rfl
  | k + 1 => by
    show (Im.seats r k ++ _).length = _
    rw [List.length_append, List.length_append, Im.seats_len r k, Im.bytesOf_len, Im.bytesOf_len]; omega
/-- A state's bytes. -/
def Im.put (g : Gm.G) (r : Ros.R) : List Int :=
  Im.bytesOf 4 g.frame ++ (Im.bytesOf 8 g.dice ++ (Im.ships g.ship 8 ++ ((Im.bytesOf 1 g.shots.length ++ Im.shots g.shots) ++ (Im.bytesOf 4 r.version ++ Im.seats r 8))))

theorem layship_w (s : Gm.Ship) (P o : Nat) (t : TypeId) (cs : Array Value) (bs : List Int) (b Bb Bp : Nat) (w : World) (ok : Gm.okShip s) (hbB : b ≤ Bb) (h : Wr b Bb Bp bs w) (hl : bs.length + 22 ≤ 65536) (hP : Box w P t cs) (hc : ∀ j, j < 7 → cs[o + j]? = s.cells[j]?) (h1 : t ≠ 36) (h2 : t ≠ 5) (h3 : t ≠ 82) :
    Calls Try.prog 69 #[.func (.func 73) #[] #[.pointer (some ⟨Bp, 0, none⟩)], .pointer (some ⟨P, o, none⟩)] w fun e w' => e = .returned (.tuple #[]) ∧ Wr b Bb Bp (bs ++ Im.ship s) w' ∧ Wrote b Bb w w' := by
  obtain ⟨on, x, y, vx, vy, cool, score⟩ := s
  have s0 := hc 0 (by omega)
  have s1 := hc 1 (by omega)
  have s2 := hc 2 (by omega)
  have s3 := hc 3 (by omega)
  have s4 := hc 4 (by omega)
  have s5 := hc 5 (by omega)
  have s6 := hc 6 (by omega)
  simp only [Gm.Ship.cells, List.getElem?_cons_zero, List.getElem?_cons_succ, Nat.add_zero] at s0 s1 s2 s3 s4 s5 s6
  obtain ⟨w0, ⟨w2, w2'⟩, ⟨w3, w3'⟩, ⟨w4, w4'⟩, ⟨w5, w5'⟩, w6, w6', w7, w7'⟩ := ok
  dsimp only at w0 w2 w2' w3 w3' w4 w4' w5 w5' w6 w6' w7 w7'
  cases on
  · exact layship_off P o t cs bs b Bb Bp w hbB h (by omega) hP s0 h1 h2 h3
  · exact layship_on x y vx vy cool score P o t cs bs b Bb Bp w hbB h hl hP s0 s1 s2 s3 s4 s5 s6 (by omega) (by omega) (by omega) (by omega) ⟨w6, w6'⟩ ⟨w7, w7'⟩ h1 h2 h3

set_option maxRecDepth 100000 in
set_option maxHeartbeats 4000000 in
theorem laystate_w (g : Gm.G) (r : Ros.R) (n : Nat) (A : Option Addr) (c B : Nat) (bs : List Int) (b Bb Bp : Nat) (w : World) (hn : n = g.shots.length) (hg : Gm.ok g) (hd : 0 ≤ g.dice ∧ g.dice ≤ 18446744073709551615) (hr : Ros.Ok r) (hbB : b ≤ Bb) (hbP : b ≤ B) (hbw : b ≤ w.heap.size) (h : Wr b Bb Bp bs w) (hl : bs.length ≤ 64000) (hP : Box w B 35 (Im.cells g (.slice A n c) r))
    (hL : Lies w b 6 A n (Gm.shotCells g.shots)) :
    Calls Try.prog 39 #[.func (.func 73) #[] #[.pointer (some ⟨Bp, 0, none⟩)], .pointer (some ⟨B, 0, none⟩)] w fun e w' => e = .returned (.tuple #[]) ∧ Wr b Bb Bp (bs ++ Im.put g r) w' ∧ Below b w w' ∧ Kb B w w' := by
  have hw0 : IntKind.u64.wrap g.frame = g.frame := by rw [IntKind.wrap_u64]; have := hg.1; have := hg.2.1; omega
  have hw59 : IntKind.u64.wrap r.version = r.version := by rw [IntKind.wrap_u64]; have := hr.1; omega
  have e0 : (Im.cells g (.slice A n c) r)[0]? = some (.int .i64 g.frame) := (Im.cells_g _ _ _ 0 (by omega)).trans (Gm.cells_0 _ _)
  have e1 : (Im.cells g (.slice A n c) r)[1]? = some (.int .u64 g.dice) := (Im.cells_g _ _ _ 1 (by omega)).trans (Gm.cells_1 _ _)
  have c1 := Lib.hid (layint_w 4 4 rfl g.frame B 0 35 _ bs b Bb Bp w (by decide) (by have := hg.1; have := hg.2.1; omega) hbB h (by omega) hP e0 (by decide) (by decide) (by decide))
  rw [hw0] at c1
  have c2 := fun X (hX : Wr b Bb Bp (bs ++ Im.bytesOf 4 g.frame) X) (hB : Box X B 35 (Im.cells g (.slice A n c) r)) => Lib.hid (layu64_w 8 8 rfl g.dice B 1 35 _ _ b Bb Bp X (by decide) hd hbB hX (by rw [List.length_append, Im.bytesOf_len]; omega) hB e1 (by decide) (by decide) (by decide))
  have IV0 := Lib.hid h.isvar
  have P0 := Lib.hid hP
  have K0 := Lib.hid (Wrote.refl hbB w)
  have LL := Lib.hid hL
  have HG := Lib.hid hg
  have HR := Lib.hid hr
  have NL := Lib.hid hn
  have HV := Lib.hid hw59
  have ltP := hP.lt
  clear h hP hL hn hg hr hw0 hw59 e0 e1
  go_enter Try.func39, Try.ntmps39
  go_wp2_with (first | (go_at_call 67; ((with_reducible refine (c1.out).mono ?_); rintro e w1 ⟨rfl, hI, hK⟩; have P1 := Lib.hid (P0.out.wrote' hK IV0.out (by decide) (by decide)); have IV1 := Lib.hid hI.isvar; have I1 := Lib.hid hI; have K1 := Lib.hid (K0.out.trans hK); clear hI hK)) | (go_at_call 68; ((with_reducible refine ((c2 _ I1.out P1.out).out).mono ?_); rintro e w2 ⟨rfl, hI, hK⟩; have P2 := Lib.hid (P1.out.wrote' hK IV1.out (by decide) (by decide)); have IV2 := Lib.hid hI.isvar; have I2 := Lib.hid hI; have K2 := Lib.hid (K1.out.trans hK); clear hI hK)))
  go_loopw [18] (fun i wr => ∃ k : Nat, k ≤ 8 ∧ i = .int .i64 k ∧ Wr b Bb Bp (bs ++ Im.bytesOf 4 g.frame ++ Im.bytesOf 8 g.dice ++ Im.ships g.ship k) wr ∧ Wrote b Bb w wr) (fun i _ => 8 - (intOf i).toNat)
  case atStart => exact ⟨0, by omega, rfl, by simpa [Im.ships] using I2.out, K2.out⟩
  case round =>
    obtain ⟨k, hk, rfl, hI, hK⟩ := hrel
    clear I1 P1 IV1 K1 I2 P2 IV2 K2 c1 c2
    by_cases hlt : k < 8
    · have hk8 : (k : Int) < 8 := by omega
      have P3 := P0.out.wrote' hK IV0.out (by decide) (by decide)
      have hsl := Im.ships_le g.ship k
      have c3 := Lib.hid (layship_w (g.ship k) B (2 + k * 7) 35 _ _ b Bb Bp wr (HG.out.2.2.2.1 k hlt) hbB hI (by rw [List.length_append, List.length_append, List.length_append, Im.bytesOf_len, Im.bytesOf_len]; omega) P3 (fun j hj => Im.cells_ship g _ r k j hlt hj) (by decide) (by decide) (by decide))
      have HSN := Lib.hid (show bs ++ Im.bytesOf 4 g.frame ++ Im.bytesOf 8 g.dice ++ Im.ships g.ship k ++ Im.ship (g.ship k) = bs ++ Im.bytesOf 4 g.frame ++ Im.bytesOf 8 g.dice ++ Im.ships g.ship (k + 1) by simp [Im.ships])
      have HK := Lib.hid hK
      clear hI hK P3
      go_wp2_with (go_at_call 69; ((with_reducible refine (c3.out).mono ?_); rintro e w4 ⟨rfl, hI, hK⟩; have I4 := Lib.hid hI; have K4 := Lib.hid (HK.out.trans hK); clear hI hK))
      go_roundw
      case rel => exact ⟨k + 1, by omega, by go_num, by rw [← HSN.out]; exact I4.out, K4.out⟩
      case measure => simp [intOf]; omega
    · have hk8 : ¬ (k : Int) < 8 := by omega
      obtain rfl : k = 8 := by omega
      have P3 := P0.out.wrote' hK IV0.out (by decide) (by decide)
      have hsl := Im.ships_le g.ship 8
      have hn32 : g.shots.length ≤ 32 := HG.out.2.2.1
      have hshl := Im.shots_len g.shots
      have c5 := Lib.hid (layshotl_w g.shots n A c B 35 (Im.cells g (.slice A n c) r) _ b Bb Bp wr NL.out (by have := NL.out; omega) HG.out.way.shots hbB hbP (Nat.le_trans hbw hK.size) hI (by rw [List.length_append, List.length_append, List.length_append, Im.bytesOf_len, Im.bytesOf_len]; omega) P3 ((Im.cells_g _ _ _ 58 (by omega)).trans (Gm.cells_58 _ _)) (LL.out.below (hK.to hbw)) (by decide) (by decide) (by decide) (by decide))
      have lens : (bs ++ Im.bytesOf 4 g.frame ++ Im.bytesOf 8 g.dice ++ Im.ships g.ship 8 ++ (Im.bytesOf 1 n ++ Im.shots g.shots)).length ≤ 65000 := by
        rw [List.length_append, List.length_append, List.length_append, List.length_append, List.length_append, Im.bytesOf_len, Im.bytesOf_len, Im.bytesOf_len, hshl]; omega
      have HN := Lib.hid (show bs ++ Im.put g r = bs ++ Im.bytesOf 4 g.frame ++ Im.bytesOf 8 g.dice ++ Im.ships g.ship 8 ++ (Im.bytesOf 1 n ++ Im.shots g.shots) ++ Im.bytesOf 4 r.version ++ Im.seats r 8 by rw [NL.out]; simp [Im.put])
      generalize hbk : bs ++ Im.bytesOf 4 g.frame ++ Im.bytesOf 8 g.dice ++ Im.ships g.ship 8 ++ (Im.bytesOf 1 n ++ Im.shots g.shots) = bk at *
      have B3 := Lib.hid (hK.to hbw)
      have Q3 := Lib.hid ((Kb.refl (B := B) w).wrote hK IV0.out)
      clear hI hK P3 hbk hshl hsl hn32 P0 K0 LL
      go_upto_region 8 with (go_at_call 70; ((with_reducible refine (c5.out).mono ?_); rintro e w6 ⟨rfl, hI6, hB6, hK6, S, hP6⟩; rw [Im.cells_shots] at hP6; have I6 := Lib.hid hI6; have P6 := Lib.hid hP6; have B6 := Lib.hid (B3.out.trans hB6); have Q6 := Lib.hid (Q3.out.trans hK6); clear hI6 hB6 hK6 hP6))
      have e59 : (Im.cells g (.slice (some ⟨S, 0, none⟩) n n) r)[59]? = some (.int .i64 r.version) := (Im.cells_r _ _ _ 0).trans (Ros.cells_0 _)
      have c7 := Lib.hid (layint_w 4 4 rfl r.version B 59 35 _ bk b Bb Bp w6 (by decide) (by have := HR.out.1; omega) hbB I6.out (by omega) P6.out e59 (by decide) (by decide) (by decide))
      rw [HV.out] at c7
      have IV6 := Lib.hid I6.out.isvar
      have K6 := Lib.hid (Wrote.refl hbB w6)
      clear e59 c5
      go_wp2_with (first | (go_at_call 67; ((with_reducible refine (c7.out).mono ?_); rintro e w7 ⟨rfl, hI, hK⟩; have P7 := Lib.hid (P6.out.wrote' hK IV6.out (by decide) (by decide)); have IV7 := Lib.hid hI.isvar; have I7 := Lib.hid hI; have K7 := Lib.hid (K6.out.trans hK); clear hI hK)))
      go_loopw [42] (fun i wx => ∃ k : Nat, k ≤ 8 ∧ i = .int .i64 k ∧ Wr b Bb Bp (bk ++ Im.bytesOf 4 r.version ++ Im.seats r k) wx ∧ Wrote b Bb w6 wx) (fun i _ => 8 - (intOf i).toNat)
      case atStart => exact ⟨0, by omega, rfl, by simpa [Im.seats] using I7.out, K7.out⟩
      case round =>
        obtain ⟨k, hk, rfl, hI, hK⟩ := hrel
        clear I7 P7 IV7 K7 c7
        by_cases hlt : k < 8
        · have hk8 : (k : Int) < 8 := by omega
          have P8 := P6.out.wrote' hK IV6.out (by decide) (by decide)
          have hsl := Im.seats_len r k
          have hs := HR.out.seat k hlt
          have c8 := Lib.hid (layseat_w (r.peer k) (r.gen k) B (60 + k * 2) 35 _ _ b Bb Bp wr ⟨by have := hs.2; omega, by have := hs.2; omega⟩ hs.1 hbB hI (by rw [List.length_append, List.length_append, Im.bytesOf_len]; omega) P8 (Im.cells_peer g _ r k hlt) (Im.cells_gen g _ r k hlt) (by decide) (by decide) (by decide))
          have HSN := Lib.hid (show bk ++ Im.bytesOf 4 r.version ++ Im.seats r k ++ (Im.bytesOf 1 (r.peer k + 1) ++ Im.bytesOf 2 (r.gen k)) = bk ++ Im.bytesOf 4 r.version ++ Im.seats r (k + 1) by simp [Im.seats])
          have HK := Lib.hid hK
          clear hI hK P8 hs hsl
          go_wp2_with (go_at_call 72; ((with_reducible refine (c8.out).mono ?_); rintro e w9 ⟨rfl, hI, hK⟩; have I9 := Lib.hid hI; have K9 := Lib.hid (HK.out.trans hK); clear hI hK))
          go_roundw
          case rel => exact ⟨k + 1, by omega, by go_num, by rw [← HSN.out]; exact I9.out, K9.out⟩
          case measure => simp [intOf]; omega
        · have hk8 : ¬ (k : Int) < 8 := by omega
          obtain rfl : k = 8 := by omega
          have HI := Lib.hid hI
          have HK := Lib.hid hK
          clear hI hK
          go_wp2
          go_end0
          exact ⟨rfl, by rw [HN.out]; exact HI.out, B6.out.trans (HK.out.to (Nat.le_trans hbw B6.out.size)), Q6.out.wrote HK.out IV6.out⟩
end Go.Proofs.Ytghomofakpjglaa
namespace Go.Proofs.Ytghomofakpjglaa
open Go.RowKit
set_option linter.unusedVariables false

theorem ret_i32 {a b : Int} (h : a = b) : Ending.returned (.int .i32 a) = .returned (.int .i32 b) := by rw [h]
theorem two_below (w : World) (o1 o2 : Obj) : Below w.heap.size w ((w.alloc o1).alloc o2) := ((Below.refl _ _).alloc (Nat.le_refl _) _).alloc (by simp) _

set_option maxHeartbeats 400000 in
theorem clamp_any (a lo hi : Int) (wa : -2147483648 ≤ a ∧ a ≤ 2147483647) (wl : -2147483648 ≤ lo ∧ lo ≤ 2147483647) (wh : -2147483648 ≤ hi ∧ hi ≤ 2147483647) (w : World) :
    Calls Try.prog 106 #[.int .i32 a, .int .i32 lo, .int .i32 hi] w fun e w' => e = .returned (.int .i32 (Fx.clamp a lo hi)) ∧ Below w.heap.size w w' := by
  have hmf : ∀ (fn : Fn) (first cap : Array Value) (w : World), (Instr.makeFunc fn first cap).run Try.prog w = .ok (.func fn first cap) w := fun _ _ _ _ => rfl
  go_enter Try.func106, Try.ntmps106
  go_wp2
  all_goals
    go_ret
    exact ⟨ret_i32 (by unfold Fx.clamp; omega), two_below _ _ _⟩

end Go.Proofs.Ytghomofakpjglaa
namespace Go.Proofs.Ytghomofakpjglaa
open Go.RowKit
set_option linter.unusedVariables false

set_option maxHeartbeats 400000 in
theorem fldwrap_any (a : Int) (wa : -2147483648 ≤ a ∧ a ≤ 2147483647) (w : World) :
    Calls Try.prog 105 #[.int .i32 a] w fun e w' => e = .returned (.int .i32 (Gf.wrap a)) ∧ Below w.heap.size w w' := by
  have hmf : ∀ (fn : Fn) (first cap : Array Value) (w : World), (Instr.makeFunc fn first cap).run Try.prog w = .ok (.func fn first cap) w := fun _ _ _ _ => rfl
  have hb := Gf.tmod_bd a
  have he := Lib.hid (Gf.around_eq a)
  go_enter Try.func105, Try.ntmps105
  go_wp2
  · go_ret
    have he := he.out
    rw [if_pos (by assumption)] at he
    exact ⟨ret_int he, one_below _ _⟩
  · go_ret
    have he := he.out
    rw [if_neg (by omega)] at he
    exact ⟨ret_int he, one_below _ _⟩

end Go.Proofs.Ytghomofakpjglaa
namespace Go.Proofs.Ytghomofakpjglaa
open Go.RowKit
set_option linter.unusedVariables false

set_option maxHeartbeats 400000 in
theorem isslot_any (i : Int) (wi : -9223372036854775808 ≤ i ∧ i ≤ 9223372036854775807) (w : World) :
    Calls Try.prog 98 #[.int .i64 i] w fun e w' => e = .returned (.bool (decide (0 ≤ i) && decide (i < 8))) ∧ w = w' := by
  go_enter Try.func98, Try.ntmps98
  go_wp2
  all_goals
    go_ret
    exact ⟨ret_bool (by rw [Bool.eq_iff_iff]; simp; omega), rfl⟩

theorem wrap_in {x : Int} (h : Gm.inF x) : Gf.wrap x = x := by unfold Gm.inF at h; unfold Gf.wrap; omega
set_option maxHeartbeats 400000 in
theorem there_yes (x y : Int) (hx : Gm.inF x) (hy : Gm.inF y) (w : World) :
    Calls Try.prog 94 #[.int .i32 x, .int .i32 y] w fun e w' => e = .returned (.bool true) ∧ Below w.heap.size w w' := by
  have c1 := fun X => Lib.hid (fldwrap_any x (by unfold Gm.inF at hx; omega) X)
  have c2 := fun X => Lib.hid (fldwrap_any y (by unfold Gm.inF at hy; omega) X)
  rw [wrap_in hx] at c1
  rw [wrap_in hy] at c2
  go_enter Try.func94, Try.ntmps94
  go_wp2_with (go_at_call 105; first | ((with_reducible refine ((c1 _).out).mono ?_); rintro e w1 ⟨rfl, hb1⟩; clear c1) | ((with_reducible refine ((c2 _).out).mono ?_); rintro e w2 ⟨rfl, hb2⟩))
  go_ret
  exact ⟨rfl, hb1.trans (hb2.mono hb1.size)⟩

theorem clamp_in {a m : Int} (h : Gm.slow a m) : Fx.clamp a (-m) m = a := by unfold Gm.slow at h; unfold Fx.clamp; omega
set_option maxHeartbeats 400000 in
theorem within_yes (x y m : Int) (hm : 0 ≤ m ∧ m ≤ 1000000) (hx : Gm.slow x m) (hy : Gm.slow y m) (w : World) :
    Calls Try.prog 95 #[.int .i32 x, .int .i32 y, .int .i32 m] w fun e w' => e = .returned (.bool true) ∧ Below w.heap.size w w' := by
  have c1 := fun X => Lib.hid (clamp_any x (-m) m (by unfold Gm.slow at hx; omega) (by omega) (by omega) X)
  have c2 := fun X => Lib.hid (clamp_any y (-m) m (by unfold Gm.slow at hy; omega) (by omega) (by omega) X)
  rw [clamp_in hx] at c1
  rw [clamp_in hy] at c2
  go_enter Try.func95, Try.ntmps95
  go_wp2_with (go_at_call 106; first | ((with_reducible refine ((c1 _).out).mono ?_); rintro e w1 ⟨rfl, hb1⟩; clear c1) | ((with_reducible refine ((c2 _).out).mono ?_); rintro e w2 ⟨rfl, hb2⟩))
  go_ret
  exact ⟨rfl, hb1.trans (hb2.mono hb1.size)⟩

set_option maxRecDepth 100000 in
set_option maxHeartbeats 1000000 in
theorem mayship_yes (s : Gm.Ship) (h : Gm.okShip s) (w : World) :
    Calls Try.prog 84 #[.agg s.cells.toArray] w fun e w' => e = .returned (.bool true) ∧ Below w.heap.size w w' := by
  obtain ⟨on, x, y, vx, vy, cool, score⟩ := s
  obtain ⟨o1, o2, o3, o4, o5, o6, o7, o8, o9⟩ := h
  dsimp only at o1 o2 o3 o4 o5 o6 o7 o8 o9
  simp only [Gm.Ship.cells]
  rcases o1 with rfl | o1
  · have c1 := fun X => Lib.hid (there_yes x y o2 o3 X)
    have c2 := fun X => Lib.hid (within_yes vx vy 524288 (by omega) o4 o5 X)
    clear o2 o3 o4 o5
    go_enter Try.func84, Try.ntmps84
    go_wp2_with (first | (go_at_call 94; ((with_reducible refine ((c1 _).out).mono ?_); rintro e w1 ⟨rfl, hb1⟩; have B1 := (Box.made w 24 #[.bool true, .int .i32 x, .int .i32 y, .int .i32 vx, .int .i32 vy, .int .i64 cool, .int .i64 score]).below hb1 (by simp); have K1 := B1.cell)) | (go_at_call 95; ((with_reducible refine ((c2 _).out).mono ?_); rintro e w2 ⟨rfl, hb2⟩; have B2 := B1.below hb2 B1.lt; have K2 := B2.cell; clear K1)))
    go_ret
    exact ⟨rfl, ((one_below w _).trans (hb1.mono (by simp))).trans (hb2.mono (by have := hb1.size; simp at this; omega))⟩
  · injection o1 with z1 z2 z3 z4 z5 z6 z7
    subst z1 z2 z3 z4 z5 z6 z7
    clear o2 o3 o4 o5
    go_enter Try.func84, Try.ntmps84
    go_wp2
    go_ret
    exact ⟨rfl, one_below _ _⟩

set_option maxRecDepth 100000 in
set_option maxHeartbeats 1000000 in
theorem mayshot_yes (s : Gm.Shot) (h : Gm.okShot s) (w : World) :
    Calls Try.prog 86 #[.agg s.cells.toArray] w fun e w' => e = .returned (.bool true) ∧ Below w.heap.size w w' := by
  obtain ⟨owner, x, y, vx, vy, left⟩ := s
  obtain ⟨o1, o2, o3, o4, o5, o6, o7, o8⟩ := h
  dsimp only at o1 o2 o3 o4 o5 o6 o7 o8
  simp only [Gm.Shot.cells]
  have c0 := fun X => Lib.hid (isslot_any owner (by omega) X)
  rw [decide_eq_true o1, decide_eq_true o2, Bool.and_self] at c0
  have c1 := fun X => Lib.hid (there_yes x y o3 o4 X)
  have c2 := fun X => Lib.hid (within_yes vx vy 393216 (by omega) o5 o6 X)
  clear o3 o4 o5 o6
  go_enter Try.func86, Try.ntmps86
  go_wp2_with (first | (go_at_call 98; ((with_reducible refine ((c0 _).out).mono ?_); rintro e w0 ⟨rfl, rfl⟩)) | (go_at_call 94; ((with_reducible refine ((c1 _).out).mono ?_); rintro e w1 ⟨rfl, hb1⟩; have B1 := (Box.made w 88 #[.int .i64 owner, .int .i32 x, .int .i32 y, .int .i32 vx, .int .i32 vy, .int .i64 left]).below hb1 (by simp); have K1 := B1.cell)) | (go_at_call 95; ((with_reducible refine ((c2 _).out).mono ?_); rintro e w2 ⟨rfl, hb2⟩; have B2 := B1.below hb2 B1.lt; have K2 := B2.cell; clear K1)))
  go_ret
  exact ⟨rfl, ((one_below w _).trans (hb1.mono (by simp))).trans (hb2.mono (by have := hb1.size; simp at this; omega))⟩
end Go.Proofs.Ytghomofakpjglaa
namespace Go.Proofs.Ytghomofakpjglaa
open Go.RowKit
set_option linter.unusedVariables false

theorem shipCells_at (f : Nat → Gm.Ship) (k j : Nat) (hk : k < 8) (hj : j < 7) : (Gm.shipCells f)[k * 7 + j]? = (f k).cells[j]? := by
  match k, hk with
  | 0, _ => match j, hj with | 0, _ | 1, _ | 2, _ | 3, _ | 4, _ | 5, _ | 6, _ => rfl
  | 1, _ => match j, hj with | 0, _ | 1, _ | 2, _ | 3, _ | 4, _ | 5, _ | 6, _ => rfl
  | 2, _ => match j, hj with | 0, _ | 1, _ | 2, _ | 3, _ | 4, _ | 5, _ | 6, _ => rfl
  | 3, _ => match j, hj with | 0, _ | 1, _ | 2, _ | 3, _ | 4, _ | 5, _ | 6, _ => rfl
  | 4, _ => match j, hj with | 0, _ | 1, _ | 2, _ | 3, _ | 4, _ | 5, _ | 6, _ => rfl
  | 5, _ => match j, hj with | 0, _ | 1, _ | 2, _ | 3, _ | 4, _ | 5, _ | 6, _ => rfl
  | 6, _ => match j, hj with | 0, _ | 1, _ | 2, _ | 3, _ | 4, _ | 5, _ | 6, _ => rfl
  | 7, _ => match j, hj with | 0, _ | 1, _ | 2, _ | 3, _ | 4, _ | 5, _ | 6, _ => rfl
/-- The seven cells of a ship, as a walk spells them. -/
theorem ships_at {w : World} {B : Nat} {A : Option Addr} {f : Nat → Gm.Ship} (h : Lies w B 7 A 8 (Gm.shipCells f)) (k : Nat) (hk : k < 8) :
    ∃ ad, A = some ad ∧ ad.block < B ∧ w.cell? (ad.add (k * 7)) = some (.bool (f k).on) ∧ w.cell? ⟨(ad.add (k * 7)).block, (ad.add (k * 7)).off + 1, none⟩ = some (.int .i32 (f k).x) ∧
      w.cell? ⟨(ad.add (k * 7)).block, (ad.add (k * 7)).off + 2, none⟩ = some (.int .i32 (f k).y) ∧ w.cell? ⟨(ad.add (k * 7)).block, (ad.add (k * 7)).off + 3, none⟩ = some (.int .i32 (f k).vx) ∧
      w.cell? ⟨(ad.add (k * 7)).block, (ad.add (k * 7)).off + 4, none⟩ = some (.int .i32 (f k).vy) ∧ w.cell? ⟨(ad.add (k * 7)).block, (ad.add (k * 7)).off + 5, none⟩ = some (.int .i64 (f k).cool) ∧
      w.cell? ⟨(ad.add (k * 7)).block, (ad.add (k * 7)).off + 6, none⟩ = some (.int .i64 (f k).score) := by
  obtain ⟨ad, e, hb⟩ := h.start (by omega)
  have hc := h.cell ad e (by omega)
  have hj : ∀ j v, j < 7 → (f k).cells[j]? = some v → w.cell? ((ad.add (k * 7)).add j) = some v := fun j v hj hv => by
    rw [add_twice]
    exact hc _ _ ((shipCells_at f k j hk hj).trans hv)
  refine ⟨ad, e, hb, ?_, ?_, ?_, ?_, ?_, ?_, ?_⟩
  · have := hj 0 _ (by omega) rfl; rwa [show (ad.add (k * 7)).add 0 = ad.add (k * 7) from by unfold Addr.add; rfl] at this
  · have := hj 1 _ (by omega) rfl; rwa [add_lit' _ 1 (by omega)] at this
  · have := hj 2 _ (by omega) rfl; rwa [add_lit' _ 2 (by omega)] at this
  · have := hj 3 _ (by omega) rfl; rwa [add_lit' _ 3 (by omega)] at this
  · have := hj 4 _ (by omega) rfl; rwa [add_lit' _ 4 (by omega)] at this
  · have := hj 5 _ (by omega) rfl; rwa [add_lit' _ 5 (by omega)] at this
  · have := hj 6 _ (by omega) rfl; rwa [add_lit' _ 6 (by omega)] at this
/-- The ships of a game's block lie there as eight elements. -/
theorem ships_lie {w : World} {B : Nat} {g : Gm.G} {s : Value} (h : Box w B 28 (Gm.cells g s)) : Lies w w.heap.size 7 (some ⟨B, 2, none⟩) 8 (Gm.shipCells g.ship) := by
  refine ⟨rfl, fun _ => ⟨_, rfl, h.lt⟩, fun ad e _ j u hu => ?_⟩
  injection e with e
  subst e
  have hj : j < 56 := by have := (List.getElem?_eq_some_iff.1 hu).1; rwa [Gm.shipCells_len] at this
  have hadd : (⟨B, 2, none⟩ : Addr).add j = ⟨B, 2 + j, none⟩ := by unfold Addr.add; split <;> simp_all
  rw [hadd, h.cell, Gm.cells_shipj _ _ _ hj, hu]

set_option maxHeartbeats 1000000 in
theorem allship1_yes (s : Gm.Ship) (h : Gm.okShip s) (Bf : Nat) (w : World) (hf : Box w Bf 129 #[.func (.func 84) #[] #[]]) :
    Calls Try.prog 93 #[.agg s.cells.toArray, .pointer (some ⟨Bf, 0, none⟩)] w fun e w' => e = .returned (.bool false) ∧ Below w.heap.size w w' := by
  have c1 := fun X => Lib.hid (mayship_yes s h X)
  have hK : ∀ o, (w.alloc o).cell? ⟨Bf, 0, none⟩ = some (.func (.func 84) #[] #[]) := fun o => (hf.alloc o).cell 0
  obtain ⟨on, x, y, vx, vy, cool, score⟩ := s
  simp only [Gm.Ship.cells] at c1 ⊢
  clear h hf
  go_enter Try.func93, Try.ntmps93
  go_wp2_with (go_at_call 84; ((with_reducible refine ((c1 _).out).mono ?_); rintro e w1 ⟨rfl, hb1⟩))
  go_ret
  exact ⟨rfl, (one_below w _).trans (hb1.mono (by simp))⟩

set_option maxRecDepth 100000 in
set_option maxHeartbeats 2000000 in
theorem indexship_yes (f : Nat → Gm.Ship) (A : Option Addr) (c : Nat) (Bf : Nat) (w : World) (hok : ∀ i, i < 8 → Gm.okShip (f i)) (hr : Lies w w.heap.size 7 A 8 (Gm.shipCells f)) (hf : Box w Bf 129 #[.func (.func 84) #[] #[]]) :
    Calls Try.prog 104 #[.slice A 8 c, .func (.func 93) #[] #[.pointer (some ⟨Bf, 0, none⟩)]] w fun e w' => e = .returned (.int .i64 (-1)) ∧ Below w.heap.size w w' := by
  go_enter Try.func104, Try.ntmps104
  go_wp2
  go_loopw [8] (fun i wr => ∃ k : Nat, k ≤ 8 ∧ i = .int .i64 k ∧ Below w.heap.size w wr) (fun i _ => 8 - (intOf i).toNat)
  case atStart => exact ⟨0, by omega, rfl, Below.refl _ _⟩
  case round =>
    obtain ⟨k, hk, rfl, hb⟩ := hrel
    by_cases hlt : k < 8
    · have hbs := hb.size
      obtain ⟨ad, rfl, hbl, e0, e1, e2, e3, e4, e5, e6⟩ := ships_at (hr.below hb) k hlt
      have ho := hok k hlt
      have cc := fun X hX => Lib.hid (allship1_yes (f k) ho Bf X hX)
      have hfb := hf.below hb hf.lt
      generalize f k = s at e0 e1 e2 e3 e4 e5 e6 ho cc
      obtain ⟨on, x, y, vx, vy, cool, score⟩ := s
      dsimp only at e0 e1 e2 e3 e4 e5 e6
      simp only [Gm.Ship.cells] at cc
      have hkn : (k : Int) < 8 := by omega
      have HB := Lib.hid hb
      have HF := Lib.hid hfb
      clear hr hok ho hb hf hfb
      go_wp2_with (go_at_call 93; ((with_reducible refine ((cc _ (by first | exact HF.out)).out).mono ?_); rintro e w1 ⟨rfl, hb1⟩))
      go_roundw
      case rel => exact ⟨k + 1, by omega, by go_num, HB.out.trans (hb1.mono HB.out.size)⟩
      case measure => simp [intOf]; omega
    · have hkn : ¬ (k : Int) < 8 := by omega
      clear hr
      go_wp2
      go_ret
      exact ⟨rfl, hb⟩

set_option maxHeartbeats 1000000 in
theorem containsship_no (f : Nat → Gm.Ship) (A : Option Addr) (c : Nat) (Bf : Nat) (w : World) (hok : ∀ i, i < 8 → Gm.okShip (f i)) (hr : Lies w w.heap.size 7 A 8 (Gm.shipCells f)) (hf : Box w Bf 129 #[.func (.func 84) #[] #[]]) :
    Calls Try.prog 92 #[.slice A 8 c, .func (.func 93) #[] #[.pointer (some ⟨Bf, 0, none⟩)]] w fun e w' => e = .returned (.bool false) ∧ Below w.heap.size w w' := by
  have c1 := Lib.hid (indexship_yes f A c Bf w hok hr hf)
  clear hr hok hf
  go_enter Try.func92, Try.ntmps92
  go_wp2_with (go_at_call 104; ((with_reducible refine ((c1).out).mono ?_); rintro e w1 ⟨rfl, hb1⟩))
  go_ret
  exact ⟨rfl, hb1⟩

set_option maxHeartbeats 1000000 in
theorem allship_yes (f : Nat → Gm.Ship) (A : Option Addr) (c : Nat) (w : World) (hok : ∀ i, i < 8 → Gm.okShip (f i)) (hr : Lies w w.heap.size 7 A 8 (Gm.shipCells f)) :
    Calls Try.prog 83 #[.slice A 8 c, .func (.func 84) #[] #[]] w fun e w' => e = .returned (.bool true) ∧ Below w.heap.size w w' := by
  have hmf : ∀ (fn : Fn) (first cap : Array Value) (w : World), (Instr.makeFunc fn first cap).run Try.prog w = .ok (.func fn first cap) w := fun _ _ _ _ => rfl
  have hb0 := one_below w (.cells #[.func (.func 84) #[] #[]] 129)
  have c1 := Lib.hid (containsship_no f A c w.heap.size _ hok ((hr.below hb0).wider hb0.size) (Box.made w _ _))
  have hbz := Lib.hid hb0
  clear hr hok hb0
  go_enter Try.func83, Try.ntmps83
  go_wp2_with (go_at_call 92; ((with_reducible refine ((c1).out).mono ?_); rintro e w1 ⟨rfl, hb1⟩))
  go_ret
  exact ⟨rfl, hbz.out.trans (hb1.mono hbz.out.size)⟩

set_option maxHeartbeats 1000000 in
theorem allshot1_yes (s : Gm.Shot) (h : Gm.okShot s) (Bf : Nat) (w : World) (hf : Box w Bf 131 #[.func (.func 86) #[] #[]]) :
    Calls Try.prog 97 #[.agg s.cells.toArray, .pointer (some ⟨Bf, 0, none⟩)] w fun e w' => e = .returned (.bool false) ∧ Below w.heap.size w w' := by
  have c1 := fun X => Lib.hid (mayshot_yes s h X)
  have hK : ∀ o, (w.alloc o).cell? ⟨Bf, 0, none⟩ = some (.func (.func 86) #[] #[]) := fun o => (hf.alloc o).cell 0
  obtain ⟨owner, x, y, vx, vy, left⟩ := s
  simp only [Gm.Shot.cells] at c1 ⊢
  clear h hf
  go_enter Try.func97, Try.ntmps97
  go_wp2_with (go_at_call 86; ((with_reducible refine ((c1 _).out).mono ?_); rintro e w1 ⟨rfl, hb1⟩))
  go_ret
  exact ⟨rfl, (one_below w _).trans (hb1.mono (by simp))⟩

set_option maxRecDepth 100000 in
set_option maxHeartbeats 2000000 in
theorem indexshot_yes (l : List Gm.Shot) (A : Option Addr) (n c : Nat) (Bf : Nat) (w : World) (hok : ∀ i (h : i < l.length), Gm.okShot l[i]) (hn : n = l.length) (hn32 : n ≤ 32) (hr : Lies w w.heap.size 6 A n (Gm.shotCells l)) (hf : Box w Bf 131 #[.func (.func 86) #[] #[]]) :
    Calls Try.prog 107 #[.slice A n c, .func (.func 97) #[] #[.pointer (some ⟨Bf, 0, none⟩)]] w fun e w' => e = .returned (.int .i64 (-1)) ∧ Below w.heap.size w w' := by
  have hN := Lib.hid hn
  clear hn
  go_enter Try.func107, Try.ntmps107
  go_wp2
  go_loopw [8] (fun i wr => ∃ k : Nat, k ≤ n ∧ i = .int .i64 k ∧ Below w.heap.size w wr) (fun i _ => n - (intOf i).toNat)
  case atStart => exact ⟨0, by omega, rfl, Below.refl _ _⟩
  case round =>
    obtain ⟨k, hk, rfl, hb⟩ := hrel
    by_cases hlt : k < n
    · have hbs := hb.size
      obtain ⟨ad, rfl, hbl, e0, e1, e2, e3, e4, e5⟩ := shots_at (hr.below hb) hN.out k (by have := hN.out; omega)
      have ho := hok k (by have := hN.out; omega)
      have cc := fun X hX => Lib.hid (allshot1_yes (l[k]'(by have := hN.out; omega)) ho Bf X hX)
      have hfb := hf.below hb hf.lt
      generalize l[k]'(by have := hN.out; omega) = s at e0 e1 e2 e3 e4 e5 ho cc
      obtain ⟨owner, x, y, vx, vy, left⟩ := s
      dsimp only at e0 e1 e2 e3 e4 e5
      simp only [Gm.Shot.cells] at cc
      have hkn : (k : Int) < n := by omega
      have HB := Lib.hid hb
      have HF := Lib.hid hfb
      clear hr hok ho hb hf hfb
      go_wp2_with (go_at_call 97; ((with_reducible refine ((cc _ (by first | exact HF.out)).out).mono ?_); rintro e w1 ⟨rfl, hb1⟩))
      go_roundw
      case rel => exact ⟨k + 1, by omega, by go_num, HB.out.trans (hb1.mono HB.out.size)⟩
      case measure => simp [intOf]; omega
    · have hkn : ¬ (k : Int) < n := by omega
      clear hr
      go_wp2
      go_ret
      exact ⟨rfl, hb⟩

set_option maxHeartbeats 1000000 in
theorem containsshot_no (l : List Gm.Shot) (A : Option Addr) (n c : Nat) (Bf : Nat) (w : World) (hok : ∀ i (h : i < l.length), Gm.okShot l[i]) (hn : n = l.length) (hn32 : n ≤ 32) (hr : Lies w w.heap.size 6 A n (Gm.shotCells l)) (hf : Box w Bf 131 #[.func (.func 86) #[] #[]]) :
    Calls Try.prog 96 #[.slice A n c, .func (.func 97) #[] #[.pointer (some ⟨Bf, 0, none⟩)]] w fun e w' => e = .returned (.bool false) ∧ Below w.heap.size w w' := by
  have c1 := Lib.hid (indexshot_yes l A n c Bf w hok hn hn32 hr hf)
  clear hr hok hf hn
  go_enter Try.func96, Try.ntmps96
  go_wp2_with (go_at_call 107; ((with_reducible refine ((c1).out).mono ?_); rintro e w1 ⟨rfl, hb1⟩))
  go_ret
  exact ⟨rfl, hb1⟩

set_option maxHeartbeats 1000000 in
theorem allshot_yes (l : List Gm.Shot) (A : Option Addr) (n c : Nat) (w : World) (hok : ∀ i (h : i < l.length), Gm.okShot l[i]) (hn : n = l.length) (hn32 : n ≤ 32) (hr : Lies w w.heap.size 6 A n (Gm.shotCells l)) :
    Calls Try.prog 85 #[.slice A n c, .func (.func 86) #[] #[]] w fun e w' => e = .returned (.bool true) ∧ Below w.heap.size w w' := by
  have hmf : ∀ (fn : Fn) (first cap : Array Value) (w : World), (Instr.makeFunc fn first cap).run Try.prog w = .ok (.func fn first cap) w := fun _ _ _ _ => rfl
  have hb0 := one_below w (.cells #[.func (.func 86) #[] #[]] 131)
  have c1 := Lib.hid (containsshot_no l A n c w.heap.size _ hok hn hn32 ((hr.below hb0).wider hb0.size) (Box.made w _ _))
  have hbz := Lib.hid hb0
  clear hr hok hb0 hn
  go_enter Try.func85, Try.ntmps85
  go_wp2_with (go_at_call 96; ((with_reducible refine ((c1).out).mono ?_); rintro e w1 ⟨rfl, hb1⟩))
  go_ret
  exact ⟨rfl, hbz.out.trans (hb1.mono hbz.out.size)⟩

set_option maxRecDepth 100000 in
set_option maxHeartbeats 2000000 in
theorem may_yes (g : Gm.G) (A : Option Addr) (n c : Nat) (w : World) (hg : Gm.ok g) (hn : n = g.shots.length) (hr : Lies w w.heap.size 6 A n (Gm.shotCells g.shots)) :
    Calls Try.prog 65 #[.agg (Gm.cells g (.slice A n c))] w fun e w' => e = .returned (.bool true) ∧ Below w.heap.size w w' := by
  obtain ⟨hf1, hf2, hl, hships, hshots⟩ := hg
  have d1 : decide (g.frame < 0) = false := decide_eq_false (by omega)
  have d2 : decide (1048576 < g.frame) = false := decide_eq_false (by omega)
  have d3 : decide (32 < (n : Int)) = false := decide_eq_false (by omega)
  have B0 := Box.made w 28 (Gm.cells g (.slice A n c))
  have hb0 := one_below w (.cells (Gm.cells g (.slice A n c)) 28)
  have c1 := Lib.hid (allship_yes g.ship (some ⟨w.heap.size, 2, none⟩) 8 _ hships (ships_lie B0))
  have c2 := fun X (hX : Below w.heap.size w X) => Lib.hid (allshot_yes g.shots A n c X hshots hn (by omega) ((hr.below hX).wider hX.size))
  have hc : ∀ j, (w.alloc (.cells (Gm.cells g (.slice A n c)) 28)).cell? ⟨w.heap.size, j, none⟩ = (Gm.cells g (.slice A n c))[j]? := fun j => B0.cell j
  have h0 := Gm.cells_0 g (.slice A n c)
  have h58 := Gm.cells_58 g (.slice A n c)
  have BB := Lib.hid B0
  have HB := Lib.hid hb0
  clear hr hships hshots B0 hb0 hn
  go_enter Try.func65, Try.ntmps65
  go_wp2_with (first | (go_at_call 83; ((with_reducible refine ((c1).out).mono ?_); rintro e w1 ⟨rfl, hb1⟩; have hc1 := (BB.out.below hb1 BB.out.lt).cell; have HB1 := Lib.hid (HB.out.trans (hb1.mono HB.out.size)))) | (go_at_call 85; ((with_reducible refine ((c2 _ (HB1.out)).out).mono ?_); rintro e w2 ⟨rfl, hb2⟩)))
  go_ret
  exact ⟨rfl, HB1.out.trans (hb2.mono HB1.out.size)⟩
end Go.Proofs.Ytghomofakpjglaa
namespace Go.Proofs.Ytghomofakpjglaa
open Go.RowKit
set_option linter.unusedVariables false

theorem ifs7 (w : World) (a b c d e f g : Bool) : (if a = true then if b = true then if c = true then if d = true then if e = true then if f = true then if g = true then Result.ok true w else Result.ok false w else Result.ok false w else Result.ok false w else Result.ok false w else Result.ok false w else Result.ok false w else Result.ok false w) = Result.ok (a && (b && (c && (d && (e && (f && g)))))) w := by
  cases a <;> cases b <;> cases c <;> cases d <;> cases e <;> cases f <;> cases g <;> rfl
set_option maxHeartbeats 1000000 in
theorem ship_eq (s t : Gm.Ship) (w : World) : (Op.equalIn 9999 24 (.agg s.cells.toArray) (.agg t.cells.toArray)).run Try.prog w = .ok (s.eqB t) w := by
  obtain ⟨a1, a2, a3, a4, a5, a6, a7⟩ := s
  obtain ⟨b1, b2, b3, b4, b5, b6, b7⟩ := t
  have h := ifs7 w (a1 == b1) (a2 == b2) (a3 == b3) (a4 == b4) (a5 == b5) (a6 == b6) (a7 == b7)
  simp only [beq_iff_eq] at h
  simp only [Gm.Ship.cells]
  go_simp
  rfl
theorem ship_info : (Try.prog.info? 24).map (·.size) = some 7 := by kernel_rfl
set_option maxHeartbeats 1000000 in
theorem ship_part (f : Nat → Gm.Ship) (i : Nat) (hi : i < 8) (w : World) : (part 24 (Gm.shipCells f).toArray (i * 7)).run Try.prog w = .ok (.agg (f i).cells.toArray) w := by
  have h := Gm.shipCells_list f i hi
  cases hq : Try.prog.info? 24 with
  | none => have := ship_info; simp [hq] at this
  | some j =>
    have hs : j.size = 7 := by have := ship_info; simpa [hq] using this
    simp [part, isAgg, sizeOf, typeInfo, hq, hs, run_underlying (Try.underlying24) w, h]
theorem ships_eq (f g : Nat → Gm.Ship) (w : World) : (Op.equalIn 10000 25 (.agg (Gm.shipCells f).toArray) (.agg (Gm.shipCells g).toArray)).run Try.prog w = .ok (Gm.shipsEq f g) w := by
  cases hq : Try.prog.info? 24 with
  | none => have := ship_info; simp [hq] at this
  | some j =>
    have hs : Try.prog.cellsOf 24 = 7 := by kernel_rfl
    rw [run_equalIn_array w 9999 _ _ Try.underlying25 hq, hs]
    exact run_eqItems_all w 9999 _ 7 _ _ (fun i => .agg (f i).cells.toArray) (fun i => .agg (g i).cells.toArray) (fun i => (f i).eqB (g i)) (List.range 8)
      (fun i hi => ⟨ship_part f i (by simpa using hi) w, ship_part g i (by simpa using hi) w, ship_eq _ _ w⟩)
theorem ships_neq (f g : Nat → Gm.Ship) (w : World) : (binOp .neq 25 (.agg (Gm.shipCells f).toArray) (.agg (Gm.shipCells g).toArray)).run Try.prog w = .ok (.bool (!Gm.shipsEq f g)) w := by
  simp only [binOp]
  simp [Op.equal, Op.maxDepth, ships_eq]
end Go.Proofs.Ytghomofakpjglaa
