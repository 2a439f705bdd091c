/-
Entries plainly: events, inputs, what may be; their bytes, there and back.
-/
import Derived.Test.YtbihnmingedgfaaNr
import Derived.Test.YtbihnmingedgfaaGm
namespace En
open Go Im
structure Ev where
  kind : Int
  slot : Int
  gen : Int
  peer : Int
/-- An entry: of the inputs those of slots 0 to 7 count. -/
structure E where
  frame : Int
  evs : List Ev
  inp : Nat → Gm.In
def Ev.cells (v : Ev) : List Value := [.int .i64 v.kind, .int .i64 v.slot, .int .i64 v.gen, .int .i64 v.peer]
def evCells (l : List Ev) : List Value := l.flatMap Ev.cells
theorem evCells_len (l : List Ev) : (evCells l).length = l.length * 4 := by
  induction l with
  | nil => rfl
  | cons s l ih => unfold evCells at *; rw [List.flatMap_cons, List.length_append, ih, List.length_cons]; simp [Ev.cells]; omega
theorem evCells_at (l : List Ev) (k j : Nat) (hk : k < l.length) (hj : j < 4) : (evCells l)[k * 4 + j]? = l[k].cells[j]? := by
  induction l generalizing k with
  | nil => simp at hk
  | cons s l ih =>
    unfold evCells at *
    rw [List.flatMap_cons]
    match k with
    | 0 => rw [List.getElem?_append_left (by simp [Ev.cells]; omega)]; simp
    | k + 1 =>
      rw [List.getElem?_append_right (by simp [Ev.cells]; omega)]
      have := ih k (by simpa using hk)
      rw [show (k + 1) * 4 + j - s.cells.length = k * 4 + j from by simp [Ev.cells]; omega, this]
      simp
theorem evCells_one (l : List Ev) : ∀ u ∈ evCells l, u.oneCell' = true := by
  intro u hu
  obtain ⟨s, _, hs⟩ := List.mem_flatMap.1 hu
  simp only [Ev.cells, List.mem_cons, List.not_mem_nil, or_false] at hs
  rcases hs with rfl | rfl | rfl | rfl <;> rfl
/-- The 26 cells of an entry whose events are the slice s. -/
def cells (e : E) (s : Value) : Array Value := ([Value.int .i64 e.frame, s] ++ Gm.insCells e.inp).toArray
theorem cells_size (e : E) (s : Value) : (cells e s).size = 26 := rfl
theorem cells_0 (e : E) (s : Value) : (cells e s)[0]? = some (.int .i64 e.frame) := rfl
theorem cells_1 (e : E) (s : Value) : (cells e s)[1]? = some s := rfl
theorem cells_in (e : E) (s : Value) (i k : Nat) (hi : i < 8) (hk : k < 3) : (cells e s)[2 + i * 3 + k]? = (e.inp i).cells[k]? := by
  match i, hi with
  | 0, _ => match k, hk with | 0, _ | 1, _ | 2, _ => rfl
  | 1, _ => match k, hk with | 0, _ | 1, _ | 2, _ => rfl
  | 2, _ => match k, hk with | 0, _ | 1, _ | 2, _ => rfl
  | 3, _ => match k, hk with | 0, _ | 1, _ | 2, _ => rfl
  | 4, _ => match k, hk with | 0, _ | 1, _ | 2, _ => rfl
  | 5, _ => match k, hk with | 0, _ | 1, _ | 2, _ => rfl
  | 6, _ => match k, hk with | 0, _ | 1, _ | 2, _ => rfl
  | 7, _ => match k, hk with | 0, _ | 1, _ | 2, _ => rfl
theorem cells_ins (e : E) (s : Value) : ∀ j v, (Gm.insCells e.inp)[j]? = some v → (cells e s)[2 + j]? = some v := fun j v hv => by
  unfold cells
  rw [List.getElem?_toArray, List.getElem?_append_right (by simp)]
  simpa using hv
theorem cells_one (e : E) (s : Value) (h : s.oneCell' = true) : (cells e s).all (·.oneCell') = true := by
  refine Array.all_eq_true_iff_forall_mem.2 fun v hv => ?_
  have hv : v ∈ [Value.int .i64 e.frame, s] ++ Gm.insCells e.inp := by simpa [cells] using hv
  simp only [Gm.insCells, Gm.In.cells, List.mem_append, List.mem_cons, List.not_mem_nil, or_false] at hv
  rcases hv with (rfl | rfl) | hv
  · rfl
  · exact h
  · rcases hv with hv | hv | hv | hv | hv | hv | hv | hv <;> (rcases hv with rfl | rfl | rfl <;> rfl)
def upd (f : Nat → Gm.In) (i : Nat) (p : Gm.In) : Nat → Gm.In := fun j => if j = i then p else f j
theorem upd_same (f : Nat → Gm.In) (i : Nat) (p : Gm.In) : upd f i p i = p := by unfold upd; rw [if_pos rfl]
theorem upd_other (f : Nat → Gm.In) {i j : Nat} (p : Gm.In) (h : j ≠ i) : upd f i p j = f j := by unfold upd; rw [if_neg h]
theorem cells_frame (e : E) (s : Value) (f : Int) : (cells e s).setIfInBounds 0 (.int .i64 f) = cells { e with frame := f } s := rfl
theorem cells_evs (e : E) (s s' : Value) : (cells e s).setIfInBounds 1 s' = cells e s' := rfl
theorem cells_setin (e : E) (s : Value) (i : Nat) (hi : i < 8) (p : Gm.In) :
    (((cells e s).setIfInBounds (2 + i * 3) (.int .i8 p.x)).setIfInBounds (2 + i * 3 + 1) (.int .i8 p.y)).setIfInBounds (2 + i * 3 + 2) (.int .u8 p.b) = cells { e with inp := upd e.inp i p } s := by
  match i, hi with
  | 0, _ | 1, _ | 2, _ | 3, _ | 4, _ | 5, _ | 6, _ | 7, _ => rfl
/-- Two entries that are alike where it counts lie alike. -/
def Like (e o : E) : Prop := e.frame = o.frame ∧ e.evs = o.evs ∧ ∀ i, i < 8 → e.inp i = o.inp i
theorem insCells_like {f g : Nat → Gm.In} (h : ∀ i, i < 8 → f i = g i) : Gm.insCells f = Gm.insCells g := by
  unfold Gm.insCells
  rw [h 0 (by omega), h 1 (by omega), h 2 (by omega), h 3 (by omega), h 4 (by omega), h 5 (by omega), h 6 (by omega), h 7 (by omega)]
theorem cells_like {e o : E} (h : Like e o) (s : Value) : cells e s = cells o s := by unfold cells; rw [h.1, insCells_like h.2.2]

/-! What may be. -/
def evOk (v : Ev) : Prop := (v.kind = 2 ∨ v.kind = 1) ∧ (0 ≤ v.slot ∧ v.slot < 8) ∧ (1 ≤ v.gen ∧ v.gen ≤ 60000) ∧ 0 ≤ v.peer ∧ v.peer < 12
instance (v : Ev) : Decidable (evOk v) := by unfold evOk; infer_instance
def place (v : Ev) : Int := if v.kind = 2 then v.slot else 8 + v.slot
def Row : Int → List Ev → Prop
  | _, [] => True
  | last, v :: l => (evOk v ∧ last < place v) ∧ Row (place v) l
instance rowDec : ∀ (last : Int) (l : List Ev), Decidable (Row last l)
  | _, [] => .isTrue trivial
  | last, v :: l => by unfold Row; exact @instDecidableAnd _ _ _ (rowDec (place v) l)
theorem place_lt {v : Ev} (h : evOk v) : 0 ≤ place v ∧ place v < 16 := by
  obtain ⟨h1, h2, _⟩ := h
  unfold place
  split <;> omega
theorem row_len : ∀ (l : List Ev) (last : Int), -1 ≤ last → last < 16 → Row last l → (l.length : Int) ≤ 15 - last
  | [], last, _, h, _ => by simp; omega
  | v :: l, last, h0, h1, h => by
    obtain ⟨⟨h2, h3⟩, h4⟩ := h
    have hp := place_lt h2
    have := row_len l (place v) (by omega) (by omega) h4
    simp only [List.length_cons]
    omega
theorem row_mem : ∀ (l : List Ev) (last : Int), Row last l → ∀ v ∈ l, evOk v
  | v :: l, last, h, u, hu => by
    rcases List.mem_cons.1 hu with rfl | hu
    · exact h.1.1
    · exact row_mem l _ h.2 u hu
def inOk (p : Gm.In) : Prop := -127 ≤ p.x ∧ -127 ≤ p.y
instance (p : Gm.In) : Decidable (inOk p) := by unfold inOk; infer_instance
structure Ok (e : E) : Prop where
  frame : 0 ≤ e.frame ∧ e.frame < 1048576
  row : Row (-1) e.evs
  ins : ∀ i, i < 8 → inOk (e.inp i)
instance (e : E) : Decidable (Ok e) := decidable_of_iff ((0 ≤ e.frame ∧ e.frame < 1048576) ∧ Row (-1) e.evs ∧ ∀ i, i < 8 → inOk (e.inp i)) ⟨fun h => ⟨h.1, h.2.1, h.2.2⟩, fun h => ⟨h.frame, h.row, h.ins⟩⟩
theorem Ok.count {e : E} (h : Ok e) : e.evs.length ≤ 16 := by
  have := row_len e.evs (-1) (by omega) (by omega) h.row
  omega
theorem Ok.like {e o : E} (h : Ok e) (k : Like e o) : Ok o := ⟨k.1 ▸ h.frame, k.2.1 ▸ h.row, fun i hi => k.2.2 i hi ▸ h.ins i hi⟩
def i64 (x : Int) : Prop := -9223372036854775808 ≤ x ∧ x ≤ 9223372036854775807
def tyEv (v : Ev) : Prop := i64 v.kind ∧ i64 v.slot ∧ i64 v.gen ∧ i64 v.peer
structure Ty (e : E) : Prop where
  frame : i64 e.frame
  evs : ∀ v ∈ e.evs, tyEv v
  ins : ∀ i, i < 8 → Gm.tyIn (e.inp i)
theorem evOk.ty {v : Ev} (h : evOk v) : tyEv v := by
  obtain ⟨h1, h2, h3, h4⟩ := h
  unfold tyEv i64
  omega

/-! Bytes. -/
def zero (p : Gm.In) : Bool := decide (p.x = 0 ∧ p.y = 0 ∧ p.b = 0)
def mask (f : Nat → Gm.In) : Nat → Nat
  | 0 => 0
  | k + 1 => mask f k + (if zero (f k) then 0 else 2 ^ k)
theorem mask_lt (f : Nat → Gm.In) : ∀ k, mask f k < 2 ^ k
  | 0 => by simp [mask]
  | k + 1 => by unfold mask; have := mask_lt f k; rw [Nat.pow_succ]; split <;> omega
theorem mask_congr {f g : Nat → Gm.In} : ∀ k, (∀ i, i < k → f i = g i) → mask f k = mask g k
  | 0, _ => rfl
  | k + 1, h => by unfold mask; rw [mask_congr k fun i hi => h i (by omega), h k (by omega)]
theorem mask_bit (f : Nat → Gm.In) : ∀ n k, k < n → (mask f n).testBit k = !zero (f k)
  | n + 1, k, hk => by
    unfold mask
    have hm := mask_lt f n
    by_cases e : k = n
    · subst e
      cases hz : zero (f k)
      · simp only [Bool.false_eq_true, if_false, Bool.not_false]
        rw [Nat.add_comm, Nat.testBit_two_pow_add_eq, Nat.testBit_lt_two_pow hm]
        rfl
      · simp only [if_true, Nat.add_zero, Bool.not_true]
        exact Nat.testBit_lt_two_pow hm
    · have ih := mask_bit f n k (by omega)
      cases hz : zero (f n)
      · simp only [Bool.false_eq_true, if_false]
        rw [Nat.add_comm, Nat.testBit_two_pow_add_gt (by omega), ih]
      · simp only [if_true, Nat.add_zero]
        exact ih
theorem mask_of (f : Nat → Gm.In) (m n : Nat) (h : ∀ k, k < n → (!zero (f k)) = m.testBit k) : mask f n = m % 2 ^ n := by
  apply Nat.eq_of_testBit_eq
  intro i
  rw [Nat.testBit_mod_two_pow]
  by_cases hi : i < n
  · rw [mask_bit f n i hi, h i hi]
    simp [hi]
  · rw [Nat.testBit_lt_two_pow (Nat.lt_of_lt_of_le (mask_lt f n) (Nat.pow_le_pow_right (by decide) (by omega)))]
    simp [hi]
def evBytes (v : Ev) : List Int := bytesOf 1 v.kind ++ (bytesOf 1 v.slot ++ (bytesOf 2 v.gen ++ bytesOf 1 v.peer))
def evsBytes (l : List Ev) : List Int := l.flatMap evBytes
def inBytes (p : Gm.In) : List Int := bytesOf 1 p.x ++ (bytesOf 1 p.y ++ bytesOf 1 p.b)
def insBytes (f : Nat → Gm.In) : Nat → List Int
  | 0 => []
  | k + 1 => insBytes f k ++ (if zero (f k) then [] else inBytes (f k))
theorem evBytes_len (v : Ev) : (evBytes v).length = 5 := by unfold evBytes; simp only [List.length_append, bytesOf_len]
theorem inBytes_len (p : Gm.In) : (inBytes p).length = 3 := by unfold inBytes; simp only [List.length_append, bytesOf_len]
theorem evsBytes_len (l : List Ev) : (evsBytes l).length = 5 * l.length := by
  induction l with
  | nil => rfl
  | cons s l ih => unfold evsBytes at *; rw [List.flatMap_cons, List.length_append, ih, evBytes_len, List.length_cons]; omega
theorem evsBytes_snoc (l : List Ev) (k : Nat) (h : k < l.length) : evsBytes (l.take (k + 1)) = evsBytes (l.take k) ++ evBytes l[k] := by
  unfold evsBytes
  rw [List.take_succ_eq_append_getElem h, List.flatMap_append]
  simp
theorem insBytes_le (f : Nat → Gm.In) : ∀ k, (insBytes f k).length ≤ 3 * k
  | 0 => Nat.le_refl _
  | k + 1 => by
    unfold insBytes
    have := insBytes_le f k
    rw [List.length_append]
    split
    · simp; omega
    · rw [inBytes_len]; omega
/-- An entry's bytes. -/
def put (e : E) : List Int := bytesOf 4 e.frame ++ ((bytesOf 1 e.evs.length ++ evsBytes e.evs) ++ (bytesOf 1 (mask e.inp 8) ++ insBytes e.inp 8))
theorem insBytes_congr {f g : Nat → Gm.In} : ∀ k, (∀ i, i < k → f i = g i) → insBytes f k = insBytes g k
  | 0, _ => rfl
  | k + 1, h => by unfold insBytes; rw [insBytes_congr k fun i hi => h i (by omega), h k (by omega)]
theorem put_like {e o : E} (h : Like e o) : put e = put o := by unfold put; rw [h.1, h.2.1, mask_congr 8 h.2.2, insBytes_congr 8 h.2.2]
theorem put_le {e : E} (h : e.evs.length ≤ 16) : (put e).length ≤ 110 := by
  have h1 := evsBytes_len e.evs
  have h2 := insBytes_le e.inp 8
  unfold put
  simp only [List.length_append, bytesOf_len]
  omega
theorem bytesOf_wrap1 (x : Int) : bytesOf 1 (IntKind.u64.wrap x) = bytesOf 1 x := by
  unfold bytesOf bytesOf
  rw [IntKind.wrap_u64]
  simp only [Nat.mul_zero, List.nil_append, List.cons.injEq, and_true]
  omega
theorem put_bytes (e : E) : IsBytes (put e) := by
  have b1 : ∀ l : List Ev, IsBytes (evsBytes l) := fun l x hx => by
    obtain ⟨v, _, hx⟩ := List.mem_flatMap.1 hx
    exact ((bytesOf_bytes 1 _).app ((bytesOf_bytes 1 _).app ((bytesOf_bytes 2 _).app (bytesOf_bytes 1 _)))) x hx
  have b2 : ∀ k, IsBytes (insBytes e.inp k) := fun k => by
    induction k with
    | zero => exact IsBytes.nil
    | succ k ih =>
      unfold insBytes
      refine ih.app ?_
      split
      · exact IsBytes.nil
      · exact (bytesOf_bytes 1 _).app ((bytesOf_bytes 1 _).app (bytesOf_bytes 1 _))
  exact (bytesOf_bytes 4 _).app (((bytesOf_bytes 1 _).app (b1 _)).app ((bytesOf_bytes 1 _).app (b2 8)))
end En
