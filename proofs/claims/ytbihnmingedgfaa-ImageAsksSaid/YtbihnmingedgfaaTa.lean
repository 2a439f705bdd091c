/-
Rosters plainly: which may be, who has which slot, which slot is free, what a coming and a going make of one; how one lies in cells.
-/
import Derived.Test.YtbihnmingedgfaaKp
namespace Ros
open Go

/-- A roster: of its seats those of slots 0 to 7 count. -/
structure R where
  version : Int
  peer : Nat → Int
  gen : Nat → Int

def pair (r : R) (k : Nat) : List Value := [.int .i64 (r.peer k), .int .i64 (r.gen k)]
def seatCells (r : R) : List Value := pair r 0 ++ (pair r 1 ++ (pair r 2 ++ (pair r 3 ++ (pair r 4 ++ (pair r 5 ++ (pair r 6 ++ pair r 7))))))
/-- Its 17 cells. -/
def cells (r : R) : Array Value := (Value.int .i64 r.version :: seatCells r).toArray
theorem cells_size (r : R) : (cells r).size = 17 := rfl
theorem cells_0 (r : R) : (cells r)[0]? = some (.int .i64 r.version) := rfl
theorem cells_peer (r : R) (k : Nat) (hk : k < 8) : (cells r)[1 + k * 2]? = some (.int .i64 (r.peer k)) := by
  match k, hk with
  | 0, _ | 1, _ | 2, _ | 3, _ | 4, _ | 5, _ | 6, _ | 7, _ => rfl
theorem cells_gen (r : R) (k : Nat) (hk : k < 8) : (cells r)[1 + k * 2 + 1]? = some (.int .i64 (r.gen k)) := by
  match k, hk with
  | 0, _ | 1, _ | 2, _ | 3, _ | 4, _ | 5, _ | 6, _ | 7, _ => rfl
def upd (f : Nat → Int) (i : Nat) (v : Int) : Nat → Int := fun j => if j = i then v else f j
theorem upd_same (f : Nat → Int) (i : Nat) (v : Int) : upd f i v i = v := by unfold upd; rw [if_pos rfl]
theorem upd_other (f : Nat → Int) {i j : Nat} (v : Int) (h : j ≠ i) : upd f i v j = f j := by unfold upd; rw [if_neg h]
theorem cells_setv (r : R) (v : Int) : (cells r).setIfInBounds 0 (.int .i64 v) = cells { r with version := v } := rfl
theorem cells_setp (r : R) (k : Nat) (hk : k < 8) (v : Int) : (cells r).setIfInBounds (1 + k * 2) (.int .i64 v) = cells { r with peer := upd r.peer k v } := by
  unfold cells
  rw [List.setIfInBounds_toArray]
  match k, hk with
  | 0, _ | 1, _ | 2, _ | 3, _ | 4, _ | 5, _ | 6, _ | 7, _ => rfl
theorem cells_setg (r : R) (k : Nat) (hk : k < 8) (v : Int) : (cells r).setIfInBounds (1 + k * 2 + 1) (.int .i64 v) = cells { r with gen := upd r.gen k v } := by
  unfold cells
  rw [List.setIfInBounds_toArray]
  match k, hk with
  | 0, _ | 1, _ | 2, _ | 3, _ | 4, _ | 5, _ | 6, _ | 7, _ => rfl
theorem cells_ints (r : R) : ∀ v ∈ (cells r).toList, ∃ n : Int, v = .int .i64 n := by
  intro v hv
  simp only [cells, seatCells, pair, List.mem_cons, List.mem_append, List.not_mem_nil, or_false] at hv
  rcases hv with rfl | hv
  · exact ⟨_, rfl⟩
  · rcases hv with hv | hv | hv | hv | hv | hv | hv | hv <;> (rcases hv with rfl | rfl <;> exact ⟨_, rfl⟩)
/-- Only eight seats are looked at. -/
theorem cells_congr {r s : R} (hv : r.version = s.version) (hp : ∀ k, k < 8 → r.peer k = s.peer k) (hg : ∀ k, k < 8 → r.gen k = s.gen k) : cells r = cells s := by
  unfold cells seatCells pair
  rw [hv, hp 0 (by omega), hp 1 (by omega), hp 2 (by omega), hp 3 (by omega), hp 4 (by omega), hp 5 (by omega), hp 6 (by omega), hp 7 (by omega),
    hg 0 (by omega), hg 1 (by omega), hg 2 (by omega), hg 3 (by omega), hg 4 (by omega), hg 5 (by omega), hg 6 (by omega), hg 7 (by omega)]

/-! The slots, gone over. -/
abbrev Sl := { k : Nat // k < 8 }
def slots : Nat → Nat → List Sl
  | 0, _ => []
  | n + 1, i => if h : i < 8 then ⟨i, h⟩ :: slots n (i + 1) else []
abbrev all8 : List Sl := slots 8 0
theorem slots_yes {n i : Nat} (h : i < 8) : slots (n + 1) i = ⟨i, h⟩ :: slots n (i + 1) := by
  show (if _ : _ then _ else _) = _; rw [dif_pos h]
theorem slots_len : ∀ n i, (slots n i).length ≤ n
  | 0, _ => Nat.le_refl _
  | n + 1, i => by
    unfold slots
    split
    · have := slots_len n (i + 1); simp; omega
    · simp
theorem all8_is : all8 = [⟨0, by omega⟩, ⟨1, by omega⟩, ⟨2, by omega⟩, ⟨3, by omega⟩, ⟨4, by omega⟩, ⟨5, by omega⟩, ⟨6, by omega⟩, ⟨7, by omega⟩] := rfl
theorem mem_all8 (k : Nat) (hk : k < 8) : (⟨k, hk⟩ : Sl) ∈ all8 := by
  rw [all8_is]
  match k, hk with
  | 0, _ | 1, _ | 2, _ | 3, _ | 4, _ | 5, _ | 6, _ | 7, _ => simp

/-! Which may be. -/
def OkSeat (r : R) (k : Nat) : Prop := (0 ≤ r.gen k ∧ r.gen k ≤ 60000) ∧ (r.peer k = -1 ∨ ((0 ≤ r.peer k ∧ r.peer k < 12) ∧ 0 < r.gen k))
def Good (r : R) (l : List Sl) : Prop := (∀ y ∈ l, OkSeat r y.1) ∧ l.Pairwise (fun a b => r.peer a.1 = -1 ∨ r.peer a.1 ≠ r.peer b.1)
def Ok (r : R) : Prop := (0 ≤ r.version ∧ r.version ≤ 1073741824) ∧ Good r all8
instance (r : R) (k : Nat) : Decidable (OkSeat r k) := by unfold OkSeat; infer_instance
instance (r : R) (l : List Sl) : Decidable (Good r l) := by unfold Good; infer_instance
instance (r : R) : Decidable (Ok r) := by unfold Ok; infer_instance
def may (r : R) : Bool := decide (Ok r)

theorem good_nil (r : R) : Good r [] := ⟨by simp, .nil⟩
theorem good_snoc {r : R} {l : List Sl} {x : Sl} : Good r (l ++ [x]) ↔ Good r l ∧ OkSeat r x.1 ∧ ∀ y ∈ l, r.peer y.1 = -1 ∨ r.peer y.1 ≠ r.peer x.1 := by
  unfold Good
  rw [List.pairwise_append]
  simp only [List.mem_append, List.mem_singleton, List.pairwise_cons, List.not_mem_nil, false_imp_iff, implies_true, List.Pairwise.nil, and_true, true_and]
  constructor
  · rintro ⟨h1, h2, h3⟩
    exact ⟨⟨fun y hy => h1 y (.inl hy), h2⟩, h1 x (.inr rfl), fun y hy => h3 y hy x rfl⟩
  · rintro ⟨⟨h1, h2⟩, h3, h4⟩
    refine ⟨?_, h2, ?_⟩
    · rintro y (hy | rfl)
      · exact h1 y hy
      · exact h3
    · rintro y hy z rfl
      exact h4 y hy
theorem good_front {r : R} {l m : List Sl} (h : Good r (l ++ m)) : Good r l := by
  unfold Good at *
  exact ⟨fun y hy => h.1 y (by simp [hy]), (List.pairwise_append.1 h.2).1⟩
/-- Does one of them have the peer? -/
def hasF (r : R) (l : List Sl) (p : Nat) : Bool := l.any fun y => decide (r.peer y.1 = (p : Int))
theorem hasF_nil (r : R) (p : Nat) : hasF r [] p = false := rfl
theorem hasF_no {r : R} {l : List Sl} {x : Sl} (h : r.peer x.1 = -1) (p : Nat) : hasF r (l ++ [x]) p = hasF r l p := by
  unfold hasF
  rw [List.any_append]
  simp [h]
  try (intro hp; omega)
theorem hasF_yes {r : R} {l : List Sl} {x : Sl} {p : Nat} (h : r.peer x.1 = (p : Int)) (q : Nat) : hasF r (l ++ [x]) q = if q = p then true else hasF r l q := by
  unfold hasF
  rw [List.any_append]
  by_cases e : q = p
  · subst e; simp [h]
  · have e' : ¬ (p : Int) = (q : Int) := by omega
    simp [h, e, e']
theorem hasF_iff {r : R} {l : List Sl} {p : Nat} : hasF r l p = false ↔ ∀ y ∈ l, r.peer y.1 ≠ (p : Int) := by
  unfold hasF
  rw [List.any_eq_false]
  simp
/-- The twelve cells of 'has'. -/
def hasCells (f : Nat → Bool) : Array Value := #[.bool (f 0), .bool (f 1), .bool (f 2), .bool (f 3), .bool (f 4), .bool (f 5), .bool (f 6), .bool (f 7), .bool (f 8), .bool (f 9), .bool (f 10), .bool (f 11)]
theorem hasCells_at (f : Nat → Bool) (p : Nat) (hp : p < 12) : (hasCells f)[p]? = some (.bool (f p)) := by
  match p, hp with
  | 0, _ | 1, _ | 2, _ | 3, _ | 4, _ | 5, _ | 6, _ | 7, _ | 8, _ | 9, _ | 10, _ | 11, _ => rfl
theorem hasCells_set (f : Nat → Bool) (p : Nat) (hp : p < 12) : (hasCells f).setIfInBounds p (.bool true) = hasCells (fun q => if q = p then true else f q) := by
  match p, hp with
  | 0, _ | 1, _ | 2, _ | 3, _ | 4, _ | 5, _ | 6, _ | 7, _ | 8, _ | 9, _ | 10, _ | 11, _ => rfl
theorem Ok.seat {r : R} (h : Ok r) (k : Nat) (hk : k < 8) : OkSeat r k := h.2.1 ⟨k, hk⟩ (mem_all8 k hk)
theorem ok_iff {r : R} : Ok r ↔ (0 ≤ r.version ∧ r.version ≤ 1073741824) ∧ (∀ k, k < 8 → OkSeat r k) ∧ ∀ j k, j < k → k < 8 → r.peer j = -1 ∨ r.peer j ≠ r.peer k := by
  constructor
  · intro h
    refine ⟨h.1, h.seat, fun j k hjk hk => ?_⟩
    have h2 := h.2.2
    rw [all8_is] at h2
    rw [List.pairwise_iff_getElem] at h2
    have := h2 j k (by simp; omega) (by simp; omega) hjk
    have e : ∀ i (hi : i < 8), ([⟨0, by omega⟩, ⟨1, by omega⟩, ⟨2, by omega⟩, ⟨3, by omega⟩, ⟨4, by omega⟩, ⟨5, by omega⟩, ⟨6, by omega⟩, ⟨7, by omega⟩] : List Sl)[i] = ⟨i, hi⟩ := by
      intro i hi
      match i, hi with
      | 0, _ | 1, _ | 2, _ | 3, _ | 4, _ | 5, _ | 6, _ | 7, _ => rfl
    rw [e j (by omega), e k hk] at this
    exact this
  · rintro ⟨h1, h2, h3⟩
    refine ⟨h1, fun y _ => h2 y.1 y.2, ?_⟩
    rw [all8_is, List.pairwise_iff_getElem]
    intro i j hi hj hij
    have e : ∀ i (hi : i < 8), ([⟨0, by omega⟩, ⟨1, by omega⟩, ⟨2, by omega⟩, ⟨3, by omega⟩, ⟨4, by omega⟩, ⟨5, by omega⟩, ⟨6, by omega⟩, ⟨7, by omega⟩] : List Sl)[i] = ⟨i, hi⟩ := by
      intro i hi
      match i, hi with
      | 0, _ | 1, _ | 2, _ | 3, _ | 4, _ | 5, _ | 6, _ | 7, _ => rfl
    rw [e i (by simpa using hi), e j (by simpa using hj)]
    exact h3 i j hij (by simpa using hj)
theorem Ok.one {r : R} (h : Ok r) {j k : Nat} (hj : j < 8) (hk : k < 8) (he : r.peer j = r.peer k) (hn : r.peer j ≠ -1) : j = k := by
  have h3 := (ok_iff.1 h).2.2
  rcases Nat.lt_trichotomy j k with hl | hl | hl
  · rcases h3 j k hl hk with e | e
    · exact absurd e hn
    · exact absurd he e
  · exact hl
  · rcases h3 k j hl hj with e | e
    · exact absurd (he.trans e) hn
    · exact absurd he.symm e

/-! Who has which slot. -/
def new : R := ⟨0, fun _ => -1, fun _ => 0⟩
def seatOf (r : R) (p : Int) : List Sl → Int
  | [] => -1
  | x :: l => if r.peer x.1 = p then x.1 else seatOf r p l
def of (r : R) (p : Int) : Int := if Ok r ∧ 0 ≤ p ∧ p < 12 then seatOf r p all8 else -1
theorem seatOf_none {r : R} {p : Int} : ∀ {l : List Sl}, (∀ y ∈ l, r.peer y.1 ≠ p) → seatOf r p l = -1
  | [], _ => rfl
  | x :: l, h => by
    unfold seatOf
    rw [if_neg (h x (by simp))]
    exact seatOf_none fun y hy => h y (by simp [hy])
theorem seatOf_first {r : R} {p : Int} {x : Sl} {m : List Sl} : ∀ {l : List Sl}, (∀ y ∈ l, r.peer y.1 ≠ p) → r.peer x.1 = p → seatOf r p (l ++ x :: m) = x.1
  | [], _, hx => by show (if _ then _ else _) = _; rw [if_pos hx]
  | z :: l, h, hx => by
    show (if _ then _ else _) = _
    rw [if_neg (h z (by simp))]
    exact seatOf_first (fun y hy => h y (by simp [hy])) hx
theorem seatOf_cases (r : R) (p : Int) : ∀ l : List Sl, (seatOf r p l = -1 ∧ ∀ y ∈ l, r.peer y.1 ≠ p) ∨ ∃ y ∈ l, seatOf r p l = (y.1 : Nat) ∧ r.peer y.1 = p
  | [] => .inl ⟨rfl, by simp⟩
  | x :: l => by
    unfold seatOf
    by_cases h : r.peer x.1 = p
    · rw [if_pos h]; exact .inr ⟨x, by simp, rfl, h⟩
    · rw [if_neg h]
      rcases seatOf_cases r p l with ⟨h1, h2⟩ | ⟨y, h1, h2, h3⟩
      · refine .inl ⟨h1, fun y hy => ?_⟩
        rcases List.mem_cons.1 hy with rfl | hy
        · exact h
        · exact h2 y hy
      · exact .inr ⟨y, by simp [h1], h2, h3⟩
theorem of_cases {r : R} {p : Int} (hr : Ok r) (h0 : 0 ≤ p) (h1 : p < 12) : (of r p = -1 ∧ ∀ k, k < 8 → r.peer k ≠ p) ∨ ∃ k : Nat, k < 8 ∧ of r p = k ∧ r.peer k = p := by
  unfold of
  rw [if_pos ⟨hr, h0, h1⟩]
  rcases seatOf_cases r p all8 with ⟨h, h'⟩ | ⟨y, _, h, h'⟩
  · exact .inl ⟨h, fun k hk => h' ⟨k, hk⟩ (mem_all8 k hk)⟩
  · exact .inr ⟨y.1, y.2, h, h'⟩
/-- The free slot. -/
def freeStep (r : R) (st : Int × Int) (x : Sl) : Int × Int := if r.peer x.1 = -1 ∧ r.gen x.1 < st.2 then (x.1, r.gen x.1) else st
def freeSt (r : R) (l : List Sl) : Int × Int := l.foldl (freeStep r) (-1, 60000)
theorem freeSt_snoc (r : R) (l : List Sl) (x : Sl) : freeSt r (l ++ [x]) = freeStep r (freeSt r l) x := by
  unfold freeSt; rw [List.foldl_append]; rfl
def free (r : R) : Int := if Ok r then (freeSt r all8).1 else -1
/-- Who has a slot, by bits. -/
def maskStep (r : R) (m : Nat) (x : Sl) : Nat := if r.peer x.1 = -1 then m else m ||| 2 ^ x.1
def maskSt (r : R) (l : List Sl) : Nat := l.foldl (maskStep r) 0
theorem maskSt_snoc (r : R) (l : List Sl) (x : Sl) : maskSt r (l ++ [x]) = maskStep r (maskSt r l) x := by
  unfold maskSt; rw [List.foldl_append]; rfl
def mask (r : R) : Nat := if Ok r then maskSt r all8 else 0

/-! What becomes of a roster. -/
def MayTake (r : R) (slot peer : Int) : Prop := (((Ok r ∧ r.version < 1073741824) ∧ 0 ≤ slot ∧ slot < 8) ∧ (0 ≤ peer ∧ peer < 12) ∧ of r peer = -1) ∧ r.peer slot.toNat = -1 ∧ r.gen slot.toNat ≠ 60000
def take (r : R) (k : Nat) (peer : Int) : R := ⟨r.version + 1, upd r.peer k peer, upd r.gen k (r.gen k + 1)⟩
def MayGive (r : R) (slot : Int) : Prop := ((Ok r ∧ r.version < 1073741824) ∧ 0 ≤ slot ∧ slot < 8) ∧ r.peer slot.toNat ≠ -1
def give (r : R) (k : Nat) : R := ⟨r.version + 1, upd r.peer k (-1), r.gen⟩
instance (r : R) (s p : Int) : Decidable (MayTake r s p) := by unfold MayTake; infer_instance
instance (r : R) (s : Int) : Decidable (MayGive r s) := by unfold MayGive; infer_instance
end Ros
