/-
The game plainly: ships, shots, what a frame, a spawn, a removal make of it; how it lies in cells.
-/
import Derived.Test.YtbihnmingedgfaaGf
import Derived.Test.YtbihnmingedgfaaDn
import Derived.WalkKit
namespace Gm
open Go

structure Ship where
  on : Bool
  x : Int
  y : Int
  vx : Int
  vy : Int
  cool : Int
  score : Int
structure Shot where
  owner : Int
  x : Int
  y : Int
  vx : Int
  vy : Int
  left : Int
structure In where
  x : Int
  y : Int
  b : Int
/-- A game: of the ships those of slots 0 to 7 count. -/
structure G where
  frame : Int
  dice : Int
  ship : Nat → Ship
  shots : List Shot

def Ship.none : Ship := ⟨false, 0, 0, 0, 0, 0, 0⟩
def upd (f : Nat → Ship) (i : Nat) (s : Ship) : Nat → Ship := fun j => if j = i then s else f j

def Ship.cells (s : Ship) : List Value := [.bool s.on, .int .i32 s.x, .int .i32 s.y, .int .i32 s.vx, .int .i32 s.vy, .int .i64 s.cool, .int .i64 s.score]
def Shot.cells (s : Shot) : List Value := [.int .i64 s.owner, .int .i32 s.x, .int .i32 s.y, .int .i32 s.vx, .int .i32 s.vy, .int .i64 s.left]
def In.cells (p : In) : List Value := [.int .i8 p.x, .int .i8 p.y, .int .u8 p.b]
def shipCells (f : Nat → Ship) : List Value := (f 0).cells ++ ((f 1).cells ++ ((f 2).cells ++ ((f 3).cells ++ ((f 4).cells ++ ((f 5).cells ++ ((f 6).cells ++ (f 7).cells))))))
/-- The 59 cells of a game whose shots are the slice s. -/
def cells (g : G) (s : Value) : Array Value := ([Value.int .i64 g.frame, Value.int .u64 g.dice] ++ shipCells g.ship ++ [s]).toArray

theorem shipCells_len (f : Nat → Ship) : (shipCells f).length = 56 := rfl
theorem cells_size (g : G) (s : Value) : (cells g s).size = 59 := rfl
theorem cells_0 (g : G) (s : Value) : (cells g s)[0]? = some (.int .i64 g.frame) := rfl
theorem cells_1 (g : G) (s : Value) : (cells g s)[1]? = some (.int .u64 g.dice) := rfl
theorem cells_58 (g : G) (s : Value) : (cells g s)[58]? = some s := rfl
theorem cells_ship (g : G) (s : Value) (i k : Nat) (hi : i < 8) (hk : k < 7) : (cells g s)[2 + i * 7 + k]? = (g.ship i).cells[k]? := by
  match i, hi with
  | 0, _ => match k, hk with | 0, _ | 1, _ | 2, _ | 3, _ | 4, _ | 5, _ | 6, _ => rfl
  | 1, _ => match k, hk with | 0, _ | 1, _ | 2, _ | 3, _ | 4, _ | 5, _ | 6, _ => rfl
  | 2, _ => match k, hk with | 0, _ | 1, _ | 2, _ | 3, _ | 4, _ | 5, _ | 6, _ => rfl
  | 3, _ => match k, hk with | 0, _ | 1, _ | 2, _ | 3, _ | 4, _ | 5, _ | 6, _ => rfl
  | 4, _ => match k, hk with | 0, _ | 1, _ | 2, _ | 3, _ | 4, _ | 5, _ | 6, _ => rfl
  | 5, _ => match k, hk with | 0, _ | 1, _ | 2, _ | 3, _ | 4, _ | 5, _ | 6, _ => rfl
  | 6, _ => match k, hk with | 0, _ | 1, _ | 2, _ | 3, _ | 4, _ | 5, _ | 6, _ => rfl
  | 7, _ => match k, hk with | 0, _ | 1, _ | 2, _ | 3, _ | 4, _ | 5, _ | 6, _ => rfl

def inF (a : Int) : Prop := 0 ≤ a ∧ a < 16777216
def slow (a m : Int) : Prop := -m ≤ a ∧ a ≤ m
def okShip (s : Ship) : Prop := (s.on = true ∨ s = Ship.none) ∧ inF s.x ∧ inF s.y ∧ slow s.vx 524288 ∧ slow s.vy 524288 ∧ 0 ≤ s.cool ∧ s.cool ≤ 10 ∧ 0 ≤ s.score ∧ s.score ≤ 1073741824
def okShot (s : Shot) : Prop := 0 ≤ s.owner ∧ s.owner < 8 ∧ inF s.x ∧ inF s.y ∧ slow s.vx 393216 ∧ slow s.vy 393216 ∧ 1 ≤ s.left ∧ s.left ≤ 24
/-- Which games may be. -/
def ok (g : G) : Prop := 0 ≤ g.frame ∧ g.frame ≤ 1048576 ∧ g.shots.length ≤ 32 ∧ (∀ i, i < 8 → okShip (g.ship i)) ∧ (∀ i (h : i < g.shots.length), okShot g.shots[i])

/-- Numbers of their types. -/
def i32 (a : Int) : Prop := -2147483648 ≤ a ∧ a ≤ 2147483647
def i64 (a : Int) : Prop := -9223372036854775808 ≤ a ∧ a ≤ 9223372036854775807
def tyShip (s : Ship) : Prop := i32 s.x ∧ i32 s.y ∧ i32 s.vx ∧ i32 s.vy ∧ i64 s.cool ∧ i64 s.score
def tyShot (s : Shot) : Prop := i64 s.owner ∧ i32 s.x ∧ i32 s.y ∧ i32 s.vx ∧ i32 s.vy ∧ i64 s.left
def ty (g : G) : Prop := i64 g.frame ∧ (0 ≤ g.dice ∧ g.dice ≤ 18446744073709551615) ∧ (∀ i, i < 8 → tyShip (g.ship i)) ∧ (∀ i (h : i < g.shots.length), tyShot g.shots[i])
theorem okShip.ty {s : Ship} (h : okShip s) : tyShip s := by
  obtain ⟨_, h1, h2, h3, h4, h5⟩ := h; unfold inF slow at *; unfold tyShip i32 i64; omega
theorem okShot.ty {s : Shot} (h : okShot s) : tyShot s := by
  obtain ⟨h0, h0', h1, h2, h3, h4, h5⟩ := h; unfold inF slow at *; unfold tyShot i32 i64; omega

def shotCells (l : List Shot) : List Value := l.flatMap Shot.cells
theorem shotCells_len (l : List Shot) : (shotCells l).length = l.length * 6 := by
  induction l with
  | nil => rfl
  | cons s l ih => unfold shotCells at *; rw [List.flatMap_cons, List.length_append, ih, List.length_cons]; simp [Shot.cells]; omega
theorem shotCells_at (l : List Shot) (k j : Nat) (hk : k < l.length) (hj : j < 6) : (shotCells l)[k * 6 + j]? = l[k].cells[j]? := by
  induction l generalizing k with
  | nil => simp at hk
  | cons s l ih =>
    unfold shotCells at *
    rw [List.flatMap_cons]
    match k with
    | 0 => rw [List.getElem?_append_left (by simp [Shot.cells]; omega)]; simp
    | k + 1 =>
      rw [List.getElem?_append_right (by simp [Shot.cells]; omega)]
      have := ih k (by simpa using hk)
      rw [show (k + 1) * 6 + j - s.cells.length = k * 6 + j from by simp [Shot.cells]; omega, this]
      simp
theorem shotCells_append (l m : List Shot) : shotCells (l ++ m) = shotCells l ++ shotCells m := by unfold shotCells; rw [List.flatMap_append]

/-! What becomes of a game. -/
def new (d : Int) : G := ⟨0, d, fun _ => Ship.none, []⟩
def placeX (d : Int) : Int := Dn.share (Dn.next d) 16777216
def placeY (d : Int) : Int := Dn.share (Dn.next (Dn.next d)) 16777216
def placeD (d : Int) : Int := Dn.next (Dn.next d)
def spawn (g : G) (i : Nat) : G := { g with dice := placeD g.dice, ship := upd g.ship i ⟨true, placeX g.dice, placeY g.dice, 0, 0, 0, 0⟩ }
def remove (g : G) (i : Nat) : G := { g with ship := upd g.ship i Ship.none, shots := g.shots.filter fun s => decide (s.owner ≠ i) }

def hits1 (f : Nat → Ship) (s : Shot) (i : Nat) : Bool := (f i).on && (decide ((i : Int) ≠ s.owner) && Gf.hits s.x s.y (f i).x (f i).y)
def hitFrom (f : Nat → Ship) (s : Shot) : Nat → Nat → Int
  | 0, _ => -1
  | n + 1, i => if hits1 f s i then (i : Int) else hitFrom f s n (i + 1)
def hit (f : Nat → Ship) (s : Shot) : Int := hitFrom f s 8 0
theorem hitFrom_no {f : Nat → Ship} {s : Shot} {n i : Nat} (h : hits1 f s i = false) : hitFrom f s (n + 1) i = hitFrom f s n (i + 1) := by
  show (if hits1 f s i then _ else _) = _; rw [h]; rfl
theorem hitFrom_yes {f : Nat → Ship} {s : Shot} {n i : Nat} (h : hits1 f s i = true) : hitFrom f s (n + 1) i = i := by
  show (if hits1 f s i then _ else _) = _; rw [h]; rfl
theorem hitFrom_bd (f : Nat → Ship) (s : Shot) : ∀ n i, hitFrom f s n i = -1 ∨ ∃ k, hitFrom f s n i = (k : Nat) ∧ i ≤ k ∧ k < i + n ∧ hits1 f s k = true
  | 0, i => .inl rfl
  | n + 1, i => by
    cases h : hits1 f s i
    · rw [hitFrom_no h]
      rcases hitFrom_bd f s n (i + 1) with h' | ⟨k, h1, h2, h3, h4⟩
      · exact .inl h'
      · exact .inr ⟨k, h1, by omega, by omega, h4⟩
    · exact .inr ⟨i, hitFrom_yes h, by omega, by omega, h⟩
theorem hit_bd (f : Nat → Ship) (s : Shot) : hit f s = -1 ∨ ∃ k, hit f s = (k : Nat) ∧ k < 8 ∧ hits1 f s k = true := by
  rcases hitFrom_bd f s 8 0 with h | ⟨k, h1, _, h3, h4⟩
  · exact .inl h
  · exact .inr ⟨k, h1, by omega, h4⟩

def nvx (p : In) (s : Ship) : Int := Gf.push s.vx (Gf.tame p.x)
def nvy (p : In) (s : Ship) : Int := Gf.push s.vy (Gf.tame p.y)
def nx (p : In) (s : Ship) : Int := Gf.move s.x (nvx p s)
def ny (p : In) (s : Ship) : Int := Gf.move s.y (nvy p s)
/-- Does it shoot, with so many shots there? -/
def shoots (p : In) (n : Nat) (s : Ship) : Bool := decide (s.cool ≤ 0) && (decide (p.b % 2 = 1) && decide (n < 32))
def moved (p : In) (n : Nat) (s : Ship) : Ship :=
  if s.on = true then ⟨true, nx p s, ny p s, nvx p s, nvy p s, if 0 < s.cool then s.cool - 1 else if shoots p n s = true then 10 else s.cool, s.score⟩ else s
def made (p : In) (n : Nat) (i : Nat) (s : Ship) : List Shot :=
  if s.on = true ∧ shoots p n s = true then [⟨i, nx p s, ny p s, Gf.aimx (Gf.tame p.x) (Gf.tame p.y), Gf.aimy (Gf.tame p.y), 24⟩] else []
/-- The ships and the shots, once k ships have gone. -/
def ph1 (ps : Nat → In) (g : G) : Nat → (Nat → Ship) × List Shot
  | 0 => (g.ship, g.shots)
  | k + 1 => (upd (ph1 ps g k).1 k (moved (ps k) (ph1 ps g k).2.length ((ph1 ps g k).1 k)), (ph1 ps g k).2 ++ made (ps k) (ph1 ps g k).2.length k ((ph1 ps g k).1 k))

structure St where
  dice : Int
  ship : Nat → Ship
  left : List Shot
def fly (s : Shot) : Shot := ⟨s.owner, Gf.move s.x s.vx, Gf.move s.y s.vy, s.vx, s.vy, s.left - 1⟩
def anew (d : Int) (f : Nat → Ship) (k : Nat) : Nat → Ship := upd f k ⟨true, placeX d, placeY d, 0, 0, 0, (f k).score⟩
def more (f : Nat → Ship) (o : Nat) : Nat → Ship := if (f o).on = true then upd f o { f o with score := min ((f o).score + 1) 1073741824 } else f
def shot1 (st : St) (s0 : Shot) : St :=
  if (fly s0).left = 0 then st
  else if hit st.ship (fly s0) < 0 then { st with left := st.left ++ [fly s0] }
  else ⟨placeD st.dice, more (anew st.dice st.ship (hit st.ship (fly s0)).toNat) s0.owner.toNat, st.left⟩
def ph2 (st : St) (l : List Shot) : St := l.foldl shot1 st
def step (ps : Nat → In) (g : G) : G :=
  let st := ph2 ⟨g.dice, (ph1 ps g 8).1, []⟩ (ph1 ps g 8).2
  ⟨g.frame + 1, st.dice, st.ship, st.left⟩

/-! Sameness. -/
def Ship.eqB (s t : Ship) : Bool := s.on == t.on && (s.x == t.x && (s.y == t.y && (s.vx == t.vx && (s.vy == t.vy && (s.cool == t.cool && s.score == t.score)))))
def Shot.eqB (s t : Shot) : Bool := s.owner == t.owner && (s.x == t.x && (s.y == t.y && (s.vx == t.vx && (s.vy == t.vy && s.left == t.left))))
theorem Ship.eqB_iff {s t : Ship} : s.eqB t = true ↔ s = t := by
  obtain ⟨a1, a2, a3, a4, a5, a6, a7⟩ := s
  obtain ⟨b1, b2, b3, b4, b5, b6, b7⟩ := t
  simp [Ship.eqB]
theorem Shot.eqB_iff {s t : Shot} : s.eqB t = true ↔ s = t := by
  obtain ⟨a1, a2, a3, a4, a5, a6⟩ := s
  obtain ⟨b1, b2, b3, b4, b5, b6⟩ := t
  simp [Shot.eqB]
theorem Ship.eqB_refl (s : Ship) : s.eqB s = true := Ship.eqB_iff.2 rfl
theorem Shot.eqB_refl (s : Shot) : s.eqB s = true := Shot.eqB_iff.2 rfl
def shipsEq (f g : Nat → Ship) : Bool := (List.range 8).all fun i => (f i).eqB (g i)
theorem shipsEq_iff {f g : Nat → Ship} : shipsEq f g = true ↔ ∀ i, i < 8 → f i = g i := by
  unfold shipsEq; rw [List.all_eq_true]
  exact ⟨fun h i hi => Ship.eqB_iff.1 (h i (by simpa using hi)), fun h i hi => Ship.eqB_iff.2 (h i (by simpa using hi))⟩
/-- Two games in all parts: of the ships, the eight. -/
def Eq (g h : G) : Prop := g.frame = h.frame ∧ g.dice = h.dice ∧ (∀ i, i < 8 → g.ship i = h.ship i) ∧ g.shots = h.shots
theorem Eq.refl (g : G) : Eq g g := ⟨rfl, rfl, fun _ _ => rfl, rfl⟩
theorem shipCells_list (f : Nat → Ship) (i : Nat) (hi : i < 8) : ((shipCells f).drop (i * 7)).take 7 = (f i).cells := by
  match i, hi with
  | 0, _ => rfl
  | 1, _ => rfl
  | 2, _ => rfl
  | 3, _ => rfl
  | 4, _ => rfl
  | 5, _ => rfl
  | 6, _ => rfl
  | 7, _ => rfl
theorem shipCells_part (f : Nat → Ship) (i : Nat) (hi : i < 8) : (shipCells f).toArray.extract (i * 7) (i * 7 + 7) = (f i).cells.toArray := by
  have h := shipCells_list f i hi
  rw [List.extract_toArray, List.extract_eq_take_drop, show i * 7 + 7 - i * 7 = 7 from by omega, h]
theorem cells_shipj (g : G) (s : Value) (j : Nat) (hj : j < 56) : (cells g s)[2 + j]? = (shipCells g.ship)[j]? := by
  unfold cells
  rw [List.getElem?_toArray, List.append_assoc, List.getElem?_append_right (by simp), List.getElem?_append_left (by rw [shipCells_len]; simp; omega)]
  simp

/-! The first half of a frame. -/
def tyIn (p : In) : Prop := (-128 ≤ p.x ∧ p.x ≤ 127) ∧ (-128 ≤ p.y ∧ p.y ≤ 127) ∧ (0 ≤ p.b ∧ p.b ≤ 255)
def insCells (f : Nat → In) : List Value := (f 0).cells ++ ((f 1).cells ++ ((f 2).cells ++ ((f 3).cells ++ ((f 4).cells ++ ((f 5).cells ++ ((f 6).cells ++ (f 7).cells))))))
theorem insCells_len (f : Nat → In) : (insCells f).length = 24 := rfl
theorem insCells_at (f : Nat → In) (i k : Nat) (hi : i < 8) (hk : k < 3) : (insCells f).toArray[i * 3 + k]? = (f i).cells[k]? := by
  match i, hi with
  | 0, _ => match k, hk with | 0, _ | 1, _ | 2, _ => rfl
  | 1, _ => match k, hk with | 0, _ | 1, _ | 2, _ => rfl
  | 2, _ => match k, hk with | 0, _ | 1, _ | 2, _ => rfl
  | 3, _ => match k, hk with | 0, _ | 1, _ | 2, _ => rfl
  | 4, _ => match k, hk with | 0, _ | 1, _ | 2, _ => rfl
  | 5, _ => match k, hk with | 0, _ | 1, _ | 2, _ => rfl
  | 6, _ => match k, hk with | 0, _ | 1, _ | 2, _ => rfl
  | 7, _ => match k, hk with | 0, _ | 1, _ | 2, _ => rfl
theorem upd_same (f : Nat → Ship) (i : Nat) (s : Ship) : upd f i s i = s := by unfold upd; rw [if_pos rfl]
theorem upd_other (f : Nat → Ship) {i j : Nat} (s : Ship) (h : j ≠ i) : upd f i s j = f j := by unfold upd; rw [if_neg h]
theorem ph1_later (ps : Nat → In) (g : G) (k j : Nat) (h : k ≤ j) : (ph1 ps g k).1 j = g.ship j := by
  induction k with
  | zero => rfl
  | succ k ih => show upd _ k _ j = _; rw [upd_other _ _ (by omega)]; exact ih (by omega)
theorem moved_ok {p : In} {n : Nat} {s : Ship} (h : okShip s) : okShip (moved p n s) := by
  unfold moved
  split
  · obtain ⟨h0, h1, h2, h3, h4, h5, h6, h7, h8⟩ := h
    refine ⟨.inl rfl, Gf.move_bd _ _, Gf.move_bd _ _, Gf.push_bd _ _, Gf.push_bd _ _, ?_, ?_, h7, h8⟩
    · show 0 ≤ (if 0 < s.cool then s.cool - 1 else if shoots p n s = true then 10 else s.cool)
      split
      · omega
      · split <;> omega
    · show (if 0 < s.cool then s.cool - 1 else if shoots p n s = true then 10 else s.cool) ≤ 10
      split
      · omega
      · split <;> omega
  · exact h
theorem made_ok {p : In} {n i : Nat} {s : Ship} (hi : i < 8) : ∀ t ∈ made p n i s, okShot t := by
  unfold made
  split
  · intro t ht
    rcases List.mem_singleton.1 ht with rfl
    refine ⟨by show (0 : Int) ≤ (i : Int); omega, by show (i : Int) < 8; omega, Gf.move_bd _ _, Gf.move_bd _ _, Gf.aimx_bd _ _, Gf.way_bd _, by show (1 : Int) ≤ 24; omega, by show (24 : Int) ≤ 24; omega⟩
  · intro t ht; cases ht
theorem made_len (p : In) (n i : Nat) (s : Ship) : n + (made p n i s).length ≤ 32 ∨ (made p n i s).length = 0 := by
  unfold made
  split
  · rename_i h
    left
    have := h.2
    unfold shoots at this
    simp at this
    simp; omega
  · right; rfl
/-- What holds of ships and shots on the way. -/
structure Way (f : Nat → Ship) (l : List Shot) : Prop where
  ships : ∀ i, i < 8 → okShip (f i)
  shots : ∀ t ∈ l, okShot t
  len : l.length ≤ 32
theorem ok.way {g : G} (h : ok g) : Way g.ship g.shots := ⟨h.2.2.2.1, fun t ht => by
  obtain ⟨i, hi, rfl⟩ := List.getElem_of_mem ht; exact h.2.2.2.2 i hi, h.2.2.1⟩
theorem ph1_way {ps : Nat → In} {g : G} (h : ok g) : ∀ k, k ≤ 8 → Way (ph1 ps g k).1 (ph1 ps g k).2
  | 0, _ => h.way
  | k + 1, hk => by
    have ih := ph1_way (ps := ps) h k (by omega)
    refine ⟨fun i hi => ?_, fun t ht => ?_, ?_⟩
    · by_cases e : i = k
      · subst e; show okShip (upd _ _ _ _); rw [upd_same]; exact moved_ok (ih.ships _ hi)
      · show okShip (upd _ _ _ _); rw [upd_other _ _ e]; exact ih.ships _ hi
    · rcases List.mem_append.1 (show t ∈ (ph1 ps g k).2 ++ made (ps k) (ph1 ps g k).2.length k ((ph1 ps g k).1 k) from ht) with ht | ht
      · exact ih.shots _ ht
      · exact made_ok (by omega) _ ht
    · show ((ph1 ps g k).2 ++ made (ps k) (ph1 ps g k).2.length k ((ph1 ps g k).1 k)).length ≤ 32
      have := made_len (ps k) (ph1 ps g k).2.length k ((ph1 ps g k).1 k)
      have := ih.len
      rw [List.length_append]; omega

theorem upd_self (f : Nat → Ship) (k : Nat) : upd f k (f k) = f := funext fun j => by
  unfold upd; split
  · rename_i h; rw [h]
  · rfl
theorem next_off {p : In} {n i : Nat} {s : Ship} (h : s.on = false) : moved p n s = s ∧ made p n i s = [] := by
  unfold moved made; simp [h]
theorem next_cool {p : In} {n i : Nat} {s : Ship} (h : s.on = true) (hc : 0 < s.cool) : moved p n s = ⟨true, nx p s, ny p s, nvx p s, nvy p s, s.cool - 1, s.score⟩ ∧ made p n i s = [] := by
  have hs : shoots p n s = false := by unfold shoots; simp; intro h; omega
  unfold moved made
  rw [if_pos h, if_pos hc, if_neg (by rw [hs]; simp)]
  exact ⟨rfl, rfl⟩
theorem next_rest {p : In} {n i : Nat} {s : Ship} (h : s.on = true) (hc : s.cool = 0) (hs : shoots p n s = false) : moved p n s = ⟨true, nx p s, ny p s, nvx p s, nvy p s, 0, s.score⟩ ∧ made p n i s = [] := by
  unfold moved made
  rw [if_pos h, if_neg (by omega), if_neg (by rw [hs]; simp), if_neg (by rw [hs]; simp), hc]
  exact ⟨rfl, rfl⟩
theorem next_shot {p : In} {n i : Nat} {s : Ship} (h : s.on = true) (hc : s.cool = 0) (hs : shoots p n s = true) : moved p n s = ⟨true, nx p s, ny p s, nvx p s, nvy p s, 10, s.score⟩ ∧
    made p n i s = [⟨i, nx p s, ny p s, Gf.aimx (Gf.tame p.x) (Gf.tame p.y), Gf.aimy (Gf.tame p.y), 24⟩] := by
  unfold moved made
  rw [if_pos h, if_neg (by omega), if_pos hs, if_pos ⟨h, hs⟩]
  exact ⟨rfl, rfl⟩

/-! The second half of a frame. -/
structure Way2 (st : St) : Prop where
  ships : ∀ i, i < 8 → okShip (st.ship i)
  left : ∀ t ∈ st.left, okShot t
  dice : 0 ≤ st.dice ∧ st.dice ≤ 18446744073709551615
theorem place_bd (d : Int) : (0 ≤ placeX d ∧ placeX d < 16777216) ∧ (0 ≤ placeY d ∧ placeY d < 16777216) ∧ (0 ≤ placeD d ∧ placeD d ≤ 18446744073709551615) :=
  ⟨(Dn.share_bd (Dn.next_bd d) (n := 16777216) (by omega)).2.2, (Dn.share_bd (Dn.next_bd (Dn.next d)) (n := 16777216) (by omega)).2.2, Dn.next_bd _⟩
theorem anew_ok {d : Int} {f : Nat → Ship} {k : Nat} (h : ∀ i, i < 8 → okShip (f i)) (hk : k < 8) : ∀ i, i < 8 → okShip (anew d f k i) := fun i hi => by
  unfold anew upd
  split
  · have hs := (h k hk).2.2.2.2.2.2
    have hp := place_bd d
    exact ⟨.inl rfl, hp.1, hp.2.1, by unfold slow; dsimp only; omega, by unfold slow; dsimp only; omega, by dsimp only; omega, by dsimp only; omega, hs.2.1, hs.2.2⟩
  · exact h i hi
theorem more_ok {f : Nat → Ship} {o : Nat} (h : ∀ i, i < 8 → okShip (f i)) : ∀ i, i < 8 → okShip (more f o i) := fun i hi => by
  unfold more
  split
  · rename_i hon
    unfold upd
    split
    · rename_i e
      subst e
      obtain ⟨_, h1, h2, h3, h4, h5, h6, h7, h8⟩ := h i hi
      exact ⟨.inl hon, h1, h2, h3, h4, h5, h6, by dsimp only; omega, by dsimp only; omega⟩
    · exact h i hi
  · exact h i hi
theorem fly_ok {s : Shot} (h : okShot s) (hl : (fly s).left ≠ 0) : okShot (fly s) := by
  obtain ⟨h0, h0', h1, h2, h3, h4, h5, h6⟩ := h
  have : (fly s).left = s.left - 1 := rfl
  exact ⟨h0, h0', Gf.move_bd _ _, Gf.move_bd _ _, h3, h4, by omega, by omega⟩
theorem fly_ty {s : Shot} (h : okShot s) : tyShot (fly s) := by
  obtain ⟨h0, h0', h1, h2, h3, h4, h5, h6⟩ := h
  have a := Gf.move_bd s.x s.vx
  have b := Gf.move_bd s.y s.vy
  unfold slow at h3 h4
  unfold tyShot i32 i64 fly
  dsimp only
  omega
theorem shot1_way {st : St} {s : Shot} (h : Way2 st) (hs : okShot s) : Way2 (shot1 st s) ∧ (shot1 st s).left.length ≤ st.left.length + 1 := by
  unfold shot1
  split
  · exact ⟨h, by omega⟩
  · rename_i hl
    split
    · refine ⟨⟨h.ships, fun t ht => ?_, h.dice⟩, by simp⟩
      rcases List.mem_append.1 ht with ht | ht
      · exact h.left t ht
      · rcases List.mem_singleton.1 ht with rfl; exact fly_ok hs hl
    · rename_i hh
      rcases hit_bd st.ship (fly s) with e | ⟨k, e, hk, _⟩
      · rw [e] at hh; exact absurd (by decide) hh
      · rw [e]
        exact ⟨⟨more_ok (anew_ok h.ships (by simpa using hk)), h.left, (place_bd _).2.2⟩, by simp⟩
theorem ph2_snoc (st : St) (l : List Shot) (j : Nat) (hj : j < l.length) : ph2 st (l.take (j + 1)) = shot1 (ph2 st (l.take j)) l[j] := by
  unfold ph2
  rw [List.take_succ_eq_append_getElem hj, List.foldl_append]; rfl
theorem ph2_way {st : St} {l : List Shot} (h : Way2 st) (hl : ∀ t ∈ l, okShot t) : ∀ j, j ≤ l.length → Way2 (ph2 st (l.take j)) ∧ (ph2 st (l.take j)).left.length ≤ st.left.length + j
  | 0, _ => ⟨by simpa [ph2] using h, by simp [ph2]⟩
  | j + 1, hj => by
    have ih := ph2_way h hl j (by omega)
    have := shot1_way ih.1 (hl _ (List.getElem_mem (show j < l.length by omega)))
    rw [ph2_snoc st l j (by omega)]
    exact ⟨this.1, by omega⟩
end Gm
