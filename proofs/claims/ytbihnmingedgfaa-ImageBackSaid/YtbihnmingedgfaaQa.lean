/-
States out of bytes, plainly.
-/
import Derived.Test.YtbihnmingedgfaaIp
import Derived.Test.YtbihnmingedgfaaIy
import Derived.Test.YtbihnmingedgfaaI2
import Derived.Test.YtbihnmingedgfaaDp
import Derived.Test.YtbihnmingedgfaaNr
namespace Go.Proofs.Ytbihnmingedgfaa
namespace Im
open Go Go.RowKit _root_.Im
set_option linter.unusedVariables false
set_option linter.unusedSimpArgs false

def decParts : Nat → List Int → List Int → Option (List Int × List Int)
  | 0, l, bs => some (l, bs)
  | n + 1, l, bs => (rdn 4 bs).bind fun q => decParts n (l ++ [IntKind.i32.wrap q.1]) q.2
def decShip (bs : List Int) : Option (Gm.Ship × List Int) :=
  (rdn 1 bs).bind fun o => if o.1 = 0 then some (Gm.Ship.none, o.2) else if o.1 = 1 then (decParts 4 [] o.2).bind fun f => (rdn 1 f.2).bind fun c => (rdn 4 c.2).bind fun s => some (⟨true, f.1.getD 0 0, f.1.getD 1 0, f.1.getD 2 0, f.1.getD 3 0, c.1, s.1⟩, s.2) else none
def decShips : Nat → Nat → (Nat → Gm.Ship) → List Int → Option ((Nat → Gm.Ship) × List Int)
  | _, 0, f, bs => some (f, bs)
  | k, n + 1, f, bs => (decShip bs).bind fun q => decShips (k + 1) n (Gm.upd f k q.1) q.2
def decShot (bs : List Int) : Option (Gm.Shot × List Int) :=
  (rdn 1 bs).bind fun o => (decParts 4 [] o.2).bind fun f => (rdn 1 f.2).bind fun t => some (⟨o.1, f.1.getD 0 0, f.1.getD 1 0, f.1.getD 2 0, f.1.getD 3 0, t.1⟩, t.2)
def decShots : Nat → List Gm.Shot → List Int → Option (List Gm.Shot × List Int)
  | 0, l, bs => some (l, bs)
  | n + 1, l, bs => (decShot bs).bind fun q => decShots n (l ++ [q.1]) q.2
def decRow (bs : List Int) : Option (List Gm.Shot × List Int) := (rdn 1 bs).bind fun n => decShots n.1.toNat [] n.2
def setSeat (r : Ros.R) (k : Nat) (p g : Int) : Ros.R := { r with peer := Ros.upd r.peer k p, gen := Ros.upd r.gen k g }
def decSeat (bs : List Int) : Option ((Int × Int) × List Int) := (rdn 1 bs).bind fun p => (rdn 2 p.2).bind fun g => some ((p.1 - 1, g.1), g.2)
def decSeats : Nat → Nat → Ros.R → List Int → Option (Ros.R × List Int)
  | _, 0, r, bs => some (r, bs)
  | k, n + 1, r, bs => (decSeat bs).bind fun q => decSeats (k + 1) n (setSeat r k q.1.1 q.1.2) q.2
def ships0 : Nat → Gm.Ship := fun _ => Gm.Ship.none
def dec (bs : List Int) : Option ((Gm.G × Ros.R) × List Int) :=
  (rdn 4 bs).bind fun f => (rdn 8 f.2).bind fun d => (decShips 0 8 ships0 d.2).bind fun s => (decRow s.2).bind fun l => (rdn 4 l.2).bind fun v => (decSeats 0 8 { R0 with version := v.1 } v.2).bind fun r => some ((⟨f.1, d.1, s.1, l.1⟩, r.1), r.2)
open Classical in
noncomputable def get (bs : List Int) : Option (Gm.G × Ros.R) := (dec bs).bind fun q => if q.2 = [] ∧ Ok q.1.1 q.1.2 then some q.1 else none

/-! What is put is read. -/
theorem mod1 {x : Int} (h : 0 ≤ x ∧ x < 256) : x % 2 ^ (8 * 1) = x := by omega
theorem back32 {x : Int} (h : -2147483648 ≤ x ∧ x ≤ 2147483647) : IntKind.i32.wrap (IntKind.u64.wrap x % 2 ^ (8 * 4)) = x := by rw [IntKind.wrap_u64, IntKind.wrap_i32]; omega
def parts' (l : List Int) : List Int := l.flatMap fun x => bytesOf 4 (IntKind.u64.wrap x)
theorem flight_parts (f : Nat → Int) : flight f 4 = parts' [f 0, f 1, f 2, f 3] := by simp [flight, parts']
theorem decParts_put : ∀ (l a rest : List Int), (∀ x ∈ l, -2147483648 ≤ x ∧ x ≤ 2147483647) → decParts l.length a (parts' l ++ rest) = some (a ++ l, rest)
  | [], a, rest, _ => by simp [decParts, parts']
  | x :: l, a, rest, h => by
    have e : parts' (x :: l) ++ rest = bytesOf 4 (IntKind.u64.wrap x) ++ (parts' l ++ rest) := by simp [parts']
    rw [e]
    show (rdn 4 (bytesOf 4 (IntKind.u64.wrap x) ++ (parts' l ++ rest))).bind _ = _
    rw [rdn_bytes, Option.bind_some, back32 (h x (by simp)), decParts_put l (a ++ [x]) rest fun u hu => h u (by simp [hu])]
    simp
theorem decShip_put {s : Gm.Ship} (h : Gm.okShip s) (rest : List Int) : decShip (ship s ++ rest) = some (s, rest) := by
  have ty := h.ty
  obtain ⟨h0, _, _, _, _, h5, h6, h7, h8⟩ := h
  obtain ⟨t1, t2, t3, t4, _, _⟩ := ty
  cases hon : s.on
  · have hs : s = Gm.Ship.none := by
      rcases h0 with h0 | h0
      · rw [hon] at h0; cases h0
      · exact h0
    subst hs
    show (rdn 1 (bytesOf 1 0 ++ rest)).bind _ = _
    rw [rdn_bytes, Option.bind_some]
    dsimp only
    rw [if_pos (by decide)]
  · unfold ship
    rw [if_pos hon, flight_parts]
    unfold decShip
    simp only [List.append_assoc]
    rw [rdn_bytes, Option.bind_some]
    dsimp only
    rw [if_neg (by decide), if_pos (by decide)]
    have := decParts_put [s.x, s.y, s.vx, s.vy] [] (bytesOf 1 s.cool ++ (bytesOf 4 s.score ++ rest)) (by
      intro x hx
      simp only [List.mem_cons, List.not_mem_nil, or_false] at hx
      unfold Gm.i32 at *
      rcases hx with rfl | rfl | rfl | rfl <;> assumption)
    rw [show ([s.x, s.y, s.vx, s.vy] : List Int).length = 4 from rfl] at this
    (try dsimp only)
    rw [this, Option.bind_some, rdn_bytes, Option.bind_some, rdn_bytes, Option.bind_some]
    dsimp only
    rw [mod1 (by omega), show s.score % 2 ^ (8 * 4) = s.score by omega]
    obtain ⟨on, x, y, vx, vy, c, sc⟩ := s
    dsimp only at hon
    subst hon
    rfl
theorem decShips_put (g : Nat → Gm.Ship) : ∀ (n k : Nat) (f : Nat → Gm.Ship) (rest : List Int), (∀ i, k ≤ i → i < k + n → Gm.okShip (g i)) →
    ∃ f', decShips k n f (shipsFrom g k n ++ rest) = some (f', rest) ∧ (∀ i, k ≤ i → i < k + n → f' i = g i) ∧ (∀ i, i < k ∨ k + n ≤ i → f' i = f i)
  | 0, k, f, rest, _ => ⟨f, rfl, fun i _ _ => by omega, fun _ _ => rfl⟩
  | n + 1, k, f, rest, h => by
    unfold decShips shipsFrom
    rw [List.append_assoc, decShip_put (h k (by omega) (by omega)), Option.bind_some]
    obtain ⟨f', h1, h2, h3⟩ := decShips_put g n (k + 1) (Gm.upd f k (g k)) rest fun i a b => h i (by omega) (by omega)
    refine ⟨f', h1, fun i a b => ?_, fun i a => ?_⟩
    · by_cases e : i = k
      · subst e; rw [h3 i (by omega), Gm.upd_same]
      · exact h2 i (by omega) (by omega)
    · rw [h3 i (by omega), Gm.upd_other _ _ (by omega)]
theorem decShot_put {s : Gm.Shot} (h : Gm.okShot s) (rest : List Int) : decShot (shot s ++ rest) = some (s, rest) := by
  have ty := h.ty
  obtain ⟨h1, h2, _, _, _, _, h7, h8⟩ := h
  obtain ⟨_, t1, t2, t3, t4, _⟩ := ty
  unfold shot decShot
  rw [flight_parts]
  simp only [List.append_assoc]
  have := decParts_put [s.x, s.y, s.vx, s.vy] [] (bytesOf 1 s.left ++ rest) (by
    intro x hx
    simp only [List.mem_cons, List.not_mem_nil, or_false] at hx
    unfold Gm.i32 at *
    rcases hx with rfl | rfl | rfl | rfl <;> assumption)
  rw [show ([s.x, s.y, s.vx, s.vy] : List Int).length = 4 from rfl] at this
  rw [rdn_bytes, Option.bind_some]
  dsimp only
  rw [this, Option.bind_some, rdn_bytes, Option.bind_some]
  dsimp only
  rw [mod1 (by omega), mod1 (by omega)]
  rfl
theorem decShots_put : ∀ (l a : List Gm.Shot) (rest : List Int), (∀ s ∈ l, Gm.okShot s) → decShots l.length a (shots l ++ rest) = some (a ++ l, rest)
  | [], a, rest, _ => by simp [decShots, shots]
  | s :: l, a, rest, h => by
    have e : shots (s :: l) ++ rest = shot s ++ (shots l ++ rest) := by simp [shots]
    rw [e]
    show (decShot (shot s ++ (shots l ++ rest))).bind _ = _
    rw [decShot_put (h s (by simp)), Option.bind_some, decShots_put l (a ++ [s]) rest fun u hu => h u (by simp [hu])]
    simp
theorem decSeats_put (q : Ros.R) : ∀ (n k : Nat) (r : Ros.R) (rest : List Int), (∀ i, k ≤ i → i < k + n → Ros.OkSeat q i) →
    ∃ r', decSeats k n r (seatsFrom q k n ++ rest) = some (r', rest) ∧ r'.version = r.version ∧ (∀ i, k ≤ i → i < k + n → r'.peer i = q.peer i ∧ r'.gen i = q.gen i) ∧ (∀ i, i < k ∨ k + n ≤ i → r'.peer i = r.peer i ∧ r'.gen i = r.gen i)
  | 0, k, r, rest, _ => ⟨r, rfl, rfl, fun i _ _ => by omega, fun _ _ => ⟨rfl, rfl⟩⟩
  | n + 1, k, r, rest, h => by
    have hk := h k (by omega) (by omega)
    unfold Ros.OkSeat at hk
    unfold decSeats seatsFrom decSeat
    simp only [List.append_assoc]
    rw [rdn_bytes, Option.bind_some]
    dsimp only
    rw [rdn_bytes, Option.bind_some, Option.bind_some]
    dsimp only
    rw [mod1 (by omega), show q.gen k % 2 ^ (8 * 2) = q.gen k by omega, show q.peer k + 1 - 1 = q.peer k by omega]
    obtain ⟨r', h1, hv, h2, h3⟩ := decSeats_put q n (k + 1) (setSeat r k (q.peer k) (q.gen k)) rest fun i a b => h i (by omega) (by omega)
    refine ⟨r', h1, hv, fun i a b => ?_, fun i a => ?_⟩
    · by_cases e : i = k
      · subst e
        rw [(h3 i (by omega)).1, (h3 i (by omega)).2]
        exact ⟨Ros.upd_same _ _ _, Ros.upd_same _ _ _⟩
      · exact h2 i (by omega) (by omega)
    · rw [(h3 i (by omega)).1, (h3 i (by omega)).2]
      exact ⟨Ros.upd_other _ _ (by omega), Ros.upd_other _ _ (by omega)⟩
/-- Two states in all parts. -/
def Like (g : Gm.G) (r : Ros.R) (g' : Gm.G) (r' : Ros.R) : Prop := Gm.Eq g g' ∧ r.version = r'.version ∧ ∀ k, k < 8 → r.peer k = r'.peer k ∧ r.gen k = r'.gen k
theorem Like.refl (g : Gm.G) (r : Ros.R) : Like g r g r := ⟨Gm.Eq.refl g, rfl, fun _ _ => ⟨rfl, rfl⟩⟩
theorem Like.symm {g g' : Gm.G} {r r' : Ros.R} (h : Like g r g' r') : Like g' r' g r := ⟨⟨h.1.1.symm, h.1.2.1.symm, fun i hi => (h.1.2.2.1 i hi).symm, h.1.2.2.2.symm⟩, h.2.1.symm, fun k hk => ⟨(h.2.2 k hk).1.symm, (h.2.2 k hk).2.symm⟩⟩
theorem Ok.like {g g' : Gm.G} {r r' : Ros.R} (h : Ok g r) (k : Like g r g' r') : Ok g' r' := by
  obtain ⟨⟨a1, a2, a3, a4, a5⟩, h2, h3⟩ := h
  obtain ⟨⟨k1, k2, k3, k4⟩, k5, k6⟩ := k
  obtain ⟨b1, b2, b3⟩ := Ros.ok_iff.1 h2
  refine ⟨⟨by omega, by omega, by rw [← k4]; exact a3, fun i hi => by rw [← k3 i hi]; exact a4 i hi, ?_⟩, Ros.ok_iff.2 ⟨by omega, fun i hi => ?_, fun i j hij hj => ?_⟩, fun i hi => ?_⟩
  · rw [← k4]; exact a5
  · have := b2 i hi
    unfold Ros.OkSeat at *
    rw [← (k6 i hi).1, ← (k6 i hi).2]
    exact this
  · rw [← (k6 i (by omega)).1, ← (k6 j hj).1]
    exact b3 i j hij hj
  · rw [← k3 i hi, ← (k6 i hi).1]
    exact h3 i hi
theorem ships_congr {f g : Nat → Gm.Ship} : ∀ k, (∀ i, i < k → f i = g i) → ships f k = ships g k
  | 0, _ => rfl
  | k + 1, h => by unfold ships; rw [ships_congr k fun i hi => h i (by omega), h k (by omega)]
theorem seats_congr {q r : Ros.R} : ∀ k, (∀ i, i < k → q.peer i = r.peer i ∧ q.gen i = r.gen i) → seats q k = seats r k
  | 0, _ => rfl
  | k + 1, h => by unfold seats; rw [seats_congr k fun i hi => h i (by omega), (h k (by omega)).1, (h k (by omega)).2]
theorem put_like {g g' : Gm.G} {r r' : Ros.R} (k : Like g r g' r') : put g r = put g' r' := by
  obtain ⟨⟨k1, k2, k3, k4⟩, k5, k6⟩ := k
  unfold put
  rw [k1, k2, ships_congr 8 k3, k4, k5, seats_congr 8 k6]
theorem cells_like {g g' : Gm.G} {r r' : Ros.R} (k : Like g r g' r') (s : Value) : cells g s r = cells g' s r' := by
  obtain ⟨⟨k1, k2, k3, k4⟩, k5, k6⟩ := k
  unfold cells
  rw [Ros.cells_congr k5 (fun i hi => (k6 i hi).1) (fun i hi => (k6 i hi).2)]
  refine congrArg (· ++ Ros.cells r') ?_
  unfold Gm.cells Gm.shipCells
  rw [k1, k2, k3 0 (by omega), k3 1 (by omega), k3 2 (by omega), k3 3 (by omega), k3 4 (by omega), k3 5 (by omega), k3 6 (by omega), k3 7 (by omega)]
theorem put_from (g : Gm.G) (r : Ros.R) : put g r = bytesOf 4 g.frame ++ (bytesOf 8 g.dice ++ (shipsFrom g.ship 0 8 ++ (bytesOf 1 g.shots.length ++ (shots g.shots ++ (bytesOf 4 r.version ++ seatsFrom r 0 8))))) := by
  have e1 := ships_from g.ship 8 0
  have e2 := seats_from r 8 0
  rw [show 0 + 8 = 8 from rfl, show ships g.ship 0 = [] from rfl, List.nil_append] at e1
  rw [show 0 + 8 = 8 from rfl, show seats r 0 = [] from rfl, List.nil_append] at e2
  unfold put
  rw [← e1, ← e2]
  simp only [List.append_assoc]
theorem dec_put {g : Gm.G} {r : Ros.R} (h : Ok g r) (hd : 0 ≤ g.dice ∧ g.dice ≤ 18446744073709551615) (rest : List Int) : ∃ g' r', dec (put g r ++ rest) = some ((g', r'), rest) ∧ Like g r g' r' := by
  obtain ⟨⟨a1, a2, a3, a4, a5⟩, h2, h3⟩ := h
  obtain ⟨f', e1, e2, e3⟩ := decShips_put g.ship 8 0 ships0 (bytesOf 1 g.shots.length ++ (shots g.shots ++ (bytesOf 4 r.version ++ (seatsFrom r 0 8 ++ rest)))) fun i _ hi => a4 i (by omega)
  obtain ⟨r', s1, s2, s3, s4⟩ := decSeats_put r 8 0 { R0 with version := r.version } rest fun i _ hi => h2.seat i (by omega)
  have hv := h2.1
  refine ⟨⟨g.frame, g.dice, f', g.shots⟩, r', ?_, ⟨rfl, rfl, fun i hi => (e2 i (by omega) (by omega)).symm, rfl⟩, s2.symm, fun i hi => ⟨(s3 i (by omega) (by omega)).1.symm, (s3 i (by omega) (by omega)).2.symm⟩⟩
  rw [put_from]
  unfold dec decRow
  simp only [List.append_assoc]
  rw [rdn_bytes, Option.bind_some]
  dsimp only
  rw [rdn_bytes, Option.bind_some]
  dsimp only
  rw [e1, Option.bind_some]
  dsimp only
  rw [rdn_bytes, Option.bind_some]
  dsimp only
  rw [show (g.shots.length : Int) % 2 ^ (8 * 1) = g.shots.length by omega, Int.toNat_natCast, decShots_put _ _ _ (fun s hs => by
    obtain ⟨i, hi, rfl⟩ := List.getElem_of_mem hs
    exact a5 i hi), Option.bind_some]
  dsimp only
  rw [rdn_bytes, Option.bind_some]
  dsimp only
  rw [show r.version % 2 ^ (8 * 4) = r.version by omega, s1, Option.bind_some]
  dsimp only
  rw [show g.frame % 2 ^ (8 * 4) = g.frame by omega, show g.dice % 2 ^ (8 * 8) = g.dice by omega, List.nil_append]

/-! What is read was put. -/
theorem bytes32 {y : Int} (h : 0 ≤ y ∧ y < 2 ^ (8 * 4)) : bytesOf 4 (IntKind.u64.wrap (IntKind.i32.wrap y)) = bytesOf 4 y := by
  have e : ∀ v : Int, bytesOf 4 v = [v % 256, v / 256 % 256, v / 65536 % 256, v / 16777216 % 256] := fun v => by
    simp [bytesOf]
  rw [e, e, wrap_u64', IntKind.wrap_i32]
  simp only [List.cons.injEq, and_true]
  omega
theorem decParts_inv : ∀ (n : Nat) (a l bs rest : List Int), IsBytes bs → decParts n a bs = some (l, rest) → ∃ l', l = a ++ l' ∧ l'.length = n ∧ bs = parts' l' ++ rest ∧ IsBytes rest ∧ ∀ x ∈ l', -2147483648 ≤ x ∧ x ≤ 2147483647
  | 0, a, l, bs, rest, hB, h => by
    unfold decParts at h
    injection h with h
    injection h with e1 e2
    subst e1 e2
    exact ⟨[], by simp, rfl, rfl, hB, fun _ h => by cases h⟩
  | n + 1, a, l, bs, rest, hB, h => by
    unfold decParts at h
    obtain ⟨⟨y, b1⟩, h1, hq⟩ := Option.bind_eq_some_iff.1 h
    clear h
    obtain ⟨rfl, y0, y1, B1⟩ := rdn_inv hB h1
    obtain ⟨l', rfl, h2, h3, B2, t2⟩ := decParts_inv n _ l _ rest B1 hq
    subst h3
    refine ⟨IntKind.i32.wrap y :: l', by simp, by simp [h2], ?_, B2, fun u hu => ?_⟩
    · have e : parts' (IntKind.i32.wrap y :: l') = bytesOf 4 (IntKind.u64.wrap (IntKind.i32.wrap y)) ++ parts' l' := by simp [parts']
      rw [e, bytes32 ⟨y0, y1⟩, List.append_assoc]
    · rcases List.mem_cons.1 hu with rfl | hu
      · rw [IntKind.wrap_i32]; omega
      · exact t2 u hu
theorem four {l : List Int} (h : l.length = 4) : l = [l.getD 0 0, l.getD 1 0, l.getD 2 0, l.getD 3 0] := by
  match l, h with
  | [a, b, c, d], _ => rfl
theorem decShip_inv {bs rest : List Int} {s : Gm.Ship} (hB : IsBytes bs) (h : decShip bs = some (s, rest)) : bs = ship s ++ rest ∧ IsBytes rest ∧ Gm.tyShip s := by
  unfold decShip at h
  obtain ⟨⟨o, b1⟩, h1, h2⟩ := Option.bind_eq_some_iff.1 h
  clear h
  obtain ⟨rfl, o0, o1, B1⟩ := rdn_inv hB h1
  dsimp only at h2
  split at h2
  · rename_i ho
    injection h2 with h2
    injection h2 with e1 e2
    subst e1 e2 ho
    exact ⟨rfl, B1, by unfold Gm.tyShip Gm.i32 Gm.i64 Gm.Ship.none; dsimp only; omega⟩
  · split at h2
    · rename_i ho
      obtain ⟨⟨f, b2⟩, h3, h4⟩ := Option.bind_eq_some_iff.1 h2
      clear h2
      obtain ⟨⟨c, b3⟩, h5, h6⟩ := Option.bind_eq_some_iff.1 h4
      clear h4
      obtain ⟨⟨sc, b4⟩, h7, h8⟩ := Option.bind_eq_some_iff.1 h6
      clear h6
      injection h8 with h8
      injection h8 with e1 e2
      subst e1 e2 ho
      obtain ⟨l', e0, hl, rfl, B2, t2⟩ := decParts_inv _ _ _ _ _ B1 h3
      rw [List.nil_append] at e0
      subst e0
      obtain ⟨rfl, c0, c1, B3⟩ := rdn_inv B2 h5
      obtain ⟨rfl, s0, s1, B4⟩ := rdn_inv B3 h7
      refine ⟨?_, B4, ?_⟩
      · unfold ship
        rw [if_pos rfl, flight_parts]
        dsimp only
        conv => lhs; rw [four hl]
        simp only [List.append_assoc]
      · have hm : ∀ i, i < 4 → -2147483648 ≤ f.getD i 0 ∧ f.getD i 0 ≤ 2147483647 := fun i hi => by
          have e : f.getD i 0 = f[i]'(by omega) := by simp [List.getD, show i < f.length by omega]
          rw [e]
          exact t2 _ (List.getElem_mem _)
        exact ⟨hm 0 (by omega), hm 1 (by omega), hm 2 (by omega), hm 3 (by omega), by unfold Gm.i64; dsimp only at *; omega, by unfold Gm.i64; dsimp only at *; omega⟩
    · cases h2
theorem decShips_inv : ∀ (n k : Nat) (g f : Nat → Gm.Ship) (bs rest : List Int), IsBytes bs → decShips k n g bs = some (f, rest) →
    bs = shipsFrom f k n ++ rest ∧ IsBytes rest ∧ (∀ i, k ≤ i → i < k + n → Gm.tyShip (f i)) ∧ ∀ i, i < k ∨ k + n ≤ i → f i = g i
  | 0, k, g, f, bs, rest, hB, h => by
    unfold decShips at h
    injection h with h
    injection h with e1 e2
    subst e1 e2
    exact ⟨rfl, hB, fun i _ _ => by omega, fun _ _ => rfl⟩
  | n + 1, k, g, f, bs, rest, hB, h => by
    unfold decShips at h
    obtain ⟨⟨s, b1⟩, h1, hq⟩ := Option.bind_eq_some_iff.1 h
    clear h
    obtain ⟨rfl, B1, t1⟩ := decShip_inv hB h1
    obtain ⟨h2, B2, h3, h4⟩ := decShips_inv n (k + 1) (Gm.upd g k s) f b1 rest B1 hq
    have hk : f k = s := (h4 k (by omega)).trans (Gm.upd_same _ _ _)
    refine ⟨?_, B2, fun i a b => ?_, fun i a => ?_⟩
    · rw [h2]
      conv => rhs; unfold shipsFrom
      rw [hk, List.append_assoc]
    · by_cases e : i = k
      · subst e; rw [hk]; exact t1
      · exact h3 i (by omega) (by omega)
    · rw [h4 i (by omega), Gm.upd_other _ _ (by omega)]
theorem decShot_inv {bs rest : List Int} {s : Gm.Shot} (hB : IsBytes bs) (h : decShot bs = some (s, rest)) : bs = shot s ++ rest ∧ IsBytes rest ∧ Gm.tyShot s := by
  unfold decShot at h
  obtain ⟨⟨o, b1⟩, h1, h2⟩ := Option.bind_eq_some_iff.1 h
  clear h
  obtain ⟨⟨f, b2⟩, h3, h4⟩ := Option.bind_eq_some_iff.1 h2
  clear h2
  obtain ⟨⟨t, b3⟩, h5, h6⟩ := Option.bind_eq_some_iff.1 h4
  clear h4
  injection h6 with h6
  injection h6 with e1 e2
  subst e1 e2
  obtain ⟨rfl, o0, o1, B1⟩ := rdn_inv hB h1
  obtain ⟨l', e0, hl, rfl, B2, t2⟩ := decParts_inv _ _ _ _ _ B1 h3
  rw [List.nil_append] at e0
  subst e0
  obtain ⟨rfl, c0, c1, B3⟩ := rdn_inv B2 h5
  have hm : ∀ i, i < 4 → -2147483648 ≤ f.getD i 0 ∧ f.getD i 0 ≤ 2147483647 := fun i hi => by
    have e : f.getD i 0 = f[i]'(by omega) := by simp [List.getD, show i < f.length by omega]
    rw [e]
    exact t2 _ (List.getElem_mem _)
  refine ⟨?_, B3, ⟨by unfold Gm.i64; dsimp only at *; omega, hm 0 (by omega), hm 1 (by omega), hm 2 (by omega), hm 3 (by omega), by unfold Gm.i64; dsimp only at *; omega⟩⟩
  unfold shot
  rw [flight_parts]
  dsimp only
  conv => lhs; rw [four hl]
  simp only [List.append_assoc]
theorem decShots_inv : ∀ (n : Nat) (a l : List Gm.Shot) (bs rest : List Int), IsBytes bs → decShots n a bs = some (l, rest) → ∃ l', l = a ++ l' ∧ l'.length = n ∧ bs = shots l' ++ rest ∧ IsBytes rest ∧ ∀ s ∈ l', Gm.tyShot s
  | 0, a, l, bs, rest, hB, h => by
    unfold decShots at h
    injection h with h
    injection h with e1 e2
    subst e1 e2
    exact ⟨[], by simp, rfl, rfl, hB, fun _ h => by cases h⟩
  | n + 1, a, l, bs, rest, hB, h => by
    unfold decShots at h
    obtain ⟨⟨s, b1⟩, h1, hq⟩ := Option.bind_eq_some_iff.1 h
    clear h
    obtain ⟨rfl, B1, t1⟩ := decShot_inv hB h1
    obtain ⟨l', rfl, h2, h3, B2, t2⟩ := decShots_inv n _ l _ rest B1 hq
    subst h3
    refine ⟨s :: l', by simp, by simp [h2], by simp [shots], B2, fun u hu => ?_⟩
    rcases List.mem_cons.1 hu with rfl | hu
    · exact t1
    · exact t2 u hu
theorem decSeat_inv {bs rest : List Int} {p g : Int} (hB : IsBytes bs) (h : decSeat bs = some ((p, g), rest)) : bs = bytesOf 1 (p + 1) ++ (bytesOf 2 g ++ rest) ∧ IsBytes rest := by
  unfold decSeat at h
  obtain ⟨⟨x, b1⟩, h1, h2⟩ := Option.bind_eq_some_iff.1 h
  clear h
  obtain ⟨⟨y, b2⟩, h3, h4⟩ := Option.bind_eq_some_iff.1 h2
  clear h2
  injection h4 with h4
  injection h4 with e1 e2
  injection e1 with e1 e3
  subst e1 e2 e3
  obtain ⟨rfl, x0, x1, B1⟩ := rdn_inv hB h1
  obtain ⟨rfl, y0, y1, B2⟩ := rdn_inv B1 h3
  dsimp only
  rw [show x - 1 + 1 = x by omega]
  exact ⟨rfl, B2⟩
theorem decSeats_inv : ∀ (n k : Nat) (q r : Ros.R) (bs rest : List Int), IsBytes bs → decSeats k n q bs = some (r, rest) →
    bs = seatsFrom r k n ++ rest ∧ r.version = q.version ∧ ∀ i, i < k ∨ k + n ≤ i → r.peer i = q.peer i ∧ r.gen i = q.gen i
  | 0, k, q, r, bs, rest, hB, h => by
    unfold decSeats at h
    injection h with h
    injection h with e1 e2
    subst e1 e2
    exact ⟨rfl, rfl, fun _ _ => ⟨rfl, rfl⟩⟩
  | n + 1, k, q, r, bs, rest, hB, h => by
    unfold decSeats at h
    obtain ⟨⟨⟨p, g⟩, b1⟩, h1, hq⟩ := Option.bind_eq_some_iff.1 h
    clear h
    obtain ⟨rfl, B1⟩ := decSeat_inv hB h1
    obtain ⟨h2, hv, h4⟩ := decSeats_inv n (k + 1) (setSeat q k p g) r b1 rest B1 hq
    have hk := h4 k (by omega)
    have e1 : (setSeat q k p g).peer k = p := Ros.upd_same _ _ _
    have e2 : (setSeat q k p g).gen k = g := Ros.upd_same _ _ _
    refine ⟨?_, hv, fun i a => ?_⟩
    · rw [h2]
      conv => rhs; unfold seatsFrom
      rw [hk.1, hk.2, e1, e2]
      simp only [List.append_assoc]
    · have e3 : (setSeat q k p g).peer i = q.peer i := Ros.upd_other _ _ (by omega)
      have e4 : (setSeat q k p g).gen i = q.gen i := Ros.upd_other _ _ (by omega)
      rw [(h4 i (by omega)).1, (h4 i (by omega)).2, e3, e4]
      exact ⟨rfl, rfl⟩
theorem dec_inv {bs rest : List Int} {g : Gm.G} {r : Ros.R} (hB : IsBytes bs) (h : dec bs = some ((g, r), rest)) : bs = put g r ++ rest ∧ Gm.ty g ∧ g.shots.length ≤ 255 := by
  unfold dec decRow at h
  obtain ⟨⟨f, b1⟩, h1, ha⟩ := Option.bind_eq_some_iff.1 h
  clear h
  obtain ⟨⟨d, b2⟩, h2, hb⟩ := Option.bind_eq_some_iff.1 ha
  clear ha
  obtain ⟨⟨s, b3⟩, h3, hc⟩ := Option.bind_eq_some_iff.1 hb
  clear hb
  obtain ⟨⟨l, b5⟩, h4, hd⟩ := Option.bind_eq_some_iff.1 hc
  clear hc
  obtain ⟨⟨n, b4⟩, h5, he⟩ := Option.bind_eq_some_iff.1 h4
  clear h4
  obtain ⟨⟨v, b6⟩, h6, hf⟩ := Option.bind_eq_some_iff.1 hd
  clear hd
  obtain ⟨⟨q, b7⟩, h7, hg⟩ := Option.bind_eq_some_iff.1 hf
  clear hf
  injection hg with hg
  injection hg with e1 e2
  injection e1 with e1 e3
  subst e1 e2 e3
  dsimp only at h2 h3 h5 he h6 h7 ⊢
  obtain ⟨rfl, x1, y1, B1⟩ := rdn_inv hB h1
  obtain ⟨rfl, x2, y2, B2⟩ := rdn_inv B1 h2
  obtain ⟨rfl, B3, t3, _⟩ := decShips_inv _ _ _ _ _ _ B2 h3
  obtain ⟨rfl, x5, y5, B5⟩ := rdn_inv B3 h5
  obtain ⟨l', hl0, hl, rfl, B6, t6⟩ := decShots_inv _ _ _ _ _ B5 he
  rw [List.nil_append] at hl0
  subst hl0
  obtain ⟨rfl, x7, y7, B7⟩ := rdn_inv B6 h6
  obtain ⟨rfl, hv, _⟩ := decSeats_inv _ _ _ _ _ _ B7 h7
  have hn : (l.length : Int) = n := by rw [hl, Int.toNat_of_nonneg x5]
  have hv : q.version = v := hv
  refine ⟨?_, ⟨?_, ?_, fun i hi => t3 i (by omega) (by omega), fun i hi => t6 _ (List.getElem_mem hi)⟩, ?_⟩
  · rw [put_from]
    dsimp only
    rw [hn, hv]
    simp only [List.append_assoc]
  · unfold Gm.i64; dsimp only; omega
  · dsimp only; omega
  · (try dsimp only); omega

/-! Get. -/
theorem get_put {g : Gm.G} {r : Ros.R} (h : Ok g r) (hd : 0 ≤ g.dice ∧ g.dice ≤ 18446744073709551615) : ∃ g' r', get (put g r) = some (g', r') ∧ Like g r g' r' := by
  obtain ⟨g', r', h1, h2⟩ := dec_put h hd []
  rw [List.append_nil] at h1
  refine ⟨g', r', ?_, h2⟩
  unfold get
  rw [h1, Option.bind_some, if_pos ⟨rfl, h.like h2⟩]
theorem get_some {bs : List Int} {g : Gm.G} {r : Ros.R} (hB : IsBytes bs) (h : get bs = some (g, r)) : Ok g r ∧ Gm.ty g ∧ put g r = bs := by
  unfold get at h
  obtain ⟨⟨⟨g', r'⟩, e⟩, h1, h2⟩ := Option.bind_eq_some_iff.1 h
  split at h2
  · rename_i hq
    injection h2 with h2
    injection h2 with e1 e2
    subst e1 e2
    obtain ⟨h3, h4, _⟩ := dec_inv hB h1
    dsimp only at hq h3 h4 ⊢
    rw [hq.1, List.append_nil] at h3
    exact ⟨hq.2, h4, h3.symm⟩
  · cases h2
theorem get_app {g : Gm.G} {r : Ros.R} (h : Ok g r) (hd : 0 ≤ g.dice ∧ g.dice ≤ 18446744073709551615) {rest : List Int} (hr : rest ≠ []) : get (put g r ++ rest) = none := by
  obtain ⟨g', r', h1, h2⟩ := dec_put h hd rest
  unfold get
  rw [h1, Option.bind_some, if_neg (fun q => hr q.1)]
theorem ship_bytes (s : Gm.Ship) : IsBytes (ship s) := by
  unfold ship
  split
  · rw [flight_parts]
    refine (bytesOf_bytes _ _).app (IsBytes.app ?_ ((bytesOf_bytes _ _).app (bytesOf_bytes _ _)))
    intro x hx
    unfold parts' at hx
    obtain ⟨y, _, hy⟩ := List.mem_flatMap.1 hx
    exact bytesOf_bytes _ _ x hy
  · exact bytesOf_bytes _ _
theorem shot_bytes (s : Gm.Shot) : IsBytes (shot s) := by
  unfold shot
  rw [flight_parts]
  refine (bytesOf_bytes _ _).app (IsBytes.app ?_ (bytesOf_bytes _ _))
  intro x hx
  unfold parts' at hx
  obtain ⟨y, _, hy⟩ := List.mem_flatMap.1 hx
  exact bytesOf_bytes _ _ x hy
theorem ships_bytes (f : Nat → Gm.Ship) : ∀ k, IsBytes (ships f k)
  | 0 => IsBytes.nil
  | k + 1 => (ships_bytes f k).app (ship_bytes _)
theorem seats_bytes (r : Ros.R) : ∀ k, IsBytes (seats r k)
  | 0 => IsBytes.nil
  | k + 1 => (seats_bytes r k).app ((bytesOf_bytes _ _).app (bytesOf_bytes _ _))
theorem put_bytes (g : Gm.G) (r : Ros.R) : IsBytes (put g r) := by
  unfold put
  refine (bytesOf_bytes _ _).app ((bytesOf_bytes _ _).app ((ships_bytes _ _).app (IsBytes.app ((bytesOf_bytes _ _).app ?_) ((bytesOf_bytes _ _).app (seats_bytes _ _)))))
  intro x hx
  unfold shots at hx
  obtain ⟨s, _, hy⟩ := List.mem_flatMap.1 hx
  exact shot_bytes s x hy
theorem get_cut {g : Gm.G} {r : Ros.R} (h : Ok g r) (hd : 0 ≤ g.dice ∧ g.dice ≤ 18446744073709551615) {k : Nat} (hk : k < (put g r).length) : get ((put g r).take k) = none := by
  cases hg : get ((put g r).take k) with
  | none => rfl
  | some o =>
    obtain ⟨g1, r1⟩ := o
    obtain ⟨h1, h2, h3⟩ := get_some ((put_bytes g r).take k) hg
    have h4 := get_app h1 h2.2.1 (rest := (put g r).drop k) (fun q => by have := congrArg List.length q; simp at this; omega)
    rw [h3, List.take_append_drop] at h4
    obtain ⟨g', r', h5, _⟩ := get_put h hd
    rw [h4] at h5
    cases h5
end Im
end Go.Proofs.Ytbihnmingedgfaa
