/-
Facts on float64, plainly: where a word stands among all (in units of the least number), that rounding keeps the order, what sums, products and cuts come to.
-/
import Derived.Laws.FloatArith
namespace Fl
open Ieee

/-- What a rung comes to, in units of the least number; on beyond infinity as if there were none. -/
def G (r : Nat) : Nat := if r / 2 ^ 52 = 0 then r else (2 ^ 52 + r % 2 ^ 52) * 2 ^ (r / 2 ^ 52 - 1)

theorem G_kept (e q : Nat) (h1 : q ≤ 2 ^ 53) (h2 : e = 0 ∨ 2 ^ 52 ≤ q) : G (e * 2 ^ 52 + q) = q * 2 ^ e := by
  unfold G
  by_cases c : q < 2 ^ 52
  · have e0 : e = 0 := by omega
    subst e0
    rw [if_pos (by omega)]
    simp
  · by_cases c2 : q < 2 ^ 53
    · have d : (e * 2 ^ 52 + q) / 2 ^ 52 = e + 1 := by omega
      have m : (e * 2 ^ 52 + q) % 2 ^ 52 = q - 2 ^ 52 := by omega
      rw [d, m, if_neg (by omega), show 2 ^ 52 + (q - 2 ^ 52) = q from by omega, show e + 1 - 1 = e from rfl]
    · have hq : q = 2 ^ 53 := by omega
      have d : (e * 2 ^ 52 + q) / 2 ^ 52 = e + 2 := by omega
      have m : (e * 2 ^ 52 + q) % 2 ^ 52 = 0 := by omega
      rw [d, m, if_neg (by omega), hq, show e + 2 - 1 = e + 1 from by omega, Nat.pow_succ 2 e]
      omega

theorem rep (r : Nat) : ∃ e q, r = e * 2 ^ 52 + q ∧ q < 2 ^ 53 ∧ (e = 0 ∨ 2 ^ 52 ≤ q) := by
  by_cases c : r < 2 ^ 52
  · exact ⟨0, r, by omega, by omega, Or.inl rfl⟩
  · exact ⟨r / 2 ^ 52 - 1, 2 ^ 52 + r % 2 ^ 52, by omega, by omega, Or.inr (by omega)⟩

theorem G_succ (r : Nat) : G r < G (r + 1) := by
  obtain ⟨e, q, rfl, h1, h2⟩ := rep r
  rw [G_kept e q (by omega) h2, Nat.add_assoc, G_kept e (q + 1) (by omega) (by omega)]
  exact Nat.mul_lt_mul_of_pos_right (by omega) (Nat.two_pow_pos e)

theorem G_lt {a b : Nat} (h : a < b) : G a < G b := by
  induction b with
  | zero => omega
  | succ b ih =>
    by_cases c : a = b
    · subst c; exact G_succ a
    · exact Nat.lt_trans (ih (by omega)) (G_succ b)

theorem G_le {a b : Nat} (h : a ≤ b) : G a ≤ G b := by
  by_cases c : a = b
  · subst c; exact Nat.le_refl _
  · exact Nat.le_of_lt (G_lt (by omega))

theorem G_lt_iff {a b : Nat} : G a < G b ↔ a < b :=
  ⟨fun h => by
    by_cases c : a < b
    · exact c
    · exact absurd (G_le (Nat.le_of_not_lt c)) (by omega), G_lt⟩

theorem G_le_iff {a b : Nat} : G a ≤ G b ↔ a ≤ b :=
  ⟨fun h => by
    by_cases c : a ≤ b
    · exact c
    · exact absurd (G_lt (Nat.lt_of_not_le c)) (by omega), G_le⟩

theorem G_inj {a b : Nat} (h : G a = G b) : a = b := by
  have := G_le_iff.1 (Nat.le_of_eq h)
  have := G_le_iff.1 (Nat.le_of_eq h.symm)
  omega

theorem G_zero : G 0 = 0 := rfl

/-- r is the rung nearest to v / 2 ^ s (in units of the least number); between two, the even one. -/
structure Near (v s r : Nat) : Prop where
  lo : ∀ p, r = p + 1 → (G p + G r) * 2 ^ s ≤ 2 * v ∧ ((G p + G r) * 2 ^ s = 2 * v → r % 2 = 0)
  hi : 2 * v ≤ (G r + G (r + 1)) * 2 ^ s ∧ (2 * v = (G r + G (r + 1)) * 2 ^ s → r % 2 = 0)

theorem Near.mono {v v' s r r' : Nat} (h : Near v s r) (h' : Near v' s r') (hv : v ≤ v') : r ≤ r' := by
  by_cases c : r ≤ r'
  · exact c
  · exfalso
    obtain ⟨p, rfl⟩ : ∃ p, r = p + 1 := ⟨r - 1, by omega⟩
    have a := h.lo p rfl
    have b := h'.hi
    have m : (G r' + G (r' + 1)) * 2 ^ s ≤ (G p + G (p + 1)) * 2 ^ s :=
      Nat.mul_le_mul_right _ (Nat.add_le_add (G_le (by omega)) (G_le (by omega)))
    have e1 := a.2 (by omega)
    have e2 := b.2 (by omega)
    have e3 : p ≠ r' := by omega
    have m' : (G r' + G (r' + 1)) * 2 ^ s < (G p + G (p + 1)) * 2 ^ s :=
      Nat.mul_lt_mul_of_pos_right (Nat.add_lt_add (G_lt (by omega)) (G_lt (by omega))) (Nat.two_pow_pos s)
    omega

theorem Near.unique {v s r r' : Nat} (h : Near v s r) (h' : Near v s r') : r = r' := by
  have := h.mono h' (Nat.le_refl _)
  have := h'.mono h (Nat.le_refl _)
  omega

theorem Near.exact (s r : Nat) : Near (G r * 2 ^ s) s r := by
  have hp := Nat.two_pow_pos s
  constructor
  · intro p hr
    subst hr
    have := Nat.mul_lt_mul_of_pos_right (G_succ p) hp
    rw [Nat.add_mul]
    omega
  · have := Nat.mul_lt_mul_of_pos_right (G_succ r) hp
    rw [Nat.add_mul]
    omega

theorem Near.scale {v s r : Nat} (k : Nat) (h : Near v s r) : Near (v * 2 ^ k) (s + k) r := by
  have hp := Nat.two_pow_pos k
  have e1 : ∀ a, a * 2 ^ (s + k) = a * 2 ^ s * 2 ^ k := fun a => by rw [Nat.pow_add, Nat.mul_assoc]
  have e2 : 2 * (v * 2 ^ k) = 2 * v * 2 ^ k := by rw [Nat.mul_assoc]
  constructor
  · intro p hr
    have := h.lo p hr
    rw [e1, e2]
    exact ⟨Nat.mul_le_mul_right _ this.1, fun e => this.2 (Nat.eq_of_mul_eq_mul_right hp e)⟩
  · rw [e1, e2]
    exact ⟨Nat.mul_le_mul_right _ h.hi.1, fun e => h.hi.2 (Nat.eq_of_mul_eq_mul_right hp e)⟩

theorem Near.unscale {v s r : Nat} (k : Nat) (h : Near (v * 2 ^ k) (s + k) r) : Near v s r := by
  have hp := Nat.two_pow_pos k
  have e1 : ∀ a, a * 2 ^ (s + k) = a * 2 ^ s * 2 ^ k := fun a => by rw [Nat.pow_add, Nat.mul_assoc]
  have e2 : 2 * (v * 2 ^ k) = 2 * v * 2 ^ k := by rw [Nat.mul_assoc]
  constructor
  · intro p hr
    have := h.lo p hr
    rw [e1, e2] at this
    exact ⟨Nat.le_of_mul_le_mul_right this.1 hp, fun e => this.2 (by rw [e])⟩
  · have := h.hi
    rw [e1, e2] at this
    exact ⟨Nat.le_of_mul_le_mul_right this.1 hp, fun e => this.2 (by rw [e])⟩

theorem cut_even (neg : Bool) (n drop : Nat) :
    2 * n ≤ (2 * Toward.even.cut neg n drop + 1) * 2 ^ drop ∧ 2 * Toward.even.cut neg n drop * 2 ^ drop ≤ 2 * n + 2 ^ drop ∧
    (2 * n = (2 * Toward.even.cut neg n drop + 1) * 2 ^ drop ∨ 2 * Toward.even.cut neg n drop * 2 ^ drop = 2 * n + 2 ^ drop → Toward.even.cut neg n drop % 2 = 0) ∧
    n / 2 ^ drop ≤ Toward.even.cut neg n drop ∧ Toward.even.cut neg n drop ≤ n / 2 ^ drop + 1 := by
  unfold Toward.cut
  by_cases c : drop ≤ n.log2 + 2
  · rw [Nat.min_eq_left c]
    simp only [Nat.one_shiftLeft]
    have hp := Nat.two_pow_pos drop
    have hd := Nat.div_add_mod n (2 ^ drop)
    have hm := Nat.mod_lt n hp
    generalize hg : 2 ^ drop = g at *
    generalize hq : n / g = q at *
    generalize hr : n % g = r at *
    have e0 : (2 * q + 1) * g = 2 * (g * q) + g := by rw [Nat.add_mul, Nat.mul_assoc, Nat.mul_comm q g]; omega
    have e1 : (2 * (q + 1) + 1) * g = 2 * (g * q) + 3 * g := by rw [Nat.add_mul, Nat.mul_assoc, Nat.mul_comm (q + 1) g, Nat.mul_add]; omega
    have e2 : 2 * q * g = 2 * (g * q) := by rw [Nat.mul_assoc, Nat.mul_comm q g]
    have e3 : 2 * (q + 1) * g = 2 * (g * q) + 2 * g := by rw [Nat.mul_assoc, Nat.mul_comm (q + 1) g, Nat.mul_add]; omega
    by_cases t : (decide (g < 2 * r) || (g == 2 * r && q % 2 == 1)) = true
    · rw [t]
      simp only [Bool.toNat_true]
      simp only [Bool.or_eq_true, decide_eq_true_eq, Bool.and_eq_true, beq_iff_eq] at t
      rw [e1, e3]
      omega
    · rw [Bool.not_eq_true] at t
      rw [t]
      simp only [Bool.toNat_false, Nat.add_zero]
      simp only [Bool.or_eq_false_iff, decide_eq_false_iff_not, Bool.and_eq_false_iff, beq_eq_false_iff_ne, ne_eq] at t
      rw [e0, e2]
      omega
  · have hmin : min drop (n.log2 + 2) = n.log2 + 2 := by omega
    rw [hmin]
    simp only [Nat.one_shiftLeft]
    have hl : n < 2 ^ (n.log2 + 1) := Nat.lt_log2_self
    have h1 : 2 ^ (n.log2 + 2) = 2 * 2 ^ (n.log2 + 1) := by rw [show n.log2 + 2 = (n.log2 + 1) + 1 from rfl, Nat.pow_succ]; omega
    have h2 : 2 ^ (n.log2 + 2) ≤ 2 ^ drop := Nat.pow_le_pow_right (by omega) (by omega)
    have d0 : n / 2 ^ (n.log2 + 2) = 0 := Nat.div_eq_of_lt (by omega)
    have m0 : n % 2 ^ (n.log2 + 2) = n := Nat.mod_eq_of_lt (by omega)
    have d1 : n / 2 ^ drop = 0 := Nat.div_eq_of_lt (by omega)
    rw [d0, m0, d1]
    have t : (decide (2 ^ (n.log2 + 2) < 2 * n) || (2 ^ (n.log2 + 2) == 2 * n && 0 % 2 == 1)) = false := by
      simp; omega
    rw [t]
    simp
    omega

/-- The sign and the rung of a word; where it stands. -/
def sgn (x : Nat) : Bool := x / 2 ^ 63 % 2 == 1
def rung (x : Nat) : Nat := x % 2 ^ 63
def inf : Nat := 2047 * 2 ^ 52
def isNaN (x : Nat) : Bool := decide (inf < rung x)
def isFin (x : Nat) : Bool := decide (rung x < inf)
def Z (x : Nat) : Int := if sgn x then -(G (rung x) : Int) else G (rung x)

theorem d_sign : double.signWeight = 2 ^ 63 := by decide
theorem d_binade : double.binade = 2 ^ 52 := by decide
theorem d_inf : double.infRung = inf := by decide
theorem d_least : double.leastPlace = -1074 := by decide
theorem d_frac : double.fractionBits = 52 := rfl

/-- What a word reads as. -/
theorem read_cases (x : Nat) :
    (rung x < inf ∧ ∃ m p, double.read x = .number (sgn x) m p ∧ -1074 ≤ p ∧ m * 2 ^ (p + 1074).toNat = G (rung x)) ∨
    (rung x = inf ∧ double.read x = .infinity (sgn x)) ∨
    (inf < rung x ∧ double.read x = .nan (sgn x) (rung x - inf)) := by
  have hr : double.read x = (if rung x < 2 ^ 52 then Datum.number (sgn x) (rung x) (-1074) else if rung x < inf then .number (sgn x) (2 ^ 52 + rung x % 2 ^ 52) (-1074 + (rung x / 2 ^ 52 - 1 : Nat)) else if rung x = inf then .infinity (sgn x) else .nan (sgn x) (rung x - inf)) := by
    unfold Format.read
    simp only [d_sign, d_binade, d_inf, d_least]
    rfl
  rw [hr]
  by_cases c : rung x < 2 ^ 52
  · left
    refine ⟨by unfold inf; omega, rung x, -1074, by rw [if_pos c], by omega, ?_⟩
    unfold G
    rw [if_pos (by omega)]
    simp
  · by_cases c2 : rung x < inf
    · left
      refine ⟨c2, 2 ^ 52 + rung x % 2 ^ 52, -1074 + (rung x / 2 ^ 52 - 1 : Nat), by rw [if_neg c, if_pos c2], by omega, ?_⟩
      unfold G
      rw [if_neg (by omega)]
      congr 2
      omega
    · right
      by_cases c3 : rung x = inf
      · left; exact ⟨c3, by rw [if_neg c, if_neg c2, if_pos c3]⟩
      · right; exact ⟨by omega, by rw [if_neg c, if_neg c2, if_neg c3]⟩

theorem signed_eq (s : Bool) (m k : Nat) : signed s m k = if s then -((m * 2 ^ k : Nat) : Int) else ((m * 2 ^ k : Nat) : Int) := by
  unfold signed
  rw [Nat.shiftLeft_eq]

theorem signed_Z {x m : Nat} {p b : Int} (h : m * 2 ^ (p + 1074).toNat = G (rung x)) (hb : -1074 ≤ b) (hp : b ≤ p) :
    signed (sgn x) m (p - b).toNat * 2 ^ (b + 1074).toNat = Z x := by
  have e : (p + 1074).toNat = (p - b).toNat + (b + 1074).toNat := by omega
  rw [e, Nat.pow_add, ← Nat.mul_assoc] at h
  rw [signed_eq]
  unfold Z
  rw [← h]
  cases sgn x <;> simp [Int.natCast_mul, Int.neg_mul]

theorem Z_neg_le {x : Nat} (h : sgn x = true) : Z x ≤ 0 := by unfold Z; rw [h]; simp
theorem Z_pos_le {x : Nat} (h : sgn x = false) : 0 ≤ Z x := by unfold Z; rw [h]; simp

theorem cmp_mul (a b : Int) (k : Nat) : compare (a * 2 ^ k) (b * 2 ^ k) = compare a b := by
  have hk : (0 : Int) < 2 ^ k := Int.pow_pos (by omega)
  have h1 : a * 2 ^ k < b * 2 ^ k ↔ a < b := Int.mul_lt_mul_right hk
  have h2 : a * 2 ^ k = b * 2 ^ k ↔ a = b := ⟨fun h => Int.eq_of_mul_eq_mul_right (by omega) h, fun h => by rw [h]⟩
  simp only [compare, compareOfLessAndEq, h1, h2]

theorem Z_bound {x : Nat} (h : rung x < inf) : -(G inf : Int) < Z x ∧ Z x < G inf := by
  have := G_lt h
  unfold Z
  split <;> omega

/-- The order of two words that are numbers. -/
theorem order_eq {x y : Nat} (hx : isNaN x = false) (hy : isNaN y = false) : double.order x y = some (compare (Z x) (Z y)) := by
  simp only [isNaN, decide_eq_false_iff_not] at hx hy
  have gi : 0 < G inf := by rw [← G_zero]; exact G_lt (by decide)
  unfold Format.order
  rcases read_cases x with ⟨c1, m, p, r1, p1, g1⟩ | ⟨c1, r1⟩ | ⟨c1, _⟩
  · rcases read_cases y with ⟨c2, n, q, r2, p2, g2⟩ | ⟨c2, r2⟩ | ⟨c2, _⟩
    · rw [r1, r2]
      show some (compare (signed (sgn x) m (p - min p q).toNat) (signed (sgn y) n (q - min p q).toNat)) = _
      rw [← cmp_mul _ _ (min p q + 1074).toNat, signed_Z g1 (by omega) (by omega), signed_Z g2 (by omega) (by omega)]
    · rw [r1, r2]
      show some (if sgn y then Ordering.gt else Ordering.lt) = _
      have := Z_bound c1
      have hz : Z y = if sgn y then -(G inf : Int) else G inf := by unfold Z; rw [c2]
      rw [hz]
      cases sgn y <;> simp only [compare, compareOfLessAndEq] <;> simp
      · omega
      · rw [if_neg (by omega), if_neg (by omega)]
    · omega
  · rcases read_cases y with ⟨c2, n, q, r2, p2, g2⟩ | ⟨c2, r2⟩ | ⟨c2, _⟩
    · rw [r1, r2]
      show some (if sgn x then Ordering.lt else Ordering.gt) = _
      have := Z_bound c2
      have hz : Z x = if sgn x then -(G inf : Int) else G inf := by unfold Z; rw [c1]
      rw [hz]
      cases sgn x <;> simp only [compare, compareOfLessAndEq] <;> simp
      · rw [if_neg (by omega), if_neg (by omega)]
      · omega
    · rw [r1, r2]
      show some (compare (sgn y).toNat (sgn x).toNat) = _
      have hz : Z x = if sgn x then -(G inf : Int) else G inf := by unfold Z; rw [c1]
      have hz' : Z y = if sgn y then -(G inf : Int) else G inf := by unfold Z; rw [c2]
      rw [hz, hz']
      cases sgn x <;> cases sgn y <;> simp only [compare, compareOfLessAndEq] <;> simp
      · rw [if_neg (by omega), if_neg (by omega)]
      · omega
    · omega
  · omega

theorem order_nan_left {x : Nat} (y : Nat) (hx : isNaN x = true) : double.order x y = none := by
  simp only [isNaN, decide_eq_true_eq] at hx
  unfold Format.order
  rcases read_cases x with ⟨c1, _⟩ | ⟨c1, _⟩ | ⟨_, r1⟩
  · omega
  · omega
  · rw [r1]; rfl

theorem order_nan_right {y : Nat} (x : Nat) (hy : isNaN y = true) : double.order x y = none := by
  simp only [isNaN, decide_eq_true_eq] at hy
  unfold Format.order
  rcases read_cases y with ⟨c1, _⟩ | ⟨c1, _⟩ | ⟨_, r1⟩
  · omega
  · omega
  · rw [r1]; cases double.read x <;> rfl

theorem lt_iff {x y : Nat} (hx : isNaN x = false) (hy : isNaN y = false) : (double.order x y == some .lt) = decide (Z x < Z y) := by
  rw [order_eq hx hy]; simp only [compare, compareOfLessAndEq]
  by_cases a : Z x < Z y
  · simp [a]
  · by_cases b : Z x = Z y <;> simp [a, b]
theorem gt_iff {x y : Nat} (hx : isNaN x = false) (hy : isNaN y = false) : (double.order x y == some .gt) = decide (Z y < Z x) := by
  rw [order_eq hx hy]; simp only [compare, compareOfLessAndEq]
  by_cases a : Z x < Z y
  · simp [a]; omega
  · by_cases b : Z x = Z y
    · simp [b]
    · simp [a, b]; omega
theorem eq_iff {x y : Nat} (hx : isNaN x = false) (hy : isNaN y = false) : (double.order x y == some .eq) = decide (Z x = Z y) := by
  rw [order_eq hx hy]; simp only [compare, compareOfLessAndEq]
  by_cases a : Z x < Z y
  · simp [a]; omega
  · by_cases b : Z x = Z y <;> simp [a, b]

theorem ge_iff {x y : Nat} (hx : isNaN x = false) (hy : isNaN y = false) : (double.order x y == some .gt || double.order x y == some .eq) = decide (Z y ≤ Z x) := by
  rw [gt_iff hx hy, eq_iff hx hy, ← Bool.decide_or]
  exact decide_eq_decide.2 (by omega)
theorem le_iff {x y : Nat} (hx : isNaN x = false) (hy : isNaN y = false) : (double.order x y == some .lt || double.order x y == some .eq) = decide (Z x ≤ Z y) := by
  rw [lt_iff hx hy, eq_iff hx hy, ← Bool.decide_or]
  exact decide_eq_decide.2 (by omega)

/-- What is written of a number stands at the rung nearest to it; s: any scale in which the number is whole. -/
theorem nearest_spec (neg : Bool) (mag : Nat) (place : Int) (s : Nat) (hm : mag ≠ 0) (hs : 0 ≤ place + 1074 + s) :
    ∃ r, double.nearest neg mag place = double.word neg (min r inf) ∧ Near (mag * 2 ^ (place + 1074 + s).toNat) s r := by
  unfold Format.nearest
  rw [if_neg hm]
  simp only [d_binade, d_inf, d_least, d_frac]
  have l1 : 2 ^ mag.log2 ≤ mag := Nat.log2_self_le hm
  have l2 : mag < 2 ^ (mag.log2 + 1) := Nat.lt_log2_self
  generalize mag.log2 = L at *
  generalize hlast : max (place + (L : Int) - 52) (-1074) = last
  generalize hn : mag <<< (place - last).toNat = n
  rw [Nat.shiftLeft_eq] at hn
  generalize hdrop : (last - place).toNat = drop
  obtain ⟨c1, c2, c3, c4, c5⟩ := cut_even neg n drop
  generalize Toward.even.cut neg n drop = q at *
  generalize hE : (last - -1074).toNat = E
  have hup : n < 2 ^ 53 * 2 ^ drop := by
    rw [← hn]
    have : mag * 2 ^ (place - last).toNat < 2 ^ (L + 1) * 2 ^ (place - last).toNat := Nat.mul_lt_mul_of_pos_right l2 (Nat.two_pow_pos _)
    rw [← Nat.pow_add] at this ⊢
    exact Nat.lt_of_lt_of_le this (Nat.pow_le_pow_right (by omega) (by omega))
  have hlow : E ≠ 0 → 2 ^ 52 * 2 ^ drop ≤ n := by
    intro h
    rw [← hn]
    have : 2 ^ L * 2 ^ (place - last).toNat ≤ mag * 2 ^ (place - last).toNat := Nat.mul_le_mul_right _ l1
    rw [← Nat.pow_add] at this ⊢
    exact Nat.le_trans (Nat.pow_le_pow_right (by omega) (by omega)) this
  have hdp := Nat.two_pow_pos drop
  have hq1 : n / 2 ^ drop < 2 ^ 53 := (Nat.div_lt_iff_lt_mul hdp).2 hup
  have hq2 : E = 0 ∨ 2 ^ 52 ≤ q := by
    by_cases h : E = 0
    · exact Or.inl h
    · right
      exact Nat.le_trans ((Nat.le_div_iff_mul_le hdp).2 (hlow h)) c4
  have hG : G (E * 2 ^ 52 + q) = q * 2 ^ E := G_kept E q (by omega) hq2
  refine ⟨E * 2 ^ 52 + q, rfl, ?_⟩
  obtain ⟨t, ht⟩ : ∃ t, t + drop = E + s := ⟨E + s - drop, by omega⟩
  have hv : mag * 2 ^ (place + 1074 + s).toNat = n * 2 ^ t := by
    rw [← hn, Nat.mul_assoc, ← Nat.pow_add]
    congr 2
    omega
  have hg : ∀ a, a * 2 ^ E * 2 ^ s = a * 2 ^ drop * 2 ^ t := fun a => by
    rw [Nat.mul_assoc, Nat.mul_assoc, ← Nat.pow_add, ← Nat.pow_add, ← ht, Nat.add_comm]
  have htp := Nat.two_pow_pos t
  have hsp := Nat.two_pow_pos s
  have m2 : 2 * (n * 2 ^ t) = 2 * n * 2 ^ t := by rw [Nat.mul_assoc]
  have par : (E * 2 ^ 52 + q) % 2 = q % 2 := by omega
  rw [hv]
  constructor
  · intro p hp
    rw [hG, par, m2]
    have hq0 : 1 ≤ q := by
      rcases hq2 with h | h
      · omega
      · omega
    by_cases b : E = 0 ∨ 2 ^ 52 ≤ q - 1
    · have gp : G p = (q - 1) * 2 ^ E := by
        rw [show p = E * 2 ^ 52 + (q - 1) from by omega]
        exact G_kept E (q - 1) (by omega) b
      have e1 : (G p + q * 2 ^ E) * 2 ^ s = (2 * q - 1) * 2 ^ drop * 2 ^ t := by
        rw [gp, ← Nat.add_mul, show q - 1 + q = 2 * q - 1 from by omega, hg]
      have e2 : (2 * q - 1) * 2 ^ drop + 2 ^ drop = 2 * q * 2 ^ drop := by
        rw [show 2 * q = (2 * q - 1) + 1 from by omega, Nat.add_mul (2 * q - 1) 1, Nat.one_mul]
        rfl
      rw [e1]
      constructor
      · exact Nat.mul_le_mul_right _ (by omega)
      · intro e
        have := Nat.eq_of_mul_eq_mul_right htp e
        exact c3 (Or.inr (by omega))
    · have hE1 : E ≠ 0 := by omega
      have hq : q = 2 ^ 52 := by omega
      have gl : G p < G (E * 2 ^ 52 + q) := by rw [hp]; exact G_succ p
      rw [hG] at gl
      have hl := Nat.mul_le_mul_right (2 ^ t) (hlow hE1)
      rw [← hg, ← hq] at hl
      have gl' := Nat.mul_lt_mul_of_pos_right gl hsp
      rw [Nat.add_mul, Nat.mul_assoc 2 n]
      omega
  · rw [hG, par, m2]
    have g1 : (q + 1) * 2 ^ E ≤ G (E * 2 ^ 52 + q + 1) := by
      by_cases b : q = 2 ^ 53
      · rw [b, show E * 2 ^ 52 + 2 ^ 53 + 1 = (E + 1) * 2 ^ 52 + (2 ^ 52 + 1) from by omega, G_kept (E + 1) (2 ^ 52 + 1) (by omega) (by omega), Nat.pow_succ 2 E, Nat.mul_comm (2 ^ E) 2, ← Nat.mul_assoc]
        exact Nat.mul_le_mul_right _ (by omega)
      · rw [Nat.add_assoc, G_kept E (q + 1) (by omega) (by omega)]
        exact Nat.le_refl _
    have e1 : (q * 2 ^ E + (q + 1) * 2 ^ E) * 2 ^ s = (2 * q + 1) * 2 ^ drop * 2 ^ t := by
      rw [← Nat.add_mul, show q + (q + 1) = 2 * q + 1 from by omega, hg]
    have e2 : (2 * q + 1) * 2 ^ drop * 2 ^ t ≤ (q * 2 ^ E + G (E * 2 ^ 52 + q + 1)) * 2 ^ s := by
      rw [← e1]
      exact Nat.mul_le_mul_right _ (by omega)
    have e3 := Nat.mul_le_mul_right (2 ^ t) c1
    constructor
    · omega
    · intro e
      have : 2 * n * 2 ^ t = (2 * q + 1) * 2 ^ drop * 2 ^ t := by omega
      exact c3 (Or.inl (Nat.eq_of_mul_eq_mul_right htp this))

/-- The rung nearest to v / 2 ^ s, on beyond infinity as if there were none. -/
noncomputable def rn (v s : Nat) : Nat := Classical.epsilon fun r => Near v s r

theorem near_rn (v s : Nat) : Near v s (rn v s) := by
  have h : ∃ r, Near v s r := by
    by_cases c : v = 0
    · subst c
      have := Near.exact s 0
      rw [G_zero, Nat.zero_mul] at this
      exact ⟨0, this⟩
    · obtain ⟨r, _, h⟩ := nearest_spec false v (-1074 - s) s c (by omega)
      rw [show ((-1074 - (s : Int)) + 1074 + s).toNat = 0 from by omega] at h
      exact ⟨r, by simpa using h⟩
  exact Classical.epsilon_spec h

theorem rn_of {v s r : Nat} (h : Near v s r) : rn v s = r := (near_rn v s).unique h
theorem rn_mono {v v' s : Nat} (h : v ≤ v') : rn v s ≤ rn v' s := (near_rn v s).mono (near_rn v' s) h
theorem rn_exact (s r : Nat) : rn (G r * 2 ^ s) s = r := rn_of (Near.exact s r)
theorem rn_zero (s : Nat) : rn 0 s = 0 := by have := rn_exact s 0; rwa [G_zero, Nat.zero_mul] at this
theorem rn_le {v s r : Nat} (h : v ≤ G r * 2 ^ s) : rn v s ≤ r := by have := rn_mono (s := s) h; rwa [rn_exact] at this
theorem le_rn {v s r : Nat} (h : G r * 2 ^ s ≤ v) : r ≤ rn v s := by have := rn_mono (s := s) h; rwa [rn_exact] at this

theorem word_zero (neg : Bool) : double.word neg 0 = double.word neg (min 0 inf) := by rw [Nat.min_eq_left (Nat.zero_le _)]

theorem nearest_eq (neg : Bool) (mag : Nat) (place : Int) (s v : Nat) (hs : 0 ≤ place + 1074 + s) (hv : mag * 2 ^ (place + 1074 + s).toNat = v) :
    double.nearest neg mag place = double.word neg (min (rn v s) inf) := by
  by_cases c : mag = 0
  · subst c
    rw [← hv, Nat.zero_mul, rn_zero]
    unfold Format.nearest
    rw [if_pos rfl, word_zero]
  · obtain ⟨r, e, h⟩ := nearest_spec neg mag place s c hs
    rw [e, ← hv, rn_of h]

theorem word_eq (neg : Bool) (r : Nat) : double.word neg r = if neg then 2 ^ 63 + r else r := by
  unfold Format.word
  rw [d_sign]

theorem inf_lt : inf < 2 ^ 63 := by decide

theorem word_parts (neg : Bool) {r : Nat} (h : r < 2 ^ 63) : sgn (double.word neg r) = neg ∧ rung (double.word neg r) = r := by
  rw [word_eq]
  unfold sgn rung
  cases neg <;> simp <;> omega

theorem word_wf (neg : Bool) {r : Nat} (h : r < 2 ^ 63) : double.word neg r < 2 ^ 64 := by
  rw [word_eq]
  cases neg <;> simp <;> omega

/-- A word is its sign and its rung. -/
theorem word_of {x : Nat} (h : x < 2 ^ 64) : double.word (sgn x) (rung x) = x := by
  rw [word_eq]
  unfold sgn rung
  by_cases c : x < 2 ^ 63
  · have : x / 2 ^ 63 % 2 = 0 := by omega
    rw [this]; simp; omega
  · have : x / 2 ^ 63 % 2 = 1 := by omega
    rw [this]; simp; omega

/-- The product of two finite words. -/
theorem mul_eq {x y : Nat} (hx : rung x < inf) (hy : rung y < inf) :
    double.mul x y = some (double.word (sgn x ^^ sgn y) (min (rn (G (rung x) * G (rung y)) 1074) inf)) := by
  rcases read_cases x with ⟨_, m, p, r1, p1, g1⟩ | ⟨c1, _⟩ | ⟨c1, _⟩
  · rcases read_cases y with ⟨_, n, q, r2, p2, g2⟩ | ⟨c2, _⟩ | ⟨c2, _⟩
    · unfold Format.mul
      rw [r1, r2]
      show some (double.nearest (sgn x ^^ sgn y) (m * n) (p + q)) = _
      congr 1
      refine nearest_eq _ _ _ 1074 _ (by omega) ?_
      rw [← g1, ← g2, show (p + q + 1074 + (1074 : Nat)).toNat = (p + 1074).toNat + (q + 1074).toNat from by omega, Nat.pow_add]
      generalize 2 ^ (p + 1074).toNat = a
      generalize 2 ^ (q + 1074).toNat = b
      ac_rfl
    · omega
    · omega
  · omega
  · omega

theorem Z_abs (x : Nat) : (Z x).natAbs = G (rung x) := by unfold Z; split <;> omega

theorem sum_eq {x m n : Nat} {y' : Bool} {p q : Int} {zy : Int} (g1 : m * 2 ^ (p + 1074).toNat = G (rung x)) (p1 : -1074 ≤ p) (p2 : -1074 ≤ q)
    (g2 : ∀ b : Int, -1074 ≤ b → b ≤ q → signed y' n (q - b).toNat * 2 ^ (b + 1074).toNat = zy) :
    ((Datum.number (sgn x) m p).sum (.number y' n q)).map double.write =
      some (double.word (if Z x + zy = 0 then sgn x && y' else decide (Z x + zy < 0)) (min (rn (Z x + zy).natAbs 0) inf)) := by
  show some (double.nearest (if signed (sgn x) m (p - min p q).toNat + signed y' n (q - min p q).toNat = 0 then sgn x && y' else decide (signed (sgn x) m (p - min p q).toNat + signed y' n (q - min p q).toNat < 0)) (signed (sgn x) m (p - min p q).toNat + signed y' n (q - min p q).toNat).natAbs (min p q)) = _
  have e1 := signed_Z (b := min p q) g1 (by omega) (by omega)
  have e2 := g2 (min p q) (by omega) (by omega)
  generalize signed (sgn x) m (p - min p q).toNat = A at *
  generalize signed y' n (q - min p q).toNat = B at *
  have e3 : (A + B) * 2 ^ (min p q + 1074).toNat = Z x + zy := by rw [Int.add_mul, e1, e2]
  have hk : (0 : Int) < 2 ^ (min p q + 1074).toNat := Int.pow_pos (by omega)
  congr 1
  have s1 : A + B = 0 ↔ Z x + zy = 0 := by
    rw [← e3]
    exact ⟨fun h => by rw [h, Int.zero_mul], fun h => by
      rcases Int.mul_eq_zero.1 h with h | h
      · exact h
      · omega⟩
  have s2 : A + B < 0 ↔ Z x + zy < 0 := by
    rw [← e3]
    exact ⟨fun h => Int.mul_neg_of_neg_of_pos h hk, fun h => by
      by_cases c : A + B < 0
      · exact c
      · have := Int.mul_nonneg (Int.not_lt.1 c) (Int.le_of_lt hk)
        omega⟩
  rw [nearest_eq _ _ _ 0 (Z x + zy).natAbs (by omega) (by rw [← e3, Int.natAbs_mul, Int.natAbs_pow]; simp)]
  congr 1
  by_cases c : Z x + zy = 0
  · rw [if_pos c, if_pos (s1.2 c)]
  · rw [if_neg c, if_neg (fun h => c (s1.1 h))]
    exact decide_eq_decide.2 s2

/-- The sum of two finite words. -/
theorem add_eq {x y : Nat} (hx : rung x < inf) (hy : rung y < inf) :
    double.add x y = some (double.word (if Z x + Z y = 0 then sgn x && sgn y else decide (Z x + Z y < 0)) (min (rn (Z x + Z y).natAbs 0) inf)) := by
  rcases read_cases x with ⟨_, m, p, r1, p1, g1⟩ | ⟨c1, _⟩ | ⟨c1, _⟩
  · rcases read_cases y with ⟨_, n, q, r2, p2, g2⟩ | ⟨c2, _⟩ | ⟨c2, _⟩
    · unfold Format.add
      rw [r1, r2]
      exact sum_eq g1 p1 p2 fun b h1 h2 => signed_Z g2 h1 h2
    · omega
    · omega
  · omega
  · omega

theorem signed_not (s : Bool) (m k : Nat) : signed (!s) m k = -signed s m k := by rw [signed_eq, signed_eq]; cases s <;> simp

/-- The difference of two finite words. -/
theorem sub_eq {x y : Nat} (hx : rung x < inf) (hy : rung y < inf) :
    double.sub x y = some (double.word (if Z x - Z y = 0 then sgn x && !sgn y else decide (Z x - Z y < 0)) (min (rn (Z x - Z y).natAbs 0) inf)) := by
  rcases read_cases x with ⟨_, m, p, r1, p1, g1⟩ | ⟨c1, _⟩ | ⟨c1, _⟩
  · rcases read_cases y with ⟨_, n, q, r2, p2, g2⟩ | ⟨c2, _⟩ | ⟨c2, _⟩
    · unfold Format.sub
      rw [r1, r2]
      rw [Int.sub_eq_add_neg]
      refine sum_eq (y' := !sgn y) g1 p1 p2 fun b h1 h2 => ?_
      rw [signed_not, Int.neg_mul, signed_Z g2 h1 h2]
    · omega
    · omega
  · omega
  · omega

/-- One, in units of the least number. -/
def U : Nat := 2 ^ 1074

/-- A finite word cut towards nought. -/
theorem toInt_eq {x : Nat} (hx : rung x < inf) : (double.read x).toInt .zero = some ((Z x).tdiv U) := by
  rcases read_cases x with ⟨_, m, p, r1, p1, g1⟩ | ⟨c1, _⟩ | ⟨c1, _⟩
  · rw [r1]
    show some (signed (sgn x) (Toward.zero.cut (sgn x) (m <<< p.toNat) (-p).toNat) 0) = _
    have hc : Toward.zero.cut (sgn x) (m <<< p.toNat) (-p).toNat = G (rung x) / U := by
      rw [Nat.shiftLeft_eq]
      unfold U
      unfold Toward.cut
      simp only [Bool.toNat_false, Nat.add_zero, Nat.one_shiftLeft]
      generalize hn : m * 2 ^ p.toNat = n
      have e : n / 2 ^ min (-p).toNat (n.log2 + 2) = n / 2 ^ (-p).toNat := by
        by_cases c : (-p).toNat ≤ n.log2 + 2
        · rw [Nat.min_eq_left c]
        · rw [Nat.min_eq_right (by omega)]
          have hl : n < 2 ^ (n.log2 + 1) := Nat.lt_log2_self
          rw [Nat.div_eq_of_lt (Nat.lt_of_lt_of_le hl (Nat.pow_le_pow_right (by omega) (by omega))),
            Nat.div_eq_of_lt (Nat.lt_of_lt_of_le hl (Nat.pow_le_pow_right (by omega) (by omega)))]
      rw [e, ← hn, ← g1]
      have e2 : 1074 = (p + 1074).toNat - p.toNat + (-p).toNat := by omega
      have e3 : m * 2 ^ (p + 1074).toNat = m * 2 ^ p.toNat * 2 ^ ((p + 1074).toNat - p.toNat) := by
        rw [Nat.mul_assoc, ← Nat.pow_add]; congr 2; omega
      conv => rhs; rw [e2]
      rw [e3, Nat.pow_add, ← Nat.div_div_eq_div_mul, Nat.mul_div_cancel _ (Nat.two_pow_pos _)]
    rw [hc, signed_eq, Nat.pow_zero, Nat.mul_one]
    congr 1
    unfold Z
    cases sgn x
    · simp only [Bool.false_eq_true, if_false]
      rw [Int.natCast_ediv, Int.tdiv_eq_ediv_of_nonneg (by omega)]
    · simp only [if_true]
      rw [Int.neg_tdiv, Int.natCast_ediv, Int.tdiv_eq_ediv_of_nonneg (by omega)]
  · omega
  · omega

/-- The other sign. -/
def flip (x : Nat) : Nat := x ^^^ 2 ^ 63
theorem flip_rung (x : Nat) : rung (flip x) = rung x := by
  unfold rung flip
  rw [Nat.xor_mod_two_pow]
  simp
theorem flip_sgn (x : Nat) (h : x < 2 ^ 64) : sgn (flip x) = !sgn x := by
  have e : flip x / 2 ^ 63 = (x / 2 ^ 63) ^^^ 1 := by
    unfold flip
    rw [← Nat.shiftRight_eq_div_pow, ← Nat.shiftRight_eq_div_pow, Nat.shiftRight_xor_distrib]
    rfl
  unfold sgn
  rw [e]
  have : x / 2 ^ 63 = 0 ∨ x / 2 ^ 63 = 1 := by omega
  rcases this with h | h <;> rw [h] <;> rfl
theorem flip_lt (x : Nat) (h : x < 2 ^ 64) : flip x < 2 ^ 64 := Nat.xor_lt_two_pow h (by decide)
theorem flip_Z (x : Nat) (h : x < 2 ^ 64) : Z (flip x) = -Z x := by
  unfold Z
  rw [flip_rung, flip_sgn x h]
  cases sgn x <;> simp
theorem flip_nan (x : Nat) : isNaN (flip x) = isNaN x := by unfold isNaN; rw [flip_rung]

theorem abs_rung (x : Nat) : rung (x % 2 ^ 63) = rung x := by unfold rung; rw [Nat.mod_mod]
theorem abs_sgn (x : Nat) : sgn (x % 2 ^ 63) = false := by unfold sgn; rw [Nat.div_eq_of_lt (Nat.mod_lt _ (by decide))]; rfl
theorem abs_Z (x : Nat) : Z (x % 2 ^ 63) = G (rung x) := by unfold Z; rw [abs_sgn, abs_rung]; rfl
theorem abs_nan (x : Nat) : isNaN (x % 2 ^ 63) = isNaN x := by unfold isNaN; rw [abs_rung]
theorem mod_lt64 (x : Nat) : x % 2 ^ 63 < 2 ^ 64 := by omega
end Fl
