/-
What package fix reckons, plainly: what is cut, products, quotients, roots.
-/
namespace Fx

def cut (v : Int) : Int := min (max v (-2147483648)) 2147483647
def clamp (a lo hi : Int) : Int := min (max a lo) hi
def mul (a b : Int) : Int := cut ((a * b).tdiv 65536)
def div (a b : Int) : Int := if b = 0 then (if 0 < a then 2147483647 else if a < 0 then -2147483648 else 0) else cut ((a * 65536).tdiv b)

theorem cut_bd (v : Int) : -2147483648 ≤ cut v ∧ cut v ≤ 2147483647 := by unfold cut; omega
theorem cut_in {v : Int} (h : -2147483648 ≤ v) (h' : v ≤ 2147483647) : cut v = v := by unfold cut; omega
theorem cut_mono {a b : Int} (h : a ≤ b) : cut a ≤ cut b := by unfold cut; omega
theorem mul_bd (a b : Int) : -2147483648 ≤ mul a b ∧ mul a b ≤ 2147483647 := cut_bd _
theorem div_bd (a b : Int) : -2147483648 ≤ div a b ∧ div a b ≤ 2147483647 := by
  unfold div
  split
  · split
    · omega
    · split <;> omega
  · exact cut_bd _
theorem clamp_bd {a lo hi : Int} (hl : -2147483648 ≤ lo) (hh : -2147483648 ≤ hi ∧ hi ≤ 2147483647) : -2147483648 ≤ clamp a lo hi ∧ clamp a lo hi ≤ 2147483647 := by unfold clamp; omega

/-- A product of two numbers of 32 bits fits 64. -/
theorem prod_bd {a b : Int} (ha : -2147483648 ≤ a ∧ a ≤ 2147483647) (hb : -2147483648 ≤ b ∧ b ≤ 2147483647) : -4611686018427387904 ≤ a * b ∧ a * b ≤ 4611686018427387904 := by
  have h : (a * b).natAbs ≤ 4611686018427387904 := by
    rw [Int.natAbs_mul]
    exact Nat.le_trans (Nat.mul_le_mul (show a.natAbs ≤ 2147483648 by omega) (show b.natAbs ≤ 2147483648 by omega)) (by decide)
  omega
/-- What is divided by what is not nought is not farther from nought. -/
theorem tdiv_bd {a b : Int} (n : Nat) (h : a.natAbs ≤ n) : (a.tdiv b).natAbs ≤ n := by
  rw [Int.natAbs_tdiv]
  exact Nat.le_trans (Nat.div_le_self _ _) h

/-- The greatest whole number whose square is not above n. -/
noncomputable def sq (n : Nat) : Nat := Classical.epsilon fun r => r * r ≤ n ∧ n < (r + 1) * (r + 1)

theorem sq_one {n r s : Nat} (h : r * r ≤ n ∧ n < (r + 1) * (r + 1)) (h' : s * s ≤ n ∧ n < (s + 1) * (s + 1)) : r = s := by
  rcases Nat.lt_trichotomy r s with c | c | c
  · have := Nat.mul_le_mul (show r + 1 ≤ s from c) (show r + 1 ≤ s from c)
    omega
  · exact c
  · have := Nat.mul_le_mul (show s + 1 ≤ r from c) (show s + 1 ≤ r from c)
    omega
theorem sq_is {n r : Nat} (h : r * r ≤ n ∧ n < (r + 1) * (r + 1)) : sq n = r := sq_one (Classical.epsilon_spec (p := fun r => r * r ≤ n ∧ n < (r + 1) * (r + 1)) ⟨r, h⟩) h
theorem sq_some (n : Nat) : ∃ r, r * r ≤ n ∧ n < (r + 1) * (r + 1) := by
  induction n with
  | zero => exact ⟨0, by omega, by omega⟩
  | succ n ih =>
    obtain ⟨r, h1, h2⟩ := ih
    by_cases c : n + 1 < (r + 1) * (r + 1)
    · exact ⟨r, by omega, c⟩
    · refine ⟨r + 1, by omega, ?_⟩
      have : (r + 1 + 1) * (r + 1 + 1) = (r + 1) * (r + 1) + 2 * (r + 1) + 1 := by
        rw [Nat.add_mul, Nat.mul_add]; omega
      omega
theorem sq_spec (n : Nat) : sq n * sq n ≤ n ∧ n < (sq n + 1) * (sq n + 1) := Classical.epsilon_spec (p := fun r => r * r ≤ n ∧ n < (r + 1) * (r + 1)) (sq_some n)
theorem sq_mono {m n : Nat} (h : m ≤ n) : sq m ≤ sq n := by
  by_cases c : sq m ≤ sq n
  · exact c
  · have := Nat.mul_le_mul (show sq n + 1 ≤ sq m by omega) (show sq n + 1 ≤ sq m by omega)
    have a := sq_spec m
    have b := sq_spec n
    omega
noncomputable def root (a : Int) : Int := if a ≤ 0 then 0 else sq (a.toNat * 65536)
theorem root_bd {a : Int} (h : a ≤ 2147483647) : 0 ≤ root a ∧ root a < 16777216 := by
  unfold root
  split
  · omega
  · have s := sq_spec (a.toNat * 65536)
    by_cases c : sq (a.toNat * 65536) < 16777216
    · omega
    · have := Nat.mul_le_mul (show 16777216 ≤ sq (a.toNat * 65536) by omega) (show 16777216 ≤ sq (a.toNat * 65536) by omega)
      omega

/-- A root that is right in every digit from place j on, and has none below. -/
structure Half (n R j : Nat) : Prop where
  whole : R % 2 ^ j = 0
  lo : R * R ≤ n
  hi : n < (R + 2 ^ j) * (R + 2 ^ j)

theorem Half.start {n j : Nat} (h : n < 2 ^ j * 2 ^ j) : Half n 0 j := ⟨Nat.zero_mod _, by omega, by rwa [Nat.zero_add]⟩
theorem Half.take {n R j : Nat} (h : Half n R (j + 1)) (c : (R + 2 ^ j) * (R + 2 ^ j) ≤ n) : Half n (R + 2 ^ j) j := by
  have e : 2 ^ (j + 1) = 2 ^ j + 2 ^ j := by rw [Nat.pow_succ]; omega
  refine ⟨?_, c, ?_⟩
  · have := Nat.mod_mod_of_dvd R (show 2 ^ j ∣ 2 ^ (j + 1) from ⟨2, by rw [Nat.pow_succ]⟩)
    rw [h.whole, Nat.zero_mod] at this
    rw [Nat.add_mod_right]; omega
  · have := h.hi; rw [e, ← Nat.add_assoc] at this; exact this
theorem Half.pass {n R j : Nat} (h : Half n R (j + 1)) (c : n < (R + 2 ^ j) * (R + 2 ^ j)) : Half n R j := by
  refine ⟨?_, h.lo, c⟩
  have := Nat.mod_mod_of_dvd R (show 2 ^ j ∣ 2 ^ (j + 1) from ⟨2, by rw [Nat.pow_succ]⟩)
  rw [h.whole, Nat.zero_mod] at this
  omega
theorem Half.done {n R : Nat} (h : Half n R 0) : sq n = R := sq_is ⟨h.lo, h.hi⟩
theorem Half.below {n R j : Nat} (h : Half n R j) (m : Nat) (hm : n < m * m) : R < m := by
  by_cases c : R < m
  · exact c
  · have := Nat.mul_le_mul (show m ≤ R by omega) (show m ≤ R by omega)
    have := h.lo
    omega
theorem Half.or {n R j : Nat} (h : Half n R (j + 1)) : R ||| 2 ^ j = R + 2 ^ j := by
  have hd := Nat.div_add_mod R (2 ^ (j + 1))
  rw [h.whole, Nat.add_zero] at hd
  have hlt : 2 ^ j < 2 ^ (j + 1) := Nat.pow_lt_pow_right (by omega) (by omega)
  have := Nat.two_pow_add_eq_or_of_lt hlt (R / 2 ^ (j + 1))
  rw [hd] at this
  exact this.symm
end Fx
