/-
Dice plainly: the next throw, its share, a text's beginning; that no two throws come to the same.
-/
import Derived.RowKit
namespace Dn
/-- The next throw. -/
def next (d : Int) : Int := (d * 6364136223846793005 + 1442695040888963407) % 18446744073709551616
/-- One byte mixed in. -/
def mix (h c : Int) : Int := ((h.toNat ^^^ c.toNat : Nat) : Int) * 1099511628211 % 18446744073709551616
/-- The upper 32 bits, times n, the bits above 32. -/
def share (e n : Int) : Int := e / 4294967296 * n / 4294967296
/-- What a text begins with. -/
def seed (l : List UInt8) : Int := l.foldl (fun h c => mix h (c.toNat : Int)) 14695981039346656037

theorem next_bd (d : Int) : 0 ≤ next d ∧ next d ≤ 18446744073709551615 := by unfold next; omega
theorem mix_bd (h c : Int) : 0 ≤ mix h c ∧ mix h c ≤ 18446744073709551615 := by unfold mix; omega
theorem seed_nil : seed [] = 14695981039346656037 := rfl
theorem seed_snoc (l : List UInt8) (c : UInt8) : seed (l ++ [c]) = mix (seed l) (c.toNat : Int) := by unfold seed; rw [List.foldl_append]; rfl
theorem seed_bd (l : List UInt8) : 0 ≤ seed l ∧ seed l ≤ 18446744073709551615 := by
  rcases List.eq_nil_or_concat l with rfl | ⟨m, c, rfl⟩
  · rw [seed_nil]; omega
  · rw [List.concat_eq_append, seed_snoc]; exact mix_bd _ _
theorem share_bd {e n : Int} (he : 0 ≤ e ∧ e ≤ 18446744073709551615) (hn : 1 ≤ n ∧ n ≤ 2147483647) :
    0 ≤ e / 4294967296 * n ∧ e / 4294967296 * n ≤ 9223372030412324865 ∧ 0 ≤ share e n ∧ share e n < n := by
  unfold share
  have hq : 0 ≤ e / 4294967296 ∧ e / 4294967296 ≤ 4294967295 := by omega
  generalize e / 4294967296 = q at *
  have h1 : 0 ≤ q * n := Int.mul_nonneg hq.1 (by omega)
  have h2 : q * n ≤ 4294967295 * n := Int.mul_le_mul_of_nonneg_right hq.2 (by omega)
  generalize q * n = p at *
  omega
theorem undo (A I M z : Int) (h : A * I % M = 1 % M) : z * A % M * I % M = z % M := by
  rw [Int.mul_emod, Int.emod_emod, ← Int.mul_emod, Int.mul_assoc, Int.mul_emod, h, ← Int.mul_emod, Int.mul_one]
theorem mul_inj {A I M x y : Int} (h : A * I % M = 1 % M) (hx : 0 ≤ x ∧ x < M) (hy : 0 ≤ y ∧ y < M) (e : x * A % M = y * A % M) : x = y := by
  have hX := undo A I M x h
  have hY := undo A I M y h
  rw [e, hY, Int.emod_eq_of_lt hx.1 hx.2, Int.emod_eq_of_lt hy.1 hy.2] at hX
  exact hX.symm
theorem add_inj {x y : Int} (e : (x + 1442695040888963407) % 18446744073709551616 = (y + 1442695040888963407) % 18446744073709551616) : x % 18446744073709551616 = y % 18446744073709551616 := by omega
theorem next_inj {c d : Int} (hc : 0 ≤ c ∧ c ≤ 18446744073709551615) (hd : 0 ≤ d ∧ d ≤ 18446744073709551615) : next c = next d ↔ c = d :=
  ⟨fun e => mul_inj (A := 6364136223846793005) (I := 13877824140714322085) (M := 18446744073709551616) (by decide +kernel) ⟨hc.1, by have := hc.2; clear e; omega⟩ ⟨hd.1, by have := hd.2; clear e; omega⟩ (add_inj e), fun e => e ▸ rfl⟩
theorem next_odd (d : Int) : next d % 2 ≠ d % 2 := by
  unfold next
  have e : d * 6364136223846793005 = 2 * (d * 3182068111923396502) + d := by
    rw [Int.mul_comm 2, Int.mul_assoc, show (3182068111923396502 : Int) * 2 = 6364136223846793004 from rfl, show (6364136223846793005 : Int) = 6364136223846793004 + 1 from rfl, Int.mul_add, Int.mul_one]
  rw [e]
  generalize d * 3182068111923396502 = x
  omega
theorem xor_lt {a b : Int} (ha : 0 ≤ a ∧ a ≤ 18446744073709551615) (hb : 0 ≤ b ∧ b ≤ 18446744073709551615) : ((a.toNat ^^^ b.toNat : Nat) : Int) ≤ 18446744073709551615 := by
  have := Nat.xor_lt_two_pow (n := 64) (show a.toNat < 2 ^ 64 by omega) (show b.toNat < 2 ^ 64 by omega)
  generalize a.toNat ^^^ b.toNat = x at *
  omega
theorem mix_inj {h a b : Int} (hh : 0 ≤ h ∧ h ≤ 18446744073709551615) (ha : 0 ≤ a ∧ a ≤ 255) (hb : 0 ≤ b ∧ b ≤ 255) : mix h a = mix h b ↔ a = b := by
  refine ⟨fun e => ?_, fun e => e ▸ rfl⟩
  have hx : (0 : Int) ≤ ((h.toNat ^^^ a.toNat : Nat) : Int) ∧ ((h.toNat ^^^ a.toNat : Nat) : Int) < 18446744073709551616 := ⟨Int.natCast_nonneg _, Int.lt_of_le_of_lt (xor_lt hh ⟨ha.1, Int.le_trans ha.2 (by decide)⟩) (by decide)⟩
  have hy : (0 : Int) ≤ ((h.toNat ^^^ b.toNat : Nat) : Int) ∧ ((h.toNat ^^^ b.toNat : Nat) : Int) < 18446744073709551616 := ⟨Int.natCast_nonneg _, Int.lt_of_le_of_lt (xor_lt hh ⟨hb.1, Int.le_trans hb.2 (by decide)⟩) (by decide)⟩
  have h3 := mul_inj (A := 1099511628211) (I := 14886173955864302971) (M := 18446744073709551616) (by decide +kernel) hx hy e
  have h4 : h.toNat ^^^ a.toNat = h.toNat ^^^ b.toNat := Int.ofNat.inj h3
  have h5 : a.toNat = b.toNat := by
    have := congrArg (h.toNat ^^^ ·) h4
    simpa [← Nat.xor_assoc] using this
  clear e h3 h4 hx hy hh
  omega
end Dn
