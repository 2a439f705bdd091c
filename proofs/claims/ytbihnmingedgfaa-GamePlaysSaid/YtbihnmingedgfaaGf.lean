/-
A field that goes round, plainly: places, ways, who is hit, speeds, shots.
-/
import Derived.Test.YtbihnmingedgfaaFx
namespace Gf

def wrap (a : Int) : Int := a % 16777216
def move (a v : Int) : Int := (a + v) % 16777216
def gap (a b : Int) : Int := (b - a + 8388608) % 16777216 - 8388608
def near (g : Int) : Bool := decide (-786432 < g) && decide (g < 786432)
def hits (ax ay bx by' : Int) : Bool := near (gap ax bx) && near (gap ay by')
def push (v s : Int) : Int := Fx.clamp (Fx.cut (v - v.tdiv 16 + 256 * s)) (-524288) 524288
def tame (a : Int) : Int := if a = -128 then -127 else a
def way (a : Int) : Int := if 0 < a then 393216 else if a < 0 then -393216 else 0
def aimx (x y : Int) : Int := if x = 0 ∧ y = 0 then 393216 else way x
def aimy (y : Int) : Int := way y

theorem wrap_bd (a : Int) : 0 ≤ wrap a ∧ wrap a < 16777216 := by unfold wrap; omega
theorem move_bd (a v : Int) : 0 ≤ move a v ∧ move a v < 16777216 := by unfold move; omega
theorem gap_bd (a b : Int) : -8388608 ≤ gap a b ∧ gap a b < 8388608 := by unfold gap; omega
theorem push_bd (v s : Int) : -524288 ≤ push v s ∧ push v s ≤ 524288 := by unfold push Fx.clamp; omega
theorem tame_bd {a : Int} (h : -128 ≤ a ∧ a ≤ 127) : -127 ≤ tame a ∧ tame a ≤ 127 := by unfold tame; split <;> omega
theorem tame_same {a : Int} (h : a ≠ -128) : tame a = a := by unfold tame; rw [if_neg h]
theorem way_bd (a : Int) : -393216 ≤ way a ∧ way a ≤ 393216 := by unfold way; split <;> (try split) <;> omega
theorem aimx_bd (x y : Int) : -393216 ≤ aimx x y ∧ aimx x y ≤ 393216 := by
  unfold aimx; split
  · omega
  · exact way_bd _
theorem slow_in {v : Int} (w : -2147483648 ≤ v ∧ v ≤ 2147483647) : -2147483648 ≤ v - v.tdiv 16 ∧ v - v.tdiv 16 ≤ 2147483647 ∧ -134217728 ≤ v.tdiv 16 ∧ v.tdiv 16 ≤ 134217727 := by
  by_cases h : 0 ≤ v
  · have := Int.tdiv_eq_ediv_of_nonneg h (b := 16); omega
  · have e : v.tdiv 16 = -((-v) / 16) := by
      have : v = -(-v) := by omega
      rw [this, Int.neg_tdiv, Int.tdiv_eq_ediv_of_nonneg (by omega)]; simp
    omega
/-- The remainder that Go tells, brought up. -/
theorem around_eq (v : Int) : (if v.tmod 16777216 < 0 then v.tmod 16777216 + 16777216 else v.tmod 16777216) = v % 16777216 := by
  have h1 := Int.tmod_eq_emod (a := v) (b := 16777216)
  split <;> (split at h1 <;> omega)
theorem round_eq (v : Int) : (v.tmod 16777216 + 16777216).tmod 16777216 = v % 16777216 := by
  have h1 := Int.tmod_eq_emod (a := v) (b := 16777216)
  have h3 : 0 ≤ v.tmod 16777216 + 16777216 := by
    have := Int.lt_tmod_of_pos v (b := 16777216) (by omega); omega
  rw [Int.tmod_eq_emod_of_nonneg h3]
  split at h1 <;> omega
theorem round_eq' (v : Int) : (v.tmod 16777216 + 16777216) % 16777216 = v % 16777216 := by
  have h := round_eq v
  rwa [Int.tmod_eq_emod_of_nonneg (by have := Int.lt_tmod_of_pos v (b := 16777216) (by omega); omega)] at h
theorem tmod_bd (v : Int) : -16777216 < v.tmod 16777216 ∧ v.tmod 16777216 < 16777216 := ⟨Int.lt_tmod_of_pos v (by omega), Int.tmod_lt_of_pos v (by omega)⟩
end Gf
