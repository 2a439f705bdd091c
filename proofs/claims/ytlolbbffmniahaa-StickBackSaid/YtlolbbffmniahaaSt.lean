/-
What a stick's float comes to, plainly: between an eighth and one the word times 127, a half more, cut; that it is from -127 to 127, and does not fall.
-/
import Derived.Test.YtlolbbffmniahaaFl
namespace St
open Fl Ieee

def cM : Nat := 4638637247447433216
def cH : Nat := 4602678819172646912

/-- The number to which a rung between an eighth and one is rounded. -/
noncomputable def K (r : Nat) : Nat := G (rn (G (rn (G r * G cM) 1074) + G cH) 0) / U

theorem G1 : G 4607182418800017408 = U := by decide +kernel
theorem G8 : 8 * G 4593671619917905920 = U := by decide +kernel
theorem GM : G cM = 127 * U := by decide +kernel
theorem GH : G cM + G cH = G 4638672431819522048 := by decide +kernel
theorem GT : G 4638672431819522048 / U = 127 := by decide +kernel
theorem U_pos : 0 < U := by decide +kernel
theorem two1074 : 2 ^ 1074 = U := by unfold U; exact Eq.refl _

theorem rn1 {r : Nat} (h : G r ≤ U) : rn (G r * G cM) 1074 ≤ cM := by
  refine rn_le ?_
  rw [Nat.mul_comm (G cM), two1074]
  exact Nat.mul_le_mul_right _ h

theorem rn2 {r : Nat} (h : G r ≤ U) : rn (G (rn (G r * G cM) 1074) + G cH) 0 ≤ 4638672431819522048 := by
  refine rn_le ?_
  have := G_le (rn1 h)
  rw [← GH]
  omega

theorem K_le {r : Nat} (h : G r ≤ U) : K r ≤ 127 := by
  have := G_le (rn2 h)
  unfold K
  rw [← GT]
  exact Nat.div_le_div_right this

theorem K_mono {r r' : Nat} (h : r ≤ r') : K r ≤ K r' := by
  unfold K
  refine Nat.div_le_div_right (G_le (rn_mono ?_))
  have := G_le (rn_mono (s := 1074) (Nat.mul_le_mul_right (G cM) (G_le h)))
  omega

theorem cM_fin : rung cM < inf := by decide +kernel
theorem cH_fin : rung cH < inf := by decide +kernel
theorem cM_rung : rung cM = cM := by decide +kernel
theorem cH_rung : rung cH = cH := by decide +kernel
theorem cM_sgn : sgn cM = false := by decide +kernel
theorem cH_sgn : sgn cH = false := by decide +kernel
theorem lt_inf : 4638672431819522048 < inf := by decide +kernel
theorem cM_inf : cM < inf := by decide +kernel
theorem one_inf : 4607182418800017408 < inf := by decide +kernel

theorem fin_of {b : Nat} (h : G (rung b) ≤ U) : rung b < inf := by
  rw [← G1] at h
  have := G_le_iff.1 h
  have := one_inf
  omega

theorem Z_cH : Z cH = G cH := by unfold Z; rw [cH_sgn, cH_rung]; rfl

theorem GH_pos : 0 < G cH := by decide +kernel

/-- The three steps between an eighth and one, above nought. -/
theorem steps_pos {b : Nat} (hs : sgn b = false) (h : G (rung b) ≤ U) :
    ∃ s t, double.mul b cM = some s ∧ double.add s cH = some t ∧ Go.floatToIntVal .f64 t .i8 = some (K (rung b) : Int) := by
  have i63 := inf_lt
  have m := mul_eq (fin_of h) cM_fin
  rw [hs, cM_sgn, cM_rung] at m
  have a1 := rn1 h
  have a2 := rn2 h
  have a3 := K_le h
  have l1 := cM_inf
  have l2 := lt_inf
  rw [Nat.min_eq_left (by omega)] at m
  unfold K at *
  generalize rn (G (rung b) * G cM) 1074 = r at *
  obtain ⟨p1, p2⟩ := word_parts false (r := r) (by omega)
  have zs : Z (double.word false r) = G r := by unfold Z; rw [p1, p2]; rfl
  have d := add_eq (x := double.word false r) (y := cH) (by rw [p2]; omega) cH_fin
  have gp := GH_pos
  rw [zs, Z_cH, if_neg (by omega), decide_eq_false (by omega), show ((G r : Int) + G cH).natAbs = G r + G cH from by omega, Nat.min_eq_left (by omega)] at d
  generalize rn (G r + G cH) 0 = q at *
  obtain ⟨p3, p4⟩ := word_parts false (r := q) (by omega)
  have zt : Z (double.word false q) = G q := by unfold Z; rw [p3, p4]; rfl
  refine ⟨_, _, m, d, ?_⟩
  unfold Go.floatToIntVal Go.FloatKind.decode
  have c := toInt_eq (x := double.word false q) (by rw [p4]; omega)
  rw [show Go.FloatKind.format .f64 = double from rfl, c, zt, Int.tdiv_eq_ediv_of_nonneg (by omega), ← Int.natCast_ediv]
  generalize G q / U = k at *
  simp only [Go.IntKind.min, Go.IntKind.max, Go.IntKind.signed, Go.IntKind.bits]
  rw [if_pos (by constructor <;> simp <;> omega)]

/-- The three steps between an eighth and one, below nought. -/
theorem steps_neg {b : Nat} (hs : sgn b = true) (h : G (rung b) ≤ U) :
    ∃ s t, double.mul b cM = some s ∧ double.sub s cH = some t ∧ Go.floatToIntVal .f64 t .i8 = some (-(K (rung b) : Int)) := by
  have i63 := inf_lt
  have m := mul_eq (fin_of h) cM_fin
  rw [hs, cM_sgn, cM_rung] at m
  have a1 := rn1 h
  have a2 := rn2 h
  have a3 := K_le h
  have l1 := cM_inf
  have l2 := lt_inf
  rw [Nat.min_eq_left (by omega)] at m
  unfold K at *
  generalize rn (G (rung b) * G cM) 1074 = r at *
  obtain ⟨p1, p2⟩ := word_parts true (r := r) (by omega)
  have zs : Z (double.word true r) = -(G r : Int) := by unfold Z; rw [p1, p2]; rfl
  have d := sub_eq (x := double.word true r) (y := cH) (by rw [p2]; omega) cH_fin
  have gp := GH_pos
  rw [zs, Z_cH, if_neg (by omega), decide_eq_true (by omega), show (-(G r : Int) - G cH).natAbs = G r + G cH from by omega, Nat.min_eq_left (by omega)] at d
  generalize rn (G r + G cH) 0 = q at *
  obtain ⟨p3, p4⟩ := word_parts true (r := q) (by omega)
  have zt : Z (double.word true q) = -(G q : Int) := by unfold Z; rw [p3, p4]; rfl
  refine ⟨_, _, m, d, ?_⟩
  unfold Go.floatToIntVal Go.FloatKind.decode
  have c := toInt_eq (x := double.word true q) (by rw [p4]; omega)
  rw [show Go.FloatKind.format .f64 = double from rfl, c, zt, Int.neg_tdiv, Int.tdiv_eq_ediv_of_nonneg (by omega), ← Int.natCast_ediv]
  generalize G q / U = k at *
  simp only [Go.IntKind.min, Go.IntKind.max, Go.IntKind.signed, Go.IntKind.bits]
  rw [if_pos (by constructor <;> simp <;> omega)]

/-- What a float comes to. -/
noncomputable def axis (b : Nat) : Int :=
  if isNaN b then 0 else if 8 * G (rung b) < U then 0 else if U ≤ G (rung b) then (if sgn b then -127 else 127)
  else if sgn b then -(K (rung b) : Int) else K (rung b)

theorem axis_bound (b : Nat) : -127 ≤ axis b ∧ axis b ≤ 127 := by
  unfold axis
  split
  · omega
  · split
    · omega
    · split
      · split <;> omega
      · rename_i h
        have := K_le (r := rung b) (by omega)
        split <;> omega

theorem axis_flip (b : Nat) (h : b < 2 ^ 64) : axis (flip b) = -axis b := by
  unfold axis
  rw [flip_rung, flip_nan, flip_sgn b h]
  cases isNaN b <;> cases sgn b <;> simp <;> (repeat' split) <;> omega

theorem axis_mono (a b : Nat) (ha : isNaN a = false) (hb : isNaN b = false) (h : Z a ≤ Z b) : axis a ≤ axis b := by
  have up := U_pos
  unfold axis
  rw [ha, hb]
  simp only [Bool.false_eq_true, if_false]
  unfold Z at h
  have km : ∀ {r r' : Nat}, G r ≤ G r' → K r ≤ K r' := fun h => K_mono (G_le_iff.1 h)
  have kl : ∀ {r : Nat}, G r < U → K r ≤ 127 := fun h => K_le (Nat.le_of_lt h)
  have k1 := @km (rung a) (rung b)
  have k2 := @km (rung b) (rung a)
  have k3 := @kl (rung a)
  have k4 := @kl (rung b)
  clear km kl
  generalize sgn a = sa at *
  generalize sgn b = sb at *
  cases sa <;> cases sb <;> simp only [Bool.false_eq_true, if_false, if_true] at * <;> (repeat' split) <;> omega

/-- The same, reckoned. -/
def reckon (b : Nat) : Option Int :=
  if isNaN b then some 0 else if 8 * G (rung b) < U then some 0 else if U ≤ G (rung b) then some (if sgn b then -127 else 127)
  else (double.mul b cM).bind fun s => (if sgn b then double.sub s cH else double.add s cH).bind fun t => Go.floatToIntVal .f64 t .i8

theorem reckon_eq (b : Nat) : reckon b = some (axis b) := by
  unfold reckon axis
  split
  · rfl
  · split
    · rfl
    · split
      · rfl
      · rename_i h
        cases hs : sgn b
        · obtain ⟨s, t, h1, h2, h3⟩ := steps_pos hs (by omega : G (rung b) ≤ U)
          rw [h1]; simp only [Option.bind_some, Bool.false_eq_true, if_false]; rw [h2]; simp only [Option.bind_some]; rw [h3]
        · obtain ⟨s, t, h1, h2, h3⟩ := steps_neg hs (by omega : G (rung b) ≤ U)
          rw [h1]; simp only [Option.bind_some, if_true]; rw [h2]; simp only [Option.bind_some]; rw [h3]

theorem axis_of {b : Nat} {n : Int} (h : reckon b = some n) : axis b = n := by
  rw [reckon_eq] at h; exact Option.some.inj h

/-- A number's value. -/
def value (a : Int) : Nat := (double.div (Go.floatOfInt .f64 (max a (-127))) cM).getD 0

theorem i8_cases {P : Int → Prop} (h : ∀ i : Fin 256, P ((i.val : Int) - 128)) (a : Int) (h1 : -128 ≤ a) (h2 : a ≤ 127) : P a := by
  have := h ⟨(a + 128).toNat, by omega⟩
  have e : (((a + 128).toNat : Nat) : Int) - 128 = a := by omega
  rwa [e] at this

theorem value_some (a : Int) (h1 : -128 ≤ a) (h2 : a ≤ 127) : double.div (Go.floatOfInt .f64 (max a (-127))) cM = some (value a) := by
  have : (double.div (Go.floatOfInt .f64 (max a (-127))) cM).isSome = true :=
    i8_cases (P := fun a => (double.div (Go.floatOfInt .f64 (max a (-127))) cM).isSome = true) (by decide +kernel) a h1 h2
  unfold value
  cases h : double.div (Go.floatOfInt .f64 (max a (-127))) cM
  · rw [h] at this; cases this
  · rfl
theorem value_lt (a : Int) (h1 : -128 ≤ a) (h2 : a ≤ 127) : value a < 2 ^ 64 := by
  have h := value_some a h1 h2
  unfold Format.div at h
  obtain ⟨d, _, h⟩ := Option.map_eq_some_iff.1 h
  rw [← h]
  exact double.write_lt d
theorem value_num (a : Int) (h1 : -128 ≤ a) (h2 : a ≤ 127) : isNaN (value a) = false :=
  i8_cases (P := fun a => isNaN (value a) = false) (by decide +kernel) a h1 h2
end St
