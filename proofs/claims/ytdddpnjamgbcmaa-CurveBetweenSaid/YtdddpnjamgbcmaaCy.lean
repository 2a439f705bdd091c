/-
Floats plainly, on: whole numbers as floats, quotients by powers of two, turns of eighths, mixes of eighths.
-/
import Derived.Test.YtdddpnjamgbcmaaCx
namespace Cv
open Fl Ieee

theorem of_int_Z (a : Int) (h : a.natAbs < 2 ^ 53) : Z (Go.floatOfInt .f64 a) = a * U ∧ rung (Go.floatOfInt .f64 a) < inf ∧ Go.floatOfInt .f64 a < 2 ^ 64 := by
  obtain ⟨r, e, g, lt⟩ := Fo.of_int a h
  have i := Fo.inf63
  obtain ⟨p1, p2⟩ := word_parts (decide (a < 0)) (r := r) (by omega)
  rw [e]
  refine ⟨?_, by rw [p2]; exact lt, word_wf _ (by omega)⟩
  rw [word_Z _ (by omega), g]
  by_cases c : a < 0
  · obtain ⟨n, rfl⟩ : ∃ n : Nat, a = -(n : Int) := ⟨a.natAbs, by omega⟩
    rw [decide_eq_true c]
    simp only [if_true]
    rw [show (-(n : Int)).natAbs = n from by omega, Int.natCast_mul, Int.neg_mul]
  · obtain ⟨n, rfl⟩ : ∃ n : Nat, a = (n : Int) := ⟨a.natAbs, by omega⟩
    rw [decide_eq_false c]
    simp only [Bool.false_eq_true, if_false]
    rw [show (n : Int).natAbs = n from by omega, Int.natCast_mul]

/-- A finite word through a power of two. -/
theorem divp {x c k : Nat} (hc : double.read c = .number false (2 ^ 52) ((k : Int) - 52)) (hx : rung x < inf) : double.div x c = some (double.word (sgn x) (min (rn (G (rung x)) k) inf)) := by
  rcases read_cases x with ⟨_, m, p, r1, p1, g1⟩ | ⟨c1, _⟩ | ⟨c1, _⟩
  · have hm := Fo.log_le (Fo.read_bd r1)
    unfold Format.div
    rw [r1, hc]
    show some (double.nearest (sgn x ^^ false) (2 * ((m <<< (54 + (2 ^ 52 : Nat).log2 - m.log2)) / 2 ^ 52) + ((m <<< (54 + (2 ^ 52 : Nat).log2 - m.log2)) % 2 ^ 52 != 0).toNat) (p - ((k : Int) - 52) - ((54 + (2 ^ 52 : Nat).log2 - m.log2 : Nat) : Int) - 1)) = _
    rw [show (2 ^ 52 : Nat).log2 = 52 from by decide +kernel]
    obtain ⟨j, hj⟩ : ∃ j, 54 + 52 - m.log2 = 52 + j := ⟨54 - m.log2, by omega⟩
    have hd : m <<< (54 + 52 - m.log2) = m * 2 ^ j * 2 ^ 52 := by
      rw [hj, Nat.shiftLeft_eq, Nat.pow_add]; ac_rfl
    rw [hd, hj, Nat.mul_div_cancel _ (by decide), Nat.mul_mod_left]
    rw [nearest_eq _ _ _ (k + (j + 1)) (G (rung x) * 2 ^ (j + 1)) (by omega) ?_, rn_of ((near_rn (G (rung x)) k).scale (j + 1))]
    · simp
    · rw [← g1]
      simp only [bne_self_eq_false, Bool.toNat_false, Nat.add_zero]
      have e : ((p - ((k : Int) - 52) - ((52 + j : Nat) : Int) - 1) + 1074 + ((k + (j + 1) : Nat) : Int)).toNat = (p + 1074).toNat := by omega
      rw [e, Nat.pow_succ]
      ac_rfl
  · omega
  · omega

theorem div_exact {x c k n e : Nat} (hc : double.read c = .number false (2 ^ 52) ((k : Int) - 52)) (hx : rung x < inf) (hn : n < 2 ^ 53) (h : (Z x).natAbs = n * 2 ^ e * 2 ^ k) :
    ∃ r, double.div x c = some r ∧ Z r * 2 ^ k = Z x ∧ rung r < inf := by
  have d := divp hc hx
  obtain ⟨q, hq⟩ := Fo.rung_of n e hn
  have i := Fo.inf63
  have g : G (rung x) = G q * 2 ^ k := by rw [← Z_abs, h, hq]
  rw [g, rn_exact] at d
  have lq : q < inf := by
    have := Nat.two_pow_pos k
    have h1 : G q * 1 ≤ G q * 2 ^ k := Nat.mul_le_mul_left _ this
    have := G_lt hx
    exact G_lt_iff.1 (by omega)
  rw [Nat.min_eq_left (by omega)] at d
  refine ⟨_, d, ?_, by rw [(word_parts _ (by omega)).2]; exact lq⟩
  rw [word_Z _ (by omega)]
  have z : Z x = if sgn x then -(G (rung x) : Int) else G (rung x) := rfl
  rw [z, g]
  cases sgn x <;> simp [Int.neg_mul]

theorem read2 : double.read 4611686018427387904 = .number false (2 ^ 52) ((1 : Nat) - 52 : Int) := by decide +kernel
theorem read8 : double.read 4620693217682128896 = .number false (2 ^ 52) ((3 : Nat) - 52 : Int) := by decide +kernel

/-- A sixteenth: all that follows is whole in it. -/
theorem W_some : ∃ k W : Nat, 2 ^ k = W ∧ 16 * W = U ∧ 0 < W := by
  obtain ⟨k, hk⟩ : ∃ k : Nat, k = 1070 := ⟨_, rfl⟩
  refine ⟨k, 2 ^ k, rfl, ?_, Nat.two_pow_pos k⟩
  have : 2 ^ 4 * 2 ^ k = U := by rw [← Nat.pow_add]; exact Fo.U_pow (by omega)
  rw [← this]

theorem W_bits {k W : Nat} (hk : 2 ^ k = W) (hW : 16 * W = U) (n : Int) (hn : n.natAbs ≤ 1099511627776) : (n * W).natAbs = n.natAbs * 2 ^ k ∧ (n * W).natAbs < G inf := by
  have e : (n * (W : Int)).natAbs = n.natAbs * W := by rw [Int.natAbs_mul]; rfl
  have b : 1099511627776 * U < G inf := by decide +kernel
  have := Nat.mul_le_mul_right W hn
  rw [hk]
  omega
theorem W_word {k W : Nat} (hk : 2 ^ k = W) (hW : 16 * W = U) (n : Int) (hn : n.natAbs ≤ 1099511627776) : ∃ h, Z h = n * W ∧ rung h < inf ∧ h < 2 ^ 64 := by
  obtain ⟨b1, b2⟩ := W_bits hk hW n hn
  exact word_of_bits _ n.natAbs k (by omega) b1 b2
theorem rd_W {k W : Nat} (hk : 2 ^ k = W) (hW : 16 * W = U) (z : Bool) (n : Int) (hn : n.natAbs ≤ 1099511627776) : Z (rd z (n * W)) = n * W ∧ rung (rd z (n * W)) < inf := by
  obtain ⟨h, h1, h2, _⟩ := W_word hk hW n hn
  have e := rd_exact (z := z) (Nat.le_of_lt h2) h1.symm
  refine ⟨by rw [e, h1], rung_fin h2 (by omega) (by omega)⟩

theorem n16 (n W : Nat) : n * (16 * W) = n * (W * 2) * 2 ^ 3 := by grind

/-- An eighth of a whole number. -/
theorem eighth {k W : Nat} (hk : 2 ^ k = W) (hW : 16 * W = U) (j : Int) (hj : j.natAbs ≤ 1099511627776) : ∃ r, double.div (Go.floatOfInt .f64 j) 4620693217682128896 = some r ∧ Z r = 2 * j * W ∧ rung r < inf := by
  obtain ⟨z, f, _⟩ := of_int_Z j (by omega)
  have hU : (U : Int) = 16 * W := by omega
  obtain ⟨r, e, h, lt⟩ := div_exact (n := j.natAbs) (e := k + 1) read8 f (by omega) (by
    rw [z, Int.natAbs_mul, Int.natAbs_natCast, ← hW, Nat.pow_succ, hk]
    exact n16 _ _)
  refine ⟨r, e, ?_, lt⟩
  rw [z, hU] at h
  grind

/-- A turn of eighths. -/
theorem turn_eighths {k W : Nat} (hk : 2 ^ k = W) (hW : 16 * W = U) {x : Nat} (hx : rung x < inf) (j e : Int) (h0 : 0 ≤ e) (h1 : e < 8) (z : Z x = 2 * (8 * j + e) * W) :
    isNaN (turn x) = false ∧ Z (turn x) = 2 * (if 4 ≤ e then e - 8 else e) * W ∧ (e = 0 → sgn (turn x) = false) := by
  obtain ⟨p, q, _, np, p0, p1, sp, fp, _, nq, _, t, ep, eq⟩ := turn_steps hx
  obtain ⟨m, m1, m2, m3, _⟩ := flr_Z hx
  have W0 : 0 < (W : Int) := by have := U0; omega
  have hU : (U : Int) = 16 * W := by omega
  rw [hU] at m1 m3
  have e1 : m * (16 * (W : Int)) = 16 * m * W := by grind
  rw [e1] at m1
  rw [m1] at m2 m3
  rw [z] at m2 m3
  have l1 : 16 * m ≤ 2 * (8 * j + e) := Int.le_of_mul_le_mul_right m2 W0
  have l2 : 2 * (8 * j + e) < 16 * m + 16 := by
    refine Int.lt_of_mul_lt_mul_right (a := (W : Int)) ?_ (by omega)
    rw [Int.add_mul (16 * m) 16]
    exact m3
  have hm : m = j := by omega
  subst hm
  have d : Z x - Z (flr x) = (2 * e) * W := by rw [z, m1]; grind
  rw [d] at ep
  have zp := (rd_W hk hW false (2 * e) (by omega)).1
  rw [← ep] at zp
  have d2 : Z p - U = (2 * e - 16) * W := by rw [zp, hU]; grind
  rw [d2] at eq
  have zq := (rd_W hk hW false (2 * e - 16) (by omega)).1
  rw [← eq] at zq
  clear ep eq
  rw [t]
  by_cases c : 4 ≤ e
  · have : (U : Int) ≤ 2 * Z p := by
      rw [zp, hU]
      have := Int.mul_le_mul_of_nonneg_right (show (16 : Int) ≤ 4 * e by omega) (Int.le_of_lt W0)
      have e2 : 2 * (2 * e * (W : Int)) = 4 * e * W := by grind
      omega
    rw [if_pos this, if_pos c]
    refine ⟨nq, ?_, fun h => by omega⟩
    rw [zq]
    congr 1
    omega
  · have : ¬ (U : Int) ≤ 2 * Z p := by
      rw [zp, hU]
      have := Int.mul_lt_mul_of_pos_right (show 4 * e < (16 : Int) by omega) W0
      have e2 : 2 * (2 * e * (W : Int)) = 4 * e * W := by grind
      omega
    rw [if_neg this, if_neg c]
    exact ⟨np, zp, fun _ => sp⟩

/-- What is mixed of two whose difference is a word lies between them. -/
theorem mix_mid {x y t : Nat} (fx : rung x < inf) (fy : rung y < inf) (hd : ∃ h, rung h < inf ∧ Z y - Z x = Z h) :
    (Z x ≤ Z y → Z x ≤ Z (mix x y t) ∧ Z (mix x y t) ≤ Z y) ∧ (Z y ≤ Z x → Z y ≤ Z (mix x y t) ∧ Z (mix x y t) ≤ Z x) := by
  obtain ⟨nu, u0, u1, su, fu, _⟩ := unit_spec t
  unfold mix
  by_cases h0 : Z (unit t) = 0
  · rw [if_pos h0]; omega
  · rw [if_neg h0]
    by_cases h1 : Z (unit t) = U
    · rw [if_pos h1]; omega
    · rw [if_neg h1, Fo.fin_num fx, Fo.fin_num fy]
      simp only [Bool.or_self, Bool.false_eq_true, if_false]
      by_cases hz : Z x = Z y
      · rw [if_pos hz]; omega
      · rw [if_neg hz]
        obtain ⟨h, hf, hh⟩ := hd
        have e1 := sub_rd fy fx
        have zd := rd_exact (z := sgn y && !sgn x) (Nat.le_of_lt hf) hh
        generalize rd (sgn y && !sgn x) (Z y - Z x) = d at *
        have fd : rung d < inf := rung_fin hf (by omega) (by omega)
        have e2 := mul_eq fd fu
        rw [su, Bool.xor_false] at e2
        have gu : G (rung (unit t)) ≤ U := by
          have : Z (unit t) = if sgn (unit t) then -(G (rung (unit t)) : Int) else G (rung (unit t)) := rfl
          rw [su] at this; simp at this; omega
        obtain ⟨k, hk⟩ : ∃ k : Nat, k = 1074 := ⟨_, rfl⟩
        have hU := Fo.U_pow hk
        rw [← hk] at e2
        have br : rn (G (rung d) * G (rung (unit t))) k ≤ rung d := rn_le (by rw [hU]; exact Nat.mul_le_mul_left _ gu)
        have i := Fo.inf63
        rw [Nat.min_eq_left (by omega)] at e2
        generalize rn (G (rung d) * G (rung (unit t))) k = r at *
        obtain ⟨p1, p2⟩ := word_parts (sgn d) (r := r) (by omega)
        have zm := word_Z (sgn d) (r := r) (by omega)
        generalize double.word (sgn d) r = m at *
        have fm : rung m < inf := by omega
        have e3 := add_rd fx fm
        have gr := G_le br
        have zd' : Z d = if sgn d then -(G (rung d) : Int) else G (rung d) := rfl
        have eb : (btw x y (unit t)).getD y = rd (sgn x && sgn m) (Z x + Z m) := by
          unfold btw
          rw [e1]
          simp only [e2, e3]
          rfl
        rw [eb]
        clear eb e1 e2 e3
        cases sd : sgn d
        · rw [sd] at zm zd'
          simp at zm zd'
          refine ⟨fun _ => ⟨le_rd (Nat.le_of_lt fx) (by omega), rd_le (Nat.le_of_lt fy) (by omega)⟩, fun _ => by omega⟩
        · rw [sd] at zm zd'
          simp at zm zd'
          refine ⟨fun _ => by omega, fun _ => ⟨le_rd (Nat.le_of_lt fy) (by omega), rd_le (Nat.le_of_lt fx) (by omega)⟩⟩

theorem unit_half : unit 4602678819172646912 = 4602678819172646912 := by decide +kernel
theorem rh : rung 4602678819172646912 = 4602678819172646912 := by decide +kernel
theorem fh : rung 4602678819172646912 < inf := by decide +kernel
theorem sh : sgn 4602678819172646912 = false := by decide +kernel
theorem gh : 2 * G 4602678819172646912 = U := by decide +kernel

/-- The middle of two numbers of eighths. -/
theorem mix_half {k W : Nat} (hk : 2 ^ k = W) (hW : 16 * W = U) {x y : Nat} (fx : rung x < inf) (fy : rung y < inf) (X Y : Int) (zx : Z x = 2 * X * W) (zy : Z y = 2 * Y * W) (bX : X.natAbs ≤ 8000) (bY : Y.natAbs ≤ 8000) :
    Z (mix x y 4602678819172646912) = (X + Y) * W := by
  have W0 : 0 < (W : Int) := by have := U0; omega
  unfold mix
  rw [unit_half]
  have z := zh
  have up := U0
  rw [if_neg (by omega), if_neg (by omega), Fo.fin_num fx, Fo.fin_num fy]
  simp only [Bool.or_self, Bool.false_eq_true, if_false]
  by_cases hz : Z x = Z y
  · rw [if_pos hz]
    rw [zx, zy] at hz
    have := Int.eq_of_mul_eq_mul_right (by omega) hz
    rw [zx]
    congr 1
    omega
  · rw [if_neg hz]
    have e1 := sub_rd fy fx
    have hS : Z y - Z x = (2 * (Y - X)) * W := by rw [zx, zy]; grind
    rw [hS] at e1
    obtain ⟨zd, fd⟩ := rd_W hk hW (sgn y && !sgn x) (2 * (Y - X)) (by omega)
    generalize rd (sgn y && !sgn x) (2 * (Y - X) * W) = d at *
    have e2 := mul_eq fd fh
    rw [sh, Bool.xor_false, rh] at e2
    obtain ⟨q, hq⟩ := Fo.rung_of (Y - X).natAbs k (by omega)
    have gd : G (rung d) * G 4602678819172646912 = G q * U := by
      rw [← Z_abs d, zd, ← gh, hq, hk]
      have : (2 * (Y - X) * (W : Int)).natAbs = 2 * (Y - X).natAbs * W := by rw [Int.natAbs_mul, Int.natAbs_mul]; rfl
      rw [this]
      grind
    rw [gd, Fo.rn_U] at e2
    have i := Fo.inf63
    have gd' : G (rung d) = 2 * G q := by
      rw [← Z_abs d, zd, hq, hk, Int.natAbs_mul, Int.natAbs_mul]
      show 2 * (Y - X).natAbs * W = _
      grind
    have lq : q < inf := by
      have := G_lt fd
      exact G_lt_iff.1 (by omega)
    rw [Nat.min_eq_left (by omega)] at e2
    obtain ⟨p1, p2⟩ := word_parts (sgn d) (r := q) (by omega)
    have zm := word_Z (sgn d) (r := q) (by omega)
    generalize double.word (sgn d) q = m at *
    have fm : rung m < inf := by omega
    have zd' : Z d = if sgn d then -(G (rung d) : Int) else G (rung d) := rfl
    have zm2 : 2 * Z m = Z d := by
      rw [zm, zd', gd']
      cases sgn d <;> simp
      omega
    have e3 := add_rd fx fm
    have hT : Z x + Z m = (X + Y) * W := by
      have : 2 * (Z x + Z m) = 2 * ((X + Y) * W) := by rw [Int.mul_add, zm2, zd, zx]; grind
      omega
    rw [hT] at e3
    have eb : (btw x y 4602678819172646912).getD y = rd (sgn x && sgn m) ((X + Y) * W) := by
      unfold btw
      rw [e1]
      simp only [e2, e3]
      rfl
    rw [eb]
    exact (rd_W hk hW _ (X + Y) (by omega)).1

theorem sum_half {k W : Nat} (hk : 2 ^ k = W) (hW : 16 * W = U) {x y : Nat} (fx : rung x < inf) (fy : rung y < inf) (X Y : Int) (zx : Z x = 2 * X * W) (zy : Z y = 2 * Y * W) (bX : X.natAbs ≤ 8000) (bY : Y.natAbs ≤ 8000) :
    ∃ s h, double.add x y = some s ∧ double.div s 4611686018427387904 = some h ∧ Z h = (X + Y) * W ∧ rung h < inf := by
  have e1 := add_rd fx fy
  have hS : Z x + Z y = (2 * (X + Y)) * W := by rw [zx, zy]; grind
  rw [hS] at e1
  obtain ⟨zs, fs⟩ := rd_W hk hW (sgn x && sgn y) (2 * (X + Y)) (by omega)
  generalize rd (sgn x && sgn y) (2 * (X + Y) * W) = s at *
  obtain ⟨h, e2, zh, fh⟩ := div_exact (n := (X + Y).natAbs) (e := k) read2 fs (by omega) (by
    rw [zs, hk, Int.natAbs_mul, Int.natAbs_mul]
    show 2 * (X + Y).natAbs * W = _
    grind)
  refine ⟨s, h, e1, e2, ?_, fh⟩
  rw [zs] at zh
  have : 2 * Z h = 2 * ((X + Y) * W) := by grind
  omega
end Cv
