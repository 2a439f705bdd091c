/-
The contracts of package fix: floats.
-/
import Derived.Test.YtpcndjmhikigfaaFw
import Derived.Test.YtpcndjmhikigfaaFo
import Derived.Laws.Externs
namespace Go.Proofs.Ytpcndjmhikigfaa
open Go.RowKit
set_option linter.unusedVariables false

theorem ret_float {a b : Nat} (h : a = b) : Ending.returned (.float .f64 a) = .returned (.float .f64 b) := by rw [h]
@[go_sem] theorem from_any (n : Int) (w : World) : (callFunc 35 #[.int .u64 n]).run Try.prog w = .ok (.value (.float .f64 n.toNat)) w := by
  rw [run_callFunc_extern Try.func35 (by kernel_rfl) (by kernel_rfl) (by kernel_rfl) (e := Extern.MathFloatBits.float64frombits) (by kernel_rfl)]
  rfl

theorem ne_self (b : Nat) : (FloatKind.f64.format.order b b != some .eq) = Fl.isNaN b := by
  show (Ieee.double.order b b != some .eq) = _
  cases h : Fl.isNaN b
  · have := Fl.eq_iff h h
    rw [bne, this]; simp
  · rw [Fl.order_nan_left b h]; rfl

set_option maxHeartbeats 400000 in
theorem isnan_any (b : Nat) (w : World) :
    Calls Try.prog 33 #[.float .f64 b] w fun e w' => e = .returned (.bool (Fl.isNaN b)) ∧ w = w' := by
  go_enter Try.func33, Try.ntmps33
  go_wp2
  go_ret
  exact ⟨ret_bool (ne_self b), rfl⟩
theorem isnan_t (b : Nat) (t : Bool) (h : Fl.isNaN b = t) (w : World) :
    Calls Try.prog 33 #[.float .f64 b] w fun e w' => e = .returned (.bool t) ∧ w = w' := by
  rw [← h]; exact isnan_any b w

set_option maxHeartbeats 400000 in
theorem refnan_any (b : Nat) (w : World) :
    Calls Try.prog 34 #[.float .f64 b] w fun e w' => e = .returned (.bool (Fl.isNaN b)) ∧ w = w' := by
  go_enter Try.func34, Try.ntmps34
  go_wp2
  go_ret
  exact ⟨ret_bool (ne_self b), rfl⟩
theorem refnan_t (b : Nat) (t : Bool) (h : Fl.isNaN b = t) (w : World) :
    Calls Try.prog 34 #[.float .f64 b] w fun e w' => e = .returned (.bool t) ∧ w = w' := by
  rw [← h]; exact refnan_any b w

set_option maxHeartbeats 400000 in
theorem nan_any (w : World) :
    Calls Try.prog 29 #[] w fun e w' => e = .returned (.float .f64 9221120237041090561) ∧ w = w' := by
  go_enter Try.func29, Try.ntmps29
  go_wp2
  go_ret
  exact ⟨rfl, rfl⟩

set_option maxHeartbeats 400000 in
theorem inf_pos (w : World) :
    Calls Try.prog 28 #[.int .i64 1] w fun e w' => e = .returned (.float .f64 9218868437227405312) ∧ w = w' := by
  go_enter Try.func28, Try.ntmps28
  go_wp2
  go_ret
  exact ⟨rfl, rfl⟩

set_option maxHeartbeats 400000 in
theorem inf_neg (w : World) :
    Calls Try.prog 28 #[.int .i64 (-1)] w fun e w' => e = .returned (.float .f64 18442240474082181120) ∧ w = w' := by
  go_enter Try.func28, Try.ntmps28
  go_wp2
  go_ret
  exact ⟨rfl, rfl⟩

/-- A NaN drawn from the tape. -/
theorem run_float_nan {P : Program} (w : World) (op : BinOp) (hop : op = .add ∨ op = .sub ∨ op = .mul ∨ op = .quo) (t : TypeId) (x y : Nat) (h : floatBits op .f64 x y = none) :
    ∃ n, Fl.isNaN n = true ∧ n < 2 ^ 64 ∧ (binOp op t (.float .f64 x) (.float .f64 y)).run P w = .ok (.float .f64 n) w.drew := by
  refine ⟨Question.cut (.nanBits .f64 x y) (w.tape w.drawn (.nanBits .f64 x y)), ?_, ?_, ?_⟩
  · generalize w.tape w.drawn (.nanBits .f64 x y) = k
    unfold Fl.isNaN
    refine decide_eq_true ?_
    unfold Fl.rung Fl.inf
    simp only [Question.cut]
    have h1 : k / 2 % (2 ^ 52 - 1) < 2 ^ 52 - 1 := Nat.mod_lt _ (by decide)
    have h2 : k % 2 < 2 := Nat.mod_lt _ (by decide)
    generalize k / 2 % (2 ^ 52 - 1) = m at *
    generalize k % 2 = s at *
    omega
  · generalize w.tape w.drawn (.nanBits .f64 x y) = k
    simp only [Question.cut]
    have h1 : k / 2 % (2 ^ 52 - 1) < 2 ^ 52 - 1 := Nat.mod_lt _ (by decide)
    have h2 : k % 2 < 2 := Nat.mod_lt _ (by decide)
    generalize k / 2 % (2 ^ 52 - 1) = m at *
    generalize k % 2 = s at *
    omega
  · unfold floatBits at h
    rcases hop with rfl | rfl | rfl | rfl <;> simp only at h <;> simp [binOp, Op.floatArith, h, Question.forced]

theorem zhi : Fl.Z 4746794007244308480 = 2147483647 * (Fl.U : Int) := by decide +kernel
theorem zlo : Fl.Z 13970166044103278592 = -2147483648 * (Fl.U : Int) := by decide +kernel
theorem nhi : Fl.isNaN 4746794007244308480 = false := by decide +kernel
theorem nlo : Fl.isNaN 13970166044103278592 = false := by decide +kernel

set_option maxHeartbeats 1000000 in
theorem fixof_path (b v : Nat) (n : Int) (t1 t2 : Bool) (hm : Ieee.double.mul b 4679240012837945344 = some v) (hn : Fl.isNaN v = false)
    (i1 : (FloatKind.f64.format.order v 4746794007244308480 == some .gt || FloatKind.f64.format.order v 4746794007244308480 == some .eq) = t1)
    (i2 : (FloatKind.f64.format.order v 13970166044103278592 == some .lt || FloatKind.f64.format.order v 13970166044103278592 == some .eq) = t2)
    (hc : t1 = false → t2 = false → floatToIntVal .f64 v .i32 = some n) (w : World) :
    Calls Try.prog 24 #[.float .f64 b] w fun e w' => e = .returned (.int .i32 (if t1 then 2147483647 else if t2 then -2147483648 else n)) ∧ w = w' := by
  have h1 := fun w => run_float_arith (P := Try.prog) w .mul 22 .f64 b 4679240012837945344 v hm
  have hn' := Lib.hid hn
  clear hm hn
  cases t1
  · cases t2
    · have h3 := fun w => run_convert_float_int (P := Try.prog) w 22 21 .f64 .i32 v n (by kernel_rfl) Try.underlying21 (hc rfl rfl)
      clear hc
      go_enter Try.func24, Try.ntmps24
      go_wp2_with (go_at_call 33; refine (isnan_t _ _ hn'.out _).mono ?_; rintro e w' ⟨rfl, rfl⟩)
      go_ret
      exact ⟨rfl, rfl⟩
    · clear hc
      go_enter Try.func24, Try.ntmps24
      go_wp2_with (go_at_call 33; refine (isnan_t _ _ hn'.out _).mono ?_; rintro e w' ⟨rfl, rfl⟩)
      go_ret
      exact ⟨rfl, rfl⟩
  · clear hc
    go_enter Try.func24, Try.ntmps24
    go_wp2_with (go_at_call 33; refine (isnan_t _ _ hn'.out _).mono ?_; rintro e w' ⟨rfl, rfl⟩)
    go_ret
    exact ⟨rfl, rfl⟩

set_option maxHeartbeats 1000000 in
theorem refof_path (b v : Nat) (n : Int) (t1 t2 : Bool) (hm : Ieee.double.mul b 4679240012837945344 = some v) (hn : Fl.isNaN b = false)
    (i1 : (FloatKind.f64.format.order v 4746794007244308480 == some .gt || FloatKind.f64.format.order v 4746794007244308480 == some .eq) = t1)
    (i2 : (FloatKind.f64.format.order v 13970166044103278592 == some .lt || FloatKind.f64.format.order v 13970166044103278592 == some .eq) = t2)
    (hc : t1 = false → t2 = false → floatToIntVal .f64 v .i32 = some n) (w : World) :
    Calls Try.prog 25 #[.float .f64 b] w fun e w' => e = .returned (.int .i32 (if t1 then 2147483647 else if t2 then -2147483648 else n)) ∧ w = w' := by
  have h1 := fun w => run_float_arith (P := Try.prog) w .mul 22 .f64 b 4679240012837945344 v hm
  have hn' := Lib.hid hn
  clear hm hn
  cases t1
  · cases t2
    · have h3 := fun w => run_convert_float_int (P := Try.prog) w 22 21 .f64 .i32 v n (by kernel_rfl) Try.underlying21 (hc rfl rfl)
      clear hc
      go_enter Try.func25, Try.ntmps25
      go_wp2_with (go_at_call 34; refine (refnan_t _ _ hn'.out _).mono ?_; rintro e w' ⟨rfl, rfl⟩)
      go_ret
      exact ⟨rfl, rfl⟩
    · clear hc
      go_enter Try.func25, Try.ntmps25
      go_wp2_with (go_at_call 34; refine (refnan_t _ _ hn'.out _).mono ?_; rintro e w' ⟨rfl, rfl⟩)
      go_ret
      exact ⟨rfl, rfl⟩
  · clear hc
    go_enter Try.func25, Try.ntmps25
    go_wp2_with (go_at_call 34; refine (refnan_t _ _ hn'.out _).mono ?_; rintro e w' ⟨rfl, rfl⟩)
    go_ret
    exact ⟨rfl, rfl⟩

set_option maxHeartbeats 1000000 in
theorem fixof_nan (b : Nat) (hn : Fl.isNaN b = true) (w : World) :
    Calls Try.prog 24 #[.float .f64 b] w fun e w' => e = .returned (.int .i32 (Fo.of b)) ∧ Below w.heap.size w w' := by
  obtain ⟨n, hnn, _, h1⟩ := run_float_nan (P := Try.prog) w .mul (by simp) 22 b 4679240012837945344 (Fo.mul_nan _ hn)
  have hn' := Lib.hid hnn
  have ho := Lib.hid (Fo.of_nan hn)
  clear hnn hn
  go_enter Try.func24, Try.ntmps24
  go_wp2_with (go_at_call 33; refine (isnan_t _ _ hn'.out _).mono ?_; rintro e w' ⟨rfl, rfl⟩)
  go_ret
  exact ⟨ret_i32 ho.out.symm, (Below.refl _ _).drew⟩

set_option maxHeartbeats 1000000 in
theorem refof_nan (b : Nat) (hn : Fl.isNaN b = true) (w : World) :
    Calls Try.prog 25 #[.float .f64 b] w fun e w' => e = .returned (.int .i32 (Fo.of b)) ∧ Below w.heap.size w w' := by
  obtain ⟨n, hnn, _, h1⟩ := run_float_nan (P := Try.prog) w .mul (by simp) 22 b 4679240012837945344 (Fo.mul_nan _ hn)
  have hn' := Lib.hid hn
  have ho := Lib.hid (Fo.of_nan hn)
  clear hnn hn
  go_enter Try.func25, Try.ntmps25
  go_wp2_with (go_at_call 34; refine (refnan_t _ _ hn'.out _).mono ?_; rintro e w' ⟨rfl, rfl⟩)
  go_ret
  exact ⟨ret_i32 ho.out.symm, (Below.refl _ _).drew⟩

/-- What the two tests say, and the number between them. -/
theorem of_ways {b : Nat} (hn : Fl.isNaN b = false) : ∃ v n t1 t2, Ieee.double.mul b 4679240012837945344 = some v ∧ Fl.isNaN v = false ∧
    (FloatKind.f64.format.order v 4746794007244308480 == some .gt || FloatKind.f64.format.order v 4746794007244308480 == some .eq) = t1 ∧
    (FloatKind.f64.format.order v 13970166044103278592 == some .lt || FloatKind.f64.format.order v 13970166044103278592 == some .eq) = t2 ∧
    (t1 = false → t2 = false → floatToIntVal .f64 v .i32 = some n) ∧ (if t1 then 2147483647 else if t2 then -2147483648 else n) = Fo.of b := by
  obtain ⟨v, hm, _, hv, hz⟩ := Fo.mul16 hn
  have big := Fo.Ginf_big
  have up := Fo.U_pos
  refine ⟨v, Fo.of b, _, _, hm, hv, Fl.ge_iff hv nhi, Fl.le_iff hv nlo, ?_, ?_⟩
  · intro a1 a2
    rw [zhi, decide_eq_false_iff_not] at a1
    rw [zlo, decide_eq_false_iff_not] at a2
    rcases hz with ⟨z, f⟩ | ⟨z, _⟩ | ⟨z, _⟩
    · obtain ⟨e, b1, b2⟩ := Fo.of_mid hn (by omega) (by omega)
      exact Fo.floatInt32 f (by rw [z, e]) b1 b2
    · omega
    · omega
  · rw [zhi, zlo]
    by_cases c1 : 2147483647 * (Fl.U : Int) ≤ Fl.Z v
    · rw [decide_eq_true c1, Fo.of_high hn (by omega)]; rfl
    · rw [decide_eq_false c1]
      by_cases c2 : Fl.Z v ≤ -2147483648 * (Fl.U : Int)
      · rw [decide_eq_true c2, Fo.of_low hn (by omega)]; rfl
      · rw [decide_eq_false c2]; rfl

theorem fixof_any (b : Nat) (w : World) :
    Calls Try.prog 24 #[.float .f64 b] w fun e w' => e = .returned (.int .i32 (Fo.of b)) ∧ Below w.heap.size w w' := by
  cases hn : Fl.isNaN b
  · obtain ⟨v, n, t1, t2, hm, hv, i1, i2, hc, he⟩ := of_ways hn
    refine (fixof_path b v n t1 t2 hm hv i1 i2 hc w).mono ?_
    rintro e w' ⟨rfl, rfl⟩
    exact ⟨ret_i32 he, Below.refl _ _⟩
  · exact fixof_nan b hn w
theorem refof_any (b : Nat) (w : World) :
    Calls Try.prog 25 #[.float .f64 b] w fun e w' => e = .returned (.int .i32 (Fo.of b)) ∧ Below w.heap.size w w' := by
  cases hn : Fl.isNaN b
  · obtain ⟨v, n, t1, t2, hm, hv, i1, i2, hc, he⟩ := of_ways hn
    refine (refof_path b v n t1 t2 hm hn i1 i2 hc w).mono ?_
    rintro e w' ⟨rfl, rfl⟩
    exact ⟨ret_i32 he, Below.refl _ _⟩
  · exact refof_nan b hn w

set_option maxHeartbeats 400000 in
theorem float_any (a : Int) (wa : -2147483648 ≤ a ∧ a ≤ 2147483647) (w : World) :
    Calls Try.prog 26 #[.int .i32 a] w fun e w' => e = .returned (.float .f64 (Fo.val a)) ∧ w = w' := by
  have h1 := fun w => run_float_arith (P := Try.prog) w .quo 22 .f64 _ _ _ (Fo.val_spec a (by omega)).1
  unfold Fo.c16 at h1
  go_enter Try.func26, Try.ntmps26
  go_wp2
  go_ret
  exact ⟨rfl, rfl⟩
end Go.Proofs.Ytpcndjmhikigfaa
