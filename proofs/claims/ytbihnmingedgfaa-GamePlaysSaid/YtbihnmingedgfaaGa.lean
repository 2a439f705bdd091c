/-
The contracts of package field, and of the document's.
-/
import Derived.Test.YtbihnmingedgfaaKp
import Derived.Test.YtbihnmingedgfaaBz
import Derived.Test.YtbihnmingedgfaaGf
import Derived.LoopTactic
import Derived.Deep.QuietTactic
import Derived.BigQuiet
import Derived.Outline
import Derived.Test.YtbihnmingedgfaaFa
namespace Go.Proofs.Ytbihnmingedgfaa
open Go.RowKit
set_option linter.unusedVariables false

set_option maxHeartbeats 400000 in
theorem fldwrap_any (a : Int) (wa : -2147483648 ≤ a ∧ a ≤ 2147483647) (w : World) :
    Calls Try.prog 156 #[.int .i32 a] w fun e w' => e = .returned (.int .i32 (Gf.wrap a)) ∧ Below w.heap.size w w' := by
  have hmf : ∀ (fn : Fn) (first cap : Array Value) (w : World), (Instr.makeFunc fn first cap).run Try.prog w = .ok (.func fn first cap) w := fun _ _ _ _ => rfl
  have hb := Gf.tmod_bd a
  have he := Lib.hid (Gf.around_eq a)
  go_enter Try.func156, Try.ntmps156
  go_wp2
  · go_ret
    have he := he.out
    rw [if_pos (by assumption)] at he
    exact ⟨ret_int he, one_below _ _⟩
  · go_ret
    have he := he.out
    rw [if_neg (by omega)] at he
    exact ⟨ret_int he, one_below _ _⟩

set_option maxHeartbeats 400000 in
theorem fldmove_any (a v : Int) (wa : -2147483648 ≤ a ∧ a ≤ 2147483647) (wv : -2147483648 ≤ v ∧ v ≤ 2147483647) (w : World) :
    Calls Try.prog 24 #[.int .i32 a, .int .i32 v] w fun e w' => e = .returned (.int .i32 (Gf.move a v)) ∧ Below w.heap.size w w' := by
  have hmf : ∀ (fn : Fn) (first cap : Array Value) (w : World), (Instr.makeFunc fn first cap).run Try.prog w = .ok (.func fn first cap) w := fun _ _ _ _ => rfl
  have hb := Gf.tmod_bd (a + v)
  have he := Lib.hid (Gf.around_eq (a + v))
  go_enter Try.func24, Try.ntmps24
  go_wp2
  · go_ret
    have he := he.out
    rw [if_pos (by assumption)] at he
    exact ⟨ret_int he, one_below _ _⟩
  · go_ret
    have he := he.out
    rw [if_neg (by omega)] at he
    exact ⟨ret_int he, one_below _ _⟩

set_option maxHeartbeats 400000 in
theorem fldgap_any (a b : Int) (wa : -2147483648 ≤ a ∧ a ≤ 2147483647) (wb : -2147483648 ≤ b ∧ b ≤ 2147483647) (w : World) :
    Calls Try.prog 147 #[.int .i32 a, .int .i32 b] w fun e w' => e = .returned (.int .i32 (Gf.gap a b)) ∧ Below w.heap.size w w' := by
  have hmf : ∀ (fn : Fn) (first cap : Array Value) (w : World), (Instr.makeFunc fn first cap).run Try.prog w = .ok (.func fn first cap) w := fun _ _ _ _ => rfl
  have hb := Gf.tmod_bd (b - a + 8388608)
  have he := Lib.hid (Gf.around_eq (b - a + 8388608))
  go_enter Try.func147, Try.ntmps147
  go_wp2
  · go_ret
    have he := he.out
    rw [if_pos (by assumption)] at he
    exact ⟨ret_int (by unfold Gf.gap; omega), one_below _ _⟩
  · go_ret
    have he := he.out
    rw [if_neg (by omega)] at he
    exact ⟨ret_int (by unfold Gf.gap; omega), one_below _ _⟩

set_option maxHeartbeats 400000 in
theorem fldnear_any (g : Int) (wg : -2147483648 ≤ g ∧ g ≤ 2147483647) (w : World) :
    Calls Try.prog 146 #[.int .i32 g] w fun e w' => e = .returned (.bool (Gf.near g)) ∧ w = w' := by
  go_enter Try.func146, Try.ntmps146
  go_wp2
  all_goals
    go_ret
    exact ⟨ret_bool (by unfold Gf.near; first | (simp; omega) | simp | omega), rfl⟩

set_option maxHeartbeats 400000 in
theorem fldhits_tt (ax ay bx by' : Int) (wax : -2147483648 ≤ ax ∧ ax ≤ 2147483647) (way : -2147483648 ≤ ay ∧ ay ≤ 2147483647) (wbx : -2147483648 ≤ bx ∧ bx ≤ 2147483647) (wby' : -2147483648 ≤ by' ∧ by' ≤ 2147483647) (h1 : Gf.near (Gf.gap ax bx) = true) (h2 : Gf.near (Gf.gap ay by') = true) (w : World) :
    Calls Try.prog 112 #[.int .i32 ax, .int .i32 ay, .int .i32 bx, .int .i32 by'] w fun e w' => e = .returned (.bool true) ∧ Below w.heap.size w w' := by
  have c1 := fun X => Lib.hid (fldgap_any ax bx wax wbx X)
  have c2 := fun X => Lib.hid (fldgap_any ay by' way wby' X)
  have g1 := Gf.gap_bd ax bx
  have g2 := Gf.gap_bd ay by'
  have c3 := fun X => Lib.hid (fldnear_any (Gf.gap ax bx) (by omega) X)
  have c4 := fun X => Lib.hid (fldnear_any (Gf.gap ay by') (by omega) X)
  rw [h1] at c3
  rw [h2] at c4
  clear h1 h2
  go_enter Try.func112, Try.ntmps112
  go_wp2_with (first | (go_at_call 147; first | ((with_reducible refine ((c1 _).out).mono ?_); rintro e w1 ⟨rfl, hb1⟩) | ((with_reducible refine ((c2 _).out).mono ?_); rintro e w2 ⟨rfl, hb2⟩)) | (go_at_call 146; first | ((with_reducible refine ((c3 _).out).mono ?_); rintro e w' ⟨rfl, rfl⟩) | ((with_reducible refine ((c4 _).out).mono ?_); rintro e w' ⟨rfl, rfl⟩)))
  go_ret
  first | exact ⟨rfl, hb1⟩ | exact ⟨rfl, hb1.trans (hb2.mono hb1.size)⟩

set_option maxHeartbeats 400000 in
theorem fldhits_tf (ax ay bx by' : Int) (wax : -2147483648 ≤ ax ∧ ax ≤ 2147483647) (way : -2147483648 ≤ ay ∧ ay ≤ 2147483647) (wbx : -2147483648 ≤ bx ∧ bx ≤ 2147483647) (wby' : -2147483648 ≤ by' ∧ by' ≤ 2147483647) (h1 : Gf.near (Gf.gap ax bx) = true) (h2 : Gf.near (Gf.gap ay by') = false) (w : World) :
    Calls Try.prog 112 #[.int .i32 ax, .int .i32 ay, .int .i32 bx, .int .i32 by'] w fun e w' => e = .returned (.bool false) ∧ Below w.heap.size w w' := by
  have c1 := fun X => Lib.hid (fldgap_any ax bx wax wbx X)
  have c2 := fun X => Lib.hid (fldgap_any ay by' way wby' X)
  have g1 := Gf.gap_bd ax bx
  have g2 := Gf.gap_bd ay by'
  have c3 := fun X => Lib.hid (fldnear_any (Gf.gap ax bx) (by omega) X)
  have c4 := fun X => Lib.hid (fldnear_any (Gf.gap ay by') (by omega) X)
  rw [h1] at c3
  rw [h2] at c4
  clear h1 h2
  go_enter Try.func112, Try.ntmps112
  go_wp2_with (first | (go_at_call 147; first | ((with_reducible refine ((c1 _).out).mono ?_); rintro e w1 ⟨rfl, hb1⟩) | ((with_reducible refine ((c2 _).out).mono ?_); rintro e w2 ⟨rfl, hb2⟩)) | (go_at_call 146; first | ((with_reducible refine ((c3 _).out).mono ?_); rintro e w' ⟨rfl, rfl⟩) | ((with_reducible refine ((c4 _).out).mono ?_); rintro e w' ⟨rfl, rfl⟩)))
  go_ret
  first | exact ⟨rfl, hb1⟩ | exact ⟨rfl, hb1.trans (hb2.mono hb1.size)⟩

set_option maxHeartbeats 400000 in
theorem fldhits_f (ax ay bx by' : Int) (wax : -2147483648 ≤ ax ∧ ax ≤ 2147483647) (way : -2147483648 ≤ ay ∧ ay ≤ 2147483647) (wbx : -2147483648 ≤ bx ∧ bx ≤ 2147483647) (wby' : -2147483648 ≤ by' ∧ by' ≤ 2147483647) (h1 : Gf.near (Gf.gap ax bx) = false) (w : World) :
    Calls Try.prog 112 #[.int .i32 ax, .int .i32 ay, .int .i32 bx, .int .i32 by'] w fun e w' => e = .returned (.bool false) ∧ Below w.heap.size w w' := by
  have c1 := fun X => Lib.hid (fldgap_any ax bx wax wbx X)
  have c2 := fun X => Lib.hid (fldgap_any ay by' way wby' X)
  have g1 := Gf.gap_bd ax bx
  have g2 := Gf.gap_bd ay by'
  have c3 := fun X => Lib.hid (fldnear_any (Gf.gap ax bx) (by omega) X)
  have c4 := fun X => Lib.hid (fldnear_any (Gf.gap ay by') (by omega) X)
  rw [h1] at c3
  skip
  clear h1 
  go_enter Try.func112, Try.ntmps112
  go_wp2_with (first | (go_at_call 147; first | ((with_reducible refine ((c1 _).out).mono ?_); rintro e w1 ⟨rfl, hb1⟩) | ((with_reducible refine ((c2 _).out).mono ?_); rintro e w2 ⟨rfl, hb2⟩)) | (go_at_call 146; first | ((with_reducible refine ((c3 _).out).mono ?_); rintro e w' ⟨rfl, rfl⟩) | ((with_reducible refine ((c4 _).out).mono ?_); rintro e w' ⟨rfl, rfl⟩)))
  go_ret
  first | exact ⟨rfl, hb1⟩ | exact ⟨rfl, hb1.trans (hb2.mono hb1.size)⟩

theorem fldhits_any (ax ay bx by' : Int) (wax : -2147483648 ≤ ax ∧ ax ≤ 2147483647) (way : -2147483648 ≤ ay ∧ ay ≤ 2147483647) (wbx : -2147483648 ≤ bx ∧ bx ≤ 2147483647) (wby' : -2147483648 ≤ by' ∧ by' ≤ 2147483647) (w : World) :
    Calls Try.prog 112 #[.int .i32 ax, .int .i32 ay, .int .i32 bx, .int .i32 by'] w fun e w' => e = .returned (.bool (Gf.hits ax ay bx by')) ∧ Below w.heap.size w w' := by
  unfold Gf.hits
  cases h1 : Gf.near (Gf.gap ax bx)
  · exact fldhits_f ax ay bx by' wax way wbx wby' h1 w
  · cases h2 : Gf.near (Gf.gap ay by')
    · exact fldhits_tf ax ay bx by' wax way wbx wby' h1 h2 w
    · exact fldhits_tt ax ay bx by' wax way wbx wby' h1 h2 w

set_option maxHeartbeats 400000 in
theorem fldtoward_any (a : Int) (wa : -128 ≤ a ∧ a ≤ 127) (w : World) :
    Calls Try.prog 145 #[.int .i8 a] w fun e w' => e = .returned (.int .i32 (Gf.way a)) ∧ w = w' := by
  go_enter Try.func145, Try.ntmps145
  go_wp2
  all_goals
    go_ret
    exact ⟨ret_int (by unfold Gf.way; (repeat' split) <;> omega), rfl⟩

set_option maxHeartbeats 400000 in
theorem fldaim_any (x y b : Int) (wx : -128 ≤ x ∧ x ≤ 127) (wy : -128 ≤ y ∧ y ≤ 127) (wb : 0 ≤ b ∧ b ≤ 255) (w : World) :
    Calls Try.prog 111 #[.agg #[.int .i8 x, .int .i8 y, .int .u8 b]] w fun e w' => e = .returned (.tuple #[.int .i32 (Gf.aimx x y), .int .i32 (Gf.aimy y)]) ∧ Below w.heap.size w w' := by
  go_enter Try.func111, Try.ntmps111
  go_wp2_with fail
  · go_ret2
    have hy : y = 0 := eq_of_beq (by assumption)
    exact ⟨by simp [Gf.aimx, Gf.aimy, Gf.way, *], one_below _ _⟩
  all_goals
    go_quiet ((go_at_call 145; with_reducible exact draws_left (fldtoward_any _ (by omega) _)))
    go_wp2
    go_ret2
    exact ⟨by simp_all [Gf.aimx, Gf.aimy, Gf.way], draws_below (one_below _ _) _⟩

set_option maxHeartbeats 400000 in
theorem fldpush_any (v s : Int) (wv : -2147483648 ≤ v ∧ v ≤ 2147483647) (wss : -128 ≤ s ∧ s ≤ 127) (w : World) :
    Calls Try.prog 25 #[.int .i32 v, .int .i8 s] w fun e w' => e = .returned (.int .i32 (Gf.push v s)) ∧ Below w.heap.size w w' := by
  have hs := Gf.slow_in wv
  have c1 := fun X => Lib.hid (fixadd_any (v - v.tdiv 16) (256 * s) (by omega) (by omega) X)
  have hc := Fx.cut_bd (v - v.tdiv 16 + 256 * s)
  have c2 := fun X => Lib.hid (clamp_any (Fx.cut (v - v.tdiv 16 + 256 * s)) (-524288) 524288 hc (by omega) (by omega) X)
  go_enter Try.func25, Try.ntmps25
  go_wp2_with (first | (go_at_call 73; ((with_reducible refine ((c1 _).out).mono ?_); rintro e w1 ⟨rfl, hb1⟩)) | (go_at_call 72; ((with_reducible refine ((c2 _).out).mono ?_); rintro e w2 ⟨rfl, hb2⟩)))
  go_ret
  exact ⟨rfl, hb1.trans (hb2.mono hb1.size)⟩

set_option maxHeartbeats 400000 in
theorem refround_any (v : Int) (wv : -9223372036854775808 ≤ v ∧ v ≤ 9223372036854775807) (w : World) :
    Calls Try.prog 116 #[.int .i64 v] w fun e w' => e = .returned (.int .i64 (v % 16777216)) ∧ w = w' := by
  have hb := Gf.tmod_bd v
  have h2 := Gf.tmod_bd (v.tmod 16777216 + 16777216)
  have he' := Lib.hid (Gf.round_eq' v)
  go_enter Try.func116, Try.ntmps116
  go_wp2
  go_ret
  exact ⟨ret_int he'.out, rfl⟩

set_option maxHeartbeats 400000 in
theorem refmove_any (a v : Int) (wa : -2147483648 ≤ a ∧ a ≤ 2147483647) (wv : -2147483648 ≤ v ∧ v ≤ 2147483647) (w : World) :
    Calls Try.prog 67 #[.int .i32 a, .int .i32 v] w fun e w' => e = .returned (.int .i32 (Gf.move a v)) ∧ w = w' := by
  have c1 := fun X => Lib.hid (refround_any (a + v) (by omega) X)
  have hm := Gf.move_bd a v
  have hq : (a + v) % 16777216 = Gf.move a v := rfl
  rw [hq] at c1
  clear hq
  go_enter Try.func67, Try.ntmps67
  go_wp2_with (go_at_call 116; ((with_reducible refine ((c1 _).out).mono ?_); rintro e w' ⟨rfl, rfl⟩))
  go_ret
  exact ⟨rfl, rfl⟩

set_option maxHeartbeats 400000 in
theorem refgap_any (a b : Int) (wa : -2147483648 ≤ a ∧ a ≤ 2147483647) (wb : -2147483648 ≤ b ∧ b ≤ 2147483647) (w : World) :
    Calls Try.prog 149 #[.int .i32 a, .int .i32 b] w fun e w' => e = .returned (.int .i32 (Gf.gap a b)) ∧ w = w' := by
  obtain ⟨r, hr⟩ : ∃ r, r = (b - a) % 16777216 := ⟨_, rfl⟩
  have c1 := fun X => Lib.hid (refround_any (b - a) (by omega) X)
  rw [← hr] at c1
  have hb : 0 ≤ r ∧ r < 16777216 := by omega
  have hg := Lib.hid (show Gf.gap a b = (if 8388608 ≤ r then r - 16777216 else r) by unfold Gf.gap; split <;> omega)
  clear hr
  go_enter Try.func149, Try.ntmps149
  go_wp2_with (go_at_call 116; ((with_reducible refine ((c1 _).out).mono ?_); rintro e w' ⟨rfl, rfl⟩))
  · go_ret
    exact ⟨ret_int (by rw [hg.out, if_pos (by assumption)]), rfl⟩
  · go_ret
    exact ⟨ret_int (by rw [hg.out, if_neg (by omega)]), rfl⟩

set_option maxHeartbeats 400000 in
theorem refhits_any (ax ay bx by' : Int) (wax : -2147483648 ≤ ax ∧ ax ≤ 2147483647) (way : -2147483648 ≤ ay ∧ ay ≤ 2147483647) (wbx : -2147483648 ≤ bx ∧ bx ≤ 2147483647) (wby' : -2147483648 ≤ by' ∧ by' ≤ 2147483647) (w : World) :
    Calls Try.prog 118 #[.int .i32 ax, .int .i32 ay, .int .i32 bx, .int .i32 by'] w fun e w' => e = .returned (.bool (Gf.hits ax ay bx by')) ∧ w = w' := by
  obtain ⟨g, hg⟩ : ∃ g, g = Gf.gap ax bx := ⟨_, rfl⟩
  obtain ⟨k, hk⟩ : ∃ k, k = Gf.gap ay by' := ⟨_, rfl⟩
  have c1 := fun X => Lib.hid (refgap_any ax bx wax wbx X)
  have c2 := fun X => Lib.hid (refgap_any ay by' way wby' X)
  rw [← hg] at c1
  rw [← hk] at c2
  have g1 : -8388608 ≤ g ∧ g < 8388608 := hg ▸ Gf.gap_bd ax bx
  have g2 : -8388608 ≤ k ∧ k < 8388608 := hk ▸ Gf.gap_bd ay by'
  have hh := Lib.hid (show Gf.hits ax ay bx by' = (Gf.near g && Gf.near k) by unfold Gf.hits; rw [hg, hk])
  clear hg hk
  go_enter Try.func118, Try.ntmps118
  go_wp2_with (go_at_call 149; first | ((with_reducible refine ((c1 _).out).mono ?_); rintro e w' ⟨rfl, rfl⟩) | ((with_reducible refine ((c2 _).out).mono ?_); rintro e w' ⟨rfl, rfl⟩))
  all_goals
    go_ret
    exact ⟨ret_bool (by rw [hh.out, Bool.eq_iff_iff]; unfold Gf.near; simp; omega), rfl⟩

set_option maxHeartbeats 400000 in
theorem refsign_any (a : Int) (wa : -128 ≤ a ∧ a ≤ 127) (w : World) :
    Calls Try.prog 117 #[.int .i8 a] w fun e w' => e = .returned (.int .i32 (if 0 < a then 1 else if a < 0 then -1 else 0)) ∧ w = w' := by
  go_enter Try.func117, Try.ntmps117
  go_wp2
  all_goals
    go_ret
    exact ⟨ret_int (by (repeat' split) <;> omega), rfl⟩

set_option maxHeartbeats 400000 in
theorem refaim_any (x y b : Int) (wx : -128 ≤ x ∧ x ≤ 127) (wy : -128 ≤ y ∧ y ≤ 127) (wb : 0 ≤ b ∧ b ≤ 255) (w : World) :
    Calls Try.prog 68 #[.agg #[.int .i8 x, .int .i8 y, .int .u8 b]] w fun e w' => e = .returned (.tuple #[.int .i32 (Gf.aimx x y), .int .i32 (Gf.aimy y)]) ∧ Below w.heap.size w w' := by
  obtain ⟨r, hr⟩ : ∃ r : Int, r = (if 0 < x then 1 else if x < 0 then -1 else 0) := ⟨_, rfl⟩
  obtain ⟨s, hs⟩ : ∃ s : Int, s = (if 0 < y then 1 else if y < 0 then -1 else 0) := ⟨_, rfl⟩
  have c1 := fun X => Lib.hid (refsign_any x wx X)
  have c2 := fun X => Lib.hid (refsign_any y wy X)
  rw [← hr] at c1
  rw [← hs] at c2
  have b1 : -1 ≤ r ∧ r ≤ 1 := by rw [hr]; (repeat' split) <;> omega
  have b2 : -1 ≤ s ∧ s ≤ 1 := by rw [hs]; (repeat' split) <;> omega
  have hrH := Lib.hid hr
  have hsH := Lib.hid hs
  clear hr hs
  go_enter Try.func68, Try.ntmps68
  go_wp2_with fail
  go_quiet ((first | (go_at_call 117; with_reducible exact draws_left (c1 _).out) | (go_at_call 117; with_reducible exact draws_left (c2 _).out)))
  go_wp2
  all_goals
    go_ret2
    have e1 := hrH.out
    have e2 := hsH.out
    refine ⟨?_, draws_below (one_below _ _) _⟩
    have ex : Gf.aimx x y = (if r = 0 ∧ s = 0 then 1 else r) * 393216 := by
      unfold Gf.aimx Gf.way; rw [e1, e2]; (repeat' split) <;> omega
    have ey : Gf.aimy y = s * 393216 := by
      unfold Gf.aimy Gf.way; rw [e2]; (repeat' split) <;> omega
    rw [ex, ey]
    clear e1 e2 ex ey
    clear hrH hsH c1 c2
    refine ret_two ?_ (by omega)
    first
      | (have hr0 : ¬ r = 0 := by assumption
         rw [if_neg (fun h => hr0 h.1)]; omega)
      | (have hs1 : (s == 0) = false := by assumption
         have hs0 : s ≠ 0 := by simpa using hs1
         rw [if_neg (fun h => hs0 h.2)]; omega)
      | (have hs0 : s = 0 := eq_of_beq (by assumption)
         rw [if_pos ⟨by assumption, hs0⟩]; rfl)

set_option maxHeartbeats 400000 in
theorem refpush_any (v s : Int) (wv : -2147483648 ≤ v ∧ v ≤ 2147483647) (wss : -128 ≤ s ∧ s ≤ 127) (w : World) :
    Calls Try.prog 66 #[.int .i32 v, .int .i8 s] w fun e w' => e = .returned (.int .i32 (Gf.push v s)) ∧ w = w' := by
  have hs := Gf.slow_in wv
  have c1 := fun X => Lib.hid (refadd_any (v - v.tdiv 16) (256 * s) (by omega) (by omega) X)
  have hc := Fx.cut_bd (v - v.tdiv 16 + 256 * s)
  have c2 := fun X => Lib.hid (refclamp_any (Fx.cut (v - v.tdiv 16 + 256 * s)) (-524288) 524288 hc (by omega) (by omega) X)
  go_enter Try.func66, Try.ntmps66
  go_wp2_with (first | (go_at_call 115; ((with_reducible refine ((c1 _).out).mono ?_); rintro e w' ⟨rfl, rfl⟩)) | (go_at_call 114; ((with_reducible refine ((c2 _).out).mono ?_); rintro e w' ⟨rfl, rfl⟩)))
  go_ret
  exact ⟨rfl, rfl⟩
end Go.Proofs.Ytbihnmingedgfaa
