/-
A few numbers, reckoned: told.
-/
import Derived.Test.YtgjkodbigdgdmaaVd
import Derived.Test.YtgjkodbigdgdmaaSy
namespace Go.Proofs.Ytgjkodbigdgdmaa
open Go.RowKit
set_option linter.unusedVariables false

theorem Only.kept {B : Nat} {w0 w w' : World} (h : Only B w w') (h0 : Below w0.heap.size w0 w) (hB : w0.heap.size ≤ B) : Below w0.heap.size w0 w' := h0.trans (h.below hB h0.size)
theorem t_note (h h' : Sr.H) (ho : h.Ok) (s : Int) (v : Bool) (hf : Sr.fresh h s = v) (hn : Sr.note h s = h') (B : Nat) (X : World) (hB : Box X B 48 h.cells) :
    Hid (Calls Try.prog 16 #[.pointer (some ⟨B, 0, none⟩), .int .u16 s] X fun e w' => e = .returned (.bool v) ∧ Box w' B 48 h'.cells ∧ Only B X w') := by
  have := note_any h ho s B X hB
  rw [hf, hn] at this
  exact Lib.hid this
theorem t_told (s a : Int) (n : Nat) (z : Int) (hz : z = (n : Int)) (hn : n < 4294967296) (v : Bool) (hv : Sr.told s a n = v) (X : World) :
    Hid (Calls Try.prog 13 #[.int .u16 s, .int .u16 a, .int .u32 z] X fun e w' => e = .returned (.bool v) ∧ Below X.heap.size X w') := by
  have := sertold_any s a n hn X
  rw [hv, ← hz] at this
  exact Lib.hid this
theorem t_way (a b k : Int) (h : Sr.way a b = k) (X : World) : Hid (Calls Try.prog 10 #[.int .u16 a, .int .u16 b] X fun e w' => e = .returned (.int .i64 k) ∧ X = w') := by
  have := serway_any a b X
  rw [h] at this
  exact Lib.hid this
theorem t_ahead (a b : Int) (v : Bool) (h : decide (0 < Sr.way b a) = v) (X : World) : Hid (Calls Try.prog 12 #[.int .u16 a, .int .u16 b] X fun e w' => e = .returned (.bool v) ∧ X = w') := by
  have := serahead_any a b X
  rw [h] at this
  exact Lib.hid this

set_option maxRecDepth 100000 in
set_option maxHeartbeats 2000000 in
theorem told11_any (w : World) : Calls Try.prog 9 #[] w fun e w' => e = .returned (.bool true) ∧ Below w.heap.size w w' := by
  have cn := fun X => Lib.hid (sernew_any X)
  have n1 := t_note Sr.none ⟨true, 5, 0⟩ Sr.none_ok 5 true (by decide +kernel) (by kernel_rfl) w.heap.size
  have n2 := t_note ⟨true, 5, 0⟩ ⟨true, 5, 0⟩ ⟨by decide, by decide⟩ 5 false (by decide +kernel) (by kernel_rfl) w.heap.size
  have n3 := t_note ⟨true, 5, 0⟩ ⟨true, 7, 2⟩ ⟨by decide, by decide⟩ 7 true (by decide +kernel) (by kernel_rfl) w.heap.size
  have cl := fun X hX => Lib.hid (serlast_any ⟨true, 7, 2⟩ w.heap.size X hX)
  have cw := t_way 65535 0 1 (by decide +kernel)
  have a1 := t_ahead 0 65535 true (by decide +kernel)
  have a2 := t_ahead 3 3 false (by decide +kernel)
  have t1 := t_told 5 7 2 2 rfl (by decide) true (by decide +kernel)
  have t2 := t_told 6 7 2 2 rfl (by decide) false (by decide +kernel)
  have t3 := t_told 7 7 2 2 rfl (by decide) true (by decide +kernel)
  go_enter Try.func9, Try.ntmps9
  go_wp2_with (first | (go_at_call 15; ((with_reducible refine ((cn _).out).mono ?_); rintro e w0 ⟨rfl, rfl⟩; have HB0 := Lib.hid (Box.made w 48 Sr.none.cells); have HK0 := Lib.hid (one_below w (.cells Sr.none.cells 48)))) | (go_at_call 16; first | ((with_reducible refine ((n1 _ HB0.out).out).mono ?_); rintro e w1 ⟨rfl, hb, ho⟩; have HB1 := Lib.hid hb; have HK1 := Lib.hid (HK0.out.trans (ho.below (Nat.le_refl _) HK0.out.size)); clear hb ho) | ((with_reducible refine ((n2 _ HB1.out).out).mono ?_); rintro e w2 ⟨rfl, hb, ho⟩; have HB2 := Lib.hid hb; have HK2 := Lib.hid (HK1.out.trans (ho.below (Nat.le_refl _) HK1.out.size)); clear hb ho) | ((with_reducible refine ((n3 _ HB2.out).out).mono ?_); rintro e w3 ⟨rfl, hb, ho⟩; have HB3 := Lib.hid hb; have HK3 := Lib.hid (HK2.out.trans (ho.below (Nat.le_refl _) HK2.out.size)); clear hb ho)) | (go_at_call 18; ((with_reducible refine ((cl _ HB3.out).out).mono ?_); rintro e w4 ⟨rfl, hb⟩; have HK4 := Lib.hid (HK3.out.trans (hb.mono HK3.out.size)); clear hb)) | (go_at_call 10; ((with_reducible refine (cw _).out.mono ?_); rintro e w9 ⟨rfl, rfl⟩)) | (go_at_call 12; first | ((with_reducible refine (a1 _).out.mono ?_); rintro e w9 ⟨rfl, rfl⟩) | ((with_reducible refine (a2 _).out.mono ?_); rintro e w9 ⟨rfl, rfl⟩)) | (go_at_call 13; first | ((with_reducible refine ((t1 _).out).mono ?_); rintro e w5 ⟨rfl, hb⟩; have HK5 := Lib.hid (HK4.out.trans (hb.mono HK4.out.size)); clear hb) | ((with_reducible refine ((t2 _).out).mono ?_); rintro e w6 ⟨rfl, hb⟩; have HK6 := Lib.hid (HK5.out.trans (hb.mono HK5.out.size)); clear hb) | ((with_reducible refine ((t3 _).out).mono ?_); rintro e w7 ⟨rfl, hb⟩; have HK7 := Lib.hid (HK6.out.trans (hb.mono HK6.out.size)); clear hb)))
  all_goals
    go_ret
    exact ⟨rfl, HK7.out⟩
end Go.Proofs.Ytgjkodbigdgdmaa
