import Derived.Test.YtlolbbffmniahaaWt
import Derived.Test.YtlolbbffmniahaaQx
namespace Go.Proofs.Ytlolbbffmniahaa
open Go.RowKit

theorem below_from {B C : Nat} {w W W' : World} (h : Below B w W) (h' : Below C W W') (hc : B ≤ C) : Below B w W' := h.trans (h'.mono hc)

theorem cell_up {B : Nat} {w w' : World} {b o : Nat} {v : Value} (h : Below B w w') (hb : b < B) (hc : w.cell? ⟨b, o, none⟩ = some v) : w'.cell? ⟨b, o, none⟩ = some v :=
  (h.cell (p := ⟨b, o, none⟩) hb).trans hc
theorem box1 (w : World) (t : TypeId) (a b c x y z : Value) :
    ((w.alloc (.cells #[a, b, c] t)).alloc (.cells #[x, y, z] t)).cell? ⟨w.heap.size, 0, none⟩ = some a ∧
    ((w.alloc (.cells #[a, b, c] t)).alloc (.cells #[x, y, z] t)).cell? ⟨w.heap.size, 1, none⟩ = some b ∧
    ((w.alloc (.cells #[a, b, c] t)).alloc (.cells #[x, y, z] t)).cell? ⟨w.heap.size, 2, none⟩ = some c := by
  refine ⟨?_, ?_, ?_⟩ <;> go_simp
theorem box2 (w : World) (t : TypeId) (a b c x y z : Value) :
    ((w.alloc (.cells #[a, b, c] t)).alloc (.cells #[x, y, z] t)).cell? ⟨w.heap.size + 1, 0, none⟩ = some x ∧
    ((w.alloc (.cells #[a, b, c] t)).alloc (.cells #[x, y, z] t)).cell? ⟨w.heap.size + 1, 1, none⟩ = some y ∧
    ((w.alloc (.cells #[a, b, c] t)).alloc (.cells #[x, y, z] t)).cell? ⟨w.heap.size + 1, 2, none⟩ = some z := by
  refine ⟨?_, ?_, ?_⟩ <;> go_simp
theorem refvalue_t (a : Int) (b : Nat) (wa : -128 ≤ a ∧ a ≤ 127) (h : St.value a = b) (w : World) :
    Calls Try.prog 16 #[.int .i8 a] w fun e w' => e = .returned (.float .f64 b) ∧ w = w' := by
  rw [← h]; exact refvalue_any a wa w
theorem mayin_t (x y b : Int) (t : Bool) (wx : -128 ≤ x ∧ x ≤ 127) (wy : -128 ≤ y ∧ y ≤ 127) (h : may x y = t) (w : World) :
    Calls Try.prog 18 #[.agg #[.int .i8 x, .int .i8 y, .int .u8 b]] w fun e w' => e = .returned (.bool t) ∧ Below w.heap.size w w' := by
  rw [← h]; exact mayin_any x y b wx wy w
theorem refnear_t (x y b x' y' b' : Int) (t : Bool) (h : near x y b x' y' b' = t) (wx : -128 ≤ x ∧ x ≤ 127) (wy : -128 ≤ y ∧ y ≤ 127) (wx' : -128 ≤ x' ∧ x' ≤ 127) (wy' : -128 ≤ y' ∧ y' ≤ 127) (w : World) :
    Calls Try.prog 20 #[.agg #[.int .i8 x, .int .i8 y, .int .u8 b], .agg #[.int .i8 x', .int .i8 y', .int .u8 b']] w fun e w' => e = .returned (.bool t) ∧ Below w.heap.size w w' := by
  rw [← h]; exact refnear_any x y b x' y' b' wx wy wx' wy' w
theorem refaxis_t (b : Nat) (n : Int) (h : St.axis b = n) (w : World) :
    Calls Try.prog 13 #[.float .f64 b] w fun e w' => e = .returned (.int .i8 n) ∧ w = w' := by
  rw [← h]; exact refaxis_any b w

set_option maxRecDepth 100000 in
set_option maxHeartbeats 1000000 in
theorem asks_law (x y : Nat) (b ix iy ib kx ky kb : Int) (hx : x < 2 ^ 64) (hy : y < 2 ^ 64) (wix : -128 ≤ ix ∧ ix ≤ 127) (wiy : -128 ≤ iy ∧ iy ≤ 127) (wkx : -128 ≤ kx ∧ kx ≤ 127) (wky : -128 ≤ ky ∧ ky ≤ 127) (w : World) :
    Calls Try.prog 3 #[.float .f64 x, .float .f64 y, .int .u8 b, .agg #[.int .i8 ix, .int .i8 iy, .int .u8 ib], .agg #[.int .i8 kx, .int .i8 ky, .int .u8 kb]] w fun e w' => e = .returned (.bool true) ∧ Below w.heap.size w w' := by
  obtain ⟨ax, hax⟩ : ∃ n, St.axis x = n := ⟨_, rfl⟩
  obtain ⟨ay, hay⟩ : ∃ n, St.axis y = n := ⟨_, rfl⟩
  obtain ⟨v, hv⟩ : ∃ n, St.value ix = n := ⟨_, rfl⟩
  obtain ⟨m, hm⟩ : ∃ n, may ix iy = n := ⟨_, rfl⟩
  obtain ⟨n, hn⟩ : ∃ n, near ix iy ib kx ky kb = n := ⟨_, rfl⟩
  have c1 := fun w => Lib.hid (axis_t x ax hx hax w)
  have c2 := fun w => Lib.hid (refaxis_t x ax hax w)
  have c3 := fun w => Lib.hid (refaxis_t y ay hay w)
  have c4 := fun w => Lib.hid (read_any x y b hx hy w)
  rw [hax, hay] at c4
  go_enter Try.func3, Try.ntmps3
  go_wp2_with fail
  refine ((c4 _).out).mono ?_
  rintro e w1 ⟨rfl, hb1⟩
  obtain ⟨hc, hf⟩ := bcell hb1
  go_wp2_with fail
  have hz : w.heap.size + 1 < w1.heap.size := by have := hb1.size; simp at this; omega
  have hbW : Below w.heap.size w (w1.alloc (.cells #[.int .i8 ax, .int .i8 ay, .int .u8 b] 25)) := ((((Below.refl _ _).alloc (Nat.le_refl _) _).alloc (by simp) _).trans (hb1.mono (by simp; omega))).alloc (by omega) _
  clear hc hf
  have hbX := hb1.alloc hb1.size (.cells #[.int .i8 ax, .int .i8 ay, .int .u8 b] 25)
  have i0 : (w1.alloc (.cells #[.int .i8 ax, .int .i8 ay, .int .u8 b] 25)).cell? ⟨w.heap.size, 0, none⟩ = some (.int .i8 ix) := cell_up hbX (by simp; omega) (box1 _ _ _ _ _ _ _ _).1
  have i1 : (w1.alloc (.cells #[.int .i8 ax, .int .i8 ay, .int .u8 b] 25)).cell? ⟨w.heap.size, 1, none⟩ = some (.int .i8 iy) := cell_up hbX (by simp; omega) (box1 _ _ _ _ _ _ _ _).2.1
  have i2 : (w1.alloc (.cells #[.int .i8 ax, .int .i8 ay, .int .u8 b] 25)).cell? ⟨w.heap.size, 2, none⟩ = some (.int .u8 ib) := cell_up hbX (by simp; omega) (box1 _ _ _ _ _ _ _ _).2.2
  have k0 : (w1.alloc (.cells #[.int .i8 ax, .int .i8 ay, .int .u8 b] 25)).cell? ⟨w.heap.size + 1, 0, none⟩ = some (.int .i8 kx) := cell_up hbX (by simp) (box2 _ _ _ _ _ _ _ _).1
  have k1 : (w1.alloc (.cells #[.int .i8 ax, .int .i8 ay, .int .u8 b] 25)).cell? ⟨w.heap.size + 1, 1, none⟩ = some (.int .i8 ky) := cell_up hbX (by simp) (box2 _ _ _ _ _ _ _ _).2.1
  have k2 : (w1.alloc (.cells #[.int .i8 ax, .int .i8 ay, .int .u8 b] 25)).cell? ⟨w.heap.size + 1, 2, none⟩ = some (.int .u8 kb) := cell_up hbX (by simp) (box2 _ _ _ _ _ _ _ _).2.2
  have n0 : (w1.alloc (.cells #[.int .i8 ax, .int .i8 ay, .int .u8 b] 25)).cell? ⟨w1.heap.size, 0, none⟩ = some (.int .i8 ax) := by go_simp
  have n1 : (w1.alloc (.cells #[.int .i8 ax, .int .i8 ay, .int .u8 b] 25)).cell? ⟨w1.heap.size, 1, none⟩ = some (.int .i8 ay) := by go_simp
  have n2 : (w1.alloc (.cells #[.int .i8 ax, .int .i8 ay, .int .u8 b] 25)).cell? ⟨w1.heap.size, 2, none⟩ = some (.int .u8 b) := by go_simp
  have hs : (w1.alloc (.cells #[.int .i8 ax, .int .i8 ay, .int .u8 b] 25)).heap.size = w1.heap.size + 1 := by simp
  generalize w1.alloc (.cells #[.int .i8 ax, .int .i8 ay, .int .u8 b] 25) = W at *
  generalize w1.heap.size = R at *
  clear hb1 hbX
  have hW := Lib.hid hbW
  have hsW := Lib.hid hs
  clear hbW hs
  generalize hB : w.heap.size = B at *
  have HB := Lib.hid hB
  clear hB
  have hi0 := fun q : Ext (R + 1) W => q.cell (by omega) i0
  have hi1 := fun q : Ext (R + 1) W => q.cell (by omega) i1
  have hi2 := fun q : Ext (R + 1) W => q.cell (by omega) i2
  have hk0 := fun q : Ext (R + 1) W => q.cell (by omega) k0
  have hk1 := fun q : Ext (R + 1) W => q.cell (by omega) k1
  have hk2 := fun q : Ext (R + 1) W => q.cell (by omega) k2
  have hn0 := fun q : Ext (R + 1) W => q.cell (by omega) n0
  have hn1 := fun q : Ext (R + 1) W => q.cell (by omega) n1
  have hn2 := fun q : Ext (R + 1) W => q.cell (by omega) n2
  clear i0 i1 i2 k0 k1 k2 n0 n1 n2
  have d1 := fun w => Lib.hid (value_t ix v wix hv w)
  have d2 := fun w => Lib.hid (refvalue_t ix v wix hv w)
  have d3 := fun w => Lib.hid (same_num v (by rw [← hv]; exact St.value_num ix wix.1 wix.2) w)
  have d4 := fun w => Lib.hid (may_t ix iy ib m hm w)
  have d5 := fun w => Lib.hid (mayin_t ix iy ib m wix wiy hm w)
  have d6 := fun w => Lib.hid (near_t ix iy ib kx ky kb n hn wix wiy wkx wky w)
  have d7 := fun w => Lib.hid (refnear_t ix iy ib kx ky kb n hn wix wiy wkx wky w)
  clear hax hay hv hm hn
  refine wp_region_ext (R + 1) W (by kernel_rfl) (by kernel_rfl) (Below.refl _ _) ?_
  repeat (go_big_quiet_step ((first | (go_at_call 11; exact Calls.ext_of (Nat.le_of_eq hsW.out.symm) (told_any _)) | (go_at_call 12; exact Calls.ext_same (c1 _).out) | (go_at_call 13; first | with_reducible exact Calls.ext_same (c2 _).out | with_reducible exact Calls.ext_same (c3 _).out) | (go_at_call 14; exact Calls.ext_same (d3 _).out) | (go_at_call 15; exact Calls.ext_same (d1 _).out) | (go_at_call 16; exact Calls.ext_same (d2 _).out) | (go_at_call 17; exact Calls.ext_of (Nat.le_of_eq hsW.out.symm) (d4 _).out) | (go_at_call 18; exact Calls.ext_of (Nat.le_of_eq hsW.out.symm) (d5 _).out) | (go_at_call 19; exact Calls.ext_of (Nat.le_of_eq hsW.out.symm) (d6 _).out) | (go_at_call 20; exact Calls.ext_of (Nat.le_of_eq hsW.out.symm) (d7 _).out))))
  refine wpQuiet_nil ?_
  intro _ hw'
  obtain ⟨q, hw''⟩ := hw'
  subst hw''
  go_wp2
  go_ret
  exact ⟨ret_bool (by simp), by rw [HB.out]; exact below_from hW.out q.h (by omega)⟩
end Go.Proofs.Ytlolbbffmniahaa
