import Derived.Test.YtlolbbffmniahaaWt
import Derived.Test.YtlolbbffmniahaaQx
namespace Go.Proofs.Ytlolbbffmniahaa
open Go.RowKit

theorem bes_symm (x y : Int) : bes x y = bes y x := by unfold bes; rw [Bool.eq_iff_iff]; simp; omega
theorem near_symm (x y b x' y' b' : Int) : near x' y' b' x y b = near x y b x' y' b' := by
  unfold near
  rw [bes_symm x' x, bes_symm y' y, Bool.beq_comm]
theorem near_self (x y b : Int) : near x y b x y b = true := by unfold near bes; simp
theorem near_apart (x y b x' y' b' : Int) (h : (b == b') = false) : near x y b x' y' b' = false := by unfold near; rw [h]; simp

theorem below_from {B C : Nat} {w W W' : World} (h : Below B w W) (h' : Below (B + C) W W') : Below B w W' := h.trans (h'.mono (Nat.le_add_right B C))

set_option maxRecDepth 100000 in
set_option maxHeartbeats 4000000 in
theorem near_law1 (x y b x' y' : Int) (t : Bool) (wx : -128 ≤ x ∧ x ≤ 127) (wy : -128 ≤ y ∧ y ≤ 127) (wx' : -128 ≤ x' ∧ x' ≤ 127) (wy' : -128 ≤ y' ∧ y' ≤ 127) (ht : near x y b x' y' b = t) (w : World) :
    Calls Try.prog 8 #[.agg #[.int .i8 x, .int .i8 y, .int .u8 b], .agg #[.int .i8 x', .int .i8 y', .int .u8 b]] w fun e w' => e = .returned (.bool true) ∧ Below w.heap.size w w' := by
  have n1 := Lib.hid ht
  have n2 := Lib.hid ((near_symm x y b x' y' b).trans ht)
  have n3 := Lib.hid (near_self x y b)
  clear ht
  go_enter Try.func8, Try.ntmps8
  go_wp2
  have hbW : Below w.heap.size w ((w.alloc (.cells #[.int .i8 x, .int .i8 y, .int .u8 b] 25)).alloc (.cells #[.int .i8 x', .int .i8 y', .int .u8 b] 25)) := ((Below.refl _ _).alloc (Nat.le_refl _) _).alloc (by simp) _
  have hs : ((w.alloc (.cells #[.int .i8 x, .int .i8 y, .int .u8 b] 25)).alloc (.cells #[.int .i8 x', .int .i8 y', .int .u8 b] 25)).heap.size = w.heap.size + 2 := by simp
  have c0 : ((w.alloc (.cells #[.int .i8 x, .int .i8 y, .int .u8 b] 25)).alloc (.cells #[.int .i8 x', .int .i8 y', .int .u8 b] 25)).cell? ⟨w.heap.size, 0, none⟩ = some (.int .i8 x) := by go_simp
  have c1 : ((w.alloc (.cells #[.int .i8 x, .int .i8 y, .int .u8 b] 25)).alloc (.cells #[.int .i8 x', .int .i8 y', .int .u8 b] 25)).cell? ⟨w.heap.size, 1, none⟩ = some (.int .i8 y) := by go_simp
  have c2 : ((w.alloc (.cells #[.int .i8 x, .int .i8 y, .int .u8 b] 25)).alloc (.cells #[.int .i8 x', .int .i8 y', .int .u8 b] 25)).cell? ⟨w.heap.size, 2, none⟩ = some (.int .u8 b) := by go_simp
  have d0 : ((w.alloc (.cells #[.int .i8 x, .int .i8 y, .int .u8 b] 25)).alloc (.cells #[.int .i8 x', .int .i8 y', .int .u8 b] 25)).cell? ⟨w.heap.size + 1, 0, none⟩ = some (.int .i8 x') := by go_simp
  have d1 : ((w.alloc (.cells #[.int .i8 x, .int .i8 y, .int .u8 b] 25)).alloc (.cells #[.int .i8 x', .int .i8 y', .int .u8 b] 25)).cell? ⟨w.heap.size + 1, 1, none⟩ = some (.int .i8 y') := by go_simp
  have d2 : ((w.alloc (.cells #[.int .i8 x, .int .i8 y, .int .u8 b] 25)).alloc (.cells #[.int .i8 x', .int .i8 y', .int .u8 b] 25)).cell? ⟨w.heap.size + 1, 2, none⟩ = some (.int .u8 b) := by go_simp
  generalize (w.alloc (.cells #[.int .i8 x, .int .i8 y, .int .u8 b] 25)).alloc (.cells #[.int .i8 x', .int .i8 y', .int .u8 b] 25) = W at *
  have hW := Lib.hid hbW
  have hsW := Lib.hid hs
  clear hbW hs
  generalize hB : w.heap.size = B at *
  have HB := Lib.hid hB
  clear hB
  have x0 := fun q : Ext (B + 2) W => q.cell (by omega) c0
  have x1 := fun q : Ext (B + 2) W => q.cell (by omega) c1
  have x2 := fun q : Ext (B + 2) W => q.cell (by omega) c2
  have y0 := fun q : Ext (B + 2) W => q.cell (by omega) d0
  have y1 := fun q : Ext (B + 2) W => q.cell (by omega) d1
  have y2 := fun q : Ext (B + 2) W => q.cell (by omega) d2
  clear c0 c1 c2 d0 d1 d2
  refine wp_region_ext (B + 2) W (by kernel_rfl) (by kernel_rfl) (Below.refl _ _) ?_
  repeat (go_big_quiet_step ((first | (go_at_call 11; refine Calls.ext_of (Nat.le_of_eq hsW.out.symm) (told_any _)) | (go_at_call 19; first | with_reducible exact Calls.ext_of (Nat.le_of_eq hsW.out.symm) (near_t x y b x' y' b _ n1.out wx wy wx' wy' _) | with_reducible exact Calls.ext_of (Nat.le_of_eq hsW.out.symm) (near_t x' y' b x y b _ n2.out wx' wy' wx wy _) | with_reducible exact Calls.ext_of (Nat.le_of_eq hsW.out.symm) (near_t x y b x y b _ n3.out wx wy wx wy _)))))
  refine wpQuiet_nil ?_
  intro _ hw'
  obtain ⟨q, hw''⟩ := hw'
  subst hw''
  go_wp2
  go_ret
  exact ⟨ret_bool (by simp), by rw [HB.out]; exact below_from hW.out q.h⟩

set_option maxRecDepth 100000 in
set_option maxHeartbeats 4000000 in
theorem near_law2 (x y b x' y' b' : Int) (hbb : (b == b') = false) (wx : -128 ≤ x ∧ x ≤ 127) (wy : -128 ≤ y ∧ y ≤ 127) (wx' : -128 ≤ x' ∧ x' ≤ 127) (wy' : -128 ≤ y' ∧ y' ≤ 127) (w : World) :
    Calls Try.prog 8 #[.agg #[.int .i8 x, .int .i8 y, .int .u8 b], .agg #[.int .i8 x', .int .i8 y', .int .u8 b']] w fun e w' => e = .returned (.bool true) ∧ Below w.heap.size w w' := by
  have n1 := Lib.hid (near_apart x y b x' y' b' hbb)
  have n2 := Lib.hid ((near_symm x y b x' y' b').trans (near_apart x y b x' y' b' hbb))
  have n3 := Lib.hid (near_self x y b)
  go_enter Try.func8, Try.ntmps8
  go_wp2
  have hbW : Below w.heap.size w ((w.alloc (.cells #[.int .i8 x, .int .i8 y, .int .u8 b] 25)).alloc (.cells #[.int .i8 x', .int .i8 y', .int .u8 b'] 25)) := ((Below.refl _ _).alloc (Nat.le_refl _) _).alloc (by simp) _
  have hs : ((w.alloc (.cells #[.int .i8 x, .int .i8 y, .int .u8 b] 25)).alloc (.cells #[.int .i8 x', .int .i8 y', .int .u8 b'] 25)).heap.size = w.heap.size + 2 := by simp
  have c0 : ((w.alloc (.cells #[.int .i8 x, .int .i8 y, .int .u8 b] 25)).alloc (.cells #[.int .i8 x', .int .i8 y', .int .u8 b'] 25)).cell? ⟨w.heap.size, 0, none⟩ = some (.int .i8 x) := by go_simp
  have c1 : ((w.alloc (.cells #[.int .i8 x, .int .i8 y, .int .u8 b] 25)).alloc (.cells #[.int .i8 x', .int .i8 y', .int .u8 b'] 25)).cell? ⟨w.heap.size, 1, none⟩ = some (.int .i8 y) := by go_simp
  have c2 : ((w.alloc (.cells #[.int .i8 x, .int .i8 y, .int .u8 b] 25)).alloc (.cells #[.int .i8 x', .int .i8 y', .int .u8 b'] 25)).cell? ⟨w.heap.size, 2, none⟩ = some (.int .u8 b) := by go_simp
  have d0 : ((w.alloc (.cells #[.int .i8 x, .int .i8 y, .int .u8 b] 25)).alloc (.cells #[.int .i8 x', .int .i8 y', .int .u8 b'] 25)).cell? ⟨w.heap.size + 1, 0, none⟩ = some (.int .i8 x') := by go_simp
  have d1 : ((w.alloc (.cells #[.int .i8 x, .int .i8 y, .int .u8 b] 25)).alloc (.cells #[.int .i8 x', .int .i8 y', .int .u8 b'] 25)).cell? ⟨w.heap.size + 1, 1, none⟩ = some (.int .i8 y') := by go_simp
  have d2 : ((w.alloc (.cells #[.int .i8 x, .int .i8 y, .int .u8 b] 25)).alloc (.cells #[.int .i8 x', .int .i8 y', .int .u8 b'] 25)).cell? ⟨w.heap.size + 1, 2, none⟩ = some (.int .u8 b') := by go_simp
  generalize (w.alloc (.cells #[.int .i8 x, .int .i8 y, .int .u8 b] 25)).alloc (.cells #[.int .i8 x', .int .i8 y', .int .u8 b'] 25) = W at *
  have hW := Lib.hid hbW
  have hsW := Lib.hid hs
  clear hbW hs
  generalize hB : w.heap.size = B at *
  have HB := Lib.hid hB
  clear hB
  have x0 := fun q : Ext (B + 2) W => q.cell (by omega) c0
  have x1 := fun q : Ext (B + 2) W => q.cell (by omega) c1
  have x2 := fun q : Ext (B + 2) W => q.cell (by omega) c2
  have y0 := fun q : Ext (B + 2) W => q.cell (by omega) d0
  have y1 := fun q : Ext (B + 2) W => q.cell (by omega) d1
  have y2 := fun q : Ext (B + 2) W => q.cell (by omega) d2
  clear c0 c1 c2 d0 d1 d2
  refine wp_region_ext (B + 2) W (by kernel_rfl) (by kernel_rfl) (Below.refl _ _) ?_
  repeat (go_big_quiet_step ((first | (go_at_call 11; refine Calls.ext_of (Nat.le_of_eq hsW.out.symm) (told_any _)) | (go_at_call 19; first | with_reducible exact Calls.ext_of (Nat.le_of_eq hsW.out.symm) (near_t x y b x' y' b' _ n1.out wx wy wx' wy' _) | with_reducible exact Calls.ext_of (Nat.le_of_eq hsW.out.symm) (near_t x' y' b' x y b _ n2.out wx' wy' wx wy _) | with_reducible exact Calls.ext_of (Nat.le_of_eq hsW.out.symm) (near_t x y b x y b _ n3.out wx wy wx wy _)))))
  refine wpQuiet_nil ?_
  intro _ hw'
  obtain ⟨q, hw''⟩ := hw'
  subst hw''
  go_wp2
  go_ret
  exact ⟨ret_bool (by simp), by rw [HB.out]; exact below_from hW.out q.h⟩

theorem near_law (x y b x' y' b' : Int) (wx : -128 ≤ x ∧ x ≤ 127) (wy : -128 ≤ y ∧ y ≤ 127) (wx' : -128 ≤ x' ∧ x' ≤ 127) (wy' : -128 ≤ y' ∧ y' ≤ 127) (w : World) :
    Calls Try.prog 8 #[.agg #[.int .i8 x, .int .i8 y, .int .u8 b], .agg #[.int .i8 x', .int .i8 y', .int .u8 b']] w fun e w' => e = .returned (.bool true) ∧ Below w.heap.size w w' := by
  by_cases h : b = b'
  · subst h
    exact near_law1 x y b x' y' _ wx wy wx' wy' rfl w
  · exact near_law2 x y b x' y' b' (by simpa using h) wx wy wx' wy' w
end Go.Proofs.Ytlolbbffmniahaa
