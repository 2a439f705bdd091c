/-
FixEdges: the walk.
-/
import Derived.Test.YtpcndjmhikigfaaFt
import Derived.Test.YtpcndjmhikigfaaLB
import Derived.Test.YtpcndjmhikigfaaQx
import Derived.Outline
namespace Go.Proofs.Ytpcndjmhikigfaa
open Go.RowKit
set_option linter.unusedVariables false

@[go_sem] theorem unary_negf (b : Nat) : Op.unary .neg (.float .f64 b) = pure (.float .f64 (Fl.flip b)) := rfl
theorem bcell {W w1 : World} (hb : Below W.heap.size W w1) : (∀ b o, b < W.heap.size → w1.cell? ⟨b, o, none⟩ = W.cell? ⟨b, o, none⟩) ∧ (∀ b o, b < W.heap.size → w1.frozen? ⟨b, o, none⟩ = W.frozen? ⟨b, o, none⟩) :=
  ⟨fun b o h => hb.cell (p := ⟨b, o, none⟩) h, fun b o h => hb.frozen (p := ⟨b, o, none⟩) h⟩
theorem tables_cell (w : World) (A B : Array Value) (s t : TypeId) (i : Nat) (x y : Value) (hx : A[i]? = some x) (hy : B[i]? = some y) :
    ((w.alloc (.cells A s)).alloc (.cells B t)).cell? ⟨w.heap.size, i, none⟩ = some x ∧ ((w.alloc (.cells A s)).alloc (.cells B t)).cell? ⟨w.heap.size + 1, i, none⟩ = some y := by
  constructor <;> go_simp <;> assumption
theorem kept_from {w W w' : World} (h : Kept w W) (h' : Below W.heap.size W w') : Kept w w' := h.on h'

set_option maxRecDepth 100000 in
set_option maxHeartbeats 4000000 in
theorem edges_pos0 (n : Int) (ek : (IntKind.u64.wrap n).tmod 8 = 0) (w : World) :
    Calls Try.prog 8 #[.int .i64 n, .bool false] w fun e w' => e = .returned (.bool true) ∧ Kept w w' := by
  obtain ⟨i0, i1⟩ := tables_cell w #[.float .f64 9218868437227405312, .float .f64 9218868437227405311, .float .f64 4674736413210574848, .float .f64 4674736413207826069, .float .f64 0, .float .f64 1, .float .f64 4532020583610935537, .float .f64 4607182418800017408] #[.int .i32 2147483647, .int .i32 2147483647, .int .i32 2147483647, .int .i32 2147483647, .int .i32 0, .int .i32 0, .int .i32 0, .int .i32 65536] 22 21 0 (.float .f64 9218868437227405312) (.int .i32 2147483647) (by rfl) (by rfl)
  have hw : Kept w ((w.alloc (.cells #[.float .f64 9218868437227405312, .float .f64 9218868437227405311, .float .f64 4674736413210574848, .float .f64 4674736413207826069, .float .f64 0, .float .f64 1, .float .f64 4532020583610935537, .float .f64 4607182418800017408] 22)).alloc (.cells #[.int .i32 2147483647, .int .i32 2147483647, .int .i32 2147483647, .int .i32 2147483647, .int .i32 0, .int .i32 0, .int .i32 0, .int .i32 65536] 21)) := two_below _ _ _
  have hs : ((w.alloc (.cells #[.float .f64 9218868437227405312, .float .f64 9218868437227405311, .float .f64 4674736413210574848, .float .f64 4674736413207826069, .float .f64 0, .float .f64 1, .float .f64 4532020583610935537, .float .f64 4607182418800017408] 22)).alloc (.cells #[.int .i32 2147483647, .int .i32 2147483647, .int .i32 2147483647, .int .i32 2147483647, .int .i32 0, .int .i32 0, .int .i32 0, .int .i32 65536] 21)).heap.size = w.heap.size + 2 := by simp
  have I0 := Lib.hid i0
  have I1 := Lib.hid i1
  have HW := Lib.hid hw
  have HS := Lib.hid hs
  clear i0 i1 hw hs
  go_enter Try.func8, Try.ntmps8
  go_wp2_with (go_at_call 28; refine (inf_pos _).mono ?_; rintro e w' ⟨rfl, rfl⟩)
  have i0 := I0.out
  have i1 := I1.out
  have hw := HW.out
  have hs := HS.out
  clear I0 I1 HW HS
  generalize (w.alloc (.cells #[.float .f64 9218868437227405312, .float .f64 9218868437227405311, .float .f64 4674736413210574848, .float .f64 4674736413207826069, .float .f64 0, .float .f64 1, .float .f64 4532020583610935537, .float .f64 4607182418800017408] 22)).alloc (.cells #[.int .i32 2147483647, .int .i32 2147483647, .int .i32 2147483647, .int .i32 2147483647, .int .i32 0, .int .i32 0, .int .i32 0, .int .i32 65536] 21) = W at *
  have hW := Lib.hid hw
  have hsW := Lib.hid hs
  clear hw
  generalize hB : w.heap.size = R at *
  have HB := Lib.hid hB
  clear hB
  have hi0 := fun q : Ext (R + 2) W => q.cell (by omega) i0
  have hi1 := fun q : Ext (R + 2) W => q.cell (by omega) i1
  clear i0 i1 hs
  have d1 := fun w => Lib.hid (fixof_any 9218868437227405312 w)
  have e1 : Fo.of 9218868437227405312 = 2147483647 := by decide +kernel
  rw [e1] at d1
  clear e1
  refine wp_region_ext (R + 2) W (by kernel_rfl) (by kernel_rfl) (Below.refl _ _) ?_
  repeat (go_big_quiet_step ((first | (go_at_call 11; exact Calls.ext_of (Nat.le_of_eq hsW.out.symm) (told_any _)) | (go_at_call 24; exact Calls.ext_of (Nat.le_of_eq hsW.out.symm) (d1 _).out))))
  refine wpQuiet_nil ?_
  intro _ hw'
  obtain ⟨q, hw''⟩ := hw'
  subst hw''
  go_wp2
  go_ret
  exact ⟨ret_bool (by simp), kept_from hW.out (by rw [hsW.out]; exact q.h)⟩

set_option maxRecDepth 100000 in
set_option maxHeartbeats 4000000 in
theorem edges_pos1 (n : Int) (ek : (IntKind.u64.wrap n).tmod 8 = 1) (w : World) :
    Calls Try.prog 8 #[.int .i64 n, .bool false] w fun e w' => e = .returned (.bool true) ∧ Kept w w' := by
  obtain ⟨i0, i1⟩ := tables_cell w #[.float .f64 9218868437227405312, .float .f64 9218868437227405311, .float .f64 4674736413210574848, .float .f64 4674736413207826069, .float .f64 0, .float .f64 1, .float .f64 4532020583610935537, .float .f64 4607182418800017408] #[.int .i32 2147483647, .int .i32 2147483647, .int .i32 2147483647, .int .i32 2147483647, .int .i32 0, .int .i32 0, .int .i32 0, .int .i32 65536] 22 21 1 (.float .f64 9218868437227405311) (.int .i32 2147483647) (by rfl) (by rfl)
  have hw : Kept w ((w.alloc (.cells #[.float .f64 9218868437227405312, .float .f64 9218868437227405311, .float .f64 4674736413210574848, .float .f64 4674736413207826069, .float .f64 0, .float .f64 1, .float .f64 4532020583610935537, .float .f64 4607182418800017408] 22)).alloc (.cells #[.int .i32 2147483647, .int .i32 2147483647, .int .i32 2147483647, .int .i32 2147483647, .int .i32 0, .int .i32 0, .int .i32 0, .int .i32 65536] 21)) := two_below _ _ _
  have hs : ((w.alloc (.cells #[.float .f64 9218868437227405312, .float .f64 9218868437227405311, .float .f64 4674736413210574848, .float .f64 4674736413207826069, .float .f64 0, .float .f64 1, .float .f64 4532020583610935537, .float .f64 4607182418800017408] 22)).alloc (.cells #[.int .i32 2147483647, .int .i32 2147483647, .int .i32 2147483647, .int .i32 2147483647, .int .i32 0, .int .i32 0, .int .i32 0, .int .i32 65536] 21)).heap.size = w.heap.size + 2 := by simp
  have I0 := Lib.hid i0
  have I1 := Lib.hid i1
  have HW := Lib.hid hw
  have HS := Lib.hid hs
  clear i0 i1 hw hs
  go_enter Try.func8, Try.ntmps8
  go_wp2_with (go_at_call 28; refine (inf_pos _).mono ?_; rintro e w' ⟨rfl, rfl⟩)
  have i0 := I0.out
  have i1 := I1.out
  have hw := HW.out
  have hs := HS.out
  clear I0 I1 HW HS
  generalize (w.alloc (.cells #[.float .f64 9218868437227405312, .float .f64 9218868437227405311, .float .f64 4674736413210574848, .float .f64 4674736413207826069, .float .f64 0, .float .f64 1, .float .f64 4532020583610935537, .float .f64 4607182418800017408] 22)).alloc (.cells #[.int .i32 2147483647, .int .i32 2147483647, .int .i32 2147483647, .int .i32 2147483647, .int .i32 0, .int .i32 0, .int .i32 0, .int .i32 65536] 21) = W at *
  have hW := Lib.hid hw
  have hsW := Lib.hid hs
  clear hw
  generalize hB : w.heap.size = R at *
  have HB := Lib.hid hB
  clear hB
  have hi0 := fun q : Ext (R + 2) W => q.cell (by omega) i0
  have hi1 := fun q : Ext (R + 2) W => q.cell (by omega) i1
  clear i0 i1 hs
  have d1 := fun w => Lib.hid (fixof_any 9218868437227405311 w)
  have e1 : Fo.of 9218868437227405311 = 2147483647 := by decide +kernel
  rw [e1] at d1
  clear e1
  refine wp_region_ext (R + 2) W (by kernel_rfl) (by kernel_rfl) (Below.refl _ _) ?_
  repeat (go_big_quiet_step ((first | (go_at_call 11; exact Calls.ext_of (Nat.le_of_eq hsW.out.symm) (told_any _)) | (go_at_call 24; exact Calls.ext_of (Nat.le_of_eq hsW.out.symm) (d1 _).out))))
  refine wpQuiet_nil ?_
  intro _ hw'
  obtain ⟨q, hw''⟩ := hw'
  subst hw''
  go_wp2
  go_ret
  exact ⟨ret_bool (by simp), kept_from hW.out (by rw [hsW.out]; exact q.h)⟩

set_option maxRecDepth 100000 in
set_option maxHeartbeats 4000000 in
theorem edges_pos2 (n : Int) (ek : (IntKind.u64.wrap n).tmod 8 = 2) (w : World) :
    Calls Try.prog 8 #[.int .i64 n, .bool false] w fun e w' => e = .returned (.bool true) ∧ Kept w w' := by
  obtain ⟨i0, i1⟩ := tables_cell w #[.float .f64 9218868437227405312, .float .f64 9218868437227405311, .float .f64 4674736413210574848, .float .f64 4674736413207826069, .float .f64 0, .float .f64 1, .float .f64 4532020583610935537, .float .f64 4607182418800017408] #[.int .i32 2147483647, .int .i32 2147483647, .int .i32 2147483647, .int .i32 2147483647, .int .i32 0, .int .i32 0, .int .i32 0, .int .i32 65536] 22 21 2 (.float .f64 4674736413210574848) (.int .i32 2147483647) (by rfl) (by rfl)
  have hw : Kept w ((w.alloc (.cells #[.float .f64 9218868437227405312, .float .f64 9218868437227405311, .float .f64 4674736413210574848, .float .f64 4674736413207826069, .float .f64 0, .float .f64 1, .float .f64 4532020583610935537, .float .f64 4607182418800017408] 22)).alloc (.cells #[.int .i32 2147483647, .int .i32 2147483647, .int .i32 2147483647, .int .i32 2147483647, .int .i32 0, .int .i32 0, .int .i32 0, .int .i32 65536] 21)) := two_below _ _ _
  have hs : ((w.alloc (.cells #[.float .f64 9218868437227405312, .float .f64 9218868437227405311, .float .f64 4674736413210574848, .float .f64 4674736413207826069, .float .f64 0, .float .f64 1, .float .f64 4532020583610935537, .float .f64 4607182418800017408] 22)).alloc (.cells #[.int .i32 2147483647, .int .i32 2147483647, .int .i32 2147483647, .int .i32 2147483647, .int .i32 0, .int .i32 0, .int .i32 0, .int .i32 65536] 21)).heap.size = w.heap.size + 2 := by simp
  have I0 := Lib.hid i0
  have I1 := Lib.hid i1
  have HW := Lib.hid hw
  have HS := Lib.hid hs
  clear i0 i1 hw hs
  go_enter Try.func8, Try.ntmps8
  go_wp2_with (go_at_call 28; refine (inf_pos _).mono ?_; rintro e w' ⟨rfl, rfl⟩)
  have i0 := I0.out
  have i1 := I1.out
  have hw := HW.out
  have hs := HS.out
  clear I0 I1 HW HS
  generalize (w.alloc (.cells #[.float .f64 9218868437227405312, .float .f64 9218868437227405311, .float .f64 4674736413210574848, .float .f64 4674736413207826069, .float .f64 0, .float .f64 1, .float .f64 4532020583610935537, .float .f64 4607182418800017408] 22)).alloc (.cells #[.int .i32 2147483647, .int .i32 2147483647, .int .i32 2147483647, .int .i32 2147483647, .int .i32 0, .int .i32 0, .int .i32 0, .int .i32 65536] 21) = W at *
  have hW := Lib.hid hw
  have hsW := Lib.hid hs
  clear hw
  generalize hB : w.heap.size = R at *
  have HB := Lib.hid hB
  clear hB
  have hi0 := fun q : Ext (R + 2) W => q.cell (by omega) i0
  have hi1 := fun q : Ext (R + 2) W => q.cell (by omega) i1
  clear i0 i1 hs
  have d1 := fun w => Lib.hid (fixof_any 4674736413210574848 w)
  have e1 : Fo.of 4674736413210574848 = 2147483647 := by decide +kernel
  rw [e1] at d1
  clear e1
  refine wp_region_ext (R + 2) W (by kernel_rfl) (by kernel_rfl) (Below.refl _ _) ?_
  repeat (go_big_quiet_step ((first | (go_at_call 11; exact Calls.ext_of (Nat.le_of_eq hsW.out.symm) (told_any _)) | (go_at_call 24; exact Calls.ext_of (Nat.le_of_eq hsW.out.symm) (d1 _).out))))
  refine wpQuiet_nil ?_
  intro _ hw'
  obtain ⟨q, hw''⟩ := hw'
  subst hw''
  go_wp2
  go_ret
  exact ⟨ret_bool (by simp), kept_from hW.out (by rw [hsW.out]; exact q.h)⟩

set_option maxRecDepth 100000 in
set_option maxHeartbeats 4000000 in
theorem edges_pos3 (n : Int) (ek : (IntKind.u64.wrap n).tmod 8 = 3) (w : World) :
    Calls Try.prog 8 #[.int .i64 n, .bool false] w fun e w' => e = .returned (.bool true) ∧ Kept w w' := by
  obtain ⟨i0, i1⟩ := tables_cell w #[.float .f64 9218868437227405312, .float .f64 9218868437227405311, .float .f64 4674736413210574848, .float .f64 4674736413207826069, .float .f64 0, .float .f64 1, .float .f64 4532020583610935537, .float .f64 4607182418800017408] #[.int .i32 2147483647, .int .i32 2147483647, .int .i32 2147483647, .int .i32 2147483647, .int .i32 0, .int .i32 0, .int .i32 0, .int .i32 65536] 22 21 3 (.float .f64 4674736413207826069) (.int .i32 2147483647) (by rfl) (by rfl)
  have hw : Kept w ((w.alloc (.cells #[.float .f64 9218868437227405312, .float .f64 9218868437227405311, .float .f64 4674736413210574848, .float .f64 4674736413207826069, .float .f64 0, .float .f64 1, .float .f64 4532020583610935537, .float .f64 4607182418800017408] 22)).alloc (.cells #[.int .i32 2147483647, .int .i32 2147483647, .int .i32 2147483647, .int .i32 2147483647, .int .i32 0, .int .i32 0, .int .i32 0, .int .i32 65536] 21)) := two_below _ _ _
  have hs : ((w.alloc (.cells #[.float .f64 9218868437227405312, .float .f64 9218868437227405311, .float .f64 4674736413210574848, .float .f64 4674736413207826069, .float .f64 0, .float .f64 1, .float .f64 4532020583610935537, .float .f64 4607182418800017408] 22)).alloc (.cells #[.int .i32 2147483647, .int .i32 2147483647, .int .i32 2147483647, .int .i32 2147483647, .int .i32 0, .int .i32 0, .int .i32 0, .int .i32 65536] 21)).heap.size = w.heap.size + 2 := by simp
  have I0 := Lib.hid i0
  have I1 := Lib.hid i1
  have HW := Lib.hid hw
  have HS := Lib.hid hs
  clear i0 i1 hw hs
  go_enter Try.func8, Try.ntmps8
  go_wp2_with (go_at_call 28; refine (inf_pos _).mono ?_; rintro e w' ⟨rfl, rfl⟩)
  have i0 := I0.out
  have i1 := I1.out
  have hw := HW.out
  have hs := HS.out
  clear I0 I1 HW HS
  generalize (w.alloc (.cells #[.float .f64 9218868437227405312, .float .f64 9218868437227405311, .float .f64 4674736413210574848, .float .f64 4674736413207826069, .float .f64 0, .float .f64 1, .float .f64 4532020583610935537, .float .f64 4607182418800017408] 22)).alloc (.cells #[.int .i32 2147483647, .int .i32 2147483647, .int .i32 2147483647, .int .i32 2147483647, .int .i32 0, .int .i32 0, .int .i32 0, .int .i32 65536] 21) = W at *
  have hW := Lib.hid hw
  have hsW := Lib.hid hs
  clear hw
  generalize hB : w.heap.size = R at *
  have HB := Lib.hid hB
  clear hB
  have hi0 := fun q : Ext (R + 2) W => q.cell (by omega) i0
  have hi1 := fun q : Ext (R + 2) W => q.cell (by omega) i1
  clear i0 i1 hs
  have d1 := fun w => Lib.hid (fixof_any 4674736413207826069 w)
  have e1 : Fo.of 4674736413207826069 = 2147483647 := by decide +kernel
  rw [e1] at d1
  clear e1
  refine wp_region_ext (R + 2) W (by kernel_rfl) (by kernel_rfl) (Below.refl _ _) ?_
  repeat (go_big_quiet_step ((first | (go_at_call 11; exact Calls.ext_of (Nat.le_of_eq hsW.out.symm) (told_any _)) | (go_at_call 24; exact Calls.ext_of (Nat.le_of_eq hsW.out.symm) (d1 _).out))))
  refine wpQuiet_nil ?_
  intro _ hw'
  obtain ⟨q, hw''⟩ := hw'
  subst hw''
  go_wp2
  go_ret
  exact ⟨ret_bool (by simp), kept_from hW.out (by rw [hsW.out]; exact q.h)⟩

set_option maxRecDepth 100000 in
set_option maxHeartbeats 4000000 in
theorem edges_pos4 (n : Int) (ek : (IntKind.u64.wrap n).tmod 8 = 4) (w : World) :
    Calls Try.prog 8 #[.int .i64 n, .bool false] w fun e w' => e = .returned (.bool true) ∧ Kept w w' := by
  obtain ⟨i0, i1⟩ := tables_cell w #[.float .f64 9218868437227405312, .float .f64 9218868437227405311, .float .f64 4674736413210574848, .float .f64 4674736413207826069, .float .f64 0, .float .f64 1, .float .f64 4532020583610935537, .float .f64 4607182418800017408] #[.int .i32 2147483647, .int .i32 2147483647, .int .i32 2147483647, .int .i32 2147483647, .int .i32 0, .int .i32 0, .int .i32 0, .int .i32 65536] 22 21 4 (.float .f64 0) (.int .i32 0) (by rfl) (by rfl)
  have hw : Kept w ((w.alloc (.cells #[.float .f64 9218868437227405312, .float .f64 9218868437227405311, .float .f64 4674736413210574848, .float .f64 4674736413207826069, .float .f64 0, .float .f64 1, .float .f64 4532020583610935537, .float .f64 4607182418800017408] 22)).alloc (.cells #[.int .i32 2147483647, .int .i32 2147483647, .int .i32 2147483647, .int .i32 2147483647, .int .i32 0, .int .i32 0, .int .i32 0, .int .i32 65536] 21)) := two_below _ _ _
  have hs : ((w.alloc (.cells #[.float .f64 9218868437227405312, .float .f64 9218868437227405311, .float .f64 4674736413210574848, .float .f64 4674736413207826069, .float .f64 0, .float .f64 1, .float .f64 4532020583610935537, .float .f64 4607182418800017408] 22)).alloc (.cells #[.int .i32 2147483647, .int .i32 2147483647, .int .i32 2147483647, .int .i32 2147483647, .int .i32 0, .int .i32 0, .int .i32 0, .int .i32 65536] 21)).heap.size = w.heap.size + 2 := by simp
  have I0 := Lib.hid i0
  have I1 := Lib.hid i1
  have HW := Lib.hid hw
  have HS := Lib.hid hs
  clear i0 i1 hw hs
  go_enter Try.func8, Try.ntmps8
  go_wp2_with (go_at_call 28; refine (inf_pos _).mono ?_; rintro e w' ⟨rfl, rfl⟩)
  have i0 := I0.out
  have i1 := I1.out
  have hw := HW.out
  have hs := HS.out
  clear I0 I1 HW HS
  generalize (w.alloc (.cells #[.float .f64 9218868437227405312, .float .f64 9218868437227405311, .float .f64 4674736413210574848, .float .f64 4674736413207826069, .float .f64 0, .float .f64 1, .float .f64 4532020583610935537, .float .f64 4607182418800017408] 22)).alloc (.cells #[.int .i32 2147483647, .int .i32 2147483647, .int .i32 2147483647, .int .i32 2147483647, .int .i32 0, .int .i32 0, .int .i32 0, .int .i32 65536] 21) = W at *
  have hW := Lib.hid hw
  have hsW := Lib.hid hs
  clear hw
  generalize hB : w.heap.size = R at *
  have HB := Lib.hid hB
  clear hB
  have hi0 := fun q : Ext (R + 2) W => q.cell (by omega) i0
  have hi1 := fun q : Ext (R + 2) W => q.cell (by omega) i1
  clear i0 i1 hs
  have d1 := fun w => Lib.hid (fixof_any 0 w)
  have e1 : Fo.of 0 = 0 := by decide +kernel
  rw [e1] at d1
  clear e1
  refine wp_region_ext (R + 2) W (by kernel_rfl) (by kernel_rfl) (Below.refl _ _) ?_
  repeat (go_big_quiet_step ((first | (go_at_call 11; exact Calls.ext_of (Nat.le_of_eq hsW.out.symm) (told_any _)) | (go_at_call 24; exact Calls.ext_of (Nat.le_of_eq hsW.out.symm) (d1 _).out))))
  refine wpQuiet_nil ?_
  intro _ hw'
  obtain ⟨q, hw''⟩ := hw'
  subst hw''
  go_wp2
  go_ret
  exact ⟨ret_bool (by simp), kept_from hW.out (by rw [hsW.out]; exact q.h)⟩

set_option maxRecDepth 100000 in
set_option maxHeartbeats 4000000 in
theorem edges_pos5 (n : Int) (ek : (IntKind.u64.wrap n).tmod 8 = 5) (w : World) :
    Calls Try.prog 8 #[.int .i64 n, .bool false] w fun e w' => e = .returned (.bool true) ∧ Kept w w' := by
  obtain ⟨i0, i1⟩ := tables_cell w #[.float .f64 9218868437227405312, .float .f64 9218868437227405311, .float .f64 4674736413210574848, .float .f64 4674736413207826069, .float .f64 0, .float .f64 1, .float .f64 4532020583610935537, .float .f64 4607182418800017408] #[.int .i32 2147483647, .int .i32 2147483647, .int .i32 2147483647, .int .i32 2147483647, .int .i32 0, .int .i32 0, .int .i32 0, .int .i32 65536] 22 21 5 (.float .f64 1) (.int .i32 0) (by rfl) (by rfl)
  have hw : Kept w ((w.alloc (.cells #[.float .f64 9218868437227405312, .float .f64 9218868437227405311, .float .f64 4674736413210574848, .float .f64 4674736413207826069, .float .f64 0, .float .f64 1, .float .f64 4532020583610935537, .float .f64 4607182418800017408] 22)).alloc (.cells #[.int .i32 2147483647, .int .i32 2147483647, .int .i32 2147483647, .int .i32 2147483647, .int .i32 0, .int .i32 0, .int .i32 0, .int .i32 65536] 21)) := two_below _ _ _
  have hs : ((w.alloc (.cells #[.float .f64 9218868437227405312, .float .f64 9218868437227405311, .float .f64 4674736413210574848, .float .f64 4674736413207826069, .float .f64 0, .float .f64 1, .float .f64 4532020583610935537, .float .f64 4607182418800017408] 22)).alloc (.cells #[.int .i32 2147483647, .int .i32 2147483647, .int .i32 2147483647, .int .i32 2147483647, .int .i32 0, .int .i32 0, .int .i32 0, .int .i32 65536] 21)).heap.size = w.heap.size + 2 := by simp
  have I0 := Lib.hid i0
  have I1 := Lib.hid i1
  have HW := Lib.hid hw
  have HS := Lib.hid hs
  clear i0 i1 hw hs
  go_enter Try.func8, Try.ntmps8
  go_wp2_with (go_at_call 28; refine (inf_pos _).mono ?_; rintro e w' ⟨rfl, rfl⟩)
  have i0 := I0.out
  have i1 := I1.out
  have hw := HW.out
  have hs := HS.out
  clear I0 I1 HW HS
  generalize (w.alloc (.cells #[.float .f64 9218868437227405312, .float .f64 9218868437227405311, .float .f64 4674736413210574848, .float .f64 4674736413207826069, .float .f64 0, .float .f64 1, .float .f64 4532020583610935537, .float .f64 4607182418800017408] 22)).alloc (.cells #[.int .i32 2147483647, .int .i32 2147483647, .int .i32 2147483647, .int .i32 2147483647, .int .i32 0, .int .i32 0, .int .i32 0, .int .i32 65536] 21) = W at *
  have hW := Lib.hid hw
  have hsW := Lib.hid hs
  clear hw
  generalize hB : w.heap.size = R at *
  have HB := Lib.hid hB
  clear hB
  have hi0 := fun q : Ext (R + 2) W => q.cell (by omega) i0
  have hi1 := fun q : Ext (R + 2) W => q.cell (by omega) i1
  clear i0 i1 hs
  have d1 := fun w => Lib.hid (fixof_any 1 w)
  have e1 : Fo.of 1 = 0 := by decide +kernel
  rw [e1] at d1
  clear e1
  refine wp_region_ext (R + 2) W (by kernel_rfl) (by kernel_rfl) (Below.refl _ _) ?_
  repeat (go_big_quiet_step ((first | (go_at_call 11; exact Calls.ext_of (Nat.le_of_eq hsW.out.symm) (told_any _)) | (go_at_call 24; exact Calls.ext_of (Nat.le_of_eq hsW.out.symm) (d1 _).out))))
  refine wpQuiet_nil ?_
  intro _ hw'
  obtain ⟨q, hw''⟩ := hw'
  subst hw''
  go_wp2
  go_ret
  exact ⟨ret_bool (by simp), kept_from hW.out (by rw [hsW.out]; exact q.h)⟩

set_option maxRecDepth 100000 in
set_option maxHeartbeats 4000000 in
theorem edges_pos6 (n : Int) (ek : (IntKind.u64.wrap n).tmod 8 = 6) (w : World) :
    Calls Try.prog 8 #[.int .i64 n, .bool false] w fun e w' => e = .returned (.bool true) ∧ Kept w w' := by
  obtain ⟨i0, i1⟩ := tables_cell w #[.float .f64 9218868437227405312, .float .f64 9218868437227405311, .float .f64 4674736413210574848, .float .f64 4674736413207826069, .float .f64 0, .float .f64 1, .float .f64 4532020583610935537, .float .f64 4607182418800017408] #[.int .i32 2147483647, .int .i32 2147483647, .int .i32 2147483647, .int .i32 2147483647, .int .i32 0, .int .i32 0, .int .i32 0, .int .i32 65536] 22 21 6 (.float .f64 4532020583610935537) (.int .i32 0) (by rfl) (by rfl)
  have hw : Kept w ((w.alloc (.cells #[.float .f64 9218868437227405312, .float .f64 9218868437227405311, .float .f64 4674736413210574848, .float .f64 4674736413207826069, .float .f64 0, .float .f64 1, .float .f64 4532020583610935537, .float .f64 4607182418800017408] 22)).alloc (.cells #[.int .i32 2147483647, .int .i32 2147483647, .int .i32 2147483647, .int .i32 2147483647, .int .i32 0, .int .i32 0, .int .i32 0, .int .i32 65536] 21)) := two_below _ _ _
  have hs : ((w.alloc (.cells #[.float .f64 9218868437227405312, .float .f64 9218868437227405311, .float .f64 4674736413210574848, .float .f64 4674736413207826069, .float .f64 0, .float .f64 1, .float .f64 4532020583610935537, .float .f64 4607182418800017408] 22)).alloc (.cells #[.int .i32 2147483647, .int .i32 2147483647, .int .i32 2147483647, .int .i32 2147483647, .int .i32 0, .int .i32 0, .int .i32 0, .int .i32 65536] 21)).heap.size = w.heap.size + 2 := by simp
  have I0 := Lib.hid i0
  have I1 := Lib.hid i1
  have HW := Lib.hid hw
  have HS := Lib.hid hs
  clear i0 i1 hw hs
  go_enter Try.func8, Try.ntmps8
  go_wp2_with (go_at_call 28; refine (inf_pos _).mono ?_; rintro e w' ⟨rfl, rfl⟩)
  have i0 := I0.out
  have i1 := I1.out
  have hw := HW.out
  have hs := HS.out
  clear I0 I1 HW HS
  generalize (w.alloc (.cells #[.float .f64 9218868437227405312, .float .f64 9218868437227405311, .float .f64 4674736413210574848, .float .f64 4674736413207826069, .float .f64 0, .float .f64 1, .float .f64 4532020583610935537, .float .f64 4607182418800017408] 22)).alloc (.cells #[.int .i32 2147483647, .int .i32 2147483647, .int .i32 2147483647, .int .i32 2147483647, .int .i32 0, .int .i32 0, .int .i32 0, .int .i32 65536] 21) = W at *
  have hW := Lib.hid hw
  have hsW := Lib.hid hs
  clear hw
  generalize hB : w.heap.size = R at *
  have HB := Lib.hid hB
  clear hB
  have hi0 := fun q : Ext (R + 2) W => q.cell (by omega) i0
  have hi1 := fun q : Ext (R + 2) W => q.cell (by omega) i1
  clear i0 i1 hs
  have d1 := fun w => Lib.hid (fixof_any 4532020583610935537 w)
  have e1 : Fo.of 4532020583610935537 = 0 := by decide +kernel
  rw [e1] at d1
  clear e1
  refine wp_region_ext (R + 2) W (by kernel_rfl) (by kernel_rfl) (Below.refl _ _) ?_
  repeat (go_big_quiet_step ((first | (go_at_call 11; exact Calls.ext_of (Nat.le_of_eq hsW.out.symm) (told_any _)) | (go_at_call 24; exact Calls.ext_of (Nat.le_of_eq hsW.out.symm) (d1 _).out))))
  refine wpQuiet_nil ?_
  intro _ hw'
  obtain ⟨q, hw''⟩ := hw'
  subst hw''
  go_wp2
  go_ret
  exact ⟨ret_bool (by simp), kept_from hW.out (by rw [hsW.out]; exact q.h)⟩

set_option maxRecDepth 100000 in
set_option maxHeartbeats 4000000 in
theorem edges_pos7 (n : Int) (ek : (IntKind.u64.wrap n).tmod 8 = 7) (w : World) :
    Calls Try.prog 8 #[.int .i64 n, .bool false] w fun e w' => e = .returned (.bool true) ∧ Kept w w' := by
  obtain ⟨i0, i1⟩ := tables_cell w #[.float .f64 9218868437227405312, .float .f64 9218868437227405311, .float .f64 4674736413210574848, .float .f64 4674736413207826069, .float .f64 0, .float .f64 1, .float .f64 4532020583610935537, .float .f64 4607182418800017408] #[.int .i32 2147483647, .int .i32 2147483647, .int .i32 2147483647, .int .i32 2147483647, .int .i32 0, .int .i32 0, .int .i32 0, .int .i32 65536] 22 21 7 (.float .f64 4607182418800017408) (.int .i32 65536) (by rfl) (by rfl)
  have hw : Kept w ((w.alloc (.cells #[.float .f64 9218868437227405312, .float .f64 9218868437227405311, .float .f64 4674736413210574848, .float .f64 4674736413207826069, .float .f64 0, .float .f64 1, .float .f64 4532020583610935537, .float .f64 4607182418800017408] 22)).alloc (.cells #[.int .i32 2147483647, .int .i32 2147483647, .int .i32 2147483647, .int .i32 2147483647, .int .i32 0, .int .i32 0, .int .i32 0, .int .i32 65536] 21)) := two_below _ _ _
  have hs : ((w.alloc (.cells #[.float .f64 9218868437227405312, .float .f64 9218868437227405311, .float .f64 4674736413210574848, .float .f64 4674736413207826069, .float .f64 0, .float .f64 1, .float .f64 4532020583610935537, .float .f64 4607182418800017408] 22)).alloc (.cells #[.int .i32 2147483647, .int .i32 2147483647, .int .i32 2147483647, .int .i32 2147483647, .int .i32 0, .int .i32 0, .int .i32 0, .int .i32 65536] 21)).heap.size = w.heap.size + 2 := by simp
  have I0 := Lib.hid i0
  have I1 := Lib.hid i1
  have HW := Lib.hid hw
  have HS := Lib.hid hs
  clear i0 i1 hw hs
  go_enter Try.func8, Try.ntmps8
  go_wp2_with (go_at_call 28; refine (inf_pos _).mono ?_; rintro e w' ⟨rfl, rfl⟩)
  have i0 := I0.out
  have i1 := I1.out
  have hw := HW.out
  have hs := HS.out
  clear I0 I1 HW HS
  generalize (w.alloc (.cells #[.float .f64 9218868437227405312, .float .f64 9218868437227405311, .float .f64 4674736413210574848, .float .f64 4674736413207826069, .float .f64 0, .float .f64 1, .float .f64 4532020583610935537, .float .f64 4607182418800017408] 22)).alloc (.cells #[.int .i32 2147483647, .int .i32 2147483647, .int .i32 2147483647, .int .i32 2147483647, .int .i32 0, .int .i32 0, .int .i32 0, .int .i32 65536] 21) = W at *
  have hW := Lib.hid hw
  have hsW := Lib.hid hs
  clear hw
  generalize hB : w.heap.size = R at *
  have HB := Lib.hid hB
  clear hB
  have hi0 := fun q : Ext (R + 2) W => q.cell (by omega) i0
  have hi1 := fun q : Ext (R + 2) W => q.cell (by omega) i1
  clear i0 i1 hs
  have d1 := fun w => Lib.hid (fixof_any 4607182418800017408 w)
  have e1 : Fo.of 4607182418800017408 = 65536 := by decide +kernel
  rw [e1] at d1
  clear e1
  refine wp_region_ext (R + 2) W (by kernel_rfl) (by kernel_rfl) (Below.refl _ _) ?_
  repeat (go_big_quiet_step ((first | (go_at_call 11; exact Calls.ext_of (Nat.le_of_eq hsW.out.symm) (told_any _)) | (go_at_call 24; exact Calls.ext_of (Nat.le_of_eq hsW.out.symm) (d1 _).out))))
  refine wpQuiet_nil ?_
  intro _ hw'
  obtain ⟨q, hw''⟩ := hw'
  subst hw''
  go_wp2
  go_ret
  exact ⟨ret_bool (by simp), kept_from hW.out (by rw [hsW.out]; exact q.h)⟩

set_option maxRecDepth 100000 in
set_option maxHeartbeats 4000000 in
theorem edges_neg0 (n : Int) (ek : (IntKind.u64.wrap n).tmod 8 = 0) (w : World) :
    Calls Try.prog 8 #[.int .i64 n, .bool true] w fun e w' => e = .returned (.bool true) ∧ Kept w w' := by
  have hw := Lib.hid (show Kept w ((w.alloc (.cells #[.float .f64 9218868437227405312, .float .f64 9218868437227405311, .float .f64 4674736413210574848, .float .f64 4674736413207826069, .float .f64 0, .float .f64 1, .float .f64 4532020583610935537, .float .f64 4607182418800017408] 22)).alloc (.cells #[.int .i32 2147483647, .int .i32 2147483647, .int .i32 2147483647, .int .i32 2147483647, .int .i32 0, .int .i32 0, .int .i32 0, .int .i32 65536] 21)) from two_below _ _ _)
  have d1 := fun w => Lib.hid (fixof_any (Fl.flip 9218868437227405312) w)
  have e1 : Fo.of (Fl.flip 9218868437227405312) = (-2147483648) := by decide +kernel
  rw [e1] at d1
  clear e1
  go_enter Try.func8, Try.ntmps8
  go_wp2_with (go_at_call 28; refine (inf_pos _).mono ?_; rintro e w' ⟨rfl, rfl⟩)
  refine (told_any _).mono ?_
  rintro e w1 ⟨rfl, hb1⟩
  obtain ⟨hc, hf⟩ := bcell hb1
  go_wp2_with (go_at_call 24; ((with_reducible refine ((d1 _).out).mono ?_); rintro e w2 ⟨rfl, hb2⟩))
  go_ret
  exact ⟨ret_bool (by simp), (hw.out.on hb1).on (by assumption)⟩

set_option maxRecDepth 100000 in
set_option maxHeartbeats 4000000 in
theorem edges_neg1 (n : Int) (ek : (IntKind.u64.wrap n).tmod 8 = 1) (w : World) :
    Calls Try.prog 8 #[.int .i64 n, .bool true] w fun e w' => e = .returned (.bool true) ∧ Kept w w' := by
  have hw := Lib.hid (show Kept w ((w.alloc (.cells #[.float .f64 9218868437227405312, .float .f64 9218868437227405311, .float .f64 4674736413210574848, .float .f64 4674736413207826069, .float .f64 0, .float .f64 1, .float .f64 4532020583610935537, .float .f64 4607182418800017408] 22)).alloc (.cells #[.int .i32 2147483647, .int .i32 2147483647, .int .i32 2147483647, .int .i32 2147483647, .int .i32 0, .int .i32 0, .int .i32 0, .int .i32 65536] 21)) from two_below _ _ _)
  have d1 := fun w => Lib.hid (fixof_any (Fl.flip 9218868437227405311) w)
  have e1 : Fo.of (Fl.flip 9218868437227405311) = (-2147483648) := by decide +kernel
  rw [e1] at d1
  clear e1
  go_enter Try.func8, Try.ntmps8
  go_wp2_with (go_at_call 28; refine (inf_pos _).mono ?_; rintro e w' ⟨rfl, rfl⟩)
  refine (told_any _).mono ?_
  rintro e w1 ⟨rfl, hb1⟩
  obtain ⟨hc, hf⟩ := bcell hb1
  go_wp2_with (go_at_call 24; ((with_reducible refine ((d1 _).out).mono ?_); rintro e w2 ⟨rfl, hb2⟩))
  go_ret
  exact ⟨ret_bool (by simp), (hw.out.on hb1).on (by assumption)⟩

set_option maxRecDepth 100000 in
set_option maxHeartbeats 4000000 in
theorem edges_neg2 (n : Int) (ek : (IntKind.u64.wrap n).tmod 8 = 2) (w : World) :
    Calls Try.prog 8 #[.int .i64 n, .bool true] w fun e w' => e = .returned (.bool true) ∧ Kept w w' := by
  have hw := Lib.hid (show Kept w ((w.alloc (.cells #[.float .f64 9218868437227405312, .float .f64 9218868437227405311, .float .f64 4674736413210574848, .float .f64 4674736413207826069, .float .f64 0, .float .f64 1, .float .f64 4532020583610935537, .float .f64 4607182418800017408] 22)).alloc (.cells #[.int .i32 2147483647, .int .i32 2147483647, .int .i32 2147483647, .int .i32 2147483647, .int .i32 0, .int .i32 0, .int .i32 0, .int .i32 65536] 21)) from two_below _ _ _)
  have d1 := fun w => Lib.hid (fixof_any (Fl.flip 4674736413210574848) w)
  have e1 : Fo.of (Fl.flip 4674736413210574848) = (-2147483648) := by decide +kernel
  rw [e1] at d1
  clear e1
  go_enter Try.func8, Try.ntmps8
  go_wp2_with (go_at_call 28; refine (inf_pos _).mono ?_; rintro e w' ⟨rfl, rfl⟩)
  refine (told_any _).mono ?_
  rintro e w1 ⟨rfl, hb1⟩
  obtain ⟨hc, hf⟩ := bcell hb1
  go_wp2_with (go_at_call 24; ((with_reducible refine ((d1 _).out).mono ?_); rintro e w2 ⟨rfl, hb2⟩))
  go_ret
  exact ⟨ret_bool (by simp), (hw.out.on hb1).on (by assumption)⟩

set_option maxRecDepth 100000 in
set_option maxHeartbeats 4000000 in
theorem edges_neg3 (n : Int) (ek : (IntKind.u64.wrap n).tmod 8 = 3) (w : World) :
    Calls Try.prog 8 #[.int .i64 n, .bool true] w fun e w' => e = .returned (.bool true) ∧ Kept w w' := by
  have hw := Lib.hid (show Kept w ((w.alloc (.cells #[.float .f64 9218868437227405312, .float .f64 9218868437227405311, .float .f64 4674736413210574848, .float .f64 4674736413207826069, .float .f64 0, .float .f64 1, .float .f64 4532020583610935537, .float .f64 4607182418800017408] 22)).alloc (.cells #[.int .i32 2147483647, .int .i32 2147483647, .int .i32 2147483647, .int .i32 2147483647, .int .i32 0, .int .i32 0, .int .i32 0, .int .i32 65536] 21)) from two_below _ _ _)
  have d1 := fun w => Lib.hid (fixof_any (Fl.flip 4674736413207826069) w)
  have e1 : Fo.of (Fl.flip 4674736413207826069) = (-2147483647) := by decide +kernel
  rw [e1] at d1
  clear e1
  go_enter Try.func8, Try.ntmps8
  go_wp2_with (go_at_call 28; refine (inf_pos _).mono ?_; rintro e w' ⟨rfl, rfl⟩)
  refine (told_any _).mono ?_
  rintro e w1 ⟨rfl, hb1⟩
  obtain ⟨hc, hf⟩ := bcell hb1
  go_wp2_with (go_at_call 24; ((with_reducible refine ((d1 _).out).mono ?_); rintro e w2 ⟨rfl, hb2⟩))
  go_ret
  exact ⟨ret_bool (by simp), (hw.out.on hb1).on (by assumption)⟩

set_option maxRecDepth 100000 in
set_option maxHeartbeats 4000000 in
theorem edges_neg4 (n : Int) (ek : (IntKind.u64.wrap n).tmod 8 = 4) (w : World) :
    Calls Try.prog 8 #[.int .i64 n, .bool true] w fun e w' => e = .returned (.bool true) ∧ Kept w w' := by
  have hw := Lib.hid (show Kept w ((w.alloc (.cells #[.float .f64 9218868437227405312, .float .f64 9218868437227405311, .float .f64 4674736413210574848, .float .f64 4674736413207826069, .float .f64 0, .float .f64 1, .float .f64 4532020583610935537, .float .f64 4607182418800017408] 22)).alloc (.cells #[.int .i32 2147483647, .int .i32 2147483647, .int .i32 2147483647, .int .i32 2147483647, .int .i32 0, .int .i32 0, .int .i32 0, .int .i32 65536] 21)) from two_below _ _ _)
  have d1 := fun w => Lib.hid (fixof_any (Fl.flip 0) w)
  have e1 : Fo.of (Fl.flip 0) = 0 := by decide +kernel
  rw [e1] at d1
  clear e1
  go_enter Try.func8, Try.ntmps8
  go_wp2_with (go_at_call 28; refine (inf_pos _).mono ?_; rintro e w' ⟨rfl, rfl⟩)
  refine (told_any _).mono ?_
  rintro e w1 ⟨rfl, hb1⟩
  obtain ⟨hc, hf⟩ := bcell hb1
  go_wp2_with (go_at_call 24; ((with_reducible refine ((d1 _).out).mono ?_); rintro e w2 ⟨rfl, hb2⟩))
  go_ret
  exact ⟨ret_bool (by simp), (hw.out.on hb1).on (by assumption)⟩

set_option maxRecDepth 100000 in
set_option maxHeartbeats 4000000 in
theorem edges_neg5 (n : Int) (ek : (IntKind.u64.wrap n).tmod 8 = 5) (w : World) :
    Calls Try.prog 8 #[.int .i64 n, .bool true] w fun e w' => e = .returned (.bool true) ∧ Kept w w' := by
  have hw := Lib.hid (show Kept w ((w.alloc (.cells #[.float .f64 9218868437227405312, .float .f64 9218868437227405311, .float .f64 4674736413210574848, .float .f64 4674736413207826069, .float .f64 0, .float .f64 1, .float .f64 4532020583610935537, .float .f64 4607182418800017408] 22)).alloc (.cells #[.int .i32 2147483647, .int .i32 2147483647, .int .i32 2147483647, .int .i32 2147483647, .int .i32 0, .int .i32 0, .int .i32 0, .int .i32 65536] 21)) from two_below _ _ _)
  have d1 := fun w => Lib.hid (fixof_any (Fl.flip 1) w)
  have e1 : Fo.of (Fl.flip 1) = 0 := by decide +kernel
  rw [e1] at d1
  clear e1
  go_enter Try.func8, Try.ntmps8
  go_wp2_with (go_at_call 28; refine (inf_pos _).mono ?_; rintro e w' ⟨rfl, rfl⟩)
  refine (told_any _).mono ?_
  rintro e w1 ⟨rfl, hb1⟩
  obtain ⟨hc, hf⟩ := bcell hb1
  go_wp2_with (go_at_call 24; ((with_reducible refine ((d1 _).out).mono ?_); rintro e w2 ⟨rfl, hb2⟩))
  go_ret
  exact ⟨ret_bool (by simp), (hw.out.on hb1).on (by assumption)⟩

set_option maxRecDepth 100000 in
set_option maxHeartbeats 4000000 in
theorem edges_neg6 (n : Int) (ek : (IntKind.u64.wrap n).tmod 8 = 6) (w : World) :
    Calls Try.prog 8 #[.int .i64 n, .bool true] w fun e w' => e = .returned (.bool true) ∧ Kept w w' := by
  have hw := Lib.hid (show Kept w ((w.alloc (.cells #[.float .f64 9218868437227405312, .float .f64 9218868437227405311, .float .f64 4674736413210574848, .float .f64 4674736413207826069, .float .f64 0, .float .f64 1, .float .f64 4532020583610935537, .float .f64 4607182418800017408] 22)).alloc (.cells #[.int .i32 2147483647, .int .i32 2147483647, .int .i32 2147483647, .int .i32 2147483647, .int .i32 0, .int .i32 0, .int .i32 0, .int .i32 65536] 21)) from two_below _ _ _)
  have d1 := fun w => Lib.hid (fixof_any (Fl.flip 4532020583610935537) w)
  have e1 : Fo.of (Fl.flip 4532020583610935537) = 0 := by decide +kernel
  rw [e1] at d1
  clear e1
  go_enter Try.func8, Try.ntmps8
  go_wp2_with (go_at_call 28; refine (inf_pos _).mono ?_; rintro e w' ⟨rfl, rfl⟩)
  refine (told_any _).mono ?_
  rintro e w1 ⟨rfl, hb1⟩
  obtain ⟨hc, hf⟩ := bcell hb1
  go_wp2_with (go_at_call 24; ((with_reducible refine ((d1 _).out).mono ?_); rintro e w2 ⟨rfl, hb2⟩))
  go_ret
  exact ⟨ret_bool (by simp), (hw.out.on hb1).on (by assumption)⟩

set_option maxRecDepth 100000 in
set_option maxHeartbeats 4000000 in
theorem edges_neg7 (n : Int) (ek : (IntKind.u64.wrap n).tmod 8 = 7) (w : World) :
    Calls Try.prog 8 #[.int .i64 n, .bool true] w fun e w' => e = .returned (.bool true) ∧ Kept w w' := by
  have hw := Lib.hid (show Kept w ((w.alloc (.cells #[.float .f64 9218868437227405312, .float .f64 9218868437227405311, .float .f64 4674736413210574848, .float .f64 4674736413207826069, .float .f64 0, .float .f64 1, .float .f64 4532020583610935537, .float .f64 4607182418800017408] 22)).alloc (.cells #[.int .i32 2147483647, .int .i32 2147483647, .int .i32 2147483647, .int .i32 2147483647, .int .i32 0, .int .i32 0, .int .i32 0, .int .i32 65536] 21)) from two_below _ _ _)
  have d1 := fun w => Lib.hid (fixof_any (Fl.flip 4607182418800017408) w)
  have e1 : Fo.of (Fl.flip 4607182418800017408) = (-65536) := by decide +kernel
  rw [e1] at d1
  clear e1
  go_enter Try.func8, Try.ntmps8
  go_wp2_with (go_at_call 28; refine (inf_pos _).mono ?_; rintro e w' ⟨rfl, rfl⟩)
  refine (told_any _).mono ?_
  rintro e w1 ⟨rfl, hb1⟩
  obtain ⟨hc, hf⟩ := bcell hb1
  go_wp2_with (go_at_call 24; ((with_reducible refine ((d1 _).out).mono ?_); rintro e w2 ⟨rfl, hb2⟩))
  go_ret
  exact ⟨ret_bool (by simp), (hw.out.on hb1).on (by assumption)⟩

theorem edges_law (n : Int) (t : Bool) (w : World) :
    Calls Try.prog 8 #[.int .i64 n, .bool t] w fun e w' => e = .returned (.bool true) ∧ Kept w w' := by
  obtain ⟨k0, k1⟩ := u64_mod n 8 (by omega)
  have hk : (IntKind.u64.wrap n).tmod 8 = 0 ∨ (IntKind.u64.wrap n).tmod 8 = 1 ∨ (IntKind.u64.wrap n).tmod 8 = 2 ∨ (IntKind.u64.wrap n).tmod 8 = 3 ∨ (IntKind.u64.wrap n).tmod 8 = 4 ∨ (IntKind.u64.wrap n).tmod 8 = 5 ∨ (IntKind.u64.wrap n).tmod 8 = 6 ∨ (IntKind.u64.wrap n).tmod 8 = 7 := by omega
  cases t
  · rcases hk with h | h | h | h | h | h | h | h
    · exact edges_pos0 n h w
    · exact edges_pos1 n h w
    · exact edges_pos2 n h w
    · exact edges_pos3 n h w
    · exact edges_pos4 n h w
    · exact edges_pos5 n h w
    · exact edges_pos6 n h w
    · exact edges_pos7 n h w
  · rcases hk with h | h | h | h | h | h | h | h
    · exact edges_neg0 n h w
    · exact edges_neg1 n h w
    · exact edges_neg2 n h w
    · exact edges_neg3 n h w
    · exact edges_neg4 n h w
    · exact edges_neg5 n h w
    · exact edges_neg6 n h w
    · exact edges_neg7 n h w

end Go.Proofs.Ytpcndjmhikigfaa
