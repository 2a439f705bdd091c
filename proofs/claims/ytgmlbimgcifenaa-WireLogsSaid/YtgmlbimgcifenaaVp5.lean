/-
Several texts in one: Zn.
-/
import Derived.Test.YtgmlbimgcifenaaVp4
namespace Ms
open Go
/-- A number of a part that is there (z is not nought), or not. -/
def numB (z v lo hi : Int) : Bool := if z = 0 then v == 0 else decide (lo ≤ v) && decide (v ≤ hi)
def mayP (own : Int) (m : M) : Bool := (((((((((((Ms.numB (bits .and .i64 own 1) (m.slot) (0) (7)) && (Ms.numB (bits .and .i64 own 2) (m.gen) (1) (60000))) && (Ms.numB (bits .and .i64 own 4) (m.frame) (0) (1048576))) && (Ms.numB (bits .and .i64 own 8) (m.code) (0) (9))) && (Ms.numB (bits .and .i64 own 16) (m.n) (0) (65535))) && (Ms.numB (bits .and .i64 own 32) (m.of) ((IntKind.i64.wrap (m.n + 1))) (65535))) && (((bits .and .i64 own 64) != 0) || (m.bits == 0))) && (((bits .and .i64 own 128) != 0) || (m.sum == 0))) && (Ms.numB (bits .and .i64 own 256) ((m.ins.length : Int)) (1) (16))) && (Ms.numB (bits .and .i64 own 512) ((m.log.length : Int)) (1) (16))) && (Ms.numB (bits .and .i64 own 1024) ((m.data.length : Int)) (1) (64)))
end Ms
namespace Go.Proofs.Ytgmlbimgcifenaa
open Go.RowKit Go.Shelf
set_option linter.unusedVariables false
set_option linter.unusedSimpArgs false

theorem number_any (own wh v lo hi : Int) (tq : Nat) (w : World) (ho : Box w tq 72 #[.int .i64 own]) :
    Calls Try.prog 55 #[.int .i64 wh, .int .i64 v, .int .i64 lo, .int .i64 hi, .pointer (some ⟨tq, 0, none⟩)] w fun e w' => e = .returned (.bool (Ms.numB (bits .and .i64 own wh) v lo hi)) ∧ w = w' := by
  have o0 := ho.cell 0
  obtain ⟨z, hz⟩ : ∃ z, z = bits .and .i64 own wh := ⟨_, rfl⟩
  have hz' := hz.symm
  rw [← hz]
  clear ho hz
  by_cases h0 : z = 0
  · subst h0
    go_enter Try.func55, Try.ntmps55
    go_wp2
    go_ret
    exact ⟨ret_bool (by unfold Ms.numB; simp), rfl⟩
  · have hb : (z == 0) = false := by simpa using h0
    have H0 := Lib.hid h0
    clear h0
    by_cases h1 : lo ≤ v
    · go_enter Try.func55, Try.ntmps55
      go_wp2
      all_goals
        go_ret
        exact ⟨ret_bool (by unfold Ms.numB; rw [if_neg H0.out, decide_eq_true h1]; simp <;> omega), rfl⟩
    · go_enter Try.func55, Try.ntmps55
      go_wp2
      go_ret
      exact ⟨ret_bool (by unfold Ms.numB; rw [if_neg H0.out, decide_eq_false (by omega)]; simp), rfl⟩

set_option maxRecDepth 100000 in
set_option maxHeartbeats 1000000 in
theorem mayparts_any (own : Int) (q : Ms.S) (w : World) (fi : q.m.ins.length ≤ maxLen) (fl : q.m.log.length ≤ maxLen) (fd : q.m.data.length ≤ maxLen) :
    Calls Try.prog 35 #[.int .i64 own, .agg q.cells] w fun e w' => e = .returned (.bool (Ms.mayP own q.m)) ∧ Below w.heap.size w w' := by
  have KB := Lib.hid (((Below.refl w.heap.size w).alloc (Nat.le_refl _) (.cells #[.int .i64 own] 72)).alloc (by simp) (.cells q.cells 29))
  have BO := Lib.hid ((Box.made w 72 #[.int .i64 own]).alloc (.cells q.cells 29))
  have BX := Lib.hid (Box.made (w.alloc (.cells #[.int .i64 own] 72)) 29 q.cells)
  have hmf : ∀ (fn : Fn) (first cap : Array Value) (w : World), (Instr.makeFunc fn first cap).run Try.prog w = .ok (.func fn first cap) w := fun _ _ _ _ => rfl
  obtain ⟨m, ai, ci, al, cl, ad, cd⟩ := q
  dsimp only at fi fl fd ⊢
  unfold maxLen at fi fl fd
  go_enter Try.func35, Try.ntmps35
  go_upto_region 2 with fail
  generalize hW : (w.alloc (.cells #[.int .i64 own] 72)).alloc (.cells (Ms.S.cells ⟨m, ai, ci, al, cl, ad, cd⟩) 29) = W0 at *
  generalize hB2 : (w.alloc (.cells #[.int .i64 own] 72)).heap.size = B at *
  obtain ⟨O, hO⟩ : ∃ O, O = w.heap.size := ⟨_, rfl⟩
  rw [← hO] at BO
  refine Slim.forget 85 rfl rfl fun a0 S D hf => ?_
  have H2 : Slim.Has a0 2 true (.pointer (some ⟨O, 0, none⟩)) := by rw [hO]; exact hf 2 _ rfl
  have H3 : Slim.Has a0 3 true (.pointer (some ⟨B, 0, none⟩)) := hf 3 _ (by rw [← hB2]; simp; first | done | rfl)
  have H5 : Slim.Has a0 5 true (.func (.func 55) #[] #[.pointer (some ⟨O, 0, none⟩)]) := by rw [hO]; exact hf 5 _ rfl
  clear hf hW hB2 hO
  refine wp_region_lit ?_
  refine Slim.val_g (t := 7) (c := true) (v := .func (.func 55) #[] #[.pointer (some ⟨O, 0, none⟩)]) rfl (by rw [S]; decide) (Slim.wants_all rfl) (Slim.move_g rfl H5 (fun h => h)) fun a1 o => ?_
  replace S := o.size.trans S; replace D := o.defers.trans D
  replace H2 := Slim.stays o H2 (by decide)
  replace H3 := Slim.stays o H3 (by decide)
  replace H5 := Slim.stays o H5 (by decide)
  have H7 : Slim.Has a1 7 true (.func (.func 55) #[] #[.pointer (some ⟨O, 0, none⟩)]) := o.here
  clear o
  refine Slim.val_g (t := 8) (c := true) (v := .pointer (some ⟨B, 5, none⟩)) rfl (by rw [S]; decide) (Slim.wants_all rfl) (Slim.field_g rfl H3 (fun h => h) (by go_simp; first | done | rfl)) fun a2 o => ?_
  replace S := o.size.trans S; replace D := o.defers.trans D
  replace H2 := Slim.stays o H2 (by decide)
  replace H3 := Slim.stays o H3 (by decide)
  replace H5 := Slim.stays o H5 (by decide)
  replace H7 := Slim.stays o H7 (by decide)
  have H8 : Slim.Has a2 8 true (.pointer (some ⟨B, 5, none⟩)) := o.here
  clear o
  refine Slim.val_g (t := 9) (c := true) (v := .int .i64 m.slot) rfl (by rw [S]; decide) (Slim.wants_all rfl) (Slim.load_g rfl H8 (fun h => h) (by have k := BX.out.cell 5; go_simp; first | done | rfl)) fun a3 o => ?_
  replace S := o.size.trans S; replace D := o.defers.trans D
  replace H2 := Slim.stays o H2 (by decide)
  replace H3 := Slim.stays o H3 (by decide)
  replace H5 := Slim.stays o H5 (by decide)
  replace H7 := Slim.stays o H7 (by decide)
  have H9 : Slim.Has a3 9 true (.int .i64 m.slot) := o.here
  clear H8
  clear o
  refine Slim.call0_g (t := 10) (c := true) (v := .bool (Ms.numB (bits .and .i64 own 1) (m.slot) (0) (7))) rfl (by rw [S]; decide) (Slim.wants_all rfl) (Slim.callv_g (f := 55) (xs := [.const (.int .i64 1), .tmp 9, .const (.int .i64 0), .const (.int .i64 7)]) (vs := [.int .i64 1, .int .i64 m.slot, .int .i64 0, .int .i64 7]) (args := #[.int .i64 1, .int .i64 m.slot, .int .i64 0, .int .i64 7, .pointer (some ⟨O, 0, none⟩)]) rfl H7 (fun h => h) (fun h0 => by simp only [List.map_cons, List.map_nil, Slim.pres H9 ((fun h => h) h0)]; rfl) rfl (by go_simp; first | done | rfl)) (fun _ => number_any own 1 (m.slot) (0) (7) O _ BO.out) fun a4 o => ?_
  replace S := o.size.trans S; replace D := o.defers.trans D
  replace H2 := Slim.stays o H2 (by decide)
  replace H3 := Slim.stays o H3 (by decide)
  replace H5 := Slim.stays o H5 (by decide)
  have H10 : Slim.Has a4 10 true (.bool (Ms.numB (bits .and .i64 own 1) (m.slot) (0) (7))) := o.here
  clear H7
  clear H9
  clear o
  refine Slim.val_g (t := 11) (c := true) (v := .bool (Ms.numB (bits .and .i64 own 1) (m.slot) (0) (7))) rfl (by rw [S]; decide) (Slim.wants_all rfl) (Slim.move_g rfl H10 (fun h => h)) fun a5 o => ?_
  replace S := o.size.trans S; replace D := o.defers.trans D
  replace H2 := Slim.stays o H2 (by decide)
  replace H3 := Slim.stays o H3 (by decide)
  replace H5 := Slim.stays o H5 (by decide)
  have H11 : Slim.Has a5 11 true (.bool (Ms.numB (bits .and .i64 own 1) (m.slot) (0) (7))) := o.here
  clear H10
  clear o
  refine Slim.val_g (t := 12) (c := (true && ((Ms.numB (bits .and .i64 own 1) (m.slot) (0) (7)) == true))) (v := .func (.func 55) #[] #[.pointer (some ⟨O, 0, none⟩)]) rfl (by rw [S]; decide) (Slim.wanted_g rfl rfl H11) (Slim.move_g rfl H5 (fun _ => rfl)) fun a6 o => ?_
  replace S := o.size.trans S; replace D := o.defers.trans D
  replace H2 := Slim.stays o H2 (by decide)
  replace H3 := Slim.stays o H3 (by decide)
  replace H5 := Slim.stays o H5 (by decide)
  replace H11 := Slim.stays o H11 (by decide)
  have H12 : Slim.Has a6 12 (true && ((Ms.numB (bits .and .i64 own 1) (m.slot) (0) (7)) == true)) (.func (.func 55) #[] #[.pointer (some ⟨O, 0, none⟩)]) := o.here
  clear o
  refine Slim.val_g (t := 13) (c := (true && ((Ms.numB (bits .and .i64 own 1) (m.slot) (0) (7)) == true))) (v := .pointer (some ⟨B, 6, none⟩)) rfl (by rw [S]; decide) (Slim.wanted_g rfl rfl H11) (Slim.field_g rfl H3 (fun _ => rfl) (by go_simp; first | done | rfl)) fun a7 o => ?_
  replace S := o.size.trans S; replace D := o.defers.trans D
  replace H2 := Slim.stays o H2 (by decide)
  replace H3 := Slim.stays o H3 (by decide)
  replace H5 := Slim.stays o H5 (by decide)
  replace H11 := Slim.stays o H11 (by decide)
  replace H12 := Slim.stays o H12 (by decide)
  have H13 : Slim.Has a7 13 (true && ((Ms.numB (bits .and .i64 own 1) (m.slot) (0) (7)) == true)) (.pointer (some ⟨B, 6, none⟩)) := o.here
  clear o
  refine Slim.val_g (t := 14) (c := (true && ((Ms.numB (bits .and .i64 own 1) (m.slot) (0) (7)) == true))) (v := .int .i64 m.gen) rfl (by rw [S]; decide) (Slim.wanted_g rfl rfl H11) (Slim.load_g rfl H13 (fun h => h) (by have k := BX.out.cell 6; go_simp; first | done | rfl)) fun a8 o => ?_
  replace S := o.size.trans S; replace D := o.defers.trans D
  replace H2 := Slim.stays o H2 (by decide)
  replace H3 := Slim.stays o H3 (by decide)
  replace H5 := Slim.stays o H5 (by decide)
  replace H11 := Slim.stays o H11 (by decide)
  replace H12 := Slim.stays o H12 (by decide)
  have H14 : Slim.Has a8 14 (true && ((Ms.numB (bits .and .i64 own 1) (m.slot) (0) (7)) == true)) (.int .i64 m.gen) := o.here
  clear H13
  clear o
  refine Slim.call0_g (t := 15) (c := (true && ((Ms.numB (bits .and .i64 own 1) (m.slot) (0) (7)) == true))) (v := .bool (Ms.numB (bits .and .i64 own 2) (m.gen) (1) (60000))) rfl (by rw [S]; decide) (Slim.wanted_g rfl rfl H11) (Slim.callv_g (f := 55) (xs := [.const (.int .i64 2), .tmp 14, .const (.int .i64 1), .const (.int .i64 60000)]) (vs := [.int .i64 2, .int .i64 m.gen, .int .i64 1, .int .i64 60000]) (args := #[.int .i64 2, .int .i64 m.gen, .int .i64 1, .int .i64 60000, .pointer (some ⟨O, 0, none⟩)]) rfl H12 (fun h => h) (fun h0 => by simp only [List.map_cons, List.map_nil, Slim.pres H14 ((fun h => h) h0)]; rfl) rfl (by go_simp; first | done | rfl)) (fun _ => number_any own 2 (m.gen) (1) (60000) O _ BO.out) fun a9 o => ?_
  replace S := o.size.trans S; replace D := o.defers.trans D
  replace H2 := Slim.stays o H2 (by decide)
  replace H3 := Slim.stays o H3 (by decide)
  replace H5 := Slim.stays o H5 (by decide)
  replace H11 := Slim.stays o H11 (by decide)
  have H15 : Slim.Has a9 15 (true && ((Ms.numB (bits .and .i64 own 1) (m.slot) (0) (7)) == true)) (.bool (Ms.numB (bits .and .i64 own 2) (m.gen) (1) (60000))) := o.here
  clear H12
  clear H14
  clear o
  refine Slim.val_g (t := 16) (c := true) (v := .bool ((Ms.numB (bits .and .i64 own 1) (m.slot) (0) (7)) && (Ms.numB (bits .and .i64 own 2) (m.gen) (1) (60000)))) rfl (by rw [S]; decide) (Slim.wants_all rfl) (Slim.and_g rfl H11 H15 (fun h => h) (fun h1 h2 => Bool.and_eq_true_iff.2 ⟨h1, by rw [h2]; rfl⟩)) fun a10 o => ?_
  replace S := o.size.trans S; replace D := o.defers.trans D
  replace H2 := Slim.stays o H2 (by decide)
  replace H3 := Slim.stays o H3 (by decide)
  replace H5 := Slim.stays o H5 (by decide)
  have H16 : Slim.Has a10 16 true (.bool ((Ms.numB (bits .and .i64 own 1) (m.slot) (0) (7)) && (Ms.numB (bits .and .i64 own 2) (m.gen) (1) (60000)))) := o.here
  clear H11
  clear H15
  clear o
  refine Slim.val_g (t := 17) (c := true) (v := .bool ((Ms.numB (bits .and .i64 own 1) (m.slot) (0) (7)) && (Ms.numB (bits .and .i64 own 2) (m.gen) (1) (60000)))) rfl (by rw [S]; decide) (Slim.wants_all rfl) (Slim.move_g rfl H16 (fun h => h)) fun a11 o => ?_
  replace S := o.size.trans S; replace D := o.defers.trans D
  replace H2 := Slim.stays o H2 (by decide)
  replace H3 := Slim.stays o H3 (by decide)
  replace H5 := Slim.stays o H5 (by decide)
  have H17 : Slim.Has a11 17 true (.bool ((Ms.numB (bits .and .i64 own 1) (m.slot) (0) (7)) && (Ms.numB (bits .and .i64 own 2) (m.gen) (1) (60000)))) := o.here
  clear H16
  clear o
  refine Slim.val_g (t := 18) (c := (true && (((Ms.numB (bits .and .i64 own 1) (m.slot) (0) (7)) && (Ms.numB (bits .and .i64 own 2) (m.gen) (1) (60000))) == true))) (v := .func (.func 55) #[] #[.pointer (some ⟨O, 0, none⟩)]) rfl (by rw [S]; decide) (Slim.wanted_g rfl rfl H17) (Slim.move_g rfl H5 (fun _ => rfl)) fun a12 o => ?_
  replace S := o.size.trans S; replace D := o.defers.trans D
  replace H2 := Slim.stays o H2 (by decide)
  replace H3 := Slim.stays o H3 (by decide)
  replace H5 := Slim.stays o H5 (by decide)
  replace H17 := Slim.stays o H17 (by decide)
  have H18 : Slim.Has a12 18 (true && (((Ms.numB (bits .and .i64 own 1) (m.slot) (0) (7)) && (Ms.numB (bits .and .i64 own 2) (m.gen) (1) (60000))) == true)) (.func (.func 55) #[] #[.pointer (some ⟨O, 0, none⟩)]) := o.here
  clear o
  refine Slim.val_g (t := 19) (c := (true && (((Ms.numB (bits .and .i64 own 1) (m.slot) (0) (7)) && (Ms.numB (bits .and .i64 own 2) (m.gen) (1) (60000))) == true))) (v := .pointer (some ⟨B, 7, none⟩)) rfl (by rw [S]; decide) (Slim.wanted_g rfl rfl H17) (Slim.field_g rfl H3 (fun _ => rfl) (by go_simp; first | done | rfl)) fun a13 o => ?_
  replace S := o.size.trans S; replace D := o.defers.trans D
  replace H2 := Slim.stays o H2 (by decide)
  replace H3 := Slim.stays o H3 (by decide)
  replace H5 := Slim.stays o H5 (by decide)
  replace H17 := Slim.stays o H17 (by decide)
  replace H18 := Slim.stays o H18 (by decide)
  have H19 : Slim.Has a13 19 (true && (((Ms.numB (bits .and .i64 own 1) (m.slot) (0) (7)) && (Ms.numB (bits .and .i64 own 2) (m.gen) (1) (60000))) == true)) (.pointer (some ⟨B, 7, none⟩)) := o.here
  clear o
  refine Slim.val_g (t := 20) (c := (true && (((Ms.numB (bits .and .i64 own 1) (m.slot) (0) (7)) && (Ms.numB (bits .and .i64 own 2) (m.gen) (1) (60000))) == true))) (v := .int .i64 m.frame) rfl (by rw [S]; decide) (Slim.wanted_g rfl rfl H17) (Slim.load_g rfl H19 (fun h => h) (by have k := BX.out.cell 7; go_simp; first | done | rfl)) fun a14 o => ?_
  replace S := o.size.trans S; replace D := o.defers.trans D
  replace H2 := Slim.stays o H2 (by decide)
  replace H3 := Slim.stays o H3 (by decide)
  replace H5 := Slim.stays o H5 (by decide)
  replace H17 := Slim.stays o H17 (by decide)
  replace H18 := Slim.stays o H18 (by decide)
  have H20 : Slim.Has a14 20 (true && (((Ms.numB (bits .and .i64 own 1) (m.slot) (0) (7)) && (Ms.numB (bits .and .i64 own 2) (m.gen) (1) (60000))) == true)) (.int .i64 m.frame) := o.here
  clear H19
  clear o
  refine Slim.call0_g (t := 21) (c := (true && (((Ms.numB (bits .and .i64 own 1) (m.slot) (0) (7)) && (Ms.numB (bits .and .i64 own 2) (m.gen) (1) (60000))) == true))) (v := .bool (Ms.numB (bits .and .i64 own 4) (m.frame) (0) (1048576))) rfl (by rw [S]; decide) (Slim.wanted_g rfl rfl H17) (Slim.callv_g (f := 55) (xs := [.const (.int .i64 4), .tmp 20, .const (.int .i64 0), .const (.int .i64 1048576)]) (vs := [.int .i64 4, .int .i64 m.frame, .int .i64 0, .int .i64 1048576]) (args := #[.int .i64 4, .int .i64 m.frame, .int .i64 0, .int .i64 1048576, .pointer (some ⟨O, 0, none⟩)]) rfl H18 (fun h => h) (fun h0 => by simp only [List.map_cons, List.map_nil, Slim.pres H20 ((fun h => h) h0)]; rfl) rfl (by go_simp; first | done | rfl)) (fun _ => number_any own 4 (m.frame) (0) (1048576) O _ BO.out) fun a15 o => ?_
  replace S := o.size.trans S; replace D := o.defers.trans D
  replace H2 := Slim.stays o H2 (by decide)
  replace H3 := Slim.stays o H3 (by decide)
  replace H5 := Slim.stays o H5 (by decide)
  replace H17 := Slim.stays o H17 (by decide)
  have H21 : Slim.Has a15 21 (true && (((Ms.numB (bits .and .i64 own 1) (m.slot) (0) (7)) && (Ms.numB (bits .and .i64 own 2) (m.gen) (1) (60000))) == true)) (.bool (Ms.numB (bits .and .i64 own 4) (m.frame) (0) (1048576))) := o.here
  clear H18
  clear H20
  clear o
  refine Slim.val_g (t := 22) (c := true) (v := .bool (((Ms.numB (bits .and .i64 own 1) (m.slot) (0) (7)) && (Ms.numB (bits .and .i64 own 2) (m.gen) (1) (60000))) && (Ms.numB (bits .and .i64 own 4) (m.frame) (0) (1048576)))) rfl (by rw [S]; decide) (Slim.wants_all rfl) (Slim.and_g rfl H17 H21 (fun h => h) (fun h1 h2 => Bool.and_eq_true_iff.2 ⟨h1, by rw [h2]; rfl⟩)) fun a16 o => ?_
  replace S := o.size.trans S; replace D := o.defers.trans D
  replace H2 := Slim.stays o H2 (by decide)
  replace H3 := Slim.stays o H3 (by decide)
  replace H5 := Slim.stays o H5 (by decide)
  have H22 : Slim.Has a16 22 true (.bool (((Ms.numB (bits .and .i64 own 1) (m.slot) (0) (7)) && (Ms.numB (bits .and .i64 own 2) (m.gen) (1) (60000))) && (Ms.numB (bits .and .i64 own 4) (m.frame) (0) (1048576)))) := o.here
  clear H17
  clear H21
  clear o
  refine Slim.val_g (t := 23) (c := true) (v := .bool (((Ms.numB (bits .and .i64 own 1) (m.slot) (0) (7)) && (Ms.numB (bits .and .i64 own 2) (m.gen) (1) (60000))) && (Ms.numB (bits .and .i64 own 4) (m.frame) (0) (1048576)))) rfl (by rw [S]; decide) (Slim.wants_all rfl) (Slim.move_g rfl H22 (fun h => h)) fun a17 o => ?_
  replace S := o.size.trans S; replace D := o.defers.trans D
  replace H2 := Slim.stays o H2 (by decide)
  replace H3 := Slim.stays o H3 (by decide)
  replace H5 := Slim.stays o H5 (by decide)
  have H23 : Slim.Has a17 23 true (.bool (((Ms.numB (bits .and .i64 own 1) (m.slot) (0) (7)) && (Ms.numB (bits .and .i64 own 2) (m.gen) (1) (60000))) && (Ms.numB (bits .and .i64 own 4) (m.frame) (0) (1048576)))) := o.here
  clear H22
  clear o
  refine Slim.val_g (t := 24) (c := (true && ((((Ms.numB (bits .and .i64 own 1) (m.slot) (0) (7)) && (Ms.numB (bits .and .i64 own 2) (m.gen) (1) (60000))) && (Ms.numB (bits .and .i64 own 4) (m.frame) (0) (1048576))) == true))) (v := .func (.func 55) #[] #[.pointer (some ⟨O, 0, none⟩)]) rfl (by rw [S]; decide) (Slim.wanted_g rfl rfl H23) (Slim.move_g rfl H5 (fun _ => rfl)) fun a18 o => ?_
  replace S := o.size.trans S; replace D := o.defers.trans D
  replace H2 := Slim.stays o H2 (by decide)
  replace H3 := Slim.stays o H3 (by decide)
  replace H5 := Slim.stays o H5 (by decide)
  replace H23 := Slim.stays o H23 (by decide)
  have H24 : Slim.Has a18 24 (true && ((((Ms.numB (bits .and .i64 own 1) (m.slot) (0) (7)) && (Ms.numB (bits .and .i64 own 2) (m.gen) (1) (60000))) && (Ms.numB (bits .and .i64 own 4) (m.frame) (0) (1048576))) == true)) (.func (.func 55) #[] #[.pointer (some ⟨O, 0, none⟩)]) := o.here
  clear o
  refine Slim.val_g (t := 25) (c := (true && ((((Ms.numB (bits .and .i64 own 1) (m.slot) (0) (7)) && (Ms.numB (bits .and .i64 own 2) (m.gen) (1) (60000))) && (Ms.numB (bits .and .i64 own 4) (m.frame) (0) (1048576))) == true))) (v := .pointer (some ⟨B, 8, none⟩)) rfl (by rw [S]; decide) (Slim.wanted_g rfl rfl H23) (Slim.field_g rfl H3 (fun _ => rfl) (by go_simp; first | done | rfl)) fun a19 o => ?_
  replace S := o.size.trans S; replace D := o.defers.trans D
  replace H2 := Slim.stays o H2 (by decide)
  replace H3 := Slim.stays o H3 (by decide)
  replace H5 := Slim.stays o H5 (by decide)
  replace H23 := Slim.stays o H23 (by decide)
  replace H24 := Slim.stays o H24 (by decide)
  have H25 : Slim.Has a19 25 (true && ((((Ms.numB (bits .and .i64 own 1) (m.slot) (0) (7)) && (Ms.numB (bits .and .i64 own 2) (m.gen) (1) (60000))) && (Ms.numB (bits .and .i64 own 4) (m.frame) (0) (1048576))) == true)) (.pointer (some ⟨B, 8, none⟩)) := o.here
  clear o
  refine Slim.val_g (t := 26) (c := (true && ((((Ms.numB (bits .and .i64 own 1) (m.slot) (0) (7)) && (Ms.numB (bits .and .i64 own 2) (m.gen) (1) (60000))) && (Ms.numB (bits .and .i64 own 4) (m.frame) (0) (1048576))) == true))) (v := .int .i64 m.code) rfl (by rw [S]; decide) (Slim.wanted_g rfl rfl H23) (Slim.load_g rfl H25 (fun h => h) (by have k := BX.out.cell 8; go_simp; first | done | rfl)) fun a20 o => ?_
  replace S := o.size.trans S; replace D := o.defers.trans D
  replace H2 := Slim.stays o H2 (by decide)
  replace H3 := Slim.stays o H3 (by decide)
  replace H5 := Slim.stays o H5 (by decide)
  replace H23 := Slim.stays o H23 (by decide)
  replace H24 := Slim.stays o H24 (by decide)
  have H26 : Slim.Has a20 26 (true && ((((Ms.numB (bits .and .i64 own 1) (m.slot) (0) (7)) && (Ms.numB (bits .and .i64 own 2) (m.gen) (1) (60000))) && (Ms.numB (bits .and .i64 own 4) (m.frame) (0) (1048576))) == true)) (.int .i64 m.code) := o.here
  clear H25
  clear o
  refine Slim.call0_g (t := 27) (c := (true && ((((Ms.numB (bits .and .i64 own 1) (m.slot) (0) (7)) && (Ms.numB (bits .and .i64 own 2) (m.gen) (1) (60000))) && (Ms.numB (bits .and .i64 own 4) (m.frame) (0) (1048576))) == true))) (v := .bool (Ms.numB (bits .and .i64 own 8) (m.code) (0) (9))) rfl (by rw [S]; decide) (Slim.wanted_g rfl rfl H23) (Slim.callv_g (f := 55) (xs := [.const (.int .i64 8), .tmp 26, .const (.int .i64 0), .const (.int .i64 9)]) (vs := [.int .i64 8, .int .i64 m.code, .int .i64 0, .int .i64 9]) (args := #[.int .i64 8, .int .i64 m.code, .int .i64 0, .int .i64 9, .pointer (some ⟨O, 0, none⟩)]) rfl H24 (fun h => h) (fun h0 => by simp only [List.map_cons, List.map_nil, Slim.pres H26 ((fun h => h) h0)]; rfl) rfl (by go_simp; first | done | rfl)) (fun _ => number_any own 8 (m.code) (0) (9) O _ BO.out) fun a21 o => ?_
  replace S := o.size.trans S; replace D := o.defers.trans D
  replace H2 := Slim.stays o H2 (by decide)
  replace H3 := Slim.stays o H3 (by decide)
  replace H5 := Slim.stays o H5 (by decide)
  replace H23 := Slim.stays o H23 (by decide)
  have H27 : Slim.Has a21 27 (true && ((((Ms.numB (bits .and .i64 own 1) (m.slot) (0) (7)) && (Ms.numB (bits .and .i64 own 2) (m.gen) (1) (60000))) && (Ms.numB (bits .and .i64 own 4) (m.frame) (0) (1048576))) == true)) (.bool (Ms.numB (bits .and .i64 own 8) (m.code) (0) (9))) := o.here
  clear H24
  clear H26
  clear o
  refine Slim.val_g (t := 28) (c := true) (v := .bool ((((Ms.numB (bits .and .i64 own 1) (m.slot) (0) (7)) && (Ms.numB (bits .and .i64 own 2) (m.gen) (1) (60000))) && (Ms.numB (bits .and .i64 own 4) (m.frame) (0) (1048576))) && (Ms.numB (bits .and .i64 own 8) (m.code) (0) (9)))) rfl (by rw [S]; decide) (Slim.wants_all rfl) (Slim.and_g rfl H23 H27 (fun h => h) (fun h1 h2 => Bool.and_eq_true_iff.2 ⟨h1, by rw [h2]; rfl⟩)) fun a22 o => ?_
  replace S := o.size.trans S; replace D := o.defers.trans D
  replace H2 := Slim.stays o H2 (by decide)
  replace H3 := Slim.stays o H3 (by decide)
  replace H5 := Slim.stays o H5 (by decide)
  have H28 : Slim.Has a22 28 true (.bool ((((Ms.numB (bits .and .i64 own 1) (m.slot) (0) (7)) && (Ms.numB (bits .and .i64 own 2) (m.gen) (1) (60000))) && (Ms.numB (bits .and .i64 own 4) (m.frame) (0) (1048576))) && (Ms.numB (bits .and .i64 own 8) (m.code) (0) (9)))) := o.here
  clear H23
  clear H27
  clear o
  refine Slim.val_g (t := 29) (c := true) (v := .bool ((((Ms.numB (bits .and .i64 own 1) (m.slot) (0) (7)) && (Ms.numB (bits .and .i64 own 2) (m.gen) (1) (60000))) && (Ms.numB (bits .and .i64 own 4) (m.frame) (0) (1048576))) && (Ms.numB (bits .and .i64 own 8) (m.code) (0) (9)))) rfl (by rw [S]; decide) (Slim.wants_all rfl) (Slim.move_g rfl H28 (fun h => h)) fun a23 o => ?_
  replace S := o.size.trans S; replace D := o.defers.trans D
  replace H2 := Slim.stays o H2 (by decide)
  replace H3 := Slim.stays o H3 (by decide)
  replace H5 := Slim.stays o H5 (by decide)
  have H29 : Slim.Has a23 29 true (.bool ((((Ms.numB (bits .and .i64 own 1) (m.slot) (0) (7)) && (Ms.numB (bits .and .i64 own 2) (m.gen) (1) (60000))) && (Ms.numB (bits .and .i64 own 4) (m.frame) (0) (1048576))) && (Ms.numB (bits .and .i64 own 8) (m.code) (0) (9)))) := o.here
  clear H28
  clear o
  refine Slim.val_g (t := 30) (c := (true && (((((Ms.numB (bits .and .i64 own 1) (m.slot) (0) (7)) && (Ms.numB (bits .and .i64 own 2) (m.gen) (1) (60000))) && (Ms.numB (bits .and .i64 own 4) (m.frame) (0) (1048576))) && (Ms.numB (bits .and .i64 own 8) (m.code) (0) (9))) == true))) (v := .func (.func 55) #[] #[.pointer (some ⟨O, 0, none⟩)]) rfl (by rw [S]; decide) (Slim.wanted_g rfl rfl H29) (Slim.move_g rfl H5 (fun _ => rfl)) fun a24 o => ?_
  replace S := o.size.trans S; replace D := o.defers.trans D
  replace H2 := Slim.stays o H2 (by decide)
  replace H3 := Slim.stays o H3 (by decide)
  replace H5 := Slim.stays o H5 (by decide)
  replace H29 := Slim.stays o H29 (by decide)
  have H30 : Slim.Has a24 30 (true && (((((Ms.numB (bits .and .i64 own 1) (m.slot) (0) (7)) && (Ms.numB (bits .and .i64 own 2) (m.gen) (1) (60000))) && (Ms.numB (bits .and .i64 own 4) (m.frame) (0) (1048576))) && (Ms.numB (bits .and .i64 own 8) (m.code) (0) (9))) == true)) (.func (.func 55) #[] #[.pointer (some ⟨O, 0, none⟩)]) := o.here
  clear o
  refine Slim.val_g (t := 31) (c := (true && (((((Ms.numB (bits .and .i64 own 1) (m.slot) (0) (7)) && (Ms.numB (bits .and .i64 own 2) (m.gen) (1) (60000))) && (Ms.numB (bits .and .i64 own 4) (m.frame) (0) (1048576))) && (Ms.numB (bits .and .i64 own 8) (m.code) (0) (9))) == true))) (v := .pointer (some ⟨B, 9, none⟩)) rfl (by rw [S]; decide) (Slim.wanted_g rfl rfl H29) (Slim.field_g rfl H3 (fun _ => rfl) (by go_simp; first | done | rfl)) fun a25 o => ?_
  replace S := o.size.trans S; replace D := o.defers.trans D
  replace H2 := Slim.stays o H2 (by decide)
  replace H3 := Slim.stays o H3 (by decide)
  replace H5 := Slim.stays o H5 (by decide)
  replace H29 := Slim.stays o H29 (by decide)
  replace H30 := Slim.stays o H30 (by decide)
  have H31 : Slim.Has a25 31 (true && (((((Ms.numB (bits .and .i64 own 1) (m.slot) (0) (7)) && (Ms.numB (bits .and .i64 own 2) (m.gen) (1) (60000))) && (Ms.numB (bits .and .i64 own 4) (m.frame) (0) (1048576))) && (Ms.numB (bits .and .i64 own 8) (m.code) (0) (9))) == true)) (.pointer (some ⟨B, 9, none⟩)) := o.here
  clear o
  refine Slim.val_g (t := 32) (c := (true && (((((Ms.numB (bits .and .i64 own 1) (m.slot) (0) (7)) && (Ms.numB (bits .and .i64 own 2) (m.gen) (1) (60000))) && (Ms.numB (bits .and .i64 own 4) (m.frame) (0) (1048576))) && (Ms.numB (bits .and .i64 own 8) (m.code) (0) (9))) == true))) (v := .int .i64 m.n) rfl (by rw [S]; decide) (Slim.wanted_g rfl rfl H29) (Slim.load_g rfl H31 (fun h => h) (by have k := BX.out.cell 9; go_simp; first | done | rfl)) fun a26 o => ?_
  replace S := o.size.trans S; replace D := o.defers.trans D
  replace H2 := Slim.stays o H2 (by decide)
  replace H3 := Slim.stays o H3 (by decide)
  replace H5 := Slim.stays o H5 (by decide)
  replace H29 := Slim.stays o H29 (by decide)
  replace H30 := Slim.stays o H30 (by decide)
  have H32 : Slim.Has a26 32 (true && (((((Ms.numB (bits .and .i64 own 1) (m.slot) (0) (7)) && (Ms.numB (bits .and .i64 own 2) (m.gen) (1) (60000))) && (Ms.numB (bits .and .i64 own 4) (m.frame) (0) (1048576))) && (Ms.numB (bits .and .i64 own 8) (m.code) (0) (9))) == true)) (.int .i64 m.n) := o.here
  clear H31
  clear o
  refine Slim.call0_g (t := 33) (c := (true && (((((Ms.numB (bits .and .i64 own 1) (m.slot) (0) (7)) && (Ms.numB (bits .and .i64 own 2) (m.gen) (1) (60000))) && (Ms.numB (bits .and .i64 own 4) (m.frame) (0) (1048576))) && (Ms.numB (bits .and .i64 own 8) (m.code) (0) (9))) == true))) (v := .bool (Ms.numB (bits .and .i64 own 16) (m.n) (0) (65535))) rfl (by rw [S]; decide) (Slim.wanted_g rfl rfl H29) (Slim.callv_g (f := 55) (xs := [.const (.int .i64 16), .tmp 32, .const (.int .i64 0), .const (.int .i64 65535)]) (vs := [.int .i64 16, .int .i64 m.n, .int .i64 0, .int .i64 65535]) (args := #[.int .i64 16, .int .i64 m.n, .int .i64 0, .int .i64 65535, .pointer (some ⟨O, 0, none⟩)]) rfl H30 (fun h => h) (fun h0 => by simp only [List.map_cons, List.map_nil, Slim.pres H32 ((fun h => h) h0)]; rfl) rfl (by go_simp; first | done | rfl)) (fun _ => number_any own 16 (m.n) (0) (65535) O _ BO.out) fun a27 o => ?_
  replace S := o.size.trans S; replace D := o.defers.trans D
  replace H2 := Slim.stays o H2 (by decide)
  replace H3 := Slim.stays o H3 (by decide)
  replace H5 := Slim.stays o H5 (by decide)
  replace H29 := Slim.stays o H29 (by decide)
  have H33 : Slim.Has a27 33 (true && (((((Ms.numB (bits .and .i64 own 1) (m.slot) (0) (7)) && (Ms.numB (bits .and .i64 own 2) (m.gen) (1) (60000))) && (Ms.numB (bits .and .i64 own 4) (m.frame) (0) (1048576))) && (Ms.numB (bits .and .i64 own 8) (m.code) (0) (9))) == true)) (.bool (Ms.numB (bits .and .i64 own 16) (m.n) (0) (65535))) := o.here
  clear H30
  clear H32
  clear o
  refine Slim.val_g (t := 34) (c := true) (v := .bool (((((Ms.numB (bits .and .i64 own 1) (m.slot) (0) (7)) && (Ms.numB (bits .and .i64 own 2) (m.gen) (1) (60000))) && (Ms.numB (bits .and .i64 own 4) (m.frame) (0) (1048576))) && (Ms.numB (bits .and .i64 own 8) (m.code) (0) (9))) && (Ms.numB (bits .and .i64 own 16) (m.n) (0) (65535)))) rfl (by rw [S]; decide) (Slim.wants_all rfl) (Slim.and_g rfl H29 H33 (fun h => h) (fun h1 h2 => Bool.and_eq_true_iff.2 ⟨h1, by rw [h2]; rfl⟩)) fun a28 o => ?_
  replace S := o.size.trans S; replace D := o.defers.trans D
  replace H2 := Slim.stays o H2 (by decide)
  replace H3 := Slim.stays o H3 (by decide)
  replace H5 := Slim.stays o H5 (by decide)
  have H34 : Slim.Has a28 34 true (.bool (((((Ms.numB (bits .and .i64 own 1) (m.slot) (0) (7)) && (Ms.numB (bits .and .i64 own 2) (m.gen) (1) (60000))) && (Ms.numB (bits .and .i64 own 4) (m.frame) (0) (1048576))) && (Ms.numB (bits .and .i64 own 8) (m.code) (0) (9))) && (Ms.numB (bits .and .i64 own 16) (m.n) (0) (65535)))) := o.here
  clear H29
  clear H33
  clear o
  refine Slim.val_g (t := 35) (c := true) (v := .bool (((((Ms.numB (bits .and .i64 own 1) (m.slot) (0) (7)) && (Ms.numB (bits .and .i64 own 2) (m.gen) (1) (60000))) && (Ms.numB (bits .and .i64 own 4) (m.frame) (0) (1048576))) && (Ms.numB (bits .and .i64 own 8) (m.code) (0) (9))) && (Ms.numB (bits .and .i64 own 16) (m.n) (0) (65535)))) rfl (by rw [S]; decide) (Slim.wants_all rfl) (Slim.move_g rfl H34 (fun h => h)) fun a29 o => ?_
  replace S := o.size.trans S; replace D := o.defers.trans D
  replace H2 := Slim.stays o H2 (by decide)
  replace H3 := Slim.stays o H3 (by decide)
  replace H5 := Slim.stays o H5 (by decide)
  have H35 : Slim.Has a29 35 true (.bool (((((Ms.numB (bits .and .i64 own 1) (m.slot) (0) (7)) && (Ms.numB (bits .and .i64 own 2) (m.gen) (1) (60000))) && (Ms.numB (bits .and .i64 own 4) (m.frame) (0) (1048576))) && (Ms.numB (bits .and .i64 own 8) (m.code) (0) (9))) && (Ms.numB (bits .and .i64 own 16) (m.n) (0) (65535)))) := o.here
  clear H34
  clear o
  refine Slim.val_g (t := 36) (c := (true && ((((((Ms.numB (bits .and .i64 own 1) (m.slot) (0) (7)) && (Ms.numB (bits .and .i64 own 2) (m.gen) (1) (60000))) && (Ms.numB (bits .and .i64 own 4) (m.frame) (0) (1048576))) && (Ms.numB (bits .and .i64 own 8) (m.code) (0) (9))) && (Ms.numB (bits .and .i64 own 16) (m.n) (0) (65535))) == true))) (v := .func (.func 55) #[] #[.pointer (some ⟨O, 0, none⟩)]) rfl (by rw [S]; decide) (Slim.wanted_g rfl rfl H35) (Slim.move_g rfl H5 (fun _ => rfl)) fun a30 o => ?_
  replace S := o.size.trans S; replace D := o.defers.trans D
  replace H2 := Slim.stays o H2 (by decide)
  replace H3 := Slim.stays o H3 (by decide)
  replace H5 := Slim.stays o H5 (by decide)
  replace H35 := Slim.stays o H35 (by decide)
  have H36 : Slim.Has a30 36 (true && ((((((Ms.numB (bits .and .i64 own 1) (m.slot) (0) (7)) && (Ms.numB (bits .and .i64 own 2) (m.gen) (1) (60000))) && (Ms.numB (bits .and .i64 own 4) (m.frame) (0) (1048576))) && (Ms.numB (bits .and .i64 own 8) (m.code) (0) (9))) && (Ms.numB (bits .and .i64 own 16) (m.n) (0) (65535))) == true)) (.func (.func 55) #[] #[.pointer (some ⟨O, 0, none⟩)]) := o.here
  clear o
  refine Slim.val_g (t := 37) (c := (true && ((((((Ms.numB (bits .and .i64 own 1) (m.slot) (0) (7)) && (Ms.numB (bits .and .i64 own 2) (m.gen) (1) (60000))) && (Ms.numB (bits .and .i64 own 4) (m.frame) (0) (1048576))) && (Ms.numB (bits .and .i64 own 8) (m.code) (0) (9))) && (Ms.numB (bits .and .i64 own 16) (m.n) (0) (65535))) == true))) (v := .pointer (some ⟨B, 10, none⟩)) rfl (by rw [S]; decide) (Slim.wanted_g rfl rfl H35) (Slim.field_g rfl H3 (fun _ => rfl) (by go_simp; first | done | rfl)) fun a31 o => ?_
  replace S := o.size.trans S; replace D := o.defers.trans D
  replace H2 := Slim.stays o H2 (by decide)
  replace H3 := Slim.stays o H3 (by decide)
  replace H5 := Slim.stays o H5 (by decide)
  replace H35 := Slim.stays o H35 (by decide)
  replace H36 := Slim.stays o H36 (by decide)
  have H37 : Slim.Has a31 37 (true && ((((((Ms.numB (bits .and .i64 own 1) (m.slot) (0) (7)) && (Ms.numB (bits .and .i64 own 2) (m.gen) (1) (60000))) && (Ms.numB (bits .and .i64 own 4) (m.frame) (0) (1048576))) && (Ms.numB (bits .and .i64 own 8) (m.code) (0) (9))) && (Ms.numB (bits .and .i64 own 16) (m.n) (0) (65535))) == true)) (.pointer (some ⟨B, 10, none⟩)) := o.here
  clear o
  refine Slim.val_g (t := 38) (c := (true && ((((((Ms.numB (bits .and .i64 own 1) (m.slot) (0) (7)) && (Ms.numB (bits .and .i64 own 2) (m.gen) (1) (60000))) && (Ms.numB (bits .and .i64 own 4) (m.frame) (0) (1048576))) && (Ms.numB (bits .and .i64 own 8) (m.code) (0) (9))) && (Ms.numB (bits .and .i64 own 16) (m.n) (0) (65535))) == true))) (v := .int .i64 m.of) rfl (by rw [S]; decide) (Slim.wanted_g rfl rfl H35) (Slim.load_g rfl H37 (fun h => h) (by have k := BX.out.cell 10; go_simp; first | done | rfl)) fun a32 o => ?_
  replace S := o.size.trans S; replace D := o.defers.trans D
  replace H2 := Slim.stays o H2 (by decide)
  replace H3 := Slim.stays o H3 (by decide)
  replace H5 := Slim.stays o H5 (by decide)
  replace H35 := Slim.stays o H35 (by decide)
  replace H36 := Slim.stays o H36 (by decide)
  have H38 : Slim.Has a32 38 (true && ((((((Ms.numB (bits .and .i64 own 1) (m.slot) (0) (7)) && (Ms.numB (bits .and .i64 own 2) (m.gen) (1) (60000))) && (Ms.numB (bits .and .i64 own 4) (m.frame) (0) (1048576))) && (Ms.numB (bits .and .i64 own 8) (m.code) (0) (9))) && (Ms.numB (bits .and .i64 own 16) (m.n) (0) (65535))) == true)) (.int .i64 m.of) := o.here
  clear H37
  clear o
  refine Slim.val_g (t := 39) (c := (true && ((((((Ms.numB (bits .and .i64 own 1) (m.slot) (0) (7)) && (Ms.numB (bits .and .i64 own 2) (m.gen) (1) (60000))) && (Ms.numB (bits .and .i64 own 4) (m.frame) (0) (1048576))) && (Ms.numB (bits .and .i64 own 8) (m.code) (0) (9))) && (Ms.numB (bits .and .i64 own 16) (m.n) (0) (65535))) == true))) (v := .pointer (some ⟨B, 9, none⟩)) rfl (by rw [S]; decide) (Slim.wanted_g rfl rfl H35) (Slim.field_g rfl H3 (fun _ => rfl) (by go_simp; first | done | rfl)) fun a33 o => ?_
  replace S := o.size.trans S; replace D := o.defers.trans D
  replace H2 := Slim.stays o H2 (by decide)
  replace H3 := Slim.stays o H3 (by decide)
  replace H5 := Slim.stays o H5 (by decide)
  replace H35 := Slim.stays o H35 (by decide)
  replace H36 := Slim.stays o H36 (by decide)
  replace H38 := Slim.stays o H38 (by decide)
  have H39 : Slim.Has a33 39 (true && ((((((Ms.numB (bits .and .i64 own 1) (m.slot) (0) (7)) && (Ms.numB (bits .and .i64 own 2) (m.gen) (1) (60000))) && (Ms.numB (bits .and .i64 own 4) (m.frame) (0) (1048576))) && (Ms.numB (bits .and .i64 own 8) (m.code) (0) (9))) && (Ms.numB (bits .and .i64 own 16) (m.n) (0) (65535))) == true)) (.pointer (some ⟨B, 9, none⟩)) := o.here
  clear o
  refine Slim.val_g (t := 40) (c := (true && ((((((Ms.numB (bits .and .i64 own 1) (m.slot) (0) (7)) && (Ms.numB (bits .and .i64 own 2) (m.gen) (1) (60000))) && (Ms.numB (bits .and .i64 own 4) (m.frame) (0) (1048576))) && (Ms.numB (bits .and .i64 own 8) (m.code) (0) (9))) && (Ms.numB (bits .and .i64 own 16) (m.n) (0) (65535))) == true))) (v := .int .i64 m.n) rfl (by rw [S]; decide) (Slim.wanted_g rfl rfl H35) (Slim.load_g rfl H39 (fun h => h) (by have k := BX.out.cell 9; go_simp; first | done | rfl)) fun a34 o => ?_
  replace S := o.size.trans S; replace D := o.defers.trans D
  replace H2 := Slim.stays o H2 (by decide)
  replace H3 := Slim.stays o H3 (by decide)
  replace H5 := Slim.stays o H5 (by decide)
  replace H35 := Slim.stays o H35 (by decide)
  replace H36 := Slim.stays o H36 (by decide)
  replace H38 := Slim.stays o H38 (by decide)
  have H40 : Slim.Has a34 40 (true && ((((((Ms.numB (bits .and .i64 own 1) (m.slot) (0) (7)) && (Ms.numB (bits .and .i64 own 2) (m.gen) (1) (60000))) && (Ms.numB (bits .and .i64 own 4) (m.frame) (0) (1048576))) && (Ms.numB (bits .and .i64 own 8) (m.code) (0) (9))) && (Ms.numB (bits .and .i64 own 16) (m.n) (0) (65535))) == true)) (.int .i64 m.n) := o.here
  clear H39
  clear o
  refine Slim.val_g (t := 41) (c := (true && ((((((Ms.numB (bits .and .i64 own 1) (m.slot) (0) (7)) && (Ms.numB (bits .and .i64 own 2) (m.gen) (1) (60000))) && (Ms.numB (bits .and .i64 own 4) (m.frame) (0) (1048576))) && (Ms.numB (bits .and .i64 own 8) (m.code) (0) (9))) && (Ms.numB (bits .and .i64 own 16) (m.n) (0) (65535))) == true))) (v := .int .i64 (IntKind.i64.wrap (m.n + 1))) rfl (by rw [S]; decide) (Slim.wanted_g rfl rfl H35) (Slim.bin_g rfl H40 (fun h => h) (fun _ _ => by go_simp)) fun a35 o => ?_
  replace S := o.size.trans S; replace D := o.defers.trans D
  replace H2 := Slim.stays o H2 (by decide)
  replace H3 := Slim.stays o H3 (by decide)
  replace H5 := Slim.stays o H5 (by decide)
  replace H35 := Slim.stays o H35 (by decide)
  replace H36 := Slim.stays o H36 (by decide)
  replace H38 := Slim.stays o H38 (by decide)
  have H41 : Slim.Has a35 41 (true && ((((((Ms.numB (bits .and .i64 own 1) (m.slot) (0) (7)) && (Ms.numB (bits .and .i64 own 2) (m.gen) (1) (60000))) && (Ms.numB (bits .and .i64 own 4) (m.frame) (0) (1048576))) && (Ms.numB (bits .and .i64 own 8) (m.code) (0) (9))) && (Ms.numB (bits .and .i64 own 16) (m.n) (0) (65535))) == true)) (.int .i64 (IntKind.i64.wrap (m.n + 1))) := o.here
  clear H40
  clear o
  refine Slim.call0_g (t := 42) (c := (true && ((((((Ms.numB (bits .and .i64 own 1) (m.slot) (0) (7)) && (Ms.numB (bits .and .i64 own 2) (m.gen) (1) (60000))) && (Ms.numB (bits .and .i64 own 4) (m.frame) (0) (1048576))) && (Ms.numB (bits .and .i64 own 8) (m.code) (0) (9))) && (Ms.numB (bits .and .i64 own 16) (m.n) (0) (65535))) == true))) (v := .bool (Ms.numB (bits .and .i64 own 32) (m.of) ((IntKind.i64.wrap (m.n + 1))) (65535))) rfl (by rw [S]; decide) (Slim.wanted_g rfl rfl H35) (Slim.callv_g (f := 55) (xs := [.const (.int .i64 32), .tmp 38, .tmp 41, .const (.int .i64 65535)]) (vs := [.int .i64 32, .int .i64 m.of, .int .i64 (IntKind.i64.wrap (m.n + 1)), .int .i64 65535]) (args := #[.int .i64 32, .int .i64 m.of, .int .i64 (IntKind.i64.wrap (m.n + 1)), .int .i64 65535, .pointer (some ⟨O, 0, none⟩)]) rfl H36 (fun h => h) (fun h0 => by simp only [List.map_cons, List.map_nil, Slim.pres H38 ((fun h => h) h0), Slim.pres H41 ((fun h => h) h0)]; rfl) rfl (by go_simp; first | done | rfl)) (fun _ => number_any own 32 (m.of) ((IntKind.i64.wrap (m.n + 1))) (65535) O _ BO.out) fun a36 o => ?_
  replace S := o.size.trans S; replace D := o.defers.trans D
  replace H2 := Slim.stays o H2 (by decide)
  replace H3 := Slim.stays o H3 (by decide)
  replace H5 := Slim.stays o H5 (by decide)
  replace H35 := Slim.stays o H35 (by decide)
  have H42 : Slim.Has a36 42 (true && ((((((Ms.numB (bits .and .i64 own 1) (m.slot) (0) (7)) && (Ms.numB (bits .and .i64 own 2) (m.gen) (1) (60000))) && (Ms.numB (bits .and .i64 own 4) (m.frame) (0) (1048576))) && (Ms.numB (bits .and .i64 own 8) (m.code) (0) (9))) && (Ms.numB (bits .and .i64 own 16) (m.n) (0) (65535))) == true)) (.bool (Ms.numB (bits .and .i64 own 32) (m.of) ((IntKind.i64.wrap (m.n + 1))) (65535))) := o.here
  clear H36
  clear H38
  clear H41
  clear o
  refine Slim.val_g (t := 43) (c := true) (v := .bool ((((((Ms.numB (bits .and .i64 own 1) (m.slot) (0) (7)) && (Ms.numB (bits .and .i64 own 2) (m.gen) (1) (60000))) && (Ms.numB (bits .and .i64 own 4) (m.frame) (0) (1048576))) && (Ms.numB (bits .and .i64 own 8) (m.code) (0) (9))) && (Ms.numB (bits .and .i64 own 16) (m.n) (0) (65535))) && (Ms.numB (bits .and .i64 own 32) (m.of) ((IntKind.i64.wrap (m.n + 1))) (65535)))) rfl (by rw [S]; decide) (Slim.wants_all rfl) (Slim.and_g rfl H35 H42 (fun h => h) (fun h1 h2 => Bool.and_eq_true_iff.2 ⟨h1, by rw [h2]; rfl⟩)) fun a37 o => ?_
  replace S := o.size.trans S; replace D := o.defers.trans D
  replace H2 := Slim.stays o H2 (by decide)
  replace H3 := Slim.stays o H3 (by decide)
  replace H5 := Slim.stays o H5 (by decide)
  have H43 : Slim.Has a37 43 true (.bool ((((((Ms.numB (bits .and .i64 own 1) (m.slot) (0) (7)) && (Ms.numB (bits .and .i64 own 2) (m.gen) (1) (60000))) && (Ms.numB (bits .and .i64 own 4) (m.frame) (0) (1048576))) && (Ms.numB (bits .and .i64 own 8) (m.code) (0) (9))) && (Ms.numB (bits .and .i64 own 16) (m.n) (0) (65535))) && (Ms.numB (bits .and .i64 own 32) (m.of) ((IntKind.i64.wrap (m.n + 1))) (65535)))) := o.here
  clear H35
  clear H42
  clear o
  refine Slim.val_g (t := 44) (c := true) (v := .bool ((((((Ms.numB (bits .and .i64 own 1) (m.slot) (0) (7)) && (Ms.numB (bits .and .i64 own 2) (m.gen) (1) (60000))) && (Ms.numB (bits .and .i64 own 4) (m.frame) (0) (1048576))) && (Ms.numB (bits .and .i64 own 8) (m.code) (0) (9))) && (Ms.numB (bits .and .i64 own 16) (m.n) (0) (65535))) && (Ms.numB (bits .and .i64 own 32) (m.of) ((IntKind.i64.wrap (m.n + 1))) (65535)))) rfl (by rw [S]; decide) (Slim.wants_all rfl) (Slim.move_g rfl H43 (fun h => h)) fun a38 o => ?_
  replace S := o.size.trans S; replace D := o.defers.trans D
  replace H2 := Slim.stays o H2 (by decide)
  replace H3 := Slim.stays o H3 (by decide)
  replace H5 := Slim.stays o H5 (by decide)
  have H44 : Slim.Has a38 44 true (.bool ((((((Ms.numB (bits .and .i64 own 1) (m.slot) (0) (7)) && (Ms.numB (bits .and .i64 own 2) (m.gen) (1) (60000))) && (Ms.numB (bits .and .i64 own 4) (m.frame) (0) (1048576))) && (Ms.numB (bits .and .i64 own 8) (m.code) (0) (9))) && (Ms.numB (bits .and .i64 own 16) (m.n) (0) (65535))) && (Ms.numB (bits .and .i64 own 32) (m.of) ((IntKind.i64.wrap (m.n + 1))) (65535)))) := o.here
  clear H43
  clear o
  refine Slim.val_g (t := 45) (c := (true && (((((((Ms.numB (bits .and .i64 own 1) (m.slot) (0) (7)) && (Ms.numB (bits .and .i64 own 2) (m.gen) (1) (60000))) && (Ms.numB (bits .and .i64 own 4) (m.frame) (0) (1048576))) && (Ms.numB (bits .and .i64 own 8) (m.code) (0) (9))) && (Ms.numB (bits .and .i64 own 16) (m.n) (0) (65535))) && (Ms.numB (bits .and .i64 own 32) (m.of) ((IntKind.i64.wrap (m.n + 1))) (65535))) == true))) (v := .int .i64 own) rfl (by rw [S]; decide) (Slim.wanted_g rfl rfl H44) (Slim.load_g rfl H2 (fun _ => rfl) (by have k := BO.out.cell 0; go_simp; first | done | rfl)) fun a39 o => ?_
  replace S := o.size.trans S; replace D := o.defers.trans D
  replace H2 := Slim.stays o H2 (by decide)
  replace H3 := Slim.stays o H3 (by decide)
  replace H5 := Slim.stays o H5 (by decide)
  replace H44 := Slim.stays o H44 (by decide)
  have H45 : Slim.Has a39 45 (true && (((((((Ms.numB (bits .and .i64 own 1) (m.slot) (0) (7)) && (Ms.numB (bits .and .i64 own 2) (m.gen) (1) (60000))) && (Ms.numB (bits .and .i64 own 4) (m.frame) (0) (1048576))) && (Ms.numB (bits .and .i64 own 8) (m.code) (0) (9))) && (Ms.numB (bits .and .i64 own 16) (m.n) (0) (65535))) && (Ms.numB (bits .and .i64 own 32) (m.of) ((IntKind.i64.wrap (m.n + 1))) (65535))) == true)) (.int .i64 own) := o.here
  clear o
  refine Slim.val_g (t := 46) (c := (true && (((((((Ms.numB (bits .and .i64 own 1) (m.slot) (0) (7)) && (Ms.numB (bits .and .i64 own 2) (m.gen) (1) (60000))) && (Ms.numB (bits .and .i64 own 4) (m.frame) (0) (1048576))) && (Ms.numB (bits .and .i64 own 8) (m.code) (0) (9))) && (Ms.numB (bits .and .i64 own 16) (m.n) (0) (65535))) && (Ms.numB (bits .and .i64 own 32) (m.of) ((IntKind.i64.wrap (m.n + 1))) (65535))) == true))) (v := .int .i64 (bits .and .i64 own 64)) rfl (by rw [S]; decide) (Slim.wanted_g rfl rfl H44) (Slim.andc_g rfl H45 (fun h => h)) fun a40 o => ?_
  replace S := o.size.trans S; replace D := o.defers.trans D
  replace H2 := Slim.stays o H2 (by decide)
  replace H3 := Slim.stays o H3 (by decide)
  replace H5 := Slim.stays o H5 (by decide)
  replace H44 := Slim.stays o H44 (by decide)
  have H46 : Slim.Has a40 46 (true && (((((((Ms.numB (bits .and .i64 own 1) (m.slot) (0) (7)) && (Ms.numB (bits .and .i64 own 2) (m.gen) (1) (60000))) && (Ms.numB (bits .and .i64 own 4) (m.frame) (0) (1048576))) && (Ms.numB (bits .and .i64 own 8) (m.code) (0) (9))) && (Ms.numB (bits .and .i64 own 16) (m.n) (0) (65535))) && (Ms.numB (bits .and .i64 own 32) (m.of) ((IntKind.i64.wrap (m.n + 1))) (65535))) == true)) (.int .i64 (bits .and .i64 own 64)) := o.here
  clear H45
  clear o
  refine Slim.val_g (t := 47) (c := (true && (((((((Ms.numB (bits .and .i64 own 1) (m.slot) (0) (7)) && (Ms.numB (bits .and .i64 own 2) (m.gen) (1) (60000))) && (Ms.numB (bits .and .i64 own 4) (m.frame) (0) (1048576))) && (Ms.numB (bits .and .i64 own 8) (m.code) (0) (9))) && (Ms.numB (bits .and .i64 own 16) (m.n) (0) (65535))) && (Ms.numB (bits .and .i64 own 32) (m.of) ((IntKind.i64.wrap (m.n + 1))) (65535))) == true))) (v := .bool ((bits .and .i64 own 64) != 0)) rfl (by rw [S]; decide) (Slim.wanted_g rfl rfl H44) (Slim.bin_g rfl H46 (fun h => h) (fun _ _ => Slim.cmp_neq)) fun a41 o => ?_
  replace S := o.size.trans S; replace D := o.defers.trans D
  replace H2 := Slim.stays o H2 (by decide)
  replace H3 := Slim.stays o H3 (by decide)
  replace H5 := Slim.stays o H5 (by decide)
  replace H44 := Slim.stays o H44 (by decide)
  have H47 : Slim.Has a41 47 (true && (((((((Ms.numB (bits .and .i64 own 1) (m.slot) (0) (7)) && (Ms.numB (bits .and .i64 own 2) (m.gen) (1) (60000))) && (Ms.numB (bits .and .i64 own 4) (m.frame) (0) (1048576))) && (Ms.numB (bits .and .i64 own 8) (m.code) (0) (9))) && (Ms.numB (bits .and .i64 own 16) (m.n) (0) (65535))) && (Ms.numB (bits .and .i64 own 32) (m.of) ((IntKind.i64.wrap (m.n + 1))) (65535))) == true)) (.bool ((bits .and .i64 own 64) != 0)) := o.here
  clear H46
  clear o
  refine Slim.val_g (t := 48) (c := (true && (((((((Ms.numB (bits .and .i64 own 1) (m.slot) (0) (7)) && (Ms.numB (bits .and .i64 own 2) (m.gen) (1) (60000))) && (Ms.numB (bits .and .i64 own 4) (m.frame) (0) (1048576))) && (Ms.numB (bits .and .i64 own 8) (m.code) (0) (9))) && (Ms.numB (bits .and .i64 own 16) (m.n) (0) (65535))) && (Ms.numB (bits .and .i64 own 32) (m.of) ((IntKind.i64.wrap (m.n + 1))) (65535))) == true))) (v := .bool ((bits .and .i64 own 64) != 0)) rfl (by rw [S]; decide) (Slim.wanted_g rfl rfl H44) (Slim.move_g rfl H47 (fun h => h)) fun a42 o => ?_
  replace S := o.size.trans S; replace D := o.defers.trans D
  replace H2 := Slim.stays o H2 (by decide)
  replace H3 := Slim.stays o H3 (by decide)
  replace H5 := Slim.stays o H5 (by decide)
  replace H44 := Slim.stays o H44 (by decide)
  have H48 : Slim.Has a42 48 (true && (((((((Ms.numB (bits .and .i64 own 1) (m.slot) (0) (7)) && (Ms.numB (bits .and .i64 own 2) (m.gen) (1) (60000))) && (Ms.numB (bits .and .i64 own 4) (m.frame) (0) (1048576))) && (Ms.numB (bits .and .i64 own 8) (m.code) (0) (9))) && (Ms.numB (bits .and .i64 own 16) (m.n) (0) (65535))) && (Ms.numB (bits .and .i64 own 32) (m.of) ((IntKind.i64.wrap (m.n + 1))) (65535))) == true)) (.bool ((bits .and .i64 own 64) != 0)) := o.here
  clear H47
  clear o
  refine Slim.val_g (t := 49) (c := ((true && (((((((Ms.numB (bits .and .i64 own 1) (m.slot) (0) (7)) && (Ms.numB (bits .and .i64 own 2) (m.gen) (1) (60000))) && (Ms.numB (bits .and .i64 own 4) (m.frame) (0) (1048576))) && (Ms.numB (bits .and .i64 own 8) (m.code) (0) (9))) && (Ms.numB (bits .and .i64 own 16) (m.n) (0) (65535))) && (Ms.numB (bits .and .i64 own 32) (m.of) ((IntKind.i64.wrap (m.n + 1))) (65535))) == true)) && (((bits .and .i64 own 64) != 0) == false))) (v := .pointer (some ⟨B, 11, none⟩)) rfl (by rw [S]; decide) (Slim.wanted_g rfl rfl H48) (Slim.field_g rfl H3 (fun _ => rfl) (by go_simp; first | done | rfl)) fun a43 o => ?_
  replace S := o.size.trans S; replace D := o.defers.trans D
  replace H2 := Slim.stays o H2 (by decide)
  replace H3 := Slim.stays o H3 (by decide)
  replace H5 := Slim.stays o H5 (by decide)
  replace H44 := Slim.stays o H44 (by decide)
  replace H48 := Slim.stays o H48 (by decide)
  have H49 : Slim.Has a43 49 ((true && (((((((Ms.numB (bits .and .i64 own 1) (m.slot) (0) (7)) && (Ms.numB (bits .and .i64 own 2) (m.gen) (1) (60000))) && (Ms.numB (bits .and .i64 own 4) (m.frame) (0) (1048576))) && (Ms.numB (bits .and .i64 own 8) (m.code) (0) (9))) && (Ms.numB (bits .and .i64 own 16) (m.n) (0) (65535))) && (Ms.numB (bits .and .i64 own 32) (m.of) ((IntKind.i64.wrap (m.n + 1))) (65535))) == true)) && (((bits .and .i64 own 64) != 0) == false)) (.pointer (some ⟨B, 11, none⟩)) := o.here
  clear o
  refine Slim.val_g (t := 50) (c := ((true && (((((((Ms.numB (bits .and .i64 own 1) (m.slot) (0) (7)) && (Ms.numB (bits .and .i64 own 2) (m.gen) (1) (60000))) && (Ms.numB (bits .and .i64 own 4) (m.frame) (0) (1048576))) && (Ms.numB (bits .and .i64 own 8) (m.code) (0) (9))) && (Ms.numB (bits .and .i64 own 16) (m.n) (0) (65535))) && (Ms.numB (bits .and .i64 own 32) (m.of) ((IntKind.i64.wrap (m.n + 1))) (65535))) == true)) && (((bits .and .i64 own 64) != 0) == false))) (v := .int .u32 m.bits) rfl (by rw [S]; decide) (Slim.wanted_g rfl rfl H48) (Slim.load_g rfl H49 (fun h => h) (by have k := BX.out.cell 11; go_simp; first | done | rfl)) fun a44 o => ?_
  replace S := o.size.trans S; replace D := o.defers.trans D
  replace H2 := Slim.stays o H2 (by decide)
  replace H3 := Slim.stays o H3 (by decide)
  replace H5 := Slim.stays o H5 (by decide)
  replace H44 := Slim.stays o H44 (by decide)
  replace H48 := Slim.stays o H48 (by decide)
  have H50 : Slim.Has a44 50 ((true && (((((((Ms.numB (bits .and .i64 own 1) (m.slot) (0) (7)) && (Ms.numB (bits .and .i64 own 2) (m.gen) (1) (60000))) && (Ms.numB (bits .and .i64 own 4) (m.frame) (0) (1048576))) && (Ms.numB (bits .and .i64 own 8) (m.code) (0) (9))) && (Ms.numB (bits .and .i64 own 16) (m.n) (0) (65535))) && (Ms.numB (bits .and .i64 own 32) (m.of) ((IntKind.i64.wrap (m.n + 1))) (65535))) == true)) && (((bits .and .i64 own 64) != 0) == false)) (.int .u32 m.bits) := o.here
  clear H49
  clear o
  refine Slim.val_g (t := 51) (c := ((true && (((((((Ms.numB (bits .and .i64 own 1) (m.slot) (0) (7)) && (Ms.numB (bits .and .i64 own 2) (m.gen) (1) (60000))) && (Ms.numB (bits .and .i64 own 4) (m.frame) (0) (1048576))) && (Ms.numB (bits .and .i64 own 8) (m.code) (0) (9))) && (Ms.numB (bits .and .i64 own 16) (m.n) (0) (65535))) && (Ms.numB (bits .and .i64 own 32) (m.of) ((IntKind.i64.wrap (m.n + 1))) (65535))) == true)) && (((bits .and .i64 own 64) != 0) == false))) (v := .bool (m.bits == 0)) rfl (by rw [S]; decide) (Slim.wanted_g rfl rfl H48) (Slim.bin_g rfl H50 (fun h => h) (fun _ _ => Slim.cmp_eql)) fun a45 o => ?_
  replace S := o.size.trans S; replace D := o.defers.trans D
  replace H2 := Slim.stays o H2 (by decide)
  replace H3 := Slim.stays o H3 (by decide)
  replace H5 := Slim.stays o H5 (by decide)
  replace H44 := Slim.stays o H44 (by decide)
  replace H48 := Slim.stays o H48 (by decide)
  have H51 : Slim.Has a45 51 ((true && (((((((Ms.numB (bits .and .i64 own 1) (m.slot) (0) (7)) && (Ms.numB (bits .and .i64 own 2) (m.gen) (1) (60000))) && (Ms.numB (bits .and .i64 own 4) (m.frame) (0) (1048576))) && (Ms.numB (bits .and .i64 own 8) (m.code) (0) (9))) && (Ms.numB (bits .and .i64 own 16) (m.n) (0) (65535))) && (Ms.numB (bits .and .i64 own 32) (m.of) ((IntKind.i64.wrap (m.n + 1))) (65535))) == true)) && (((bits .and .i64 own 64) != 0) == false)) (.bool (m.bits == 0)) := o.here
  clear H50
  clear o
  refine Slim.val_g (t := 52) (c := (true && (((((((Ms.numB (bits .and .i64 own 1) (m.slot) (0) (7)) && (Ms.numB (bits .and .i64 own 2) (m.gen) (1) (60000))) && (Ms.numB (bits .and .i64 own 4) (m.frame) (0) (1048576))) && (Ms.numB (bits .and .i64 own 8) (m.code) (0) (9))) && (Ms.numB (bits .and .i64 own 16) (m.n) (0) (65535))) && (Ms.numB (bits .and .i64 own 32) (m.of) ((IntKind.i64.wrap (m.n + 1))) (65535))) == true))) (v := .bool (((bits .and .i64 own 64) != 0) || (m.bits == 0))) rfl (by rw [S]; decide) (Slim.wanted_g rfl rfl H44) (Slim.or_g rfl H48 H51 (fun h => h) (fun h1 h2 => Bool.and_eq_true_iff.2 ⟨h1, by rw [h2]; rfl⟩)) fun a46 o => ?_
  replace S := o.size.trans S; replace D := o.defers.trans D
  replace H2 := Slim.stays o H2 (by decide)
  replace H3 := Slim.stays o H3 (by decide)
  replace H5 := Slim.stays o H5 (by decide)
  replace H44 := Slim.stays o H44 (by decide)
  have H52 : Slim.Has a46 52 (true && (((((((Ms.numB (bits .and .i64 own 1) (m.slot) (0) (7)) && (Ms.numB (bits .and .i64 own 2) (m.gen) (1) (60000))) && (Ms.numB (bits .and .i64 own 4) (m.frame) (0) (1048576))) && (Ms.numB (bits .and .i64 own 8) (m.code) (0) (9))) && (Ms.numB (bits .and .i64 own 16) (m.n) (0) (65535))) && (Ms.numB (bits .and .i64 own 32) (m.of) ((IntKind.i64.wrap (m.n + 1))) (65535))) == true)) (.bool (((bits .and .i64 own 64) != 0) || (m.bits == 0))) := o.here
  clear H48
  clear H51
  clear o
  refine Slim.val_g (t := 53) (c := true) (v := .bool (((((((Ms.numB (bits .and .i64 own 1) (m.slot) (0) (7)) && (Ms.numB (bits .and .i64 own 2) (m.gen) (1) (60000))) && (Ms.numB (bits .and .i64 own 4) (m.frame) (0) (1048576))) && (Ms.numB (bits .and .i64 own 8) (m.code) (0) (9))) && (Ms.numB (bits .and .i64 own 16) (m.n) (0) (65535))) && (Ms.numB (bits .and .i64 own 32) (m.of) ((IntKind.i64.wrap (m.n + 1))) (65535))) && (((bits .and .i64 own 64) != 0) || (m.bits == 0)))) rfl (by rw [S]; decide) (Slim.wants_all rfl) (Slim.and_g rfl H44 H52 (fun h => h) (fun h1 h2 => Bool.and_eq_true_iff.2 ⟨h1, by rw [h2]; rfl⟩)) fun a47 o => ?_
  replace S := o.size.trans S; replace D := o.defers.trans D
  replace H2 := Slim.stays o H2 (by decide)
  replace H3 := Slim.stays o H3 (by decide)
  replace H5 := Slim.stays o H5 (by decide)
  have H53 : Slim.Has a47 53 true (.bool (((((((Ms.numB (bits .and .i64 own 1) (m.slot) (0) (7)) && (Ms.numB (bits .and .i64 own 2) (m.gen) (1) (60000))) && (Ms.numB (bits .and .i64 own 4) (m.frame) (0) (1048576))) && (Ms.numB (bits .and .i64 own 8) (m.code) (0) (9))) && (Ms.numB (bits .and .i64 own 16) (m.n) (0) (65535))) && (Ms.numB (bits .and .i64 own 32) (m.of) ((IntKind.i64.wrap (m.n + 1))) (65535))) && (((bits .and .i64 own 64) != 0) || (m.bits == 0)))) := o.here
  clear H44
  clear H52
  clear o
  refine Slim.val_g (t := 54) (c := true) (v := .bool (((((((Ms.numB (bits .and .i64 own 1) (m.slot) (0) (7)) && (Ms.numB (bits .and .i64 own 2) (m.gen) (1) (60000))) && (Ms.numB (bits .and .i64 own 4) (m.frame) (0) (1048576))) && (Ms.numB (bits .and .i64 own 8) (m.code) (0) (9))) && (Ms.numB (bits .and .i64 own 16) (m.n) (0) (65535))) && (Ms.numB (bits .and .i64 own 32) (m.of) ((IntKind.i64.wrap (m.n + 1))) (65535))) && (((bits .and .i64 own 64) != 0) || (m.bits == 0)))) rfl (by rw [S]; decide) (Slim.wants_all rfl) (Slim.move_g rfl H53 (fun h => h)) fun a48 o => ?_
  replace S := o.size.trans S; replace D := o.defers.trans D
  replace H2 := Slim.stays o H2 (by decide)
  replace H3 := Slim.stays o H3 (by decide)
  replace H5 := Slim.stays o H5 (by decide)
  have H54 : Slim.Has a48 54 true (.bool (((((((Ms.numB (bits .and .i64 own 1) (m.slot) (0) (7)) && (Ms.numB (bits .and .i64 own 2) (m.gen) (1) (60000))) && (Ms.numB (bits .and .i64 own 4) (m.frame) (0) (1048576))) && (Ms.numB (bits .and .i64 own 8) (m.code) (0) (9))) && (Ms.numB (bits .and .i64 own 16) (m.n) (0) (65535))) && (Ms.numB (bits .and .i64 own 32) (m.of) ((IntKind.i64.wrap (m.n + 1))) (65535))) && (((bits .and .i64 own 64) != 0) || (m.bits == 0)))) := o.here
  clear H53
  clear o
  refine Slim.val_g (t := 55) (c := (true && ((((((((Ms.numB (bits .and .i64 own 1) (m.slot) (0) (7)) && (Ms.numB (bits .and .i64 own 2) (m.gen) (1) (60000))) && (Ms.numB (bits .and .i64 own 4) (m.frame) (0) (1048576))) && (Ms.numB (bits .and .i64 own 8) (m.code) (0) (9))) && (Ms.numB (bits .and .i64 own 16) (m.n) (0) (65535))) && (Ms.numB (bits .and .i64 own 32) (m.of) ((IntKind.i64.wrap (m.n + 1))) (65535))) && (((bits .and .i64 own 64) != 0) || (m.bits == 0))) == true))) (v := .int .i64 own) rfl (by rw [S]; decide) (Slim.wanted_g rfl rfl H54) (Slim.load_g rfl H2 (fun _ => rfl) (by have k := BO.out.cell 0; go_simp; first | done | rfl)) fun a49 o => ?_
  replace S := o.size.trans S; replace D := o.defers.trans D
  replace H3 := Slim.stays o H3 (by decide)
  replace H5 := Slim.stays o H5 (by decide)
  replace H54 := Slim.stays o H54 (by decide)
  have H55 : Slim.Has a49 55 (true && ((((((((Ms.numB (bits .and .i64 own 1) (m.slot) (0) (7)) && (Ms.numB (bits .and .i64 own 2) (m.gen) (1) (60000))) && (Ms.numB (bits .and .i64 own 4) (m.frame) (0) (1048576))) && (Ms.numB (bits .and .i64 own 8) (m.code) (0) (9))) && (Ms.numB (bits .and .i64 own 16) (m.n) (0) (65535))) && (Ms.numB (bits .and .i64 own 32) (m.of) ((IntKind.i64.wrap (m.n + 1))) (65535))) && (((bits .and .i64 own 64) != 0) || (m.bits == 0))) == true)) (.int .i64 own) := o.here
  clear H2
  clear o
  refine Slim.val_g (t := 56) (c := (true && ((((((((Ms.numB (bits .and .i64 own 1) (m.slot) (0) (7)) && (Ms.numB (bits .and .i64 own 2) (m.gen) (1) (60000))) && (Ms.numB (bits .and .i64 own 4) (m.frame) (0) (1048576))) && (Ms.numB (bits .and .i64 own 8) (m.code) (0) (9))) && (Ms.numB (bits .and .i64 own 16) (m.n) (0) (65535))) && (Ms.numB (bits .and .i64 own 32) (m.of) ((IntKind.i64.wrap (m.n + 1))) (65535))) && (((bits .and .i64 own 64) != 0) || (m.bits == 0))) == true))) (v := .int .i64 (bits .and .i64 own 128)) rfl (by rw [S]; decide) (Slim.wanted_g rfl rfl H54) (Slim.andc_g rfl H55 (fun h => h)) fun a50 o => ?_
  replace S := o.size.trans S; replace D := o.defers.trans D
  replace H3 := Slim.stays o H3 (by decide)
  replace H5 := Slim.stays o H5 (by decide)
  replace H54 := Slim.stays o H54 (by decide)
  have H56 : Slim.Has a50 56 (true && ((((((((Ms.numB (bits .and .i64 own 1) (m.slot) (0) (7)) && (Ms.numB (bits .and .i64 own 2) (m.gen) (1) (60000))) && (Ms.numB (bits .and .i64 own 4) (m.frame) (0) (1048576))) && (Ms.numB (bits .and .i64 own 8) (m.code) (0) (9))) && (Ms.numB (bits .and .i64 own 16) (m.n) (0) (65535))) && (Ms.numB (bits .and .i64 own 32) (m.of) ((IntKind.i64.wrap (m.n + 1))) (65535))) && (((bits .and .i64 own 64) != 0) || (m.bits == 0))) == true)) (.int .i64 (bits .and .i64 own 128)) := o.here
  clear H55
  clear o
  refine Slim.val_g (t := 57) (c := (true && ((((((((Ms.numB (bits .and .i64 own 1) (m.slot) (0) (7)) && (Ms.numB (bits .and .i64 own 2) (m.gen) (1) (60000))) && (Ms.numB (bits .and .i64 own 4) (m.frame) (0) (1048576))) && (Ms.numB (bits .and .i64 own 8) (m.code) (0) (9))) && (Ms.numB (bits .and .i64 own 16) (m.n) (0) (65535))) && (Ms.numB (bits .and .i64 own 32) (m.of) ((IntKind.i64.wrap (m.n + 1))) (65535))) && (((bits .and .i64 own 64) != 0) || (m.bits == 0))) == true))) (v := .bool ((bits .and .i64 own 128) != 0)) rfl (by rw [S]; decide) (Slim.wanted_g rfl rfl H54) (Slim.bin_g rfl H56 (fun h => h) (fun _ _ => Slim.cmp_neq)) fun a51 o => ?_
  replace S := o.size.trans S; replace D := o.defers.trans D
  replace H3 := Slim.stays o H3 (by decide)
  replace H5 := Slim.stays o H5 (by decide)
  replace H54 := Slim.stays o H54 (by decide)
  have H57 : Slim.Has a51 57 (true && ((((((((Ms.numB (bits .and .i64 own 1) (m.slot) (0) (7)) && (Ms.numB (bits .and .i64 own 2) (m.gen) (1) (60000))) && (Ms.numB (bits .and .i64 own 4) (m.frame) (0) (1048576))) && (Ms.numB (bits .and .i64 own 8) (m.code) (0) (9))) && (Ms.numB (bits .and .i64 own 16) (m.n) (0) (65535))) && (Ms.numB (bits .and .i64 own 32) (m.of) ((IntKind.i64.wrap (m.n + 1))) (65535))) && (((bits .and .i64 own 64) != 0) || (m.bits == 0))) == true)) (.bool ((bits .and .i64 own 128) != 0)) := o.here
  clear H56
  clear o
  refine Slim.val_g (t := 58) (c := (true && ((((((((Ms.numB (bits .and .i64 own 1) (m.slot) (0) (7)) && (Ms.numB (bits .and .i64 own 2) (m.gen) (1) (60000))) && (Ms.numB (bits .and .i64 own 4) (m.frame) (0) (1048576))) && (Ms.numB (bits .and .i64 own 8) (m.code) (0) (9))) && (Ms.numB (bits .and .i64 own 16) (m.n) (0) (65535))) && (Ms.numB (bits .and .i64 own 32) (m.of) ((IntKind.i64.wrap (m.n + 1))) (65535))) && (((bits .and .i64 own 64) != 0) || (m.bits == 0))) == true))) (v := .bool ((bits .and .i64 own 128) != 0)) rfl (by rw [S]; decide) (Slim.wanted_g rfl rfl H54) (Slim.move_g rfl H57 (fun h => h)) fun a52 o => ?_
  replace S := o.size.trans S; replace D := o.defers.trans D
  replace H3 := Slim.stays o H3 (by decide)
  replace H5 := Slim.stays o H5 (by decide)
  replace H54 := Slim.stays o H54 (by decide)
  have H58 : Slim.Has a52 58 (true && ((((((((Ms.numB (bits .and .i64 own 1) (m.slot) (0) (7)) && (Ms.numB (bits .and .i64 own 2) (m.gen) (1) (60000))) && (Ms.numB (bits .and .i64 own 4) (m.frame) (0) (1048576))) && (Ms.numB (bits .and .i64 own 8) (m.code) (0) (9))) && (Ms.numB (bits .and .i64 own 16) (m.n) (0) (65535))) && (Ms.numB (bits .and .i64 own 32) (m.of) ((IntKind.i64.wrap (m.n + 1))) (65535))) && (((bits .and .i64 own 64) != 0) || (m.bits == 0))) == true)) (.bool ((bits .and .i64 own 128) != 0)) := o.here
  clear H57
  clear o
  refine Slim.val_g (t := 59) (c := ((true && ((((((((Ms.numB (bits .and .i64 own 1) (m.slot) (0) (7)) && (Ms.numB (bits .and .i64 own 2) (m.gen) (1) (60000))) && (Ms.numB (bits .and .i64 own 4) (m.frame) (0) (1048576))) && (Ms.numB (bits .and .i64 own 8) (m.code) (0) (9))) && (Ms.numB (bits .and .i64 own 16) (m.n) (0) (65535))) && (Ms.numB (bits .and .i64 own 32) (m.of) ((IntKind.i64.wrap (m.n + 1))) (65535))) && (((bits .and .i64 own 64) != 0) || (m.bits == 0))) == true)) && (((bits .and .i64 own 128) != 0) == false))) (v := .pointer (some ⟨B, 12, none⟩)) rfl (by rw [S]; decide) (Slim.wanted_g rfl rfl H58) (Slim.field_g rfl H3 (fun _ => rfl) (by go_simp; first | done | rfl)) fun a53 o => ?_
  replace S := o.size.trans S; replace D := o.defers.trans D
  replace H3 := Slim.stays o H3 (by decide)
  replace H5 := Slim.stays o H5 (by decide)
  replace H54 := Slim.stays o H54 (by decide)
  replace H58 := Slim.stays o H58 (by decide)
  have H59 : Slim.Has a53 59 ((true && ((((((((Ms.numB (bits .and .i64 own 1) (m.slot) (0) (7)) && (Ms.numB (bits .and .i64 own 2) (m.gen) (1) (60000))) && (Ms.numB (bits .and .i64 own 4) (m.frame) (0) (1048576))) && (Ms.numB (bits .and .i64 own 8) (m.code) (0) (9))) && (Ms.numB (bits .and .i64 own 16) (m.n) (0) (65535))) && (Ms.numB (bits .and .i64 own 32) (m.of) ((IntKind.i64.wrap (m.n + 1))) (65535))) && (((bits .and .i64 own 64) != 0) || (m.bits == 0))) == true)) && (((bits .and .i64 own 128) != 0) == false)) (.pointer (some ⟨B, 12, none⟩)) := o.here
  clear o
  refine Slim.val_g (t := 60) (c := ((true && ((((((((Ms.numB (bits .and .i64 own 1) (m.slot) (0) (7)) && (Ms.numB (bits .and .i64 own 2) (m.gen) (1) (60000))) && (Ms.numB (bits .and .i64 own 4) (m.frame) (0) (1048576))) && (Ms.numB (bits .and .i64 own 8) (m.code) (0) (9))) && (Ms.numB (bits .and .i64 own 16) (m.n) (0) (65535))) && (Ms.numB (bits .and .i64 own 32) (m.of) ((IntKind.i64.wrap (m.n + 1))) (65535))) && (((bits .and .i64 own 64) != 0) || (m.bits == 0))) == true)) && (((bits .and .i64 own 128) != 0) == false))) (v := .int .u64 m.sum) rfl (by rw [S]; decide) (Slim.wanted_g rfl rfl H58) (Slim.load_g rfl H59 (fun h => h) (by have k := BX.out.cell 12; go_simp; first | done | rfl)) fun a54 o => ?_
  replace S := o.size.trans S; replace D := o.defers.trans D
  replace H3 := Slim.stays o H3 (by decide)
  replace H5 := Slim.stays o H5 (by decide)
  replace H54 := Slim.stays o H54 (by decide)
  replace H58 := Slim.stays o H58 (by decide)
  have H60 : Slim.Has a54 60 ((true && ((((((((Ms.numB (bits .and .i64 own 1) (m.slot) (0) (7)) && (Ms.numB (bits .and .i64 own 2) (m.gen) (1) (60000))) && (Ms.numB (bits .and .i64 own 4) (m.frame) (0) (1048576))) && (Ms.numB (bits .and .i64 own 8) (m.code) (0) (9))) && (Ms.numB (bits .and .i64 own 16) (m.n) (0) (65535))) && (Ms.numB (bits .and .i64 own 32) (m.of) ((IntKind.i64.wrap (m.n + 1))) (65535))) && (((bits .and .i64 own 64) != 0) || (m.bits == 0))) == true)) && (((bits .and .i64 own 128) != 0) == false)) (.int .u64 m.sum) := o.here
  clear H59
  clear o
  refine Slim.val_g (t := 61) (c := ((true && ((((((((Ms.numB (bits .and .i64 own 1) (m.slot) (0) (7)) && (Ms.numB (bits .and .i64 own 2) (m.gen) (1) (60000))) && (Ms.numB (bits .and .i64 own 4) (m.frame) (0) (1048576))) && (Ms.numB (bits .and .i64 own 8) (m.code) (0) (9))) && (Ms.numB (bits .and .i64 own 16) (m.n) (0) (65535))) && (Ms.numB (bits .and .i64 own 32) (m.of) ((IntKind.i64.wrap (m.n + 1))) (65535))) && (((bits .and .i64 own 64) != 0) || (m.bits == 0))) == true)) && (((bits .and .i64 own 128) != 0) == false))) (v := .bool (m.sum == 0)) rfl (by rw [S]; decide) (Slim.wanted_g rfl rfl H58) (Slim.bin_g rfl H60 (fun h => h) (fun _ _ => Slim.cmp_eql)) fun a55 o => ?_
  replace S := o.size.trans S; replace D := o.defers.trans D
  replace H3 := Slim.stays o H3 (by decide)
  replace H5 := Slim.stays o H5 (by decide)
  replace H54 := Slim.stays o H54 (by decide)
  replace H58 := Slim.stays o H58 (by decide)
  have H61 : Slim.Has a55 61 ((true && ((((((((Ms.numB (bits .and .i64 own 1) (m.slot) (0) (7)) && (Ms.numB (bits .and .i64 own 2) (m.gen) (1) (60000))) && (Ms.numB (bits .and .i64 own 4) (m.frame) (0) (1048576))) && (Ms.numB (bits .and .i64 own 8) (m.code) (0) (9))) && (Ms.numB (bits .and .i64 own 16) (m.n) (0) (65535))) && (Ms.numB (bits .and .i64 own 32) (m.of) ((IntKind.i64.wrap (m.n + 1))) (65535))) && (((bits .and .i64 own 64) != 0) || (m.bits == 0))) == true)) && (((bits .and .i64 own 128) != 0) == false)) (.bool (m.sum == 0)) := o.here
  clear H60
  clear o
  refine Slim.val_g (t := 62) (c := (true && ((((((((Ms.numB (bits .and .i64 own 1) (m.slot) (0) (7)) && (Ms.numB (bits .and .i64 own 2) (m.gen) (1) (60000))) && (Ms.numB (bits .and .i64 own 4) (m.frame) (0) (1048576))) && (Ms.numB (bits .and .i64 own 8) (m.code) (0) (9))) && (Ms.numB (bits .and .i64 own 16) (m.n) (0) (65535))) && (Ms.numB (bits .and .i64 own 32) (m.of) ((IntKind.i64.wrap (m.n + 1))) (65535))) && (((bits .and .i64 own 64) != 0) || (m.bits == 0))) == true))) (v := .bool (((bits .and .i64 own 128) != 0) || (m.sum == 0))) rfl (by rw [S]; decide) (Slim.wanted_g rfl rfl H54) (Slim.or_g rfl H58 H61 (fun h => h) (fun h1 h2 => Bool.and_eq_true_iff.2 ⟨h1, by rw [h2]; rfl⟩)) fun a56 o => ?_
  replace S := o.size.trans S; replace D := o.defers.trans D
  replace H3 := Slim.stays o H3 (by decide)
  replace H5 := Slim.stays o H5 (by decide)
  replace H54 := Slim.stays o H54 (by decide)
  have H62 : Slim.Has a56 62 (true && ((((((((Ms.numB (bits .and .i64 own 1) (m.slot) (0) (7)) && (Ms.numB (bits .and .i64 own 2) (m.gen) (1) (60000))) && (Ms.numB (bits .and .i64 own 4) (m.frame) (0) (1048576))) && (Ms.numB (bits .and .i64 own 8) (m.code) (0) (9))) && (Ms.numB (bits .and .i64 own 16) (m.n) (0) (65535))) && (Ms.numB (bits .and .i64 own 32) (m.of) ((IntKind.i64.wrap (m.n + 1))) (65535))) && (((bits .and .i64 own 64) != 0) || (m.bits == 0))) == true)) (.bool (((bits .and .i64 own 128) != 0) || (m.sum == 0))) := o.here
  clear H58
  clear H61
  clear o
  refine Slim.val_g (t := 63) (c := true) (v := .bool ((((((((Ms.numB (bits .and .i64 own 1) (m.slot) (0) (7)) && (Ms.numB (bits .and .i64 own 2) (m.gen) (1) (60000))) && (Ms.numB (bits .and .i64 own 4) (m.frame) (0) (1048576))) && (Ms.numB (bits .and .i64 own 8) (m.code) (0) (9))) && (Ms.numB (bits .and .i64 own 16) (m.n) (0) (65535))) && (Ms.numB (bits .and .i64 own 32) (m.of) ((IntKind.i64.wrap (m.n + 1))) (65535))) && (((bits .and .i64 own 64) != 0) || (m.bits == 0))) && (((bits .and .i64 own 128) != 0) || (m.sum == 0)))) rfl (by rw [S]; decide) (Slim.wants_all rfl) (Slim.and_g rfl H54 H62 (fun h => h) (fun h1 h2 => Bool.and_eq_true_iff.2 ⟨h1, by rw [h2]; rfl⟩)) fun a57 o => ?_
  replace S := o.size.trans S; replace D := o.defers.trans D
  replace H3 := Slim.stays o H3 (by decide)
  replace H5 := Slim.stays o H5 (by decide)
  have H63 : Slim.Has a57 63 true (.bool ((((((((Ms.numB (bits .and .i64 own 1) (m.slot) (0) (7)) && (Ms.numB (bits .and .i64 own 2) (m.gen) (1) (60000))) && (Ms.numB (bits .and .i64 own 4) (m.frame) (0) (1048576))) && (Ms.numB (bits .and .i64 own 8) (m.code) (0) (9))) && (Ms.numB (bits .and .i64 own 16) (m.n) (0) (65535))) && (Ms.numB (bits .and .i64 own 32) (m.of) ((IntKind.i64.wrap (m.n + 1))) (65535))) && (((bits .and .i64 own 64) != 0) || (m.bits == 0))) && (((bits .and .i64 own 128) != 0) || (m.sum == 0)))) := o.here
  clear H54
  clear H62
  clear o
  refine Slim.val_g (t := 64) (c := true) (v := .bool ((((((((Ms.numB (bits .and .i64 own 1) (m.slot) (0) (7)) && (Ms.numB (bits .and .i64 own 2) (m.gen) (1) (60000))) && (Ms.numB (bits .and .i64 own 4) (m.frame) (0) (1048576))) && (Ms.numB (bits .and .i64 own 8) (m.code) (0) (9))) && (Ms.numB (bits .and .i64 own 16) (m.n) (0) (65535))) && (Ms.numB (bits .and .i64 own 32) (m.of) ((IntKind.i64.wrap (m.n + 1))) (65535))) && (((bits .and .i64 own 64) != 0) || (m.bits == 0))) && (((bits .and .i64 own 128) != 0) || (m.sum == 0)))) rfl (by rw [S]; decide) (Slim.wants_all rfl) (Slim.move_g rfl H63 (fun h => h)) fun a58 o => ?_
  replace S := o.size.trans S; replace D := o.defers.trans D
  replace H3 := Slim.stays o H3 (by decide)
  replace H5 := Slim.stays o H5 (by decide)
  have H64 : Slim.Has a58 64 true (.bool ((((((((Ms.numB (bits .and .i64 own 1) (m.slot) (0) (7)) && (Ms.numB (bits .and .i64 own 2) (m.gen) (1) (60000))) && (Ms.numB (bits .and .i64 own 4) (m.frame) (0) (1048576))) && (Ms.numB (bits .and .i64 own 8) (m.code) (0) (9))) && (Ms.numB (bits .and .i64 own 16) (m.n) (0) (65535))) && (Ms.numB (bits .and .i64 own 32) (m.of) ((IntKind.i64.wrap (m.n + 1))) (65535))) && (((bits .and .i64 own 64) != 0) || (m.bits == 0))) && (((bits .and .i64 own 128) != 0) || (m.sum == 0)))) := o.here
  clear H63
  clear o
  refine Slim.val_g (t := 65) (c := (true && (((((((((Ms.numB (bits .and .i64 own 1) (m.slot) (0) (7)) && (Ms.numB (bits .and .i64 own 2) (m.gen) (1) (60000))) && (Ms.numB (bits .and .i64 own 4) (m.frame) (0) (1048576))) && (Ms.numB (bits .and .i64 own 8) (m.code) (0) (9))) && (Ms.numB (bits .and .i64 own 16) (m.n) (0) (65535))) && (Ms.numB (bits .and .i64 own 32) (m.of) ((IntKind.i64.wrap (m.n + 1))) (65535))) && (((bits .and .i64 own 64) != 0) || (m.bits == 0))) && (((bits .and .i64 own 128) != 0) || (m.sum == 0))) == true))) (v := .func (.func 55) #[] #[.pointer (some ⟨O, 0, none⟩)]) rfl (by rw [S]; decide) (Slim.wanted_g rfl rfl H64) (Slim.move_g rfl H5 (fun _ => rfl)) fun a59 o => ?_
  replace S := o.size.trans S; replace D := o.defers.trans D
  replace H3 := Slim.stays o H3 (by decide)
  replace H5 := Slim.stays o H5 (by decide)
  replace H64 := Slim.stays o H64 (by decide)
  have H65 : Slim.Has a59 65 (true && (((((((((Ms.numB (bits .and .i64 own 1) (m.slot) (0) (7)) && (Ms.numB (bits .and .i64 own 2) (m.gen) (1) (60000))) && (Ms.numB (bits .and .i64 own 4) (m.frame) (0) (1048576))) && (Ms.numB (bits .and .i64 own 8) (m.code) (0) (9))) && (Ms.numB (bits .and .i64 own 16) (m.n) (0) (65535))) && (Ms.numB (bits .and .i64 own 32) (m.of) ((IntKind.i64.wrap (m.n + 1))) (65535))) && (((bits .and .i64 own 64) != 0) || (m.bits == 0))) && (((bits .and .i64 own 128) != 0) || (m.sum == 0))) == true)) (.func (.func 55) #[] #[.pointer (some ⟨O, 0, none⟩)]) := o.here
  clear o
  refine Slim.val_g (t := 66) (c := (true && (((((((((Ms.numB (bits .and .i64 own 1) (m.slot) (0) (7)) && (Ms.numB (bits .and .i64 own 2) (m.gen) (1) (60000))) && (Ms.numB (bits .and .i64 own 4) (m.frame) (0) (1048576))) && (Ms.numB (bits .and .i64 own 8) (m.code) (0) (9))) && (Ms.numB (bits .and .i64 own 16) (m.n) (0) (65535))) && (Ms.numB (bits .and .i64 own 32) (m.of) ((IntKind.i64.wrap (m.n + 1))) (65535))) && (((bits .and .i64 own 64) != 0) || (m.bits == 0))) && (((bits .and .i64 own 128) != 0) || (m.sum == 0))) == true))) (v := .pointer (some ⟨B, 13, none⟩)) rfl (by rw [S]; decide) (Slim.wanted_g rfl rfl H64) (Slim.field_g rfl H3 (fun _ => rfl) (by go_simp; first | done | rfl)) fun a60 o => ?_
  replace S := o.size.trans S; replace D := o.defers.trans D
  replace H3 := Slim.stays o H3 (by decide)
  replace H5 := Slim.stays o H5 (by decide)
  replace H64 := Slim.stays o H64 (by decide)
  replace H65 := Slim.stays o H65 (by decide)
  have H66 : Slim.Has a60 66 (true && (((((((((Ms.numB (bits .and .i64 own 1) (m.slot) (0) (7)) && (Ms.numB (bits .and .i64 own 2) (m.gen) (1) (60000))) && (Ms.numB (bits .and .i64 own 4) (m.frame) (0) (1048576))) && (Ms.numB (bits .and .i64 own 8) (m.code) (0) (9))) && (Ms.numB (bits .and .i64 own 16) (m.n) (0) (65535))) && (Ms.numB (bits .and .i64 own 32) (m.of) ((IntKind.i64.wrap (m.n + 1))) (65535))) && (((bits .and .i64 own 64) != 0) || (m.bits == 0))) && (((bits .and .i64 own 128) != 0) || (m.sum == 0))) == true)) (.pointer (some ⟨B, 13, none⟩)) := o.here
  clear o
  refine Slim.val_g (t := 67) (c := (true && (((((((((Ms.numB (bits .and .i64 own 1) (m.slot) (0) (7)) && (Ms.numB (bits .and .i64 own 2) (m.gen) (1) (60000))) && (Ms.numB (bits .and .i64 own 4) (m.frame) (0) (1048576))) && (Ms.numB (bits .and .i64 own 8) (m.code) (0) (9))) && (Ms.numB (bits .and .i64 own 16) (m.n) (0) (65535))) && (Ms.numB (bits .and .i64 own 32) (m.of) ((IntKind.i64.wrap (m.n + 1))) (65535))) && (((bits .and .i64 own 64) != 0) || (m.bits == 0))) && (((bits .and .i64 own 128) != 0) || (m.sum == 0))) == true))) (v := .slice ai m.ins.length ci) rfl (by rw [S]; decide) (Slim.wanted_g rfl rfl H64) (Slim.load_g rfl H66 (fun h => h) (by have k := BX.out.cell 13; go_simp; first | done | rfl)) fun a61 o => ?_
  replace S := o.size.trans S; replace D := o.defers.trans D
  replace H3 := Slim.stays o H3 (by decide)
  replace H5 := Slim.stays o H5 (by decide)
  replace H64 := Slim.stays o H64 (by decide)
  replace H65 := Slim.stays o H65 (by decide)
  have H67 : Slim.Has a61 67 (true && (((((((((Ms.numB (bits .and .i64 own 1) (m.slot) (0) (7)) && (Ms.numB (bits .and .i64 own 2) (m.gen) (1) (60000))) && (Ms.numB (bits .and .i64 own 4) (m.frame) (0) (1048576))) && (Ms.numB (bits .and .i64 own 8) (m.code) (0) (9))) && (Ms.numB (bits .and .i64 own 16) (m.n) (0) (65535))) && (Ms.numB (bits .and .i64 own 32) (m.of) ((IntKind.i64.wrap (m.n + 1))) (65535))) && (((bits .and .i64 own 64) != 0) || (m.bits == 0))) && (((bits .and .i64 own 128) != 0) || (m.sum == 0))) == true)) (.slice ai m.ins.length ci) := o.here
  clear H66
  clear o
  refine Slim.val_g (t := 68) (c := (true && (((((((((Ms.numB (bits .and .i64 own 1) (m.slot) (0) (7)) && (Ms.numB (bits .and .i64 own 2) (m.gen) (1) (60000))) && (Ms.numB (bits .and .i64 own 4) (m.frame) (0) (1048576))) && (Ms.numB (bits .and .i64 own 8) (m.code) (0) (9))) && (Ms.numB (bits .and .i64 own 16) (m.n) (0) (65535))) && (Ms.numB (bits .and .i64 own 32) (m.of) ((IntKind.i64.wrap (m.n + 1))) (65535))) && (((bits .and .i64 own 64) != 0) || (m.bits == 0))) && (((bits .and .i64 own 128) != 0) || (m.sum == 0))) == true))) (v := .int .i64 (m.ins.length : Int)) rfl (by rw [S]; decide) (Slim.wanted_g rfl rfl H64) (Slim.len_g rfl H67 (fun h => h) (by go_simp; first | done | rfl)) fun a62 o => ?_
  replace S := o.size.trans S; replace D := o.defers.trans D
  replace H3 := Slim.stays o H3 (by decide)
  replace H5 := Slim.stays o H5 (by decide)
  replace H64 := Slim.stays o H64 (by decide)
  replace H65 := Slim.stays o H65 (by decide)
  have H68 : Slim.Has a62 68 (true && (((((((((Ms.numB (bits .and .i64 own 1) (m.slot) (0) (7)) && (Ms.numB (bits .and .i64 own 2) (m.gen) (1) (60000))) && (Ms.numB (bits .and .i64 own 4) (m.frame) (0) (1048576))) && (Ms.numB (bits .and .i64 own 8) (m.code) (0) (9))) && (Ms.numB (bits .and .i64 own 16) (m.n) (0) (65535))) && (Ms.numB (bits .and .i64 own 32) (m.of) ((IntKind.i64.wrap (m.n + 1))) (65535))) && (((bits .and .i64 own 64) != 0) || (m.bits == 0))) && (((bits .and .i64 own 128) != 0) || (m.sum == 0))) == true)) (.int .i64 (m.ins.length : Int)) := o.here
  clear H67
  clear o
  refine Slim.call0_g (t := 69) (c := (true && (((((((((Ms.numB (bits .and .i64 own 1) (m.slot) (0) (7)) && (Ms.numB (bits .and .i64 own 2) (m.gen) (1) (60000))) && (Ms.numB (bits .and .i64 own 4) (m.frame) (0) (1048576))) && (Ms.numB (bits .and .i64 own 8) (m.code) (0) (9))) && (Ms.numB (bits .and .i64 own 16) (m.n) (0) (65535))) && (Ms.numB (bits .and .i64 own 32) (m.of) ((IntKind.i64.wrap (m.n + 1))) (65535))) && (((bits .and .i64 own 64) != 0) || (m.bits == 0))) && (((bits .and .i64 own 128) != 0) || (m.sum == 0))) == true))) (v := .bool (Ms.numB (bits .and .i64 own 256) ((m.ins.length : Int)) (1) (16))) rfl (by rw [S]; decide) (Slim.wanted_g rfl rfl H64) (Slim.callv_g (f := 55) (xs := [.const (.int .i64 256), .tmp 68, .const (.int .i64 1), .const (.int .i64 16)]) (vs := [.int .i64 256, .int .i64 (m.ins.length : Int), .int .i64 1, .int .i64 16]) (args := #[.int .i64 256, .int .i64 (m.ins.length : Int), .int .i64 1, .int .i64 16, .pointer (some ⟨O, 0, none⟩)]) rfl H65 (fun h => h) (fun h0 => by simp only [List.map_cons, List.map_nil, Slim.pres H68 ((fun h => h) h0)]; rfl) rfl (by go_simp; first | done | rfl)) (fun _ => number_any own 256 ((m.ins.length : Int)) (1) (16) O _ BO.out) fun a63 o => ?_
  replace S := o.size.trans S; replace D := o.defers.trans D
  replace H3 := Slim.stays o H3 (by decide)
  replace H5 := Slim.stays o H5 (by decide)
  replace H64 := Slim.stays o H64 (by decide)
  have H69 : Slim.Has a63 69 (true && (((((((((Ms.numB (bits .and .i64 own 1) (m.slot) (0) (7)) && (Ms.numB (bits .and .i64 own 2) (m.gen) (1) (60000))) && (Ms.numB (bits .and .i64 own 4) (m.frame) (0) (1048576))) && (Ms.numB (bits .and .i64 own 8) (m.code) (0) (9))) && (Ms.numB (bits .and .i64 own 16) (m.n) (0) (65535))) && (Ms.numB (bits .and .i64 own 32) (m.of) ((IntKind.i64.wrap (m.n + 1))) (65535))) && (((bits .and .i64 own 64) != 0) || (m.bits == 0))) && (((bits .and .i64 own 128) != 0) || (m.sum == 0))) == true)) (.bool (Ms.numB (bits .and .i64 own 256) ((m.ins.length : Int)) (1) (16))) := o.here
  clear H65
  clear H68
  clear o
  refine Slim.val_g (t := 70) (c := true) (v := .bool (((((((((Ms.numB (bits .and .i64 own 1) (m.slot) (0) (7)) && (Ms.numB (bits .and .i64 own 2) (m.gen) (1) (60000))) && (Ms.numB (bits .and .i64 own 4) (m.frame) (0) (1048576))) && (Ms.numB (bits .and .i64 own 8) (m.code) (0) (9))) && (Ms.numB (bits .and .i64 own 16) (m.n) (0) (65535))) && (Ms.numB (bits .and .i64 own 32) (m.of) ((IntKind.i64.wrap (m.n + 1))) (65535))) && (((bits .and .i64 own 64) != 0) || (m.bits == 0))) && (((bits .and .i64 own 128) != 0) || (m.sum == 0))) && (Ms.numB (bits .and .i64 own 256) ((m.ins.length : Int)) (1) (16)))) rfl (by rw [S]; decide) (Slim.wants_all rfl) (Slim.and_g rfl H64 H69 (fun h => h) (fun h1 h2 => Bool.and_eq_true_iff.2 ⟨h1, by rw [h2]; rfl⟩)) fun a64 o => ?_
  replace S := o.size.trans S; replace D := o.defers.trans D
  replace H3 := Slim.stays o H3 (by decide)
  replace H5 := Slim.stays o H5 (by decide)
  have H70 : Slim.Has a64 70 true (.bool (((((((((Ms.numB (bits .and .i64 own 1) (m.slot) (0) (7)) && (Ms.numB (bits .and .i64 own 2) (m.gen) (1) (60000))) && (Ms.numB (bits .and .i64 own 4) (m.frame) (0) (1048576))) && (Ms.numB (bits .and .i64 own 8) (m.code) (0) (9))) && (Ms.numB (bits .and .i64 own 16) (m.n) (0) (65535))) && (Ms.numB (bits .and .i64 own 32) (m.of) ((IntKind.i64.wrap (m.n + 1))) (65535))) && (((bits .and .i64 own 64) != 0) || (m.bits == 0))) && (((bits .and .i64 own 128) != 0) || (m.sum == 0))) && (Ms.numB (bits .and .i64 own 256) ((m.ins.length : Int)) (1) (16)))) := o.here
  clear H64
  clear H69
  clear o
  refine Slim.val_g (t := 71) (c := true) (v := .bool (((((((((Ms.numB (bits .and .i64 own 1) (m.slot) (0) (7)) && (Ms.numB (bits .and .i64 own 2) (m.gen) (1) (60000))) && (Ms.numB (bits .and .i64 own 4) (m.frame) (0) (1048576))) && (Ms.numB (bits .and .i64 own 8) (m.code) (0) (9))) && (Ms.numB (bits .and .i64 own 16) (m.n) (0) (65535))) && (Ms.numB (bits .and .i64 own 32) (m.of) ((IntKind.i64.wrap (m.n + 1))) (65535))) && (((bits .and .i64 own 64) != 0) || (m.bits == 0))) && (((bits .and .i64 own 128) != 0) || (m.sum == 0))) && (Ms.numB (bits .and .i64 own 256) ((m.ins.length : Int)) (1) (16)))) rfl (by rw [S]; decide) (Slim.wants_all rfl) (Slim.move_g rfl H70 (fun h => h)) fun a65 o => ?_
  replace S := o.size.trans S; replace D := o.defers.trans D
  replace H3 := Slim.stays o H3 (by decide)
  replace H5 := Slim.stays o H5 (by decide)
  have H71 : Slim.Has a65 71 true (.bool (((((((((Ms.numB (bits .and .i64 own 1) (m.slot) (0) (7)) && (Ms.numB (bits .and .i64 own 2) (m.gen) (1) (60000))) && (Ms.numB (bits .and .i64 own 4) (m.frame) (0) (1048576))) && (Ms.numB (bits .and .i64 own 8) (m.code) (0) (9))) && (Ms.numB (bits .and .i64 own 16) (m.n) (0) (65535))) && (Ms.numB (bits .and .i64 own 32) (m.of) ((IntKind.i64.wrap (m.n + 1))) (65535))) && (((bits .and .i64 own 64) != 0) || (m.bits == 0))) && (((bits .and .i64 own 128) != 0) || (m.sum == 0))) && (Ms.numB (bits .and .i64 own 256) ((m.ins.length : Int)) (1) (16)))) := o.here
  clear H70
  clear o
  refine Slim.val_g (t := 72) (c := (true && ((((((((((Ms.numB (bits .and .i64 own 1) (m.slot) (0) (7)) && (Ms.numB (bits .and .i64 own 2) (m.gen) (1) (60000))) && (Ms.numB (bits .and .i64 own 4) (m.frame) (0) (1048576))) && (Ms.numB (bits .and .i64 own 8) (m.code) (0) (9))) && (Ms.numB (bits .and .i64 own 16) (m.n) (0) (65535))) && (Ms.numB (bits .and .i64 own 32) (m.of) ((IntKind.i64.wrap (m.n + 1))) (65535))) && (((bits .and .i64 own 64) != 0) || (m.bits == 0))) && (((bits .and .i64 own 128) != 0) || (m.sum == 0))) && (Ms.numB (bits .and .i64 own 256) ((m.ins.length : Int)) (1) (16))) == true))) (v := .func (.func 55) #[] #[.pointer (some ⟨O, 0, none⟩)]) rfl (by rw [S]; decide) (Slim.wanted_g rfl rfl H71) (Slim.move_g rfl H5 (fun _ => rfl)) fun a66 o => ?_
  replace S := o.size.trans S; replace D := o.defers.trans D
  replace H3 := Slim.stays o H3 (by decide)
  replace H5 := Slim.stays o H5 (by decide)
  replace H71 := Slim.stays o H71 (by decide)
  have H72 : Slim.Has a66 72 (true && ((((((((((Ms.numB (bits .and .i64 own 1) (m.slot) (0) (7)) && (Ms.numB (bits .and .i64 own 2) (m.gen) (1) (60000))) && (Ms.numB (bits .and .i64 own 4) (m.frame) (0) (1048576))) && (Ms.numB (bits .and .i64 own 8) (m.code) (0) (9))) && (Ms.numB (bits .and .i64 own 16) (m.n) (0) (65535))) && (Ms.numB (bits .and .i64 own 32) (m.of) ((IntKind.i64.wrap (m.n + 1))) (65535))) && (((bits .and .i64 own 64) != 0) || (m.bits == 0))) && (((bits .and .i64 own 128) != 0) || (m.sum == 0))) && (Ms.numB (bits .and .i64 own 256) ((m.ins.length : Int)) (1) (16))) == true)) (.func (.func 55) #[] #[.pointer (some ⟨O, 0, none⟩)]) := o.here
  clear o
  refine Slim.val_g (t := 73) (c := (true && ((((((((((Ms.numB (bits .and .i64 own 1) (m.slot) (0) (7)) && (Ms.numB (bits .and .i64 own 2) (m.gen) (1) (60000))) && (Ms.numB (bits .and .i64 own 4) (m.frame) (0) (1048576))) && (Ms.numB (bits .and .i64 own 8) (m.code) (0) (9))) && (Ms.numB (bits .and .i64 own 16) (m.n) (0) (65535))) && (Ms.numB (bits .and .i64 own 32) (m.of) ((IntKind.i64.wrap (m.n + 1))) (65535))) && (((bits .and .i64 own 64) != 0) || (m.bits == 0))) && (((bits .and .i64 own 128) != 0) || (m.sum == 0))) && (Ms.numB (bits .and .i64 own 256) ((m.ins.length : Int)) (1) (16))) == true))) (v := .pointer (some ⟨B, 14, none⟩)) rfl (by rw [S]; decide) (Slim.wanted_g rfl rfl H71) (Slim.field_g rfl H3 (fun _ => rfl) (by go_simp; first | done | rfl)) fun a67 o => ?_
  replace S := o.size.trans S; replace D := o.defers.trans D
  replace H3 := Slim.stays o H3 (by decide)
  replace H5 := Slim.stays o H5 (by decide)
  replace H71 := Slim.stays o H71 (by decide)
  replace H72 := Slim.stays o H72 (by decide)
  have H73 : Slim.Has a67 73 (true && ((((((((((Ms.numB (bits .and .i64 own 1) (m.slot) (0) (7)) && (Ms.numB (bits .and .i64 own 2) (m.gen) (1) (60000))) && (Ms.numB (bits .and .i64 own 4) (m.frame) (0) (1048576))) && (Ms.numB (bits .and .i64 own 8) (m.code) (0) (9))) && (Ms.numB (bits .and .i64 own 16) (m.n) (0) (65535))) && (Ms.numB (bits .and .i64 own 32) (m.of) ((IntKind.i64.wrap (m.n + 1))) (65535))) && (((bits .and .i64 own 64) != 0) || (m.bits == 0))) && (((bits .and .i64 own 128) != 0) || (m.sum == 0))) && (Ms.numB (bits .and .i64 own 256) ((m.ins.length : Int)) (1) (16))) == true)) (.pointer (some ⟨B, 14, none⟩)) := o.here
  clear o
  refine Slim.val_g (t := 74) (c := (true && ((((((((((Ms.numB (bits .and .i64 own 1) (m.slot) (0) (7)) && (Ms.numB (bits .and .i64 own 2) (m.gen) (1) (60000))) && (Ms.numB (bits .and .i64 own 4) (m.frame) (0) (1048576))) && (Ms.numB (bits .and .i64 own 8) (m.code) (0) (9))) && (Ms.numB (bits .and .i64 own 16) (m.n) (0) (65535))) && (Ms.numB (bits .and .i64 own 32) (m.of) ((IntKind.i64.wrap (m.n + 1))) (65535))) && (((bits .and .i64 own 64) != 0) || (m.bits == 0))) && (((bits .and .i64 own 128) != 0) || (m.sum == 0))) && (Ms.numB (bits .and .i64 own 256) ((m.ins.length : Int)) (1) (16))) == true))) (v := .slice al m.log.length cl) rfl (by rw [S]; decide) (Slim.wanted_g rfl rfl H71) (Slim.load_g rfl H73 (fun h => h) (by have k := BX.out.cell 14; go_simp; first | done | rfl)) fun a68 o => ?_
  replace S := o.size.trans S; replace D := o.defers.trans D
  replace H3 := Slim.stays o H3 (by decide)
  replace H5 := Slim.stays o H5 (by decide)
  replace H71 := Slim.stays o H71 (by decide)
  replace H72 := Slim.stays o H72 (by decide)
  have H74 : Slim.Has a68 74 (true && ((((((((((Ms.numB (bits .and .i64 own 1) (m.slot) (0) (7)) && (Ms.numB (bits .and .i64 own 2) (m.gen) (1) (60000))) && (Ms.numB (bits .and .i64 own 4) (m.frame) (0) (1048576))) && (Ms.numB (bits .and .i64 own 8) (m.code) (0) (9))) && (Ms.numB (bits .and .i64 own 16) (m.n) (0) (65535))) && (Ms.numB (bits .and .i64 own 32) (m.of) ((IntKind.i64.wrap (m.n + 1))) (65535))) && (((bits .and .i64 own 64) != 0) || (m.bits == 0))) && (((bits .and .i64 own 128) != 0) || (m.sum == 0))) && (Ms.numB (bits .and .i64 own 256) ((m.ins.length : Int)) (1) (16))) == true)) (.slice al m.log.length cl) := o.here
  clear H73
  clear o
  refine Slim.val_g (t := 75) (c := (true && ((((((((((Ms.numB (bits .and .i64 own 1) (m.slot) (0) (7)) && (Ms.numB (bits .and .i64 own 2) (m.gen) (1) (60000))) && (Ms.numB (bits .and .i64 own 4) (m.frame) (0) (1048576))) && (Ms.numB (bits .and .i64 own 8) (m.code) (0) (9))) && (Ms.numB (bits .and .i64 own 16) (m.n) (0) (65535))) && (Ms.numB (bits .and .i64 own 32) (m.of) ((IntKind.i64.wrap (m.n + 1))) (65535))) && (((bits .and .i64 own 64) != 0) || (m.bits == 0))) && (((bits .and .i64 own 128) != 0) || (m.sum == 0))) && (Ms.numB (bits .and .i64 own 256) ((m.ins.length : Int)) (1) (16))) == true))) (v := .int .i64 (m.log.length : Int)) rfl (by rw [S]; decide) (Slim.wanted_g rfl rfl H71) (Slim.len_g rfl H74 (fun h => h) (by go_simp; first | done | rfl)) fun a69 o => ?_
  replace S := o.size.trans S; replace D := o.defers.trans D
  replace H3 := Slim.stays o H3 (by decide)
  replace H5 := Slim.stays o H5 (by decide)
  replace H71 := Slim.stays o H71 (by decide)
  replace H72 := Slim.stays o H72 (by decide)
  have H75 : Slim.Has a69 75 (true && ((((((((((Ms.numB (bits .and .i64 own 1) (m.slot) (0) (7)) && (Ms.numB (bits .and .i64 own 2) (m.gen) (1) (60000))) && (Ms.numB (bits .and .i64 own 4) (m.frame) (0) (1048576))) && (Ms.numB (bits .and .i64 own 8) (m.code) (0) (9))) && (Ms.numB (bits .and .i64 own 16) (m.n) (0) (65535))) && (Ms.numB (bits .and .i64 own 32) (m.of) ((IntKind.i64.wrap (m.n + 1))) (65535))) && (((bits .and .i64 own 64) != 0) || (m.bits == 0))) && (((bits .and .i64 own 128) != 0) || (m.sum == 0))) && (Ms.numB (bits .and .i64 own 256) ((m.ins.length : Int)) (1) (16))) == true)) (.int .i64 (m.log.length : Int)) := o.here
  clear H74
  clear o
  refine Slim.call0_g (t := 76) (c := (true && ((((((((((Ms.numB (bits .and .i64 own 1) (m.slot) (0) (7)) && (Ms.numB (bits .and .i64 own 2) (m.gen) (1) (60000))) && (Ms.numB (bits .and .i64 own 4) (m.frame) (0) (1048576))) && (Ms.numB (bits .and .i64 own 8) (m.code) (0) (9))) && (Ms.numB (bits .and .i64 own 16) (m.n) (0) (65535))) && (Ms.numB (bits .and .i64 own 32) (m.of) ((IntKind.i64.wrap (m.n + 1))) (65535))) && (((bits .and .i64 own 64) != 0) || (m.bits == 0))) && (((bits .and .i64 own 128) != 0) || (m.sum == 0))) && (Ms.numB (bits .and .i64 own 256) ((m.ins.length : Int)) (1) (16))) == true))) (v := .bool (Ms.numB (bits .and .i64 own 512) ((m.log.length : Int)) (1) (16))) rfl (by rw [S]; decide) (Slim.wanted_g rfl rfl H71) (Slim.callv_g (f := 55) (xs := [.const (.int .i64 512), .tmp 75, .const (.int .i64 1), .const (.int .i64 16)]) (vs := [.int .i64 512, .int .i64 (m.log.length : Int), .int .i64 1, .int .i64 16]) (args := #[.int .i64 512, .int .i64 (m.log.length : Int), .int .i64 1, .int .i64 16, .pointer (some ⟨O, 0, none⟩)]) rfl H72 (fun h => h) (fun h0 => by simp only [List.map_cons, List.map_nil, Slim.pres H75 ((fun h => h) h0)]; rfl) rfl (by go_simp; first | done | rfl)) (fun _ => number_any own 512 ((m.log.length : Int)) (1) (16) O _ BO.out) fun a70 o => ?_
  replace S := o.size.trans S; replace D := o.defers.trans D
  replace H3 := Slim.stays o H3 (by decide)
  replace H5 := Slim.stays o H5 (by decide)
  replace H71 := Slim.stays o H71 (by decide)
  have H76 : Slim.Has a70 76 (true && ((((((((((Ms.numB (bits .and .i64 own 1) (m.slot) (0) (7)) && (Ms.numB (bits .and .i64 own 2) (m.gen) (1) (60000))) && (Ms.numB (bits .and .i64 own 4) (m.frame) (0) (1048576))) && (Ms.numB (bits .and .i64 own 8) (m.code) (0) (9))) && (Ms.numB (bits .and .i64 own 16) (m.n) (0) (65535))) && (Ms.numB (bits .and .i64 own 32) (m.of) ((IntKind.i64.wrap (m.n + 1))) (65535))) && (((bits .and .i64 own 64) != 0) || (m.bits == 0))) && (((bits .and .i64 own 128) != 0) || (m.sum == 0))) && (Ms.numB (bits .and .i64 own 256) ((m.ins.length : Int)) (1) (16))) == true)) (.bool (Ms.numB (bits .and .i64 own 512) ((m.log.length : Int)) (1) (16))) := o.here
  clear H72
  clear H75
  clear o
  refine Slim.val_g (t := 77) (c := true) (v := .bool ((((((((((Ms.numB (bits .and .i64 own 1) (m.slot) (0) (7)) && (Ms.numB (bits .and .i64 own 2) (m.gen) (1) (60000))) && (Ms.numB (bits .and .i64 own 4) (m.frame) (0) (1048576))) && (Ms.numB (bits .and .i64 own 8) (m.code) (0) (9))) && (Ms.numB (bits .and .i64 own 16) (m.n) (0) (65535))) && (Ms.numB (bits .and .i64 own 32) (m.of) ((IntKind.i64.wrap (m.n + 1))) (65535))) && (((bits .and .i64 own 64) != 0) || (m.bits == 0))) && (((bits .and .i64 own 128) != 0) || (m.sum == 0))) && (Ms.numB (bits .and .i64 own 256) ((m.ins.length : Int)) (1) (16))) && (Ms.numB (bits .and .i64 own 512) ((m.log.length : Int)) (1) (16)))) rfl (by rw [S]; decide) (Slim.wants_all rfl) (Slim.and_g rfl H71 H76 (fun h => h) (fun h1 h2 => Bool.and_eq_true_iff.2 ⟨h1, by rw [h2]; rfl⟩)) fun a71 o => ?_
  replace S := o.size.trans S; replace D := o.defers.trans D
  replace H3 := Slim.stays o H3 (by decide)
  replace H5 := Slim.stays o H5 (by decide)
  have H77 : Slim.Has a71 77 true (.bool ((((((((((Ms.numB (bits .and .i64 own 1) (m.slot) (0) (7)) && (Ms.numB (bits .and .i64 own 2) (m.gen) (1) (60000))) && (Ms.numB (bits .and .i64 own 4) (m.frame) (0) (1048576))) && (Ms.numB (bits .and .i64 own 8) (m.code) (0) (9))) && (Ms.numB (bits .and .i64 own 16) (m.n) (0) (65535))) && (Ms.numB (bits .and .i64 own 32) (m.of) ((IntKind.i64.wrap (m.n + 1))) (65535))) && (((bits .and .i64 own 64) != 0) || (m.bits == 0))) && (((bits .and .i64 own 128) != 0) || (m.sum == 0))) && (Ms.numB (bits .and .i64 own 256) ((m.ins.length : Int)) (1) (16))) && (Ms.numB (bits .and .i64 own 512) ((m.log.length : Int)) (1) (16)))) := o.here
  clear H71
  clear H76
  clear o
  refine Slim.val_g (t := 78) (c := true) (v := .bool ((((((((((Ms.numB (bits .and .i64 own 1) (m.slot) (0) (7)) && (Ms.numB (bits .and .i64 own 2) (m.gen) (1) (60000))) && (Ms.numB (bits .and .i64 own 4) (m.frame) (0) (1048576))) && (Ms.numB (bits .and .i64 own 8) (m.code) (0) (9))) && (Ms.numB (bits .and .i64 own 16) (m.n) (0) (65535))) && (Ms.numB (bits .and .i64 own 32) (m.of) ((IntKind.i64.wrap (m.n + 1))) (65535))) && (((bits .and .i64 own 64) != 0) || (m.bits == 0))) && (((bits .and .i64 own 128) != 0) || (m.sum == 0))) && (Ms.numB (bits .and .i64 own 256) ((m.ins.length : Int)) (1) (16))) && (Ms.numB (bits .and .i64 own 512) ((m.log.length : Int)) (1) (16)))) rfl (by rw [S]; decide) (Slim.wants_all rfl) (Slim.move_g rfl H77 (fun h => h)) fun a72 o => ?_
  replace S := o.size.trans S; replace D := o.defers.trans D
  replace H3 := Slim.stays o H3 (by decide)
  replace H5 := Slim.stays o H5 (by decide)
  have H78 : Slim.Has a72 78 true (.bool ((((((((((Ms.numB (bits .and .i64 own 1) (m.slot) (0) (7)) && (Ms.numB (bits .and .i64 own 2) (m.gen) (1) (60000))) && (Ms.numB (bits .and .i64 own 4) (m.frame) (0) (1048576))) && (Ms.numB (bits .and .i64 own 8) (m.code) (0) (9))) && (Ms.numB (bits .and .i64 own 16) (m.n) (0) (65535))) && (Ms.numB (bits .and .i64 own 32) (m.of) ((IntKind.i64.wrap (m.n + 1))) (65535))) && (((bits .and .i64 own 64) != 0) || (m.bits == 0))) && (((bits .and .i64 own 128) != 0) || (m.sum == 0))) && (Ms.numB (bits .and .i64 own 256) ((m.ins.length : Int)) (1) (16))) && (Ms.numB (bits .and .i64 own 512) ((m.log.length : Int)) (1) (16)))) := o.here
  clear H77
  clear o
  refine Slim.val_g (t := 79) (c := (true && (((((((((((Ms.numB (bits .and .i64 own 1) (m.slot) (0) (7)) && (Ms.numB (bits .and .i64 own 2) (m.gen) (1) (60000))) && (Ms.numB (bits .and .i64 own 4) (m.frame) (0) (1048576))) && (Ms.numB (bits .and .i64 own 8) (m.code) (0) (9))) && (Ms.numB (bits .and .i64 own 16) (m.n) (0) (65535))) && (Ms.numB (bits .and .i64 own 32) (m.of) ((IntKind.i64.wrap (m.n + 1))) (65535))) && (((bits .and .i64 own 64) != 0) || (m.bits == 0))) && (((bits .and .i64 own 128) != 0) || (m.sum == 0))) && (Ms.numB (bits .and .i64 own 256) ((m.ins.length : Int)) (1) (16))) && (Ms.numB (bits .and .i64 own 512) ((m.log.length : Int)) (1) (16))) == true))) (v := .func (.func 55) #[] #[.pointer (some ⟨O, 0, none⟩)]) rfl (by rw [S]; decide) (Slim.wanted_g rfl rfl H78) (Slim.move_g rfl H5 (fun _ => rfl)) fun a73 o => ?_
  replace S := o.size.trans S; replace D := o.defers.trans D
  replace H3 := Slim.stays o H3 (by decide)
  replace H78 := Slim.stays o H78 (by decide)
  have H79 : Slim.Has a73 79 (true && (((((((((((Ms.numB (bits .and .i64 own 1) (m.slot) (0) (7)) && (Ms.numB (bits .and .i64 own 2) (m.gen) (1) (60000))) && (Ms.numB (bits .and .i64 own 4) (m.frame) (0) (1048576))) && (Ms.numB (bits .and .i64 own 8) (m.code) (0) (9))) && (Ms.numB (bits .and .i64 own 16) (m.n) (0) (65535))) && (Ms.numB (bits .and .i64 own 32) (m.of) ((IntKind.i64.wrap (m.n + 1))) (65535))) && (((bits .and .i64 own 64) != 0) || (m.bits == 0))) && (((bits .and .i64 own 128) != 0) || (m.sum == 0))) && (Ms.numB (bits .and .i64 own 256) ((m.ins.length : Int)) (1) (16))) && (Ms.numB (bits .and .i64 own 512) ((m.log.length : Int)) (1) (16))) == true)) (.func (.func 55) #[] #[.pointer (some ⟨O, 0, none⟩)]) := o.here
  clear H5
  clear o
  refine Slim.val_g (t := 80) (c := (true && (((((((((((Ms.numB (bits .and .i64 own 1) (m.slot) (0) (7)) && (Ms.numB (bits .and .i64 own 2) (m.gen) (1) (60000))) && (Ms.numB (bits .and .i64 own 4) (m.frame) (0) (1048576))) && (Ms.numB (bits .and .i64 own 8) (m.code) (0) (9))) && (Ms.numB (bits .and .i64 own 16) (m.n) (0) (65535))) && (Ms.numB (bits .and .i64 own 32) (m.of) ((IntKind.i64.wrap (m.n + 1))) (65535))) && (((bits .and .i64 own 64) != 0) || (m.bits == 0))) && (((bits .and .i64 own 128) != 0) || (m.sum == 0))) && (Ms.numB (bits .and .i64 own 256) ((m.ins.length : Int)) (1) (16))) && (Ms.numB (bits .and .i64 own 512) ((m.log.length : Int)) (1) (16))) == true))) (v := .pointer (some ⟨B, 15, none⟩)) rfl (by rw [S]; decide) (Slim.wanted_g rfl rfl H78) (Slim.field_g rfl H3 (fun _ => rfl) (by go_simp; first | done | rfl)) fun a74 o => ?_
  replace S := o.size.trans S; replace D := o.defers.trans D
  replace H78 := Slim.stays o H78 (by decide)
  replace H79 := Slim.stays o H79 (by decide)
  have H80 : Slim.Has a74 80 (true && (((((((((((Ms.numB (bits .and .i64 own 1) (m.slot) (0) (7)) && (Ms.numB (bits .and .i64 own 2) (m.gen) (1) (60000))) && (Ms.numB (bits .and .i64 own 4) (m.frame) (0) (1048576))) && (Ms.numB (bits .and .i64 own 8) (m.code) (0) (9))) && (Ms.numB (bits .and .i64 own 16) (m.n) (0) (65535))) && (Ms.numB (bits .and .i64 own 32) (m.of) ((IntKind.i64.wrap (m.n + 1))) (65535))) && (((bits .and .i64 own 64) != 0) || (m.bits == 0))) && (((bits .and .i64 own 128) != 0) || (m.sum == 0))) && (Ms.numB (bits .and .i64 own 256) ((m.ins.length : Int)) (1) (16))) && (Ms.numB (bits .and .i64 own 512) ((m.log.length : Int)) (1) (16))) == true)) (.pointer (some ⟨B, 15, none⟩)) := o.here
  clear H3
  clear o
  refine Slim.val_g (t := 81) (c := (true && (((((((((((Ms.numB (bits .and .i64 own 1) (m.slot) (0) (7)) && (Ms.numB (bits .and .i64 own 2) (m.gen) (1) (60000))) && (Ms.numB (bits .and .i64 own 4) (m.frame) (0) (1048576))) && (Ms.numB (bits .and .i64 own 8) (m.code) (0) (9))) && (Ms.numB (bits .and .i64 own 16) (m.n) (0) (65535))) && (Ms.numB (bits .and .i64 own 32) (m.of) ((IntKind.i64.wrap (m.n + 1))) (65535))) && (((bits .and .i64 own 64) != 0) || (m.bits == 0))) && (((bits .and .i64 own 128) != 0) || (m.sum == 0))) && (Ms.numB (bits .and .i64 own 256) ((m.ins.length : Int)) (1) (16))) && (Ms.numB (bits .and .i64 own 512) ((m.log.length : Int)) (1) (16))) == true))) (v := .slice ad m.data.length cd) rfl (by rw [S]; decide) (Slim.wanted_g rfl rfl H78) (Slim.load_g rfl H80 (fun h => h) (by have k := BX.out.cell 15; go_simp; first | done | rfl)) fun a75 o => ?_
  replace S := o.size.trans S; replace D := o.defers.trans D
  replace H78 := Slim.stays o H78 (by decide)
  replace H79 := Slim.stays o H79 (by decide)
  have H81 : Slim.Has a75 81 (true && (((((((((((Ms.numB (bits .and .i64 own 1) (m.slot) (0) (7)) && (Ms.numB (bits .and .i64 own 2) (m.gen) (1) (60000))) && (Ms.numB (bits .and .i64 own 4) (m.frame) (0) (1048576))) && (Ms.numB (bits .and .i64 own 8) (m.code) (0) (9))) && (Ms.numB (bits .and .i64 own 16) (m.n) (0) (65535))) && (Ms.numB (bits .and .i64 own 32) (m.of) ((IntKind.i64.wrap (m.n + 1))) (65535))) && (((bits .and .i64 own 64) != 0) || (m.bits == 0))) && (((bits .and .i64 own 128) != 0) || (m.sum == 0))) && (Ms.numB (bits .and .i64 own 256) ((m.ins.length : Int)) (1) (16))) && (Ms.numB (bits .and .i64 own 512) ((m.log.length : Int)) (1) (16))) == true)) (.slice ad m.data.length cd) := o.here
  clear H80
  clear o
  refine Slim.val_g (t := 82) (c := (true && (((((((((((Ms.numB (bits .and .i64 own 1) (m.slot) (0) (7)) && (Ms.numB (bits .and .i64 own 2) (m.gen) (1) (60000))) && (Ms.numB (bits .and .i64 own 4) (m.frame) (0) (1048576))) && (Ms.numB (bits .and .i64 own 8) (m.code) (0) (9))) && (Ms.numB (bits .and .i64 own 16) (m.n) (0) (65535))) && (Ms.numB (bits .and .i64 own 32) (m.of) ((IntKind.i64.wrap (m.n + 1))) (65535))) && (((bits .and .i64 own 64) != 0) || (m.bits == 0))) && (((bits .and .i64 own 128) != 0) || (m.sum == 0))) && (Ms.numB (bits .and .i64 own 256) ((m.ins.length : Int)) (1) (16))) && (Ms.numB (bits .and .i64 own 512) ((m.log.length : Int)) (1) (16))) == true))) (v := .int .i64 (m.data.length : Int)) rfl (by rw [S]; decide) (Slim.wanted_g rfl rfl H78) (Slim.len_g rfl H81 (fun h => h) (by go_simp; first | done | rfl)) fun a76 o => ?_
  replace S := o.size.trans S; replace D := o.defers.trans D
  replace H78 := Slim.stays o H78 (by decide)
  replace H79 := Slim.stays o H79 (by decide)
  have H82 : Slim.Has a76 82 (true && (((((((((((Ms.numB (bits .and .i64 own 1) (m.slot) (0) (7)) && (Ms.numB (bits .and .i64 own 2) (m.gen) (1) (60000))) && (Ms.numB (bits .and .i64 own 4) (m.frame) (0) (1048576))) && (Ms.numB (bits .and .i64 own 8) (m.code) (0) (9))) && (Ms.numB (bits .and .i64 own 16) (m.n) (0) (65535))) && (Ms.numB (bits .and .i64 own 32) (m.of) ((IntKind.i64.wrap (m.n + 1))) (65535))) && (((bits .and .i64 own 64) != 0) || (m.bits == 0))) && (((bits .and .i64 own 128) != 0) || (m.sum == 0))) && (Ms.numB (bits .and .i64 own 256) ((m.ins.length : Int)) (1) (16))) && (Ms.numB (bits .and .i64 own 512) ((m.log.length : Int)) (1) (16))) == true)) (.int .i64 (m.data.length : Int)) := o.here
  clear H81
  clear o
  refine Slim.call0_g (t := 83) (c := (true && (((((((((((Ms.numB (bits .and .i64 own 1) (m.slot) (0) (7)) && (Ms.numB (bits .and .i64 own 2) (m.gen) (1) (60000))) && (Ms.numB (bits .and .i64 own 4) (m.frame) (0) (1048576))) && (Ms.numB (bits .and .i64 own 8) (m.code) (0) (9))) && (Ms.numB (bits .and .i64 own 16) (m.n) (0) (65535))) && (Ms.numB (bits .and .i64 own 32) (m.of) ((IntKind.i64.wrap (m.n + 1))) (65535))) && (((bits .and .i64 own 64) != 0) || (m.bits == 0))) && (((bits .and .i64 own 128) != 0) || (m.sum == 0))) && (Ms.numB (bits .and .i64 own 256) ((m.ins.length : Int)) (1) (16))) && (Ms.numB (bits .and .i64 own 512) ((m.log.length : Int)) (1) (16))) == true))) (v := .bool (Ms.numB (bits .and .i64 own 1024) ((m.data.length : Int)) (1) (64))) rfl (by rw [S]; decide) (Slim.wanted_g rfl rfl H78) (Slim.callv_g (f := 55) (xs := [.const (.int .i64 1024), .tmp 82, .const (.int .i64 1), .const (.int .i64 64)]) (vs := [.int .i64 1024, .int .i64 (m.data.length : Int), .int .i64 1, .int .i64 64]) (args := #[.int .i64 1024, .int .i64 (m.data.length : Int), .int .i64 1, .int .i64 64, .pointer (some ⟨O, 0, none⟩)]) rfl H79 (fun h => h) (fun h0 => by simp only [List.map_cons, List.map_nil, Slim.pres H82 ((fun h => h) h0)]; rfl) rfl (by go_simp; first | done | rfl)) (fun _ => number_any own 1024 ((m.data.length : Int)) (1) (64) O _ BO.out) fun a77 o => ?_
  replace S := o.size.trans S; replace D := o.defers.trans D
  replace H78 := Slim.stays o H78 (by decide)
  have H83 : Slim.Has a77 83 (true && (((((((((((Ms.numB (bits .and .i64 own 1) (m.slot) (0) (7)) && (Ms.numB (bits .and .i64 own 2) (m.gen) (1) (60000))) && (Ms.numB (bits .and .i64 own 4) (m.frame) (0) (1048576))) && (Ms.numB (bits .and .i64 own 8) (m.code) (0) (9))) && (Ms.numB (bits .and .i64 own 16) (m.n) (0) (65535))) && (Ms.numB (bits .and .i64 own 32) (m.of) ((IntKind.i64.wrap (m.n + 1))) (65535))) && (((bits .and .i64 own 64) != 0) || (m.bits == 0))) && (((bits .and .i64 own 128) != 0) || (m.sum == 0))) && (Ms.numB (bits .and .i64 own 256) ((m.ins.length : Int)) (1) (16))) && (Ms.numB (bits .and .i64 own 512) ((m.log.length : Int)) (1) (16))) == true)) (.bool (Ms.numB (bits .and .i64 own 1024) ((m.data.length : Int)) (1) (64))) := o.here
  clear H79
  clear H82
  clear o
  refine Slim.val_g (t := 84) (c := true) (v := .bool (((((((((((Ms.numB (bits .and .i64 own 1) (m.slot) (0) (7)) && (Ms.numB (bits .and .i64 own 2) (m.gen) (1) (60000))) && (Ms.numB (bits .and .i64 own 4) (m.frame) (0) (1048576))) && (Ms.numB (bits .and .i64 own 8) (m.code) (0) (9))) && (Ms.numB (bits .and .i64 own 16) (m.n) (0) (65535))) && (Ms.numB (bits .and .i64 own 32) (m.of) ((IntKind.i64.wrap (m.n + 1))) (65535))) && (((bits .and .i64 own 64) != 0) || (m.bits == 0))) && (((bits .and .i64 own 128) != 0) || (m.sum == 0))) && (Ms.numB (bits .and .i64 own 256) ((m.ins.length : Int)) (1) (16))) && (Ms.numB (bits .and .i64 own 512) ((m.log.length : Int)) (1) (16))) && (Ms.numB (bits .and .i64 own 1024) ((m.data.length : Int)) (1) (64)))) rfl (by rw [S]; decide) (Slim.wants_all rfl) (Slim.and_g rfl H78 H83 (fun h => h) (fun h1 h2 => Bool.and_eq_true_iff.2 ⟨h1, by rw [h2]; rfl⟩)) fun a78 o => ?_
  replace S := o.size.trans S; replace D := o.defers.trans D
  have H84 : Slim.Has a78 84 true (.bool (((((((((((Ms.numB (bits .and .i64 own 1) (m.slot) (0) (7)) && (Ms.numB (bits .and .i64 own 2) (m.gen) (1) (60000))) && (Ms.numB (bits .and .i64 own 4) (m.frame) (0) (1048576))) && (Ms.numB (bits .and .i64 own 8) (m.code) (0) (9))) && (Ms.numB (bits .and .i64 own 16) (m.n) (0) (65535))) && (Ms.numB (bits .and .i64 own 32) (m.of) ((IntKind.i64.wrap (m.n + 1))) (65535))) && (((bits .and .i64 own 64) != 0) || (m.bits == 0))) && (((bits .and .i64 own 128) != 0) || (m.sum == 0))) && (Ms.numB (bits .and .i64 own 256) ((m.ins.length : Int)) (1) (16))) && (Ms.numB (bits .and .i64 own 512) ((m.log.length : Int)) (1) (16))) && (Ms.numB (bits .and .i64 own 1024) ((m.data.length : Int)) (1) (64)))) := o.here
  clear H78
  clear H83
  clear o
  refine Slim.val_g (t := 4) (c := true) (v := .bool (((((((((((Ms.numB (bits .and .i64 own 1) (m.slot) (0) (7)) && (Ms.numB (bits .and .i64 own 2) (m.gen) (1) (60000))) && (Ms.numB (bits .and .i64 own 4) (m.frame) (0) (1048576))) && (Ms.numB (bits .and .i64 own 8) (m.code) (0) (9))) && (Ms.numB (bits .and .i64 own 16) (m.n) (0) (65535))) && (Ms.numB (bits .and .i64 own 32) (m.of) ((IntKind.i64.wrap (m.n + 1))) (65535))) && (((bits .and .i64 own 64) != 0) || (m.bits == 0))) && (((bits .and .i64 own 128) != 0) || (m.sum == 0))) && (Ms.numB (bits .and .i64 own 256) ((m.ins.length : Int)) (1) (16))) && (Ms.numB (bits .and .i64 own 512) ((m.log.length : Int)) (1) (16))) && (Ms.numB (bits .and .i64 own 1024) ((m.data.length : Int)) (1) (64)))) rfl (by rw [S]; decide) (Slim.wants_all rfl) (Slim.assign_g rfl H84 (fun h => h)) fun a79 o => ?_
  replace S := o.size.trans S; replace D := o.defers.trans D
  have H4 : Slim.Has a79 4 true (.bool (((((((((((Ms.numB (bits .and .i64 own 1) (m.slot) (0) (7)) && (Ms.numB (bits .and .i64 own 2) (m.gen) (1) (60000))) && (Ms.numB (bits .and .i64 own 4) (m.frame) (0) (1048576))) && (Ms.numB (bits .and .i64 own 8) (m.code) (0) (9))) && (Ms.numB (bits .and .i64 own 16) (m.n) (0) (65535))) && (Ms.numB (bits .and .i64 own 32) (m.of) ((IntKind.i64.wrap (m.n + 1))) (65535))) && (((bits .and .i64 own 64) != 0) || (m.bits == 0))) && (((bits .and .i64 own 128) != 0) || (m.sum == 0))) && (Ms.numB (bits .and .i64 own 256) ((m.ins.length : Int)) (1) (16))) && (Ms.numB (bits .and .i64 own 512) ((m.log.length : Int)) (1) (16))) && (Ms.numB (bits .and .i64 own 1024) ((m.data.length : Int)) (1) (64)))) := o.here
  clear H84
  clear o
  refine wpList_nil ?_
  refine (by assumption : ∀ a w, Code.wp Try.prog _ _ a w → _) _ _ ?_
  refine wp_ret ?_
  (try simp only [Exit.inBlock, Exit.then])
  exact on_ret rfl D H4 ⟨rfl, KB.out⟩
end Go.Proofs.Ytgmlbimgcifenaa
