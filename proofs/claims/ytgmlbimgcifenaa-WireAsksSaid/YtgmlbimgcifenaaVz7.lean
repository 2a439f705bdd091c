/-
Several texts in one: Zn Zf Zby.
-/
import Derived.Test.YtgmlbimgcifenaaVz6
set_option maxRecDepth 100000
set_option maxHeartbeats 8000000
set_option linter.unusedVariables false
set_option linter.unusedSimpArgs false
namespace Ms
open Go
def numB (z v lo hi : Int) : Bool := if z = 0 then v == 0 else decide (lo ≤ v) && decide (v ≤ hi)
def mayP (own : Int) (m : M) : Bool := (((((((((((Ms.numB (bits .and .i64 own 1) (m.slot) (0) (7)) && (Ms.numB (bits .and .i64 own 2) (m.gen) (1) (60000))) && (Ms.numB (bits .and .i64 own 4) (m.frame) (0) (1048576))) && (Ms.numB (bits .and .i64 own 8) (m.code) (0) (9))) && (Ms.numB (bits .and .i64 own 16) (m.n) (0) (65535))) && (Ms.numB (bits .and .i64 own 32) (m.of) ((IntKind.i64.wrap (m.n + 1))) (65535))) && (((bits .and .i64 own 64) != 0) || (m.bits == 0))) && (((bits .and .i64 own 128) != 0) || (m.sum == 0))) && (Ms.numB (bits .and .i64 own 256) ((m.ins.length : Int)) (1) (16))) && (Ms.numB (bits .and .i64 own 512) ((m.log.length : Int)) (1) (16))) && (Ms.numB (bits .and .i64 own 1024) ((m.data.length : Int)) (1) (64)))
end Ms
namespace Go.Proofs.Ytgmlbimgcifenaa
open Go.RowKit Go.Shelf
theorem number_any (own wh v lo hi : Int) (tq : Nat) (w : World) (ho : Box w tq 72 #[.int .i64 own]) :
    Calls Try.prog 55 #[.int .i64 wh, .int .i64 v, .int .i64 lo, .int .i64 hi, .pointer (some ⟨tq, 0, none⟩)] w fun e w' => e = .returned (.bool (Ms.numB (bits .and .i64 own wh) v lo hi)) ∧ w = w' := by
  have o0 := ho.cell 0
  obtain ⟨z, hz⟩ : ∃ z, z = bits .and .i64 own wh := ⟨_, rfl⟩
  have hz' := hz.symm
  rw [← hz]
  clear ho hz
  by_cases h0 : z = 0
  · subst h0
    go_enter Try.func55, Try.ntmps55
    go_wp2
    go_ret
    exact ⟨ret_bool (by unfold Ms.numB; simp), rfl⟩
  · have hb : (z == 0) = false := by simpa using h0
    have H0 := qh h0
    clear h0
    by_cases h1 : lo ≤ v
    · go_enter Try.func55, Try.ntmps55
      go_wp2
      all_goals
        go_ret
        exact ⟨ret_bool (by unfold Ms.numB; rw [if_neg H0.out, decide_eq_true h1]; simp <;> omega), rfl⟩
    · go_enter Try.func55, Try.ntmps55
      go_wp2
      go_ret
      exact ⟨ret_bool (by unfold Ms.numB; rw [if_neg H0.out, decide_eq_false (by omega)]; simp), rfl⟩
theorem mayparts_any (own : Int) (q : Ms.S) (w : World) (fi : q.m.ins.length ≤ maxLen) (fl : q.m.log.length ≤ maxLen) (fd : q.m.data.length ≤ maxLen) :
    Calls Try.prog 35 #[.int .i64 own, .agg q.cells] w fun e w' => e = .returned (.bool (Ms.mayP own q.m)) ∧ Below w.heap.size w w' := by
  have KB := qh (((Below.refl w.heap.size w).alloc (Nat.le_refl _) (.cells #[.int .i64 own] 72)).alloc (by simp) (.cells q.cells 29))
  have BO := qh ((Box.made w 72 #[.int .i64 own]).alloc (.cells q.cells 29))
  have BX := qh (Box.made (w.alloc (.cells #[.int .i64 own] 72)) 29 q.cells)
  have hmf : ∀ (fn : Fn) (first cap : Array Value) (w : World), (Instr.makeFunc fn first cap).run Try.prog w = .ok (.func fn first cap) w := fun _ _ _ _ => rfl
  obtain ⟨m, ai, ci, al, cl, ad, cd⟩ := q
  dsimp only at fi fl fd ⊢
  unfold maxLen at fi fl fd
  go_enter Try.func35, Try.ntmps35
  go_upto_region 2 with fail
  generalize hW : (w.alloc (.cells #[.int .i64 own] 72)).alloc (.cells (Ms.S.cells ⟨m, ai, ci, al, cl, ad, cd⟩) 29) = W0 at *
  generalize hB2 : (w.alloc (.cells #[.int .i64 own] 72)).heap.size = B at *
  obtain ⟨O, hO⟩ : ∃ O, O = w.heap.size := ⟨_, rfl⟩
  rw [← hO] at BO
  refine Slim.forget 85 rfl rfl fun a0 S D hf => ?_
  have H2 : Slim.Has a0 2 true (.pointer (some ⟨O, 0, none⟩)) := by rw [hO]; exact hf 2 _ rfl
  have H3 : Slim.Has a0 3 true (.pointer (some ⟨B, 0, none⟩)) := hf 3 _ (by rw [← hB2]; simp; first | done | rfl)
  have H5 : Slim.Has a0 5 true (.func (.func 55) #[] #[.pointer (some ⟨O, 0, none⟩)]) := by rw [hO]; exact hf 5 _ rfl
  clear hf hW hB2 hO
  refine wp_region_lit ?_
  refine Slim.va rfl rfl S D (Slim.move_g rfl H5 id) fun a1 o S D H7 => ?_
  replace H2 := o.st H2
  replace H3 := o.st H3
  replace H5 := o.st H5
  refine Slim.va (v := .pointer (some ⟨B, 5, none⟩)) rfl rfl S D (Slim.field_g rfl H3 id (by go_simp; first | done | rfl)) fun a2 o S D H8 => ?_
  replace H2 := o.st H2
  replace H3 := o.st H3
  replace H5 := o.st H5
  replace H7 := o.st H7
  refine Slim.va (v := .int .i64 m.slot) rfl rfl S D (Slim.load_g rfl H8 id (by have k := BX.out.cell 5; go_simp; first | done | rfl)) fun a3 o S D H9 => ?_
  replace H2 := o.st H2
  replace H3 := o.st H3
  replace H5 := o.st H5
  replace H7 := o.st H7
  clear H8 o
  refine Slim.call0_g (t := 10) (c := true) (v := .bool (Ms.numB (bits .and .i64 own 1) (m.slot) (0) (7))) rfl (by rw [S]; decide) (Slim.wants_all rfl) (Slim.callv_g (f := 55) (xs := [.const (.int .i64 1), .tmp 9, .const (.int .i64 0), .const (.int .i64 7)]) (vs := [.int .i64 1, .int .i64 m.slot, .int .i64 0, .int .i64 7]) (args := #[.int .i64 1, .int .i64 m.slot, .int .i64 0, .int .i64 7, .pointer (some ⟨O, 0, none⟩)]) rfl H7 id (fun h0 => by simp only [List.map_cons, List.map_nil, Slim.pres H9 (id h0)]; rfl) rfl (by go_simp; first | done | rfl)) (fun _ => number_any own 1 (m.slot) (0) (7) O _ BO.out) fun a4 o => ?_
  replace S := o.size.trans S; replace D := o.defers.trans D
  replace H2 := o.st H2
  replace H3 := o.st H3
  replace H5 := o.st H5
  have H10 : Slim.Has a4 10 true (.bool (Ms.numB (bits .and .i64 own 1) (m.slot) (0) (7))) := o.here
  clear H7
  clear H9
  refine Slim.va rfl rfl S D (Slim.move_g rfl H10 id) fun a5 o S D H11 => ?_
  replace H2 := o.st H2
  replace H3 := o.st H3
  replace H5 := o.st H5
  clear H10 o
  refine Slim.vg rfl S D rfl rfl H11 (Slim.move_g rfl H5 (fun _ => rfl)) fun a6 o S D H12 => ?_
  replace H2 := o.st H2
  replace H3 := o.st H3
  replace H5 := o.st H5
  replace H11 := o.st H11
  refine Slim.vg (v := .pointer (some ⟨B, 6, none⟩)) rfl S D rfl rfl H11 (Slim.field_g rfl H3 (fun _ => rfl) (by go_simp; first | done | rfl)) fun a7 o S D H13 => ?_
  replace H2 := o.st H2
  replace H3 := o.st H3
  replace H5 := o.st H5
  replace H11 := o.st H11
  replace H12 := o.st H12
  refine Slim.vg (v := .int .i64 m.gen) rfl S D rfl rfl H11 (Slim.load_g rfl H13 id (by have k := BX.out.cell 6; go_simp; first | done | rfl)) fun a8 o S D H14 => ?_
  replace H2 := o.st H2
  replace H3 := o.st H3
  replace H5 := o.st H5
  replace H11 := o.st H11
  replace H12 := o.st H12
  clear H13 o
  refine Slim.call0_g (t := 15) (c := (true && ((Ms.numB (bits .and .i64 own 1) (m.slot) (0) (7)) == true))) (v := .bool (Ms.numB (bits .and .i64 own 2) (m.gen) (1) (60000))) rfl (by rw [S]; decide) (Slim.wanted_g rfl rfl H11) (Slim.callv_g (f := 55) (xs := [.const (.int .i64 2), .tmp 14, .const (.int .i64 1), .const (.int .i64 60000)]) (vs := [.int .i64 2, .int .i64 m.gen, .int .i64 1, .int .i64 60000]) (args := #[.int .i64 2, .int .i64 m.gen, .int .i64 1, .int .i64 60000, .pointer (some ⟨O, 0, none⟩)]) rfl H12 id (fun h0 => by simp only [List.map_cons, List.map_nil, Slim.pres H14 (id h0)]; rfl) rfl (by go_simp; first | done | rfl)) (fun _ => number_any own 2 (m.gen) (1) (60000) O _ BO.out) fun a9 o => ?_
  replace S := o.size.trans S; replace D := o.defers.trans D
  replace H2 := o.st H2
  replace H3 := o.st H3
  replace H5 := o.st H5
  replace H11 := o.st H11
  have H15 : Slim.Has a9 15 (true && ((Ms.numB (bits .and .i64 own 1) (m.slot) (0) (7)) == true)) (.bool (Ms.numB (bits .and .i64 own 2) (m.gen) (1) (60000))) := o.here
  clear H12
  clear H14
  refine Slim.va rfl rfl S D (Slim.and_g rfl H11 H15 id (fun h1 h2 => Bool.and_eq_true_iff.2 ⟨h1, by rw [h2]; rfl⟩)) fun a10 o S D H16 => ?_
  replace H2 := o.st H2
  replace H3 := o.st H3
  replace H5 := o.st H5
  clear H11 H15 o
  refine Slim.va rfl rfl S D (Slim.move_g rfl H16 id) fun a11 o S D H17 => ?_
  replace H2 := o.st H2
  replace H3 := o.st H3
  replace H5 := o.st H5
  clear H16 o
  refine Slim.vg rfl S D rfl rfl H17 (Slim.move_g rfl H5 (fun _ => rfl)) fun a12 o S D H18 => ?_
  replace H2 := o.st H2
  replace H3 := o.st H3
  replace H5 := o.st H5
  replace H17 := o.st H17
  refine Slim.vg (v := .pointer (some ⟨B, 7, none⟩)) rfl S D rfl rfl H17 (Slim.field_g rfl H3 (fun _ => rfl) (by go_simp; first | done | rfl)) fun a13 o S D H19 => ?_
  replace H2 := o.st H2
  replace H3 := o.st H3
  replace H5 := o.st H5
  replace H17 := o.st H17
  replace H18 := o.st H18
  refine Slim.vg (v := .int .i64 m.frame) rfl S D rfl rfl H17 (Slim.load_g rfl H19 id (by have k := BX.out.cell 7; go_simp; first | done | rfl)) fun a14 o S D H20 => ?_
  replace H2 := o.st H2
  replace H3 := o.st H3
  replace H5 := o.st H5
  replace H17 := o.st H17
  replace H18 := o.st H18
  clear H19 o
  refine Slim.call0_g (t := 21) (c := (true && (((Ms.numB (bits .and .i64 own 1) (m.slot) (0) (7)) && (Ms.numB (bits .and .i64 own 2) (m.gen) (1) (60000))) == true))) (v := .bool (Ms.numB (bits .and .i64 own 4) (m.frame) (0) (1048576))) rfl (by rw [S]; decide) (Slim.wanted_g rfl rfl H17) (Slim.callv_g (f := 55) (xs := [.const (.int .i64 4), .tmp 20, .const (.int .i64 0), .const (.int .i64 1048576)]) (vs := [.int .i64 4, .int .i64 m.frame, .int .i64 0, .int .i64 1048576]) (args := #[.int .i64 4, .int .i64 m.frame, .int .i64 0, .int .i64 1048576, .pointer (some ⟨O, 0, none⟩)]) rfl H18 id (fun h0 => by simp only [List.map_cons, List.map_nil, Slim.pres H20 (id h0)]; rfl) rfl (by go_simp; first | done | rfl)) (fun _ => number_any own 4 (m.frame) (0) (1048576) O _ BO.out) fun a15 o => ?_
  replace S := o.size.trans S; replace D := o.defers.trans D
  replace H2 := o.st H2
  replace H3 := o.st H3
  replace H5 := o.st H5
  replace H17 := o.st H17
  have H21 : Slim.Has a15 21 (true && (((Ms.numB (bits .and .i64 own 1) (m.slot) (0) (7)) && (Ms.numB (bits .and .i64 own 2) (m.gen) (1) (60000))) == true)) (.bool (Ms.numB (bits .and .i64 own 4) (m.frame) (0) (1048576))) := o.here
  clear H18
  clear H20
  refine Slim.va rfl rfl S D (Slim.and_g rfl H17 H21 id (fun h1 h2 => Bool.and_eq_true_iff.2 ⟨h1, by rw [h2]; rfl⟩)) fun a16 o S D H22 => ?_
  replace H2 := o.st H2
  replace H3 := o.st H3
  replace H5 := o.st H5
  clear H17 H21 o
  refine Slim.va rfl rfl S D (Slim.move_g rfl H22 id) fun a17 o S D H23 => ?_
  replace H2 := o.st H2
  replace H3 := o.st H3
  replace H5 := o.st H5
  clear H22 o
  refine Slim.vg rfl S D rfl rfl H23 (Slim.move_g rfl H5 (fun _ => rfl)) fun a18 o S D H24 => ?_
  replace H2 := o.st H2
  replace H3 := o.st H3
  replace H5 := o.st H5
  replace H23 := o.st H23
  refine Slim.vg (v := .pointer (some ⟨B, 8, none⟩)) rfl S D rfl rfl H23 (Slim.field_g rfl H3 (fun _ => rfl) (by go_simp; first | done | rfl)) fun a19 o S D H25 => ?_
  replace H2 := o.st H2
  replace H3 := o.st H3
  replace H5 := o.st H5
  replace H23 := o.st H23
  replace H24 := o.st H24
  refine Slim.vg (v := .int .i64 m.code) rfl S D rfl rfl H23 (Slim.load_g rfl H25 id (by have k := BX.out.cell 8; go_simp; first | done | rfl)) fun a20 o S D H26 => ?_
  replace H2 := o.st H2
  replace H3 := o.st H3
  replace H5 := o.st H5
  replace H23 := o.st H23
  replace H24 := o.st H24
  clear H25 o
  refine Slim.call0_g (t := 27) (c := (true && ((((Ms.numB (bits .and .i64 own 1) (m.slot) (0) (7)) && (Ms.numB (bits .and .i64 own 2) (m.gen) (1) (60000))) && (Ms.numB (bits .and .i64 own 4) (m.frame) (0) (1048576))) == true))) (v := .bool (Ms.numB (bits .and .i64 own 8) (m.code) (0) (9))) rfl (by rw [S]; decide) (Slim.wanted_g rfl rfl H23) (Slim.callv_g (f := 55) (xs := [.const (.int .i64 8), .tmp 26, .const (.int .i64 0), .const (.int .i64 9)]) (vs := [.int .i64 8, .int .i64 m.code, .int .i64 0, .int .i64 9]) (args := #[.int .i64 8, .int .i64 m.code, .int .i64 0, .int .i64 9, .pointer (some ⟨O, 0, none⟩)]) rfl H24 id (fun h0 => by simp only [List.map_cons, List.map_nil, Slim.pres H26 (id h0)]; rfl) rfl (by go_simp; first | done | rfl)) (fun _ => number_any own 8 (m.code) (0) (9) O _ BO.out) fun a21 o => ?_
  replace S := o.size.trans S; replace D := o.defers.trans D
  replace H2 := o.st H2
  replace H3 := o.st H3
  replace H5 := o.st H5
  replace H23 := o.st H23
  have H27 : Slim.Has a21 27 (true && ((((Ms.numB (bits .and .i64 own 1) (m.slot) (0) (7)) && (Ms.numB (bits .and .i64 own 2) (m.gen) (1) (60000))) && (Ms.numB (bits .and .i64 own 4) (m.frame) (0) (1048576))) == true)) (.bool (Ms.numB (bits .and .i64 own 8) (m.code) (0) (9))) := o.here
  clear H24
  clear H26
  refine Slim.va rfl rfl S D (Slim.and_g rfl H23 H27 id (fun h1 h2 => Bool.and_eq_true_iff.2 ⟨h1, by rw [h2]; rfl⟩)) fun a22 o S D H28 => ?_
  replace H2 := o.st H2
  replace H3 := o.st H3
  replace H5 := o.st H5
  clear H23 H27 o
  refine Slim.va rfl rfl S D (Slim.move_g rfl H28 id) fun a23 o S D H29 => ?_
  replace H2 := o.st H2
  replace H3 := o.st H3
  replace H5 := o.st H5
  clear H28 o
  refine Slim.vg rfl S D rfl rfl H29 (Slim.move_g rfl H5 (fun _ => rfl)) fun a24 o S D H30 => ?_
  replace H2 := o.st H2
  replace H3 := o.st H3
  replace H5 := o.st H5
  replace H29 := o.st H29
  refine Slim.vg (v := .pointer (some ⟨B, 9, none⟩)) rfl S D rfl rfl H29 (Slim.field_g rfl H3 (fun _ => rfl) (by go_simp; first | done | rfl)) fun a25 o S D H31 => ?_
  replace H2 := o.st H2
  replace H3 := o.st H3
  replace H5 := o.st H5
  replace H29 := o.st H29
  replace H30 := o.st H30
  refine Slim.vg (v := .int .i64 m.n) rfl S D rfl rfl H29 (Slim.load_g rfl H31 id (by have k := BX.out.cell 9; go_simp; first | done | rfl)) fun a26 o S D H32 => ?_
  replace H2 := o.st H2
  replace H3 := o.st H3
  replace H5 := o.st H5
  replace H29 := o.st H29
  replace H30 := o.st H30
  clear H31 o
  refine Slim.call0_g (t := 33) (c := (true && (((((Ms.numB (bits .and .i64 own 1) (m.slot) (0) (7)) && (Ms.numB (bits .and .i64 own 2) (m.gen) (1) (60000))) && (Ms.numB (bits .and .i64 own 4) (m.frame) (0) (1048576))) && (Ms.numB (bits .and .i64 own 8) (m.code) (0) (9))) == true))) (v := .bool (Ms.numB (bits .and .i64 own 16) (m.n) (0) (65535))) rfl (by rw [S]; decide) (Slim.wanted_g rfl rfl H29) (Slim.callv_g (f := 55) (xs := [.const (.int .i64 16), .tmp 32, .const (.int .i64 0), .const (.int .i64 65535)]) (vs := [.int .i64 16, .int .i64 m.n, .int .i64 0, .int .i64 65535]) (args := #[.int .i64 16, .int .i64 m.n, .int .i64 0, .int .i64 65535, .pointer (some ⟨O, 0, none⟩)]) rfl H30 id (fun h0 => by simp only [List.map_cons, List.map_nil, Slim.pres H32 (id h0)]; rfl) rfl (by go_simp; first | done | rfl)) (fun _ => number_any own 16 (m.n) (0) (65535) O _ BO.out) fun a27 o => ?_
  replace S := o.size.trans S; replace D := o.defers.trans D
  replace H2 := o.st H2
  replace H3 := o.st H3
  replace H5 := o.st H5
  replace H29 := o.st H29
  have H33 : Slim.Has a27 33 (true && (((((Ms.numB (bits .and .i64 own 1) (m.slot) (0) (7)) && (Ms.numB (bits .and .i64 own 2) (m.gen) (1) (60000))) && (Ms.numB (bits .and .i64 own 4) (m.frame) (0) (1048576))) && (Ms.numB (bits .and .i64 own 8) (m.code) (0) (9))) == true)) (.bool (Ms.numB (bits .and .i64 own 16) (m.n) (0) (65535))) := o.here
  clear H30
  clear H32
  refine Slim.va rfl rfl S D (Slim.and_g rfl H29 H33 id (fun h1 h2 => Bool.and_eq_true_iff.2 ⟨h1, by rw [h2]; rfl⟩)) fun a28 o S D H34 => ?_
  replace H2 := o.st H2
  replace H3 := o.st H3
  replace H5 := o.st H5
  clear H29 H33 o
  refine Slim.va rfl rfl S D (Slim.move_g rfl H34 id) fun a29 o S D H35 => ?_
  replace H2 := o.st H2
  replace H3 := o.st H3
  replace H5 := o.st H5
  clear H34 o
  refine Slim.vg rfl S D rfl rfl H35 (Slim.move_g rfl H5 (fun _ => rfl)) fun a30 o S D H36 => ?_
  replace H2 := o.st H2
  replace H3 := o.st H3
  replace H5 := o.st H5
  replace H35 := o.st H35
  refine Slim.vg (v := .pointer (some ⟨B, 10, none⟩)) rfl S D rfl rfl H35 (Slim.field_g rfl H3 (fun _ => rfl) (by go_simp; first | done | rfl)) fun a31 o S D H37 => ?_
  replace H2 := o.st H2
  replace H3 := o.st H3
  replace H5 := o.st H5
  replace H35 := o.st H35
  replace H36 := o.st H36
  refine Slim.vg (v := .int .i64 m.of) rfl S D rfl rfl H35 (Slim.load_g rfl H37 id (by have k := BX.out.cell 10; go_simp; first | done | rfl)) fun a32 o S D H38 => ?_
  replace H2 := o.st H2
  replace H3 := o.st H3
  replace H5 := o.st H5
  replace H35 := o.st H35
  replace H36 := o.st H36
  clear H37 o
  refine Slim.vg (v := .pointer (some ⟨B, 9, none⟩)) rfl S D rfl rfl H35 (Slim.field_g rfl H3 (fun _ => rfl) (by go_simp; first | done | rfl)) fun a33 o S D H39 => ?_
  replace H2 := o.st H2
  replace H3 := o.st H3
  replace H5 := o.st H5
  replace H35 := o.st H35
  replace H36 := o.st H36
  replace H38 := o.st H38
  refine Slim.vg (v := .int .i64 m.n) rfl S D rfl rfl H35 (Slim.load_g rfl H39 id (by have k := BX.out.cell 9; go_simp; first | done | rfl)) fun a34 o S D H40 => ?_
  replace H2 := o.st H2
  replace H3 := o.st H3
  replace H5 := o.st H5
  replace H35 := o.st H35
  replace H36 := o.st H36
  replace H38 := o.st H38
  clear H39 o
  refine Slim.vg (v := .int .i64 (IntKind.i64.wrap (m.n + 1))) rfl S D rfl rfl H35 (Slim.bin_g rfl H40 id (fun _ _ => by go_simp)) fun a35 o S D H41 => ?_
  replace H2 := o.st H2
  replace H3 := o.st H3
  replace H5 := o.st H5
  replace H35 := o.st H35
  replace H36 := o.st H36
  replace H38 := o.st H38
  clear H40 o
  refine Slim.call0_g (t := 42) (c := (true && ((((((Ms.numB (bits .and .i64 own 1) (m.slot) (0) (7)) && (Ms.numB (bits .and .i64 own 2) (m.gen) (1) (60000))) && (Ms.numB (bits .and .i64 own 4) (m.frame) (0) (1048576))) && (Ms.numB (bits .and .i64 own 8) (m.code) (0) (9))) && (Ms.numB (bits .and .i64 own 16) (m.n) (0) (65535))) == true))) (v := .bool (Ms.numB (bits .and .i64 own 32) (m.of) ((IntKind.i64.wrap (m.n + 1))) (65535))) rfl (by rw [S]; decide) (Slim.wanted_g rfl rfl H35) (Slim.callv_g (f := 55) (xs := [.const (.int .i64 32), .tmp 38, .tmp 41, .const (.int .i64 65535)]) (vs := [.int .i64 32, .int .i64 m.of, .int .i64 (IntKind.i64.wrap (m.n + 1)), .int .i64 65535]) (args := #[.int .i64 32, .int .i64 m.of, .int .i64 (IntKind.i64.wrap (m.n + 1)), .int .i64 65535, .pointer (some ⟨O, 0, none⟩)]) rfl H36 id (fun h0 => by simp only [List.map_cons, List.map_nil, Slim.pres H38 (id h0), Slim.pres H41 (id h0)]; rfl) rfl (by go_simp; first | done | rfl)) (fun _ => number_any own 32 (m.of) ((IntKind.i64.wrap (m.n + 1))) (65535) O _ BO.out) fun a36 o => ?_
  replace S := o.size.trans S; replace D := o.defers.trans D
  replace H2 := o.st H2
  replace H3 := o.st H3
  replace H5 := o.st H5
  replace H35 := o.st H35
  have H42 : Slim.Has a36 42 (true && ((((((Ms.numB (bits .and .i64 own 1) (m.slot) (0) (7)) && (Ms.numB (bits .and .i64 own 2) (m.gen) (1) (60000))) && (Ms.numB (bits .and .i64 own 4) (m.frame) (0) (1048576))) && (Ms.numB (bits .and .i64 own 8) (m.code) (0) (9))) && (Ms.numB (bits .and .i64 own 16) (m.n) (0) (65535))) == true)) (.bool (Ms.numB (bits .and .i64 own 32) (m.of) ((IntKind.i64.wrap (m.n + 1))) (65535))) := o.here
  clear H36
  clear H38
  clear H41
  refine Slim.va rfl rfl S D (Slim.and_g rfl H35 H42 id (fun h1 h2 => Bool.and_eq_true_iff.2 ⟨h1, by rw [h2]; rfl⟩)) fun a37 o S D H43 => ?_
  replace H2 := o.st H2
  replace H3 := o.st H3
  replace H5 := o.st H5
  clear H35 H42 o
  refine Slim.va rfl rfl S D (Slim.move_g rfl H43 id) fun a38 o S D H44 => ?_
  replace H2 := o.st H2
  replace H3 := o.st H3
  replace H5 := o.st H5
  clear H43 o
  refine Slim.vg (v := .int .i64 own) rfl S D rfl rfl H44 (Slim.load_g rfl H2 (fun _ => rfl) (by have k := BO.out.cell 0; go_simp; first | done | rfl)) fun a39 o S D H45 => ?_
  replace H2 := o.st H2
  replace H3 := o.st H3
  replace H5 := o.st H5
  replace H44 := o.st H44
  refine Slim.vg rfl S D rfl rfl H44 (Slim.andc_g rfl H45 id) fun a40 o S D H46 => ?_
  replace H2 := o.st H2
  replace H3 := o.st H3
  replace H5 := o.st H5
  replace H44 := o.st H44
  clear H45 o
  refine Slim.vg rfl S D rfl rfl H44 (Slim.bin_g rfl H46 id (fun _ _ => Slim.cmp_neq)) fun a41 o S D H47 => ?_
  replace H2 := o.st H2
  replace H3 := o.st H3
  replace H5 := o.st H5
  replace H44 := o.st H44
  clear H46 o
  refine Slim.vg rfl S D rfl rfl H44 (Slim.move_g rfl H47 id) fun a42 o S D H48 => ?_
  replace H2 := o.st H2
  replace H3 := o.st H3
  replace H5 := o.st H5
  replace H44 := o.st H44
  clear H47 o
  refine Slim.vg (v := .pointer (some ⟨B, 11, none⟩)) rfl S D rfl rfl H48 (Slim.field_g rfl H3 (fun _ => rfl) (by go_simp; first | done | rfl)) fun a43 o S D H49 => ?_
  replace H2 := o.st H2
  replace H3 := o.st H3
  replace H5 := o.st H5
  replace H44 := o.st H44
  replace H48 := o.st H48
  refine Slim.vg (v := .int .u32 m.bits) rfl S D rfl rfl H48 (Slim.load_g rfl H49 id (by have k := BX.out.cell 11; go_simp; first | done | rfl)) fun a44 o S D H50 => ?_
  replace H2 := o.st H2
  replace H3 := o.st H3
  replace H5 := o.st H5
  replace H44 := o.st H44
  replace H48 := o.st H48
  clear H49 o
  refine Slim.vg rfl S D rfl rfl H48 (Slim.bin_g rfl H50 id (fun _ _ => Slim.cmp_eql)) fun a45 o S D H51 => ?_
  replace H2 := o.st H2
  replace H3 := o.st H3
  replace H5 := o.st H5
  replace H44 := o.st H44
  replace H48 := o.st H48
  clear H50 o
  refine Slim.vg rfl S D rfl rfl H44 (Slim.or_g rfl H48 H51 id (fun h1 h2 => Bool.and_eq_true_iff.2 ⟨h1, by rw [h2]; rfl⟩)) fun a46 o S D H52 => ?_
  replace H2 := o.st H2
  replace H3 := o.st H3
  replace H5 := o.st H5
  replace H44 := o.st H44
  clear H48 H51 o
  refine Slim.va rfl rfl S D (Slim.and_g rfl H44 H52 id (fun h1 h2 => Bool.and_eq_true_iff.2 ⟨h1, by rw [h2]; rfl⟩)) fun a47 o S D H53 => ?_
  replace H2 := o.st H2
  replace H3 := o.st H3
  replace H5 := o.st H5
  clear H44 H52 o
  refine Slim.va rfl rfl S D (Slim.move_g rfl H53 id) fun a48 o S D H54 => ?_
  replace H2 := o.st H2
  replace H3 := o.st H3
  replace H5 := o.st H5
  clear H53 o
  refine Slim.vg (v := .int .i64 own) rfl S D rfl rfl H54 (Slim.load_g rfl H2 (fun _ => rfl) (by have k := BO.out.cell 0; go_simp; first | done | rfl)) fun a49 o S D H55 => ?_
  replace H3 := o.st H3
  replace H5 := o.st H5
  replace H54 := o.st H54
  clear H2 o
  refine Slim.vg rfl S D rfl rfl H54 (Slim.andc_g rfl H55 id) fun a50 o S D H56 => ?_
  replace H3 := o.st H3
  replace H5 := o.st H5
  replace H54 := o.st H54
  clear H55 o
  refine Slim.vg rfl S D rfl rfl H54 (Slim.bin_g rfl H56 id (fun _ _ => Slim.cmp_neq)) fun a51 o S D H57 => ?_
  replace H3 := o.st H3
  replace H5 := o.st H5
  replace H54 := o.st H54
  clear H56 o
  refine Slim.vg rfl S D rfl rfl H54 (Slim.move_g rfl H57 id) fun a52 o S D H58 => ?_
  replace H3 := o.st H3
  replace H5 := o.st H5
  replace H54 := o.st H54
  clear H57 o
  refine Slim.vg (v := .pointer (some ⟨B, 12, none⟩)) rfl S D rfl rfl H58 (Slim.field_g rfl H3 (fun _ => rfl) (by go_simp; first | done | rfl)) fun a53 o S D H59 => ?_
  replace H3 := o.st H3
  replace H5 := o.st H5
  replace H54 := o.st H54
  replace H58 := o.st H58
  refine Slim.vg (v := .int .u64 m.sum) rfl S D rfl rfl H58 (Slim.load_g rfl H59 id (by have k := BX.out.cell 12; go_simp; first | done | rfl)) fun a54 o S D H60 => ?_
  replace H3 := o.st H3
  replace H5 := o.st H5
  replace H54 := o.st H54
  replace H58 := o.st H58
  clear H59 o
  refine Slim.vg rfl S D rfl rfl H58 (Slim.bin_g rfl H60 id (fun _ _ => Slim.cmp_eql)) fun a55 o S D H61 => ?_
  replace H3 := o.st H3
  replace H5 := o.st H5
  replace H54 := o.st H54
  replace H58 := o.st H58
  clear H60 o
  refine Slim.vg rfl S D rfl rfl H54 (Slim.or_g rfl H58 H61 id (fun h1 h2 => Bool.and_eq_true_iff.2 ⟨h1, by rw [h2]; rfl⟩)) fun a56 o S D H62 => ?_
  replace H3 := o.st H3
  replace H5 := o.st H5
  replace H54 := o.st H54
  clear H58 H61 o
  refine Slim.va rfl rfl S D (Slim.and_g rfl H54 H62 id (fun h1 h2 => Bool.and_eq_true_iff.2 ⟨h1, by rw [h2]; rfl⟩)) fun a57 o S D H63 => ?_
  replace H3 := o.st H3
  replace H5 := o.st H5
  clear H54 H62 o
  refine Slim.va rfl rfl S D (Slim.move_g rfl H63 id) fun a58 o S D H64 => ?_
  replace H3 := o.st H3
  replace H5 := o.st H5
  clear H63 o
  refine Slim.vg rfl S D rfl rfl H64 (Slim.move_g rfl H5 (fun _ => rfl)) fun a59 o S D H65 => ?_
  replace H3 := o.st H3
  replace H5 := o.st H5
  replace H64 := o.st H64
  refine Slim.vg (v := .pointer (some ⟨B, 13, none⟩)) rfl S D rfl rfl H64 (Slim.field_g rfl H3 (fun _ => rfl) (by go_simp; first | done | rfl)) fun a60 o S D H66 => ?_
  replace H3 := o.st H3
  replace H5 := o.st H5
  replace H64 := o.st H64
  replace H65 := o.st H65
  refine Slim.vg (v := .slice ai m.ins.length ci) rfl S D rfl rfl H64 (Slim.load_g rfl H66 id (by have k := BX.out.cell 13; go_simp; first | done | rfl)) fun a61 o S D H67 => ?_
  replace H3 := o.st H3
  replace H5 := o.st H5
  replace H64 := o.st H64
  replace H65 := o.st H65
  clear H66 o
  refine Slim.vg (v := .int .i64 (m.ins.length : Int)) rfl S D rfl rfl H64 (Slim.len_g rfl H67 id (by go_simp; first | done | rfl)) fun a62 o S D H68 => ?_
  replace H3 := o.st H3
  replace H5 := o.st H5
  replace H64 := o.st H64
  replace H65 := o.st H65
  clear H67 o
  refine Slim.call0_g (t := 69) (c := (true && (((((((((Ms.numB (bits .and .i64 own 1) (m.slot) (0) (7)) && (Ms.numB (bits .and .i64 own 2) (m.gen) (1) (60000))) && (Ms.numB (bits .and .i64 own 4) (m.frame) (0) (1048576))) && (Ms.numB (bits .and .i64 own 8) (m.code) (0) (9))) && (Ms.numB (bits .and .i64 own 16) (m.n) (0) (65535))) && (Ms.numB (bits .and .i64 own 32) (m.of) ((IntKind.i64.wrap (m.n + 1))) (65535))) && (((bits .and .i64 own 64) != 0) || (m.bits == 0))) && (((bits .and .i64 own 128) != 0) || (m.sum == 0))) == true))) (v := .bool (Ms.numB (bits .and .i64 own 256) ((m.ins.length : Int)) (1) (16))) rfl (by rw [S]; decide) (Slim.wanted_g rfl rfl H64) (Slim.callv_g (f := 55) (xs := [.const (.int .i64 256), .tmp 68, .const (.int .i64 1), .const (.int .i64 16)]) (vs := [.int .i64 256, .int .i64 (m.ins.length : Int), .int .i64 1, .int .i64 16]) (args := #[.int .i64 256, .int .i64 (m.ins.length : Int), .int .i64 1, .int .i64 16, .pointer (some ⟨O, 0, none⟩)]) rfl H65 id (fun h0 => by simp only [List.map_cons, List.map_nil, Slim.pres H68 (id h0)]; rfl) rfl (by go_simp; first | done | rfl)) (fun _ => number_any own 256 ((m.ins.length : Int)) (1) (16) O _ BO.out) fun a63 o => ?_
  replace S := o.size.trans S; replace D := o.defers.trans D
  replace H3 := o.st H3
  replace H5 := o.st H5
  replace H64 := o.st H64
  have H69 : Slim.Has a63 69 (true && (((((((((Ms.numB (bits .and .i64 own 1) (m.slot) (0) (7)) && (Ms.numB (bits .and .i64 own 2) (m.gen) (1) (60000))) && (Ms.numB (bits .and .i64 own 4) (m.frame) (0) (1048576))) && (Ms.numB (bits .and .i64 own 8) (m.code) (0) (9))) && (Ms.numB (bits .and .i64 own 16) (m.n) (0) (65535))) && (Ms.numB (bits .and .i64 own 32) (m.of) ((IntKind.i64.wrap (m.n + 1))) (65535))) && (((bits .and .i64 own 64) != 0) || (m.bits == 0))) && (((bits .and .i64 own 128) != 0) || (m.sum == 0))) == true)) (.bool (Ms.numB (bits .and .i64 own 256) ((m.ins.length : Int)) (1) (16))) := o.here
  clear H65
  clear H68
  refine Slim.va rfl rfl S D (Slim.and_g rfl H64 H69 id (fun h1 h2 => Bool.and_eq_true_iff.2 ⟨h1, by rw [h2]; rfl⟩)) fun a64 o S D H70 => ?_
  replace H3 := o.st H3
  replace H5 := o.st H5
  clear H64 H69 o
  refine Slim.va rfl rfl S D (Slim.move_g rfl H70 id) fun a65 o S D H71 => ?_
  replace H3 := o.st H3
  replace H5 := o.st H5
  clear H70 o
  refine Slim.vg rfl S D rfl rfl H71 (Slim.move_g rfl H5 (fun _ => rfl)) fun a66 o S D H72 => ?_
  replace H3 := o.st H3
  replace H5 := o.st H5
  replace H71 := o.st H71
  refine Slim.vg (v := .pointer (some ⟨B, 14, none⟩)) rfl S D rfl rfl H71 (Slim.field_g rfl H3 (fun _ => rfl) (by go_simp; first | done | rfl)) fun a67 o S D H73 => ?_
  replace H3 := o.st H3
  replace H5 := o.st H5
  replace H71 := o.st H71
  replace H72 := o.st H72
  refine Slim.vg (v := .slice al m.log.length cl) rfl S D rfl rfl H71 (Slim.load_g rfl H73 id (by have k := BX.out.cell 14; go_simp; first | done | rfl)) fun a68 o S D H74 => ?_
  replace H3 := o.st H3
  replace H5 := o.st H5
  replace H71 := o.st H71
  replace H72 := o.st H72
  clear H73 o
  refine Slim.vg (v := .int .i64 (m.log.length : Int)) rfl S D rfl rfl H71 (Slim.len_g rfl H74 id (by go_simp; first | done | rfl)) fun a69 o S D H75 => ?_
  replace H3 := o.st H3
  replace H5 := o.st H5
  replace H71 := o.st H71
  replace H72 := o.st H72
  clear H74 o
  refine Slim.call0_g (t := 76) (c := (true && ((((((((((Ms.numB (bits .and .i64 own 1) (m.slot) (0) (7)) && (Ms.numB (bits .and .i64 own 2) (m.gen) (1) (60000))) && (Ms.numB (bits .and .i64 own 4) (m.frame) (0) (1048576))) && (Ms.numB (bits .and .i64 own 8) (m.code) (0) (9))) && (Ms.numB (bits .and .i64 own 16) (m.n) (0) (65535))) && (Ms.numB (bits .and .i64 own 32) (m.of) ((IntKind.i64.wrap (m.n + 1))) (65535))) && (((bits .and .i64 own 64) != 0) || (m.bits == 0))) && (((bits .and .i64 own 128) != 0) || (m.sum == 0))) && (Ms.numB (bits .and .i64 own 256) ((m.ins.length : Int)) (1) (16))) == true))) (v := .bool (Ms.numB (bits .and .i64 own 512) ((m.log.length : Int)) (1) (16))) rfl (by rw [S]; decide) (Slim.wanted_g rfl rfl H71) (Slim.callv_g (f := 55) (xs := [.const (.int .i64 512), .tmp 75, .const (.int .i64 1), .const (.int .i64 16)]) (vs := [.int .i64 512, .int .i64 (m.log.length : Int), .int .i64 1, .int .i64 16]) (args := #[.int .i64 512, .int .i64 (m.log.length : Int), .int .i64 1, .int .i64 16, .pointer (some ⟨O, 0, none⟩)]) rfl H72 id (fun h0 => by simp only [List.map_cons, List.map_nil, Slim.pres H75 (id h0)]; rfl) rfl (by go_simp; first | done | rfl)) (fun _ => number_any own 512 ((m.log.length : Int)) (1) (16) O _ BO.out) fun a70 o => ?_
  replace S := o.size.trans S; replace D := o.defers.trans D
  replace H3 := o.st H3
  replace H5 := o.st H5
  replace H71 := o.st H71
  have H76 : Slim.Has a70 76 (true && ((((((((((Ms.numB (bits .and .i64 own 1) (m.slot) (0) (7)) && (Ms.numB (bits .and .i64 own 2) (m.gen) (1) (60000))) && (Ms.numB (bits .and .i64 own 4) (m.frame) (0) (1048576))) && (Ms.numB (bits .and .i64 own 8) (m.code) (0) (9))) && (Ms.numB (bits .and .i64 own 16) (m.n) (0) (65535))) && (Ms.numB (bits .and .i64 own 32) (m.of) ((IntKind.i64.wrap (m.n + 1))) (65535))) && (((bits .and .i64 own 64) != 0) || (m.bits == 0))) && (((bits .and .i64 own 128) != 0) || (m.sum == 0))) && (Ms.numB (bits .and .i64 own 256) ((m.ins.length : Int)) (1) (16))) == true)) (.bool (Ms.numB (bits .and .i64 own 512) ((m.log.length : Int)) (1) (16))) := o.here
  clear H72
  clear H75
  refine Slim.va rfl rfl S D (Slim.and_g rfl H71 H76 id (fun h1 h2 => Bool.and_eq_true_iff.2 ⟨h1, by rw [h2]; rfl⟩)) fun a71 o S D H77 => ?_
  replace H3 := o.st H3
  replace H5 := o.st H5
  clear H71 H76 o
  refine Slim.va rfl rfl S D (Slim.move_g rfl H77 id) fun a72 o S D H78 => ?_
  replace H3 := o.st H3
  replace H5 := o.st H5
  clear H77 o
  refine Slim.vg rfl S D rfl rfl H78 (Slim.move_g rfl H5 (fun _ => rfl)) fun a73 o S D H79 => ?_
  replace H3 := o.st H3
  replace H78 := o.st H78
  clear H5 o
  refine Slim.vg (v := .pointer (some ⟨B, 15, none⟩)) rfl S D rfl rfl H78 (Slim.field_g rfl H3 (fun _ => rfl) (by go_simp; first | done | rfl)) fun a74 o S D H80 => ?_
  replace H78 := o.st H78
  replace H79 := o.st H79
  clear H3 o
  refine Slim.vg (v := .slice ad m.data.length cd) rfl S D rfl rfl H78 (Slim.load_g rfl H80 id (by have k := BX.out.cell 15; go_simp; first | done | rfl)) fun a75 o S D H81 => ?_
  replace H78 := o.st H78
  replace H79 := o.st H79
  clear H80 o
  refine Slim.vg (v := .int .i64 (m.data.length : Int)) rfl S D rfl rfl H78 (Slim.len_g rfl H81 id (by go_simp; first | done | rfl)) fun a76 o S D H82 => ?_
  replace H78 := o.st H78
  replace H79 := o.st H79
  clear H81 o
  refine Slim.call0_g (t := 83) (c := (true && (((((((((((Ms.numB (bits .and .i64 own 1) (m.slot) (0) (7)) && (Ms.numB (bits .and .i64 own 2) (m.gen) (1) (60000))) && (Ms.numB (bits .and .i64 own 4) (m.frame) (0) (1048576))) && (Ms.numB (bits .and .i64 own 8) (m.code) (0) (9))) && (Ms.numB (bits .and .i64 own 16) (m.n) (0) (65535))) && (Ms.numB (bits .and .i64 own 32) (m.of) ((IntKind.i64.wrap (m.n + 1))) (65535))) && (((bits .and .i64 own 64) != 0) || (m.bits == 0))) && (((bits .and .i64 own 128) != 0) || (m.sum == 0))) && (Ms.numB (bits .and .i64 own 256) ((m.ins.length : Int)) (1) (16))) && (Ms.numB (bits .and .i64 own 512) ((m.log.length : Int)) (1) (16))) == true))) (v := .bool (Ms.numB (bits .and .i64 own 1024) ((m.data.length : Int)) (1) (64))) rfl (by rw [S]; decide) (Slim.wanted_g rfl rfl H78) (Slim.callv_g (f := 55) (xs := [.const (.int .i64 1024), .tmp 82, .const (.int .i64 1), .const (.int .i64 64)]) (vs := [.int .i64 1024, .int .i64 (m.data.length : Int), .int .i64 1, .int .i64 64]) (args := #[.int .i64 1024, .int .i64 (m.data.length : Int), .int .i64 1, .int .i64 64, .pointer (some ⟨O, 0, none⟩)]) rfl H79 id (fun h0 => by simp only [List.map_cons, List.map_nil, Slim.pres H82 (id h0)]; rfl) rfl (by go_simp; first | done | rfl)) (fun _ => number_any own 1024 ((m.data.length : Int)) (1) (64) O _ BO.out) fun a77 o => ?_
  replace S := o.size.trans S; replace D := o.defers.trans D
  replace H78 := o.st H78
  have H83 : Slim.Has a77 83 (true && (((((((((((Ms.numB (bits .and .i64 own 1) (m.slot) (0) (7)) && (Ms.numB (bits .and .i64 own 2) (m.gen) (1) (60000))) && (Ms.numB (bits .and .i64 own 4) (m.frame) (0) (1048576))) && (Ms.numB (bits .and .i64 own 8) (m.code) (0) (9))) && (Ms.numB (bits .and .i64 own 16) (m.n) (0) (65535))) && (Ms.numB (bits .and .i64 own 32) (m.of) ((IntKind.i64.wrap (m.n + 1))) (65535))) && (((bits .and .i64 own 64) != 0) || (m.bits == 0))) && (((bits .and .i64 own 128) != 0) || (m.sum == 0))) && (Ms.numB (bits .and .i64 own 256) ((m.ins.length : Int)) (1) (16))) && (Ms.numB (bits .and .i64 own 512) ((m.log.length : Int)) (1) (16))) == true)) (.bool (Ms.numB (bits .and .i64 own 1024) ((m.data.length : Int)) (1) (64))) := o.here
  clear H79
  clear H82
  refine Slim.va rfl rfl S D (Slim.and_g rfl H78 H83 id (fun h1 h2 => Bool.and_eq_true_iff.2 ⟨h1, by rw [h2]; rfl⟩)) fun a78 o S D H84 => ?_
  clear H78 H83 o
  refine Slim.va rfl rfl S D (Slim.assign_g rfl H84 id) fun a79 o S D H4 => ?_
  clear H84 o
  refine wpList_nil ?_
  refine (by assumption : ∀ a w, Code.wp Try.prog _ _ a w → _) _ _ ?_
  refine wp_ret ?_
  (try simp only [Exit.inBlock, Exit.then])
  exact on_ret rfl D H4 ⟨rfl, KB.out⟩
end Go.Proofs.Ytgmlbimgcifenaa
namespace Go.Proofs.Ytgmlbimgcifenaa
open Go.RowKit Go.Shelf
def Far (g Bb : Nat) (W : World) : Prop := ∀ A n c, Box W Bb 27 #[.slice A n c] → (Value.slice A n c).ownBlock ≠ some g
def FarK (Bb : Nat) (w w' : World) : Prop := ∀ g G, Box w g 5 G → Far g Bb w → Box w' g 5 G ∧ Far g Bb w'
def OnlyB (Bb : Nat) (w w' : World) : Prop := ∀ g T G, g ≠ Bb → Box w g T G → Box w' g T G
theorem Box.is_one {W : World} {B : Nat} {A A' : Option Addr} {n c n' c' : Nat} {t : TypeId} (h : Box W B t #[.slice A n c]) (k : Box W B t #[.slice A' n' c']) : (Value.slice A n c) = .slice A' n' c' := by
  have h2 := h.is
  rw [k.is] at h2
  injection h2 with h2
  injection h2 with h2 _ _
  have := congrArg (fun q : Array Value => q[0]?) h2
  simpa using this.symm
section
variable {Bb : Nat} {w w' w'' : World}
theorem FarK.refl (w : World) : FarK Bb w w := fun _ _ h k => ⟨h, k⟩
theorem FarK.trans (h : FarK Bb w w') (k : FarK Bb w' w'') : FarK Bb w w'' := fun g G hg hf => k g G (h g G hg hf).1 (h g G hg hf).2
theorem Far.call {g : Nat} (h : Far g Bb w) (hb : Below w.heap.size w w') (hv : Bb < w.heap.size) : Far g Bb w' := fun A n c hB => h A n c ⟨(hb.block Bb hv).symm.trans hB.is⟩
theorem FarK.call (h : FarK Bb w w') (hb : Below w'.heap.size w' w'') (hv : Bb < w'.heap.size) : FarK Bb w w'' := h.trans fun g G hg hf => ⟨hg.below hb hg.lt, hf.call hb hv⟩
theorem FarK.far (h : FarK Bb w w') {p : Addr} {t : TypeId} {cs : Array Value} (hp : Box w' p.block t cs) (h2 : t ≠ 5) (hB : p.block ≠ Bb) (u : Value) : FarK Bb w (w'.setCell p u) := h.trans fun g G hg hf => ⟨hg.far (Box.apart hg hp (fun e => h2 e.symm)) u, fun A n c h' => hf A n c ⟨(heap_setCell_other w' p Bb u (fun e => hB e.symm)).symm.trans h'.is⟩⟩
theorem FarK.grown {A A2 : Option Addr} {n c c2 : Nat} {o : Obj} (h : FarK Bb w w') (hB : Box w' Bb 27 #[.slice A n c]) (hB2 : Box w'' Bb 27 #[.slice A n c])
    (hg2 : (w'.drew.alloc o).grownBy w'' (Value.slice A n c).ownBlock) (hblk : (Value.slice A2 (n + 1) c2).ownBlock = (Value.slice A n c).ownBlock ∨ (Value.slice A2 (n + 1) c2).ownBlock = some (w'.drew.alloc o).heap.size) : FarK Bb w (w''.setCell ⟨Bb, 0, none⟩ (.slice A2 (n + 1) c2)) := h.trans fun g G hg hf => by
  have nF := hf A n c hB
  have hgl := hg.lt
  have G2 : Box w'' g 5 G := Box.grown (hg.drew.alloc o) hg2 nF
  refine ⟨G2.far (p := ⟨Bb, 0, none⟩) (Box.apart G2 hB2 (by decide)) _, fun A' n' c' h' => ?_⟩
  rw [h'.is_one (hB2.put 0 (.slice A2 (n + 1) c2))]
  intro e
  rcases hblk with h | h
  · exact nF (h ▸ e)
  · rw [h] at e
    injection e with e
    simp at e
    omega
theorem OnlyB.refl (w : World) : OnlyB Bb w w := fun _ _ _ _ h => h
theorem OnlyB.trans (h : OnlyB Bb w w') (k : OnlyB Bb w' w'') : OnlyB Bb w w'' := fun g T G hg hB => k g T G hg (h g T G hg hB)
end
theorem append_runs2 {P : Program} (w : World) {t ty e : TypeId} {i : TypeInfo} {z : Value} {size bytes : Nat} (ht : P.underlying t = some (.slice e)) (hi : P.info? e = some i) (hz : i.zero = some z) (hs : i.size = size) (hby : i.bytes = bytes) (hzs : z.cells.size = size) (hsz : 0 < size)
    {base n : Nat} {v : Value} {xs : List Value} (ho : w.ownsRow base e size v n xs) {ad : Addr} {m c : Nat} {news : List Value} (hl : Lies w w.heap.size size (some ad) m news) (hm : m ≠ 0) (h1 : ∀ u ∈ news, u.oneCell' = true) (h63 : n + m ≤ maxLen) (hb : (n + m) * bytes ≤ 140737488355328) (hbase : base ≤ w.heap.size) :
    ∃ A' c' w', (Builtin.append_ #[t, t] ty #[v, .slice (some ad) m c]).run P w = .ok (.slice A' (n + m) c') w' ∧ w'.ownsRow base e size (.slice A' (n + m) c') (n + m) (xs ++ news) ∧ w.grownBy w' v.ownBlock ∧ ((Value.slice A' (n + m) c').ownBlock = v.ownBlock ∨ (Value.slice A' (n + m) c').ownBlock = some w.heap.size) := by
  obtain ⟨v', w', hr, h2, h3, _, h5⟩ := run_append_own_at (P := P) w base t ty e i z size bytes ht hi hz hs hby hzs hsz v n xs ho ad m c news hl.len (fun j u hu => hl.cell ad rfl hm j u hu) h1 h63 hb hbase
  obtain ⟨A', c', rfl⟩ := owned_slice h2
  exact ⟨A', c', w', hr, h2, h3, h5⟩
theorem write_far (size : Nat) (v : Int) (bs : List Int) (b Bb Bp : Nat) (w : World) (hs : size ≤ 8) (hv : 0 ≤ v ∧ v ≤ 18446744073709551615) (hbB : b ≤ Bb) (h : Wr b Bb Bp bs w) (hl : bs.length + size ≤ 65536) :
    Calls Try.prog 54 #[.int .i64 size, .int .u64 v, .pointer (some ⟨Bp, 0, none⟩)] w fun e w' => e = .returned (.int .u64 v) ∧ Wr b Bb Bp (bs ++ Im.bytesOf size v) w' ∧ Wrote b Bb w w' ∧ FarK Bb w w' := by
  have HH := qh h
  clear h
  go_enter Try.func54, Try.ntmps54
  go_wp2
  go_loopw [8] (fun i wr => ∃ k : Nat, k ≤ size ∧ i = .int .i64 k ∧ Wr b Bb Bp (bs ++ Im.bytesOf k v) wr ∧ Wrote b Bb w wr ∧ FarK Bb w wr) (fun i _ => size - (intOf i).toNat)
  case atStart => exact ⟨0, by omega, rfl, by simpa [Im.bytesOf] using HH.out, Wrote.refl hbB w, FarK.refl w⟩
  case round =>
    obtain ⟨k, hk, rfl, hI, hK, hG⟩ := hrel
    have GG := qh hG
    clear hG
    by_cases hlt : k < size
    · have hk8 : (k : Int) < size := by omega
      obtain ⟨A, c, hB, hO⟩ := hI.var
      have hP := hI.ptr
      have hlen : (bs ++ Im.bytesOf k v).length = bs.length + k := by rw [List.length_append, Im.bytesOf_len]
      rw [hlen] at hB hO
      generalize hn : bs.length + k = n at *
      have HI := qh hI
      have HK := qh hK
      have HP := qh hP
      have HB := qh hB
      have HO := qh hO
      clear hI hP hB hO hK
      have h8 : IntKind.i64.wrap (8 * (k : Int)) = 8 * k := by rw [IntKind.wrap_i64]; omega
      have hq : 0 ≤ v / 2 ^ (8 * k) ∧ v / 2 ^ (8 * k) ≤ 18446744073709551615 := by
        have hp : (0 : Int) < 2 ^ (8 * k) := Int.pow_pos (by decide)
        exact ⟨Int.ediv_nonneg hv.1 (Int.le_of_lt hp), Int.le_trans (Int.ediv_le_self _ hv.1) hv.2⟩
      obtain ⟨x, hx⟩ : ∃ x, x = v / 2 ^ (8 * k) % 256 := ⟨_, rfl⟩
      have hsn : bs ++ Im.bytesOf (k + 1) v = (bs ++ Im.bytesOf k v) ++ [x] := by rw [hx]; simp [Im.bytesOf]
      have hxw : IntKind.u8.wrap (v / 2 ^ (8 * (k : Int)).toNat) = x := by rw [show (8 * (k : Int)).toNat = 8 * k by omega, IntKind.wrap_u8, hx]
      have HSN := qh hsn
      clear hsn hx
      go_upto_region 4 with fail
      refine Rx.wp_region_lex0 (by kernel_rfl) [] (by kernel_rfl) (· = wr.drew) (fun W => Box W Bp 68 #[.pointer (some ⟨Bb, 0, none⟩)] ∧ Box W Bb 27 #[.slice A n c]) (fun _ => True) rfl (fun W hW => ⟨hW ▸ ⟨HP.out.drew, HB.out.drew⟩, trivial⟩) ?_
      repeat (first
        | (apply Rx.lex_free rfl rfl; focus (intro _; go_simp; first | done | rfl))
        | (apply Rx.lex_look rfl rfl rfl rfl; focus (intro W hW; obtain ⟨hW1, hW2⟩ := hW; have c0 := Box.cell hW1; have c1 := Box.cell hW2; clear hW1 hW2; go_simp; first | done | rfl)))
      obtain ⟨i0, hi0, hz0, hz1, hz2⟩ := u8_parts
      have szb : b ≤ wr.heap.size := Nat.le_trans hbB (Nat.le_of_lt HB.out.lt)
      obtain ⟨A2, c2, w2, hrun, own2, hg2, hblk⟩ := append_runs2 (P := Try.prog) _ (ty := 27) Try.underlying27 hi0 hz0 hz1 hz2 rfl (by decide) ((HO.out.drew).alloc (.cells #[.int .u8 x] 5)) (c := 1) (lies_byte wr.drew x) (by decide) (Im.u8s_one _) (by unfold maxLen; omega) (by omega) (by simp; omega)
      have B2 := qh (grown_box HB.out.drew HO.out.drew (by decide) hg2)
      have P2 := qh (grown_box HP.out.drew HO.out.drew (by decide) hg2)
      have K2 := qh (HK.out.drew.grown' HO.out.drew hg2)
      have F2 := qh (FarK.grown GG.out HB.out B2.out hg2 hblk)
      have OW := qh own2
      have neP : Bp ≠ Bb := HI.out.ne
      clear own2 hg2 hblk
      refine Rx.lex_make rfl (W' := wr.drew.alloc (.cells #[.int .u8 x] 5)) (v := .slice (some ⟨wr.drew.heap.size, 0, none⟩) 1 1) ?_ ⟨⟨HP.out.drew.alloc _, HB.out.drew.alloc _⟩, trivial⟩ ?_
      focus (go_simp; first | done | rfl)
      refine Rx.lex_make rfl (W' := w2) (v := .slice A2 (n + 1) c2) (exec_append' (x := .tmp 14) (y := .tmp 20) (v1 := .slice A n c) (v2 := .slice (some ⟨wr.drew.heap.size, 0, none⟩) 1 1) rfl (by go_simp) (by go_simp) hrun) ⟨⟨P2.out, B2.out⟩, trivial⟩ ?_
      repeat (first
        | (apply Rx.lex_free rfl rfl; focus (intro _; go_simp; first | done | rfl))
        | (apply Rx.lex_look rfl rfl rfl rfl; focus (intro W hW; obtain ⟨hW1, hW2⟩ := hW; have c0 := Box.cell hW1; have c1 := Box.cell hW2; clear hW1 hW2; go_simp; first | done | rfl)))
      refine Rx.lex_store rfl rfl (C' := (· = w2.setCell ⟨Bb, 0, none⟩ (.slice A2 (n + 1) c2))) (D' := fun _ => True) (fun W hW => ⟨_, ?_, rfl⟩) (fun _ _ => ⟨trivial, trivial⟩) ?_
      focus (subst hW; have f2 := B2.out.free; have k2 := B2.out.cell; go_simp; first | done | rfl)
      refine Rx.lex_end fun W2 hW2 => ?_
      have ne2 := B2.out.unowned OW.out (by decide)
      have H3 : Wr b Bb Bp (bs ++ Im.bytesOf (k + 1) v) W2 := by
        subst hW2
        have hlen3 : ((bs ++ Im.bytesOf k v) ++ [x]).length = n + 1 := by rw [List.length_append, hlen]; rfl
        rw [HSN.out]
        refine ⟨P2.out.far (by show Bp ≠ Bb; exact neP) _, A2, c2, ?_, ?_⟩
        · rw [hlen3]; exact B2.out.put 0 _
        · rw [hlen3, Im.u8s_append]; exact ownsRow_setCell_other (a := ⟨Bb, 0, none⟩) OW.out ne2 _
      have K3 : Wrote b Bb w W2 := by subst hW2; exact K2.out.put _ _
      have F3 : FarK Bb w W2 := by subst hW2; exact F2.out
      have F4 := qh F3
      have H4 := qh H3
      clear F3
      have K4 := qh K3
      clear H3 K3 hW2 hrun ne2 hlen
      go_wp2
      go_roundw
      case rel => exact ⟨k + 1, by omega, by go_num, H4.out, K4.out, F4.out⟩
      case measure => simp [intOf]; omega
    · have hk8 : ¬ (k : Int) < size := by omega
      obtain rfl : k = size := by omega
      have HI := qh hI
      have HK := qh hK
      clear hI hK
      go_wp2
      go_ret
      exact ⟨rfl, HI.out, HK.out, GG.out⟩
theorem read_only (size : Nat) (z : Int) (hz : z = size) (v0 : Int) (f : Nat → Int) (xs rest : List Int) (b Bb Bp : Nat) (w : World) (hs : 1 ≤ size ∧ size ≤ 8) (hx : xs.length = size) (hf : ∀ k (h : k < xs.length), xs[k] = f k) (hf2 : ∀ k, 0 ≤ f k ∧ f k ≤ 255) (hbB : b ≤ Bb) (h : Rd b Bb Bp (xs ++ rest) w) :
    Calls Try.prog 60 #[.int .i64 z, .int .u64 v0, .pointer (some ⟨Bp, 0, none⟩)] w fun e w' => e = .returned (.int .u64 (Im.val f size)) ∧ Rd b Bb Bp rest w' ∧ Wrote b Bb w w' ∧ OnlyB Bb w w' := by
  subst hz
  obtain ⟨hP, A, c, hB, hc, hL⟩ := h
  have hlen : (xs ++ rest).length = size + rest.length := by rw [List.length_append, hx]
  rw [hlen] at hB hc hL
  obtain ⟨n, hn⟩ : ∃ n, n = size + rest.length := ⟨_, rfl⟩
  rw [← hn] at hB hc hL
  obtain ⟨ad, rfl, had⟩ := hL.start (by omega)
  have hcell : ∀ k, k < size → w.cell? (ad.add k) = some (.int .u8 (f k)) := fun k hk => hL.cell ad rfl (by omega) k _ (by
    unfold Im.u8s
    rw [List.getElem?_map, List.getElem?_append_left (by omega), List.getElem?_eq_getElem (by omega), hf k (by omega)]; rfl)
  have hsn : (size : Int) ≤ n := by omega
  have hs1 : ∀ W, (Instr.slice 27 (.slice (some ad) n c) none (some (.int .i64 size)) none).run Try.prog W = .ok (.slice (some ad) size c) W := fun W => by
    have h0 : (0 : Int) ≤ size := by omega
    have h2 : (size : Int) ≤ c := by omega
    have hc0 : ¬ c = 0 := by omega
    go_simp
  have hs2 : ∀ W, (Instr.slice 27 (.slice (some ad) n c) (some (.int .i64 size)) none none).run Try.prog W = .ok (.slice (if c = size then some ad else some (ad.add size)) rest.length (c - size)) W := fun W => by
    have h0 : (0 : Int) ≤ size := by omega
    have h2 : (size : Int) ≤ n := by omega
    have hr : n - size = rest.length := by omega
    clear hn hlen
    go_simp
  obtain ⟨A2, hA2⟩ : ∃ A2, A2 = if c = size then some ad else some (ad.add size) := ⟨_, rfl⟩
  rw [← hA2] at hs2
  have HA := qh hA2
  clear hA2
  have HP := qh hP
  have HB := qh hB
  have HL := qh hL
  have HC := qh hc
  have HF := qh hf2
  have HV := qh (Im.val_lt f hf2)
  have b0 := hB.cell 0
  have p0 := hP.cell 0
  have HN := qh hn
  have HX := qh hx
  have HE := qh (show Bp ≠ Bb from Box.apart hP hB (by decide))
  have HS := qh hs
  clear hP hB hL hc hn hs hx hf hf2 hlen
  go_enter Try.func60, Try.ntmps60
  go_wp2_with (first | (go_at_call 30; ((with_reducible refine (need_yes _ _).mono ?_); rintro e w2 ⟨rfl, rfl⟩)))
  go_loopw [6, 22] (fun v i wr => ∃ k : Nat, k ≤ size ∧ i = .int .i64 k ∧ v = .int .u64 (Im.val f k) ∧ w = wr) (fun _ i _ => size - (intOf i).toNat)
  case atStart => exact ⟨0, by omega, rfl, rfl, rfl⟩
  case round =>
    obtain ⟨k, hk, rfl, rfl, rfl⟩ := hrel
    by_cases hlt : k < size
    · have hk8 : (k : Int) < size := by omega
      have hck := hcell k hlt
      have h8 : IntKind.i64.wrap (8 * (k : Int)) = 8 * k := by have := HS.out.2; rw [IntKind.wrap_i64]; omega
      have hp0 := HV.out k
      have hfk := HF.out k
      have hsz := HS.out.2
      have hpk : (0 : Int) < 2 ^ (8 * k) := Int.pow_pos (by decide)
      have hwr : IntKind.u64.wrap (f k * 2 ^ (8 * k)) = f k * 2 ^ (8 * k) := by
        have hp : (2 : Nat) ^ (8 * k) ≤ 2 ^ 56 := Nat.pow_le_pow_right (by decide) (by omega)
        have hp' : (2 : Int) ^ (8 * k) ≤ 2 ^ 56 := by exact_mod_cast hp
        have a1 : 0 ≤ f k * 2 ^ (8 * k) := Int.mul_nonneg hfk.1 (Int.le_of_lt hpk)
        have a2 : f k * 2 ^ (8 * k) ≤ 255 * 2 ^ (8 * k) := Int.mul_le_mul_of_nonneg_right hfk.2 (Int.le_of_lt hpk)
        rw [IntKind.wrap_u64]
        generalize f k * 2 ^ (8 * k) = y at *
        omega
      have hor := Im.or_shift (Im.val f k) (f k) k (by omega) hp0 hfk
      have hnext : bits .or .u64 (Im.val f k) (IntKind.u64.wrap (f k * 2 ^ (8 * k))) = Im.val f (k + 1) := by rw [hwr, hor]; rfl
      have HW := qh hnext
      obtain ⟨vk, hvk⟩ : ∃ vk, vk = Im.val f k := ⟨_, rfl⟩
      rw [← hvk] at HW
      rw [← hvk]
      clear hvk hnext hp0 hpk hor hwr
      go_wp2
      go_roundw
      case rel => exact ⟨k + 1, by omega, by go_num, by rw [HW.out], by first | rfl | trivial⟩
      case measure => simp [intOf]; omega
    · have hk8 : ¬ (k : Int) < size := by omega
      obtain rfl : k = size := by omega
      go_upto_region 8 with fail
      refine Rx.wp_region_lex0 (by kernel_rfl) [] (by kernel_rfl) (· = w.drew) (fun W => Box W Bp 68 #[.pointer (some ⟨Bb, 0, none⟩)] ∧ Box W Bb 27 #[.slice (some ad) n c]) (fun _ => True) rfl (fun W hW => ⟨hW ▸ ⟨HP.out.drew, HB.out.drew⟩, trivial⟩) ?_
      repeat (first
        | (apply Rx.lex_free rfl rfl; focus (intro _; go_simp; first | done | rfl))
        | (apply Rx.lex_look rfl rfl rfl rfl; focus (intro W hW; obtain ⟨hW1, hW2⟩ := hW; have c0 := Box.cell hW1; have c1 := Box.cell hW2; clear hW1 hW2; go_simp; first | done | rfl)))
      refine Rx.lex_read rfl rfl rfl (v := .slice A2 rest.length (c - k)) (fun W hW => ?_) ?_
      focus (go_simp; first | done | rfl)
      repeat (first
        | (apply Rx.lex_free rfl rfl; focus (intro _; go_simp; first | done | rfl))
        | (apply Rx.lex_look rfl rfl rfl rfl; focus (intro W hW; obtain ⟨hW1, hW2⟩ := hW; have c0 := Box.cell hW1; have c1 := Box.cell hW2; clear hW1 hW2; go_simp; first | done | rfl)))
      refine Rx.lex_store rfl rfl (C' := (· = w.drew.setCell ⟨Bb, 0, none⟩ (.slice A2 rest.length (c - k)))) (D' := fun _ => True) (fun W hW => ⟨_, ?_, rfl⟩) (fun _ _ => ⟨trivial, trivial⟩) ?_
      focus (subst hW; have f2 := HB.out.drew.free; have k2 := HB.out.drew.cell; go_simp; first | done | rfl)
      refine Rx.lex_end fun W2 hW2 => ?_
      have HH : Rd b Bb Bp rest W2 := by
        subst hW2
        refine ⟨HP.out.drew.far (p := ⟨Bb, 0, none⟩) HE.out _, _, c - k, HB.out.drew.put 0 _, by have := HN.out; have := HC.out; omega, ?_⟩
        rw [HA.out]
        refine (HL.out.rest rest.length (by rw [HX.out]) HC.out HN.out).stays fun i hi => ?_
        exact heap_setCell_other w.drew ⟨Bb, 0, none⟩ i _ (by show i ≠ Bb; omega)
      have HK : Wrote b Bb w W2 := by subst hW2; exact (Wrote.refl hbB w).drew.put 0 _
      have HA2 : OnlyB Bb w W2 := fun g T G hg h => by subst hW2; exact h.drew.far (p := ⟨Bb, 0, none⟩) hg _
      have A3 := qh HA2
      clear HA2
      have H2 := qh HH
      have K2 := qh HK
      clear HH HK hW2
      go_wp2
      go_ret
      exact ⟨rfl, H2.out, K2.out, A3.out⟩
theorem layu8_far (x : Int) (P o : Nat) (cs : Array Value) (bs : List Int) (b Bb Bp : Nat) (w : World) (hx : 0 ≤ x ∧ x ≤ 255) (hbB : b ≤ Bb) (h : Wr b Bb Bp bs w) (hl : bs.length + 1 ≤ 65536) (hP : Box w P 5 cs) (hF : Far P Bb w) (ho : cs[o]? = some (.int .u8 x)) :
    Calls Try.prog 87 #[.func (.func 54) #[] #[.pointer (some ⟨Bp, 0, none⟩)], .int .i64 1, .pointer (some ⟨P, o, none⟩)] w fun e w' => e = .returned (.tuple #[]) ∧ Wr b Bb Bp (bs ++ Im.bytesOf 1 x) w' ∧ Wrote b Bb w w' ∧ FarK Bb w w' := by
  have hwb : IntKind.u8.wrap (IntKind.u64.wrap x) = x := by rw [IntKind.wrap_u8, IntKind.wrap_u64]; omega
  have hvr : 0 ≤ IntKind.u64.wrap x ∧ IntKind.u64.wrap x ≤ 18446744073709551615 := by rw [IntKind.wrap_u64]; omega
  have hvx : IntKind.u64.wrap x = x := by rw [IntKind.wrap_u64]; omega
  rw [hvx] at hwb hvr
  have cw := qh (write_far 1 x bs b Bb Bp w (by decide) hvr hbB h hl)
  rw [show ((1 : Nat) : Int) = 1 from rfl] at cw
  have HP := qh hP
  have HF := qh hF
  have k0 := hP.cell o
  rw [ho] at k0
  have HO := qh ho
  clear h hP ho hF
  go_enter Try.func87, Try.ntmps87
  go_wp2_with (go_at_call 54; ((with_reducible refine (cw.out).mono ?_); rintro e w1 ⟨rfl, hI1, hK1, hF1⟩; have P1 := qh (hF1 P _ HP.out HF.out); have I1 := qh hI1; have K1 := qh hK1; have F1 := qh hF1; have k1 := P1.out.1.cell o; rw [HO.out] at k1; have f1 := P1.out.1.free o; clear hI1 hK1 hF1 k0))
  go_end0
  have hB := fun k => setCell_noop P1.out.1 HO.out k
  have hbw := K1.out.noop P1.out.1 HO.out
  have W1 := I1.out
  obtain ⟨q1, A, c, q2, q3⟩ := W1
  have nP : (Value.slice A (bs ++ Im.bytesOf 1 x).length c).ownBlock ≠ some P := P1.out.2 _ _ _ q2
  refine ⟨rfl, ⟨⟨(hB _).trans q1.is⟩, A, c, ⟨(hB _).trans q2.is⟩, ?_⟩, hbw, fun g G hg hf => ⟨⟨(hB _).trans (F1.out g G hg hf).1.is⟩, fun A' n' c' h' => (F1.out g G hg hf).2 A' n' c' ⟨(hB _).symm.trans h'.is⟩⟩⟩
  exact ownsRow_setCell_other (a := ⟨P, o, none⟩) q3 nP _
theorem layint_far (size : Nat) (x : Int) (P o : Nat) (t : TypeId) (cs : Array Value) (bs : List Int) (b Bb Bp : Nat) (w : World) (hs : size ≤ 8) (hx : 0 ≤ x ∧ x ≤ 9223372036854775807) (hbB : b ≤ Bb) (h : Wr b Bb Bp bs w) (hl : bs.length + size ≤ 65536) (hP : Box w P t cs) (ho : cs[o]? = some (.int .i64 x)) (h1 : t ≠ 27) (h2 : t ≠ 5) (h3 : t ≠ 68) :
    Calls Try.prog 51 #[.func (.func 54) #[] #[.pointer (some ⟨Bp, 0, none⟩)], .int .i64 size, .pointer (some ⟨P, o, none⟩)] w fun e w' => e = .returned (.tuple #[]) ∧ Wr b Bb Bp (bs ++ Im.bytesOf size x) w' ∧ Wrote b Bb w w' ∧ FarK Bb w w' := by
  have hvx : IntKind.u64.wrap x = x := by rw [IntKind.wrap_u64]; omega
  have hwb : IntKind.i64.wrap x = x := by rw [IntKind.wrap_i64]; omega
  have cw := qh (write_far size x bs b Bb Bp w hs (by omega) hbB h hl)
  have HH := qh h
  have HP := qh hP
  have k0 := hP.cell o
  rw [ho] at k0
  have HO := qh ho
  clear h hP ho
  go_enter Try.func51, Try.ntmps51
  go_wp2_with (go_at_call 54; ((with_reducible refine (cw.out).mono ?_); rintro e w1 ⟨rfl, hI1, hK1, hF1⟩; have P1 := qh (HP.out.wrote' hK1 HH.out.isvar h1 h2); have I1 := qh hI1; have K1 := qh hK1; have F1 := qh hF1; have k1 := P1.out.cell o; rw [HO.out] at k1; have f1 := P1.out.free o; clear hI1 hK1 hF1 k0))
  go_end0
  have hB := fun k => setCell_noop P1.out HO.out k
  exact ⟨rfl, I1.out.off (p := ⟨P, o, none⟩) P1.out h3 h1 h2 _, K1.out.noop P1.out HO.out, fun g G hg hf => ⟨⟨(hB _).trans (F1.out g G hg hf).1.is⟩, fun A' n' c' h' => (F1.out g G hg hf).2 A' n' c' ⟨(hB _).symm.trans h'.is⟩⟩⟩
theorem read_only_all (size : Nat) (z : Int) (hz : z = size) (v0 y : Int) (bs rest : List Int) (b Bb Bp : Nat) (w : World) (hs : 1 ≤ size ∧ size ≤ 8) (hB : Im.IsBytes bs) (hr : Im.rdn size bs = some (y, rest)) (hbB : b ≤ Bb) (h : Rd b Bb Bp bs w) :
    Calls Try.prog 60 #[.int .i64 z, .int .u64 v0, .pointer (some ⟨Bp, 0, none⟩)] w fun e w' => e = .returned (.int .u64 y) ∧ Rd b Bb Bp rest w' ∧ Wrote b Bb w w' ∧ OnlyB Bb w w' := by
  obtain ⟨e, h0, h1, _⟩ := Im.rdn_inv hB hr
  subst e
  have hy : y % 2 ^ (8 * size) = y := Int.emod_eq_of_lt h0 h1
  have := read_only size z hz v0 (Im.byte y) (Im.bytesOf size y) rest b Bb Bp w hs (Im.bytesOf_len _ _) (fun k hk => Im.bytesOf_at _ _ _ hk) (Im.byte_lt y) hbB h
  rwa [Im.val_byte, hy] at this
theorem part_u8_far (size : Nat) (z : Int) (hz : z = size) (x0 : Int) (P o : Nat) (cs : Array Value) (bs : List Int) (b Bb Bp : Nat) (w : World) (hs : 1 ≤ size ∧ size ≤ 1) (hBy : Im.IsBytes bs) (hbB : b ≤ Bb) (hbP : b ≤ P) (hbw : b ≤ w.heap.size) (h : Rd b Bb Bp bs w) (hP : Box w P 5 cs) (ho : cs[o]? = some (.int .u8 x0)) :
    Calls Try.prog 87 #[.func (.func 60) #[] #[.pointer (some ⟨Bp, 0, none⟩)], .int .i64 z, .pointer (some ⟨P, o, none⟩)] w fun e w' => (∃ y rest, Im.rdn size bs = some (y, rest) ∧ e = .returned (.tuple #[]) ∧ Rd b Bb Bp rest w' ∧ Rk b Bb P w w' ∧ Box w' P 5 (cs.setIfInBounds o (.int .u8 y)) ∧ ∀ g T G, g ≠ Bb → g ≠ P → Box w g T G → Box w' g T G) ∨ (Im.rdn size bs = none ∧ Pan e ∧ w = w') := by
  subst hz
  have HP := qh hP
  have k0 := hP.cell o
  rw [ho] at k0
  cases hr : Im.rdn size bs with
  | none =>
    have cr := fun v0 => qh (read_few size size rfl v0 bs b Bb Bp w (Im.rdn_none hr) h)
    clear h hP ho hs hr
    go_enter Try.func87, Try.ntmps87
    go_wp2_with (go_at_call 60; ((with_reducible refine ((cr _).out).mono ?_); rintro e w2 ⟨⟨s, rfl⟩, rfl⟩))
    exact ⟨rfl, .inr ⟨trivial, ⟨_, rfl⟩, rfl⟩⟩
  | some q =>
    obtain ⟨y, rest⟩ := q
    obtain ⟨_, y0, y1, _⟩ := Im.rdn_inv hBy hr
    have y2 : y < 2 ^ (8 * 1) := Int.lt_of_lt_of_le y1 (by have := Nat.pow_le_pow_right (show 0 < 2 by decide) (show 8 * size ≤ 8 * 1 by omega); exact_mod_cast this)
    have hwb : IntKind.u8.wrap y = y := by rw [IntKind.wrap_u8]; omega
    have cr := fun v0 => qh (read_only_all size size rfl v0 y bs rest b Bb Bp w (by omega) hBy hr hbB h)
    have HO := qh ho
    have HB := qh hbP
    have NE := qh (show P ≠ Bb from by obtain ⟨A, n, c, hv⟩ := h.isvar; exact Box.apart hP hv (by decide))
    have HH := qh h.isvar
    have HNP := qh (show P ≠ Bp from Box.apart hP h.ptr (by decide))
    clear h hP ho hr y0 y1 y2 hs
    go_enter Try.func87, Try.ntmps87
    go_wp2_with (go_at_call 60; ((with_reducible refine ((cr _).out).mono ?_); rintro e w1 ⟨rfl, hI1, hK1, hA1⟩; have P1 := qh (hA1 P _ _ NE.out HP.out); have I1 := qh hI1; have K1 := qh hK1; have A1 := qh hA1; have k1 := P1.out.cell o; rw [HO.out] at k1; have f1 := P1.out.free o; clear hI1 hK1 hA1 k0))
    go_end0
    obtain ⟨q1, A, c, q2, qc, q3⟩ := I1.out
    refine .inl ⟨y, rest, rfl, rfl, ⟨q1.far (p := ⟨P, o, none⟩) (fun e => HNP.out e.symm) _, A, c, q2.far (p := ⟨P, o, none⟩) (fun e => NE.out e.symm) _, qc, q3.stays fun i hi => heap_setCell_other w1 ⟨P, o, none⟩ i _ (by have := HB.out; show i ≠ P; omega)⟩, ⟨(K1.out.to hbw).setCell HB.out _, ((Kb.refl (B := P) w).wrote K1.out HH.out).put o _⟩, P1.out.put o _, fun g T G hg hp h => (A1.out g T G hg h).far (p := ⟨P, o, none⟩) hp _⟩
theorem part_int_far (size : Nat) (z : Int) (hz : z = size) (x0 : Int) (P o : Nat) (t : TypeId) (cs : Array Value) (bs : List Int) (b Bb Bp : Nat) (w : World) (hs : 1 ≤ size ∧ size ≤ 4) (hBy : Im.IsBytes bs) (hbB : b ≤ Bb) (hbP : b ≤ P) (hbw : b ≤ w.heap.size) (h : Rd b Bb Bp bs w) (hP : Box w P t cs) (ho : cs[o]? = some (.int .i64 x0)) (h1 : t ≠ 27) (h2 : t ≠ 5) (h3 : t ≠ 68) :
    Calls Try.prog 51 #[.func (.func 60) #[] #[.pointer (some ⟨Bp, 0, none⟩)], .int .i64 z, .pointer (some ⟨P, o, none⟩)] w fun e w' => (∃ y rest, Im.rdn size bs = some (y, rest) ∧ e = .returned (.tuple #[]) ∧ Rd b Bb Bp rest w' ∧ Rk b Bb P w w' ∧ Box w' P t (cs.setIfInBounds o (.int .i64 y)) ∧ ∀ g T G, g ≠ Bb → g ≠ P → Box w g T G → Box w' g T G) ∨ (Im.rdn size bs = none ∧ Pan e ∧ w = w') := by
  subst hz
  have HP := qh hP
  have k0 := hP.cell o
  rw [ho] at k0
  cases hr : Im.rdn size bs with
  | none =>
    have cr := fun v0 => qh (read_few size size rfl v0 bs b Bb Bp w (Im.rdn_none hr) h)
    clear h hP ho hs hr
    go_enter Try.func51, Try.ntmps51
    go_wp2_with (go_at_call 60; ((with_reducible refine ((cr _).out).mono ?_); rintro e w2 ⟨⟨s, rfl⟩, rfl⟩))
    exact ⟨rfl, .inr ⟨trivial, ⟨_, rfl⟩, rfl⟩⟩
  | some q =>
    obtain ⟨y, rest⟩ := q
    obtain ⟨_, y0, y1, _⟩ := Im.rdn_inv hBy hr
    have y2 : y < 2 ^ (8 * 4) := Int.lt_of_lt_of_le y1 (by have := Nat.pow_le_pow_right (show 0 < 2 by decide) (show 8 * size ≤ 8 * 4 by omega); exact_mod_cast this)
    have hwb : IntKind.i64.wrap y = y := by rw [IntKind.wrap_i64]; omega
    have cr := fun v0 => qh (read_only_all size size rfl v0 y bs rest b Bb Bp w (by omega) hBy hr hbB h)
    have HO := qh ho
    have HB := qh hbP
    have NE := qh (show P ≠ Bb from by obtain ⟨A, n, c, hv⟩ := h.isvar; exact Box.apart hP hv h1)
    have HH := qh h.isvar
    have HNP := qh (show P ≠ Bp from Box.apart hP h.ptr h3)
    clear h hP ho hr y0 y1 y2 hs
    go_enter Try.func51, Try.ntmps51
    go_wp2_with (go_at_call 60; ((with_reducible refine ((cr _).out).mono ?_); rintro e w1 ⟨rfl, hI1, hK1, hA1⟩; have P1 := qh (hA1 P _ _ NE.out HP.out); have I1 := qh hI1; have K1 := qh hK1; have A1 := qh hA1; have k1 := P1.out.cell o; rw [HO.out] at k1; have f1 := P1.out.free o; clear hI1 hK1 hA1 k0))
    go_end0
    obtain ⟨q1, A, c, q2, qc, q3⟩ := I1.out
    refine .inl ⟨y, rest, rfl, rfl, ⟨q1.far (p := ⟨P, o, none⟩) (fun e => HNP.out e.symm) _, A, c, q2.far (p := ⟨P, o, none⟩) (fun e => NE.out e.symm) _, qc, q3.stays fun i hi => heap_setCell_other w1 ⟨P, o, none⟩ i _ (by have := HB.out; show i ≠ P; omega)⟩, ⟨(K1.out.to hbw).setCell HB.out _, ((Kb.refl (B := P) w).wrote K1.out HH.out).put o _⟩, P1.out.put o _, fun g T G hg hp h => (A1.out g T G hg h).far (p := ⟨P, o, none⟩) hp _⟩
end Go.Proofs.Ytgmlbimgcifenaa
namespace Im
open Go
def getB (size : Nat) (bs : List Int) : Option (List Int × List Int) := (rdn size bs).bind fun n => if n.1.toNat ≤ n.2.length then some (n.2.take n.1.toNat, n.2.drop n.1.toNat) else none
theorem bytesOf_one {x : Int} (h : 0 ≤ x ∧ x ≤ 255) : bytesOf 1 x = [x] := by
  show [] ++ [x / 2 ^ (8 * 0) % 256] = [x]
  simp
  omega
theorem rdn_one {bs : List Int} {y : Int} {rest : List Int} (h : rdn 1 bs = some (y, rest)) : bs = y :: rest := by
  unfold rdn at h
  cases bs with
  | nil => rw [if_neg (by simp)] at h; cases h
  | cons a l =>
    rw [if_pos (by simp)] at h
    injection h with h
    injection h with h1 h2
    rw [← h1, ← h2]
    simp [val, List.getD]
theorem u8s_at {l : List Int} {k : Nat} (h : k < l.length) : (u8s l)[k]? = some (.int .u8 l[k]) := by
  unfold u8s
  rw [List.getElem?_map, List.getElem?_eq_getElem h]
  rfl
end Im
namespace Go.Proofs.Ytgmlbimgcifenaa
open Go.RowKit Go.Shelf
theorem run_copy_upto {P : Program} (w : World) (dT sT ty elem : TypeId) (c g dLen dCap : Nat) (a : Addr) (sLen sCap : Nat) (cur : Array Value) (t : TypeId) (cs : List Value)
    (hu : P.underlying dT = some (.slice elem)) (hs : (P.info? elem).map (·.size) = some c)
    (hg : w.heap[g]? = some (.cells cur t (0, 0))) (hn : cs.length = Nat.min sLen dLen * c)
    (hsrc : ∀ j v, cs[j]? = some v → w.cell? (a.add j) = some v) (hfit : cs.length ≤ cur.size) (h1 : ∀ v ∈ cs, v.oneCell' = true) :
    (Builtin.copy_ #[dT, sT] ty #[.slice (some ⟨g, 0, none⟩) dLen dCap, .slice (some a) sLen sCap]).run P w =
      .ok (goInt (Nat.min sLen dLen)) (w.setRow g (cs ++ cur.toList.drop cs.length).toArray) := by
  have hl := run_loadCells_list (P := P) w a cs hsrc
  have hst := run_storeCells_at P g 0 t cs 0 cur w hg (by simp; omega) h1
  have hz : (List.take (0 + 0) cur.toList ++ cs ++ List.drop (0 + 0 + cs.length) cur.toList).toArray = (cs ++ cur.toList.drop cs.length).toArray := by
    congr 1
    simp
  cases hq : P.info? elem with
  | none => simp [hq] at hs
  | some i =>
    have hi : i.size = c := by simpa [hq] using hs
    rw [hz] at hst
    simp [Builtin.copy_, run_underlying hu, Builtin.lenOf, Builtin.firstCells, sizeOf, typeInfo, hq, hi, ← hn, hl, hst]
theorem Wr.far_new {b Bb Bp S : Nat} {bs : List Int} {w : World} (h : Wr b Bb Bp bs w) (hS : w.heap.size ≤ S) : Far S Bb w := fun A n c hB => by
  obtain ⟨_, A', c', h2, h3⟩ := h
  rw [hB.is_one h2]
  obtain ⟨_, ⟨e, _⟩ | ⟨g, cap, cur, e, _, hg, _⟩⟩ := h3
  · rw [e]; intro h; cases h
  · rw [e]
    intro h
    have h : g = S := by injection h
    have := (Array.getElem?_eq_some_iff.1 hg).1
    omega
theorem Wr.var_lt {b Bb Bp : Nat} {bs : List Int} {w : World} (h : Wr b Bb Bp bs w) : Bb < w.heap.size := by
  obtain ⟨A, n, c, hv⟩ := h.isvar
  exact hv.lt
theorem Wr.off' {b Bb Bp : Nat} {bs : List Int} {W : World} (h : Wr b Bb Bp bs W) {p : Addr} {t : TypeId} {cs : Array Value} (hp : Box W p.block t cs) (h1 : t ≠ 68) (h2 : p.block ≠ Bb) (h3 : t ≠ 5) (u : Value) : Wr b Bb Bp bs (W.setCell p u) := by
  obtain ⟨k1, A, c, k2, k3⟩ := h
  exact ⟨k1.far (fun e => Box.apart k1 hp (fun e' => h1 e'.symm) e) u, A, c, k2.far (fun e => h2 e.symm) u, ownsRow_setCell_other k3 (hp.unowned k3 (fun e => h3 e.symm)) u⟩
theorem Rd.off' {b Bb Bp : Nat} {bs : List Int} {W : World} (h : Rd b Bb Bp bs W) {p : Addr} {t : TypeId} {cs : Array Value} (hp : Box W p.block t cs) (h1 : t ≠ 68) (h2 : p.block ≠ Bb) (hb : b ≤ p.block) (u : Value) : Rd b Bb Bp bs (W.setCell p u) := by
  obtain ⟨k1, A, c, k2, kc, k3⟩ := h
  exact ⟨k1.far (fun e => Box.apart k1 hp (fun e' => h1 e'.symm) e) u, A, c, k2.far (fun e => h2 e.symm) u, kc, k3.stays fun i hi => heap_setCell_other W p i u (by omega)⟩
theorem laybyte_w (x : Int) (P o : Nat) (cs : Array Value) (bs : List Int) (b Bb Bp : Nat) (w : World) (hx : 0 ≤ x ∧ x ≤ 255) (hbB : b ≤ Bb) (h : Wr b Bb Bp bs w) (hl : bs.length + 1 ≤ 65536) (hP : Box w P 5 cs) (hF : Far P Bb w) (ho : cs[o]? = some (.int .u8 x)) :
    Calls Try.prog 84 #[.func (.func 54) #[] #[.pointer (some ⟨Bp, 0, none⟩)], .pointer (some ⟨P, o, none⟩)] w fun e w' => e = .returned (.tuple #[]) ∧ Wr b Bb Bp (bs ++ Im.bytesOf 1 x) w' ∧ Wrote b Bb w w' ∧ FarK Bb w w' := by
  have c1 := qh (layu8_far x P o cs bs b Bb Bp w hx hbB h hl hP hF ho)
  clear h hP hF ho
  go_enter Try.func84, Try.ntmps84
  go_wp2_with (go_at_call 87; ((with_reducible refine (c1.out).mono ?_); rintro e w1 ⟨rfl, hI, hK, hF⟩))
  go_end0
  exact ⟨rfl, hI, hK, hF⟩
theorem laybyte_r (x0 : Int) (P o : Nat) (cs : Array Value) (bs : List Int) (b Bb Bp : Nat) (w : World) (hBy : Im.IsBytes bs) (hbB : b ≤ Bb) (hbP : b ≤ P) (hbw : b ≤ w.heap.size) (h : Rd b Bb Bp bs w) (hP : Box w P 5 cs) (ho : cs[o]? = some (.int .u8 x0)) :
    Calls Try.prog 84 #[.func (.func 60) #[] #[.pointer (some ⟨Bp, 0, none⟩)], .pointer (some ⟨P, o, none⟩)] w fun e w' => (∃ y rest, Im.rdn 1 bs = some (y, rest) ∧ e = .returned (.tuple #[]) ∧ Rd b Bb Bp rest w' ∧ Rk b Bb P w w' ∧ Box w' P 5 (cs.setIfInBounds o (.int .u8 y)) ∧ ∀ g T G, g ≠ Bb → g ≠ P → Box w g T G → Box w' g T G) ∨ (Im.rdn 1 bs = none ∧ Pan e ∧ w = w') := by
  have c1 := qh (part_u8_far 1 1 rfl x0 P o cs bs b Bb Bp w (by decide) hBy hbB hbP hbw h hP ho)
  clear h hP ho
  go_enter Try.func84, Try.ntmps84
  go_wp2_with (go_at_call 87; ((with_reducible refine (c1.out).mono ?_); rintro e w1 (⟨y, rest, hr, rfl, hI, hK, hB, hA⟩ | ⟨hr, ⟨ss, rfl⟩, rfl⟩)))
  · go_end0
    exact .inl ⟨y, rest, hr, rfl, hI, hK, hB, hA⟩
  · exact ⟨rfl, .inr ⟨hr, ⟨_, rfl⟩, rfl⟩⟩
theorem listby_w (l : List Int) (n : Nat) (A : Option Addr) (c size : Nat) (z : Int) (hz : z = size) (P o : Nat) (t : TypeId) (cs : Array Value) (bs : List Int) (b Bb Bp : Nat) (w : World) (hn : l.length = n) (hn16 : n ≤ 4096) (hs : size ≤ 8) (hbB : b ≤ Bb) (hbP : b ≤ P) (hbw : b ≤ w.heap.size) (h : Wr b Bb Bp bs w) (hl : bs.length + size + l.length ≤ 65536) (hP : Box w P t cs) (hPB : P ≠ Bb) (hBy : Im.IsBytes l)
    (ho : cs[o]? = some (.slice A n c)) (hL : ∀ X, Below b w X → FarK Bb w X → Lies X X.heap.size 1 A n (Im.u8s l)) (h2 : t ≠ 5) (h3 : t ≠ 68) :
    Calls Try.prog 83 #[.func (.func 54) #[] #[.pointer (some ⟨Bp, 0, none⟩)], .int .i64 z, .pointer (some ⟨P, o, none⟩), .func (.func 84) #[] #[]] w fun e w' => e = .returned (.tuple #[]) ∧ Wr b Bb Bp (bs ++ (Im.bytesOf size n ++ l)) w' ∧ Below b w w' ∧ Kb P w w' ∧ VarK Bb P w w' ∧ ∃ S, w.heap.size ≤ S ∧ Box w' P t (cs.setIfInBounds o (.slice (some ⟨S, 0, none⟩) n n)) ∧ Box w' S 5 (Im.u8s l).toArray := by
  subst hz
  have k0 := hP.cell o
  rw [ho] at k0
  have ltP := hP.lt
  have HL := qh (Box.made w 3 #[.int .i64 n])
  have HPA := qh (hP.alloc (.cells #[.int .i64 n] 3))
  have HA := qh (h.alloc (.cells #[.int .i64 n] 3))
  have WA := qh ((Wrote.refl hbB w).alloc (.cells #[.int .i64 n] 3))
  have KA := qh ((Kb.refl (B := P) w).call (one_below w (.cells #[.int .i64 n] 3)))
  have VA := qh ((VarK.refl (Bb := Bb) (P := P) w).call (one_below w (.cells #[.int .i64 n] 3)))
  have FA := qh ((FarK.refl (Bb := Bb) w).call (one_below w (.cells #[.int .i64 n] 3)) h.var_lt)
  have c1 := qh (layint_far size n w.heap.size 0 3 #[.int .i64 n] bs b Bb Bp _ hs (by omega) hbB HA.out (by omega) HL.out rfl (by decide) (by decide) (by decide))
  have hvar := qh HA.out.isvar
  have HO := qh ho
  have HLs := qh hL
  obtain ⟨i0, hi0, hz0, hz1, hz2⟩ := u8_parts
  obtain ⟨Z, hZ⟩ : ∃ Z, Z = madeCells (Value.int .u8 0).cells (n * 1) := ⟨_, rfl⟩
  have hZs : Z.size = n * 1 := by rw [hZ, size_madeCells]
  have hCs : (Im.u8s l).length = n := by rw [Im.u8s_len, hn]
  have hmk : ∀ W : World, (Instr.makeSlice 27 (.int .i64 (n : Int)) (.int .i64 (n : Int))).run Try.prog W = .ok (.slice (some ⟨W.heap.size, 0, none⟩) n n) (W.alloc (.cells Z 5)) := fun W => by
    have := run_make (P := Try.prog) W 27 5 i0 _ Try.underlying27 hi0 hz0 .i64 .i64 n n (by omega) (Int.le_refl _) (by rw [hz2]; omega) (by omega)
    rw [this, hZ, hz1, Int.toNat_natCast]
  have hcp : ∀ W : World, Lies W W.heap.size 1 A n (Im.u8s l) → (Builtin.copy_ #[27, 27] 3 #[.slice (some ⟨W.heap.size, 0, none⟩) n n, .slice A n c]).run Try.prog (W.alloc (.cells Z 5)) = .ok (.int .i64 n) (W.alloc (.cells (Im.u8s l).toArray 5)) := fun W hW => by
    cases A with
    | none =>
      have hn0 : n = 0 := by
        by_cases h0 : n = 0
        · exact h0
        · obtain ⟨ad, e, _⟩ := hW.start h0
          cases e
      have hl0 : Im.u8s l = [] := List.eq_nil_of_length_eq_zero (by omega)
      have hz : Z = #[] := Array.eq_empty_of_size_eq_zero (by omega)
      have := run_copy_nought (P := Try.prog) (W.alloc (.cells Z 5)) 27 27 3 5 ⟨W.heap.size, 0, none⟩ n n c Try.underlying27 (by rw [Option.isSome_map]; rw [hi0]; rfl)
      rw [hn0] at this ⊢
      rw [hl0]
      rw [hz] at this ⊢
      simpa [goInt] using this
    | some ad =>
      have hc : ∀ j v, (Im.u8s l)[j]? = some v → (W.alloc (.cells Z 5)).cell? (ad.add j) = some v := fun j v hv => by
        have hn0 : n ≠ 0 := fun e => by
          have := (List.getElem?_eq_some_iff.1 hv).1
          omega
        exact (hW.below (one_below W (.cells Z 5))).cell ad rfl hn0 j v hv
      have := run_copy_rows (P := Try.prog) (W.alloc (.cells Z 5)) 27 27 3 5 1 W.heap.size n n ad n c Z 5 (Im.u8s l) Try.underlying27 (by rw [hi0, Option.map_some, hz1]) (Box.made W _ _).is (by rw [hW.len]; simp) hc (by rw [hW.len, hZs]) (Im.u8s_one l)
      rw [World.setRow_alloc_new] at this
      simpa [goInt] using this
  have NL := qh hn
  have HCS := qh hCs
  have HY := qh hBy
  clear h hP ho hL hZ hn hCs hBy
  go_enter Try.func83, Try.ntmps83
  go_upto_region 2 with (go_at_call 51; ((with_reducible refine (c1.out).mono ?_); rintro e w1 ⟨rfl, hI1, hK1, hF1⟩; have L1 := HL.out.wrote' hK1 hvar.out (by decide) (by decide); have l1 := L1.cell 0; have P1 := qh (HPA.out.wrote hK1 hPB h2); have I1 := qh hI1; have K1 := qh (WA.out.trans hK1); have B1 := qh (KA.out.wrote hK1 hvar.out); have F1 := qh (FA.out.trans hF1); have V1 := qh (VA.out.wrote hK1); clear hI1 hK1 hF1 L1 k0))
  have lw1 := HLs.out w1 (K1.out.to hbw) F1.out
  have hcpw := hcp w1 lw1
  have p58 : ∀ x, (w1.alloc x).cell? ⟨P, o, none⟩ = some (.slice A n c) := fun x => ((P1.out.alloc x).cell o).trans HO.out
  have sz1 : w.heap.size ≤ w1.heap.size := K1.out.size
  clear hcp lw1 HLs HL HPA HA WA KA VA FA c1
  go_upto_region 4 with fail
  obtain ⟨U, hU⟩ : ∃ U, U = w1.alloc (.cells (Im.u8s l).toArray 5) := ⟨_, rfl⟩
  have PU : Box U P t cs := by rw [hU]; exact P1.out.alloc _
  have SU : Box U w1.heap.size 5 (Im.u8s l).toArray := by rw [hU]; exact Box.made w1 _ _
  have IU : Wr b Bb Bp (bs ++ Im.bytesOf size n) U := by rw [hU]; exact I1.out.alloc _
  have BU : Below b w U := by rw [hU]; exact (K1.out.to hbw).alloc (Nat.le_trans hbw sz1) _
  have KU : Kb P w U := by rw [hU]; exact B1.out.call (one_below _ _)
  have VU : VarK Bb P w U := by rw [hU]; exact V1.out.call (one_below _ _)
  have FU : Far w1.heap.size Bb U := by rw [hU]; exact (I1.out.far_new (Nat.le_refl _)).call (one_below _ _) I1.out.var_lt
  have hSP : w1.heap.size ≠ P := by have := P1.out.lt; omega
  have hbS : b ≤ w1.heap.size := Nat.le_trans hbw sz1
  have hSw : w.heap.size ≤ w1.heap.size := sz1
  rw [← hU]
  generalize w1.heap.size = S at *
  have IU := qh IU
  have PU := qh PU
  have SU := qh SU
  have BU := qh BU
  have KU := qh KU
  have FU := qh FU
  have VU := qh VU
  clear hU I1 K1 P1 B1 F1 V1 p58 hcpw hmk l1 hvar sz1
  go_upto_region 5 with fail
  go_loopw [10, 27] (fun _ i wr => ∃ k : Nat, k ≤ n ∧ i = .int .i64 k ∧ Wr b Bb Bp (bs ++ Im.bytesOf size n ++ l.take k) wr ∧ Wrote b Bb U wr ∧ FarK Bb U wr) (fun _ i _ => n - (intOf i).toNat)
  case atStart => exact ⟨0, by omega, rfl, by simpa using IU.out, Wrote.refl hbB U, FarK.refl U⟩
  case round =>
    obtain ⟨k, hk, rfl, hI, hK, hF⟩ := hrel
    by_cases hlt : k < n
    · have hk8 : (k : Int) < n := by omega
      have hkl : k < l.length := by have := NL.out; omega
      have hx := HY.out l[k] (List.getElem_mem hkl)
      have HT := qh (show l.take (k + 1) = l.take k ++ Im.bytesOf 1 l[k] by rw [Im.bytesOf_one hx, List.take_succ_eq_append_getElem hkl])
      have sw := hF S _ SU.out FU.out
      have cc := qh (laybyte_w l[k] S k _ (bs ++ Im.bytesOf size n ++ l.take k) b Bb Bp wr hx hbB hI (by rw [List.length_append, List.length_append, Im.bytesOf_len, List.length_take]; omega) sw.1 sw.2 (by rw [List.getElem?_toArray]; exact Im.u8s_at hkl))
      have HK := qh hK
      have HF := qh hF
      clear hI hK hF sw hx
      go_wp2_with (go_at_call 84; ((with_reducible refine (cc.out).mono ?_); rintro e w3 ⟨rfl, hI, hK, hF⟩; have I3 := qh hI; have K3 := qh (HK.out.trans hK); have F3 := qh (HF.out.trans hF); clear hI hK hF))
      go_roundw
      case rel => exact ⟨k + 1, by omega, by go_num, by rw [HT.out, ← List.append_assoc]; exact I3.out, K3.out, F3.out⟩
      case measure => simp [intOf]; omega
    · have hk8 : ¬ (k : Int) < n := by omega
      obtain rfl : k = n := by omega
      have ht : l.take k = l := List.take_of_length_le (by have := NL.out; omega)
      rw [ht] at hI
      have HI := qh hI
      have HK := qh hK
      have SW := qh (hF S _ SU.out FU.out)
      have PW := qh (PU.out.wrote hK hPB h2)
      have pc : wr.cell? ⟨P, o, none⟩ = some (.slice A k c) := (PW.out.cell o).trans HO.out
      have pf : wr.frozen? ⟨P, o, none⟩ = false := PW.out.free o
      have IVU := qh IU.out.isvar
      clear hI hK hF
      go_wp2
      go_end0
      exact ⟨rfl, by rw [← List.append_assoc]; exact HI.out.off' (p := ⟨P, o, none⟩) PW.out h3 hPB h2 _, (BU.out.trans (HK.out.to (Nat.le_trans hbw BU.out.size))).setCell hbP _, (KU.out.wrote HK.out IVU.out).put o _, (VU.out.wrote HK.out).put o _, S, hSw, PW.out.put o _, SW.out.1.far hSP _⟩
def GotB (size : Nat) (bs : List Int) (b Bb Bp P o : Nat) (t : TypeId) (cs : Array Value) (w : World) (e : Ending) (w' : World) : Prop :=
      (∃ l rest S, Im.getB size bs = some (l, rest) ∧ e = .returned (.tuple #[]) ∧ Im.IsBytes l ∧ Im.IsBytes rest ∧ l.length < 65536 ∧ Rd b Bb Bp rest w' ∧ Rk b Bb P w w' ∧ w.heap.size ≤ S ∧ Box w' P t (cs.setIfInBounds o (.slice (some ⟨S, 0, none⟩) l.length l.length)) ∧ Box w' S 5 (Im.u8s l).toArray ∧ ∀ g T G, g ≠ Bb → g ≠ P → Box w g T G → Box w' g T G) ∨
      (Im.getB size bs = none ∧ Pan e ∧ Rk b Bb P w w' ∧ Box w' P t cs)
theorem listby_r (l0 : List Int) (A0 : Option Addr) (n0 c0 : Nat) (size : Nat) (z : Int) (hz : z = size) (P o : Nat) (t : TypeId) (cs : Array Value) (bs : List Int) (b Bb Bp : Nat) (w : World) (hBy : Im.IsBytes bs) (hs : 1 ≤ size ∧ size ≤ 2) (hbB : b ≤ Bb) (hbP : b ≤ P) (hbw : b ≤ w.heap.size) (h : Rd b Bb Bp bs w) (hP : Box w P t cs) (hPB : P ≠ Bb) (hn0 : n0 ≤ 4096)
    (ho : cs[o]? = some (.slice A0 n0 c0)) (hL : ∀ X, (∀ g T G, g ≠ Bb → Box w g T G → Box X g T G) → Lies X X.heap.size 1 A0 n0 (Im.u8s l0)) (h2 : t ≠ 5) (h3 : t ≠ 68) :
    Calls Try.prog 83 #[.func (.func 60) #[] #[.pointer (some ⟨Bp, 0, none⟩)], .int .i64 z, .pointer (some ⟨P, o, none⟩), .func (.func 84) #[] #[]] w (GotB size bs b Bb Bp P o t cs w) := by
  subst hz
  have k0 := hP.cell o
  rw [ho] at k0
  have ltP := hP.lt
  have HPA := qh (hP.alloc (.cells #[.int .i64 n0] 3))
  have HKA := qh (Rk.alloc (w := w) (Bb := Bb) (P := P) hbw (.cells #[.int .i64 n0] 3))
  have c1 := qh (part_int_far size size rfl n0 w.heap.size 0 3 #[.int .i64 n0] bs b Bb Bp _ (by omega) hBy hbB hbw (by simp <;> omega) (h.call (one_below w (.cells #[.int .i64 n0] 3)) hbw) (Box.made w 3 #[.int .i64 n0]) rfl (by decide) (by decide) (by decide))
  obtain ⟨i0, hi0, hz0, hz1, hz2⟩ := u8_parts
  have hmk : ∀ (n : Nat), n < 65536 → ∀ W : World, (Instr.makeSlice 27 (.int .i64 (n : Int)) (.int .i64 (n : Int))).run Try.prog W = .ok (.slice (some ⟨W.heap.size, 0, none⟩) n n) (W.alloc (.cells (madeCells (Value.int .u8 0).cells (n * 1)) 5)) := fun n hn W => by
    have := run_make (P := Try.prog) W 27 5 i0 _ Try.underlying27 hi0 hz0 .i64 .i64 n n (by omega) (Int.le_refl _) (by rw [hz2]; omega) (by omega)
    rw [this, hz1, Int.toNat_natCast]
  have hcp : ∀ (n : Nat) (Z : Array Value) (W : World), Z.size = n → (∀ j, j < n → ∃ v, Z[j]? = some (.int .u8 v)) → Lies W W.heap.size 1 A0 n0 (Im.u8s l0) → ∃ Y : Array Value, Y.size = n ∧ (∀ j, j < n → ∃ v, Y[j]? = some (.int .u8 v)) ∧ (Builtin.copy_ #[27, 27] 3 #[.slice (some ⟨W.heap.size, 0, none⟩) n n, .slice A0 n0 c0]).run Try.prog (W.alloc (.cells Z 5)) = .ok (.int .i64 (Nat.min n0 n)) (W.alloc (.cells Y 5)) := fun n Z W hZs hZc hW => by
    have hll : l0.length = n0 := by have := hW.len; rw [Im.u8s_len] at this; omega
    cases A0 with
    | none =>
      have e0 : n0 = 0 := by
        by_cases h0 : n0 = 0
        · exact h0
        · obtain ⟨ad, e, _⟩ := hW.start h0
          cases e
      subst e0
      refine ⟨Z, hZs, hZc, ?_⟩
      have := run_copy_nought (P := Try.prog) (W.alloc (.cells Z 5)) 27 27 3 5 ⟨W.heap.size, 0, none⟩ n n c0 Try.underlying27 (by rw [Option.isSome_map]; rw [hi0]; rfl)
      rw [show Nat.min 0 n = 0 from Nat.zero_min n]
      simpa [goInt] using this
    | some ad =>
      have hm1 : Nat.min n0 n ≤ n0 := Nat.min_le_left _ _
      have hm2 : Nat.min n0 n ≤ n := Nat.min_le_right _ _
      generalize hm : Nat.min n0 n = m at *
      have hcl : (Im.u8s (l0.take m)).length = m := by rw [Im.u8s_len, List.length_take]; omega
      have hc : ∀ j v, (Im.u8s (l0.take m))[j]? = some v → (W.alloc (.cells Z 5)).cell? (ad.add j) = some v := fun j v hv => by
        have hj := (List.getElem?_eq_some_iff.1 hv).1
        refine (hW.below (one_below W (.cells Z 5))).cell ad rfl (by omega) j v ?_
        rw [← hv]
        unfold Im.u8s
        rw [List.getElem?_map, List.getElem?_map, List.getElem?_take, if_pos (by omega)]
      have := run_copy_upto (P := Try.prog) (W.alloc (.cells Z 5)) 27 27 3 5 1 W.heap.size n n ad n0 c0 Z 5 (Im.u8s (l0.take m)) Try.underlying27 (by rw [hi0, Option.map_some, hz1]) (Box.made W _ _).is (by rw [hcl, hm]; omega) hc (by omega) (Im.u8s_one _)
      rw [World.setRow_alloc_new, hm] at this
      refine ⟨_, ?_, fun j hj => ?_, by simpa [goInt] using this⟩
      · simp only [List.size_toArray, List.length_append, List.length_drop, Array.length_toList, hcl]; omega
      · rw [List.getElem?_toArray]
        by_cases hjm : j < m
        · rw [List.getElem?_append_left (by omega)]
          exact ⟨_, Im.u8s_at (by rw [List.length_take]; omega)⟩
        · obtain ⟨v, hv⟩ := hZc j hj
          refine ⟨v, ?_⟩
          rw [List.getElem?_append_right (by omega), List.getElem?_drop, hcl, show m + (j - m) = j by omega, Array.getElem?_toList, hv]
  have HO := qh ho
  have HB := qh hbP
  have HW := qh hbw
  have HY := qh hBy
  have HLS := qh hL
  have HS := qh hs
  clear h hP ho hBy hs hL
  go_enter Try.func83, Try.ntmps83
  go_upto_region 2 with (go_at_call 51; ((with_reducible refine (c1.out).mono ?_); rintro r w1 (⟨m, r1, hr, rfl, hI, hK, hB1, hA1⟩ | ⟨hn, ⟨ss, rfl⟩, rfl⟩); (all_goals first | (have R1 := qh hr; have Y1 := qh (Im.rdn_inv HY.out hr); have l1 := hB1.cell 0; have P1 := qh (hA1 _ _ _ hPB (by omega) HPA.out); have O1 := qh (fun g T G hg (hB : Box w g T G) => hA1 g T G hg (by have := hB.lt; omega) (hB.alloc (.cells #[.int .i64 n0] 3))); have I1 := qh hI; have K1 := qh (HKA.out.local hK (Nat.le_refl _)); clear hr hI hK hB1 hA1 c1 k0) | (have N1 := qh hn; clear hn c1 k0))))
  rotate_left
  · refine ⟨rfl, .inr ⟨?_, ⟨_, rfl⟩, HKA.out, HPA.out⟩⟩
    unfold Im.getB
    rw [N1.out, Option.bind_none]
  obtain ⟨n, hmn⟩ : ∃ n : Nat, m = n := ⟨m.toNat, by have := Y1.out.2.1; omega⟩
  subst hmn
  have hn256 : n < 65536 := by
    have h1 := Y1.out.2.2.1
    have h2 : (2 : Int) ^ (8 * size) ≤ 2 ^ 16 := by
      have := Nat.pow_le_pow_right (show 0 < 2 by decide) (show 8 * size ≤ 16 by have := HS.out; omega)
      exact_mod_cast this
    omega
  have HDE := qh (show Im.getB size bs = if n ≤ r1.length then some (r1.take n, r1.drop n) else none by unfold Im.getB; rw [R1.out, Option.bind_some, Int.toNat_natCast])
  simp only [List.getElem?_toArray, Array.setIfInBounds, List.size_toArray, List.length_cons, List.length_nil, Nat.zero_add, Nat.lt_add_one, dite_true, List.set_toArray, List.set_cons_zero, List.getElem?_cons_zero] at l1
  have hmkn := hmk n hn256
  obtain ⟨Z, hZ⟩ : ∃ Z, Z = madeCells (Value.int .u8 0).cells (n * 1) := ⟨_, rfl⟩
  rw [← hZ] at hmkn
  obtain ⟨Y0, hY0s, hY0c, hcpw⟩ := hcp n Z w1 (by rw [hZ, size_madeCells]; omega) (fun j hj => ⟨0, by
    have := made_rows (Value.int .u8 0).cells n (by decide) j
    rw [hZ]
    rw [if_neg (by omega), if_pos (show j < n * (Value.int .u8 0).cells.size by show j < n * 1; omega)] at this
    rw [show n * 1 = n * (Value.int .u8 0).cells.size from rfl, this]
    show [Value.int .u8 0][j % 1]? = _
    rw [Nat.mod_one]; rfl⟩) (HLS.out w1 O1.out)
  have p58 : ∀ x, (w1.alloc x).cell? ⟨P, o, none⟩ = some (.slice A0 n0 c0) := fun x => ((P1.out.alloc x).cell o).trans HO.out
  have s1 := Nat.le_trans HW.out K1.out.below.size
  have sz1 := K1.out.below.size
  have HY0s := qh hY0s
  have HY0c := qh hY0c
  clear hcp HPA HKA hmk hZ hY0s hY0c
  go_upto_region 4 with fail
  obtain ⟨U, hU⟩ : ∃ U, U = w1.alloc (.cells Y0 5) := ⟨_, rfl⟩
  have PU := qh (show Box U P t cs by (rw [hU]; exact P1.out.alloc _))
  have SU := qh (show Box U w1.heap.size 5 Y0 by (rw [hU]; exact Box.made w1 _ _))
  have IU := qh (show Rd b Bb Bp r1 U by (rw [hU]; exact I1.out.call (one_below w1 _) s1))
  have KU := qh (show Rk b Bb P w U by (rw [hU]; exact K1.out.trans (Rk.alloc (w := w1) (Bb := Bb) (P := P) s1 _)))
  have OU := qh (show ∀ g T G, g ≠ Bb → Box w g T G → Box U g T G ∧ g ≠ w1.heap.size from fun g T G hg hB => by have h1 := O1.out g T G hg hB; exact ⟨by rw [hU]; exact h1.alloc _, by have := h1.lt; omega⟩)
  have hSB : Hid (w1.heap.size ≠ P) := qh (by have := P1.out.lt; omega)
  have hSw : Hid (b ≤ w1.heap.size) := qh s1
  have hSz : Hid (w.heap.size ≤ w1.heap.size) := qh sz1
  rw [← hU]
  generalize w1.heap.size = S at *
  clear hU I1 K1 P1 O1 p58 hcpw hmkn l1 s1 sz1
  have hbU : b ≤ U.heap.size := Nat.le_trans HW.out KU.out.below.size
  go_upto_region 5 with fail
  go_loopw [10, 27] (fun _ i wr => ∃ (k : Nat) (Y : Array Value), k ≤ n ∧ i = .int .i64 k ∧ k ≤ r1.length ∧ Rd b Bb Bp (r1.drop k) wr ∧ Rk b Bb S U wr ∧ Box wr S 5 Y ∧ Y.size = n ∧ (∀ j, j < n → ∃ v, Y[j]? = some (.int .u8 v)) ∧ (∀ j, j < k → Y[j]? = some (.int .u8 (r1.getD j 0))) ∧ (∀ g T G, g ≠ Bb → g ≠ S → Box U g T G → Box wr g T G)) (fun _ i _ => n - (intOf i).toNat)
  case atStart => exact ⟨0, Y0, by omega, rfl, by omega, by simpa using IU.out, Rk.refl _ _ _ _, SU.out, HY0s.out, HY0c.out, fun j h => by omega, fun _ _ _ _ _ h => h⟩
  case round =>
    obtain ⟨k, Y, hk, rfl, hkr, hI, hK, hB, hYs, hYc, hYd, hO⟩ := hrel
    by_cases hlt : k < n
    · have hk8 : (k : Int) < n := by omega
      have hwy : b ≤ wr.heap.size := Nat.le_trans hbU hK.below.size
      obtain ⟨v0, hv0⟩ := hYc k hlt
      have cc := qh (laybyte_r v0 S k Y (r1.drop k) b Bb Bp wr (Y1.out.2.2.2.drop k) hbB hSw.out hwy hI hB hv0)
      have K2 := qh hK
      have HO2 := qh hO
      have HYs := qh hYs
      have HYc := qh hYc
      have HYd := qh hYd
      clear hI hK hB hwy hYs hYc hYd hO hv0
      go_wp2_with (go_at_call 84; ((with_reducible refine (cc.out).mono ?_); rintro e w3 (⟨y, r3, hr, rfl, hI, hK, hB, hA⟩ | ⟨hn, ⟨ss, rfl⟩, rfl⟩); (all_goals first | (have R3 := qh (Im.rdn_one hr); have I3 := qh hI; have K3 := qh (K2.out.trans hK); have B3 := qh hB; have O3 := qh (fun g T G h1 h2 (h : Box U g T G) => hA g T G h1 h2 (HO2.out g T G h1 h2 h)); clear hr hI hK hB hA) | (have N3 := qh (Im.rdn_none hn); clear hn))))
      · go_roundw
        case rel =>
          have hlen : k < r1.length := by
            have := congrArg List.length R3.out
            rw [List.length_drop, List.length_cons] at this
            omega
          have hd : r1.drop (k + 1) = r3 := by
            have := congrArg (List.drop 1) R3.out
            rwa [List.drop_drop, List.drop_succ_cons, List.drop_zero] at this
          have hy : r1.getD k 0 = y := by
            have := congrArg (fun q => q[0]?) R3.out
            simp only [List.getElem?_drop, Nat.add_zero, List.getElem?_cons_zero] at this
            simp [List.getD, this]
          refine ⟨k + 1, Y.setIfInBounds k (.int .u8 y), by omega, by go_num, by omega, by rw [hd]; exact I3.out, K3.out, B3.out, by rw [Array.size_setIfInBounds]; exact HYs.out, fun j hj => ?_, fun j hj => ?_, O3.out⟩
          · by_cases e : k = j
            · subst e; exact ⟨y, by rw [Array.getElem?_setIfInBounds_self, if_pos (by rw [HYs.out]; exact hj)]⟩
            · rw [Array.getElem?_setIfInBounds_ne e]; exact HYc.out j hj
          · by_cases e : k = j
            · subst e; rw [Array.getElem?_setIfInBounds_self, if_pos (by rw [HYs.out]; exact hlt), hy]
            · rw [Array.getElem?_setIfInBounds_ne e]; exact HYd.out j (by omega)
        case measure => simp [intOf]; omega
      · refine ⟨rfl, .inr ⟨?_, ⟨_, rfl⟩, KU.out.local K2.out hSz.out, ?_⟩⟩
        · rw [HDE.out, if_neg (by have := N3.out; rw [List.length_drop] at this; omega)]
        · exact HO2.out P t cs hPB hSB.out.symm PU.out
    · have hk8 : ¬ (k : Int) < n := by omega
      obtain rfl : k = n := by omega
      have PW := qh (hO P t cs hPB hSB.out.symm PU.out)
      have pc : wr.cell? ⟨P, o, none⟩ = some (.slice A0 n0 c0) := (PW.out.cell o).trans HO.out
      have pf : wr.frozen? ⟨P, o, none⟩ = false := PW.out.free o
      have eY : Y = (Im.u8s (r1.take k)).toArray := by
        apply Array.ext_getElem?
        intro j
        by_cases hj : j < k
        · rw [hYd j hj, List.getElem?_toArray, Im.u8s_at (by rw [List.length_take]; omega)]
          congr 2
          simp [List.getD, List.getElem?_eq_getElem (show j < r1.length by omega)]
        · rw [Array.getElem?_eq_none (by omega), Array.getElem?_eq_none (by rw [List.size_toArray, Im.u8s_len, List.length_take]; omega)]
      rw [eY] at hB
      have hlk : (r1.take k).length = k := by rw [List.length_take]; omega
      have HL := qh hlk
      have HI := qh hI
      have HK := qh hK
      have HBX := qh hB
      have HO2 := qh hO
      clear hI hK hB hYs hYc hYd hO eY hlk
      go_wp2
      go_end0
      refine .inl ⟨r1.take k, r1.drop k, S, by rw [HDE.out, if_pos hkr], rfl, Y1.out.2.2.2.take k, Y1.out.2.2.2.drop k, by rw [HL.out]; omega, HI.out.off' (p := ⟨P, o, none⟩) PW.out h3 hPB HB.out _, ?_, hSz.out, ?_, HBX.out.far hSB.out _, fun g T G h1 h2 h => ?_⟩
      · exact (KU.out.local HK.out hSz.out).put HB.out o _
      · rw [HL.out]; exact PW.out.put o _
      · have h5 := OU.out g T G h1 h
        exact (HO2.out g T G h1 h5.2 h5.1).far (p := ⟨P, o, none⟩) h2 _
end Go.Proofs.Ytgmlbimgcifenaa