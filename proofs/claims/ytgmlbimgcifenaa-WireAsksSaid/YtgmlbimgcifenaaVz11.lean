/-
Several texts in one: Yo Zj Zk.
-/
import Derived.Test.YtgmlbimgcifenaaVz10
set_option maxRecDepth 100000
set_option maxHeartbeats 8000000
set_option linter.unusedVariables false
set_option linter.unusedSimpArgs false
namespace Ms
theorem ins_len : ∀ l : List Gm.In, (l.flatMap En.inBytes).length = 3 * l.length
  | [] => rfl
  | a :: l => by rw [List.flatMap_cons, List.length_append, ins_len l, En.inBytes_len, List.length_cons]; omega
theorem part_le {m : M} (h : Ok m) {c : Int} (hc : c ∈ has m.kind) : (part m c).length ≤ 1900 := by
  have bd := h.bd
  rcases Go.Proofs.Ytgmlbimgcifenaa.has_mem hc with rfl | rfl | rfl | rfl | rfl | rfl | rfl | rfl | rfl | rfl | rfl
  · exact Nat.le_trans (Nat.le_of_eq (Im.bytesOf_len _ _)) (by decide)
  · exact Nat.le_trans (Nat.le_of_eq (Im.bytesOf_len _ _)) (by decide)
  · exact Nat.le_trans (Nat.le_of_eq (Im.bytesOf_len _ _)) (by decide)
  · exact Nat.le_trans (Nat.le_of_eq (Im.bytesOf_len _ _)) (by decide)
  · exact Nat.le_trans (Nat.le_of_eq (Im.bytesOf_len _ _)) (by decide)
  · exact Nat.le_trans (Nat.le_of_eq (Im.bytesOf_len _ _)) (by decide)
  · exact Nat.le_trans (Nat.le_of_eq (Im.bytesOf_len _ _)) (by decide)
  · exact Nat.le_trans (Nat.le_of_eq (Im.bytesOf_len _ _)) (by decide)
  · have h1 := bd.ins hc
    show (Im.bytesOf 1 (m.ins.length : Int) ++ m.ins.flatMap En.inBytes).length ≤ 1900
    rw [List.length_append, Im.bytesOf_len, ins_len]; omega
  · have h1 := bd.log hc
    show (Im.bytesOf 1 (m.log.length : Int) ++ m.log.flatMap logBytes).length ≤ 1900
    have h2 := logs_le m.log (fun e he => by
      obtain ⟨k, hk, rfl⟩ := List.mem_iff_getElem.1 he
      exact (h.log k hk).1)
    rw [List.length_append, Im.bytesOf_len]; omega
  · have h1 := bd.data hc
    show (Im.bytesOf 1 (m.data.length : Int) ++ m.data).length ≤ 1900
    rw [List.length_append, Im.bytesOf_len]; omega
theorem parts_le {m : M} (h : Ok m) : ∀ l : List Int, (∀ c ∈ l, c ∈ has m.kind) → (l.flatMap (part m)).length ≤ 1900 * l.length
  | [], _ => Nat.le_refl _
  | a :: l, hl => by
    rw [List.flatMap_cons, List.length_append, List.length_cons]
    have h1 := part_le h (hl a (by simp))
    have h2 := parts_le h l (fun c hc => hl c (by simp [hc]))
    omega
theorem head_len (m : M) : (head m).length = 10 := by unfold head; simp only [List.length_append, Im.bytesOf_len]
theorem body_le {m : M} (h : Ok m) : (body m).length ≤ 9510 := by
  have h1 := parts_le h (has m.kind) (fun _ h => h)
  have h2 := has_len m.kind
  unfold body
  rw [List.length_append, head_len]; omega
end Ms
namespace Go.Proofs.Ytgmlbimgcifenaa
open Go.RowKit
theorem conv_i64 {n : Int} {w : World} (h1 : 0 ≤ n) (h2 : n ≤ 9223372036854775807) : (convert 3 24 (.int .i64 n)).run Try.prog w = .ok (.int .u64 n) w := conv_u64 h1 h2
theorem conv_u16 {n : Int} {w : World} (h1 : 0 ≤ n) (h2 : n ≤ 65535) : (convert 22 24 (.int .u16 n)).run Try.prog w = .ok (.int .u64 n) w := by
  have hw : IntKind.u64.wrap n = n := by rw [IntKind.wrap_u64]; omega
  go_simp
theorem conv_u32 {n : Int} {w : World} (h1 : 0 ≤ n) (h2 : n ≤ 4294967295) : (convert 23 24 (.int .u32 n)).run Try.prog w = .ok (.int .u64 n) w := by
  have hw : IntKind.u64.wrap n = n := by rw [IntKind.wrap_u64]; omega
  go_simp
theorem LiesM.call {w w' : World} {q : Ms.S} (h : LiesM w w.heap.size q) (hb : Below w.heap.size w w') : LiesM w' w'.heap.size q :=
  ⟨(h.ins.below hb).wider hb.size, (h.log.below hb).wider hb.size, (h.data.below hb).wider hb.size, h.fi, h.fl, h.fd⟩
theorem idx_str {l : List Int} {k : Nat} {w : World} (hB : Im.IsBytes l) (hk : k < l.length) : (Instr.index 9 (.string (strOfNums l)) (.int .i64 (k : Int))).run Try.prog w = .ok (.int .u8 (l.getD k 0)) w := by
  have hsz := strOfNums_size l
  have hks : k < (strOfNums l).size := by omega
  have h := Sx.str_at hB k hk hks
  rw [← h]
  generalize strOfNums l = s at *
  clear h
  have h1 : (k : Int) < (s.size : Int) := by omega
  go_simp
  (try first | done | rfl)
theorem refput12_any (q : Ms.S) (w : World) (hT : Ms.Ty q.m) (hL : LiesM w w.heap.size q) (hok : Ms.Ok q.m) (hbb0 : Im.IsBytes (Ms.body q.m)) :
    Calls Try.prog 16 #[.agg q.cells] w fun e w' => e = .returned (.string (strOfNums (Ms.put q.m))) ∧ Below w.heap.size w w' := by
  have bd := hok.bd
  have bkind := qh (show 0 ≤ q.m.kind ∧ q.m.kind ≤ 9223372036854775807 from ⟨bd.kind.1, by have := bd.kind.2; omega⟩)
  have bfrm := qh (show 0 ≤ q.m.frm ∧ q.m.frm ≤ 9223372036854775807 from ⟨bd.frm.1, by have := bd.frm.2; omega⟩)
  have bserial := qh hT.serial
  have back := qh hT.ack
  have bseen := qh hT.seen
  have hbb := qh hbb0
  have hsl := qh (Crc.sum_lt hbb0)
  have hbl := qh (Ms.body_le hok)
  have TT := qh hT
  have OK := qh hok
  have KB := qh (one_below w (.cells q.cells 29))
  have BX := qh (Box.made w 29 q.cells)
  have LM := qh hL
  clear hT hL hok hbb0 bd
  generalize hA : q.cells = CS
  go_enter Try.func16, Try.ntmps16
  go_upto_region 1 with fail
  subst hA
  obtain ⟨B, hB⟩ : ∃ B, B = w.heap.size := ⟨_, rfl⟩
  rw [← hB] at BX
  refine Slim.forget 52 rfl rfl fun a0 S D hf => ?_
  have H1 : Slim.Has a0 1 true (.pointer (some ⟨B, 0, none⟩)) := by rw [hB]; exact hf 1 _ rfl
  clear hf hB
  generalize w.alloc (.cells q.cells 29) = W0 at *
  have ZB := qh (show ∀ w' : World, (∃ z : Ext W0.heap.size W0, w' = z.w) → Box w' B 29 q.cells from by
    rintro _ ⟨z, rfl⟩
    exact BX.out.below z.h BX.out.lt)
  refine wp_region_ext W0.heap.size W0 (by kernel_rfl) (by kernel_rfl) (Below.refl _ _) ?_
  refine Slim.qa (v := .pointer (some ⟨B, 0, none⟩)) rfl rfl S D (fun h0 w hw => (Slim.field_g rfl H1 id (by go_simp; first | done | rfl)) h0) fun a1 o S D H6 => ?_
  replace H1 := o.st H1
  refine Slim.qa (v := .int .i64 q.m.kind) rfl rfl S D (fun h0 w hw => (Slim.load_g rfl H6 id (by have k := (ZB.out w hw).cell 0; go_simp; first | done | rfl)) h0) fun a2 o S D H7 => ?_
  replace H1 := o.st H1
  clear H6 o
  refine Slim.qa (v := .int .u64 q.m.kind) rfl rfl S D (fun h0 w hw => (Slim.convert_g rfl H7 id (conv_i64 bkind.out.1 bkind.out.2)) h0) fun a3 o S D H8 => ?_
  replace H1 := o.st H1
  clear H7 o
  refine Slim.qcall_g (t := 9) (c := true) (v := .string (strOfNums (Im.bytesOf 1 q.m.kind))) rfl (by rw [S]; decide) (Slim.wants_all rfl) (fun h0 w hw => (Slim.calls2_g rfl H8 id (by go_simp; first | done | rfl)) h0) (fun _ w hw => by obtain ⟨q', rfl⟩ := hw; exact Calls.ext_of (Nat.le_refl _) (refput_num 1 1 q.m.kind rfl _ (by decide) (by have h1 := bkind.out; omega))) fun a4 o => ?_
  replace S := o.size.trans S; replace D := o.defers.trans D
  replace H1 := o.st H1
  have H9 : Slim.Has a4 9 true (.string (strOfNums (Im.bytesOf 1 q.m.kind))) := o.here
  clear H8
  refine Slim.qa (v := .pointer (some ⟨B, 1, none⟩)) rfl rfl S D (fun h0 w hw => (Slim.field_g rfl H1 id (by go_simp; first | done | rfl)) h0) fun a5 o S D H10 => ?_
  replace H1 := o.st H1
  replace H9 := o.st H9
  refine Slim.qa (v := .int .i64 q.m.frm) rfl rfl S D (fun h0 w hw => (Slim.load_g rfl H10 id (by have k := (ZB.out w hw).cell 1; go_simp; first | done | rfl)) h0) fun a6 o S D H11 => ?_
  replace H1 := o.st H1
  replace H9 := o.st H9
  clear H10 o
  refine Slim.qa (v := .int .u64 q.m.frm) rfl rfl S D (fun h0 w hw => (Slim.convert_g rfl H11 id (conv_i64 bfrm.out.1 bfrm.out.2)) h0) fun a7 o S D H12 => ?_
  replace H1 := o.st H1
  replace H9 := o.st H9
  clear H11 o
  refine Slim.qcall_g (t := 13) (c := true) (v := .string (strOfNums (Im.bytesOf 1 q.m.frm))) rfl (by rw [S]; decide) (Slim.wants_all rfl) (fun h0 w hw => (Slim.calls2_g rfl H12 id (by go_simp; first | done | rfl)) h0) (fun _ w hw => by obtain ⟨q', rfl⟩ := hw; exact Calls.ext_of (Nat.le_refl _) (refput_num 1 1 q.m.frm rfl _ (by decide) (by have h1 := bfrm.out; omega))) fun a8 o => ?_
  replace S := o.size.trans S; replace D := o.defers.trans D
  replace H1 := o.st H1
  replace H9 := o.st H9
  have H13 : Slim.Has a8 13 true (.string (strOfNums (Im.bytesOf 1 q.m.frm))) := o.here
  clear H12
  refine Slim.qa (v := .string (strOfNums (Im.bytesOf 1 q.m.kind ++ Im.bytesOf 1 q.m.frm))) rfl rfl S D (fun h0 w hw => (Slim.bin2_g rfl H9 H13 id id (fun _ _ => str_add (by simp only [List.length_append, Im.bytesOf_len]; omega))) h0) fun a9 o S D H14 => ?_
  replace H1 := o.st H1
  clear H9 H13 o
  refine Slim.qa (v := .pointer (some ⟨B, 2, none⟩)) rfl rfl S D (fun h0 w hw => (Slim.field_g rfl H1 id (by go_simp; first | done | rfl)) h0) fun a10 o S D H15 => ?_
  replace H1 := o.st H1
  replace H14 := o.st H14
  refine Slim.qa (v := .int .u16 q.m.serial) rfl rfl S D (fun h0 w hw => (Slim.load_g rfl H15 id (by have k := (ZB.out w hw).cell 2; go_simp; first | done | rfl)) h0) fun a11 o S D H16 => ?_
  replace H1 := o.st H1
  replace H14 := o.st H14
  clear H15 o
  refine Slim.qa (v := .int .u64 q.m.serial) rfl rfl S D (fun h0 w hw => (Slim.convert_g rfl H16 id (conv_u16 bserial.out.1 bserial.out.2)) h0) fun a12 o S D H17 => ?_
  replace H1 := o.st H1
  replace H14 := o.st H14
  clear H16 o
  refine Slim.qcall_g (t := 18) (c := true) (v := .string (strOfNums (Im.bytesOf 2 q.m.serial))) rfl (by rw [S]; decide) (Slim.wants_all rfl) (fun h0 w hw => (Slim.calls2_g rfl H17 id (by go_simp; first | done | rfl)) h0) (fun _ w hw => by obtain ⟨q', rfl⟩ := hw; exact Calls.ext_of (Nat.le_refl _) (refput_num 2 2 q.m.serial rfl _ (by decide) (by have h1 := bserial.out; omega))) fun a13 o => ?_
  replace S := o.size.trans S; replace D := o.defers.trans D
  replace H1 := o.st H1
  replace H14 := o.st H14
  have H18 : Slim.Has a13 18 true (.string (strOfNums (Im.bytesOf 2 q.m.serial))) := o.here
  clear H17
  refine Slim.qa (v := .string (strOfNums (Im.bytesOf 1 q.m.kind ++ Im.bytesOf 1 q.m.frm ++ Im.bytesOf 2 q.m.serial))) rfl rfl S D (fun h0 w hw => (Slim.bin2_g rfl H14 H18 id id (fun _ _ => str_add (by simp only [List.length_append, Im.bytesOf_len]; omega))) h0) fun a14 o S D H19 => ?_
  replace H1 := o.st H1
  clear H14 H18 o
  refine Slim.qa (v := .pointer (some ⟨B, 3, none⟩)) rfl rfl S D (fun h0 w hw => (Slim.field_g rfl H1 id (by go_simp; first | done | rfl)) h0) fun a15 o S D H20 => ?_
  replace H1 := o.st H1
  replace H19 := o.st H19
  refine Slim.qa (v := .int .u16 q.m.ack) rfl rfl S D (fun h0 w hw => (Slim.load_g rfl H20 id (by have k := (ZB.out w hw).cell 3; go_simp; first | done | rfl)) h0) fun a16 o S D H21 => ?_
  replace H1 := o.st H1
  replace H19 := o.st H19
  clear H20 o
  refine Slim.qa (v := .int .u64 q.m.ack) rfl rfl S D (fun h0 w hw => (Slim.convert_g rfl H21 id (conv_u16 back.out.1 back.out.2)) h0) fun a17 o S D H22 => ?_
  replace H1 := o.st H1
  replace H19 := o.st H19
  clear H21 o
  refine Slim.qcall_g (t := 23) (c := true) (v := .string (strOfNums (Im.bytesOf 2 q.m.ack))) rfl (by rw [S]; decide) (Slim.wants_all rfl) (fun h0 w hw => (Slim.calls2_g rfl H22 id (by go_simp; first | done | rfl)) h0) (fun _ w hw => by obtain ⟨q', rfl⟩ := hw; exact Calls.ext_of (Nat.le_refl _) (refput_num 2 2 q.m.ack rfl _ (by decide) (by have h1 := back.out; omega))) fun a18 o => ?_
  replace S := o.size.trans S; replace D := o.defers.trans D
  replace H1 := o.st H1
  replace H19 := o.st H19
  have H23 : Slim.Has a18 23 true (.string (strOfNums (Im.bytesOf 2 q.m.ack))) := o.here
  clear H22
  refine Slim.qa (v := .string (strOfNums (Im.bytesOf 1 q.m.kind ++ Im.bytesOf 1 q.m.frm ++ Im.bytesOf 2 q.m.serial ++ Im.bytesOf 2 q.m.ack))) rfl rfl S D (fun h0 w hw => (Slim.bin2_g rfl H19 H23 id id (fun _ _ => str_add (by simp only [List.length_append, Im.bytesOf_len]; omega))) h0) fun a19 o S D H24 => ?_
  replace H1 := o.st H1
  clear H19 H23 o
  refine Slim.qa (v := .pointer (some ⟨B, 4, none⟩)) rfl rfl S D (fun h0 w hw => (Slim.field_g rfl H1 id (by go_simp; first | done | rfl)) h0) fun a20 o S D H25 => ?_
  replace H1 := o.st H1
  replace H24 := o.st H24
  refine Slim.qa (v := .int .u32 q.m.seen) rfl rfl S D (fun h0 w hw => (Slim.load_g rfl H25 id (by have k := (ZB.out w hw).cell 4; go_simp; first | done | rfl)) h0) fun a21 o S D H26 => ?_
  replace H1 := o.st H1
  replace H24 := o.st H24
  clear H25 o
  refine Slim.qa (v := .int .u64 q.m.seen) rfl rfl S D (fun h0 w hw => (Slim.convert_g rfl H26 id (conv_u32 bseen.out.1 bseen.out.2)) h0) fun a22 o S D H27 => ?_
  replace H1 := o.st H1
  replace H24 := o.st H24
  clear H26 o
  refine Slim.qcall_g (t := 28) (c := true) (v := .string (strOfNums (Im.bytesOf 4 q.m.seen))) rfl (by rw [S]; decide) (Slim.wants_all rfl) (fun h0 w hw => (Slim.calls2_g rfl H27 id (by go_simp; first | done | rfl)) h0) (fun _ w hw => by obtain ⟨q', rfl⟩ := hw; exact Calls.ext_of (Nat.le_refl _) (refput_num 4 4 q.m.seen rfl _ (by decide) (by have h1 := bseen.out; omega))) fun a23 o => ?_
  replace S := o.size.trans S; replace D := o.defers.trans D
  replace H1 := o.st H1
  replace H24 := o.st H24
  have H28 : Slim.Has a23 28 true (.string (strOfNums (Im.bytesOf 4 q.m.seen))) := o.here
  clear H27
  refine Slim.qa (v := .string (strOfNums (Im.bytesOf 1 q.m.kind ++ Im.bytesOf 1 q.m.frm ++ Im.bytesOf 2 q.m.serial ++ Im.bytesOf 2 q.m.ack ++ Im.bytesOf 4 q.m.seen))) rfl rfl S D (fun h0 w hw => (Slim.bin2_g rfl H24 H28 id id (fun _ _ => str_add (by simp only [List.length_append, Im.bytesOf_len]; omega))) h0) fun a24 o S D H29 => ?_
  replace H1 := o.st H1
  clear H24 H28 o
  refine Slim.qa rfl rfl S D (fun h0 w hw => (Slim.assign_g rfl H29 id) h0) fun a25 o S D H3 => ?_
  replace H1 := o.st H1
  clear H29 o
  refine wpQuiet_nil ?_
  rintro _ ⟨q', rfl⟩
  replace BX := qh (ZB.out _ ⟨q', rfl⟩)
  replace KB := qh (KB.out.trans (q'.h.mono KB.out.size))
  generalize q'.w = W9 at *
  clear ZB
  refine (by assumption : ∀ a w, Code.wp Try.prog _ _ a w → _) _ _ ?_
  apply wp_seq_k; intro K1 hK1
  refine wp_region_lit ?_
  refine Slim.va (v := .pointer (some ⟨B, 0, none⟩)) rfl rfl S D (Slim.field_g rfl H1 id (by go_simp; first | done | rfl)) fun a26 o S D H30 => ?_
  replace H1 := o.st H1
  replace H3 := o.st H3
  refine Slim.va (v := .int .i64 q.m.kind) rfl rfl S D (Slim.load_g rfl H30 id (by have k := BX.out.cell 0; go_simp; first | done | rfl)) fun a27 o S D H31 => ?_
  replace H1 := o.st H1
  replace H3 := o.st H3
  clear H30 o
  refine Slim.call0_g (t := 32) (c := true) (v := .string (strOfNums (Ms.has q.m.kind))) rfl (by rw [S]; decide) (Slim.wants_all rfl) (Slim.calls1_g rfl H31 id (by go_simp; first | done | rfl)) (fun _ => has_any q.m.kind _) fun a28 o => ?_
  replace S := o.size.trans S; replace D := o.defers.trans D
  replace H1 := o.st H1
  replace H3 := o.st H3
  have H32 : Slim.Has a28 32 true (.string (strOfNums (Ms.has q.m.kind))) := o.here
  clear H31
  refine Slim.va rfl rfl S D (Slim.assign_g rfl H32 id) fun a29 o S D H4 => ?_
  replace H1 := o.st H1
  replace H3 := o.st H3
  clear H32 o
  refine wpList_nil ?_
  refine hK1 _ _ ?_
  apply wp_seq_k; intro K1 hK1
  apply wp_seq_k; intro K2 hK2
  refine wp_region_lit ?_
  refine Slim.va rfl rfl S D (Slim.constc_g rfl) fun a30 o S D H5 => ?_
  replace H1 := o.st H1
  replace H3 := o.st H3
  replace H4 := o.st H4
  clear o
  refine wpList_nil ?_
  refine hK2 _ _ ?_
  refine wp_block ?_
  refine wp_loop (fun b V => ∃ k : Nat, b.tmps.size = 52 ∧ b.defers = [] ∧ Slim.Has b 1 true (.pointer (some ⟨B, 0, none⟩)) ∧ Slim.Has b 3 true (.string (strOfNums (Ms.head q.m ++ ((Ms.has q.m.kind).take k).flatMap (Ms.part q.m)))) ∧ Slim.Has b 4 true (.string (strOfNums (Ms.has q.m.kind))) ∧ Slim.Has b 5 true (.int .i64 (k : Int)) ∧ k ≤ (Ms.has q.m.kind).length ∧ Box V B 29 q.cells ∧ Below w.heap.size w V) (fun b _ => (Ms.has q.m.kind).length - (intOf (b.tmps.getD 5 undef)).toNat) ⟨0, S, D, H1, (by rw [List.take_zero, List.flatMap_nil, List.append_nil]; exact H3), H4, H5, Nat.zero_le _, BX.out, KB.out⟩ ?_
  intro a0 V hI
  clear S D H1 H3 H4 H5 KB BX
  obtain ⟨k, S, D, H1, H3, H4, H5, hk, hbx, hkb⟩ := hI
  have KB := qh hkb
  have BX := qh hbx
  have MU := qh (show (Ms.has q.m.kind).length - (intOf (a0.tmps.getD 5 undef)).toNat = (Ms.has q.m.kind).length - k from by rw [show a0.tmps.getD 5 undef = .int .i64 (k : Int) from Slim.pres H5 rfl]; simp [intOf])
  have hh5 := Ms.has_len q.m.kind
  clear hkb hbx
  apply wp_seq_k; intro K3 hK3
  apply wp_seq_k; intro K4 hK4
  refine wp_region_lit ?_
  refine Slim.va rfl rfl S D (Slim.move_g rfl H5 id) fun a1 o S D H33 => ?_
  replace H1 := o.st H1
  replace H3 := o.st H3
  replace H4 := o.st H4
  replace H5 := o.st H5
  refine Slim.va rfl rfl S D (Slim.move_g rfl H4 id) fun a2 o S D H34 => ?_
  replace H1 := o.st H1
  replace H3 := o.st H3
  replace H4 := o.st H4
  replace H5 := o.st H5
  replace H33 := o.st H33
  refine Slim.va (v := .int .i64 ((Ms.has q.m.kind).length : Int)) rfl rfl S D (Slim.len_g rfl H34 id (len_str (by omega))) fun a3 o S D H35 => ?_
  replace H1 := o.st H1
  replace H3 := o.st H3
  replace H4 := o.st H4
  replace H5 := o.st H5
  replace H33 := o.st H33
  clear H34 o
  refine Slim.va rfl rfl S D (Slim.bin2_g rfl H33 H35 id id (fun _ _ => Slim.cmp_lss)) fun a4 o S D H36 => ?_
  replace H1 := o.st H1
  replace H3 := o.st H3
  replace H4 := o.st H4
  replace H5 := o.st H5
  clear H33 H35 o
  refine wpList_nil ?_
  refine hK4 _ _ ?_
  refine wp_cond_split (Slim.pres H36 rfl) (fun e36 => ?_) (fun e36 => ?_)
  · have hkn : k < (Ms.has q.m.kind).length := by have := of_decide_eq_true e36; omega
    clear e36 H36
    refine wp_skip ?_
    refine hK3 _ _ ?_
    apply wp_seq_k; intro K5 hK5
    refine wp_block ?_
    obtain ⟨c, hc⟩ : ∃ c, c = (Ms.has q.m.kind).getD k 0 := ⟨_, rfl⟩
    have hce : c = (Ms.has q.m.kind)[k] := by rw [hc]; simp [hkn]
    have hcm := qh (show c ∈ Ms.has q.m.kind from by rw [hce]; exact List.getElem_mem hkn)
    have hpc := Ms.part_le OK.out hcm.out
    have hpre : (Ms.head q.m ++ ((Ms.has q.m.kind).take k).flatMap (Ms.part q.m)).length ≤ 9600 := by
      have h1 := Ms.parts_le OK.out ((Ms.has q.m.kind).take k) (fun c hc => List.mem_of_mem_take hc)
      rw [List.length_take] at h1
      rw [List.length_append, Ms.head_len]; omega
    have HCk := qh hc
    have HNX := qh (show Ms.head q.m ++ ((Ms.has q.m.kind).take (k + 1)).flatMap (Ms.part q.m) = Ms.head q.m ++ ((Ms.has q.m.kind).take k).flatMap (Ms.part q.m) ++ Ms.part q.m c from by
      rw [List.take_succ_eq_append_getElem hkn, List.flatMap_append, ← hce, List.append_assoc]; simp)
    have LV := qh (LM.out.call KB.out)
    have LZ := qh (fun z : Ext V.heap.size V => LV.out.call z.h)
    have ZB := qh (show ∀ w' : World, (∃ z : Ext V.heap.size V, w' = z.w) → Box w' B 29 q.cells from by
      rintro _ ⟨z, rfl⟩
      exact BX.out.below z.h BX.out.lt)
    clear hc hce
    refine wp_region_ext V.heap.size V (by kernel_rfl) (by kernel_rfl) (Below.refl _ _) ?_
    refine Slim.qa rfl rfl S D (fun h0 w hw => (Slim.move_g rfl H3 id) h0) fun a5 o S D H39 => ?_
    replace H1 := o.st H1
    replace H4 := o.st H4
    replace H5 := o.st H5
    clear H3 o
    refine Slim.qa (v := .agg q.cells) rfl rfl S D (fun h0 w hw => (Slim.load_g rfl H1 id (Slim.load_whole (ZB.out w hw).is Try.underlying29 rfl msg_info)) h0) fun a6 o S D H40 => ?_
    replace H1 := o.st H1
    replace H4 := o.st H4
    replace H5 := o.st H5
    replace H39 := o.st H39
    refine Slim.qa rfl rfl S D (fun h0 w hw => (Slim.move_g rfl H4 id) h0) fun a7 o S D H41 => ?_
    replace H1 := o.st H1
    replace H4 := o.st H4
    replace H5 := o.st H5
    replace H39 := o.st H39
    replace H40 := o.st H40
    refine Slim.qa rfl rfl S D (fun h0 w hw => (Slim.move_g rfl H5 id) h0) fun a8 o S D H42 => ?_
    replace H1 := o.st H1
    replace H4 := o.st H4
    replace H5 := o.st H5
    replace H39 := o.st H39
    replace H40 := o.st H40
    replace H41 := o.st H41
    refine Slim.qa (v := .int .u8 c) rfl rfl S D (fun h0 w hw => (Slim.indexv_g rfl H41 H42 id id (by rw [HCk.out]; exact idx_str (Ms.has_bytes q.m.kind) hkn)) h0) fun a9 o S D H43 => ?_
    replace H1 := o.st H1
    replace H4 := o.st H4
    replace H5 := o.st H5
    replace H39 := o.st H39
    replace H40 := o.st H40
    clear H41 H42 o
    refine Slim.qcall_g (t := 44) (c := true) (v := .string (strOfNums (Ms.part q.m c))) rfl (by rw [S]; decide) (Slim.wants_all rfl) (fun h0 w hw => (Slim.calls22_g rfl H40 H43 id id (by go_simp; first | done | rfl)) h0) (fun _ w hw => by obtain ⟨q', rfl⟩ := hw; exact Calls.ext_of (Nat.le_refl _) (part_any q _ TT.out (LZ.out q') OK.out c hcm.out)) fun a10 o => ?_
    replace S := o.size.trans S; replace D := o.defers.trans D
    replace H1 := o.st H1
    replace H4 := o.st H4
    replace H5 := o.st H5
    replace H39 := o.st H39
    have H44 : Slim.Has a10 44 true (.string (strOfNums (Ms.part q.m c))) := o.here
    clear H40
    clear H43
    refine Slim.qa (v := .string (strOfNums (Ms.head q.m ++ ((Ms.has q.m.kind).take k).flatMap (Ms.part q.m) ++ Ms.part q.m c))) rfl rfl S D (fun h0 w hw => (Slim.bin2_g rfl H39 H44 id id (fun _ _ => str_add (by have := hpre; have := hpc; omega))) h0) fun a11 o S D H45 => ?_
    replace H1 := o.st H1
    replace H4 := o.st H4
    replace H5 := o.st H5
    clear H39 H44 o
    refine Slim.qa rfl rfl S D (fun h0 w hw => (Slim.assign_g rfl H45 id) h0) fun a12 o S D H3 => ?_
    replace H1 := o.st H1
    replace H4 := o.st H4
    replace H5 := o.st H5
    clear H45 o
    refine wpQuiet_nil ?_
    rintro _ ⟨q', rfl⟩
    replace BX := qh (ZB.out _ ⟨q', rfl⟩)
    replace KB := qh (KB.out.trans (q'.h.mono KB.out.size))
    simp only [Exit.inBlock, Exit.then]
    refine hK5 _ _ ?_
    refine wp_region_lit ?_
    refine Slim.va rfl rfl S D (Slim.move_g rfl H5 id) fun a13 o S D H37 => ?_
    replace H1 := o.st H1
    replace H3 := o.st H3
    replace H4 := o.st H4
    clear H5 o
    refine Slim.va (v := .int .i64 ((k + 1 : Nat) : Int)) rfl rfl S D (Slim.bin_g rfl H37 id (fun _ _ => add_one k (by omega))) fun a14 o S D H38 => ?_
    replace H1 := o.st H1
    replace H3 := o.st H3
    replace H4 := o.st H4
    clear H37 o
    refine Slim.va rfl rfl S D (Slim.assign_g rfl H38 id) fun a15 o S D H5 => ?_
    replace H1 := o.st H1
    replace H3 := o.st H3
    replace H4 := o.st H4
    clear H38 o
    refine wpList_nil ?_
    refine ⟨⟨k + 1, S, D, H1, by rw [HNX.out]; exact H3, H4, H5, hkn, BX.out, KB.out⟩, ?_⟩
    have hm := MU.out
    show _ - (intOf (_ : Value)).toNat < _
    rw [hm, show (_ : Act).tmps.getD 5 undef = .int .i64 ((k + 1 : Nat) : Int) from Slim.pres H5 rfl]
    simp [intOf]; omega
  · have hkn : k = (Ms.has q.m.kind).length := by have := of_decide_eq_false e36; omega
    rw [hkn, List.take_length] at H3
    replace H3 : Slim.Has _ 3 true (.string (strOfNums (Ms.body q.m))) := H3
    clear H36 H4 H5 H1
    refine wp_exit ?_
    simp only [Exit.inBlock, Exit.then, if_true]
    refine hK1 _ _ ?_
    apply wp_seq_k; intro K7 hK7
    refine wp_region_lit ?_
    refine Slim.va rfl rfl S D (Slim.move_g rfl H3 id) fun a5 o S D H46 => ?_
    replace H3 := o.st H3
    clear o
    refine Slim.call0_g (t := 47) (c := true) (v := .int .u32 ((Crc.sum (Ms.body q.m) : Nat) : Int)) rfl (by rw [S]; decide) (Slim.wants_all rfl) (Slim.calls1_g rfl H46 id (by go_simp; first | done | rfl)) (fun _ => refcheck_any (Ms.body q.m) _ hbb.out (by have := hbl.out; unfold maxLen; omega)) fun a6 o => ?_
    replace S := o.size.trans S; replace D := o.defers.trans D
    replace H3 := o.st H3
    have H47 : Slim.Has a6 47 true (.int .u32 ((Crc.sum (Ms.body q.m) : Nat) : Int)) := o.here
    clear H46
    refine Slim.va (v := .int .u64 ((Crc.sum (Ms.body q.m) : Nat) : Int)) rfl rfl S D (Slim.convert_g rfl H47 id (conv_u32 (by omega) (by have := hsl.out; omega))) fun a7 o S D H48 => ?_
    replace H3 := o.st H3
    clear H47 o
    refine Slim.call_g (t := 49) (c := true) (v := .string (strOfNums (Im.bytesOf 4 ((Crc.sum (Ms.body q.m) : Nat) : Int)))) rfl (by rw [S]; decide) (Slim.wants_all rfl) (Slim.calls2_g rfl H48 id (by go_simp; first | done | rfl)) (fun _ => refput_num 4 4 ((Crc.sum (Ms.body q.m) : Nat) : Int) rfl _ (by decide) (by have := hsl.out; omega)) fun a8 W1 o hb => ?_
    replace BX := qh (BX.out.below hb BX.out.lt); replace KB := qh (KB.out.trans (hb.mono KB.out.size)); clear hb
    replace S := o.size.trans S; replace D := o.defers.trans D
    replace H3 := o.st H3
    have H49 : Slim.Has a8 49 true (.string (strOfNums (Im.bytesOf 4 ((Crc.sum (Ms.body q.m) : Nat) : Int)))) := o.here
    clear H48
    refine Slim.va rfl rfl S D (Slim.move_g rfl H3 id) fun a9 o S D H50 => ?_
    replace H49 := o.st H49
    clear H3 o
    refine Slim.va (v := .string (strOfNums (Im.bytesOf 4 ((Crc.sum (Ms.body q.m) : Nat) : Int) ++ Ms.body q.m))) rfl rfl S D (Slim.bin2_g rfl H49 H50 id id (fun _ _ => str_add (by rw [Im.bytesOf_len]; have := hbl.out; omega))) fun a10 o S D H51 => ?_
    clear H49 H50 o
    refine Slim.va rfl rfl S D (Slim.assign_g rfl H51 id) fun a11 o S D H2 => ?_
    clear H51 o
    refine wpList_nil ?_
    refine hK7 _ _ ?_
    refine wp_ret ?_
    (try simp only [Exit.inBlock, Exit.then])
    exact on_ret rfl D H2 ⟨rfl, KB.out⟩
end Go.Proofs.Ytgmlbimgcifenaa
namespace Ms
open Go
def ownOf (l : List Int) : Int := (if l.contains 115 then 1 else 0) + (if l.contains 103 then 2 else 0) + (if l.contains 102 then 4 else 0) + (if l.contains 99 then 8 else 0) + (if l.contains 110 then 16 else 0) + (if l.contains 111 then 32 else 0) + (if l.contains 98 then 64 else 0) + (if l.contains 109 then 128 else 0) + (if l.contains 105 then 256 else 0) + (if l.contains 108 then 512 else 0) + (if l.contains 100 then 1024 else 0)
def own (k : Int) : Int := ownOf (has k)
theorem own_1 (k : Int) : bits .and .i64 (own k) 1 = if (has k).contains 115 then 1 else 0 := has_cases (Q := fun l => bits .and .i64 (ownOf l) 1 = if l.contains 115 then 1 else 0) k (by decide) (by decide) (by decide) (by decide) (by decide) (by decide) (by decide) (by decide) (by decide) (by decide)
theorem own_2 (k : Int) : bits .and .i64 (own k) 2 = if (has k).contains 103 then 2 else 0 := has_cases (Q := fun l => bits .and .i64 (ownOf l) 2 = if l.contains 103 then 2 else 0) k (by decide) (by decide) (by decide) (by decide) (by decide) (by decide) (by decide) (by decide) (by decide) (by decide)
theorem own_4 (k : Int) : bits .and .i64 (own k) 4 = if (has k).contains 102 then 4 else 0 := has_cases (Q := fun l => bits .and .i64 (ownOf l) 4 = if l.contains 102 then 4 else 0) k (by decide) (by decide) (by decide) (by decide) (by decide) (by decide) (by decide) (by decide) (by decide) (by decide)
theorem own_8 (k : Int) : bits .and .i64 (own k) 8 = if (has k).contains 99 then 8 else 0 := has_cases (Q := fun l => bits .and .i64 (ownOf l) 8 = if l.contains 99 then 8 else 0) k (by decide) (by decide) (by decide) (by decide) (by decide) (by decide) (by decide) (by decide) (by decide) (by decide)
theorem own_16 (k : Int) : bits .and .i64 (own k) 16 = if (has k).contains 110 then 16 else 0 := has_cases (Q := fun l => bits .and .i64 (ownOf l) 16 = if l.contains 110 then 16 else 0) k (by decide) (by decide) (by decide) (by decide) (by decide) (by decide) (by decide) (by decide) (by decide) (by decide)
theorem own_32 (k : Int) : bits .and .i64 (own k) 32 = if (has k).contains 111 then 32 else 0 := has_cases (Q := fun l => bits .and .i64 (ownOf l) 32 = if l.contains 111 then 32 else 0) k (by decide) (by decide) (by decide) (by decide) (by decide) (by decide) (by decide) (by decide) (by decide) (by decide)
theorem own_64 (k : Int) : bits .and .i64 (own k) 64 = if (has k).contains 98 then 64 else 0 := has_cases (Q := fun l => bits .and .i64 (ownOf l) 64 = if l.contains 98 then 64 else 0) k (by decide) (by decide) (by decide) (by decide) (by decide) (by decide) (by decide) (by decide) (by decide) (by decide)
theorem own_128 (k : Int) : bits .and .i64 (own k) 128 = if (has k).contains 109 then 128 else 0 := has_cases (Q := fun l => bits .and .i64 (ownOf l) 128 = if l.contains 109 then 128 else 0) k (by decide) (by decide) (by decide) (by decide) (by decide) (by decide) (by decide) (by decide) (by decide) (by decide)
theorem own_256 (k : Int) : bits .and .i64 (own k) 256 = if (has k).contains 105 then 256 else 0 := has_cases (Q := fun l => bits .and .i64 (ownOf l) 256 = if l.contains 105 then 256 else 0) k (by decide) (by decide) (by decide) (by decide) (by decide) (by decide) (by decide) (by decide) (by decide) (by decide)
theorem own_512 (k : Int) : bits .and .i64 (own k) 512 = if (has k).contains 108 then 512 else 0 := has_cases (Q := fun l => bits .and .i64 (ownOf l) 512 = if l.contains 108 then 512 else 0) k (by decide) (by decide) (by decide) (by decide) (by decide) (by decide) (by decide) (by decide) (by decide) (by decide)
theorem own_1024 (k : Int) : bits .and .i64 (own k) 1024 = if (has k).contains 100 then 1024 else 0 := has_cases (Q := fun l => bits .and .i64 (ownOf l) 1024 = if l.contains 100 then 1024 else 0) k (by decide) (by decide) (by decide) (by decide) (by decide) (by decide) (by decide) (by decide) (by decide) (by decide)
def sel (k c : Int) (l : List Int) : List Int := if (has k).contains c then l else []
theorem sel_no {k c : Int} {l : List Int} (h : (has k).contains c = false) : sel k c l = [] := by unfold sel; rw [h]; rfl
theorem sel_yes {k c : Int} {l : List Int} (h : (has k).contains c = true) : sel k c l = l := by unfold sel; rw [h]; rfl
theorem sel_le (k c : Int) (l : List Int) : (sel k c l).length ≤ l.length := by unfold sel; split <;> simp
theorem body_sel (m : M) : body m = head m ++ sel m.kind 115 (Im.bytesOf 1 m.slot) ++ sel m.kind 103 (Im.bytesOf 2 m.gen) ++ sel m.kind 102 (Im.bytesOf 4 m.frame) ++ sel m.kind 99 (Im.bytesOf 1 m.code) ++ sel m.kind 110 (Im.bytesOf 2 m.n) ++ sel m.kind 111 (Im.bytesOf 2 m.of) ++ sel m.kind 98 (Im.bytesOf 4 m.bits) ++ sel m.kind 109 (Im.bytesOf 8 m.sum) ++ sel m.kind 105 (Im.bytesOf 1 (m.ins.length : Int) ++ m.ins.flatMap En.inBytes) ++ sel m.kind 108 (Im.bytesOf 1 (m.log.length : Int) ++ m.log.flatMap Ms.logBytes) ++ sel m.kind 100 (Im.bytesOf 1 (m.data.length : Int) ++ m.data) := by
  unfold body sel
  generalize head m = h
  have p115 : part m 115 = Im.bytesOf 1 m.slot := rfl
  have p103 : part m 103 = Im.bytesOf 2 m.gen := rfl
  have p102 : part m 102 = Im.bytesOf 4 m.frame := rfl
  have p99 : part m 99 = Im.bytesOf 1 m.code := rfl
  have p110 : part m 110 = Im.bytesOf 2 m.n := rfl
  have p111 : part m 111 = Im.bytesOf 2 m.of := rfl
  have p98 : part m 98 = Im.bytesOf 4 m.bits := rfl
  have p109 : part m 109 = Im.bytesOf 8 m.sum := rfl
  have p105 : part m 105 = (Im.bytesOf 1 (m.ins.length : Int) ++ m.ins.flatMap En.inBytes) := rfl
  have p108 : part m 108 = (Im.bytesOf 1 (m.log.length : Int) ++ m.log.flatMap Ms.logBytes) := rfl
  have p100 : part m 100 = (Im.bytesOf 1 (m.data.length : Int) ++ m.data) := rfl
  refine has_cases (Q := fun l => h ++ l.flatMap (part m) = h ++ (if l.contains 115 then Im.bytesOf 1 m.slot else []) ++ (if l.contains 103 then Im.bytesOf 2 m.gen else []) ++ (if l.contains 102 then Im.bytesOf 4 m.frame else []) ++ (if l.contains 99 then Im.bytesOf 1 m.code else []) ++ (if l.contains 110 then Im.bytesOf 2 m.n else []) ++ (if l.contains 111 then Im.bytesOf 2 m.of else []) ++ (if l.contains 98 then Im.bytesOf 4 m.bits else []) ++ (if l.contains 109 then Im.bytesOf 8 m.sum else []) ++ (if l.contains 105 then (Im.bytesOf 1 (m.ins.length : Int) ++ m.ins.flatMap En.inBytes) else []) ++ (if l.contains 108 then (Im.bytesOf 1 (m.log.length : Int) ++ m.log.flatMap Ms.logBytes) else []) ++ (if l.contains 100 then (Im.bytesOf 1 (m.data.length : Int) ++ m.data) else [])) m.kind ?_ ?_ ?_ ?_ ?_ ?_ ?_ ?_ ?_ ?_ <;> simp [p115, p103, p102, p99, p110, p111, p98, p109, p105, p108, p100]
end Ms
namespace Go.Proofs.Ytgmlbimgcifenaa
open Go.RowKit Go.Shelf
structure Ws (b P tb tm tq : Nat) (m : Ms.M) (i l d v : Value) (X : World) : Prop where
  box : Box X P 29 (Ms.cells m i l d)
  by_ : Box X tb 66 #[v]
  msg : Box X tm 69 #[.pointer (some ⟨P, 0, none⟩)]
  own : Box X tq 72 #[.int .i64 (Ms.own m.kind)]
  size : b ≤ X.heap.size
section
variable {b P tb tm tq : Nat} {m : Ms.M} {i l d v : Value} {X X' : World}
theorem Ws.kb (h : Ws b P tb tm tq m i l d v X) (hK : Kb P X X') (hs : X.heap.size ≤ X'.heap.size) {i' l' d' : Value} (hB : Box X' P 29 (Ms.cells m i' l' d')) : Ws b P tb tm tq m i' l' d' v X' :=
  ⟨hB, hK _ _ _ h.by_ (Box.apart h.by_ h.box (by decide)) (by decide) (by decide), hK _ _ _ h.msg (Box.apart h.msg h.box (by decide)) (by decide) (by decide), hK _ _ _ h.own (Box.apart h.own h.box (by decide)) (by decide) (by decide), Nat.le_trans h.size hs⟩
theorem Ws.drew (h : Ws b P tb tm tq m i l d v X) : Ws b P tb tm tq m i l d v X.drew := ⟨h.box.drew, h.by_.drew, h.msg.drew, h.own.drew, h.size⟩
end
theorem ws_slot (m : Ms.M) (i l d : Value) (P tb tm tq : Nat) (bs : List Int) (b Bb Bp : Nat) (X : World) (hbB : b ≤ Bb) (hx : (Ms.has m.kind).contains 115 = true → 0 ≤ m.slot ∧ m.slot ≤ 9223372036854775807) (h : Wr b Bb Bp bs X) (hl : bs.length + 8 ≤ 65536) (hS : Ws b P tb tm tq m i l d (.func (.func 54) #[] #[.pointer (some ⟨Bp, 0, none⟩)]) X) :
    Calls Try.prog 66 #[.int .i64 1, .func (.func 67) #[] #[.pointer (some ⟨tb, 0, none⟩), .pointer (some ⟨tm, 0, none⟩)], .pointer (some ⟨tq, 0, none⟩)] X fun e w' => e = .returned (.tuple #[]) ∧ Wr b Bb Bp (bs ++ Ms.sel m.kind 115 (Im.bytesOf 1 m.slot)) w' ∧ Ws b P tb tm tq m i l d (.func (.func 54) #[] #[.pointer (some ⟨Bp, 0, none⟩)]) w' ∧ Below b X w' ∧ Kb P X w' ∧ VarK Bb P X w' := by
  refine pt2 _ (Ms.own m.kind) _ P tb tm tq X _ hS.by_ hS.msg hS.own (Ms.own_1 m.kind) (fun h0 => ?_) (fun h1 => ?_) (fun e w' hφ => .inl ⟨hφ.1, hφ.2.2.1.by_, hφ.2.2.1.msg⟩)
  · have hc : (Ms.has m.kind).contains 115 = false := by
      cases hc : (Ms.has m.kind).contains 115
      · rfl
      · rw [hc] at h0; exact absurd h0 (by decide)
    rw [Ms.sel_no hc, List.append_nil]
    exact ⟨rfl, h, hS, Below.refl _ _, Kb.refl _, VarK.refl _⟩
  · have hc : (Ms.has m.kind).contains 115 = true := by
      cases hc : (Ms.has m.kind).contains 115
      · rw [hc] at h1; exact absurd rfl h1
      · rfl
    have hr := hx hc
    rw [Ms.sel_yes hc]
    have hW := h.call (one_below' X)
    have hv := hW.isvar
    refine (layint_w 1 1 rfl m.slot P 5 29 (Ms.cells m i l d) bs b Bb Bp X.drew (by decide) (by omega) hbB hW (by omega) hS.box.drew rfl (by decide) (by decide) (by decide)).mono ?_
    rintro e w' ⟨rfl, h1, h2⟩
    have hK := ((Kb.refl (B := P) X).call (one_below' X)).wrote h2 hv
    have hB := ((one_below' X).mono hS.size).trans (h2.to hS.size)
    exact ⟨rfl, by rw [show IntKind.u64.wrap m.slot = m.slot from by rw [IntKind.wrap_u64]; omega] at h1; exact h1, hS.kb hK h2.size (hS.box.drew.wrote' h2 hv (by decide) (by decide)), hB, hK, ((VarK.refl (Bb := Bb) (P := P) X).call (one_below' X)).wrote h2⟩
theorem ws_gen (m : Ms.M) (i l d : Value) (P tb tm tq : Nat) (bs : List Int) (b Bb Bp : Nat) (X : World) (hbB : b ≤ Bb) (hx : (Ms.has m.kind).contains 103 = true → 0 ≤ m.gen ∧ m.gen ≤ 9223372036854775807) (h : Wr b Bb Bp bs X) (hl : bs.length + 8 ≤ 65536) (hS : Ws b P tb tm tq m i l d (.func (.func 54) #[] #[.pointer (some ⟨Bp, 0, none⟩)]) X) :
    Calls Try.prog 66 #[.int .i64 2, .func (.func 68) #[] #[.pointer (some ⟨tb, 0, none⟩), .pointer (some ⟨tm, 0, none⟩)], .pointer (some ⟨tq, 0, none⟩)] X fun e w' => e = .returned (.tuple #[]) ∧ Wr b Bb Bp (bs ++ Ms.sel m.kind 103 (Im.bytesOf 2 m.gen)) w' ∧ Ws b P tb tm tq m i l d (.func (.func 54) #[] #[.pointer (some ⟨Bp, 0, none⟩)]) w' ∧ Below b X w' ∧ Kb P X w' ∧ VarK Bb P X w' := by
  refine pt3 _ (Ms.own m.kind) _ P tb tm tq X _ hS.by_ hS.msg hS.own (Ms.own_2 m.kind) (fun h0 => ?_) (fun h1 => ?_) (fun e w' hφ => .inl ⟨hφ.1, hφ.2.2.1.by_, hφ.2.2.1.msg⟩)
  · have hc : (Ms.has m.kind).contains 103 = false := by
      cases hc : (Ms.has m.kind).contains 103
      · rfl
      · rw [hc] at h0; exact absurd h0 (by decide)
    rw [Ms.sel_no hc, List.append_nil]
    exact ⟨rfl, h, hS, Below.refl _ _, Kb.refl _, VarK.refl _⟩
  · have hc : (Ms.has m.kind).contains 103 = true := by
      cases hc : (Ms.has m.kind).contains 103
      · rw [hc] at h1; exact absurd rfl h1
      · rfl
    have hr := hx hc
    rw [Ms.sel_yes hc]
    have hW := h.call (one_below' X)
    have hv := hW.isvar
    refine (layint_w 2 2 rfl m.gen P 6 29 (Ms.cells m i l d) bs b Bb Bp X.drew (by decide) (by omega) hbB hW (by omega) hS.box.drew rfl (by decide) (by decide) (by decide)).mono ?_
    rintro e w' ⟨rfl, h1, h2⟩
    have hK := ((Kb.refl (B := P) X).call (one_below' X)).wrote h2 hv
    have hB := ((one_below' X).mono hS.size).trans (h2.to hS.size)
    exact ⟨rfl, by rw [show IntKind.u64.wrap m.gen = m.gen from by rw [IntKind.wrap_u64]; omega] at h1; exact h1, hS.kb hK h2.size (hS.box.drew.wrote' h2 hv (by decide) (by decide)), hB, hK, ((VarK.refl (Bb := Bb) (P := P) X).call (one_below' X)).wrote h2⟩
theorem ws_frame (m : Ms.M) (i l d : Value) (P tb tm tq : Nat) (bs : List Int) (b Bb Bp : Nat) (X : World) (hbB : b ≤ Bb) (hx : (Ms.has m.kind).contains 102 = true → 0 ≤ m.frame ∧ m.frame ≤ 9223372036854775807) (h : Wr b Bb Bp bs X) (hl : bs.length + 8 ≤ 65536) (hS : Ws b P tb tm tq m i l d (.func (.func 54) #[] #[.pointer (some ⟨Bp, 0, none⟩)]) X) :
    Calls Try.prog 66 #[.int .i64 4, .func (.func 69) #[] #[.pointer (some ⟨tb, 0, none⟩), .pointer (some ⟨tm, 0, none⟩)], .pointer (some ⟨tq, 0, none⟩)] X fun e w' => e = .returned (.tuple #[]) ∧ Wr b Bb Bp (bs ++ Ms.sel m.kind 102 (Im.bytesOf 4 m.frame)) w' ∧ Ws b P tb tm tq m i l d (.func (.func 54) #[] #[.pointer (some ⟨Bp, 0, none⟩)]) w' ∧ Below b X w' ∧ Kb P X w' ∧ VarK Bb P X w' := by
  refine pt4 _ (Ms.own m.kind) _ P tb tm tq X _ hS.by_ hS.msg hS.own (Ms.own_4 m.kind) (fun h0 => ?_) (fun h1 => ?_) (fun e w' hφ => .inl ⟨hφ.1, hφ.2.2.1.by_, hφ.2.2.1.msg⟩)
  · have hc : (Ms.has m.kind).contains 102 = false := by
      cases hc : (Ms.has m.kind).contains 102
      · rfl
      · rw [hc] at h0; exact absurd h0 (by decide)
    rw [Ms.sel_no hc, List.append_nil]
    exact ⟨rfl, h, hS, Below.refl _ _, Kb.refl _, VarK.refl _⟩
  · have hc : (Ms.has m.kind).contains 102 = true := by
      cases hc : (Ms.has m.kind).contains 102
      · rw [hc] at h1; exact absurd rfl h1
      · rfl
    have hr := hx hc
    rw [Ms.sel_yes hc]
    have hW := h.call (one_below' X)
    have hv := hW.isvar
    refine (layint_w 4 4 rfl m.frame P 7 29 (Ms.cells m i l d) bs b Bb Bp X.drew (by decide) (by omega) hbB hW (by omega) hS.box.drew rfl (by decide) (by decide) (by decide)).mono ?_
    rintro e w' ⟨rfl, h1, h2⟩
    have hK := ((Kb.refl (B := P) X).call (one_below' X)).wrote h2 hv
    have hB := ((one_below' X).mono hS.size).trans (h2.to hS.size)
    exact ⟨rfl, by rw [show IntKind.u64.wrap m.frame = m.frame from by rw [IntKind.wrap_u64]; omega] at h1; exact h1, hS.kb hK h2.size (hS.box.drew.wrote' h2 hv (by decide) (by decide)), hB, hK, ((VarK.refl (Bb := Bb) (P := P) X).call (one_below' X)).wrote h2⟩
theorem ws_code (m : Ms.M) (i l d : Value) (P tb tm tq : Nat) (bs : List Int) (b Bb Bp : Nat) (X : World) (hbB : b ≤ Bb) (hx : (Ms.has m.kind).contains 99 = true → 0 ≤ m.code ∧ m.code ≤ 9223372036854775807) (h : Wr b Bb Bp bs X) (hl : bs.length + 8 ≤ 65536) (hS : Ws b P tb tm tq m i l d (.func (.func 54) #[] #[.pointer (some ⟨Bp, 0, none⟩)]) X) :
    Calls Try.prog 66 #[.int .i64 8, .func (.func 70) #[] #[.pointer (some ⟨tb, 0, none⟩), .pointer (some ⟨tm, 0, none⟩)], .pointer (some ⟨tq, 0, none⟩)] X fun e w' => e = .returned (.tuple #[]) ∧ Wr b Bb Bp (bs ++ Ms.sel m.kind 99 (Im.bytesOf 1 m.code)) w' ∧ Ws b P tb tm tq m i l d (.func (.func 54) #[] #[.pointer (some ⟨Bp, 0, none⟩)]) w' ∧ Below b X w' ∧ Kb P X w' ∧ VarK Bb P X w' := by
  refine pt5 _ (Ms.own m.kind) _ P tb tm tq X _ hS.by_ hS.msg hS.own (Ms.own_8 m.kind) (fun h0 => ?_) (fun h1 => ?_) (fun e w' hφ => .inl ⟨hφ.1, hφ.2.2.1.by_, hφ.2.2.1.msg⟩)
  · have hc : (Ms.has m.kind).contains 99 = false := by
      cases hc : (Ms.has m.kind).contains 99
      · rfl
      · rw [hc] at h0; exact absurd h0 (by decide)
    rw [Ms.sel_no hc, List.append_nil]
    exact ⟨rfl, h, hS, Below.refl _ _, Kb.refl _, VarK.refl _⟩
  · have hc : (Ms.has m.kind).contains 99 = true := by
      cases hc : (Ms.has m.kind).contains 99
      · rw [hc] at h1; exact absurd rfl h1
      · rfl
    have hr := hx hc
    rw [Ms.sel_yes hc]
    have hW := h.call (one_below' X)
    have hv := hW.isvar
    refine (layint_w 1 1 rfl m.code P 8 29 (Ms.cells m i l d) bs b Bb Bp X.drew (by decide) (by omega) hbB hW (by omega) hS.box.drew rfl (by decide) (by decide) (by decide)).mono ?_
    rintro e w' ⟨rfl, h1, h2⟩
    have hK := ((Kb.refl (B := P) X).call (one_below' X)).wrote h2 hv
    have hB := ((one_below' X).mono hS.size).trans (h2.to hS.size)
    exact ⟨rfl, by rw [show IntKind.u64.wrap m.code = m.code from by rw [IntKind.wrap_u64]; omega] at h1; exact h1, hS.kb hK h2.size (hS.box.drew.wrote' h2 hv (by decide) (by decide)), hB, hK, ((VarK.refl (Bb := Bb) (P := P) X).call (one_below' X)).wrote h2⟩
theorem ws_n (m : Ms.M) (i l d : Value) (P tb tm tq : Nat) (bs : List Int) (b Bb Bp : Nat) (X : World) (hbB : b ≤ Bb) (hx : (Ms.has m.kind).contains 110 = true → 0 ≤ m.n ∧ m.n ≤ 9223372036854775807) (h : Wr b Bb Bp bs X) (hl : bs.length + 8 ≤ 65536) (hS : Ws b P tb tm tq m i l d (.func (.func 54) #[] #[.pointer (some ⟨Bp, 0, none⟩)]) X) :
    Calls Try.prog 66 #[.int .i64 16, .func (.func 71) #[] #[.pointer (some ⟨tb, 0, none⟩), .pointer (some ⟨tm, 0, none⟩)], .pointer (some ⟨tq, 0, none⟩)] X fun e w' => e = .returned (.tuple #[]) ∧ Wr b Bb Bp (bs ++ Ms.sel m.kind 110 (Im.bytesOf 2 m.n)) w' ∧ Ws b P tb tm tq m i l d (.func (.func 54) #[] #[.pointer (some ⟨Bp, 0, none⟩)]) w' ∧ Below b X w' ∧ Kb P X w' ∧ VarK Bb P X w' := by
  refine pt6 _ (Ms.own m.kind) _ P tb tm tq X _ hS.by_ hS.msg hS.own (Ms.own_16 m.kind) (fun h0 => ?_) (fun h1 => ?_) (fun e w' hφ => .inl ⟨hφ.1, hφ.2.2.1.by_, hφ.2.2.1.msg⟩)
  · have hc : (Ms.has m.kind).contains 110 = false := by
      cases hc : (Ms.has m.kind).contains 110
      · rfl
      · rw [hc] at h0; exact absurd h0 (by decide)
    rw [Ms.sel_no hc, List.append_nil]
    exact ⟨rfl, h, hS, Below.refl _ _, Kb.refl _, VarK.refl _⟩
  · have hc : (Ms.has m.kind).contains 110 = true := by
      cases hc : (Ms.has m.kind).contains 110
      · rw [hc] at h1; exact absurd rfl h1
      · rfl
    have hr := hx hc
    rw [Ms.sel_yes hc]
    have hW := h.call (one_below' X)
    have hv := hW.isvar
    refine (layint_w 2 2 rfl m.n P 9 29 (Ms.cells m i l d) bs b Bb Bp X.drew (by decide) (by omega) hbB hW (by omega) hS.box.drew rfl (by decide) (by decide) (by decide)).mono ?_
    rintro e w' ⟨rfl, h1, h2⟩
    have hK := ((Kb.refl (B := P) X).call (one_below' X)).wrote h2 hv
    have hB := ((one_below' X).mono hS.size).trans (h2.to hS.size)
    exact ⟨rfl, by rw [show IntKind.u64.wrap m.n = m.n from by rw [IntKind.wrap_u64]; omega] at h1; exact h1, hS.kb hK h2.size (hS.box.drew.wrote' h2 hv (by decide) (by decide)), hB, hK, ((VarK.refl (Bb := Bb) (P := P) X).call (one_below' X)).wrote h2⟩
theorem ws_of (m : Ms.M) (i l d : Value) (P tb tm tq : Nat) (bs : List Int) (b Bb Bp : Nat) (X : World) (hbB : b ≤ Bb) (hx : (Ms.has m.kind).contains 111 = true → 0 ≤ m.of ∧ m.of ≤ 9223372036854775807) (h : Wr b Bb Bp bs X) (hl : bs.length + 8 ≤ 65536) (hS : Ws b P tb tm tq m i l d (.func (.func 54) #[] #[.pointer (some ⟨Bp, 0, none⟩)]) X) :
    Calls Try.prog 66 #[.int .i64 32, .func (.func 72) #[] #[.pointer (some ⟨tb, 0, none⟩), .pointer (some ⟨tm, 0, none⟩)], .pointer (some ⟨tq, 0, none⟩)] X fun e w' => e = .returned (.tuple #[]) ∧ Wr b Bb Bp (bs ++ Ms.sel m.kind 111 (Im.bytesOf 2 m.of)) w' ∧ Ws b P tb tm tq m i l d (.func (.func 54) #[] #[.pointer (some ⟨Bp, 0, none⟩)]) w' ∧ Below b X w' ∧ Kb P X w' ∧ VarK Bb P X w' := by
  refine pt7 _ (Ms.own m.kind) _ P tb tm tq X _ hS.by_ hS.msg hS.own (Ms.own_32 m.kind) (fun h0 => ?_) (fun h1 => ?_) (fun e w' hφ => .inl ⟨hφ.1, hφ.2.2.1.by_, hφ.2.2.1.msg⟩)
  · have hc : (Ms.has m.kind).contains 111 = false := by
      cases hc : (Ms.has m.kind).contains 111
      · rfl
      · rw [hc] at h0; exact absurd h0 (by decide)
    rw [Ms.sel_no hc, List.append_nil]
    exact ⟨rfl, h, hS, Below.refl _ _, Kb.refl _, VarK.refl _⟩
  · have hc : (Ms.has m.kind).contains 111 = true := by
      cases hc : (Ms.has m.kind).contains 111
      · rw [hc] at h1; exact absurd rfl h1
      · rfl
    have hr := hx hc
    rw [Ms.sel_yes hc]
    have hW := h.call (one_below' X)
    have hv := hW.isvar
    refine (layint_w 2 2 rfl m.of P 10 29 (Ms.cells m i l d) bs b Bb Bp X.drew (by decide) (by omega) hbB hW (by omega) hS.box.drew rfl (by decide) (by decide) (by decide)).mono ?_
    rintro e w' ⟨rfl, h1, h2⟩
    have hK := ((Kb.refl (B := P) X).call (one_below' X)).wrote h2 hv
    have hB := ((one_below' X).mono hS.size).trans (h2.to hS.size)
    exact ⟨rfl, by rw [show IntKind.u64.wrap m.of = m.of from by rw [IntKind.wrap_u64]; omega] at h1; exact h1, hS.kb hK h2.size (hS.box.drew.wrote' h2 hv (by decide) (by decide)), hB, hK, ((VarK.refl (Bb := Bb) (P := P) X).call (one_below' X)).wrote h2⟩
theorem ws_bits (m : Ms.M) (i l d : Value) (P tb tm tq : Nat) (bs : List Int) (b Bb Bp : Nat) (X : World) (hbB : b ≤ Bb) (hx : (Ms.has m.kind).contains 98 = true → 0 ≤ m.bits ∧ m.bits ≤ 4294967295) (h : Wr b Bb Bp bs X) (hl : bs.length + 8 ≤ 65536) (hS : Ws b P tb tm tq m i l d (.func (.func 54) #[] #[.pointer (some ⟨Bp, 0, none⟩)]) X) :
    Calls Try.prog 66 #[.int .i64 64, .func (.func 73) #[] #[.pointer (some ⟨tb, 0, none⟩), .pointer (some ⟨tm, 0, none⟩)], .pointer (some ⟨tq, 0, none⟩)] X fun e w' => e = .returned (.tuple #[]) ∧ Wr b Bb Bp (bs ++ Ms.sel m.kind 98 (Im.bytesOf 4 m.bits)) w' ∧ Ws b P tb tm tq m i l d (.func (.func 54) #[] #[.pointer (some ⟨Bp, 0, none⟩)]) w' ∧ Below b X w' ∧ Kb P X w' ∧ VarK Bb P X w' := by
  refine pt8 _ (Ms.own m.kind) _ P tb tm tq X _ hS.by_ hS.msg hS.own (Ms.own_64 m.kind) (fun h0 => ?_) (fun h1 => ?_) (fun e w' hφ => .inl ⟨hφ.1, hφ.2.2.1.by_, hφ.2.2.1.msg⟩)
  · have hc : (Ms.has m.kind).contains 98 = false := by
      cases hc : (Ms.has m.kind).contains 98
      · rfl
      · rw [hc] at h0; exact absurd h0 (by decide)
    rw [Ms.sel_no hc, List.append_nil]
    exact ⟨rfl, h, hS, Below.refl _ _, Kb.refl _, VarK.refl _⟩
  · have hc : (Ms.has m.kind).contains 98 = true := by
      cases hc : (Ms.has m.kind).contains 98
      · rw [hc] at h1; exact absurd rfl h1
      · rfl
    have hr := hx hc
    rw [Ms.sel_yes hc]
    have hW := h.call (one_below' X)
    have hv := hW.isvar
    refine (layu32_w 4 4 rfl m.bits P 11 29 (Ms.cells m i l d) bs b Bb Bp X.drew (by decide) (by omega) hbB hW (by omega) hS.box.drew rfl (by decide) (by decide) (by decide)).mono ?_
    rintro e w' ⟨rfl, h1, h2⟩
    have hK := ((Kb.refl (B := P) X).call (one_below' X)).wrote h2 hv
    have hB := ((one_below' X).mono hS.size).trans (h2.to hS.size)
    exact ⟨rfl, by rw [show IntKind.u64.wrap m.bits = m.bits from by rw [IntKind.wrap_u64]; omega] at h1; exact h1, hS.kb hK h2.size (hS.box.drew.wrote' h2 hv (by decide) (by decide)), hB, hK, ((VarK.refl (Bb := Bb) (P := P) X).call (one_below' X)).wrote h2⟩
theorem ws_sum (m : Ms.M) (i l d : Value) (P tb tm tq : Nat) (bs : List Int) (b Bb Bp : Nat) (X : World) (hbB : b ≤ Bb) (hx : (Ms.has m.kind).contains 109 = true → 0 ≤ m.sum ∧ m.sum ≤ 18446744073709551615) (h : Wr b Bb Bp bs X) (hl : bs.length + 8 ≤ 65536) (hS : Ws b P tb tm tq m i l d (.func (.func 54) #[] #[.pointer (some ⟨Bp, 0, none⟩)]) X) :
    Calls Try.prog 66 #[.int .i64 128, .func (.func 74) #[] #[.pointer (some ⟨tb, 0, none⟩), .pointer (some ⟨tm, 0, none⟩)], .pointer (some ⟨tq, 0, none⟩)] X fun e w' => e = .returned (.tuple #[]) ∧ Wr b Bb Bp (bs ++ Ms.sel m.kind 109 (Im.bytesOf 8 m.sum)) w' ∧ Ws b P tb tm tq m i l d (.func (.func 54) #[] #[.pointer (some ⟨Bp, 0, none⟩)]) w' ∧ Below b X w' ∧ Kb P X w' ∧ VarK Bb P X w' := by
  refine pt9 _ (Ms.own m.kind) _ P tb tm tq X _ hS.by_ hS.msg hS.own (Ms.own_128 m.kind) (fun h0 => ?_) (fun h1 => ?_) (fun e w' hφ => .inl ⟨hφ.1, hφ.2.2.1.by_, hφ.2.2.1.msg⟩)
  · have hc : (Ms.has m.kind).contains 109 = false := by
      cases hc : (Ms.has m.kind).contains 109
      · rfl
      · rw [hc] at h0; exact absurd h0 (by decide)
    rw [Ms.sel_no hc, List.append_nil]
    exact ⟨rfl, h, hS, Below.refl _ _, Kb.refl _, VarK.refl _⟩
  · have hc : (Ms.has m.kind).contains 109 = true := by
      cases hc : (Ms.has m.kind).contains 109
      · rw [hc] at h1; exact absurd rfl h1
      · rfl
    have hr := hx hc
    rw [Ms.sel_yes hc]
    have hW := h.call (one_below' X)
    have hv := hW.isvar
    refine (layu64_w 8 8 rfl m.sum P 12 29 (Ms.cells m i l d) bs b Bb Bp X.drew (by decide) (by omega) hbB hW (by omega) hS.box.drew rfl (by decide) (by decide) (by decide)).mono ?_
    rintro e w' ⟨rfl, h1, h2⟩
    have hK := ((Kb.refl (B := P) X).call (one_below' X)).wrote h2 hv
    have hB := ((one_below' X).mono hS.size).trans (h2.to hS.size)
    exact ⟨rfl, h1, hS.kb hK h2.size (hS.box.drew.wrote' h2 hv (by decide) (by decide)), hB, hK, ((VarK.refl (Bb := Bb) (P := P) X).call (one_below' X)).wrote h2⟩
theorem in_one (l : List Gm.In) : ∀ u ∈ Gm.inCells l, u.oneCell' = true := by
  intro u hu
  obtain ⟨p, _, hp⟩ := List.mem_flatMap.1 hu
  simp [Gm.In.cells] at hp
  rcases hp with rfl | rfl | rfl <;> rfl
theorem ws_ins (m : Ms.M) (i l d : Value) (P tb tm tq : Nat) (bs : List Int) (b Bb Bp : Nat) (X : World) (hbB : b ≤ Bb) (hbP : b ≤ P) (hx : (Ms.has m.kind).contains 105 = true → m.ins.length ≤ 16) (hT : ∀ p ∈ m.ins, Gm.tyIn p) (A : Option Addr) (c : Nat) (hi : i = .slice A m.ins.length c) (hL : Lies X b 3 A m.ins.length (Gm.inCells m.ins)) (h : Wr b Bb Bp bs X) (hl : bs.length + 2000 ≤ 65536) (hS : Ws b P tb tm tq m i l d (.func (.func 54) #[] #[.pointer (some ⟨Bp, 0, none⟩)]) X) :
    Calls Try.prog 66 #[.int .i64 256, .func (.func 76) #[] #[.pointer (some ⟨tb, 0, none⟩), .pointer (some ⟨tm, 0, none⟩)], .pointer (some ⟨tq, 0, none⟩)] X fun e w' => e = .returned (.tuple #[]) ∧ Wr b Bb Bp (bs ++ Ms.sel m.kind 105 (Im.bytesOf 1 (m.ins.length : Int) ++ m.ins.flatMap En.inBytes)) w' ∧ (∃ i', Ws b P tb tm tq m i' l d (.func (.func 54) #[] #[.pointer (some ⟨Bp, 0, none⟩)]) w') ∧ Below b X w' ∧ Kb P X w' ∧ VarK Bb P X w' := by
  refine pt10 _ (Ms.own m.kind) _ P tb tm tq X _ hS.by_ hS.msg hS.own (Ms.own_256 m.kind) (fun h0 => ?_) (fun h1 => ?_) (fun e w' hφ => .inl (by obtain ⟨h1, _, ⟨_, h2⟩, _⟩ := hφ; exact ⟨h1, h2.by_, h2.msg⟩))
  · have hc : (Ms.has m.kind).contains 105 = false := by
      cases hc : (Ms.has m.kind).contains 105
      · rfl
      · rw [hc] at h0; exact absurd h0 (by decide)
    rw [Ms.sel_no hc, List.append_nil]
    exact ⟨rfl, h, ⟨_, hS⟩, Below.refl _ _, Kb.refl _, VarK.refl _⟩
  · have hc : (Ms.has m.kind).contains 105 = true := by
      cases hc : (Ms.has m.kind).contains 105
      · rw [hc] at h1; exact absurd rfl h1
      · rfl
    have hr := hx hc
    rw [Ms.sel_yes hc]
    have hW := h.call (one_below' X)
    refine (listzin_w (Gm.inCells m.ins) (m.ins.map En.inBytes) m.ins.length A c 1 1 rfl P 13 29 (Ms.cells m i l d) bs b Bb Bp X.drew (by rw [List.length_map]) (by omega) (by decide) hbB hbP hS.size hW (by have hfl : (m.ins.map En.inBytes).flatten.length = 3 * m.ins.length := Ms.ins_len m.ins; omega) hS.box.drew (by rw [hi]; rfl) (hL.below ((one_below' X).mono hS.size)) (in_one m.ins) (by decide) (by decide) (by decide) (eachin_w m.ins hT b Bb Bp X.drew hbB hS.size)).mono ?_
    rintro e w' ⟨rfl, h1, h2, h3, h3', S, h4⟩
    have hK := ((Kb.refl (B := P) X).call (one_below' X)).trans h3
    have hB := ((one_below' X).mono hS.size).trans h2
    exact ⟨rfl, h1, ⟨_, hS.kb hK h2.size h4⟩, hB, hK, ((VarK.refl (Bb := Bb) (P := P) X).call (one_below' X)).trans h3'⟩
theorem ws_log (m : Ms.M) (i l d : Value) (P tb tm tq : Nat) (bs : List Int) (b Bb Bp : Nat) (X : World) (hbB : b ≤ Bb) (hbP : b ≤ P) (hx : (Ms.has m.kind).contains 108 = true → m.log.length ≤ 16) (hT : ∀ q ∈ m.log, En.Ok q.e ∧ En.Ty q.e) (A : Option Addr) (c : Nat) (hi : l = .slice A m.log.length c) (hL : LiesS X b A m.log.length m.log) (h : Wr b Bb Bp bs X) (hl : bs.length + 2000 ≤ 65536) (hS : Ws b P tb tm tq m i l d (.func (.func 54) #[] #[.pointer (some ⟨Bp, 0, none⟩)]) X) :
    Calls Try.prog 66 #[.int .i64 512, .func (.func 79) #[] #[.pointer (some ⟨tb, 0, none⟩), .pointer (some ⟨tm, 0, none⟩)], .pointer (some ⟨tq, 0, none⟩)] X fun e w' => e = .returned (.tuple #[]) ∧ Wr b Bb Bp (bs ++ Ms.sel m.kind 108 (Im.bytesOf 1 (m.log.length : Int) ++ m.log.flatMap Ms.logBytes)) w' ∧ (∃ l', Ws b P tb tm tq m i l' d (.func (.func 54) #[] #[.pointer (some ⟨Bp, 0, none⟩)]) w') ∧ Below b X w' ∧ Kb P X w' ∧ VarK Bb P X w' := by
  refine pt11 _ (Ms.own m.kind) _ P tb tm tq X _ hS.by_ hS.msg hS.own (Ms.own_512 m.kind) (fun h0 => ?_) (fun h1 => ?_) (fun e w' hφ => .inl (by obtain ⟨h1, _, ⟨_, h2⟩, _⟩ := hφ; exact ⟨h1, h2.by_, h2.msg⟩))
  · have hc : (Ms.has m.kind).contains 108 = false := by
      cases hc : (Ms.has m.kind).contains 108
      · rfl
      · rw [hc] at h0; exact absurd h0 (by decide)
    rw [Ms.sel_no hc, List.append_nil]
    exact ⟨rfl, h, ⟨_, hS⟩, Below.refl _ _, Kb.refl _, VarK.refl _⟩
  · have hc : (Ms.has m.kind).contains 108 = true := by
      cases hc : (Ms.has m.kind).contains 108
      · rw [hc] at h1; exact absurd rfl h1
      · rfl
    have hr := hx hc
    rw [Ms.sel_yes hc]
    have hW := h.call (one_below' X)
    refine (listzen_w (En.sCells m.log) (m.log.map Ms.logBytes) m.log.length A c 1 1 rfl P 14 29 (Ms.cells m i l d) bs b Bb Bp X.drew (by rw [List.length_map]) (by omega) (by decide) hbB hbP hS.size hW (by have hfl : (m.log.map Ms.logBytes).flatten.length ≤ 112 * m.log.length := Ms.logs_le m.log (fun e he => (hT e he).1); omega) hS.box.drew (by rw [hi]; rfl) (hL.row.below ((one_below' X).mono hS.size)) (En.sCells_one m.log) (by decide) (by decide) (by decide) (eachen_w m.log hT b Bb Bp X.drew (fun q hq => (hL.each q hq).below ((one_below' X).mono hS.size)) hbB hS.size)).mono ?_
    rintro e w' ⟨rfl, h1, h2, h3, h3', S, h4⟩
    have hK := ((Kb.refl (B := P) X).call (one_below' X)).trans h3
    have hB := ((one_below' X).mono hS.size).trans h2
    exact ⟨rfl, h1, ⟨_, hS.kb hK h2.size h4⟩, hB, hK, ((VarK.refl (Bb := Bb) (P := P) X).call (one_below' X)).trans h3'⟩
theorem ws_data (m : Ms.M) (i l d : Value) (P tb tm tq : Nat) (bs : List Int) (b Bb Bp : Nat) (X : World) (hbB : b ≤ Bb) (hbP : b ≤ P) (hx : (Ms.has m.kind).contains 100 = true → m.data.length ≤ 64) (hT : Im.IsBytes m.data) (A : Option Addr) (c : Nat) (hi : d = .slice A m.data.length c) (hL : Lies X b 1 A m.data.length (Im.u8s m.data)) (h : Wr b Bb Bp bs X) (hl : bs.length + 2000 ≤ 65536) (hS : Ws b P tb tm tq m i l d (.func (.func 54) #[] #[.pointer (some ⟨Bp, 0, none⟩)]) X) :
    Calls Try.prog 66 #[.int .i64 1024, .func (.func 82) #[] #[.pointer (some ⟨tb, 0, none⟩), .pointer (some ⟨tm, 0, none⟩)], .pointer (some ⟨tq, 0, none⟩)] X fun e w' => e = .returned (.tuple #[]) ∧ Wr b Bb Bp (bs ++ Ms.sel m.kind 100 (Im.bytesOf 1 (m.data.length : Int) ++ m.data)) w' ∧ (∃ d', Ws b P tb tm tq m i l d' (.func (.func 54) #[] #[.pointer (some ⟨Bp, 0, none⟩)]) w') ∧ Below b X w' ∧ Kb P X w' ∧ VarK Bb P X w' := by
  refine pt12 _ (Ms.own m.kind) _ P tb tm tq X _ hS.by_ hS.msg hS.own (Ms.own_1024 m.kind) (fun h0 => ?_) (fun h1 => ?_) (fun e w' hφ => .inl (by obtain ⟨h1, _, ⟨_, h2⟩, _⟩ := hφ; exact ⟨h1, h2.by_, h2.msg⟩))
  · have hc : (Ms.has m.kind).contains 100 = false := by
      cases hc : (Ms.has m.kind).contains 100
      · rfl
      · rw [hc] at h0; exact absurd h0 (by decide)
    rw [Ms.sel_no hc, List.append_nil]
    exact ⟨rfl, h, ⟨_, hS⟩, Below.refl _ _, Kb.refl _, VarK.refl _⟩
  · have hc : (Ms.has m.kind).contains 100 = true := by
      cases hc : (Ms.has m.kind).contains 100
      · rw [hc] at h1; exact absurd rfl h1
      · rfl
    have hr := hx hc
    rw [Ms.sel_yes hc]
    have hW := h.call (one_below' X)
    refine (listby_w m.data m.data.length A c 1 1 rfl P 15 29 (Ms.cells m i l d) bs b Bb Bp X.drew rfl (by omega) (by decide) hbB hbP hS.size hW (by omega) hS.box.drew (by obtain ⟨A, n, c, hv⟩ := hW.isvar; exact Box.apart hS.box.drew hv (by decide)) hT (by rw [hi]; rfl) (fun Z hZ _ => ((hL.below ((one_below' X).mono hS.size)).below hZ).wider (Nat.le_trans hS.size hZ.size)) (by decide) (by decide)).mono ?_
    rintro e w' ⟨rfl, h1, h2, h3, h3', S, _, h4, _⟩
    have hK := ((Kb.refl (B := P) X).call (one_below' X)).trans h3
    have hB := ((one_below' X).mono hS.size).trans h2
    exact ⟨rfl, h1, ⟨_, hS.kb hK h2.size h4⟩, hB, hK, ((VarK.refl (Bb := Bb) (P := P) X).call (one_below' X)).trans h3'⟩
theorem layparts_w (q : Ms.S) (P : Nat) (bs : List Int) (b Bb Bp : Nat) (w : World) (hT : Ms.Ty q.m) (hok : Ms.Ok q.m) (hbB : b ≤ Bb) (hbP : b ≤ P) (hbw : b ≤ w.heap.size) (h : Wr b Bb Bp bs w) (hl : bs.length ≤ 1000) (hP : Box w P 29 q.cells) (hL : LiesM w b q) :
    Calls Try.prog 53 #[.func (.func 54) #[] #[.pointer (some ⟨Bp, 0, none⟩)], .int .i64 (Ms.own q.m.kind), .pointer (some ⟨P, 0, none⟩)] w fun e w' => e = .returned (.tuple #[]) ∧ Wr b Bb Bp (bs ++ Ms.sel q.m.kind 115 (Im.bytesOf 1 q.m.slot) ++ Ms.sel q.m.kind 103 (Im.bytesOf 2 q.m.gen) ++ Ms.sel q.m.kind 102 (Im.bytesOf 4 q.m.frame) ++ Ms.sel q.m.kind 99 (Im.bytesOf 1 q.m.code) ++ Ms.sel q.m.kind 110 (Im.bytesOf 2 q.m.n) ++ Ms.sel q.m.kind 111 (Im.bytesOf 2 q.m.of) ++ Ms.sel q.m.kind 98 (Im.bytesOf 4 q.m.bits) ++ Ms.sel q.m.kind 109 (Im.bytesOf 8 q.m.sum) ++ Ms.sel q.m.kind 105 (Im.bytesOf 1 (q.m.ins.length : Int) ++ q.m.ins.flatMap En.inBytes) ++ Ms.sel q.m.kind 108 (Im.bytesOf 1 (q.m.log.length : Int) ++ q.m.log.flatMap Ms.logBytes) ++ Ms.sel q.m.kind 100 (Im.bytesOf 1 (q.m.data.length : Int) ++ q.m.data)) w' ∧ Below b w w' ∧ Kb P w w' ∧ VarK Bb P w w' := by
  have bd := hok.bd
  have hmf : ∀ (fn : Fn) (first cap : Array Value) (w : World), (Instr.makeFunc fn first cap).run Try.prog w = .ok (.func fn first cap) w := fun _ _ _ _ => rfl
  obtain ⟨W0, hW0⟩ : ∃ W0, W0 = ((w.alloc (.cells #[.func (.func 54) #[] #[.pointer (some ⟨Bp, 0, none⟩)]] 66)).alloc (.cells #[.int .i64 (Ms.own q.m.kind)] 72)).alloc (.cells #[.pointer (some ⟨P, 0, none⟩)] 69) := ⟨_, rfl⟩
  have BB : Below w.heap.size w W0 := by rw [hW0]; exact (((Below.refl w.heap.size w).alloc (Nat.le_refl _) _).alloc (by simp) _).alloc (by simp <;> omega) _
  have S0 := qh (show Ws b P w.heap.size (w.heap.size + 1 + 1) (w.heap.size + 1) q.m q.si q.sl q.sd (.func (.func 54) #[] #[.pointer (some ⟨Bp, 0, none⟩)]) W0 from ⟨hP.below BB hP.lt, by rw [hW0]; exact ((Box.made w _ _).alloc _).alloc _, by rw [hW0]; exact Box.made_at _ _ _ (by simp), by rw [hW0]; exact (Box.made_at (n := w.heap.size + 1) (w.alloc _) _ _ (by simp)).alloc _, Nat.le_trans hbw BB.size⟩)
  have I0 := qh (h.call BB)
  have D0 := qh (BB.mono hbw)
  have K0 := qh ((Kb.refl (B := P) w).call BB)
  have V0 := qh ((VarK.refl (Bb := Bb) (P := P) w).call BB)
  have LI := qh hL.ins
  have LL := qh hL.log
  have LD := qh hL.data
  have hsi : (q.m.ins.flatMap En.inBytes).length = 3 * q.m.ins.length := Ms.ins_len _
  have hsl := Ms.logs_le q.m.log (fun e he => by obtain ⟨k, hk, rfl⟩ := List.mem_iff_getElem.1 he; exact (hok.log k hk).1)
  have c1 := fun X (hX : Wr b Bb Bp (bs) X) hS => qh (ws_slot q.m q.si q.sl q.sd P w.heap.size (w.heap.size + 1 + 1) (w.heap.size + 1) _ b Bb Bp X hbB (fun _ => by have := bd.slot; omega) hX (by (try simp only [List.length_append]);  (try simp only [Im.bytesOf_len] at *); omega) hS)
  have c2 := fun X (hX : Wr b Bb Bp (bs ++ Ms.sel q.m.kind 115 (Im.bytesOf 1 q.m.slot)) X) hS => qh (ws_gen q.m q.si q.sl q.sd P w.heap.size (w.heap.size + 1 + 1) (w.heap.size + 1) _ b Bb Bp X hbB (fun hc => by have := bd.gen (List.contains_iff_mem.1 hc); omega) hX (by (try simp only [List.length_append]); have e0 := Ms.sel_le q.m.kind 115 (Im.bytesOf 1 q.m.slot); (try simp only [Im.bytesOf_len] at *); omega) hS)
  have c3 := fun X (hX : Wr b Bb Bp (bs ++ Ms.sel q.m.kind 115 (Im.bytesOf 1 q.m.slot) ++ Ms.sel q.m.kind 103 (Im.bytesOf 2 q.m.gen)) X) hS => qh (ws_frame q.m q.si q.sl q.sd P w.heap.size (w.heap.size + 1 + 1) (w.heap.size + 1) _ b Bb Bp X hbB (fun _ => by have := bd.frame; omega) hX (by (try simp only [List.length_append]); have e0 := Ms.sel_le q.m.kind 115 (Im.bytesOf 1 q.m.slot); have e1 := Ms.sel_le q.m.kind 103 (Im.bytesOf 2 q.m.gen); (try simp only [Im.bytesOf_len] at *); omega) hS)
  have c4 := fun X (hX : Wr b Bb Bp (bs ++ Ms.sel q.m.kind 115 (Im.bytesOf 1 q.m.slot) ++ Ms.sel q.m.kind 103 (Im.bytesOf 2 q.m.gen) ++ Ms.sel q.m.kind 102 (Im.bytesOf 4 q.m.frame)) X) hS => qh (ws_code q.m q.si q.sl q.sd P w.heap.size (w.heap.size + 1 + 1) (w.heap.size + 1) _ b Bb Bp X hbB (fun _ => by have := bd.code; omega) hX (by (try simp only [List.length_append]); have e0 := Ms.sel_le q.m.kind 115 (Im.bytesOf 1 q.m.slot); have e1 := Ms.sel_le q.m.kind 103 (Im.bytesOf 2 q.m.gen); have e2 := Ms.sel_le q.m.kind 102 (Im.bytesOf 4 q.m.frame); (try simp only [Im.bytesOf_len] at *); omega) hS)
  have c5 := fun X (hX : Wr b Bb Bp (bs ++ Ms.sel q.m.kind 115 (Im.bytesOf 1 q.m.slot) ++ Ms.sel q.m.kind 103 (Im.bytesOf 2 q.m.gen) ++ Ms.sel q.m.kind 102 (Im.bytesOf 4 q.m.frame) ++ Ms.sel q.m.kind 99 (Im.bytesOf 1 q.m.code)) X) hS => qh (ws_n q.m q.si q.sl q.sd P w.heap.size (w.heap.size + 1 + 1) (w.heap.size + 1) _ b Bb Bp X hbB (fun _ => by have := bd.n; omega) hX (by (try simp only [List.length_append]); have e0 := Ms.sel_le q.m.kind 115 (Im.bytesOf 1 q.m.slot); have e1 := Ms.sel_le q.m.kind 103 (Im.bytesOf 2 q.m.gen); have e2 := Ms.sel_le q.m.kind 102 (Im.bytesOf 4 q.m.frame); have e3 := Ms.sel_le q.m.kind 99 (Im.bytesOf 1 q.m.code); (try simp only [Im.bytesOf_len] at *); omega) hS)
  have c6 := fun X (hX : Wr b Bb Bp (bs ++ Ms.sel q.m.kind 115 (Im.bytesOf 1 q.m.slot) ++ Ms.sel q.m.kind 103 (Im.bytesOf 2 q.m.gen) ++ Ms.sel q.m.kind 102 (Im.bytesOf 4 q.m.frame) ++ Ms.sel q.m.kind 99 (Im.bytesOf 1 q.m.code) ++ Ms.sel q.m.kind 110 (Im.bytesOf 2 q.m.n)) X) hS => qh (ws_of q.m q.si q.sl q.sd P w.heap.size (w.heap.size + 1 + 1) (w.heap.size + 1) _ b Bb Bp X hbB (fun hc => by have := bd.of (List.contains_iff_mem.1 hc); omega) hX (by (try simp only [List.length_append]); have e0 := Ms.sel_le q.m.kind 115 (Im.bytesOf 1 q.m.slot); have e1 := Ms.sel_le q.m.kind 103 (Im.bytesOf 2 q.m.gen); have e2 := Ms.sel_le q.m.kind 102 (Im.bytesOf 4 q.m.frame); have e3 := Ms.sel_le q.m.kind 99 (Im.bytesOf 1 q.m.code); have e4 := Ms.sel_le q.m.kind 110 (Im.bytesOf 2 q.m.n); (try simp only [Im.bytesOf_len] at *); omega) hS)
  have c7 := fun X (hX : Wr b Bb Bp (bs ++ Ms.sel q.m.kind 115 (Im.bytesOf 1 q.m.slot) ++ Ms.sel q.m.kind 103 (Im.bytesOf 2 q.m.gen) ++ Ms.sel q.m.kind 102 (Im.bytesOf 4 q.m.frame) ++ Ms.sel q.m.kind 99 (Im.bytesOf 1 q.m.code) ++ Ms.sel q.m.kind 110 (Im.bytesOf 2 q.m.n) ++ Ms.sel q.m.kind 111 (Im.bytesOf 2 q.m.of)) X) hS => qh (ws_bits q.m q.si q.sl q.sd P w.heap.size (w.heap.size + 1 + 1) (w.heap.size + 1) _ b Bb Bp X hbB (fun _ => hT.bits) hX (by (try simp only [List.length_append]); have e0 := Ms.sel_le q.m.kind 115 (Im.bytesOf 1 q.m.slot); have e1 := Ms.sel_le q.m.kind 103 (Im.bytesOf 2 q.m.gen); have e2 := Ms.sel_le q.m.kind 102 (Im.bytesOf 4 q.m.frame); have e3 := Ms.sel_le q.m.kind 99 (Im.bytesOf 1 q.m.code); have e4 := Ms.sel_le q.m.kind 110 (Im.bytesOf 2 q.m.n); have e5 := Ms.sel_le q.m.kind 111 (Im.bytesOf 2 q.m.of); (try simp only [Im.bytesOf_len] at *); omega) hS)
  have c8 := fun X (hX : Wr b Bb Bp (bs ++ Ms.sel q.m.kind 115 (Im.bytesOf 1 q.m.slot) ++ Ms.sel q.m.kind 103 (Im.bytesOf 2 q.m.gen) ++ Ms.sel q.m.kind 102 (Im.bytesOf 4 q.m.frame) ++ Ms.sel q.m.kind 99 (Im.bytesOf 1 q.m.code) ++ Ms.sel q.m.kind 110 (Im.bytesOf 2 q.m.n) ++ Ms.sel q.m.kind 111 (Im.bytesOf 2 q.m.of) ++ Ms.sel q.m.kind 98 (Im.bytesOf 4 q.m.bits)) X) hS => qh (ws_sum q.m q.si q.sl q.sd P w.heap.size (w.heap.size + 1 + 1) (w.heap.size + 1) _ b Bb Bp X hbB (fun _ => hT.sum) hX (by (try simp only [List.length_append]); have e0 := Ms.sel_le q.m.kind 115 (Im.bytesOf 1 q.m.slot); have e1 := Ms.sel_le q.m.kind 103 (Im.bytesOf 2 q.m.gen); have e2 := Ms.sel_le q.m.kind 102 (Im.bytesOf 4 q.m.frame); have e3 := Ms.sel_le q.m.kind 99 (Im.bytesOf 1 q.m.code); have e4 := Ms.sel_le q.m.kind 110 (Im.bytesOf 2 q.m.n); have e5 := Ms.sel_le q.m.kind 111 (Im.bytesOf 2 q.m.of); have e6 := Ms.sel_le q.m.kind 98 (Im.bytesOf 4 q.m.bits); (try simp only [Im.bytesOf_len] at *); omega) hS)
  have ei : (Ms.has q.m.kind).contains 105 = true → q.m.ins.length ≤ 16 := fun hc => bd.ins (List.contains_iff_mem.1 hc)
  have el : (Ms.has q.m.kind).contains 108 = true → q.m.log.length ≤ 16 := fun hc => bd.log (List.contains_iff_mem.1 hc)
  have ed : (Ms.has q.m.kind).contains 100 = true → q.m.data.length ≤ 64 := fun hc => bd.data (List.contains_iff_mem.1 hc)
  have si : (Ms.sel q.m.kind 105 (Im.bytesOf 1 (q.m.ins.length : Int) ++ q.m.ins.flatMap En.inBytes)).length ≤ 49 := by
    unfold Ms.sel
    split
    · rename_i hc; have := ei hc; rw [List.length_append, Im.bytesOf_len]; omega
    · simp
  have sl : (Ms.sel q.m.kind 108 (Im.bytesOf 1 (q.m.log.length : Int) ++ q.m.log.flatMap Ms.logBytes)).length ≤ 1793 := by
    unfold Ms.sel
    split
    · rename_i hc; have := el hc; rw [List.length_append, Im.bytesOf_len]; omega
    · simp
  have c9 := fun X (hX : Wr b Bb Bp (bs ++ Ms.sel q.m.kind 115 (Im.bytesOf 1 q.m.slot) ++ Ms.sel q.m.kind 103 (Im.bytesOf 2 q.m.gen) ++ Ms.sel q.m.kind 102 (Im.bytesOf 4 q.m.frame) ++ Ms.sel q.m.kind 99 (Im.bytesOf 1 q.m.code) ++ Ms.sel q.m.kind 110 (Im.bytesOf 2 q.m.n) ++ Ms.sel q.m.kind 111 (Im.bytesOf 2 q.m.of) ++ Ms.sel q.m.kind 98 (Im.bytesOf 4 q.m.bits) ++ Ms.sel q.m.kind 109 (Im.bytesOf 8 q.m.sum)) X) hB hS => qh (ws_ins q.m q.si q.sl q.sd P w.heap.size (w.heap.size + 1 + 1) (w.heap.size + 1) _ b Bb Bp X hbB hbP ei hT.ins q.ai q.ci rfl (LI.out.below hB) hX (by (try simp only [List.length_append]); have e0 := Ms.sel_le q.m.kind 115 (Im.bytesOf 1 q.m.slot); have e1 := Ms.sel_le q.m.kind 103 (Im.bytesOf 2 q.m.gen); have e2 := Ms.sel_le q.m.kind 102 (Im.bytesOf 4 q.m.frame); have e3 := Ms.sel_le q.m.kind 99 (Im.bytesOf 1 q.m.code); have e4 := Ms.sel_le q.m.kind 110 (Im.bytesOf 2 q.m.n); have e5 := Ms.sel_le q.m.kind 111 (Im.bytesOf 2 q.m.of); have e6 := Ms.sel_le q.m.kind 98 (Im.bytesOf 4 q.m.bits); have e7 := Ms.sel_le q.m.kind 109 (Im.bytesOf 8 q.m.sum); simp only [Im.bytesOf_len, List.length_append] at *; omega) hS)
  have c10 := fun i' X (hX : Wr b Bb Bp (bs ++ Ms.sel q.m.kind 115 (Im.bytesOf 1 q.m.slot) ++ Ms.sel q.m.kind 103 (Im.bytesOf 2 q.m.gen) ++ Ms.sel q.m.kind 102 (Im.bytesOf 4 q.m.frame) ++ Ms.sel q.m.kind 99 (Im.bytesOf 1 q.m.code) ++ Ms.sel q.m.kind 110 (Im.bytesOf 2 q.m.n) ++ Ms.sel q.m.kind 111 (Im.bytesOf 2 q.m.of) ++ Ms.sel q.m.kind 98 (Im.bytesOf 4 q.m.bits) ++ Ms.sel q.m.kind 109 (Im.bytesOf 8 q.m.sum) ++ Ms.sel q.m.kind 105 (Im.bytesOf 1 (q.m.ins.length : Int) ++ q.m.ins.flatMap En.inBytes)) X) hB hS => qh (ws_log q.m i' q.sl q.sd P w.heap.size (w.heap.size + 1 + 1) (w.heap.size + 1) _ b Bb Bp X hbB hbP el (fun e he => ⟨by obtain ⟨k, hk, rfl⟩ := List.mem_iff_getElem.1 he; exact (hok.log k hk).1, hT.log e he⟩) q.al q.cl rfl (LL.out.below hB) hX (by rw [List.length_append]; have h9 := si; (try simp only [List.length_append]); have e0 := Ms.sel_le q.m.kind 115 (Im.bytesOf 1 q.m.slot); have e1 := Ms.sel_le q.m.kind 103 (Im.bytesOf 2 q.m.gen); have e2 := Ms.sel_le q.m.kind 102 (Im.bytesOf 4 q.m.frame); have e3 := Ms.sel_le q.m.kind 99 (Im.bytesOf 1 q.m.code); have e4 := Ms.sel_le q.m.kind 110 (Im.bytesOf 2 q.m.n); have e5 := Ms.sel_le q.m.kind 111 (Im.bytesOf 2 q.m.of); have e6 := Ms.sel_le q.m.kind 98 (Im.bytesOf 4 q.m.bits); have e7 := Ms.sel_le q.m.kind 109 (Im.bytesOf 8 q.m.sum); simp only [Im.bytesOf_len, List.length_append] at *; omega) hS)
  have c11 := fun i' l' X (hX : Wr b Bb Bp (bs ++ Ms.sel q.m.kind 115 (Im.bytesOf 1 q.m.slot) ++ Ms.sel q.m.kind 103 (Im.bytesOf 2 q.m.gen) ++ Ms.sel q.m.kind 102 (Im.bytesOf 4 q.m.frame) ++ Ms.sel q.m.kind 99 (Im.bytesOf 1 q.m.code) ++ Ms.sel q.m.kind 110 (Im.bytesOf 2 q.m.n) ++ Ms.sel q.m.kind 111 (Im.bytesOf 2 q.m.of) ++ Ms.sel q.m.kind 98 (Im.bytesOf 4 q.m.bits) ++ Ms.sel q.m.kind 109 (Im.bytesOf 8 q.m.sum) ++ Ms.sel q.m.kind 105 (Im.bytesOf 1 (q.m.ins.length : Int) ++ q.m.ins.flatMap En.inBytes) ++ Ms.sel q.m.kind 108 (Im.bytesOf 1 (q.m.log.length : Int) ++ q.m.log.flatMap Ms.logBytes)) X) hB hS => qh (ws_data q.m i' l' q.sd P w.heap.size (w.heap.size + 1 + 1) (w.heap.size + 1) _ b Bb Bp X hbB hbP ed hT.data q.ad q.cd rfl (LD.out.below hB) hX (by rw [List.length_append, List.length_append]; have h9 := si; have h10 := sl; (try simp only [List.length_append]); have e0 := Ms.sel_le q.m.kind 115 (Im.bytesOf 1 q.m.slot); have e1 := Ms.sel_le q.m.kind 103 (Im.bytesOf 2 q.m.gen); have e2 := Ms.sel_le q.m.kind 102 (Im.bytesOf 4 q.m.frame); have e3 := Ms.sel_le q.m.kind 99 (Im.bytesOf 1 q.m.code); have e4 := Ms.sel_le q.m.kind 110 (Im.bytesOf 2 q.m.n); have e5 := Ms.sel_le q.m.kind 111 (Im.bytesOf 2 q.m.of); have e6 := Ms.sel_le q.m.kind 98 (Im.bytesOf 4 q.m.bits); have e7 := Ms.sel_le q.m.kind 109 (Im.bytesOf 8 q.m.sum); simp only [Im.bytesOf_len, List.length_append] at *; omega) hS)
  have HW0 := qh hW0.symm
  have ltP := hP.lt
  clear h hP hL hT hok bd hW0 BB hsi hsl ei el ed si sl
  go_enter Try.func53, Try.ntmps53
  go_upto_region 2 with fail
  rw [HW0.out]
  go_wp2_with (go_at_call 66; first | ((with_reducible refine ((c1 _ I0.out S0.out).out).mono ?_); rintro e w1 ⟨rfl, hI, hS, hB, hK, hVK⟩; have I1 := qh hI; have S1 := qh hS; have D1 := qh (D0.out.trans hB); have K1 := qh (K0.out.trans hK); have V1 := qh (V0.out.trans hVK); clear hI hS hB hK hVK) | ((with_reducible refine ((c2 _ I1.out S1.out).out).mono ?_); rintro e w2 ⟨rfl, hI, hS, hB, hK, hVK⟩; have I2 := qh hI; have S2 := qh hS; have D2 := qh (D1.out.trans hB); have K2 := qh (K1.out.trans hK); have V2 := qh (V1.out.trans hVK); clear hI hS hB hK hVK) | ((with_reducible refine ((c3 _ I2.out S2.out).out).mono ?_); rintro e w3 ⟨rfl, hI, hS, hB, hK, hVK⟩; have I3 := qh hI; have S3 := qh hS; have D3 := qh (D2.out.trans hB); have K3 := qh (K2.out.trans hK); have V3 := qh (V2.out.trans hVK); clear hI hS hB hK hVK) | ((with_reducible refine ((c4 _ I3.out S3.out).out).mono ?_); rintro e w4 ⟨rfl, hI, hS, hB, hK, hVK⟩; have I4 := qh hI; have S4 := qh hS; have D4 := qh (D3.out.trans hB); have K4 := qh (K3.out.trans hK); have V4 := qh (V3.out.trans hVK); clear hI hS hB hK hVK) | ((with_reducible refine ((c5 _ I4.out S4.out).out).mono ?_); rintro e w5 ⟨rfl, hI, hS, hB, hK, hVK⟩; have I5 := qh hI; have S5 := qh hS; have D5 := qh (D4.out.trans hB); have K5 := qh (K4.out.trans hK); have V5 := qh (V4.out.trans hVK); clear hI hS hB hK hVK) | ((with_reducible refine ((c6 _ I5.out S5.out).out).mono ?_); rintro e w6 ⟨rfl, hI, hS, hB, hK, hVK⟩; have I6 := qh hI; have S6 := qh hS; have D6 := qh (D5.out.trans hB); have K6 := qh (K5.out.trans hK); have V6 := qh (V5.out.trans hVK); clear hI hS hB hK hVK) | ((with_reducible refine ((c7 _ I6.out S6.out).out).mono ?_); rintro e w7 ⟨rfl, hI, hS, hB, hK, hVK⟩; have I7 := qh hI; have S7 := qh hS; have D7 := qh (D6.out.trans hB); have K7 := qh (K6.out.trans hK); have V7 := qh (V6.out.trans hVK); clear hI hS hB hK hVK) | ((with_reducible refine ((c8 _ I7.out S7.out).out).mono ?_); rintro e w8 ⟨rfl, hI, hS, hB, hK, hVK⟩; have I8 := qh hI; have S8 := qh hS; have D8 := qh (D7.out.trans hB); have K8 := qh (K7.out.trans hK); have V8 := qh (V7.out.trans hVK); clear hI hS hB hK hVK) | ((with_reducible refine ((c9 _ I8.out D8.out S8.out).out).mono ?_); rintro e w9 ⟨rfl, hI, ⟨i', hS⟩, hB, hK, hVK⟩; have I9 := qh hI; have S9 := qh hS; have D9 := qh (D8.out.trans hB); have K9 := qh (K8.out.trans hK); have V9 := qh (V8.out.trans hVK); clear hI hS hB hK hVK) | ((with_reducible refine ((c10 _ _ I9.out D9.out S9.out).out).mono ?_); rintro e w10 ⟨rfl, hI, ⟨l', hS⟩, hB, hK, hVK⟩; have I10 := qh hI; have S10 := qh hS; have D10 := qh (D9.out.trans hB); have K10 := qh (K9.out.trans hK); have V10 := qh (V9.out.trans hVK); clear hI hS hB hK hVK) | ((with_reducible refine ((c11 _ _ _ I10.out D10.out S10.out).out).mono ?_); rintro e w11 ⟨rfl, hI, ⟨d', hS⟩, hB, hK, hVK⟩; have I11 := qh hI; have S11 := qh hS; have D11 := qh (D10.out.trans hB); have K11 := qh (K10.out.trans hK); have V11 := qh (V10.out.trans hVK); clear hI hS hB hK hVK))
  go_end0
  exact ⟨rfl, I11.out, D11.out, K11.out, V11.out⟩
end Go.Proofs.Ytgmlbimgcifenaa
namespace Ms
def isKind (k : Int) : Bool := decide (1 ≤ k) && decide (k ≤ 14)
end Ms
namespace Go.Proofs.Ytgmlbimgcifenaa
open Go.RowKit Go.Shelf
theorem partsof_1 (w : World) : Calls Try.prog 34 #[.int .i64 1] w fun e w' => e = .returned (.tuple #[.int .i64 0, .bool true]) ∧ w = w' := by
  go_enter Try.func34, Try.ntmps34
  go_wp2
  go_ret2
  exact ⟨rfl, rfl⟩
theorem partsof_2 (w : World) : Calls Try.prog 34 #[.int .i64 2] w fun e w' => e = .returned (.tuple #[.int .i64 7, .bool true]) ∧ w = w' := by
  go_enter Try.func34, Try.ntmps34
  go_wp2
  go_ret2
  exact ⟨rfl, rfl⟩
theorem partsof_3 (w : World) : Calls Try.prog 34 #[.int .i64 3] w fun e w' => e = .returned (.tuple #[.int .i64 8, .bool true]) ∧ w = w' := by
  go_enter Try.func34, Try.ntmps34
  go_wp2
  go_ret2
  exact ⟨rfl, rfl⟩
theorem partsof_4 (w : World) : Calls Try.prog 34 #[.int .i64 4] w fun e w' => e = .returned (.tuple #[.int .i64 263, .bool true]) ∧ w = w' := by
  go_enter Try.func34, Try.ntmps34
  go_wp2
  go_ret2
  exact ⟨rfl, rfl⟩
theorem partsof_5 (w : World) : Calls Try.prog 34 #[.int .i64 5] w fun e w' => e = .returned (.tuple #[.int .i64 516, .bool true]) ∧ w = w' := by
  go_enter Try.func34, Try.ntmps34
  go_wp2
  go_ret2
  exact ⟨rfl, rfl⟩
theorem partsof_6 (w : World) : Calls Try.prog 34 #[.int .i64 6] w fun e w' => e = .returned (.tuple #[.int .i64 4, .bool true]) ∧ w = w' := by
  go_enter Try.func34, Try.ntmps34
  go_wp2
  go_ret2
  exact ⟨rfl, rfl⟩
theorem partsof_7 (w : World) : Calls Try.prog 34 #[.int .i64 7] w fun e w' => e = .returned (.tuple #[.int .i64 1204, .bool true]) ∧ w = w' := by
  go_enter Try.func34, Try.ntmps34
  go_wp2
  go_ret2
  exact ⟨rfl, rfl⟩
theorem partsof_8 (w : World) : Calls Try.prog 34 #[.int .i64 8] w fun e w' => e = .returned (.tuple #[.int .i64 80, .bool true]) ∧ w = w' := by
  go_enter Try.func34, Try.ntmps34
  go_wp2
  go_ret2
  exact ⟨rfl, rfl⟩
theorem partsof_9 (w : World) : Calls Try.prog 34 #[.int .i64 9] w fun e w' => e = .returned (.tuple #[.int .i64 0, .bool true]) ∧ w = w' := by
  go_enter Try.func34, Try.ntmps34
  go_wp2
  go_ret2
  exact ⟨rfl, rfl⟩
theorem partsof_10 (w : World) : Calls Try.prog 34 #[.int .i64 10] w fun e w' => e = .returned (.tuple #[.int .i64 8, .bool true]) ∧ w = w' := by
  go_enter Try.func34, Try.ntmps34
  go_wp2
  go_ret2
  exact ⟨rfl, rfl⟩
theorem partsof_11 (w : World) : Calls Try.prog 34 #[.int .i64 11] w fun e w' => e = .returned (.tuple #[.int .i64 16, .bool true]) ∧ w = w' := by
  go_enter Try.func34, Try.ntmps34
  go_wp2
  go_ret2
  exact ⟨rfl, rfl⟩
theorem partsof_12 (w : World) : Calls Try.prog 34 #[.int .i64 12] w fun e w' => e = .returned (.tuple #[.int .i64 16, .bool true]) ∧ w = w' := by
  go_enter Try.func34, Try.ntmps34
  go_wp2
  go_ret2
  exact ⟨rfl, rfl⟩
theorem partsof_13 (w : World) : Calls Try.prog 34 #[.int .i64 13] w fun e w' => e = .returned (.tuple #[.int .i64 132, .bool true]) ∧ w = w' := by
  go_enter Try.func34, Try.ntmps34
  go_wp2
  go_ret2
  exact ⟨rfl, rfl⟩
theorem partsof_14 (w : World) : Calls Try.prog 34 #[.int .i64 14] w fun e w' => e = .returned (.tuple #[.int .i64 0, .bool true]) ∧ w = w' := by
  go_enter Try.func34, Try.ntmps34
  go_wp2
  go_ret2
  exact ⟨rfl, rfl⟩
theorem partsof_no (k : Int) (w : World) (h : ¬ (1 ≤ k ∧ k ≤ 14)) : Calls Try.prog 34 #[.int .i64 k] w fun e w' => e = .returned (.tuple #[.int .i64 0, .bool false]) ∧ w = w' := by
  have n1 : (k == 1) = false := by simp; omega
  have n2 : (k == 2) = false := by simp; omega
  have n3 : (k == 3) = false := by simp; omega
  have n4 : (k == 4) = false := by simp; omega
  have n5 : (k == 5) = false := by simp; omega
  have n6 : (k == 6) = false := by simp; omega
  have n7 : (k == 7) = false := by simp; omega
  have n8 : (k == 8) = false := by simp; omega
  have n9 : (k == 9) = false := by simp; omega
  have n10 : (k == 10) = false := by simp; omega
  have n11 : (k == 11) = false := by simp; omega
  have n12 : (k == 12) = false := by simp; omega
  have n13 : (k == 13) = false := by simp; omega
  have n14 : (k == 14) = false := by simp; omega
  clear h
  go_enter Try.func34, Try.ntmps34
  go_wp2
  go_ret2
  exact ⟨rfl, rfl⟩
theorem partsof_any (k : Int) (w : World) : Calls Try.prog 34 #[.int .i64 k] w fun e w' => e = .returned (.tuple #[.int .i64 (Ms.own k), .bool (Ms.isKind k)]) ∧ w = w' := by
  by_cases h : 1 ≤ k ∧ k ≤ 14
  · have hc : k = 1 ∨ k = 2 ∨ k = 3 ∨ k = 4 ∨ k = 5 ∨ k = 6 ∨ k = 7 ∨ k = 8 ∨ k = 9 ∨ k = 10 ∨ k = 11 ∨ k = 12 ∨ k = 13 ∨ k = 14 := by omega
    rcases hc with rfl | rfl | rfl | rfl | rfl | rfl | rfl | rfl | rfl | rfl | rfl | rfl | rfl | rfl
    · exact partsof_1 w
    · exact partsof_2 w
    · exact partsof_3 w
    · exact partsof_4 w
    · exact partsof_5 w
    · exact partsof_6 w
    · exact partsof_7 w
    · exact partsof_8 w
    · exact partsof_9 w
    · exact partsof_10 w
    · exact partsof_11 w
    · exact partsof_12 w
    · exact partsof_13 w
    · exact partsof_14 w
  · have e1 : Ms.isKind k = false := by unfold Ms.isKind; simp; omega
    have e2 : Ms.own k = 0 := by
      have : Ms.has k = [] := by unfold Ms.has; repeat' split
                                 all_goals first | omega | rfl
      unfold Ms.own
      rw [this]
      rfl
    rw [e1, e2]
    exact partsof_no k w h
theorem laymsg_w (q : Ms.S) (P : Nat) (bs : List Int) (b Bb Bp : Nat) (w : World) (hT : Ms.Ty q.m) (hok : Ms.Ok q.m) (hbB : b ≤ Bb) (hbP : b ≤ P) (hbw : b ≤ w.heap.size) (h : Wr b Bb Bp bs w) (hl : bs.length ≤ 900) (hP : Box w P 29 q.cells) (hL : LiesM w b q) :
    Calls Try.prog 31 #[.func (.func 54) #[] #[.pointer (some ⟨Bp, 0, none⟩)], .pointer (some ⟨P, 0, none⟩)] w fun e w' => e = .returned (.tuple #[]) ∧ Wr b Bb Bp (bs ++ Ms.body q.m) w' ∧ Below b w w' ∧ Kb P w w' ∧ VarK Bb P w w' := by
  have bd := hok.bd
  have k1 : 1 ≤ q.m.kind := by
    have := hok.n1
    unfold Ms.no1 at this
    simp only [Bool.or_eq_false_iff, decide_eq_false_iff_not] at this
    omega
  have hkind : Ms.isKind q.m.kind = true := by unfold Ms.isKind; have := bd.kind; simp; omega
  have hw0 : IntKind.u64.wrap q.m.kind = q.m.kind := by have := bd.kind; rw [IntKind.wrap_u64]; omega
  have c0 := fun X (hX : Wr b Bb Bp (bs) X) hB => qh (layint_w 1 1 rfl q.m.kind P 0 29 q.cells _ b Bb Bp X (by decide) (by have := bd.kind; omega) hbB hX (by (try simp only [List.length_append, Im.bytesOf_len]); omega) hB rfl (by decide) (by decide) (by decide))
  rw [hw0] at c0
  have hw1 : IntKind.u64.wrap q.m.frm = q.m.frm := by have := bd.frm; rw [IntKind.wrap_u64]; omega
  have c1 := fun X (hX : Wr b Bb Bp (bs ++ Im.bytesOf 1 q.m.kind) X) hB => qh (layint_w 1 1 rfl q.m.frm P 1 29 q.cells _ b Bb Bp X (by decide) (by have := bd.frm; omega) hbB hX (by (try simp only [List.length_append, Im.bytesOf_len]); omega) hB rfl (by decide) (by decide) (by decide))
  rw [hw1] at c1
  have hw2 : IntKind.u64.wrap q.m.serial = q.m.serial := by have := hT.serial; rw [IntKind.wrap_u64]; omega
  have c2 := fun X (hX : Wr b Bb Bp (bs ++ Im.bytesOf 1 q.m.kind ++ Im.bytesOf 1 q.m.frm) X) hB => qh (layu16_w 2 2 rfl q.m.serial P 2 29 q.cells _ b Bb Bp X (by decide) (by have := hT.serial; omega) hbB hX (by (try simp only [List.length_append, Im.bytesOf_len]); omega) hB rfl (by decide) (by decide) (by decide))
  rw [hw2] at c2
  have hw3 : IntKind.u64.wrap q.m.ack = q.m.ack := by have := hT.ack; rw [IntKind.wrap_u64]; omega
  have c3 := fun X (hX : Wr b Bb Bp (bs ++ Im.bytesOf 1 q.m.kind ++ Im.bytesOf 1 q.m.frm ++ Im.bytesOf 2 q.m.serial) X) hB => qh (layu16_w 2 2 rfl q.m.ack P 3 29 q.cells _ b Bb Bp X (by decide) (by have := hT.ack; omega) hbB hX (by (try simp only [List.length_append, Im.bytesOf_len]); omega) hB rfl (by decide) (by decide) (by decide))
  rw [hw3] at c3
  have hw4 : IntKind.u64.wrap q.m.seen = q.m.seen := by have := hT.seen; rw [IntKind.wrap_u64]; omega
  have c4 := fun X (hX : Wr b Bb Bp (bs ++ Im.bytesOf 1 q.m.kind ++ Im.bytesOf 1 q.m.frm ++ Im.bytesOf 2 q.m.serial ++ Im.bytesOf 2 q.m.ack) X) hB => qh (layu32_w 4 4 rfl q.m.seen P 4 29 q.cells _ b Bb Bp X (by decide) (by have := hT.seen; omega) hbB hX (by (try simp only [List.length_append, Im.bytesOf_len]); omega) hB rfl (by decide) (by decide) (by decide))
  rw [hw4] at c4
  have c5 := fun X hS (hX : Wr b Bb Bp (bs ++ Im.bytesOf 1 q.m.kind ++ Im.bytesOf 1 q.m.frm ++ Im.bytesOf 2 q.m.serial ++ Im.bytesOf 2 q.m.ack ++ Im.bytesOf 4 q.m.seen) X) hB hLX => qh (layparts_w q P _ b Bb Bp X hT hok hbB hbP hS hX (by simp only [List.length_append, Im.bytesOf_len]; omega) hB hLX)
  have cp := fun X => qh (partsof_any q.m.kind X)
  rw [hkind] at cp
  have HB := qh (show bs ++ Ms.body q.m = _ from congrArg (bs ++ ·) (Ms.body_sel q.m))
  have HH := qh (show Ms.head q.m = Im.bytesOf 1 q.m.kind ++ Im.bytesOf 1 q.m.frm ++ Im.bytesOf 2 q.m.serial ++ Im.bytesOf 2 q.m.ack ++ Im.bytesOf 4 q.m.seen from rfl)
  have I0 := qh h
  have P0 := qh hP
  have IV0 := qh h.isvar
  have L0 := qh hL
  have K0 := qh (Kb.refl (B := P) w)
  have V0 := qh (VarK.refl (Bb := Bb) (P := P) w)
  have D0 := qh (Below.refl b w)
  have ltP := hP.lt
  have p0k : ∀ X, Box X P 29 q.cells → X.cell? ⟨P, 0, none⟩ = some (.int .i64 q.m.kind) := fun X hB => hB.cell 0
  clear h hP hL hok hT bd k1 hkind hw0 hw1 hw2 hw3 hw4
  go_enter Try.func31, Try.ntmps31
  go_upto_region 5 with (first | (go_at_call 51; first | ((with_reducible refine ((c0 _ I0.out P0.out).out).mono ?_); rintro e w1 ⟨rfl, hI, hK⟩; have P1 := qh (P0.out.wrote' hK IV0.out (by decide) (by decide)); have IV1 := qh hI.isvar; have I1 := qh hI; have D1 := qh (D0.out.trans (hK.to (Nat.le_trans hbw D0.out.size))); have K1 := qh (K0.out.wrote hK IV0.out); have V1 := qh (V0.out.wrote hK); clear hI hK) | ((with_reducible refine ((c1 _ I1.out P1.out).out).mono ?_); rintro e w2 ⟨rfl, hI, hK⟩; have P2 := qh (P1.out.wrote' hK IV1.out (by decide) (by decide)); have IV2 := qh hI.isvar; have I2 := qh hI; have D2 := qh (D1.out.trans (hK.to (Nat.le_trans hbw D1.out.size))); have K2 := qh (K1.out.wrote hK IV1.out); have V2 := qh (V1.out.wrote hK); clear hI hK)) | (go_at_call 52; first | ((with_reducible refine ((c2 _ I2.out P2.out).out).mono ?_); rintro e w3 ⟨rfl, hI, hK⟩; have P3 := qh (P2.out.wrote' hK IV2.out (by decide) (by decide)); have IV3 := qh hI.isvar; have I3 := qh hI; have D3 := qh (D2.out.trans (hK.to (Nat.le_trans hbw D2.out.size))); have K3 := qh (K2.out.wrote hK IV2.out); have V3 := qh (V2.out.wrote hK); clear hI hK) | ((with_reducible refine ((c3 _ I3.out P3.out).out).mono ?_); rintro e w4 ⟨rfl, hI, hK⟩; have P4 := qh (P3.out.wrote' hK IV3.out (by decide) (by decide)); have IV4 := qh hI.isvar; have I4 := qh hI; have D4 := qh (D3.out.trans (hK.to (Nat.le_trans hbw D3.out.size))); have K4 := qh (K3.out.wrote hK IV3.out); have V4 := qh (V3.out.wrote hK); clear hI hK)) | (go_at_call 33; ((with_reducible refine ((c4 _ I4.out P4.out).out).mono ?_); rintro e w5 ⟨rfl, hI, hK⟩; have P5 := qh (P4.out.wrote' hK IV4.out (by decide) (by decide)); have IV5 := qh hI.isvar; have I5 := qh hI; have D5 := qh (D4.out.trans (hK.to (Nat.le_trans hbw D4.out.size))); have K5 := qh (K4.out.wrote hK IV4.out); have V5 := qh (V4.out.wrote hK); clear hI hK)))
  have k5 := p0k w5 P5.out
  go_wp2_with (first | (go_at_call 34; ((with_reducible refine ((cp _).out).mono ?_); rintro e wp ⟨rfl, rfl⟩)) | (go_at_call 30; ((with_reducible refine (need_yes _ _).mono ?_); rintro r wn ⟨rfl, rfl⟩)) | (go_at_call 53; ((with_reducible refine ((c5 _ (Nat.le_trans hbw D5.out.size) I5.out P5.out ⟨L0.out.ins.below D5.out, L0.out.log.below D5.out, L0.out.data.below D5.out, L0.out.fi, L0.out.fl, L0.out.fd⟩).out).mono ?_); rintro e w6 ⟨rfl, hI, hB, hK, hVK⟩; have V6 := qh (V5.out.trans hVK); have I6 := qh hI; have D6 := qh (D5.out.trans hB); have K6 := qh (K5.out.trans hK); clear hI hB hK hVK)))
  go_end0
  refine ⟨rfl, ?_, D6.out, K6.out, V6.out⟩
  have h6 := I6.out
  rw [HB.out, HH.out]
  simp only [List.append_assoc] at h6 ⊢
  exact h6
end Go.Proofs.Ytgmlbimgcifenaa