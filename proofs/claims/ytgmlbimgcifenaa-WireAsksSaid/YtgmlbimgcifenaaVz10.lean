/-
Several texts in one: Yl Zh Zi Zp Ym Yn.
-/
import Derived.Test.YtgmlbimgcifenaaVz9
set_option maxRecDepth 100000
set_option maxHeartbeats 8000000
set_option linter.unusedVariables false
set_option linter.unusedSimpArgs false
namespace Ms
def logBytes (e : En.S) : List Int := Im.bytesOf 2 ((En.put e.e).length : Int) ++ En.put e.e
theorem logBytes_le {e : En.S} (h : En.Ok e.e) : (logBytes e).length ≤ 112 := by
  unfold logBytes
  rw [List.length_append, Im.bytesOf_len]
  have := En.put_le h.count
  omega
theorem logs_le : ∀ (l : List En.S), (∀ e ∈ l, En.Ok e.e) → (l.flatMap logBytes).length ≤ 112 * l.length
  | [], _ => Nat.le_refl _
  | a :: l, h => by
    rw [List.flatMap_cons, List.length_append, List.length_cons]
    have h1 := logBytes_le (h a (by simp))
    have h2 := logs_le l (fun e he => h e (by simp [he]))
    omega
end Ms
namespace Go.Proofs.Ytgmlbimgcifenaa
open Go.RowKit
theorem len_str {l : List Int} {w : World} {y : TypeId} (hl : l.length ≤ 1000000) : (Builtin.len_ #[9] y #[.string (strOfNums l)]).run Try.prog w = .ok (.int .i64 (l.length : Int)) w := by
  have h := strOfNums_size l
  generalize strOfNums l = s at *
  rw [← h]
  go_simp
  (try first | done | rfl)
theorem part_log (q : Ms.S) (w : World) (hT : Ms.Ty q.m) (hL : LiesM w w.heap.size q) (h16 : q.m.log.length ≤ 16) (hE : ∀ e ∈ q.m.log, En.Ok e.e) :
    Calls Try.prog 39 #[.agg q.cells, .int .u8 108] w fun e w' => e = .returned (.string (strOfNums (Im.bytesOf 1 (q.m.log.length : Int) ++ q.m.log.flatMap Ms.logBytes))) ∧ Below w.heap.size w w' := by
  have TI := qh hT.log
  have LI := qh hL.log
  have HE := qh hE
  have KB := qh (one_below w (.cells q.cells 29))
  have BX := qh (Box.made w 29 q.cells)
  clear hT hL hE
  generalize hA : q.cells = CS
  go_enter Try.func39, Try.ntmps39
  go_upto_region 26 with fail
  subst hA
  obtain ⟨B, hB⟩ : ∃ B, B = w.heap.size := ⟨_, rfl⟩
  rw [← hB] at BX
  refine Slim.forget 119 rfl rfl fun a0 S D hf => ?_
  have H2 : Slim.Has a0 2 true (.pointer (some ⟨B, 0, none⟩)) := by rw [hB]; exact hf 2 _ rfl
  clear hf hB
  generalize w.alloc (.cells q.cells 29) = W0 at *
  refine wp_region_lit ?_
  refine Slim.val_g (t := 83) (c := true) (v := .pointer (some ⟨B, 14, none⟩)) rfl (by rw [S]; decide) (Slim.wants_all rfl) (Slim.field_g rfl H2 id (by go_simp; first | done | rfl)) fun a1 o => ?_
  replace S := o.size.trans S; replace D := o.defers.trans D
  replace H2 := Slim.stays o H2 (by decide)
  have H83 : Slim.Has a1 83 true (.pointer (some ⟨B, 14, none⟩)) := o.here
  clear o
  refine Slim.val_g (t := 84) (c := true) (v := .slice q.al q.m.log.length q.cl) rfl (by rw [S]; decide) (Slim.wants_all rfl) (Slim.load_g rfl H83 id (by have k := BX.out.cell 14; go_simp; first | done | rfl)) fun a2 o => ?_
  replace S := o.size.trans S; replace D := o.defers.trans D
  replace H2 := Slim.stays o H2 (by decide)
  have H84 : Slim.Has a2 84 true (.slice q.al q.m.log.length q.cl) := o.here
  clear H83
  clear o
  refine Slim.val_g (t := 85) (c := true) (v := .int .i64 (q.m.log.length : Int)) rfl (by rw [S]; decide) (Slim.wants_all rfl) (Slim.len_g rfl H84 id (by go_simp; first | done | rfl)) fun a3 o => ?_
  replace S := o.size.trans S; replace D := o.defers.trans D
  replace H2 := Slim.stays o H2 (by decide)
  have H85 : Slim.Has a3 85 true (.int .i64 (q.m.log.length : Int)) := o.here
  clear H84
  clear o
  refine Slim.val_g (t := 86) (c := true) (v := .int .u64 (q.m.log.length : Int)) rfl (by rw [S]; decide) (Slim.wants_all rfl) (Slim.convert_g rfl H85 id (conv_u64 (by omega) (by omega))) fun a4 o => ?_
  replace S := o.size.trans S; replace D := o.defers.trans D
  replace H2 := Slim.stays o H2 (by decide)
  have H86 : Slim.Has a4 86 true (.int .u64 (q.m.log.length : Int)) := o.here
  clear H85
  clear o
  refine Slim.call_g (t := 87) (c := true) (v := .string (strOfNums (Im.bytesOf 1 (q.m.log.length : Int)))) rfl (by rw [S]; decide) (Slim.wants_all rfl) (Slim.calls2_g rfl H86 id (by go_simp; first | done | rfl)) (fun _ => refput_num 1 1 (q.m.log.length : Int) rfl _ (by decide) (by omega)) fun a5 W1 o hb => ?_
  replace BX := qh (BX.out.below hb BX.out.lt); replace KB := qh (KB.out.trans (hb.mono KB.out.size)); clear hb
  replace S := o.size.trans S; replace D := o.defers.trans D
  replace H2 := Slim.stays o H2 (by decide)
  have H87 : Slim.Has a5 87 true (.string (strOfNums (Im.bytesOf 1 (q.m.log.length : Int)))) := o.here
  clear H86
  clear o
  refine Slim.val_g (t := 7) (c := true) (v := .string (strOfNums (Im.bytesOf 1 (q.m.log.length : Int)))) rfl (by rw [S]; decide) (Slim.wants_all rfl) (Slim.assign_g rfl H87 id) fun a6 o => ?_
  replace S := o.size.trans S; replace D := o.defers.trans D
  replace H2 := Slim.stays o H2 (by decide)
  have H7 : Slim.Has a6 7 true (.string (strOfNums (Im.bytesOf 1 (q.m.log.length : Int)))) := o.here
  clear H87
  clear o
  refine wpList_nil ?_
  refine (by assumption : ∀ a w, Code.wp Try.prog _ _ a w → _) _ _ ?_
  apply wp_seq_k; intro K1 hK1
  apply wp_seq_k; intro K2 hK2
  refine wp_region_lit ?_
  refine Slim.val_g (t := 8) (c := true) (v := .int .i64 0) rfl (by rw [S]; decide) (Slim.wants_all rfl) (Slim.constc_g rfl) fun a7 o => ?_
  replace S := o.size.trans S; replace D := o.defers.trans D
  replace H2 := Slim.stays o H2 (by decide)
  replace H7 := Slim.stays o H7 (by decide)
  have H8 : Slim.Has a7 8 true (.int .i64 0) := o.here
  clear o
  refine wpList_nil ?_
  refine hK2 _ _ ?_
  refine wp_block ?_
  refine wp_loop (fun b V => ∃ k : Nat, b.tmps.size = 119 ∧ b.defers = [] ∧ Slim.Has b 2 true (.pointer (some ⟨B, 0, none⟩)) ∧ Slim.Has b 7 true (.string (strOfNums (Im.bytesOf 1 (q.m.log.length : Int) ++ (q.m.log.take k).flatMap Ms.logBytes))) ∧ Slim.Has b 8 true (.int .i64 (k : Int)) ∧ k ≤ q.m.log.length ∧ Box V B 29 q.cells ∧ Below w.heap.size w V) (fun b _ => q.m.log.length - (intOf (b.tmps.getD 8 undef)).toNat) ⟨0, S, D, H2, by simpa using H7, H8, Nat.zero_le _, BX.out, KB.out⟩ ?_
  intro a0 V hI
  clear S D H2 H7 H8 KB BX
  obtain ⟨k, S, D, H2, H7, H8, hk, hbx, hkb⟩ := hI
  have KB := qh hkb
  have BX := qh hbx
  have MU := qh (show q.m.log.length - (intOf (a0.tmps.getD 8 undef)).toNat = q.m.log.length - k from by rw [show a0.tmps.getD 8 undef = .int .i64 (k : Int) from Slim.pres H8 rfl]; simp [intOf])
  clear hkb hbx
  apply wp_seq_k; intro K3 hK3
  apply wp_seq_k; intro K4 hK4
  refine wp_region_lit ?_
  refine Slim.val_g (t := 88) (c := true) (v := .int .i64 (k : Int)) rfl (by rw [S]; decide) (Slim.wants_all rfl) (Slim.move_g rfl H8 id) fun a1 o => ?_
  replace S := o.size.trans S; replace D := o.defers.trans D
  replace H2 := Slim.stays o H2 (by decide)
  replace H7 := Slim.stays o H7 (by decide)
  replace H8 := Slim.stays o H8 (by decide)
  have H88 : Slim.Has a1 88 true (.int .i64 (k : Int)) := o.here
  clear o
  refine Slim.val_g (t := 89) (c := true) (v := .pointer (some ⟨B, 14, none⟩)) rfl (by rw [S]; decide) (Slim.wants_all rfl) (Slim.field_g rfl H2 id (by go_simp; first | done | rfl)) fun a2 o => ?_
  replace S := o.size.trans S; replace D := o.defers.trans D
  replace H2 := Slim.stays o H2 (by decide)
  replace H7 := Slim.stays o H7 (by decide)
  replace H8 := Slim.stays o H8 (by decide)
  replace H88 := Slim.stays o H88 (by decide)
  have H89 : Slim.Has a2 89 true (.pointer (some ⟨B, 14, none⟩)) := o.here
  clear o
  refine Slim.val_g (t := 90) (c := true) (v := .slice q.al q.m.log.length q.cl) rfl (by rw [S]; decide) (Slim.wants_all rfl) (Slim.load_g rfl H89 id (by have k := BX.out.cell 14; go_simp; first | done | rfl)) fun a3 o => ?_
  replace S := o.size.trans S; replace D := o.defers.trans D
  replace H2 := Slim.stays o H2 (by decide)
  replace H7 := Slim.stays o H7 (by decide)
  replace H8 := Slim.stays o H8 (by decide)
  replace H88 := Slim.stays o H88 (by decide)
  have H90 : Slim.Has a3 90 true (.slice q.al q.m.log.length q.cl) := o.here
  clear H89
  clear o
  refine Slim.val_g (t := 91) (c := true) (v := .int .i64 (q.m.log.length : Int)) rfl (by rw [S]; decide) (Slim.wants_all rfl) (Slim.len_g rfl H90 id (by go_simp; first | done | rfl)) fun a4 o => ?_
  replace S := o.size.trans S; replace D := o.defers.trans D
  replace H2 := Slim.stays o H2 (by decide)
  replace H7 := Slim.stays o H7 (by decide)
  replace H8 := Slim.stays o H8 (by decide)
  replace H88 := Slim.stays o H88 (by decide)
  have H91 : Slim.Has a4 91 true (.int .i64 (q.m.log.length : Int)) := o.here
  clear H90
  clear o
  refine Slim.val_g (t := 92) (c := true) (v := .bool (decide ((k : Int) < (q.m.log.length : Int)))) rfl (by rw [S]; decide) (Slim.wants_all rfl) (Slim.bin2_g rfl H88 H91 id id (fun _ _ => Slim.cmp_lss)) fun a5 o => ?_
  replace S := o.size.trans S; replace D := o.defers.trans D
  replace H2 := Slim.stays o H2 (by decide)
  replace H7 := Slim.stays o H7 (by decide)
  replace H8 := Slim.stays o H8 (by decide)
  have H92 : Slim.Has a5 92 true (.bool (decide ((k : Int) < (q.m.log.length : Int)))) := o.here
  clear H88
  clear H91
  clear o
  refine wpList_nil ?_
  refine hK4 _ _ ?_
  refine wp_cond_split (Slim.pres H92 rfl) (fun e92 => ?_) (fun e92 => ?_)
  · have hkn : k < q.m.log.length := by have := of_decide_eq_true e92; omega
    have hkn' : (k : Int) < q.m.log.length := by omega
    clear e92 H92
    refine wp_skip ?_
    refine hK3 _ _ ?_
    apply wp_seq_k; intro K5 hK5
    refine wp_block ?_
    have LA := LI.out.below KB.out
    obtain ⟨pa, hA, hpa, hc1⟩ := LA.at k hkn
    obtain ⟨x, hx⟩ : ∃ x, x = q.m.log[k] := ⟨_, rfl⟩
    rw [← hx] at hc1
    have hmem : x ∈ q.m.log := by rw [hx]; exact List.getElem_mem hkn
    have hcell := qh hc1
    have hok := qh (HE.out x hmem)
    have hty := qh (TI.out x hmem).ins
    have hlie := qh ((LA.each x hmem).wider KB.out.size)
    have hpl := En.put_le (HE.out x hmem).count
    have hpre : (Im.bytesOf 1 (q.m.log.length : Int) ++ (q.m.log.take k).flatMap Ms.logBytes).length ≤ 2000 := by
      rw [List.length_append, Im.bytesOf_len]
      have := Ms.logs_le (q.m.log.take k) (fun e he => HE.out e (List.mem_of_mem_take he))
      rw [List.length_take] at this; omega
    have HAd := qh hA
    have HNX := qh (show Im.bytesOf 1 (q.m.log.length : Int) ++ (q.m.log.take (k + 1)).flatMap Ms.logBytes = Im.bytesOf 1 (q.m.log.length : Int) ++ (q.m.log.take k).flatMap Ms.logBytes ++ Im.bytesOf 2 ((En.put x.e).length : Int) ++ En.put x.e from by
      rw [List.take_succ_eq_append_getElem hkn, List.flatMap_append, ← hx, List.append_assoc, List.append_assoc]; simp [Ms.logBytes])
    clear hc1 hmem
    clear LA hA hx
    apply wp_seq_k; intro K6 hK6
    refine wp_region_lit ?_
    refine Slim.val_g (t := 95) (c := true) (v := .pointer (some ⟨B, 14, none⟩)) rfl (by rw [S]; decide) (Slim.wants_all rfl) (Slim.field_g rfl H2 id (by go_simp; first | done | rfl)) fun a6 o => ?_
    replace S := o.size.trans S; replace D := o.defers.trans D
    replace H2 := Slim.stays o H2 (by decide)
    replace H7 := Slim.stays o H7 (by decide)
    replace H8 := Slim.stays o H8 (by decide)
    have H95 : Slim.Has a6 95 true (.pointer (some ⟨B, 14, none⟩)) := o.here
    clear o
    refine Slim.val_g (t := 96) (c := true) (v := .slice q.al q.m.log.length q.cl) rfl (by rw [S]; decide) (Slim.wants_all rfl) (Slim.load_g rfl H95 id (by have k := BX.out.cell 14; go_simp; first | done | rfl)) fun a7 o => ?_
    replace S := o.size.trans S; replace D := o.defers.trans D
    replace H2 := Slim.stays o H2 (by decide)
    replace H7 := Slim.stays o H7 (by decide)
    replace H8 := Slim.stays o H8 (by decide)
    have H96 : Slim.Has a7 96 true (.slice q.al q.m.log.length q.cl) := o.here
    clear H95
    clear o
    refine Slim.val_g (t := 97) (c := true) (v := .int .i64 (k : Int)) rfl (by rw [S]; decide) (Slim.wants_all rfl) (Slim.move_g rfl H8 id) fun a8 o => ?_
    replace S := o.size.trans S; replace D := o.defers.trans D
    replace H2 := Slim.stays o H2 (by decide)
    replace H7 := Slim.stays o H7 (by decide)
    replace H8 := Slim.stays o H8 (by decide)
    replace H96 := Slim.stays o H96 (by decide)
    have H97 : Slim.Has a8 97 true (.int .i64 (k : Int)) := o.here
    clear o
    refine Slim.val_g (t := 98) (c := true) (v := .pointer (some (pa.add (k * 26)))) rfl (by rw [S]; decide) (Slim.wants_all rfl) (Slim.index_g rfl H96 H97 id id (by rw [HAd.out]; go_simp; first | done | rfl)) fun a9 o => ?_
    replace S := o.size.trans S; replace D := o.defers.trans D
    replace H2 := Slim.stays o H2 (by decide)
    replace H7 := Slim.stays o H7 (by decide)
    replace H8 := Slim.stays o H8 (by decide)
    have H98 : Slim.Has a9 98 true (.pointer (some (pa.add (k * 26)))) := o.here
    clear H96
    clear H97
    clear o
    refine Slim.val_g (t := 99) (c := true) (v := .agg (En.cells x.e x.sl)) rfl (by rw [S]; decide) (Slim.wants_all rfl) (Slim.load_g rfl H98 id (Slim.load_any (cs := x.cells) hcell.out Try.underlying53 rfl en26_info)) fun a10 o => ?_
    replace S := o.size.trans S; replace D := o.defers.trans D
    replace H2 := Slim.stays o H2 (by decide)
    replace H7 := Slim.stays o H7 (by decide)
    replace H8 := Slim.stays o H8 (by decide)
    have H99 : Slim.Has a10 99 true (.agg (En.cells x.e x.sl)) := o.here
    clear H98
    clear o
    refine Slim.call_g (t := 100) (c := true) (v := .string (strOfNums (En.put x.e))) rfl (by rw [S]; decide) (Slim.wants_all rfl) (Slim.calls1_g rfl H99 id (by go_simp; first | done | rfl)) (fun _ => refputen_any x.e x.adr x.e.evs.length x.cap _ hok.out hty.out rfl hlie.out) fun a11 W1 o hb => ?_
    replace BX := qh (BX.out.below hb BX.out.lt); replace KB := qh (KB.out.trans (hb.mono KB.out.size)); clear hb
    replace S := o.size.trans S; replace D := o.defers.trans D
    replace H2 := Slim.stays o H2 (by decide)
    replace H7 := Slim.stays o H7 (by decide)
    replace H8 := Slim.stays o H8 (by decide)
    have H100 : Slim.Has a11 100 true (.string (strOfNums (En.put x.e))) := o.here
    clear H99
    clear o
    refine Slim.val_g (t := 9) (c := true) (v := .string (strOfNums (En.put x.e))) rfl (by rw [S]; decide) (Slim.wants_all rfl) (Slim.assign_g rfl H100 id) fun a12 o => ?_
    replace S := o.size.trans S; replace D := o.defers.trans D
    replace H2 := Slim.stays o H2 (by decide)
    replace H7 := Slim.stays o H7 (by decide)
    replace H8 := Slim.stays o H8 (by decide)
    have H9 : Slim.Has a12 9 true (.string (strOfNums (En.put x.e))) := o.here
    clear H100
    clear o
    refine wpList_nil ?_
    refine hK6 _ _ ?_
    refine wp_region_lit ?_
    refine Slim.val_g (t := 101) (c := true) (v := .string (strOfNums (Im.bytesOf 1 (q.m.log.length : Int) ++ (q.m.log.take k).flatMap Ms.logBytes))) rfl (by rw [S]; decide) (Slim.wants_all rfl) (Slim.move_g rfl H7 id) fun a13 o => ?_
    replace S := o.size.trans S; replace D := o.defers.trans D
    replace H2 := Slim.stays o H2 (by decide)
    replace H8 := Slim.stays o H8 (by decide)
    replace H9 := Slim.stays o H9 (by decide)
    have H101 : Slim.Has a13 101 true (.string (strOfNums (Im.bytesOf 1 (q.m.log.length : Int) ++ (q.m.log.take k).flatMap Ms.logBytes))) := o.here
    clear H7
    clear o
    refine Slim.val_g (t := 102) (c := true) (v := .string (strOfNums (En.put x.e))) rfl (by rw [S]; decide) (Slim.wants_all rfl) (Slim.move_g rfl H9 id) fun a14 o => ?_
    replace S := o.size.trans S; replace D := o.defers.trans D
    replace H2 := Slim.stays o H2 (by decide)
    replace H8 := Slim.stays o H8 (by decide)
    replace H9 := Slim.stays o H9 (by decide)
    replace H101 := Slim.stays o H101 (by decide)
    have H102 : Slim.Has a14 102 true (.string (strOfNums (En.put x.e))) := o.here
    clear o
    refine Slim.val_g (t := 103) (c := true) (v := .int .i64 ((En.put x.e).length : Int)) rfl (by rw [S]; decide) (Slim.wants_all rfl) (Slim.len_g rfl H102 id (len_str (by omega))) fun a15 o => ?_
    replace S := o.size.trans S; replace D := o.defers.trans D
    replace H2 := Slim.stays o H2 (by decide)
    replace H8 := Slim.stays o H8 (by decide)
    replace H9 := Slim.stays o H9 (by decide)
    replace H101 := Slim.stays o H101 (by decide)
    have H103 : Slim.Has a15 103 true (.int .i64 ((En.put x.e).length : Int)) := o.here
    clear H102
    clear o
    refine Slim.val_g (t := 104) (c := true) (v := .int .u64 ((En.put x.e).length : Int)) rfl (by rw [S]; decide) (Slim.wants_all rfl) (Slim.convert_g rfl H103 id (conv_u64 (by omega) (by omega))) fun a16 o => ?_
    replace S := o.size.trans S; replace D := o.defers.trans D
    replace H2 := Slim.stays o H2 (by decide)
    replace H8 := Slim.stays o H8 (by decide)
    replace H9 := Slim.stays o H9 (by decide)
    replace H101 := Slim.stays o H101 (by decide)
    have H104 : Slim.Has a16 104 true (.int .u64 ((En.put x.e).length : Int)) := o.here
    clear H103
    clear o
    refine Slim.call_g (t := 105) (c := true) (v := .string (strOfNums (Im.bytesOf 2 ((En.put x.e).length : Int)))) rfl (by rw [S]; decide) (Slim.wants_all rfl) (Slim.calls2_g rfl H104 id (by go_simp; first | done | rfl)) (fun _ => refput_num 2 2 ((En.put x.e).length : Int) rfl _ (by decide) (by omega)) fun a17 W2 o hb => ?_
    replace BX := qh (BX.out.below hb BX.out.lt); replace KB := qh (KB.out.trans (hb.mono KB.out.size)); clear hb
    replace S := o.size.trans S; replace D := o.defers.trans D
    replace H2 := Slim.stays o H2 (by decide)
    replace H8 := Slim.stays o H8 (by decide)
    replace H9 := Slim.stays o H9 (by decide)
    replace H101 := Slim.stays o H101 (by decide)
    have H105 : Slim.Has a17 105 true (.string (strOfNums (Im.bytesOf 2 ((En.put x.e).length : Int)))) := o.here
    clear H104
    clear o
    refine Slim.val_g (t := 106) (c := true) (v := .string (strOfNums (Im.bytesOf 1 (q.m.log.length : Int) ++ (q.m.log.take k).flatMap Ms.logBytes ++ Im.bytesOf 2 ((En.put x.e).length : Int)))) rfl (by rw [S]; decide) (Slim.wants_all rfl) (Slim.bin2_g rfl H101 H105 id id (fun _ _ => str_add (by rw [Im.bytesOf_len]; have := hpre; omega))) fun a18 o => ?_
    replace S := o.size.trans S; replace D := o.defers.trans D
    replace H2 := Slim.stays o H2 (by decide)
    replace H8 := Slim.stays o H8 (by decide)
    replace H9 := Slim.stays o H9 (by decide)
    have H106 : Slim.Has a18 106 true (.string (strOfNums (Im.bytesOf 1 (q.m.log.length : Int) ++ (q.m.log.take k).flatMap Ms.logBytes ++ Im.bytesOf 2 ((En.put x.e).length : Int)))) := o.here
    clear H101
    clear H105
    clear o
    refine Slim.val_g (t := 107) (c := true) (v := .string (strOfNums (En.put x.e))) rfl (by rw [S]; decide) (Slim.wants_all rfl) (Slim.move_g rfl H9 id) fun a19 o => ?_
    replace S := o.size.trans S; replace D := o.defers.trans D
    replace H2 := Slim.stays o H2 (by decide)
    replace H8 := Slim.stays o H8 (by decide)
    replace H106 := Slim.stays o H106 (by decide)
    have H107 : Slim.Has a19 107 true (.string (strOfNums (En.put x.e))) := o.here
    clear H9
    clear o
    refine Slim.val_g (t := 108) (c := true) (v := .string (strOfNums (Im.bytesOf 1 (q.m.log.length : Int) ++ (q.m.log.take k).flatMap Ms.logBytes ++ Im.bytesOf 2 ((En.put x.e).length : Int) ++ En.put x.e))) rfl (by rw [S]; decide) (Slim.wants_all rfl) (Slim.bin2_g rfl H106 H107 id id (fun _ _ => str_add (by rw [List.length_append, Im.bytesOf_len]; have := hpre; omega))) fun a20 o => ?_
    replace S := o.size.trans S; replace D := o.defers.trans D
    replace H2 := Slim.stays o H2 (by decide)
    replace H8 := Slim.stays o H8 (by decide)
    have H108 : Slim.Has a20 108 true (.string (strOfNums (Im.bytesOf 1 (q.m.log.length : Int) ++ (q.m.log.take k).flatMap Ms.logBytes ++ Im.bytesOf 2 ((En.put x.e).length : Int) ++ En.put x.e))) := o.here
    clear H106
    clear H107
    clear o
    refine Slim.val_g (t := 7) (c := true) (v := .string (strOfNums (Im.bytesOf 1 (q.m.log.length : Int) ++ (q.m.log.take k).flatMap Ms.logBytes ++ Im.bytesOf 2 ((En.put x.e).length : Int) ++ En.put x.e))) rfl (by rw [S]; decide) (Slim.wants_all rfl) (Slim.assign_g rfl H108 id) fun a21 o => ?_
    replace S := o.size.trans S; replace D := o.defers.trans D
    replace H2 := Slim.stays o H2 (by decide)
    replace H8 := Slim.stays o H8 (by decide)
    have H7 : Slim.Has a21 7 true (.string (strOfNums (Im.bytesOf 1 (q.m.log.length : Int) ++ (q.m.log.take k).flatMap Ms.logBytes ++ Im.bytesOf 2 ((En.put x.e).length : Int) ++ En.put x.e))) := o.here
    clear H108
    clear o
    refine wpList_nil ?_
    simp only [Exit.inBlock, Exit.then]
    refine hK5 _ _ ?_
    refine wp_region_lit ?_
    refine Slim.val_g (t := 93) (c := true) (v := .int .i64 (k : Int)) rfl (by rw [S]; decide) (Slim.wants_all rfl) (Slim.move_g rfl H8 id) fun a22 o => ?_
    replace S := o.size.trans S; replace D := o.defers.trans D
    replace H2 := Slim.stays o H2 (by decide)
    replace H7 := Slim.stays o H7 (by decide)
    have H93 : Slim.Has a22 93 true (.int .i64 (k : Int)) := o.here
    clear H8
    clear o
    refine Slim.val_g (t := 94) (c := true) (v := .int .i64 ((k + 1 : Nat) : Int)) rfl (by rw [S]; decide) (Slim.wants_all rfl) (Slim.bin_g rfl H93 id (fun _ _ => add_one k (by omega))) fun a23 o => ?_
    replace S := o.size.trans S; replace D := o.defers.trans D
    replace H2 := Slim.stays o H2 (by decide)
    replace H7 := Slim.stays o H7 (by decide)
    have H94 : Slim.Has a23 94 true (.int .i64 ((k + 1 : Nat) : Int)) := o.here
    clear H93
    clear o
    refine Slim.val_g (t := 8) (c := true) (v := .int .i64 ((k + 1 : Nat) : Int)) rfl (by rw [S]; decide) (Slim.wants_all rfl) (Slim.assign_g rfl H94 id) fun a24 o => ?_
    replace S := o.size.trans S; replace D := o.defers.trans D
    replace H2 := Slim.stays o H2 (by decide)
    replace H7 := Slim.stays o H7 (by decide)
    have H8 : Slim.Has a24 8 true (.int .i64 ((k + 1 : Nat) : Int)) := o.here
    clear H94
    clear o
    refine wpList_nil ?_
    refine ⟨⟨k + 1, S, D, H2, by rw [HNX.out]; exact H7, H8, hkn, BX.out, KB.out⟩, ?_⟩
    have hm := MU.out
    show _ - (intOf (_ : Value)).toNat < _
    rw [hm, show (_ : Act).tmps.getD 8 undef = .int .i64 ((k + 1 : Nat) : Int) from Slim.pres H8 rfl]
    simp [intOf]; omega
  · have hkn : k = q.m.log.length := by have := of_decide_eq_false e92; omega
    rw [hkn, List.take_length] at H7
    refine wp_exit ?_
    simp only [Exit.inBlock, Exit.then, if_true]
    refine hK1 _ _ ?_
    apply wp_seq_k; intro K7 hK7
    refine wp_region_lit ?_
    refine Slim.val_g (t := 109) (c := true) (v := .string (strOfNums (Im.bytesOf 1 (q.m.log.length : Int) ++ q.m.log.flatMap Ms.logBytes))) rfl (by rw [S]; decide) (Slim.wants_all rfl) (Slim.move_g rfl H7 id) fun a6 o => ?_
    replace S := o.size.trans S; replace D := o.defers.trans D
    have H109 : Slim.Has a6 109 true (.string (strOfNums (Im.bytesOf 1 (q.m.log.length : Int) ++ q.m.log.flatMap Ms.logBytes))) := o.here
    clear H2
    clear H7
    clear o
    refine Slim.val_g (t := 4) (c := true) (v := .string (strOfNums (Im.bytesOf 1 (q.m.log.length : Int) ++ q.m.log.flatMap Ms.logBytes))) rfl (by rw [S]; decide) (Slim.wants_all rfl) (Slim.assign_g rfl H109 id) fun a7 o => ?_
    replace S := o.size.trans S; replace D := o.defers.trans D
    have H4 : Slim.Has a7 4 true (.string (strOfNums (Im.bytesOf 1 (q.m.log.length : Int) ++ q.m.log.flatMap Ms.logBytes))) := o.here
    clear H109
    clear o
    refine wpList_nil ?_
    refine hK7 _ _ ?_
    refine wp_ret ?_
    (try simp only [Exit.inBlock, Exit.then])
    exact on_ret rfl D H4 ⟨rfl, KB.out⟩
end Go.Proofs.Ytgmlbimgcifenaa
namespace Ms
open Go
def decInW (bs : List Int) : Option (Gm.In × List Int) := (Im.rdn 1 bs).bind fun x => (Im.rdn 1 x.2).bind fun y => (Im.rdn 1 y.2).bind fun b => some (⟨IntKind.i8.wrap x.1, IntKind.i8.wrap y.1, b.1⟩, b.2)
theorem inCells_at3 (l : List Gm.In) (k j : Nat) (hk : k < l.length) (hj : j < 3) : (Gm.inCells l)[k * 3 + j]? = (l[k]).cells[j]? := by
  induction l generalizing k with
  | nil => simp at hk
  | cons s l ih =>
    show (s.cells ++ Gm.inCells l)[k * 3 + j]? = _
    match k with
    | 0 => rw [List.getElem?_append_left (by show 0 * 3 + j < 3; omega)]; simp
    | k + 1 =>
      rw [List.getElem?_append_right (by show 3 ≤ (k + 1) * 3 + j; omega)]
      have := ih k (by simpa using hk)
      rw [show (k + 1) * 3 + j - s.cells.length = k * 3 + j from by show (k + 1) * 3 + j - 3 = _; omega, this]
      simp
end Ms
namespace Go.Proofs.Ytgmlbimgcifenaa
open Go.RowKit Go.Shelf
theorem patch3 (cs : Array Value) (o : Nat) (x0 x1 x2 y0 y1 y2 : Value) (s0 : cs[o]? = some x0) (s1 : cs[o + 1]? = some x1) (s2 : cs[o + 2]? = some x2) : Im.Patch cs o [y0, y1, y2] (((cs.setIfInBounds o y0).setIfInBounds (o + 1) y1).setIfInBounds (o + 2) y2) := by
  have a := Im.Patch.one y0 s0
  have b := Im.Patch.one (o := o + 1) y1 (show (cs.setIfInBounds o y0)[o + 1]? = some x1 by rw [Array.getElem?_setIfInBounds_ne (by omega), s1])
  have c := Im.Patch.one (o := o + 2) y2 (show ((cs.setIfInBounds o y0).setIfInBounds (o + 1) y1)[o + 2]? = some x2 by rw [Array.getElem?_setIfInBounds_ne (by omega), Array.getElem?_setIfInBounds_ne (by omega), s2])
  exact (a.trans b rfl).trans c rfl
theorem winput_w (p : Gm.In) (P o : Nat) (t : TypeId) (cs : Array Value) (bs : List Int) (b Bb Bp : Nat) (w : World) (hty : Gm.tyIn p) (hbB : b ≤ Bb) (h : Wr b Bb Bp bs w) (hl : bs.length + 3 ≤ 65536) (hP : Box w P t cs)
    (s0 : cs[o]? = some (.int .i8 p.x)) (s1 : cs[o + 1]? = some (.int .i8 p.y)) (s2 : cs[o + 2]? = some (.int .u8 p.b)) (h1 : t ≠ 27) (h2 : t ≠ 5) (h3 : t ≠ 68) :
    Calls Try.prog 78 #[.func (.func 54) #[] #[.pointer (some ⟨Bp, 0, none⟩)], .pointer (some ⟨P, o, none⟩)] w fun e w' => e = .returned (.tuple #[]) ∧ Wr b Bb Bp (bs ++ En.inBytes p) w' ∧ Wrote b Bb w w' := by
  obtain ⟨t1, t2, t3⟩ := hty
  have HSN := qh (show bs ++ En.inBytes p = bs ++ Im.bytesOf 1 p.x ++ Im.bytesOf 1 p.y ++ Im.bytesOf 1 p.b by simp [En.inBytes])
  have P2 := qh hP
  have IV2 := qh h.isvar
  have ltP := hP.lt
  have c0 := qh (layi8_w 1 1 rfl p.x P o t _ bs b Bb Bp w (by decide) t1 hbB h (by omega) hP s0 h1 h2 h3)
  rw [En.bytesOf_wrap1] at c0
  have c1 := fun X (hX : Wr b Bb Bp (bs ++ Im.bytesOf 1 p.x) X) hB => qh (layi8_w 1 1 rfl p.y P (o + 1) t _ _ b Bb Bp X (by decide) t2 hbB hX (by simp only [List.length_append, Im.bytesOf_len]; omega) hB s1 h1 h2 h3)
  rw [En.bytesOf_wrap1] at c1
  have c2 := fun X (hX : Wr b Bb Bp (bs ++ Im.bytesOf 1 p.x ++ Im.bytesOf 1 p.y) X) hB => qh (layu8_w 1 1 rfl p.b P (o + 2) t _ _ b Bb Bp X (by decide) t3 hbB hX (by simp only [List.length_append, Im.bytesOf_len]; omega) hB s2 h1 h2 h3)
  rw [En.bytesOf_wrap1] at c2
  clear h hP s0 s1 s2
  go_enter Try.func78, Try.ntmps78
  go_wp2_with (first | (go_at_call 86; first | ((with_reducible refine (c0.out).mono ?_); rintro e w3 ⟨rfl, hI, hK⟩; have P3 := qh (P2.out.wrote' hK IV2.out h1 h2); have IV3 := qh hI.isvar; have I3 := qh hI; have K3 := qh hK; clear hI hK c0) | ((with_reducible refine ((c1 _ I3.out P3.out).out).mono ?_); rintro e w4 ⟨rfl, hI, hK⟩; have P4 := qh (P3.out.wrote' hK IV3.out h1 h2); have IV4 := qh hI.isvar; have I4 := qh hI; have K4 := qh (K3.out.trans hK); clear hI hK)) | (go_at_call 87; ((with_reducible refine ((c2 _ I4.out P4.out).out).mono ?_); rintro e w5 ⟨rfl, hI, hK⟩; have I5 := qh hI; have K5 := qh (K4.out.trans hK); clear hI hK)))
  go_end0
  exact ⟨rfl, by rw [HSN.out]; exact I5.out, K5.out⟩
theorem winput_r (x0 x1 x2 : Int) (P o : Nat) (t : TypeId) (cs : Array Value) (bs : List Int) (b Bb Bp : Nat) (w : World) (hBy : Im.IsBytes bs) (hbB : b ≤ Bb) (hbP : b ≤ P) (hbw : b ≤ w.heap.size) (h : Rd b Bb Bp bs w) (hP : Box w P t cs)
    (s0 : cs[o]? = some (.int .i8 x0)) (s1 : cs[o + 1]? = some (.int .i8 x1)) (s2 : cs[o + 2]? = some (.int .u8 x2)) (h1 : t ≠ 27) (h2 : t ≠ 5) (h3 : t ≠ 68) :
    Calls Try.prog 78 #[.func (.func 60) #[] #[.pointer (some ⟨Bp, 0, none⟩)], .pointer (some ⟨P, o, none⟩)] w (Got b Bb Bp P t cs.size (Ms.decInW bs) (fun p => ((cs.setIfInBounds o (.int .i8 p.x)).setIfInBounds (o + 1) (.int .i8 p.y)).setIfInBounds (o + 2) (.int .u8 p.b)) w) := by
  have q0 := qh (part_i8 1 1 rfl x0 P o t cs bs b Bb Bp w (by decide) hBy hbB hbP hbw h hP s0 h1 h2 h3)
  have q1 := fun v bs'' X hy' hX1 hX2 hX3 => qh (part_i8 1 1 rfl x1 P (o + 1) t (cs.setIfInBounds o v) bs'' b Bb Bp X (by decide) hy' hbB hbP hX1 hX2 hX3 (by rw [Array.getElem?_setIfInBounds_ne (by omega), s1]) h1 h2 h3)
  have q2 := fun v v' bs'' X hy' hX1 hX2 hX3 => qh (part_u8 1 1 rfl x2 P (o + 2) t ((cs.setIfInBounds o v).setIfInBounds (o + 1) v') bs'' b Bb Bp X (by decide) hy' hbB hbP hX1 hX2 hX3 (by rw [Array.getElem?_setIfInBounds_ne (by omega), Array.getElem?_setIfInBounds_ne (by omega), s2]) h1 h2 h3)
  have HDV := qh (show Ms.decInW bs = (Im.rdn 1 bs).bind fun x => (Im.rdn 1 x.2).bind fun y => (Im.rdn 1 y.2).bind fun b => some (⟨IntKind.i8.wrap x.1, IntKind.i8.wrap y.1, b.1⟩, b.2) from rfl)
  have ltP := hP.lt
  have HW := qh hbw
  have YY := qh hBy
  clear h hP hbw hBy s0 s1 s2
  go_enter Try.func78, Try.ntmps78
  go_wp2_with (first | (go_at_call 86; first | ((with_reducible refine (q0.out).mono ?_); rintro r w3 (⟨y0, r3, hr, rfl, hI, hK, hB⟩ | ⟨hn, ⟨ss, rfl⟩, hK, cs', hB, hs⟩); (all_goals first | (have R3 := qh hr; have Y3 := qh (Im.rdn_inv YY.out hr).2.2.2; have P3 := qh hB; have I3 := qh hI; have K3 := qh hK; clear hr hI hK hB q0) | (have N3 := qh hn; have F3 := qh hK; have B3 := qh hB; have S3 := qh hs; clear hn hK hB hs q0))) | ((with_reducible refine ((q1 _ _ _ Y3.out (Nat.le_trans HW.out K3.out.below.size) I3.out P3.out).out).mono ?_); rintro r w4 (⟨y1, r4, hr, rfl, hI, hK, hB⟩ | ⟨hn, ⟨ss, rfl⟩, hK, cs', hB, hs⟩); (all_goals first | (have R4 := qh hr; have Y4 := qh (Im.rdn_inv Y3.out hr).2.2.2; have P4 := qh hB; have I4 := qh hI; have K4 := qh (K3.out.trans hK); clear hr hI hK hB q1) | (have N4 := qh hn; have F4 := qh (K3.out.trans hK); have B4 := qh hB; have S4 := qh hs; clear hn hK hB hs q1)))) | (go_at_call 87; ((with_reducible refine ((q2 _ _ _ _ Y4.out (Nat.le_trans HW.out K4.out.below.size) I4.out P4.out).out).mono ?_); rintro r w5 (⟨y2, r5, hr, rfl, hI, hK, hB⟩ | ⟨hn, ⟨ss, rfl⟩, hK, cs', hB, hs⟩); (all_goals first | (have R5 := qh hr; have P5 := qh hB; have I5 := qh hI; have K5 := qh (K4.out.trans hK); clear hr hI hK hB q2) | (have N5 := qh hn; have F5 := qh (K4.out.trans hK); have B5 := qh hB; have S5 := qh hs; clear hn hK hB hs q2)))))
  · go_end0
    exact .inl ⟨⟨IntKind.i8.wrap y0, IntKind.i8.wrap y1, y2⟩, r5, by rw [HDV.out, R3.out, Option.bind_some, R4.out, Option.bind_some, R5.out, Option.bind_some], rfl, I5.out, K5.out, P5.out⟩
  · exact ⟨rfl, .inr ⟨by rw [HDV.out, R3.out, Option.bind_some, R4.out, Option.bind_some, N5.out, Option.bind_none], ⟨_, rfl⟩, F5.out, _, B5.out, by rw [S5.out]; simp⟩⟩
  · exact ⟨rfl, .inr ⟨by rw [HDV.out, R3.out, Option.bind_some, N4.out, Option.bind_none], ⟨_, rfl⟩, F4.out, _, B4.out, by rw [S4.out]; simp⟩⟩
  · exact ⟨rfl, .inr ⟨by rw [HDV.out, N3.out, Option.bind_none], ⟨_, rfl⟩, F3.out, _, B3.out, S3.out⟩⟩
theorem decInW_bytes {bs rest : List Int} {p : Gm.In} (hB : Im.IsBytes bs) (h : Ms.decInW bs = some (p, rest)) : Im.IsBytes rest := by
  unfold Ms.decInW at h
  cases h1 : Im.rdn 1 bs with
  | none => rw [h1] at h; cases h
  | some x =>
    rw [h1, Option.bind_some] at h
    cases h2 : Im.rdn 1 x.2 with
    | none => rw [h2] at h; cases h
    | some y =>
      rw [h2, Option.bind_some] at h
      cases h3 : Im.rdn 1 y.2 with
      | none => rw [h3] at h; cases h
      | some z =>
        rw [h3, Option.bind_some] at h
        injection h with h
        injection h with _ h
        have b1 := (Im.rdn_inv hB h1).2.2.2
        have b2 := (Im.rdn_inv b1 h2).2.2.2
        have b3 := (Im.rdn_inv b2 h3).2.2.2
        rw [← h]; exact b3
theorem eachin_w (l : List Gm.In) (hty : ∀ p ∈ l, Gm.tyIn p) (b Bb Bp : Nat) (w : World) (hbB : b ≤ Bb) (hbw : b ≤ w.heap.size) : EachW 78 50 3 (Gm.inCells l) (l.map En.inBytes) b Bb Bp w := by
  intro k S X Y bs hk hB hbS hI hl hY hc
  rw [List.length_map] at hk
  have e : (l.map En.inBytes).getD k [] = En.inBytes l[k] := by simp [hk]
  rw [e] at hl ⊢
  have ht := hty l[k] (List.getElem_mem hk)
  have sc : ∀ j, j < 3 → Y[k * 3 + j]? = (l[k]).cells[j]? := fun j hj => by rw [hc j hj]; exact Ms.inCells_at3 l k j hk hj
  generalize hs : l[k] = s at *
  rw [En.inBytes_len] at hl
  refine (winput_w s S (k * 3) 50 Y bs b Bb Bp X ht hbB hI hl hY (sc 0 (by omega)) (sc 1 (by omega)) (sc 2 (by omega)) (by decide) (by decide) (by decide)).mono ?_
  rintro e w' ⟨rfl, h1, h2⟩
  have hv := hI.isvar
  exact ⟨rfl, h1, h2.to (Nat.le_trans hbw hB.size), (Kb.refl X).wrote h2 hv, (VarK.refl X).wrote h2, Y, hY.wrote' h2 hv (by decide) (by decide), rfl, fun _ _ => rfl⟩
theorem eachin_r (b Bb Bp : Nat) (w : World) (hbB : b ≤ Bb) : EachR 78 50 3 (Value.agg #[.int .i8 0, .int .i8 0, .int .u8 0]).cells.toList Ms.decInW (fun _ p C => C = p.cells) b Bb Bp w := by
  intro k S X Y bs hy hB hbS hbX hI hY hc
  have s0 : Y[k * 3]? = some (.int .i8 0) := hc 0 (by omega)
  have s1 : Y[k * 3 + 1]? = some (.int .i8 0) := hc 1 (by omega)
  have s2 : Y[k * 3 + 2]? = some (.int .u8 0) := hc 2 (by omega)
  refine (winput_r 0 0 0 S (k * 3) 50 Y bs b Bb Bp X hy hbB hbS hbX hI hY s0 s1 s2 (by decide) (by decide) (by decide)).mono ?_
  rintro e w' (⟨v, rest, hr, rfl, hI', hK, hB'⟩ | ⟨hn, hp, hK, _⟩)
  · exact .inl ⟨v, rest, v.cells, hr, rfl, decInW_bytes hy hr, hI', hK, rfl, rfl, _, hB', patch3 Y _ _ _ _ _ _ _ s0 s1 s2⟩
  · exact .inr ⟨hn, hp, hK⟩
theorem eachen_w (l : List En.S) (hok : ∀ q ∈ l, En.Ok q.e ∧ En.Ty q.e) (b Bb Bp : Nat) (w : World) (hL : ∀ q ∈ l, Lies w b 4 q.adr q.e.evs.length (En.evCells q.e.evs)) (hbB : b ≤ Bb) (hbw : b ≤ w.heap.size) : EachW 81 53 26 (En.sCells l) (l.map Ms.logBytes) b Bb Bp w := by
  intro k S X Y bs hk hB hbS hI hl hY hc
  rw [List.length_map] at hk
  have e : (l.map Ms.logBytes).getD k [] = Ms.logBytes l[k] := by simp [hk]
  rw [e] at hl ⊢
  have hm := List.getElem_mem hk
  have ht := hok l[k] hm
  have hl2 := (hL l[k] hm).below hB
  have sc : ∀ j, j < 26 → Y[k * 26 + j]? = (l[k]).cells[j]? := fun j hj => by rw [hc j hj]; exact En.sCells_at l k j hk hj
  generalize hs : l[k] = s at *
  have hsz : k * 26 + 26 ≤ Y.size := by
    have := sc 25 (by omega)
    have h2 : ∃ v, s.cells[25]? = some v := ⟨_, List.getElem?_eq_getElem (by rw [En.S.cells_len]; omega)⟩
    obtain ⟨v, h2⟩ := h2
    rw [h2] at this
    have := (Array.getElem?_eq_some_iff.1 this).1
    omega
  refine (wentry_w s.e s.e.evs.length s.adr s.cap S (k * 26) Y bs b Bb Bp X rfl ht.1 ht.2 hbB hbS (Nat.le_trans hbw hB.size) hI (by unfold Ms.logBytes at hl; rw [List.length_append, Im.bytesOf_len] at hl; omega) hY hsz (fun j v hv => ?_) hl2).mono ?_
  · have hj : j < 26 := by have := (List.getElem?_eq_some_iff.1 hv).1; rw [Array.length_toList, En.cells_size] at this; exact this
    rw [sc j hj]; exact hv
  · rintro e w' ⟨rfl, h1, h2, h3, h3', Y', h4, h5, h6⟩
    exact ⟨rfl, h1, h2, h3, h3', Y', h4, h5, h6⟩
theorem eachen_r (b Bb Bp : Nat) (w : World) (hbB : b ≤ Bb) : EachR 81 53 26 (Value.agg En.zeroC).cells.toList decEntryW GoodEn b Bb Bp w := by
  intro k S X Y bs hy hB hbS hbX hI hY hc
  have hc' : ∀ j, j < 26 → Y[k * 26 + j]? = En.zeroC.toList[j]? := hc
  have hsz : k * 26 + 26 ≤ Y.size := by
    have := hc' 25 (by omega)
    have h2 : ∃ v, En.zeroC.toList[25]? = some v := ⟨_, rfl⟩
    obtain ⟨v, h2⟩ := h2
    rw [h2] at this
    have := (Array.getElem?_eq_some_iff.1 this).1
    omega
  exact wentry_r S (k * 26) Y bs b Bb Bp X hy hbB hbS hbX hI hY hsz fun j v hv => by
    have hj : j < 26 := by have := (List.getElem?_eq_some_iff.1 hv).1; rw [Array.length_toList, En.zeroC_size] at this; exact this
    rw [hc' j hj]; exact hv
theorem goodEn_kept {X X' : World} {S : Nat} {t : TypeId} {Y : Array Value} {e : En.E} {C : List Value} (hB : Box X S t Y) (ht : t ≠ 59) (hK : Kb S X X') (h : GoodEn X e C) : GoodEn X' e C := by
  obtain ⟨S2, h1, h2⟩ := h
  exact ⟨S2, h1, hK S2 _ _ h2 (Box.apart h2 hB (fun e => ht e.symm)) (by decide) (by decide)⟩
end Go.Proofs.Ytgmlbimgcifenaa
namespace Go.Proofs.Ytgmlbimgcifenaa
open Go.RowKit Go.Shelf
theorem pt2 (v : Value) (own zc : Int) (P tb tm tq : Nat) (w : World) (Φ : Ending → World → Prop) (hb : Box w tb 66 #[v]) (hm : Box w tm 69 #[.pointer (some ⟨P, 0, none⟩)]) (ho : Box w tq 72 #[.int .i64 own])
    (hz : bits .and .i64 own 1 = zc) (h0 : zc = 0 → Φ (.returned (.tuple #[])) w) (h1 : zc ≠ 0 → Calls Try.prog 51 #[v, .int .i64 1, .pointer (some ⟨P, 5, none⟩)] w.drew Φ) (hΦ : ∀ e w', Φ e w' → (e = .returned (.tuple #[]) ∧ Box w' tb 66 #[v] ∧ Box w' tm 69 #[.pointer (some ⟨P, 0, none⟩)]) ∨ ∃ ch, e = .panicked ch) :
    Calls Try.prog 66 #[.int .i64 1, .func (.func 67) #[] #[.pointer (some ⟨tb, 0, none⟩), .pointer (some ⟨tm, 0, none⟩)], .pointer (some ⟨tq, 0, none⟩)] w Φ := by
  have o0 := ho.cell 0
  have hin : zc ≠ 0 → Calls Try.prog 67 #[.pointer (some ⟨tb, 0, none⟩), .pointer (some ⟨tm, 0, none⟩)] w Φ := fun hne => by
    have c1 := qh (h1 hne)
    have HΦ := qh hΦ
    have HB := qh hb
    have HM := qh hm
    clear h0 h1 hΦ hz hb hm ho o0
    go_enter Try.func67, Try.ntmps67
    refine Rx.wp_region_lex (X := fun ch Z => Φ (.panicked ch) Z) (by kernel_rfl) [] (by kernel_rfl) (· = w.drew) (fun W => Box W tb 66 #[v] ∧ Box W tm 69 #[.pointer (some ⟨P, 0, none⟩)]) (fun _ => True) rfl (fun W hW => ⟨hW ▸ ⟨HB.out.drew, HM.out.drew⟩, trivial⟩) ?_ ?_
    · rintro a' ha' _ ch Z hZ
      exact ⟨ha', hZ⟩
    repeat (first
      | (apply Rx.lex_free rfl rfl; focus (intro _; go_simp; first | done | rfl))
      | (apply Rx.lex_look rfl rfl rfl rfl; focus (intro W hW; obtain ⟨hW1, hW2⟩ := hW; have c0 := Box.cell hW1; have c1 := Box.cell hW2; clear hW1 hW2; go_simp; first | done | rfl)))
    refine Rx.lex_call (C' := fun Z => Φ (.returned (.tuple #[])) Z ∧ Box Z tb 66 #[v] ∧ Box Z tm 69 #[.pointer (some ⟨P, 0, none⟩)]) (v := .tuple #[]) (f := 51) (args := #[v, .int .i64 1, .pointer (some ⟨P, 5, none⟩)]) rfl ?_ ?_ ?_ ?_
    · intro Z hZ; clear hZ; go_simp; first | done | rfl | exact ⟨rfl, rfl⟩
    · intro Z hZ
      subst hZ
      refine (c1.out).mono fun e Z2 hφ => ?_
      rcases HΦ.out e Z2 hφ with ⟨rfl, h1, h2⟩ | ⟨ch, rfl⟩
      · exact .inl ⟨rfl, hφ, h1, h2⟩
      · exact .inr ⟨ch, rfl, hφ⟩
    · exact fun Z hZ => ⟨hZ.2, trivial⟩
    refine Rx.lex_end fun W3 hW3 => ?_
    obtain ⟨hφ, _, _⟩ := hW3
    have H3 := qh hφ
    clear hφ
    go_wp2
    go_end0
    exact H3.out
  have H0 := qh h0
  have HI := qh hin
  have HΦ := qh hΦ
  clear h0 h1 hΦ hin hb hm ho
  by_cases hc : zc = 0
  · subst hc
    have HZ := qh (H0.out rfl)
    clear H0 HI HΦ
    go_enter Try.func66, Try.ntmps66
    go_wp2
    go_end0
    exact HZ.out
  · have c1 := qh (HI.out hc)
    have hcb : (zc == 0) = false := by simpa using hc
    clear H0 HI
    go_enter Try.func66, Try.ntmps66
    go_wp2_with (go_at_call 67; ((with_reducible refine (c1.out).mono ?_); rintro e w1 hφ; rcases HΦ.out e w1 hφ with ⟨rfl, h1, h2⟩ | ⟨ch, rfl⟩))
    · go_end0
      exact hφ
    · first | exact ⟨rfl, hφ⟩ | exact hφ
theorem pt3 (v : Value) (own zc : Int) (P tb tm tq : Nat) (w : World) (Φ : Ending → World → Prop) (hb : Box w tb 66 #[v]) (hm : Box w tm 69 #[.pointer (some ⟨P, 0, none⟩)]) (ho : Box w tq 72 #[.int .i64 own])
    (hz : bits .and .i64 own 2 = zc) (h0 : zc = 0 → Φ (.returned (.tuple #[])) w) (h1 : zc ≠ 0 → Calls Try.prog 51 #[v, .int .i64 2, .pointer (some ⟨P, 6, none⟩)] w.drew Φ) (hΦ : ∀ e w', Φ e w' → (e = .returned (.tuple #[]) ∧ Box w' tb 66 #[v] ∧ Box w' tm 69 #[.pointer (some ⟨P, 0, none⟩)]) ∨ ∃ ch, e = .panicked ch) :
    Calls Try.prog 66 #[.int .i64 2, .func (.func 68) #[] #[.pointer (some ⟨tb, 0, none⟩), .pointer (some ⟨tm, 0, none⟩)], .pointer (some ⟨tq, 0, none⟩)] w Φ := by
  have o0 := ho.cell 0
  have hin : zc ≠ 0 → Calls Try.prog 68 #[.pointer (some ⟨tb, 0, none⟩), .pointer (some ⟨tm, 0, none⟩)] w Φ := fun hne => by
    have c1 := qh (h1 hne)
    have HΦ := qh hΦ
    have HB := qh hb
    have HM := qh hm
    clear h0 h1 hΦ hz hb hm ho o0
    go_enter Try.func68, Try.ntmps68
    refine Rx.wp_region_lex (X := fun ch Z => Φ (.panicked ch) Z) (by kernel_rfl) [] (by kernel_rfl) (· = w.drew) (fun W => Box W tb 66 #[v] ∧ Box W tm 69 #[.pointer (some ⟨P, 0, none⟩)]) (fun _ => True) rfl (fun W hW => ⟨hW ▸ ⟨HB.out.drew, HM.out.drew⟩, trivial⟩) ?_ ?_
    · rintro a' ha' _ ch Z hZ
      exact ⟨ha', hZ⟩
    repeat (first
      | (apply Rx.lex_free rfl rfl; focus (intro _; go_simp; first | done | rfl))
      | (apply Rx.lex_look rfl rfl rfl rfl; focus (intro W hW; obtain ⟨hW1, hW2⟩ := hW; have c0 := Box.cell hW1; have c1 := Box.cell hW2; clear hW1 hW2; go_simp; first | done | rfl)))
    refine Rx.lex_call (C' := fun Z => Φ (.returned (.tuple #[])) Z ∧ Box Z tb 66 #[v] ∧ Box Z tm 69 #[.pointer (some ⟨P, 0, none⟩)]) (v := .tuple #[]) (f := 51) (args := #[v, .int .i64 2, .pointer (some ⟨P, 6, none⟩)]) rfl ?_ ?_ ?_ ?_
    · intro Z hZ; clear hZ; go_simp; first | done | rfl | exact ⟨rfl, rfl⟩
    · intro Z hZ
      subst hZ
      refine (c1.out).mono fun e Z2 hφ => ?_
      rcases HΦ.out e Z2 hφ with ⟨rfl, h1, h2⟩ | ⟨ch, rfl⟩
      · exact .inl ⟨rfl, hφ, h1, h2⟩
      · exact .inr ⟨ch, rfl, hφ⟩
    · exact fun Z hZ => ⟨hZ.2, trivial⟩
    refine Rx.lex_end fun W3 hW3 => ?_
    obtain ⟨hφ, _, _⟩ := hW3
    have H3 := qh hφ
    clear hφ
    go_wp2
    go_end0
    exact H3.out
  have H0 := qh h0
  have HI := qh hin
  have HΦ := qh hΦ
  clear h0 h1 hΦ hin hb hm ho
  by_cases hc : zc = 0
  · subst hc
    have HZ := qh (H0.out rfl)
    clear H0 HI HΦ
    go_enter Try.func66, Try.ntmps66
    go_wp2
    go_end0
    exact HZ.out
  · have c1 := qh (HI.out hc)
    have hcb : (zc == 0) = false := by simpa using hc
    clear H0 HI
    go_enter Try.func66, Try.ntmps66
    go_wp2_with (go_at_call 68; ((with_reducible refine (c1.out).mono ?_); rintro e w1 hφ; rcases HΦ.out e w1 hφ with ⟨rfl, h1, h2⟩ | ⟨ch, rfl⟩))
    · go_end0
      exact hφ
    · first | exact ⟨rfl, hφ⟩ | exact hφ
theorem pt4 (v : Value) (own zc : Int) (P tb tm tq : Nat) (w : World) (Φ : Ending → World → Prop) (hb : Box w tb 66 #[v]) (hm : Box w tm 69 #[.pointer (some ⟨P, 0, none⟩)]) (ho : Box w tq 72 #[.int .i64 own])
    (hz : bits .and .i64 own 4 = zc) (h0 : zc = 0 → Φ (.returned (.tuple #[])) w) (h1 : zc ≠ 0 → Calls Try.prog 51 #[v, .int .i64 4, .pointer (some ⟨P, 7, none⟩)] w.drew Φ) (hΦ : ∀ e w', Φ e w' → (e = .returned (.tuple #[]) ∧ Box w' tb 66 #[v] ∧ Box w' tm 69 #[.pointer (some ⟨P, 0, none⟩)]) ∨ ∃ ch, e = .panicked ch) :
    Calls Try.prog 66 #[.int .i64 4, .func (.func 69) #[] #[.pointer (some ⟨tb, 0, none⟩), .pointer (some ⟨tm, 0, none⟩)], .pointer (some ⟨tq, 0, none⟩)] w Φ := by
  have o0 := ho.cell 0
  have hin : zc ≠ 0 → Calls Try.prog 69 #[.pointer (some ⟨tb, 0, none⟩), .pointer (some ⟨tm, 0, none⟩)] w Φ := fun hne => by
    have c1 := qh (h1 hne)
    have HΦ := qh hΦ
    have HB := qh hb
    have HM := qh hm
    clear h0 h1 hΦ hz hb hm ho o0
    go_enter Try.func69, Try.ntmps69
    refine Rx.wp_region_lex (X := fun ch Z => Φ (.panicked ch) Z) (by kernel_rfl) [] (by kernel_rfl) (· = w.drew) (fun W => Box W tb 66 #[v] ∧ Box W tm 69 #[.pointer (some ⟨P, 0, none⟩)]) (fun _ => True) rfl (fun W hW => ⟨hW ▸ ⟨HB.out.drew, HM.out.drew⟩, trivial⟩) ?_ ?_
    · rintro a' ha' _ ch Z hZ
      exact ⟨ha', hZ⟩
    repeat (first
      | (apply Rx.lex_free rfl rfl; focus (intro _; go_simp; first | done | rfl))
      | (apply Rx.lex_look rfl rfl rfl rfl; focus (intro W hW; obtain ⟨hW1, hW2⟩ := hW; have c0 := Box.cell hW1; have c1 := Box.cell hW2; clear hW1 hW2; go_simp; first | done | rfl)))
    refine Rx.lex_call (C' := fun Z => Φ (.returned (.tuple #[])) Z ∧ Box Z tb 66 #[v] ∧ Box Z tm 69 #[.pointer (some ⟨P, 0, none⟩)]) (v := .tuple #[]) (f := 51) (args := #[v, .int .i64 4, .pointer (some ⟨P, 7, none⟩)]) rfl ?_ ?_ ?_ ?_
    · intro Z hZ; clear hZ; go_simp; first | done | rfl | exact ⟨rfl, rfl⟩
    · intro Z hZ
      subst hZ
      refine (c1.out).mono fun e Z2 hφ => ?_
      rcases HΦ.out e Z2 hφ with ⟨rfl, h1, h2⟩ | ⟨ch, rfl⟩
      · exact .inl ⟨rfl, hφ, h1, h2⟩
      · exact .inr ⟨ch, rfl, hφ⟩
    · exact fun Z hZ => ⟨hZ.2, trivial⟩
    refine Rx.lex_end fun W3 hW3 => ?_
    obtain ⟨hφ, _, _⟩ := hW3
    have H3 := qh hφ
    clear hφ
    go_wp2
    go_end0
    exact H3.out
  have H0 := qh h0
  have HI := qh hin
  have HΦ := qh hΦ
  clear h0 h1 hΦ hin hb hm ho
  by_cases hc : zc = 0
  · subst hc
    have HZ := qh (H0.out rfl)
    clear H0 HI HΦ
    go_enter Try.func66, Try.ntmps66
    go_wp2
    go_end0
    exact HZ.out
  · have c1 := qh (HI.out hc)
    have hcb : (zc == 0) = false := by simpa using hc
    clear H0 HI
    go_enter Try.func66, Try.ntmps66
    go_wp2_with (go_at_call 69; ((with_reducible refine (c1.out).mono ?_); rintro e w1 hφ; rcases HΦ.out e w1 hφ with ⟨rfl, h1, h2⟩ | ⟨ch, rfl⟩))
    · go_end0
      exact hφ
    · first | exact ⟨rfl, hφ⟩ | exact hφ
theorem pt5 (v : Value) (own zc : Int) (P tb tm tq : Nat) (w : World) (Φ : Ending → World → Prop) (hb : Box w tb 66 #[v]) (hm : Box w tm 69 #[.pointer (some ⟨P, 0, none⟩)]) (ho : Box w tq 72 #[.int .i64 own])
    (hz : bits .and .i64 own 8 = zc) (h0 : zc = 0 → Φ (.returned (.tuple #[])) w) (h1 : zc ≠ 0 → Calls Try.prog 51 #[v, .int .i64 1, .pointer (some ⟨P, 8, none⟩)] w.drew Φ) (hΦ : ∀ e w', Φ e w' → (e = .returned (.tuple #[]) ∧ Box w' tb 66 #[v] ∧ Box w' tm 69 #[.pointer (some ⟨P, 0, none⟩)]) ∨ ∃ ch, e = .panicked ch) :
    Calls Try.prog 66 #[.int .i64 8, .func (.func 70) #[] #[.pointer (some ⟨tb, 0, none⟩), .pointer (some ⟨tm, 0, none⟩)], .pointer (some ⟨tq, 0, none⟩)] w Φ := by
  have o0 := ho.cell 0
  have hin : zc ≠ 0 → Calls Try.prog 70 #[.pointer (some ⟨tb, 0, none⟩), .pointer (some ⟨tm, 0, none⟩)] w Φ := fun hne => by
    have c1 := qh (h1 hne)
    have HΦ := qh hΦ
    have HB := qh hb
    have HM := qh hm
    clear h0 h1 hΦ hz hb hm ho o0
    go_enter Try.func70, Try.ntmps70
    refine Rx.wp_region_lex (X := fun ch Z => Φ (.panicked ch) Z) (by kernel_rfl) [] (by kernel_rfl) (· = w.drew) (fun W => Box W tb 66 #[v] ∧ Box W tm 69 #[.pointer (some ⟨P, 0, none⟩)]) (fun _ => True) rfl (fun W hW => ⟨hW ▸ ⟨HB.out.drew, HM.out.drew⟩, trivial⟩) ?_ ?_
    · rintro a' ha' _ ch Z hZ
      exact ⟨ha', hZ⟩
    repeat (first
      | (apply Rx.lex_free rfl rfl; focus (intro _; go_simp; first | done | rfl))
      | (apply Rx.lex_look rfl rfl rfl rfl; focus (intro W hW; obtain ⟨hW1, hW2⟩ := hW; have c0 := Box.cell hW1; have c1 := Box.cell hW2; clear hW1 hW2; go_simp; first | done | rfl)))
    refine Rx.lex_call (C' := fun Z => Φ (.returned (.tuple #[])) Z ∧ Box Z tb 66 #[v] ∧ Box Z tm 69 #[.pointer (some ⟨P, 0, none⟩)]) (v := .tuple #[]) (f := 51) (args := #[v, .int .i64 1, .pointer (some ⟨P, 8, none⟩)]) rfl ?_ ?_ ?_ ?_
    · intro Z hZ; clear hZ; go_simp; first | done | rfl | exact ⟨rfl, rfl⟩
    · intro Z hZ
      subst hZ
      refine (c1.out).mono fun e Z2 hφ => ?_
      rcases HΦ.out e Z2 hφ with ⟨rfl, h1, h2⟩ | ⟨ch, rfl⟩
      · exact .inl ⟨rfl, hφ, h1, h2⟩
      · exact .inr ⟨ch, rfl, hφ⟩
    · exact fun Z hZ => ⟨hZ.2, trivial⟩
    refine Rx.lex_end fun W3 hW3 => ?_
    obtain ⟨hφ, _, _⟩ := hW3
    have H3 := qh hφ
    clear hφ
    go_wp2
    go_end0
    exact H3.out
  have H0 := qh h0
  have HI := qh hin
  have HΦ := qh hΦ
  clear h0 h1 hΦ hin hb hm ho
  by_cases hc : zc = 0
  · subst hc
    have HZ := qh (H0.out rfl)
    clear H0 HI HΦ
    go_enter Try.func66, Try.ntmps66
    go_wp2
    go_end0
    exact HZ.out
  · have c1 := qh (HI.out hc)
    have hcb : (zc == 0) = false := by simpa using hc
    clear H0 HI
    go_enter Try.func66, Try.ntmps66
    go_wp2_with (go_at_call 70; ((with_reducible refine (c1.out).mono ?_); rintro e w1 hφ; rcases HΦ.out e w1 hφ with ⟨rfl, h1, h2⟩ | ⟨ch, rfl⟩))
    · go_end0
      exact hφ
    · first | exact ⟨rfl, hφ⟩ | exact hφ
theorem pt6 (v : Value) (own zc : Int) (P tb tm tq : Nat) (w : World) (Φ : Ending → World → Prop) (hb : Box w tb 66 #[v]) (hm : Box w tm 69 #[.pointer (some ⟨P, 0, none⟩)]) (ho : Box w tq 72 #[.int .i64 own])
    (hz : bits .and .i64 own 16 = zc) (h0 : zc = 0 → Φ (.returned (.tuple #[])) w) (h1 : zc ≠ 0 → Calls Try.prog 51 #[v, .int .i64 2, .pointer (some ⟨P, 9, none⟩)] w.drew Φ) (hΦ : ∀ e w', Φ e w' → (e = .returned (.tuple #[]) ∧ Box w' tb 66 #[v] ∧ Box w' tm 69 #[.pointer (some ⟨P, 0, none⟩)]) ∨ ∃ ch, e = .panicked ch) :
    Calls Try.prog 66 #[.int .i64 16, .func (.func 71) #[] #[.pointer (some ⟨tb, 0, none⟩), .pointer (some ⟨tm, 0, none⟩)], .pointer (some ⟨tq, 0, none⟩)] w Φ := by
  have o0 := ho.cell 0
  have hin : zc ≠ 0 → Calls Try.prog 71 #[.pointer (some ⟨tb, 0, none⟩), .pointer (some ⟨tm, 0, none⟩)] w Φ := fun hne => by
    have c1 := qh (h1 hne)
    have HΦ := qh hΦ
    have HB := qh hb
    have HM := qh hm
    clear h0 h1 hΦ hz hb hm ho o0
    go_enter Try.func71, Try.ntmps71
    refine Rx.wp_region_lex (X := fun ch Z => Φ (.panicked ch) Z) (by kernel_rfl) [] (by kernel_rfl) (· = w.drew) (fun W => Box W tb 66 #[v] ∧ Box W tm 69 #[.pointer (some ⟨P, 0, none⟩)]) (fun _ => True) rfl (fun W hW => ⟨hW ▸ ⟨HB.out.drew, HM.out.drew⟩, trivial⟩) ?_ ?_
    · rintro a' ha' _ ch Z hZ
      exact ⟨ha', hZ⟩
    repeat (first
      | (apply Rx.lex_free rfl rfl; focus (intro _; go_simp; first | done | rfl))
      | (apply Rx.lex_look rfl rfl rfl rfl; focus (intro W hW; obtain ⟨hW1, hW2⟩ := hW; have c0 := Box.cell hW1; have c1 := Box.cell hW2; clear hW1 hW2; go_simp; first | done | rfl)))
    refine Rx.lex_call (C' := fun Z => Φ (.returned (.tuple #[])) Z ∧ Box Z tb 66 #[v] ∧ Box Z tm 69 #[.pointer (some ⟨P, 0, none⟩)]) (v := .tuple #[]) (f := 51) (args := #[v, .int .i64 2, .pointer (some ⟨P, 9, none⟩)]) rfl ?_ ?_ ?_ ?_
    · intro Z hZ; clear hZ; go_simp; first | done | rfl | exact ⟨rfl, rfl⟩
    · intro Z hZ
      subst hZ
      refine (c1.out).mono fun e Z2 hφ => ?_
      rcases HΦ.out e Z2 hφ with ⟨rfl, h1, h2⟩ | ⟨ch, rfl⟩
      · exact .inl ⟨rfl, hφ, h1, h2⟩
      · exact .inr ⟨ch, rfl, hφ⟩
    · exact fun Z hZ => ⟨hZ.2, trivial⟩
    refine Rx.lex_end fun W3 hW3 => ?_
    obtain ⟨hφ, _, _⟩ := hW3
    have H3 := qh hφ
    clear hφ
    go_wp2
    go_end0
    exact H3.out
  have H0 := qh h0
  have HI := qh hin
  have HΦ := qh hΦ
  clear h0 h1 hΦ hin hb hm ho
  by_cases hc : zc = 0
  · subst hc
    have HZ := qh (H0.out rfl)
    clear H0 HI HΦ
    go_enter Try.func66, Try.ntmps66
    go_wp2
    go_end0
    exact HZ.out
  · have c1 := qh (HI.out hc)
    have hcb : (zc == 0) = false := by simpa using hc
    clear H0 HI
    go_enter Try.func66, Try.ntmps66
    go_wp2_with (go_at_call 71; ((with_reducible refine (c1.out).mono ?_); rintro e w1 hφ; rcases HΦ.out e w1 hφ with ⟨rfl, h1, h2⟩ | ⟨ch, rfl⟩))
    · go_end0
      exact hφ
    · first | exact ⟨rfl, hφ⟩ | exact hφ
theorem pt7 (v : Value) (own zc : Int) (P tb tm tq : Nat) (w : World) (Φ : Ending → World → Prop) (hb : Box w tb 66 #[v]) (hm : Box w tm 69 #[.pointer (some ⟨P, 0, none⟩)]) (ho : Box w tq 72 #[.int .i64 own])
    (hz : bits .and .i64 own 32 = zc) (h0 : zc = 0 → Φ (.returned (.tuple #[])) w) (h1 : zc ≠ 0 → Calls Try.prog 51 #[v, .int .i64 2, .pointer (some ⟨P, 10, none⟩)] w.drew Φ) (hΦ : ∀ e w', Φ e w' → (e = .returned (.tuple #[]) ∧ Box w' tb 66 #[v] ∧ Box w' tm 69 #[.pointer (some ⟨P, 0, none⟩)]) ∨ ∃ ch, e = .panicked ch) :
    Calls Try.prog 66 #[.int .i64 32, .func (.func 72) #[] #[.pointer (some ⟨tb, 0, none⟩), .pointer (some ⟨tm, 0, none⟩)], .pointer (some ⟨tq, 0, none⟩)] w Φ := by
  have o0 := ho.cell 0
  have hin : zc ≠ 0 → Calls Try.prog 72 #[.pointer (some ⟨tb, 0, none⟩), .pointer (some ⟨tm, 0, none⟩)] w Φ := fun hne => by
    have c1 := qh (h1 hne)
    have HΦ := qh hΦ
    have HB := qh hb
    have HM := qh hm
    clear h0 h1 hΦ hz hb hm ho o0
    go_enter Try.func72, Try.ntmps72
    refine Rx.wp_region_lex (X := fun ch Z => Φ (.panicked ch) Z) (by kernel_rfl) [] (by kernel_rfl) (· = w.drew) (fun W => Box W tb 66 #[v] ∧ Box W tm 69 #[.pointer (some ⟨P, 0, none⟩)]) (fun _ => True) rfl (fun W hW => ⟨hW ▸ ⟨HB.out.drew, HM.out.drew⟩, trivial⟩) ?_ ?_
    · rintro a' ha' _ ch Z hZ
      exact ⟨ha', hZ⟩
    repeat (first
      | (apply Rx.lex_free rfl rfl; focus (intro _; go_simp; first | done | rfl))
      | (apply Rx.lex_look rfl rfl rfl rfl; focus (intro W hW; obtain ⟨hW1, hW2⟩ := hW; have c0 := Box.cell hW1; have c1 := Box.cell hW2; clear hW1 hW2; go_simp; first | done | rfl)))
    refine Rx.lex_call (C' := fun Z => Φ (.returned (.tuple #[])) Z ∧ Box Z tb 66 #[v] ∧ Box Z tm 69 #[.pointer (some ⟨P, 0, none⟩)]) (v := .tuple #[]) (f := 51) (args := #[v, .int .i64 2, .pointer (some ⟨P, 10, none⟩)]) rfl ?_ ?_ ?_ ?_
    · intro Z hZ; clear hZ; go_simp; first | done | rfl | exact ⟨rfl, rfl⟩
    · intro Z hZ
      subst hZ
      refine (c1.out).mono fun e Z2 hφ => ?_
      rcases HΦ.out e Z2 hφ with ⟨rfl, h1, h2⟩ | ⟨ch, rfl⟩
      · exact .inl ⟨rfl, hφ, h1, h2⟩
      · exact .inr ⟨ch, rfl, hφ⟩
    · exact fun Z hZ => ⟨hZ.2, trivial⟩
    refine Rx.lex_end fun W3 hW3 => ?_
    obtain ⟨hφ, _, _⟩ := hW3
    have H3 := qh hφ
    clear hφ
    go_wp2
    go_end0
    exact H3.out
  have H0 := qh h0
  have HI := qh hin
  have HΦ := qh hΦ
  clear h0 h1 hΦ hin hb hm ho
  by_cases hc : zc = 0
  · subst hc
    have HZ := qh (H0.out rfl)
    clear H0 HI HΦ
    go_enter Try.func66, Try.ntmps66
    go_wp2
    go_end0
    exact HZ.out
  · have c1 := qh (HI.out hc)
    have hcb : (zc == 0) = false := by simpa using hc
    clear H0 HI
    go_enter Try.func66, Try.ntmps66
    go_wp2_with (go_at_call 72; ((with_reducible refine (c1.out).mono ?_); rintro e w1 hφ; rcases HΦ.out e w1 hφ with ⟨rfl, h1, h2⟩ | ⟨ch, rfl⟩))
    · go_end0
      exact hφ
    · first | exact ⟨rfl, hφ⟩ | exact hφ
theorem pt8 (v : Value) (own zc : Int) (P tb tm tq : Nat) (w : World) (Φ : Ending → World → Prop) (hb : Box w tb 66 #[v]) (hm : Box w tm 69 #[.pointer (some ⟨P, 0, none⟩)]) (ho : Box w tq 72 #[.int .i64 own])
    (hz : bits .and .i64 own 64 = zc) (h0 : zc = 0 → Φ (.returned (.tuple #[])) w) (h1 : zc ≠ 0 → Calls Try.prog 33 #[v, .int .i64 4, .pointer (some ⟨P, 11, none⟩)] w.drew Φ) (hΦ : ∀ e w', Φ e w' → (e = .returned (.tuple #[]) ∧ Box w' tb 66 #[v] ∧ Box w' tm 69 #[.pointer (some ⟨P, 0, none⟩)]) ∨ ∃ ch, e = .panicked ch) :
    Calls Try.prog 66 #[.int .i64 64, .func (.func 73) #[] #[.pointer (some ⟨tb, 0, none⟩), .pointer (some ⟨tm, 0, none⟩)], .pointer (some ⟨tq, 0, none⟩)] w Φ := by
  have o0 := ho.cell 0
  have hin : zc ≠ 0 → Calls Try.prog 73 #[.pointer (some ⟨tb, 0, none⟩), .pointer (some ⟨tm, 0, none⟩)] w Φ := fun hne => by
    have c1 := qh (h1 hne)
    have HΦ := qh hΦ
    have HB := qh hb
    have HM := qh hm
    clear h0 h1 hΦ hz hb hm ho o0
    go_enter Try.func73, Try.ntmps73
    refine Rx.wp_region_lex (X := fun ch Z => Φ (.panicked ch) Z) (by kernel_rfl) [] (by kernel_rfl) (· = w.drew) (fun W => Box W tb 66 #[v] ∧ Box W tm 69 #[.pointer (some ⟨P, 0, none⟩)]) (fun _ => True) rfl (fun W hW => ⟨hW ▸ ⟨HB.out.drew, HM.out.drew⟩, trivial⟩) ?_ ?_
    · rintro a' ha' _ ch Z hZ
      exact ⟨ha', hZ⟩
    repeat (first
      | (apply Rx.lex_free rfl rfl; focus (intro _; go_simp; first | done | rfl))
      | (apply Rx.lex_look rfl rfl rfl rfl; focus (intro W hW; obtain ⟨hW1, hW2⟩ := hW; have c0 := Box.cell hW1; have c1 := Box.cell hW2; clear hW1 hW2; go_simp; first | done | rfl)))
    refine Rx.lex_call (C' := fun Z => Φ (.returned (.tuple #[])) Z ∧ Box Z tb 66 #[v] ∧ Box Z tm 69 #[.pointer (some ⟨P, 0, none⟩)]) (v := .tuple #[]) (f := 33) (args := #[v, .int .i64 4, .pointer (some ⟨P, 11, none⟩)]) rfl ?_ ?_ ?_ ?_
    · intro Z hZ; clear hZ; go_simp; first | done | rfl | exact ⟨rfl, rfl⟩
    · intro Z hZ
      subst hZ
      refine (c1.out).mono fun e Z2 hφ => ?_
      rcases HΦ.out e Z2 hφ with ⟨rfl, h1, h2⟩ | ⟨ch, rfl⟩
      · exact .inl ⟨rfl, hφ, h1, h2⟩
      · exact .inr ⟨ch, rfl, hφ⟩
    · exact fun Z hZ => ⟨hZ.2, trivial⟩
    refine Rx.lex_end fun W3 hW3 => ?_
    obtain ⟨hφ, _, _⟩ := hW3
    have H3 := qh hφ
    clear hφ
    go_wp2
    go_end0
    exact H3.out
  have H0 := qh h0
  have HI := qh hin
  have HΦ := qh hΦ
  clear h0 h1 hΦ hin hb hm ho
  by_cases hc : zc = 0
  · subst hc
    have HZ := qh (H0.out rfl)
    clear H0 HI HΦ
    go_enter Try.func66, Try.ntmps66
    go_wp2
    go_end0
    exact HZ.out
  · have c1 := qh (HI.out hc)
    have hcb : (zc == 0) = false := by simpa using hc
    clear H0 HI
    go_enter Try.func66, Try.ntmps66
    go_wp2_with (go_at_call 73; ((with_reducible refine (c1.out).mono ?_); rintro e w1 hφ; rcases HΦ.out e w1 hφ with ⟨rfl, h1, h2⟩ | ⟨ch, rfl⟩))
    · go_end0
      exact hφ
    · first | exact ⟨rfl, hφ⟩ | exact hφ
theorem pt9 (v : Value) (own zc : Int) (P tb tm tq : Nat) (w : World) (Φ : Ending → World → Prop) (hb : Box w tb 66 #[v]) (hm : Box w tm 69 #[.pointer (some ⟨P, 0, none⟩)]) (ho : Box w tq 72 #[.int .i64 own])
    (hz : bits .and .i64 own 128 = zc) (h0 : zc = 0 → Φ (.returned (.tuple #[])) w) (h1 : zc ≠ 0 → Calls Try.prog 75 #[v, .int .i64 8, .pointer (some ⟨P, 12, none⟩)] w.drew Φ) (hΦ : ∀ e w', Φ e w' → (e = .returned (.tuple #[]) ∧ Box w' tb 66 #[v] ∧ Box w' tm 69 #[.pointer (some ⟨P, 0, none⟩)]) ∨ ∃ ch, e = .panicked ch) :
    Calls Try.prog 66 #[.int .i64 128, .func (.func 74) #[] #[.pointer (some ⟨tb, 0, none⟩), .pointer (some ⟨tm, 0, none⟩)], .pointer (some ⟨tq, 0, none⟩)] w Φ := by
  have o0 := ho.cell 0
  have hin : zc ≠ 0 → Calls Try.prog 74 #[.pointer (some ⟨tb, 0, none⟩), .pointer (some ⟨tm, 0, none⟩)] w Φ := fun hne => by
    have c1 := qh (h1 hne)
    have HΦ := qh hΦ
    have HB := qh hb
    have HM := qh hm
    clear h0 h1 hΦ hz hb hm ho o0
    go_enter Try.func74, Try.ntmps74
    refine Rx.wp_region_lex (X := fun ch Z => Φ (.panicked ch) Z) (by kernel_rfl) [] (by kernel_rfl) (· = w.drew) (fun W => Box W tb 66 #[v] ∧ Box W tm 69 #[.pointer (some ⟨P, 0, none⟩)]) (fun _ => True) rfl (fun W hW => ⟨hW ▸ ⟨HB.out.drew, HM.out.drew⟩, trivial⟩) ?_ ?_
    · rintro a' ha' _ ch Z hZ
      exact ⟨ha', hZ⟩
    repeat (first
      | (apply Rx.lex_free rfl rfl; focus (intro _; go_simp; first | done | rfl))
      | (apply Rx.lex_look rfl rfl rfl rfl; focus (intro W hW; obtain ⟨hW1, hW2⟩ := hW; have c0 := Box.cell hW1; have c1 := Box.cell hW2; clear hW1 hW2; go_simp; first | done | rfl)))
    refine Rx.lex_call (C' := fun Z => Φ (.returned (.tuple #[])) Z ∧ Box Z tb 66 #[v] ∧ Box Z tm 69 #[.pointer (some ⟨P, 0, none⟩)]) (v := .tuple #[]) (f := 75) (args := #[v, .int .i64 8, .pointer (some ⟨P, 12, none⟩)]) rfl ?_ ?_ ?_ ?_
    · intro Z hZ; clear hZ; go_simp; first | done | rfl | exact ⟨rfl, rfl⟩
    · intro Z hZ
      subst hZ
      refine (c1.out).mono fun e Z2 hφ => ?_
      rcases HΦ.out e Z2 hφ with ⟨rfl, h1, h2⟩ | ⟨ch, rfl⟩
      · exact .inl ⟨rfl, hφ, h1, h2⟩
      · exact .inr ⟨ch, rfl, hφ⟩
    · exact fun Z hZ => ⟨hZ.2, trivial⟩
    refine Rx.lex_end fun W3 hW3 => ?_
    obtain ⟨hφ, _, _⟩ := hW3
    have H3 := qh hφ
    clear hφ
    go_wp2
    go_end0
    exact H3.out
  have H0 := qh h0
  have HI := qh hin
  have HΦ := qh hΦ
  clear h0 h1 hΦ hin hb hm ho
  by_cases hc : zc = 0
  · subst hc
    have HZ := qh (H0.out rfl)
    clear H0 HI HΦ
    go_enter Try.func66, Try.ntmps66
    go_wp2
    go_end0
    exact HZ.out
  · have c1 := qh (HI.out hc)
    have hcb : (zc == 0) = false := by simpa using hc
    clear H0 HI
    go_enter Try.func66, Try.ntmps66
    go_wp2_with (go_at_call 74; ((with_reducible refine (c1.out).mono ?_); rintro e w1 hφ; rcases HΦ.out e w1 hφ with ⟨rfl, h1, h2⟩ | ⟨ch, rfl⟩))
    · go_end0
      exact hφ
    · first | exact ⟨rfl, hφ⟩ | exact hφ
theorem pt10 (v : Value) (own zc : Int) (P tb tm tq : Nat) (w : World) (Φ : Ending → World → Prop) (hb : Box w tb 66 #[v]) (hm : Box w tm 69 #[.pointer (some ⟨P, 0, none⟩)]) (ho : Box w tq 72 #[.int .i64 own])
    (hz : bits .and .i64 own 256 = zc) (h0 : zc = 0 → Φ (.returned (.tuple #[])) w) (h1 : zc ≠ 0 → Calls Try.prog 77 #[v, .int .i64 1, .pointer (some ⟨P, 13, none⟩), .func (.func 78) #[] #[]] w.drew Φ) (hΦ : ∀ e w', Φ e w' → (e = .returned (.tuple #[]) ∧ Box w' tb 66 #[v] ∧ Box w' tm 69 #[.pointer (some ⟨P, 0, none⟩)]) ∨ ∃ ch, e = .panicked ch) :
    Calls Try.prog 66 #[.int .i64 256, .func (.func 76) #[] #[.pointer (some ⟨tb, 0, none⟩), .pointer (some ⟨tm, 0, none⟩)], .pointer (some ⟨tq, 0, none⟩)] w Φ := by
  have o0 := ho.cell 0
  have hin : zc ≠ 0 → Calls Try.prog 76 #[.pointer (some ⟨tb, 0, none⟩), .pointer (some ⟨tm, 0, none⟩)] w Φ := fun hne => by
    have c1 := qh (h1 hne)
    have HΦ := qh hΦ
    have HB := qh hb
    have HM := qh hm
    clear h0 h1 hΦ hz hb hm ho o0
    go_enter Try.func76, Try.ntmps76
    refine Rx.wp_region_lex (X := fun ch Z => Φ (.panicked ch) Z) (by kernel_rfl) [] (by kernel_rfl) (· = w.drew) (fun W => Box W tb 66 #[v] ∧ Box W tm 69 #[.pointer (some ⟨P, 0, none⟩)]) (fun _ => True) rfl (fun W hW => ⟨hW ▸ ⟨HB.out.drew, HM.out.drew⟩, trivial⟩) ?_ ?_
    · rintro a' ha' _ ch Z hZ
      exact ⟨ha', hZ⟩
    repeat (first
      | (apply Rx.lex_free rfl rfl; focus (intro _; go_simp; first | done | rfl))
      | (apply Rx.lex_look rfl rfl rfl rfl; focus (intro W hW; obtain ⟨hW1, hW2⟩ := hW; have c0 := Box.cell hW1; have c1 := Box.cell hW2; clear hW1 hW2; go_simp; first | done | rfl)))
    refine Rx.lex_call (C' := fun Z => Φ (.returned (.tuple #[])) Z ∧ Box Z tb 66 #[v] ∧ Box Z tm 69 #[.pointer (some ⟨P, 0, none⟩)]) (v := .tuple #[]) (f := 77) (args := #[v, .int .i64 1, .pointer (some ⟨P, 13, none⟩), .func (.func 78) #[] #[]]) rfl ?_ ?_ ?_ ?_
    · intro Z hZ; clear hZ; go_simp; first | done | rfl | exact ⟨rfl, rfl⟩
    · intro Z hZ
      subst hZ
      refine (c1.out).mono fun e Z2 hφ => ?_
      rcases HΦ.out e Z2 hφ with ⟨rfl, h1, h2⟩ | ⟨ch, rfl⟩
      · exact .inl ⟨rfl, hφ, h1, h2⟩
      · exact .inr ⟨ch, rfl, hφ⟩
    · exact fun Z hZ => ⟨hZ.2, trivial⟩
    refine Rx.lex_end fun W3 hW3 => ?_
    obtain ⟨hφ, _, _⟩ := hW3
    have H3 := qh hφ
    clear hφ
    go_wp2
    go_end0
    exact H3.out
  have H0 := qh h0
  have HI := qh hin
  have HΦ := qh hΦ
  clear h0 h1 hΦ hin hb hm ho
  by_cases hc : zc = 0
  · subst hc
    have HZ := qh (H0.out rfl)
    clear H0 HI HΦ
    go_enter Try.func66, Try.ntmps66
    go_wp2
    go_end0
    exact HZ.out
  · have c1 := qh (HI.out hc)
    have hcb : (zc == 0) = false := by simpa using hc
    clear H0 HI
    go_enter Try.func66, Try.ntmps66
    go_wp2_with (go_at_call 76; ((with_reducible refine (c1.out).mono ?_); rintro e w1 hφ; rcases HΦ.out e w1 hφ with ⟨rfl, h1, h2⟩ | ⟨ch, rfl⟩))
    · go_end0
      exact hφ
    · first | exact ⟨rfl, hφ⟩ | exact hφ
theorem pt11 (v : Value) (own zc : Int) (P tb tm tq : Nat) (w : World) (Φ : Ending → World → Prop) (hb : Box w tb 66 #[v]) (hm : Box w tm 69 #[.pointer (some ⟨P, 0, none⟩)]) (ho : Box w tq 72 #[.int .i64 own])
    (hz : bits .and .i64 own 512 = zc) (h0 : zc = 0 → Φ (.returned (.tuple #[])) w) (h1 : zc ≠ 0 → Calls Try.prog 80 #[v, .int .i64 1, .pointer (some ⟨P, 14, none⟩), .func (.func 81) #[] #[]] w.drew Φ) (hΦ : ∀ e w', Φ e w' → (e = .returned (.tuple #[]) ∧ Box w' tb 66 #[v] ∧ Box w' tm 69 #[.pointer (some ⟨P, 0, none⟩)]) ∨ ∃ ch, e = .panicked ch) :
    Calls Try.prog 66 #[.int .i64 512, .func (.func 79) #[] #[.pointer (some ⟨tb, 0, none⟩), .pointer (some ⟨tm, 0, none⟩)], .pointer (some ⟨tq, 0, none⟩)] w Φ := by
  have o0 := ho.cell 0
  have hin : zc ≠ 0 → Calls Try.prog 79 #[.pointer (some ⟨tb, 0, none⟩), .pointer (some ⟨tm, 0, none⟩)] w Φ := fun hne => by
    have c1 := qh (h1 hne)
    have HΦ := qh hΦ
    have HB := qh hb
    have HM := qh hm
    clear h0 h1 hΦ hz hb hm ho o0
    go_enter Try.func79, Try.ntmps79
    refine Rx.wp_region_lex (X := fun ch Z => Φ (.panicked ch) Z) (by kernel_rfl) [] (by kernel_rfl) (· = w.drew) (fun W => Box W tb 66 #[v] ∧ Box W tm 69 #[.pointer (some ⟨P, 0, none⟩)]) (fun _ => True) rfl (fun W hW => ⟨hW ▸ ⟨HB.out.drew, HM.out.drew⟩, trivial⟩) ?_ ?_
    · rintro a' ha' _ ch Z hZ
      exact ⟨ha', hZ⟩
    repeat (first
      | (apply Rx.lex_free rfl rfl; focus (intro _; go_simp; first | done | rfl))
      | (apply Rx.lex_look rfl rfl rfl rfl; focus (intro W hW; obtain ⟨hW1, hW2⟩ := hW; have c0 := Box.cell hW1; have c1 := Box.cell hW2; clear hW1 hW2; go_simp; first | done | rfl)))
    refine Rx.lex_call (C' := fun Z => Φ (.returned (.tuple #[])) Z ∧ Box Z tb 66 #[v] ∧ Box Z tm 69 #[.pointer (some ⟨P, 0, none⟩)]) (v := .tuple #[]) (f := 80) (args := #[v, .int .i64 1, .pointer (some ⟨P, 14, none⟩), .func (.func 81) #[] #[]]) rfl ?_ ?_ ?_ ?_
    · intro Z hZ; clear hZ; go_simp; first | done | rfl | exact ⟨rfl, rfl⟩
    · intro Z hZ
      subst hZ
      refine (c1.out).mono fun e Z2 hφ => ?_
      rcases HΦ.out e Z2 hφ with ⟨rfl, h1, h2⟩ | ⟨ch, rfl⟩
      · exact .inl ⟨rfl, hφ, h1, h2⟩
      · exact .inr ⟨ch, rfl, hφ⟩
    · exact fun Z hZ => ⟨hZ.2, trivial⟩
    refine Rx.lex_end fun W3 hW3 => ?_
    obtain ⟨hφ, _, _⟩ := hW3
    have H3 := qh hφ
    clear hφ
    go_wp2
    go_end0
    exact H3.out
  have H0 := qh h0
  have HI := qh hin
  have HΦ := qh hΦ
  clear h0 h1 hΦ hin hb hm ho
  by_cases hc : zc = 0
  · subst hc
    have HZ := qh (H0.out rfl)
    clear H0 HI HΦ
    go_enter Try.func66, Try.ntmps66
    go_wp2
    go_end0
    exact HZ.out
  · have c1 := qh (HI.out hc)
    have hcb : (zc == 0) = false := by simpa using hc
    clear H0 HI
    go_enter Try.func66, Try.ntmps66
    go_wp2_with (go_at_call 79; ((with_reducible refine (c1.out).mono ?_); rintro e w1 hφ; rcases HΦ.out e w1 hφ with ⟨rfl, h1, h2⟩ | ⟨ch, rfl⟩))
    · go_end0
      exact hφ
    · first | exact ⟨rfl, hφ⟩ | exact hφ
theorem pt12 (v : Value) (own zc : Int) (P tb tm tq : Nat) (w : World) (Φ : Ending → World → Prop) (hb : Box w tb 66 #[v]) (hm : Box w tm 69 #[.pointer (some ⟨P, 0, none⟩)]) (ho : Box w tq 72 #[.int .i64 own])
    (hz : bits .and .i64 own 1024 = zc) (h0 : zc = 0 → Φ (.returned (.tuple #[])) w) (h1 : zc ≠ 0 → Calls Try.prog 83 #[v, .int .i64 1, .pointer (some ⟨P, 15, none⟩), .func (.func 84) #[] #[]] w.drew Φ) (hΦ : ∀ e w', Φ e w' → (e = .returned (.tuple #[]) ∧ Box w' tb 66 #[v] ∧ Box w' tm 69 #[.pointer (some ⟨P, 0, none⟩)]) ∨ ∃ ch, e = .panicked ch) :
    Calls Try.prog 66 #[.int .i64 1024, .func (.func 82) #[] #[.pointer (some ⟨tb, 0, none⟩), .pointer (some ⟨tm, 0, none⟩)], .pointer (some ⟨tq, 0, none⟩)] w Φ := by
  have o0 := ho.cell 0
  have hin : zc ≠ 0 → Calls Try.prog 82 #[.pointer (some ⟨tb, 0, none⟩), .pointer (some ⟨tm, 0, none⟩)] w Φ := fun hne => by
    have c1 := qh (h1 hne)
    have HΦ := qh hΦ
    have HB := qh hb
    have HM := qh hm
    clear h0 h1 hΦ hz hb hm ho o0
    go_enter Try.func82, Try.ntmps82
    refine Rx.wp_region_lex (X := fun ch Z => Φ (.panicked ch) Z) (by kernel_rfl) [] (by kernel_rfl) (· = w.drew) (fun W => Box W tb 66 #[v] ∧ Box W tm 69 #[.pointer (some ⟨P, 0, none⟩)]) (fun _ => True) rfl (fun W hW => ⟨hW ▸ ⟨HB.out.drew, HM.out.drew⟩, trivial⟩) ?_ ?_
    · rintro a' ha' _ ch Z hZ
      exact ⟨ha', hZ⟩
    repeat (first
      | (apply Rx.lex_free rfl rfl; focus (intro _; go_simp; first | done | rfl))
      | (apply Rx.lex_look rfl rfl rfl rfl; focus (intro W hW; obtain ⟨hW1, hW2⟩ := hW; have c0 := Box.cell hW1; have c1 := Box.cell hW2; clear hW1 hW2; go_simp; first | done | rfl)))
    refine Rx.lex_call (C' := fun Z => Φ (.returned (.tuple #[])) Z ∧ Box Z tb 66 #[v] ∧ Box Z tm 69 #[.pointer (some ⟨P, 0, none⟩)]) (v := .tuple #[]) (f := 83) (args := #[v, .int .i64 1, .pointer (some ⟨P, 15, none⟩), .func (.func 84) #[] #[]]) rfl ?_ ?_ ?_ ?_
    · intro Z hZ; clear hZ; go_simp; first | done | rfl | exact ⟨rfl, rfl⟩
    · intro Z hZ
      subst hZ
      refine (c1.out).mono fun e Z2 hφ => ?_
      rcases HΦ.out e Z2 hφ with ⟨rfl, h1, h2⟩ | ⟨ch, rfl⟩
      · exact .inl ⟨rfl, hφ, h1, h2⟩
      · exact .inr ⟨ch, rfl, hφ⟩
    · exact fun Z hZ => ⟨hZ.2, trivial⟩
    refine Rx.lex_end fun W3 hW3 => ?_
    obtain ⟨hφ, _, _⟩ := hW3
    have H3 := qh hφ
    clear hφ
    go_wp2
    go_end0
    exact H3.out
  have H0 := qh h0
  have HI := qh hin
  have HΦ := qh hΦ
  clear h0 h1 hΦ hin hb hm ho
  by_cases hc : zc = 0
  · subst hc
    have HZ := qh (H0.out rfl)
    clear H0 HI HΦ
    go_enter Try.func66, Try.ntmps66
    go_wp2
    go_end0
    exact HZ.out
  · have c1 := qh (HI.out hc)
    have hcb : (zc == 0) = false := by simpa using hc
    clear H0 HI
    go_enter Try.func66, Try.ntmps66
    go_wp2_with (go_at_call 82; ((with_reducible refine (c1.out).mono ?_); rintro e w1 hφ; rcases HΦ.out e w1 hφ with ⟨rfl, h1, h2⟩ | ⟨ch, rfl⟩))
    · go_end0
      exact hφ
    · first | exact ⟨rfl, hφ⟩ | exact hφ
end Go.Proofs.Ytgmlbimgcifenaa
namespace Go.Proofs.Ytgmlbimgcifenaa
open Go.RowKit Go.Shelf
theorem layu16_w (size : Nat) (z : Int) (hz : z = size) (x : Int) (P o : Nat) (t : TypeId) (cs : Array Value) (bs : List Int) (b Bb Bp : Nat) (w : World) (hs : size ≤ 8) (hx : 0 ≤ x ∧ x ≤ 65535) (hbB : b ≤ Bb) (h : Wr b Bb Bp bs w) (hl : bs.length + size ≤ 65536) (hP : Box w P t cs) (ho : cs[o]? = some (.int .u16 x)) (h1 : t ≠ 27) (h2 : t ≠ 5) (h3 : t ≠ 68) :
    Calls Try.prog 52 #[.func (.func 54) #[] #[.pointer (some ⟨Bp, 0, none⟩)], .int .i64 z, .pointer (some ⟨P, o, none⟩)] w fun e w' => e = .returned (.tuple #[]) ∧ Wr b Bb Bp (bs ++ Im.bytesOf size (IntKind.u64.wrap x)) w' ∧ Wrote b Bb w w' := by
  subst hz
  have hwb : IntKind.u16.wrap (IntKind.u64.wrap x) = x := by rw [IntKind.wrap_u16, IntKind.wrap_u64]; omega
  have hvr : 0 ≤ IntKind.u64.wrap x ∧ IntKind.u64.wrap x ≤ 18446744073709551615 := by rw [IntKind.wrap_u64]; omega
  obtain ⟨v, hv⟩ : ∃ v, v = IntKind.u64.wrap x := ⟨_, rfl⟩
  rw [← hv] at hwb hvr ⊢
  have cw := qh (write_any size v bs b Bb Bp w hs hvr hbB h hl)
  have HH := qh h
  have HP := qh hP
  have hvv : IntKind.u64.wrap x = v := hv.symm
  clear hv
  have k0 := hP.cell o
  rw [ho] at k0
  have HO := qh ho
  clear h hP ho
  go_enter Try.func52, Try.ntmps52
  go_wp2_with (go_at_call 54; ((with_reducible refine (cw.out).mono ?_); rintro e w1 ⟨rfl, hI1, hK1⟩; have P1 := qh (HP.out.wrote' hK1 HH.out.isvar h1 h2); have I1 := qh hI1; have K1 := qh hK1; have k1 := P1.out.cell o; rw [HO.out] at k1; have f1 := P1.out.free o; clear hI1 hK1 k0))
  go_end0
  exact ⟨rfl, I1.out.off (p := ⟨P, o, none⟩) P1.out h3 h1 h2 _, K1.out.noop P1.out HO.out⟩
theorem part_u16 (size : Nat) (z : Int) (hz : z = size) (x0 : Int) (P o : Nat) (t : TypeId) (cs : Array Value) (bs : List Int) (b Bb Bp : Nat) (w : World) (hs : 1 ≤ size ∧ size ≤ 2) (hBy : Im.IsBytes bs) (hbB : b ≤ Bb) (hbP : b ≤ P) (hbw : b ≤ w.heap.size) (h : Rd b Bb Bp bs w) (hP : Box w P t cs) (ho : cs[o]? = some (.int .u16 x0)) (h1 : t ≠ 27) (h2 : t ≠ 5) (h3 : t ≠ 68) :
    Calls Try.prog 52 #[.func (.func 60) #[] #[.pointer (some ⟨Bp, 0, none⟩)], .int .i64 z, .pointer (some ⟨P, o, none⟩)] w (Got b Bb Bp P t cs.size (Im.rdn size bs) (fun y => cs.setIfInBounds o (.int .u16 (y))) w) := by
  subst hz
  have HP := qh hP
  have k0 := hP.cell o
  rw [ho] at k0
  cases hr : Im.rdn size bs with
  | none =>
    have cr := fun v0 => qh (read_few size size rfl v0 bs b Bb Bp w (Im.rdn_none hr) h)
    clear h hP ho hs hr
    go_enter Try.func52, Try.ntmps52
    go_wp2_with (go_at_call 60; ((with_reducible refine ((cr _).out).mono ?_); rintro e w2 ⟨⟨s, rfl⟩, rfl⟩))
    first | exact ⟨rfl, .inr ⟨rfl, ⟨_, rfl⟩, Rk.refl _ _ _ _, _, HP.out, rfl⟩⟩ | exact .inr ⟨rfl, ⟨_, rfl⟩, Rk.refl _ _ _ _, _, HP.out, rfl⟩
  | some q =>
    obtain ⟨y, rest⟩ := q
    obtain ⟨_, y0, y1, _⟩ := Im.rdn_inv hBy hr
    have y2 : y < 2 ^ (8 * 2) := Int.lt_of_lt_of_le y1 (by have := Nat.pow_le_pow_right (show 0 < 2 by decide) (show 8 * size ≤ 8 * 2 by omega); exact_mod_cast this)
    have hwb : IntKind.u16.wrap y = y := by rw [IntKind.wrap_u16]; omega
    have cr := fun v0 => qh (read_all size size rfl v0 y bs rest b Bb Bp w (by omega) hBy hr hbB h)
    have HH := qh h.isvar
    have HO := qh ho
    have HB := qh hbP
    clear h hP ho hr y0 y1 y2
    go_enter Try.func52, Try.ntmps52
    go_wp2_with (go_at_call 60; ((with_reducible refine ((cr _).out).mono ?_); rintro e w1 ⟨rfl, hI1, hK1⟩; have P1 := qh (HP.out.wrote' hK1 HH.out h1 h2); have I1 := qh hI1; have K1 := qh hK1; have k1 := P1.out.cell o; rw [HO.out] at k1; have f1 := P1.out.free o; clear hI1 hK1 k0))
    go_end0
    exact .inl ⟨y, rest, rfl, rfl, I1.out.off (p := ⟨P, o, none⟩) P1.out h3 h1 HB.out _, ⟨(K1.out.to hbw).setCell HB.out _, ((Kb.refl (B := P) w).wrote K1.out HH.out).put o _⟩, by show Box _ _ _ (cs.setIfInBounds o (.int .u16 (y))); (try rw [hwb]); exact P1.out.put o _⟩
theorem layu32_w (size : Nat) (z : Int) (hz : z = size) (x : Int) (P o : Nat) (t : TypeId) (cs : Array Value) (bs : List Int) (b Bb Bp : Nat) (w : World) (hs : size ≤ 8) (hx : 0 ≤ x ∧ x ≤ 4294967295) (hbB : b ≤ Bb) (h : Wr b Bb Bp bs w) (hl : bs.length + size ≤ 65536) (hP : Box w P t cs) (ho : cs[o]? = some (.int .u32 x)) (h1 : t ≠ 27) (h2 : t ≠ 5) (h3 : t ≠ 68) :
    Calls Try.prog 33 #[.func (.func 54) #[] #[.pointer (some ⟨Bp, 0, none⟩)], .int .i64 z, .pointer (some ⟨P, o, none⟩)] w fun e w' => e = .returned (.tuple #[]) ∧ Wr b Bb Bp (bs ++ Im.bytesOf size (IntKind.u64.wrap x)) w' ∧ Wrote b Bb w w' := by
  subst hz
  have hwb : IntKind.u32.wrap (IntKind.u64.wrap x) = x := by rw [IntKind.wrap_u32, IntKind.wrap_u64]; omega
  have hvr : 0 ≤ IntKind.u64.wrap x ∧ IntKind.u64.wrap x ≤ 18446744073709551615 := by rw [IntKind.wrap_u64]; omega
  obtain ⟨v, hv⟩ : ∃ v, v = IntKind.u64.wrap x := ⟨_, rfl⟩
  rw [← hv] at hwb hvr ⊢
  have cw := qh (write_any size v bs b Bb Bp w hs hvr hbB h hl)
  have HH := qh h
  have HP := qh hP
  have hvv : IntKind.u64.wrap x = v := hv.symm
  clear hv
  have k0 := hP.cell o
  rw [ho] at k0
  have HO := qh ho
  clear h hP ho
  go_enter Try.func33, Try.ntmps33
  go_wp2_with (go_at_call 54; ((with_reducible refine (cw.out).mono ?_); rintro e w1 ⟨rfl, hI1, hK1⟩; have P1 := qh (HP.out.wrote' hK1 HH.out.isvar h1 h2); have I1 := qh hI1; have K1 := qh hK1; have k1 := P1.out.cell o; rw [HO.out] at k1; have f1 := P1.out.free o; clear hI1 hK1 k0))
  go_end0
  exact ⟨rfl, I1.out.off (p := ⟨P, o, none⟩) P1.out h3 h1 h2 _, K1.out.noop P1.out HO.out⟩
theorem part_u32 (size : Nat) (z : Int) (hz : z = size) (x0 : Int) (P o : Nat) (t : TypeId) (cs : Array Value) (bs : List Int) (b Bb Bp : Nat) (w : World) (hs : 1 ≤ size ∧ size ≤ 4) (hBy : Im.IsBytes bs) (hbB : b ≤ Bb) (hbP : b ≤ P) (hbw : b ≤ w.heap.size) (h : Rd b Bb Bp bs w) (hP : Box w P t cs) (ho : cs[o]? = some (.int .u32 x0)) (h1 : t ≠ 27) (h2 : t ≠ 5) (h3 : t ≠ 68) :
    Calls Try.prog 33 #[.func (.func 60) #[] #[.pointer (some ⟨Bp, 0, none⟩)], .int .i64 z, .pointer (some ⟨P, o, none⟩)] w (Got b Bb Bp P t cs.size (Im.rdn size bs) (fun y => cs.setIfInBounds o (.int .u32 (y))) w) := by
  subst hz
  have HP := qh hP
  have k0 := hP.cell o
  rw [ho] at k0
  cases hr : Im.rdn size bs with
  | none =>
    have cr := fun v0 => qh (read_few size size rfl v0 bs b Bb Bp w (Im.rdn_none hr) h)
    clear h hP ho hs hr
    go_enter Try.func33, Try.ntmps33
    go_wp2_with (go_at_call 60; ((with_reducible refine ((cr _).out).mono ?_); rintro e w2 ⟨⟨s, rfl⟩, rfl⟩))
    first | exact ⟨rfl, .inr ⟨rfl, ⟨_, rfl⟩, Rk.refl _ _ _ _, _, HP.out, rfl⟩⟩ | exact .inr ⟨rfl, ⟨_, rfl⟩, Rk.refl _ _ _ _, _, HP.out, rfl⟩
  | some q =>
    obtain ⟨y, rest⟩ := q
    obtain ⟨_, y0, y1, _⟩ := Im.rdn_inv hBy hr
    have y2 : y < 2 ^ (8 * 4) := Int.lt_of_lt_of_le y1 (by have := Nat.pow_le_pow_right (show 0 < 2 by decide) (show 8 * size ≤ 8 * 4 by omega); exact_mod_cast this)
    have hwb : IntKind.u32.wrap y = y := by rw [IntKind.wrap_u32]; omega
    have cr := fun v0 => qh (read_all size size rfl v0 y bs rest b Bb Bp w (by omega) hBy hr hbB h)
    have HH := qh h.isvar
    have HO := qh ho
    have HB := qh hbP
    clear h hP ho hr y0 y1 y2
    go_enter Try.func33, Try.ntmps33
    go_wp2_with (go_at_call 60; ((with_reducible refine ((cr _).out).mono ?_); rintro e w1 ⟨rfl, hI1, hK1⟩; have P1 := qh (HP.out.wrote' hK1 HH.out h1 h2); have I1 := qh hI1; have K1 := qh hK1; have k1 := P1.out.cell o; rw [HO.out] at k1; have f1 := P1.out.free o; clear hI1 hK1 k0))
    go_end0
    exact .inl ⟨y, rest, rfl, rfl, I1.out.off (p := ⟨P, o, none⟩) P1.out h3 h1 HB.out _, ⟨(K1.out.to hbw).setCell HB.out _, ((Kb.refl (B := P) w).wrote K1.out HH.out).put o _⟩, by show Box _ _ _ (cs.setIfInBounds o (.int .u32 (y))); (try rw [hwb]); exact P1.out.put o _⟩
end Go.Proofs.Ytgmlbimgcifenaa
namespace Go.Proofs.Ytgmlbimgcifenaa
open Go.RowKit
theorem part_data (q : Ms.S) (w : World) (hT : Ms.Ty q.m) (hL : LiesM w w.heap.size q) (h64 : q.m.data.length ≤ 64) (p : Int) (hp : p = 100) :
    Calls Try.prog 39 #[.agg q.cells, .int .u8 p] w fun e w' => e = .returned (.string (strOfNums (Im.bytesOf 1 (q.m.data.length : Int) ++ q.m.data))) ∧ Below w.heap.size w w' := by
  subst hp
  have TD := qh hT.data
  have KB := qh (one_below w (.cells q.cells 29))
  have LD0 := qh ((hL.data.below KB.out).wider KB.out.size)
  have BX := qh (Box.made w 29 q.cells)
  clear hT hL
  generalize hA : q.cells = CS
  go_enter Try.func39, Try.ntmps39
  go_upto_region 33 with fail
  subst hA
  obtain ⟨B, hB⟩ : ∃ B, B = w.heap.size := ⟨_, rfl⟩
  rw [← hB] at BX
  refine Slim.forget 119 rfl rfl fun a0 S D hf => ?_
  have H2 : Slim.Has a0 2 true (.pointer (some ⟨B, 0, none⟩)) := by rw [hB]; exact hf 2 _ rfl
  clear hf hB
  generalize w.alloc (.cells q.cells 29) = W0 at *
  have LD := qh (show ∀ w' : World, (∃ z : Ext W0.heap.size W0, w' = z.w) → Lies w' W0.heap.size 1 q.ad q.m.data.length (Im.u8s q.m.data) from by
    rintro _ ⟨z, rfl⟩
    exact LD0.out.below z.h)
  have ZB := qh (show ∀ w' : World, (∃ z : Ext W0.heap.size W0, w' = z.w) → Box w' B 29 q.cells from by
    rintro _ ⟨z, rfl⟩
    exact BX.out.below z.h BX.out.lt)
  refine wp_region_ext W0.heap.size W0 (by kernel_rfl) (by kernel_rfl) (Below.refl _ _) ?_
  refine Slim.qval_g (t := 110) (c := true) (v := .pointer (some ⟨B, 15, none⟩)) rfl (by rw [S]; decide) (Slim.wants_all rfl) (fun h0 w hw => (Slim.field_g rfl H2 id (by go_simp; first | done | rfl)) h0) fun a1 o => ?_
  replace S := o.size.trans S; replace D := o.defers.trans D
  replace H2 := Slim.stays o H2 (by decide)
  have H110 : Slim.Has a1 110 true (.pointer (some ⟨B, 15, none⟩)) := o.here
  clear o
  refine Slim.qval_g (t := 111) (c := true) (v := .slice q.ad q.m.data.length q.cd) rfl (by rw [S]; decide) (Slim.wants_all rfl) (fun h0 w hw => (Slim.load_g rfl H110 id (by have k := (ZB.out w hw).cell 15; go_simp; first | done | rfl)) h0) fun a2 o => ?_
  replace S := o.size.trans S; replace D := o.defers.trans D
  replace H2 := Slim.stays o H2 (by decide)
  have H111 : Slim.Has a2 111 true (.slice q.ad q.m.data.length q.cd) := o.here
  clear H110
  clear o
  refine Slim.qval_g (t := 112) (c := true) (v := .int .i64 (q.m.data.length : Int)) rfl (by rw [S]; decide) (Slim.wants_all rfl) (fun h0 w hw => (Slim.len_g rfl H111 id (by go_simp; first | done | rfl)) h0) fun a3 o => ?_
  replace S := o.size.trans S; replace D := o.defers.trans D
  replace H2 := Slim.stays o H2 (by decide)
  have H112 : Slim.Has a3 112 true (.int .i64 (q.m.data.length : Int)) := o.here
  clear H111
  clear o
  refine Slim.qval_g (t := 113) (c := true) (v := .int .u64 (q.m.data.length : Int)) rfl (by rw [S]; decide) (Slim.wants_all rfl) (fun h0 w hw => (Slim.convert_g rfl H112 id (conv_u64 (by omega) (by omega))) h0) fun a4 o => ?_
  replace S := o.size.trans S; replace D := o.defers.trans D
  replace H2 := Slim.stays o H2 (by decide)
  have H113 : Slim.Has a4 113 true (.int .u64 (q.m.data.length : Int)) := o.here
  clear H112
  clear o
  refine Slim.qcall_g (t := 114) (c := true) (v := .string (strOfNums (Im.bytesOf 1 (q.m.data.length : Int)))) rfl (by rw [S]; decide) (Slim.wants_all rfl) (fun h0 w hw => (Slim.calls2_g rfl H113 id (by go_simp; first | done | rfl)) h0) (fun _ w hw => by obtain ⟨q', rfl⟩ := hw; exact Calls.ext_of (Nat.le_refl _) (refput_num 1 1 (q.m.data.length : Int) rfl _ (by decide) (by omega))) fun a5 o => ?_
  replace S := o.size.trans S; replace D := o.defers.trans D
  replace H2 := Slim.stays o H2 (by decide)
  have H114 : Slim.Has a5 114 true (.string (strOfNums (Im.bytesOf 1 (q.m.data.length : Int)))) := o.here
  clear H113
  clear o
  refine Slim.qval_g (t := 115) (c := true) (v := .pointer (some ⟨B, 15, none⟩)) rfl (by rw [S]; decide) (Slim.wants_all rfl) (fun h0 w hw => (Slim.field_g rfl H2 id (by go_simp; first | done | rfl)) h0) fun a6 o => ?_
  replace S := o.size.trans S; replace D := o.defers.trans D
  replace H114 := Slim.stays o H114 (by decide)
  have H115 : Slim.Has a6 115 true (.pointer (some ⟨B, 15, none⟩)) := o.here
  clear H2
  clear o
  refine Slim.qval_g (t := 116) (c := true) (v := .slice q.ad q.m.data.length q.cd) rfl (by rw [S]; decide) (Slim.wants_all rfl) (fun h0 w hw => (Slim.load_g rfl H115 id (by have k := (ZB.out w hw).cell 15; go_simp; first | done | rfl)) h0) fun a7 o => ?_
  replace S := o.size.trans S; replace D := o.defers.trans D
  replace H114 := Slim.stays o H114 (by decide)
  have H116 : Slim.Has a7 116 true (.slice q.ad q.m.data.length q.cd) := o.here
  clear H115
  clear o
  refine Slim.qval_g (t := 117) (c := true) (v := .string (strOfNums (q.m.data))) rfl (by rw [S]; decide) (Slim.wants_all rfl) (fun h0 w hw => (Slim.convert_g rfl H116 id (conv_bytes q.m.data _ q.ad q.cd _ W0.heap.size rfl (LD.out w hw))) h0) fun a8 o => ?_
  replace S := o.size.trans S; replace D := o.defers.trans D
  replace H114 := Slim.stays o H114 (by decide)
  have H117 : Slim.Has a8 117 true (.string (strOfNums (q.m.data))) := o.here
  clear H116
  clear o
  refine Slim.qval_g (t := 118) (c := true) (v := .string (strOfNums (Im.bytesOf 1 (q.m.data.length : Int) ++ q.m.data))) rfl (by rw [S]; decide) (Slim.wants_all rfl) (fun h0 w hw => (Slim.bin2_g rfl H114 H117 id id (fun _ _ => str_add (by rw [Im.bytesOf_len]; omega))) h0) fun a9 o => ?_
  replace S := o.size.trans S; replace D := o.defers.trans D
  have H118 : Slim.Has a9 118 true (.string (strOfNums (Im.bytesOf 1 (q.m.data.length : Int) ++ q.m.data))) := o.here
  clear H114
  clear H117
  clear o
  refine Slim.qval_g (t := 4) (c := true) (v := .string (strOfNums (Im.bytesOf 1 (q.m.data.length : Int) ++ q.m.data))) rfl (by rw [S]; decide) (Slim.wants_all rfl) (fun h0 w hw => (Slim.assign_g rfl H118 id) h0) fun a10 o => ?_
  replace S := o.size.trans S; replace D := o.defers.trans D
  have H4 : Slim.Has a10 4 true (.string (strOfNums (Im.bytesOf 1 (q.m.data.length : Int) ++ q.m.data))) := o.here
  clear H118
  clear o
  refine wpQuiet_nil ?_
  rintro _ ⟨q', rfl⟩
  replace KB := qh (KB.out.trans (q'.h.mono KB.out.size))
  refine (by assumption : ∀ a w, Code.wp Try.prog _ _ a w → _) _ _ ?_
  refine wp_ret ?_
  (try simp only [Exit.inBlock, Exit.then])
  exact on_ret rfl D H4 ⟨rfl, KB.out⟩
end Go.Proofs.Ytgmlbimgcifenaa
namespace Ms
def part (m : M) (c : Int) : List Int := if c = 115 then Im.bytesOf 1 m.slot else if c = 103 then Im.bytesOf 2 m.gen else if c = 102 then Im.bytesOf 4 m.frame else if c = 99 then Im.bytesOf 1 m.code else if c = 110 then Im.bytesOf 2 m.n else if c = 111 then Im.bytesOf 2 m.of else if c = 98 then Im.bytesOf 4 m.bits else if c = 109 then Im.bytesOf 8 m.sum else if c = 105 then Im.bytesOf 1 (m.ins.length : Int) ++ m.ins.flatMap En.inBytes else if c = 108 then Im.bytesOf 1 (m.log.length : Int) ++ m.log.flatMap Ms.logBytes else Im.bytesOf 1 (m.data.length : Int) ++ m.data
def head (m : M) : List Int := Im.bytesOf 1 m.kind ++ Im.bytesOf 1 m.frm ++ Im.bytesOf 2 m.serial ++ Im.bytesOf 2 m.ack ++ Im.bytesOf 4 m.seen
def body (m : M) : List Int := head m ++ (has m.kind).flatMap (part m)
def put (m : M) : List Int := Im.bytesOf 4 ((Crc.sum (body m) : Nat) : Int) ++ body m
structure Bd (m : M) : Prop where
  kind : 0 ≤ m.kind ∧ m.kind ≤ 14
  frm : 0 ≤ m.frm ∧ m.frm ≤ 11
  slot : 0 ≤ m.slot ∧ m.slot ≤ 7
  frame : 0 ≤ m.frame ∧ m.frame ≤ 1048576
  code : 0 ≤ m.code ∧ m.code ≤ 9
  n : 0 ≤ m.n ∧ m.n ≤ 65535
  gen : 103 ∈ has m.kind → 1 ≤ m.gen ∧ m.gen ≤ 60000
  of : 111 ∈ has m.kind → 1 ≤ m.of ∧ m.of ≤ 65535
  ins : 105 ∈ has m.kind → m.ins.length ≤ 16
  log : 108 ∈ has m.kind → m.log.length ≤ 16
  data : 100 ∈ has m.kind → m.data.length ≤ 64
theorem Ok.bd {m : M} (h : Ok m) : Bd m := by
  have h1 := h.n1
  have h2 := h.n2
  have h3 := h.n3
  unfold no1 at h1
  unfold no2 at h2
  unfold no3 at h3
  simp only [Bool.or_eq_false_iff, decide_eq_false_iff_not] at h1
  obtain ⟨⟨⟨⟨⟨⟨⟨⟨⟨⟨⟨⟨_, _⟩, _⟩, _⟩, _⟩, _⟩, _⟩, _⟩, _⟩, _⟩, _⟩, _⟩, _⟩ := h1
  refine ⟨by omega, by omega, by omega, by omega, by omega, by omega, fun hc => ?_, fun hc => ?_, fun hc => ?_, fun hc => ?_, fun hc => ?_⟩
  all_goals
    have hc' := List.contains_iff_mem.2 hc
    simp only [Bool.or_eq_false_iff, Bool.and_eq_false_iff, hc', Bool.true_eq_false, false_or, decide_eq_false_iff_not] at h2 h3
    omega
end Ms
namespace Go.Proofs.Ytgmlbimgcifenaa
open Go.RowKit
theorem has_mem {k c : Int} (h : c ∈ Ms.has k) : c = 115 ∨ c = 103 ∨ c = 102 ∨ c = 99 ∨ c = 110 ∨ c = 111 ∨ c = 98 ∨ c = 109 ∨ c = 105 ∨ c = 108 ∨ c = 100 := by
  revert c
  refine Ms.has_cases (Q := fun l => ∀ {c : Int}, c ∈ l → c = 115 ∨ c = 103 ∨ c = 102 ∨ c = 99 ∨ c = 110 ∨ c = 111 ∨ c = 98 ∨ c = 109 ∨ c = 105 ∨ c = 108 ∨ c = 100) k ?_ ?_ ?_ ?_ ?_ ?_ ?_ ?_ ?_ ?_
  all_goals
    intro c hc
    simp at hc
    try omega
theorem part_any (q : Ms.S) (w : World) (hT : Ms.Ty q.m) (hL : LiesM w w.heap.size q) (hok : Ms.Ok q.m) (c : Int) (hc : c ∈ Ms.has q.m.kind) :
    Calls Try.prog 39 #[.agg q.cells, .int .u8 c] w fun e w' => e = .returned (.string (strOfNums (Ms.part q.m c))) ∧ Below w.heap.size w w' := by
  have bd := hok.bd
  rcases has_mem hc with rfl | rfl | rfl | rfl | rfl | rfl | rfl | rfl | rfl | rfl | rfl
  · rw [show Ms.part q.m 115 = Im.bytesOf 1 q.m.slot from rfl]; exact part_slot q w (by have := bd.slot; omega)
  · rw [show Ms.part q.m 103 = Im.bytesOf 2 q.m.gen from rfl]; exact part_gen q w (by have := bd.gen hc; omega)
  · rw [show Ms.part q.m 102 = Im.bytesOf 4 q.m.frame from rfl]; exact part_frame q w (by have := bd.frame; omega)
  · rw [show Ms.part q.m 99 = Im.bytesOf 1 q.m.code from rfl]; exact part_code q w (by have := bd.code; omega)
  · rw [show Ms.part q.m 110 = Im.bytesOf 2 q.m.n from rfl]; exact part_n q w (by have := bd.n; omega)
  · rw [show Ms.part q.m 111 = Im.bytesOf 2 q.m.of from rfl]; exact part_of q w (by have := bd.of hc; omega)
  · rw [show Ms.part q.m 98 = Im.bytesOf 4 q.m.bits from rfl]; exact part_bits q w (by have := hT.bits; omega)
  · rw [show Ms.part q.m 109 = Im.bytesOf 8 q.m.sum from rfl]; exact part_sum q w (by have := hT.sum; omega)
  · rw [show Ms.part q.m 105 = Im.bytesOf 1 (q.m.ins.length : Int) ++ q.m.ins.flatMap En.inBytes from rfl]
    exact part_ins q w hT hL (bd.ins hc)
  · rw [show Ms.part q.m 108 = Im.bytesOf 1 (q.m.log.length : Int) ++ q.m.log.flatMap Ms.logBytes from rfl]
    exact part_log q w hT hL (bd.log hc) (fun e he => by
      obtain ⟨k, hk, rfl⟩ := List.mem_iff_getElem.1 he
      exact (hok.log k hk).1)
  · rw [show Ms.part q.m 100 = Im.bytesOf 1 (q.m.data.length : Int) ++ q.m.data from rfl]
    exact part_data q w hT hL (bd.data hc) 100 rfl
end Go.Proofs.Ytgmlbimgcifenaa