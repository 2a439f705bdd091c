/-
The document's entry: its bytes.
-/
import Derived.Test.YtbihnmingedgfaaEr
import Derived.Test.YtbihnmingedgfaaQx
namespace Go.Proofs.Ytbihnmingedgfaa
open Go.RowKit Go.Shelf
set_option linter.unusedVariables false
set_option linter.unusedSimpArgs false

theorem u8_fill3 (a b c : Int) : Instr.fill (fun i => some (i * 1, 1)) ((Array.range (3 * 1)).map ((Value.int .u8 0).cells[· % (Value.int .u8 0).cells.size]!)) [(0, .int .u8 a), (1, .int .u8 b), (2, .int .u8 c)] = some #[.int .u8 a, .int .u8 b, .int .u8 c] := by kernel_rfl
theorem u8_slice3 (a b c : Int) (W : World) : (Instr.buildSlice 54 3 #[(0, .int .u8 a), (1, .int .u8 b), (2, .int .u8 c)]).run Try.prog W = .ok (.slice (some ⟨W.heap.size, 0, none⟩) 3 3) (W.alloc (.cells #[.int .u8 a, .int .u8 b, .int .u8 c] 5)) := by
  obtain ⟨i, hq, hz, hs, _⟩ := u8_parts
  exact run_buildSlice W _ _ 3 _ _ i (.int .u8 0) Try.underlying54 hq hz (by rw [hs]; decide) (by rw [hs]; decide) (by rw [hs]; exact u8_fill3 a b c)

set_option maxRecDepth 100000 in
theorem refputin_any (p : Gm.In) (w : World) (hty : Gm.tyIn p) :
    Calls Try.prog 94 #[.agg p.cells.toArray] w fun e w' => e = .returned (.string (strOfNums (En.inBytes p))) ∧ Below w.heap.size w w' := by
  obtain ⟨x, y, b⟩ := p
  obtain ⟨t1, t2, t3⟩ := hty
  dsimp only at t1 t2 t3
  simp only [Gm.In.cells]
  have e0 : En.inBytes ⟨x, y, b⟩ = [x % 256, y % 256, b] := by
    unfold En.inBytes Im.bytesOf Im.bytesOf
    simp
    omega
  rw [e0]
  have hw1 : IntKind.u8.wrap x = x % 256 := by rw [IntKind.wrap_u8]
  have hw2 : IntKind.u8.wrap y = y % 256 := by rw [IntKind.wrap_u8]
  have hsl := fun a b c W => u8_slice3 a b c W
  have hcv := conv_bytes [x % 256, y % 256, b] 3 (some ⟨w.heap.size + 1, 0, none⟩) 3 ((w.alloc (.cells #[.int .i8 x, .int .i8 y, .int .u8 b] 37)).alloc (.cells #[.int .u8 (x % 256), .int .u8 (y % 256), .int .u8 b] 5)) _ rfl (Lies.boxed (xs := Im.u8s [x % 256, y % 256, b]) (n := 3) (size := 1) (Box.made_at (n := w.heap.size + 1) (w.alloc (.cells #[.int .i8 x, .int .i8 y, .int .u8 b] 37)) 5 (Im.u8s [x % 256, y % 256, b]).toArray (by simp)) rfl)
  have K := Lib.hid (two_below' w (.cells #[.int .i8 x, .int .i8 y, .int .u8 b] 37) (.cells #[.int .u8 (x % 256), .int .u8 (y % 256), .int .u8 b] 5))
  go_enter Try.func94, Try.ntmps94
  go_wp2
  go_ret
  exact ⟨rfl, K.out⟩

/-- Two strings, one behind the other: their sum has a name. -/
theorem str_sum {a b c : List Int} {x y : ByteArray} (hx : x = strOfNums a) (hy : y = strOfNums b) (hc : a ++ b = c) (hl : a.length + b.length ≤ 1000000) : ∃ u : ByteArray, u = strOfNums c ∧ x ++ y = u ∧ ¬ 9223372036854775807 < x.size + y.size := by
  subst hx hy hc
  exact ⟨_, rfl, (Sx.str_append a b).symm, by rw [strOfNums_size, strOfNums_size]; omega⟩

set_option maxRecDepth 100000 in
set_option maxHeartbeats 4000000 in
theorem refputen_any (e : En.E) (A : Option Addr) (n c : Nat) (w : World) (hok : En.Ok e) (hty : ∀ i, i < 8 → Gm.tyIn (e.inp i)) (hn : n = e.evs.length) (hL : Lies w w.heap.size 4 A n (En.evCells e.evs)) :
    Calls Try.prog 44 #[.agg (En.cells e (.slice A n c))] w fun r w' => r = .returned (.string (strOfNums (En.put e))) ∧ Below w.heap.size w w' := by
  have hn16 := hok.count
  rw [← hn] at hn16
  have HN := Lib.hid hn
  have P0 := Lib.hid (Box.made w 72 (En.cells e (.slice A n c)))
  have K0 := Lib.hid (one_below w (.cells (En.cells e (.slice A n c)) 72))
  have hr0 := Lib.hid ((hL.below K0.out).wider K0.out.size)
  have hfr := hok.frame
  have hwf : IntKind.u64.wrap e.frame = e.frame := by rw [IntKind.wrap_u64]; omega
  have hwn : IntKind.u64.wrap (n : Int) = n := by rw [IntKind.wrap_u64]; omega
  have hf2 : e.frame ≤ 18446744073709551615 := by omega
  have hrm := En.row_mem _ _ hok.row
  have HP := Lib.hid (show En.put e = Im.bytesOf 4 e.frame ++ ((Im.bytesOf 1 e.evs.length ++ En.evsBytes e.evs) ++ (Im.bytesOf 1 (En.mask e.inp 8) ++ En.insBytes e.inp 8)) from rfl)
  rw [← HN.out] at HP
  have HRM := Lib.hid hrm
  clear hL hn hok hrm
  go_enter Try.func44, Try.ntmps44
  go_upto_region 1 with fail
  generalize hW0 : w.alloc (.cells (En.cells e (.slice A n c)) 72) = W0 at *
  clear hW0
  have z0 : ∀ q : Ext W0.heap.size W0, q.w.cell? ⟨w.heap.size, 0, none⟩ = some (.int .i64 e.frame) := fun q => q.cell P0.out.lt ((P0.out.cell 0).trans (En.cells_0 _ _))
  have z1 : ∀ q : Ext W0.heap.size W0, q.w.cell? ⟨w.heap.size, 1, none⟩ = some (.slice A n c) := fun q => q.cell P0.out.lt ((P0.out.cell 1).trans (En.cells_1 _ _))
  obtain ⟨s1, hs1⟩ : ∃ s, s = strOfNums (Im.bytesOf 4 e.frame) := ⟨_, rfl⟩
  obtain ⟨s2, hs2⟩ : ∃ s, s = strOfNums (Im.bytesOf 1 (n : Int)) := ⟨_, rfl⟩
  obtain ⟨s3, hs3, ha3, hc3⟩ := str_sum hs1 hs2 rfl (by rw [Im.bytesOf_len, Im.bytesOf_len]; omega)
  have cn1 := fun X => Lib.hid (refput_num 4 4 e.frame rfl X (by decide) ⟨hfr.1, hf2⟩)
  have cn2 := fun X => Lib.hid (refput_num 1 1 (n : Int) rfl X (by decide) ⟨by omega, by omega⟩)
  rw [← hs1] at cn1
  rw [← hs2] at cn2
  have HS3 := Lib.hid hs3
  clear hs1 hs2 hs3
  refine wp_region_ext W0.heap.size W0 (by kernel_rfl) (by kernel_rfl) (Below.refl _ _) ?_
  repeat (first | go_big_quiet_step ((go_at_call 81; first | with_reducible exact Calls.ext_of (Nat.le_refl _) (cn1 _).out | with_reducible exact Calls.ext_of (Nat.le_refl _) (cn2 _).out)))
  refine wpQuiet_nil ?_
  intro _ hw'
  obtain ⟨q0, hw''⟩ := hw'
  subst hw''
  have K1 := Lib.hid q0.h
  clear z0 z1 cn1 cn2
  go_wp2
  go_loopw [3, 4] (fun sv i wr => ∃ k : Nat, k ≤ n ∧ i = .int .i64 k ∧ sv = .string (strOfNums (Im.bytesOf 4 e.frame ++ Im.bytesOf 1 (n : Int) ++ En.evsBytes (e.evs.take k))) ∧ Below W0.heap.size W0 wr) (fun _ i _ => n - (intOf i).toNat)
  case atStart => exact ⟨0, by omega, rfl, by rw [HS3.out]; simp [En.evsBytes], K1.out⟩
  case round =>
    obtain ⟨k, hk, rfl, rfl, hb⟩ := hrel
    have p1 := ((P0.out.below hb P0.out.lt).cell 1).trans (En.cells_1 _ _)
    have HB := Lib.hid hb
    have KB := Lib.hid (K0.out.trans (hb.mono K0.out.size))
    by_cases hlt : k < n
    · have hk8 : (k : Int) < n := by omega
      have hkl : k < e.evs.length := by have := HN.out; omega
      obtain ⟨ad, rfl, hbl, e0, e1, e2, e3⟩ := evs_at (hr0.out.below hb) HN.out k hkl
      have hsn := En.evsBytes_snoc e.evs k hkl
      have hev := HRM.out e.evs[k] (List.getElem_mem hkl)
      generalize hv : e.evs[k] = v at e0 e1 e2 e3 hsn hev
      obtain ⟨vk, vs, vg, vp⟩ := v
      obtain ⟨o1, o2, o3, o4⟩ := hev
      dsimp only at e0 e1 e2 e3 o1 o2 o3 o4
      have sz := hb.size
      have ltA : ad.block < wr.heap.size := Nat.lt_of_lt_of_le hbl hb.size
      have ltP := (P0.out.below hb P0.out.lt).lt
      have hlen : (Im.bytesOf 4 e.frame ++ Im.bytesOf 1 (n : Int) ++ En.evsBytes (e.evs.take k)).length = 5 + 5 * k := by
        rw [List.length_append, List.length_append, Im.bytesOf_len, Im.bytesOf_len, En.evsBytes_len, List.length_take]; omega
      have HPRE := Lib.hid (show Im.bytesOf 4 e.frame ++ Im.bytesOf 1 (n : Int) ++ En.evsBytes (e.evs.take (k + 1)) = Im.bytesOf 4 e.frame ++ Im.bytesOf 1 (n : Int) ++ En.evsBytes (e.evs.take k) ++ Im.bytesOf 1 vk ++ Im.bytesOf 1 vs ++ Im.bytesOf 2 vg ++ Im.bytesOf 1 vp by rw [hsn]; unfold En.evBytes; simp only [List.append_assoc])
      generalize Im.bytesOf 4 e.frame ++ Im.bytesOf 1 (n : Int) ++ En.evsBytes (e.evs.take k) = pre at *
      obtain ⟨s0, hs0⟩ : ∃ s, s = strOfNums pre := ⟨_, rfl⟩
      obtain ⟨sa, hsa⟩ : ∃ s, s = strOfNums (Im.bytesOf 1 vk) := ⟨_, rfl⟩
      obtain ⟨sb, hsb⟩ : ∃ s, s = strOfNums (Im.bytesOf 1 vs) := ⟨_, rfl⟩
      obtain ⟨sc, hsc⟩ : ∃ s, s = strOfNums (Im.bytesOf 2 vg) := ⟨_, rfl⟩
      obtain ⟨sd, hsd⟩ : ∃ s, s = strOfNums (Im.bytesOf 1 vp) := ⟨_, rfl⟩
      obtain ⟨t1, ht1, ha1, hc1⟩ := str_sum hs0 hsa rfl (by rw [Im.bytesOf_len]; omega)
      obtain ⟨t2, ht2, ha2, hc2⟩ := str_sum ht1 hsb rfl (by rw [List.length_append, Im.bytesOf_len, Im.bytesOf_len]; omega)
      obtain ⟨t3, ht3, ha3', hc3'⟩ := str_sum ht2 hsc rfl (by rw [List.length_append, List.length_append, Im.bytesOf_len, Im.bytesOf_len, Im.bytesOf_len]; omega)
      obtain ⟨t4, ht4, ha4, hc4⟩ := str_sum ht3 hsd rfl (by rw [List.length_append, List.length_append, List.length_append, Im.bytesOf_len, Im.bytesOf_len, Im.bytesOf_len, Im.bytesOf_len]; omega)
      have cka := fun X => Lib.hid (refput_num 1 1 vk rfl X (by decide) ⟨by omega, by omega⟩)
      have cks := fun X => Lib.hid (refput_num 1 1 vs rfl X (by decide) ⟨by omega, by omega⟩)
      have ckg := fun X => Lib.hid (refput_num 2 2 vg rfl X (by decide) ⟨by omega, by omega⟩)
      have ckp := fun X => Lib.hid (refput_num 1 1 vp rfl X (by decide) ⟨by omega, by omega⟩)
      have hw1 : IntKind.u64.wrap vk = vk := by rw [IntKind.wrap_u64]; omega
      have hw2 : IntKind.u64.wrap vs = vs := by rw [IntKind.wrap_u64]; omega
      have hw3 : IntKind.u64.wrap vg = vg := by rw [IntKind.wrap_u64]; omega
      have hw4 : IntKind.u64.wrap vp = vp := by rw [IntKind.wrap_u64]; omega
      rw [← hs0]
      rw [← hsa] at cka
      rw [← hsb] at cks
      rw [← hsc] at ckg
      rw [← hsd] at ckp
      have HT4 := Lib.hid ht4
      clear hs0 hsa hsb hsc hsd ht1 ht2 ht3 ht4 hsn hb hv
      go_upto_region 6 with fail
      have Q1 := Lib.hid (Box.made wr 83 #[.int .i64 vk, .int .i64 vs, .int .i64 vg, .int .i64 vp])
      have K2 := Lib.hid (HB.out.alloc HB.out.size (.cells #[.int .i64 vk, .int .i64 vs, .int .i64 vg, .int .i64 vp] 83))
      generalize hW1 : wr.alloc (.cells #[.int .i64 vk, .int .i64 vs, .int .i64 vg, .int .i64 vp] 83) = W1 at *
      clear hW1 p1 e0 e1 e2 e3
      have z0 : ∀ q : Ext W1.heap.size W1, q.w.cell? ⟨wr.heap.size, 0, none⟩ = some (.int .i64 vk) := fun q => q.cell Q1.out.lt (Q1.out.cell 0)
      have z1 : ∀ q : Ext W1.heap.size W1, q.w.cell? ⟨wr.heap.size, 1, none⟩ = some (.int .i64 vs) := fun q => q.cell Q1.out.lt (Q1.out.cell 1)
      have z2 : ∀ q : Ext W1.heap.size W1, q.w.cell? ⟨wr.heap.size, 2, none⟩ = some (.int .i64 vg) := fun q => q.cell Q1.out.lt (Q1.out.cell 2)
      have z3 : ∀ q : Ext W1.heap.size W1, q.w.cell? ⟨wr.heap.size, 3, none⟩ = some (.int .i64 vp) := fun q => q.cell Q1.out.lt (Q1.out.cell 3)
      refine wp_region_ext W1.heap.size W1 (by kernel_rfl) (by kernel_rfl) (Below.refl _ _) ?_
      repeat (first | go_big_quiet_step ((go_at_call 81; first | with_reducible exact Calls.ext_of (Nat.le_refl _) (cka _).out | with_reducible exact Calls.ext_of (Nat.le_refl _) (cks _).out | with_reducible exact Calls.ext_of (Nat.le_refl _) (ckg _).out | with_reducible exact Calls.ext_of (Nat.le_refl _) (ckp _).out)))
      refine wpQuiet_nil ?_
      intro _ hw'
      obtain ⟨q1, hw''⟩ := hw'
      subst hw''
      have K3 := Lib.hid (K2.out.trans (q1.h.mono K2.out.size))
      clear z0 z1 z2 z3 cka cks ckg ckp
      go_wp2
      go_roundw
      case rel => exact ⟨k + 1, by omega, by go_num, by rw [HPRE.out, HT4.out], K3.out⟩
      case measure => simp [intOf]; omega
    · have hk8 : ¬ (k : Int) < n := by omega
      obtain rfl : k = n := by omega
      have htk : e.evs.take k = e.evs := List.take_of_length_le (by have := HN.out; omega)
      rw [htk]
      have hlen : (Im.bytesOf 4 e.frame ++ Im.bytesOf 1 (k : Int) ++ En.evsBytes e.evs).length = 5 + 5 * k := by
        rw [List.length_append, List.length_append, Im.bytesOf_len, Im.bytesOf_len, En.evsBytes_len]; have := HN.out; omega
      have HPUT := Lib.hid (show En.put e = Im.bytesOf 4 e.frame ++ Im.bytesOf 1 (k : Int) ++ En.evsBytes e.evs ++ Im.bytesOf 1 (En.mask e.inp 8) ++ En.insBytes e.inp 8 by rw [HP.out]; simp only [List.append_assoc])
      generalize Im.bytesOf 4 e.frame ++ Im.bytesOf 1 (k : Int) ++ En.evsBytes e.evs = pre at *
      obtain ⟨s0, hs0⟩ : ∃ s, s = strOfNums pre := ⟨_, rfl⟩
      rw [← hs0]
      have HS0 := Lib.hid hs0
      clear hs0 htk
      have PB := Lib.hid (P0.out.below hb P0.out.lt)
      clear hb
      go_wp2
      go_loopw [6, 7, 8] (fun mv sv i wq => ∃ j : Nat, j ≤ 8 ∧ i = .int .i64 j ∧ mv = .int .i64 (En.mask e.inp j : Nat) ∧ sv = .string (strOfNums (En.insBytes e.inp j)) ∧ Below wr.heap.size wr wq) (fun _ _ i _ => 8 - (intOf i).toNat)
      case atStart => exact ⟨0, by omega, rfl, rfl, rfl, Below.refl _ _⟩
      case round =>
        obtain ⟨j, hj, rfl, rfl, rfl, hb⟩ := hrel
        have PQ := Lib.hid (PB.out.below hb PB.out.lt)
        have HQ := Lib.hid hb
        by_cases hlt8 : j < 8
        · have hj8 : (j : Int) < 8 := by omega
          have e0 := (PQ.out.cell (2 + j * 3)).trans (En.cells_in e _ j 0 hlt8 (by omega))
          have e1 := (PQ.out.cell (2 + j * 3 + 1)).trans (En.cells_in e _ j 1 hlt8 (by omega))
          have e2 := (PQ.out.cell (2 + j * 3 + 2)).trans (En.cells_in e _ j 2 hlt8 (by omega))
          have hml := En.mask_lt e.inp j
          have hp8 : 2 ^ j < 2 ^ 8 := Nat.pow_lt_pow_right (by decide) hlt8
          have hms : En.mask e.inp (j + 1) = En.mask e.inp j + (if En.zero (e.inp j) = true then 0 else 2 ^ j) := rfl
          have his : En.insBytes e.inp (j + 1) = En.insBytes e.inp j ++ (if En.zero (e.inp j) then [] else En.inBytes (e.inp j)) := rfl
          have hil := En.insBytes_le e.inp j
          have hti := hty j hlt8
          obtain ⟨p, hp⟩ : ∃ p, p = e.inp j := ⟨_, rfl⟩
          rw [← hp] at e0 e1 e2 hms his hti
          obtain ⟨x, y, u⟩ := p
          have cpi := fun X => Lib.hid (refputin_any ⟨x, y, u⟩ X hti)
          simp only [Gm.In.cells, List.getElem?_cons_zero, List.getElem?_cons_succ, Nat.add_zero] at e0 e1 e2 cpi
          have hneq := fun W => in_neq x y u W
          obtain ⟨m, hm⟩ : ∃ m, m = En.mask e.inp j := ⟨_, rfl⟩
          rw [← hm] at hml hms ⊢
          have hor := En.or_bit ⟨m, by omega⟩ ⟨j, hlt8⟩ hml
          dsimp only at hor
          rw [IntWalk.i64_left] at hor
          obtain ⟨s1, hs1⟩ : ∃ s, s = strOfNums (En.insBytes e.inp j) := ⟨_, rfl⟩
          rw [← hs1]
          obtain ⟨s2, hs2⟩ : ∃ s, s = strOfNums (En.inBytes ⟨x, y, u⟩) := ⟨_, rfl⟩
          obtain ⟨s4, hs4, ha4, hc4⟩ := str_sum hs1 hs2 rfl (by rw [En.inBytes_len]; omega)
          rw [← hs2] at cpi
          have ltQ := PQ.out.lt
          have hwj : IntKind.u64.wrap (j : Int) = j := by rw [IntKind.wrap_u64]; omega
          cases hz : En.zero ⟨x, y, u⟩
          · rw [hz] at hms his hneq
            simp only [Bool.false_eq_true, if_false] at hms his
            have HMS := Lib.hid hms
            have HIS := Lib.hid his
            have HS4 := Lib.hid hs4
            clear hms his hz hs1 hs2 hs4 hp hm hb hil hml
            go_wp2_with (go_at_call 94; ((with_reducible refine ((cpi _).out).mono ?_); rintro r w3 ⟨rfl, hb⟩; have K5 := Lib.hid (HQ.out.trans (hb.mono HQ.out.size)); clear hb))
            go_roundw
            case rel => exact ⟨j + 1, by omega, by go_num, by rw [HMS.out]; push_cast; rfl, by rw [HIS.out, HS4.out], K5.out⟩
            case measure => simp [intOf]; omega
          · rw [hz] at hms his hneq
            simp only [if_true, Nat.add_zero, List.append_nil] at hms his
            have HMS := Lib.hid hms
            have HIS := Lib.hid his
            have HS1 := Lib.hid hs1
            clear hms his hz hs1 hs2 hs4 hp hm hb hil hml
            go_wp2
            go_roundw
            case rel => exact ⟨j + 1, by omega, by go_num, by rw [HMS.out], by rw [HIS.out, HS1.out], HQ.out⟩
            case measure => simp [intOf]; omega
        · have hj8 : ¬ (j : Int) < 8 := by omega
          obtain rfl : j = 8 := by omega
          have hml := En.mask_lt e.inp 8
          have hil := En.insBytes_le e.inp 8
          generalize En.mask e.inp 8 = m at *
          generalize En.insBytes e.inp 8 = ib at *
          have cnm := fun X => Lib.hid (refput_num 1 1 (m : Int) rfl X (by decide) ⟨by omega, by omega⟩)
          have hwm : IntKind.u64.wrap (m : Int) = m := by rw [IntKind.wrap_u64]; omega
          obtain ⟨s1, hs1⟩ : ∃ s, s = strOfNums (Im.bytesOf 1 (m : Int)) := ⟨_, rfl⟩
          obtain ⟨s2, hs2⟩ : ∃ s, s = strOfNums ib := ⟨_, rfl⟩
          obtain ⟨s4, hs4, ha4, hc4⟩ := str_sum HS0.out hs1 rfl (by rw [Im.bytesOf_len]; omega)
          obtain ⟨s5, hs5, ha5, hc5⟩ := str_sum hs4 hs2 rfl (by rw [List.length_append, Im.bytesOf_len]; omega)
          rw [← hs1] at cnm
          rw [← hs2]
          have HS5 := Lib.hid hs5
          clear hs1 hs2 hs4 hs5 hb
          have KZ := Lib.hid (KB.out.trans (HQ.out.mono KB.out.size))
          go_wp2_with (go_at_call 81; ((with_reducible refine ((cnm _).out).mono ?_); rintro r w3 ⟨rfl, hb⟩; have K5 := Lib.hid (KZ.out.trans (hb.mono KZ.out.size)); clear hb))
          go_ret
          exact ⟨by rw [HPUT.out, ← HS5.out]; rfl, K5.out⟩
end Go.Proofs.Ytbihnmingedgfaa
