/-
Several texts in one: Zk Zo Za Yp Zq.
-/
import Derived.Test.YtgmlbimgcifenaaVp8
namespace Ms
def isKind (k : Int) : Bool := decide (1 ≤ k) && decide (k ≤ 14)
end Ms
namespace Go.Proofs.Ytgmlbimgcifenaa
open Go.RowKit Go.Shelf
set_option linter.unusedVariables false
set_option linter.unusedSimpArgs false

theorem partsof_1 (w : World) : Calls Try.prog 34 #[.int .i64 1] w fun e w' => e = .returned (.tuple #[.int .i64 0, .bool true]) ∧ w = w' := by
  go_enter Try.func34, Try.ntmps34
  go_wp2
  go_ret2
  exact ⟨rfl, rfl⟩
theorem partsof_2 (w : World) : Calls Try.prog 34 #[.int .i64 2] w fun e w' => e = .returned (.tuple #[.int .i64 7, .bool true]) ∧ w = w' := by
  go_enter Try.func34, Try.ntmps34
  go_wp2
  go_ret2
  exact ⟨rfl, rfl⟩
theorem partsof_3 (w : World) : Calls Try.prog 34 #[.int .i64 3] w fun e w' => e = .returned (.tuple #[.int .i64 8, .bool true]) ∧ w = w' := by
  go_enter Try.func34, Try.ntmps34
  go_wp2
  go_ret2
  exact ⟨rfl, rfl⟩
theorem partsof_4 (w : World) : Calls Try.prog 34 #[.int .i64 4] w fun e w' => e = .returned (.tuple #[.int .i64 263, .bool true]) ∧ w = w' := by
  go_enter Try.func34, Try.ntmps34
  go_wp2
  go_ret2
  exact ⟨rfl, rfl⟩
theorem partsof_5 (w : World) : Calls Try.prog 34 #[.int .i64 5] w fun e w' => e = .returned (.tuple #[.int .i64 516, .bool true]) ∧ w = w' := by
  go_enter Try.func34, Try.ntmps34
  go_wp2
  go_ret2
  exact ⟨rfl, rfl⟩
theorem partsof_6 (w : World) : Calls Try.prog 34 #[.int .i64 6] w fun e w' => e = .returned (.tuple #[.int .i64 4, .bool true]) ∧ w = w' := by
  go_enter Try.func34, Try.ntmps34
  go_wp2
  go_ret2
  exact ⟨rfl, rfl⟩
theorem partsof_7 (w : World) : Calls Try.prog 34 #[.int .i64 7] w fun e w' => e = .returned (.tuple #[.int .i64 1204, .bool true]) ∧ w = w' := by
  go_enter Try.func34, Try.ntmps34
  go_wp2
  go_ret2
  exact ⟨rfl, rfl⟩
theorem partsof_8 (w : World) : Calls Try.prog 34 #[.int .i64 8] w fun e w' => e = .returned (.tuple #[.int .i64 80, .bool true]) ∧ w = w' := by
  go_enter Try.func34, Try.ntmps34
  go_wp2
  go_ret2
  exact ⟨rfl, rfl⟩
theorem partsof_9 (w : World) : Calls Try.prog 34 #[.int .i64 9] w fun e w' => e = .returned (.tuple #[.int .i64 0, .bool true]) ∧ w = w' := by
  go_enter Try.func34, Try.ntmps34
  go_wp2
  go_ret2
  exact ⟨rfl, rfl⟩
theorem partsof_10 (w : World) : Calls Try.prog 34 #[.int .i64 10] w fun e w' => e = .returned (.tuple #[.int .i64 8, .bool true]) ∧ w = w' := by
  go_enter Try.func34, Try.ntmps34
  go_wp2
  go_ret2
  exact ⟨rfl, rfl⟩
theorem partsof_11 (w : World) : Calls Try.prog 34 #[.int .i64 11] w fun e w' => e = .returned (.tuple #[.int .i64 16, .bool true]) ∧ w = w' := by
  go_enter Try.func34, Try.ntmps34
  go_wp2
  go_ret2
  exact ⟨rfl, rfl⟩
theorem partsof_12 (w : World) : Calls Try.prog 34 #[.int .i64 12] w fun e w' => e = .returned (.tuple #[.int .i64 16, .bool true]) ∧ w = w' := by
  go_enter Try.func34, Try.ntmps34
  go_wp2
  go_ret2
  exact ⟨rfl, rfl⟩
theorem partsof_13 (w : World) : Calls Try.prog 34 #[.int .i64 13] w fun e w' => e = .returned (.tuple #[.int .i64 132, .bool true]) ∧ w = w' := by
  go_enter Try.func34, Try.ntmps34
  go_wp2
  go_ret2
  exact ⟨rfl, rfl⟩
theorem partsof_14 (w : World) : Calls Try.prog 34 #[.int .i64 14] w fun e w' => e = .returned (.tuple #[.int .i64 0, .bool true]) ∧ w = w' := by
  go_enter Try.func34, Try.ntmps34
  go_wp2
  go_ret2
  exact ⟨rfl, rfl⟩
theorem partsof_no (k : Int) (w : World) (h : ¬ (1 ≤ k ∧ k ≤ 14)) : Calls Try.prog 34 #[.int .i64 k] w fun e w' => e = .returned (.tuple #[.int .i64 0, .bool false]) ∧ w = w' := by
  have n1 : (k == 1) = false := by simp; omega
  have n2 : (k == 2) = false := by simp; omega
  have n3 : (k == 3) = false := by simp; omega
  have n4 : (k == 4) = false := by simp; omega
  have n5 : (k == 5) = false := by simp; omega
  have n6 : (k == 6) = false := by simp; omega
  have n7 : (k == 7) = false := by simp; omega
  have n8 : (k == 8) = false := by simp; omega
  have n9 : (k == 9) = false := by simp; omega
  have n10 : (k == 10) = false := by simp; omega
  have n11 : (k == 11) = false := by simp; omega
  have n12 : (k == 12) = false := by simp; omega
  have n13 : (k == 13) = false := by simp; omega
  have n14 : (k == 14) = false := by simp; omega
  clear h
  go_enter Try.func34, Try.ntmps34
  go_wp2
  go_ret2
  exact ⟨rfl, rfl⟩
theorem partsof_any (k : Int) (w : World) : Calls Try.prog 34 #[.int .i64 k] w fun e w' => e = .returned (.tuple #[.int .i64 (Ms.own k), .bool (Ms.isKind k)]) ∧ w = w' := by
  by_cases h : 1 ≤ k ∧ k ≤ 14
  · have hc : k = 1 ∨ k = 2 ∨ k = 3 ∨ k = 4 ∨ k = 5 ∨ k = 6 ∨ k = 7 ∨ k = 8 ∨ k = 9 ∨ k = 10 ∨ k = 11 ∨ k = 12 ∨ k = 13 ∨ k = 14 := by omega
    rcases hc with rfl | rfl | rfl | rfl | rfl | rfl | rfl | rfl | rfl | rfl | rfl | rfl | rfl | rfl
    · exact partsof_1 w
    · exact partsof_2 w
    · exact partsof_3 w
    · exact partsof_4 w
    · exact partsof_5 w
    · exact partsof_6 w
    · exact partsof_7 w
    · exact partsof_8 w
    · exact partsof_9 w
    · exact partsof_10 w
    · exact partsof_11 w
    · exact partsof_12 w
    · exact partsof_13 w
    · exact partsof_14 w
  · have e1 : Ms.isKind k = false := by unfold Ms.isKind; simp; omega
    have e2 : Ms.own k = 0 := by
      have : Ms.has k = [] := by unfold Ms.has; repeat' split
                                 all_goals first | omega | rfl
      unfold Ms.own
      rw [this]
      rfl
    rw [e1, e2]
    exact partsof_no k w h

set_option maxRecDepth 100000 in
set_option maxHeartbeats 4000000 in
theorem laymsg_w (q : Ms.S) (P : Nat) (bs : List Int) (b Bb Bp : Nat) (w : World) (hT : Ms.Ty q.m) (hok : Ms.Ok q.m) (hbB : b ≤ Bb) (hbP : b ≤ P) (hbw : b ≤ w.heap.size) (h : Wr b Bb Bp bs w) (hl : bs.length ≤ 900) (hP : Box w P 29 q.cells) (hL : LiesM w b q) :
    Calls Try.prog 31 #[.func (.func 54) #[] #[.pointer (some ⟨Bp, 0, none⟩)], .pointer (some ⟨P, 0, none⟩)] w fun e w' => e = .returned (.tuple #[]) ∧ Wr b Bb Bp (bs ++ Ms.body q.m) w' ∧ Below b w w' ∧ Kb P w w' ∧ VarK Bb P w w' := by
  have bd := hok.bd
  have k1 : 1 ≤ q.m.kind := by
    have := hok.n1
    unfold Ms.no1 at this
    simp only [Bool.or_eq_false_iff, decide_eq_false_iff_not] at this
    omega
  have hkind : Ms.isKind q.m.kind = true := by unfold Ms.isKind; have := bd.kind; simp; omega
  have hw0 : IntKind.u64.wrap q.m.kind = q.m.kind := by have := bd.kind; rw [IntKind.wrap_u64]; omega
  have c0 := fun X (hX : Wr b Bb Bp (bs) X) hB => Lib.hid (layint_w 1 1 rfl q.m.kind P 0 29 q.cells _ b Bb Bp X (by decide) (by have := bd.kind; omega) hbB hX (by (try simp only [List.length_append, Im.bytesOf_len]); omega) hB rfl (by decide) (by decide) (by decide))
  rw [hw0] at c0
  have hw1 : IntKind.u64.wrap q.m.frm = q.m.frm := by have := bd.frm; rw [IntKind.wrap_u64]; omega
  have c1 := fun X (hX : Wr b Bb Bp (bs ++ Im.bytesOf 1 q.m.kind) X) hB => Lib.hid (layint_w 1 1 rfl q.m.frm P 1 29 q.cells _ b Bb Bp X (by decide) (by have := bd.frm; omega) hbB hX (by (try simp only [List.length_append, Im.bytesOf_len]); omega) hB rfl (by decide) (by decide) (by decide))
  rw [hw1] at c1
  have hw2 : IntKind.u64.wrap q.m.serial = q.m.serial := by have := hT.serial; rw [IntKind.wrap_u64]; omega
  have c2 := fun X (hX : Wr b Bb Bp (bs ++ Im.bytesOf 1 q.m.kind ++ Im.bytesOf 1 q.m.frm) X) hB => Lib.hid (layu16_w 2 2 rfl q.m.serial P 2 29 q.cells _ b Bb Bp X (by decide) (by have := hT.serial; omega) hbB hX (by (try simp only [List.length_append, Im.bytesOf_len]); omega) hB rfl (by decide) (by decide) (by decide))
  rw [hw2] at c2
  have hw3 : IntKind.u64.wrap q.m.ack = q.m.ack := by have := hT.ack; rw [IntKind.wrap_u64]; omega
  have c3 := fun X (hX : Wr b Bb Bp (bs ++ Im.bytesOf 1 q.m.kind ++ Im.bytesOf 1 q.m.frm ++ Im.bytesOf 2 q.m.serial) X) hB => Lib.hid (layu16_w 2 2 rfl q.m.ack P 3 29 q.cells _ b Bb Bp X (by decide) (by have := hT.ack; omega) hbB hX (by (try simp only [List.length_append, Im.bytesOf_len]); omega) hB rfl (by decide) (by decide) (by decide))
  rw [hw3] at c3
  have hw4 : IntKind.u64.wrap q.m.seen = q.m.seen := by have := hT.seen; rw [IntKind.wrap_u64]; omega
  have c4 := fun X (hX : Wr b Bb Bp (bs ++ Im.bytesOf 1 q.m.kind ++ Im.bytesOf 1 q.m.frm ++ Im.bytesOf 2 q.m.serial ++ Im.bytesOf 2 q.m.ack) X) hB => Lib.hid (layu32_w 4 4 rfl q.m.seen P 4 29 q.cells _ b Bb Bp X (by decide) (by have := hT.seen; omega) hbB hX (by (try simp only [List.length_append, Im.bytesOf_len]); omega) hB rfl (by decide) (by decide) (by decide))
  rw [hw4] at c4
  have c5 := fun X hS (hX : Wr b Bb Bp (bs ++ Im.bytesOf 1 q.m.kind ++ Im.bytesOf 1 q.m.frm ++ Im.bytesOf 2 q.m.serial ++ Im.bytesOf 2 q.m.ack ++ Im.bytesOf 4 q.m.seen) X) hB hLX => Lib.hid (layparts_w q P _ b Bb Bp X hT hok hbB hbP hS hX (by simp only [List.length_append, Im.bytesOf_len]; omega) hB hLX)
  have cp := fun X => Lib.hid (partsof_any q.m.kind X)
  rw [hkind] at cp
  have HB := Lib.hid (show bs ++ Ms.body q.m = _ from congrArg (bs ++ ·) (Ms.body_sel q.m))
  have HH := Lib.hid (show Ms.head q.m = Im.bytesOf 1 q.m.kind ++ Im.bytesOf 1 q.m.frm ++ Im.bytesOf 2 q.m.serial ++ Im.bytesOf 2 q.m.ack ++ Im.bytesOf 4 q.m.seen from rfl)
  have I0 := Lib.hid h
  have P0 := Lib.hid hP
  have IV0 := Lib.hid h.isvar
  have L0 := Lib.hid hL
  have K0 := Lib.hid (Kb.refl (B := P) w)
  have V0 := Lib.hid (VarK.refl (Bb := Bb) (P := P) w)
  have D0 := Lib.hid (Below.refl b w)
  have ltP := hP.lt
  have p0k : ∀ X, Box X P 29 q.cells → X.cell? ⟨P, 0, none⟩ = some (.int .i64 q.m.kind) := fun X hB => hB.cell 0
  clear h hP hL hok hT bd k1 hkind hw0 hw1 hw2 hw3 hw4
  go_enter Try.func31, Try.ntmps31
  go_upto_region 5 with (first | (go_at_call 51; first | ((with_reducible refine ((c0 _ I0.out P0.out).out).mono ?_); rintro e w1 ⟨rfl, hI, hK⟩; have P1 := Lib.hid (P0.out.wrote' hK IV0.out (by decide) (by decide)); have IV1 := Lib.hid hI.isvar; have I1 := Lib.hid hI; have D1 := Lib.hid (D0.out.trans (hK.to (Nat.le_trans hbw D0.out.size))); have K1 := Lib.hid (K0.out.wrote hK IV0.out); have V1 := Lib.hid (V0.out.wrote hK); clear hI hK) | ((with_reducible refine ((c1 _ I1.out P1.out).out).mono ?_); rintro e w2 ⟨rfl, hI, hK⟩; have P2 := Lib.hid (P1.out.wrote' hK IV1.out (by decide) (by decide)); have IV2 := Lib.hid hI.isvar; have I2 := Lib.hid hI; have D2 := Lib.hid (D1.out.trans (hK.to (Nat.le_trans hbw D1.out.size))); have K2 := Lib.hid (K1.out.wrote hK IV1.out); have V2 := Lib.hid (V1.out.wrote hK); clear hI hK)) | (go_at_call 52; first | ((with_reducible refine ((c2 _ I2.out P2.out).out).mono ?_); rintro e w3 ⟨rfl, hI, hK⟩; have P3 := Lib.hid (P2.out.wrote' hK IV2.out (by decide) (by decide)); have IV3 := Lib.hid hI.isvar; have I3 := Lib.hid hI; have D3 := Lib.hid (D2.out.trans (hK.to (Nat.le_trans hbw D2.out.size))); have K3 := Lib.hid (K2.out.wrote hK IV2.out); have V3 := Lib.hid (V2.out.wrote hK); clear hI hK) | ((with_reducible refine ((c3 _ I3.out P3.out).out).mono ?_); rintro e w4 ⟨rfl, hI, hK⟩; have P4 := Lib.hid (P3.out.wrote' hK IV3.out (by decide) (by decide)); have IV4 := Lib.hid hI.isvar; have I4 := Lib.hid hI; have D4 := Lib.hid (D3.out.trans (hK.to (Nat.le_trans hbw D3.out.size))); have K4 := Lib.hid (K3.out.wrote hK IV3.out); have V4 := Lib.hid (V3.out.wrote hK); clear hI hK)) | (go_at_call 33; ((with_reducible refine ((c4 _ I4.out P4.out).out).mono ?_); rintro e w5 ⟨rfl, hI, hK⟩; have P5 := Lib.hid (P4.out.wrote' hK IV4.out (by decide) (by decide)); have IV5 := Lib.hid hI.isvar; have I5 := Lib.hid hI; have D5 := Lib.hid (D4.out.trans (hK.to (Nat.le_trans hbw D4.out.size))); have K5 := Lib.hid (K4.out.wrote hK IV4.out); have V5 := Lib.hid (V4.out.wrote hK); clear hI hK)))
  have k5 := p0k w5 P5.out
  go_wp2_with (first | (go_at_call 34; ((with_reducible refine ((cp _).out).mono ?_); rintro e wp ⟨rfl, rfl⟩)) | (go_at_call 30; ((with_reducible refine (need_yes _ _).mono ?_); rintro r wn ⟨rfl, rfl⟩)) | (go_at_call 53; ((with_reducible refine ((c5 _ (Nat.le_trans hbw D5.out.size) I5.out P5.out ⟨L0.out.ins.below D5.out, L0.out.log.below D5.out, L0.out.data.below D5.out, L0.out.fi, L0.out.fl, L0.out.fd⟩).out).mono ?_); rintro e w6 ⟨rfl, hI, hB, hK, hVK⟩; have V6 := Lib.hid (V5.out.trans hVK); have I6 := Lib.hid hI; have D6 := Lib.hid (D5.out.trans hB); have K6 := Lib.hid (K5.out.trans hK); clear hI hB hK hVK)))
  go_end0
  refine ⟨rfl, ?_, D6.out, K6.out, V6.out⟩
  have h6 := I6.out
  rw [HB.out, HH.out]
  simp only [List.append_assoc] at h6 ⊢
  exact h6
end Go.Proofs.Ytgmlbimgcifenaa
namespace Ms
open Go
noncomputable def insB (m : M) : Bool := @decide (∀ k (h : k < m.ins.length), inB m.ins[k] = true) (Classical.propDecidable _)
noncomputable def logOkB (m : M) : Bool := @decide (∀ k (h : k < m.log.length), En.Ok m.log[k].e ∧ m.log[k].e.frame = m.frame + k) (Classical.propDecidable _)
theorem insB_iff {m : M} : insB m = true ↔ ∀ k (h : k < m.ins.length), inB m.ins[k] = true := by unfold insB; exact @decide_eq_true_iff _ (Classical.propDecidable _)
theorem logOkB_iff {m : M} : logOkB m = true ↔ ∀ k (h : k < m.log.length), En.Ok m.log[k].e ∧ m.log[k].e.frame = m.frame + k := by unfold logOkB; exact @decide_eq_true_iff _ (Classical.propDecidable _)
theorem insB_no {m : M} (h : ¬ ∀ k (h : k < m.ins.length), inB m.ins[k] = true) : false = insB m := by
  cases hb : insB m
  · rfl
  · exact absurd (insB_iff.1 hb) h
theorem logOkB_no {m : M} (h : ¬ ∀ k (h : k < m.log.length), En.Ok m.log[k].e ∧ m.log[k].e.frame = m.frame + k) : false = logOkB m := by
  cases hb : logOkB m
  · rfl
  · exact absurd (logOkB_iff.1 hb) h
def mayW (m : M) : Bool → Bool → Bool := fun ib lb => ((((((Ms.isKind m.kind) && (decide (0 ≤ m.frm))) && (decide (m.frm < 12))) && (Ms.mayP (Ms.own m.kind) m)) && (ib)) && (lb))
end Ms
namespace Go.Proofs.Ytgmlbimgcifenaa
open Go.RowKit Go.Shelf
set_option linter.unusedVariables false
set_option linter.unusedSimpArgs false

theorem in_at3 {w : World} {B n : Nat} {A : Option Addr} {l : List Gm.In} (h : Lies w B 3 A n (Gm.inCells l)) (hn : n = l.length) (k : Nat) (hk : k < l.length) :
    ∃ ad, A = some ad ∧ ad.block < B ∧ w.cell? (ad.add (k * 3)) = some (.int .i8 l[k].x) ∧ w.cell? ⟨(ad.add (k * 3)).block, (ad.add (k * 3)).off + 1, none⟩ = some (.int .i8 l[k].y) ∧ w.cell? ⟨(ad.add (k * 3)).block, (ad.add (k * 3)).off + 2, none⟩ = some (.int .u8 l[k].b) := by
  obtain ⟨ad, rfl, hb⟩ := h.start (by omega)
  have hc := h.cell ad rfl (by omega)
  have hj : ∀ j v, j < 3 → l[k].cells[j]? = some v → w.cell? ((ad.add (k * 3)).add j) = some v := fun j v hj hv => by
    rw [add_twice]
    exact hc _ v (by rw [Gm.inCells_at l k j hk hj, hv])
  exact ⟨ad, rfl, hb, hj 0 _ (by decide) rfl, hj 1 _ (by decide) rfl, hj 2 _ (by decide) rfl⟩

set_option maxHeartbeats 2000000 in
theorem mayinputs_any (m : Ms.M) (A : Option Addr) (c : Nat) (w : World) (fi : m.ins.length ≤ maxLen) (hT : ∀ p ∈ m.ins, Gm.tyIn p) (hL : Lies w w.heap.size 3 A m.ins.length (Gm.inCells m.ins)) :
    Calls Try.prog 36 #[.slice A m.ins.length c] w fun e w' => e = .returned (.bool (Ms.insB m)) ∧ Below w.heap.size w w' := by
  obtain ⟨r, hr⟩ : ∃ r, r = Ms.insB m := ⟨_, rfl⟩
  rw [← hr]
  have HR := Lib.hid hr
  unfold maxLen at fi
  obtain ⟨n, hn⟩ : ∃ n, n = m.ins.length := ⟨_, rfl⟩
  rw [← hn] at hL fi ⊢
  have HN := Lib.hid hn
  clear hr hn hT
  go_enter Try.func36, Try.ntmps36
  go_wp2
  go_loopw [7] (fun i wr => ∃ k : Nat, k ≤ n ∧ i = .int .i64 k ∧ (∀ j (h : j < m.ins.length), j < k → Ms.inB m.ins[j] = true) ∧ Below w.heap.size w wr) (fun i _ => n - (intOf i).toNat)
  case atStart => exact ⟨0, by omega, rfl, fun j h h' => by omega, Below.refl _ _⟩
  case round =>
    obtain ⟨k, hk, rfl, hall, hb⟩ := hrel
    by_cases hlt : k < n
    · have hk8 : (k : Int) < n := by omega
      have hkl : k < m.ins.length := by have := HN.out; omega
      obtain ⟨ad, rfl, hbl, e0, e1, e2⟩ := in_at3 (hL.below hb) HN.out k hkl
      have HV := Lib.hid (show Ms.inB m.ins[k] = decide (-127 ≤ m.ins[k].x ∧ -127 ≤ m.ins[k].y) from rfl)
      generalize hv : m.ins[k] = v at e0 e1 e2 HV
      obtain ⟨vx, vy, vb⟩ := v
      dsimp only at e0 e1 e2
      have HVV := Lib.hid hv
      have HA := Lib.hid hall
      have HB := Lib.hid hb
      have sz := hb.size
      have ltA : ad.block < wr.heap.size := by omega
      have cm := fun X => Lib.hid (stickmay_any vx vy vb X)
      by_cases hev : -127 ≤ vx ∧ -127 ≤ vy
      · rw [decide_eq_true hev] at cm
        have HE := Lib.hid hev
        clear hev hall hb hL hv
        go_wp2_with (go_at_call 56; ((with_reducible refine ((cm _).out).mono ?_); rintro e w1 ⟨rfl, hb1⟩; have K1 := Lib.hid ((HB.out.alloc sz _).trans (hb1.mono (by simp <;> omega))); clear hb1))
        go_roundw
        case rel => exact ⟨k + 1, by omega, by go_num, fun j h h' => by
          by_cases e : j = k
          · subst e; rw [HVV.out, HV.out]; exact decide_eq_true HE.out
          · exact HA.out j h (by omega), K1.out⟩
        case measure => simp [intOf]; omega
      · rw [decide_eq_false hev] at cm
        have HE := Lib.hid hev
        clear hev hall hb hL hv
        go_wp2_with (go_at_call 56; ((with_reducible refine ((cm _).out).mono ?_); rintro e w1 ⟨rfl, hb1⟩; have K1 := Lib.hid ((HB.out.alloc sz _).trans (hb1.mono (by simp <;> omega))); clear hb1))
        go_ret
        exact ⟨ret_bool (by rw [HR.out]; exact Ms.insB_no fun h => by have := h k hkl; rw [HVV.out, HV.out] at this; exact HE.out (of_decide_eq_true this)), K1.out⟩
    · have hk8 : ¬ (k : Int) < n := by omega
      obtain rfl : k = n := by omega
      have HA := Lib.hid hall
      have HB := Lib.hid hb
      clear hall hb hL
      go_wp2
      go_ret
      exact ⟨ret_bool (by rw [HR.out]; exact (Ms.insB_iff.2 fun j h => HA.out j h (by have := HN.out; omega)).symm), HB.out⟩

set_option maxRecDepth 100000 in
set_option maxHeartbeats 4000000 in
theorem maylog_any (m : Ms.M) (A : Option Addr) (c : Nat) (w : World) (hf : En.i64 m.frame) (fl : m.log.length ≤ maxLen) (hL : LiesS w w.heap.size A m.log.length m.log) :
    Calls Try.prog 37 #[.int .i64 m.frame, .slice A m.log.length c] w fun e w' => e = .returned (.bool (Ms.logOkB m)) ∧ Below w.heap.size w w' := by
  obtain ⟨r, hr⟩ : ∃ r, r = Ms.logOkB m := ⟨_, rfl⟩
  rw [← hr]
  have HR := Lib.hid hr
  unfold maxLen at fl
  obtain ⟨n, hn⟩ : ∃ n, n = m.log.length := ⟨_, rfl⟩
  rw [← hn] at hL fl ⊢
  have HN := Lib.hid hn
  obtain ⟨f, hfr⟩ : ∃ f, f = m.frame := ⟨_, rfl⟩
  rw [← hfr] at hf ⊢
  have HF := Lib.hid hfr
  have HFT := Lib.hid hf
  have HLX := Lib.hid hL
  clear hr hn hfr hf hL
  go_enter Try.func37, Try.ntmps37
  go_wp2
  go_loopw [5, 9] (fun _ i wr => ∃ k : Nat, k ≤ n ∧ i = .int .i64 k ∧ (∀ j (h : j < m.log.length), j < k → En.Ok m.log[j].e ∧ m.log[j].e.frame = f + j) ∧ Below w.heap.size w wr) (fun _ i _ => n - (intOf i).toNat)
  case atStart => exact ⟨0, by omega, rfl, fun j h h' => by omega, Below.refl _ _⟩
  case round =>
    obtain ⟨k, hk, rfl, hall, hb⟩ := hrel
    by_cases hlt : k < n
    · have hk8 : (k : Int) < n := by omega
      have hkl : k < m.log.length := by have := HN.out; omega
      have hwrap : IntKind.i64.wrap (f + (k : Int)) = f + k := by
        have h1 := HFT.out
        unfold En.i64 at h1
        by_cases h0 : k = 0
        · subst h0; rw [IntKind.wrap_i64]; omega
        · have a := hall 0 (by omega) (by omega)
          have b := hall (k - 1) (by omega) (by omega)
          have a1 := a.1.frame
          have b1 := b.1.frame
          rw [a.2] at a1
          rw [b.2] at b1
          rw [IntKind.wrap_i64]
          omega
      obtain ⟨ad, hA, hbl, hcell⟩ := (HLX.out.below hb).at k hkl
      have he := (HLX.out.below hb).each m.log[k] (List.getElem_mem hkl)
      have hfew := HLX.out.few m.log[k] (List.getElem_mem hkl)
      obtain ⟨q, hq⟩ : ∃ q, q = m.log[k] := ⟨_, rfl⟩
      rw [← hq] at hcell he hfew
      have HQ := Lib.hid hq.symm
      have hlen : q.cells.length = 26 := En.S.cells_len q
      have HAll := Lib.hid hall
      have HB := Lib.hid hb
      have sz := hb.size
      subst hA
      have ltA : ad.block < wr.heap.size := by omega
      have q0 : (En.cells q.e q.sl)[0]? = some (.int .i64 q.e.frame) := En.cells_0 _ _
      have EB := Lib.hid (Box.made wr 53 (En.cells q.e q.sl))
      have EK := Lib.hid (HB.out.alloc sz (.cells (En.cells q.e q.sl) 53))
      have eb0 : (wr.alloc (.cells (En.cells q.e q.sl) 53)).cell? ⟨wr.heap.size, 0, none⟩ = some (.int .i64 q.e.frame) := (EB.out.cell 0).trans q0
      have cm := Lib.hid (enmay_any q.e q.adr q.e.evs.length q.cap (wr.alloc (.cells (En.cells q.e q.sl) 53)) rfl hfew (((he.below (Below.refl _ _)).below (EK.out.mono (Nat.le_refl _) |> fun _ => (one_below wr (.cells (En.cells q.e q.sl) 53)).mono sz)).wider (by simp; omega)))
      rw [show Value.slice q.adr q.e.evs.length q.cap = q.sl from rfl] at cm
      obtain ⟨z, hz⟩ : ∃ z, z = En.cells q.e q.sl := ⟨_, rfl⟩
      have hqz : q.cells.toArray = z := by rw [hz]; exact En.S.cells_arr q
      have HZ := Lib.hid hz
      by_cases hfe : q.e.frame = f + (k : Int)
      · by_cases hok : En.Ok q.e
        · rw [decide_eq_true hok] at cm
          have HO := Lib.hid hok
          have HFE := Lib.hid hfe
          have fe : (q.e.frame != f + (k : Int)) = false := by rw [hfe]; simp
          have fe2 : (q.e.frame == f + (k : Int)) = true := by rw [hfe]; simp
          clear hok hfe hall hb he hfew hq q0
          go_wp2_with (first | ((with_reducible refine load_at_gate rfl rfl Try.underlying53 rfl en_info ?_); apply LoadAt.mk rfl hcell hlen; rw [hqz, hz]) | (with_reducible refine alloc_en rfl rfl ?_) | (with_reducible refine en_store_new rfl rfl rfl rfl rfl rfl ?_) | ((refine en_load_g ?_ rfl ?_); (focus (simp [Region.wanted, yielded, fe, fe2]; done)); apply LoadEn.mk rfl; (focus (with_reducible exact EB.out)); dsimp only) | (go_at_call 57; ((with_reducible refine (cm.out).mono ?_); rintro e w1 ⟨rfl, hb1⟩; have K1 := Lib.hid (EK.out.trans (hb1.mono (by simp <;> omega))); clear hb1)))
          go_roundw
          case rel => exact ⟨k + 1, by omega, by go_num, fun j h h' => by
            by_cases e : j = k
            · subst e; rw [HQ.out]; exact ⟨HO.out, HFE.out⟩
            · exact HAll.out j h (by omega), K1.out⟩
          case measure => simp [intOf]; omega
        · rw [decide_eq_false hok] at cm
          have HO := Lib.hid hok
          have HFE := Lib.hid hfe
          have fe : (q.e.frame != f + (k : Int)) = false := by rw [hfe]; simp
          have fe2 : (q.e.frame == f + (k : Int)) = true := by rw [hfe]; simp
          clear hok hfe hall hb he hfew hq q0
          go_wp2_with (first | ((with_reducible refine load_at_gate rfl rfl Try.underlying53 rfl en_info ?_); apply LoadAt.mk rfl hcell hlen; rw [hqz, hz]) | (with_reducible refine alloc_en rfl rfl ?_) | (with_reducible refine en_store_new rfl rfl rfl rfl rfl rfl ?_) | ((refine en_load_g ?_ rfl ?_); (focus (simp [Region.wanted, yielded, fe, fe2]; done)); apply LoadEn.mk rfl; (focus (with_reducible exact EB.out)); dsimp only) | (go_at_call 57; ((with_reducible refine (cm.out).mono ?_); rintro e w1 ⟨rfl, hb1⟩; have K1 := Lib.hid (EK.out.trans (hb1.mono (by simp <;> omega))); clear hb1)))
          go_ret
          exact ⟨ret_bool (by rw [HR.out]; exact Ms.logOkB_no fun h => by have h1 := h k hkl; rw [HQ.out] at h1; exact HO.out h1.1), K1.out⟩
      · have HFE := Lib.hid hfe
        have fe : (q.e.frame != f + (k : Int)) = true := by simpa using hfe
        have fe2 : (q.e.frame == f + (k : Int)) = false := by simpa using hfe
        clear hfe hall hb he hfew hq q0 cm
        go_wp2_with (first | ((with_reducible refine load_at_gate rfl rfl Try.underlying53 rfl en_info ?_); apply LoadAt.mk rfl hcell hlen; rw [hqz, hz]) | (with_reducible refine alloc_en rfl rfl ?_) | (with_reducible refine en_store_new rfl rfl rfl rfl rfl rfl ?_))
        go_ret
        exact ⟨ret_bool (by rw [HR.out]; exact Ms.logOkB_no fun h => by have h1 := h k hkl; rw [HQ.out, ← HF.out] at h1; exact HFE.out h1.2), EK.out⟩
    · have hk8 : ¬ (k : Int) < n := by omega
      obtain rfl : k = n := by omega
      have HAll := Lib.hid hall
      have HB := Lib.hid hb
      clear hall hb
      go_wp2
      go_ret
      exact ⟨ret_bool (by rw [HR.out]; exact (Ms.logOkB_iff.2 fun j h => by rw [← HF.out]; exact HAll.out j h (by have := HN.out; omega)).symm), HB.out⟩
theorem numB_part {B : Bool} {w v lo hi : Int} (hw : w ≠ 0) : Ms.numB (if B then w else 0) v lo hi = true ↔ ((B = true ∧ lo ≤ v ∧ v ≤ hi) ∨ (B = false ∧ v = 0)) := by
  cases B
  · simp [Ms.numB]
  · simp [Ms.numB, hw]
theorem bitB_part {B : Bool} {w v : Int} (hw : w ≠ 0) : (((if B then w else 0) != 0) || (v == 0)) = true ↔ ((B = true) ∨ (B = false ∧ v = 0)) := by
  cases B
  · simp
  · simp [hw]
theorem no1_iff {m : Ms.M} : Ms.no1 m = false ↔ (1 ≤ m.kind ∧ m.kind ≤ 14) ∧ (0 ≤ m.frm ∧ m.frm < 12) ∧ Ms.bare m = true ∧ (0 ≤ m.slot ∧ m.slot ≤ 7) ∧ (0 ≤ m.frame ∧ m.frame ≤ 1048576) ∧ (0 ≤ m.code ∧ m.code ≤ 9) ∧ (0 ≤ m.n ∧ m.n ≤ 65535) := by
  unfold Ms.no1
  simp only [Bool.or_eq_false_iff, decide_eq_false_iff_not, Bool.not_eq_eq_eq_not, Bool.not_false]
  generalize Ms.bare m = b
  constructor
  · rintro ⟨⟨⟨⟨⟨⟨⟨⟨⟨⟨⟨⟨h1, h2⟩, h3⟩, h4⟩, h5⟩, h6⟩, h7⟩, h8⟩, h9⟩, h10⟩, h11⟩, h12⟩, h13⟩
    exact ⟨by omega, by omega, h5, by omega, by omega, by omega, by omega⟩
  · rintro ⟨h1, h2, h5, h6, h7, h8, h9⟩
    exact ⟨⟨⟨⟨⟨⟨⟨⟨⟨⟨⟨⟨by omega, by omega⟩, by omega⟩, by omega⟩, h5⟩, by omega⟩, by omega⟩, by omega⟩, by omega⟩, by omega⟩, by omega⟩, by omega⟩, by omega⟩
theorem bare_iff {m : Ms.M} : Ms.bare m = true ↔ ((Ms.has m.kind).contains 115 = true ∨ m.slot = 0) ∧ ((Ms.has m.kind).contains 103 = true ∨ m.gen = 0) ∧ ((Ms.has m.kind).contains 102 = true ∨ m.frame = 0) ∧ ((Ms.has m.kind).contains 99 = true ∨ m.code = 0) ∧ ((Ms.has m.kind).contains 110 = true ∨ m.n = 0) ∧ ((Ms.has m.kind).contains 111 = true ∨ m.of = 0) ∧ ((Ms.has m.kind).contains 98 = true ∨ m.bits = 0) ∧ ((Ms.has m.kind).contains 109 = true ∨ m.sum = 0) ∧ ((Ms.has m.kind).contains 105 = true ∨ (m.ins.length : Int) = 0) ∧ ((Ms.has m.kind).contains 108 = true ∨ (m.log.length : Int) = 0) ∧ ((Ms.has m.kind).contains 100 = true ∨ (m.data.length : Int) = 0) := by
  unfold Ms.bare Ms.bareOf
  simp only [Bool.and_eq_true, Bool.or_eq_true, beq_iff_eq, and_assoc]
theorem mayP_iff {m : Ms.M} (hn : En.i64 m.n) : Ms.mayP (Ms.own m.kind) m = true ↔ (((Ms.has m.kind).contains 115 = true ∧ 0 ≤ m.slot ∧ m.slot ≤ 7) ∨ ((Ms.has m.kind).contains 115 = false ∧ m.slot = 0)) ∧ (((Ms.has m.kind).contains 103 = true ∧ 1 ≤ m.gen ∧ m.gen ≤ 60000) ∨ ((Ms.has m.kind).contains 103 = false ∧ m.gen = 0)) ∧ (((Ms.has m.kind).contains 102 = true ∧ 0 ≤ m.frame ∧ m.frame ≤ 1048576) ∨ ((Ms.has m.kind).contains 102 = false ∧ m.frame = 0)) ∧ (((Ms.has m.kind).contains 99 = true ∧ 0 ≤ m.code ∧ m.code ≤ 9) ∨ ((Ms.has m.kind).contains 99 = false ∧ m.code = 0)) ∧ (((Ms.has m.kind).contains 110 = true ∧ 0 ≤ m.n ∧ m.n ≤ 65535) ∨ ((Ms.has m.kind).contains 110 = false ∧ m.n = 0)) ∧ (((Ms.has m.kind).contains 111 = true ∧ m.n + 1 ≤ m.of ∧ m.of ≤ 65535) ∨ ((Ms.has m.kind).contains 111 = false ∧ m.of = 0)) ∧ (((Ms.has m.kind).contains 98 = true) ∨ ((Ms.has m.kind).contains 98 = false ∧ m.bits = 0)) ∧ (((Ms.has m.kind).contains 109 = true) ∨ ((Ms.has m.kind).contains 109 = false ∧ m.sum = 0)) ∧ (((Ms.has m.kind).contains 105 = true ∧ 1 ≤ (m.ins.length : Int) ∧ (m.ins.length : Int) ≤ 16) ∨ ((Ms.has m.kind).contains 105 = false ∧ (m.ins.length : Int) = 0)) ∧ (((Ms.has m.kind).contains 108 = true ∧ 1 ≤ (m.log.length : Int) ∧ (m.log.length : Int) ≤ 16) ∨ ((Ms.has m.kind).contains 108 = false ∧ (m.log.length : Int) = 0)) ∧ (((Ms.has m.kind).contains 100 = true ∧ 1 ≤ (m.data.length : Int) ∧ (m.data.length : Int) ≤ 64) ∨ ((Ms.has m.kind).contains 100 = false ∧ (m.data.length : Int) = 0)) := by
  unfold Ms.mayP
  rw [Ms.own_1, Ms.own_2, Ms.own_4, Ms.own_8, Ms.own_16, Ms.own_32, Ms.own_64, Ms.own_128, Ms.own_256, Ms.own_512, Ms.own_1024]
  simp only [Bool.and_eq_true, numB_part (show (1 : Int) ≠ 0 by decide), numB_part (show (2 : Int) ≠ 0 by decide), numB_part (show (4 : Int) ≠ 0 by decide), numB_part (show (8 : Int) ≠ 0 by decide), numB_part (show (16 : Int) ≠ 0 by decide), numB_part (show (32 : Int) ≠ 0 by decide), bitB_part (show (64 : Int) ≠ 0 by decide), bitB_part (show (128 : Int) ≠ 0 by decide), numB_part (show (256 : Int) ≠ 0 by decide), numB_part (show (512 : Int) ≠ 0 by decide), numB_part (show (1024 : Int) ≠ 0 by decide), and_assoc]
  have hw : (((Ms.has m.kind).contains 110 = true ∧ 0 ≤ m.n ∧ m.n ≤ 65535) ∨ ((Ms.has m.kind).contains 110 = false ∧ m.n = 0)) → IntKind.i64.wrap (m.n + 1) = m.n + 1 := fun h => by rw [IntKind.wrap_i64]; omega
  constructor
  · rintro ⟨h1, h2, h3, h4, h5, h6, h7⟩
    rw [hw h5] at h6
    exact ⟨h1, h2, h3, h4, h5, h6, h7⟩
  · rintro ⟨h1, h2, h3, h4, h5, h6, h7⟩
    rw [hw h5]
    exact ⟨h1, h2, h3, h4, h5, h6, h7⟩
theorem mayW_iff {m : Ms.M} (hn : En.i64 m.n) : Ms.mayW m (Ms.insB m) (Ms.logOkB m) = true ↔ Ms.Ok m := by
  have hP := mayP_iff hn
  have h1 := @no1_iff m
  have hb := @bare_iff m
  unfold Ms.mayW Ms.isKind
  simp only [Bool.and_eq_true, decide_eq_true_eq, hP, Ms.insB_iff, Ms.logOkB_iff]
  constructor
  · rintro ⟨⟨⟨⟨⟨⟨k1, k2⟩, f1⟩, f2⟩, s115, s103, s102, s99, s110, s111, s98, s109, s105, s108, s100⟩, hi⟩, hl⟩
    have bb : Ms.bare m = true := hb.2 ⟨by rcases s115 with h | h; exact .inl (by first | exact h.1 | exact h); exact .inr h.2, by rcases s103 with h | h; exact .inl (by first | exact h.1 | exact h); exact .inr h.2, by rcases s102 with h | h; exact .inl (by first | exact h.1 | exact h); exact .inr h.2, by rcases s99 with h | h; exact .inl (by first | exact h.1 | exact h); exact .inr h.2, by rcases s110 with h | h; exact .inl (by first | exact h.1 | exact h); exact .inr h.2, by rcases s111 with h | h; exact .inl (by first | exact h.1 | exact h); exact .inr h.2, by rcases s98 with h | h; exact .inl (by first | exact h.1 | exact h); exact .inr h.2, by rcases s109 with h | h; exact .inl (by first | exact h.1 | exact h); exact .inr h.2, by rcases s105 with h | h; exact .inl (by first | exact h.1 | exact h); exact .inr h.2, by rcases s108 with h | h; exact .inl (by first | exact h.1 | exact h); exact .inr h.2, by rcases s100 with h | h; exact .inl (by first | exact h.1 | exact h); exact .inr h.2⟩
    refine ⟨h1.2 ⟨⟨k1, k2⟩, ⟨f1, f2⟩, bb, by omega, by omega, by omega, by omega⟩, ?_, ?_, hi, hl⟩
    · unfold Ms.no2
      simp only [Bool.or_eq_false_iff, Bool.and_eq_false_iff, decide_eq_false_iff_not]
      refine ⟨⟨?_, ?_⟩, ?_⟩
      · rcases s103 with h | h
        · exact .inr ⟨by omega, by omega⟩
        · exact .inl h.1
      · rcases s111 with h | h
        · exact .inr ⟨⟨by omega, by omega⟩, by omega⟩
        · exact .inl h.1
      · rcases s100 with h | h
        · exact .inr ⟨by omega, by omega⟩
        · exact .inl h.1
    · unfold Ms.no3
      simp only [Bool.or_eq_false_iff, Bool.and_eq_false_iff, decide_eq_false_iff_not]
      refine ⟨?_, ?_⟩
      · rcases s105 with h | h
        · exact .inr ⟨by omega, by omega⟩
        · exact .inl h.1
      · rcases s108 with h | h
        · exact .inr ⟨by omega, by omega⟩
        · exact .inl h.1
  · rintro ⟨n1, n2, n3, hi, hl⟩
    obtain ⟨hk, hf, bb, b1, b2, b3, b4⟩ := h1.1 n1
    obtain ⟨z115, z103, z102, z99, z110, z111, z98, z109, z105, z108, z100⟩ := hb.1 bb
    unfold Ms.no2 at n2
    unfold Ms.no3 at n3
    simp only [Bool.or_eq_false_iff, Bool.and_eq_false_iff, decide_eq_false_iff_not] at n2 n3
    obtain ⟨⟨g103, g111⟩, g100⟩ := n2
    obtain ⟨g105, g108⟩ := n3
    refine ⟨⟨⟨⟨⟨hk, hf.1⟩, hf.2⟩, ?_, ?_, ?_, ?_, ?_, ?_, ?_, ?_, ?_, ?_, ?_⟩, hi⟩, hl⟩
    · cases e : (Ms.has m.kind).contains 115
      · exact .inr ⟨rfl, by rcases z115 with h | h; rw [e] at h; cases h; exact h⟩
      · exact .inl ⟨rfl, by omega, by omega⟩
    · cases e : (Ms.has m.kind).contains 103
      · exact .inr ⟨rfl, by rcases z103 with h | h; rw [e] at h; cases h; exact h⟩
      · refine .inl ⟨rfl, ?_⟩
        rcases g103 with g | g
        · rw [e] at g; cases g
        · omega
    · cases e : (Ms.has m.kind).contains 102
      · exact .inr ⟨rfl, by rcases z102 with h | h; rw [e] at h; cases h; exact h⟩
      · exact .inl ⟨rfl, by omega, by omega⟩
    · cases e : (Ms.has m.kind).contains 99
      · exact .inr ⟨rfl, by rcases z99 with h | h; rw [e] at h; cases h; exact h⟩
      · exact .inl ⟨rfl, by omega, by omega⟩
    · cases e : (Ms.has m.kind).contains 110
      · exact .inr ⟨rfl, by rcases z110 with h | h; rw [e] at h; cases h; exact h⟩
      · exact .inl ⟨rfl, by omega, by omega⟩
    · cases e : (Ms.has m.kind).contains 111
      · exact .inr ⟨rfl, by rcases z111 with h | h; rw [e] at h; cases h; exact h⟩
      · refine .inl ⟨rfl, ?_⟩
        rcases g111 with g | g
        · rw [e] at g; cases g
        · omega
    · cases e : (Ms.has m.kind).contains 98
      · exact .inr ⟨rfl, by rcases z98 with h | h; rw [e] at h; cases h; exact h⟩
      · exact .inl rfl
    · cases e : (Ms.has m.kind).contains 109
      · exact .inr ⟨rfl, by rcases z109 with h | h; rw [e] at h; cases h; exact h⟩
      · exact .inl rfl
    · cases e : (Ms.has m.kind).contains 105
      · exact .inr ⟨rfl, by rcases z105 with h | h; rw [e] at h; cases h; exact h⟩
      · refine .inl ⟨rfl, ?_⟩
        rcases g105 with g | g
        · rw [e] at g; cases g
        · omega
    · cases e : (Ms.has m.kind).contains 108
      · exact .inr ⟨rfl, by rcases z108 with h | h; rw [e] at h; cases h; exact h⟩
      · refine .inl ⟨rfl, ?_⟩
        rcases g108 with g | g
        · rw [e] at g; cases g
        · omega
    · cases e : (Ms.has m.kind).contains 100
      · exact .inr ⟨rfl, by rcases z100 with h | h; rw [e] at h; cases h; exact h⟩
      · refine .inl ⟨rfl, ?_⟩
        rcases g100 with g | g
        · rw [e] at g; cases g
        · omega
theorem mayW_is {m : Ms.M} (hn : En.i64 m.n) : Ms.mayW m (Ms.insB m) (Ms.logOkB m) = Ms.okB m := by
  rw [Bool.eq_iff_iff, mayW_iff hn, Ms.okB_iff]

set_option maxRecDepth 100000 in
set_option maxHeartbeats 1000000 in
theorem wmay_any (q : Ms.S) (w : World) (hT : Ms.Ty q.m) (hL : LiesM w w.heap.size q) :
    Calls Try.prog 15 #[.agg q.cells] w fun e w' => e = .returned (.bool (Ms.okB q.m)) ∧ Below w.heap.size w w' := by
  have KB := Lib.hid (one_below w (.cells q.cells 29))
  have BX := Lib.hid (Box.made w 29 q.cells)
  have LF := Lib.hid (show q.m.ins.length ≤ maxLen ∧ q.m.log.length ≤ maxLen ∧ q.m.data.length ≤ maxLen from ⟨hL.fi, hL.fl, hL.fd⟩)
  have LI := Lib.hid hL.ins
  have LL := Lib.hid hL.log
  have TI := Lib.hid hT.ins
  have TF := Lib.hid hT.frame
  have TN := Lib.hid (mayW_is hT.n)
  have cp := fun X => Lib.hid (partsof_any q.m.kind X)
  clear hT hL
  go_enter Try.func15, Try.ntmps15
  go_upto_region 1 with fail
  generalize hW : w.alloc (.cells q.cells 29) = W0 at *
  have k0 : W0.cell? ⟨w.heap.size, 0, none⟩ = some (.int .i64 q.m.kind) := BX.out.cell 0
  obtain ⟨B, hBs⟩ : ∃ B, B = w.heap.size := ⟨_, rfl⟩
  rw [← hBs] at BX
  clear hW
  go_upto_region 2 with (go_at_call 34; ((with_reducible refine ((cp _).out).mono ?_); rintro e wp ⟨rfl, rfl⟩))
  clear k0 cp
  refine Slim.forget 39 rfl rfl fun a0 S D hf => ?_
  have H1 : Slim.Has a0 1 true (.pointer (some ⟨B, 0, none⟩)) := by rw [hBs]; exact hf 1 _ rfl
  have H3 : Slim.Has a0 3 true (.int .i64 (Ms.own q.m.kind)) := hf 3 _ rfl
  have H4 : Slim.Has a0 4 true (.bool (Ms.isKind q.m.kind)) := hf 4 _ rfl
  clear hf hBs
  refine wp_region_lit ?_
  refine Slim.val_g (t := 11) (c := true) (v := .bool (Ms.isKind q.m.kind)) rfl (by rw [S]; decide) (Slim.wants_all rfl) (Slim.move_g rfl H4 (fun h => h)) fun a1 o => ?_
  replace S := o.size.trans S; replace D := o.defers.trans D
  replace H1 := Slim.stays o H1 (by decide)
  replace H3 := Slim.stays o H3 (by decide)
  have H11 : Slim.Has a1 11 true (.bool (Ms.isKind q.m.kind)) := o.here
  clear H4
  clear o
  refine Slim.val_g (t := 12) (c := true) (v := .bool (Ms.isKind q.m.kind)) rfl (by rw [S]; decide) (Slim.wants_all rfl) (Slim.move_g rfl H11 (fun h => h)) fun a2 o => ?_
  replace S := o.size.trans S; replace D := o.defers.trans D
  replace H1 := Slim.stays o H1 (by decide)
  replace H3 := Slim.stays o H3 (by decide)
  have H12 : Slim.Has a2 12 true (.bool (Ms.isKind q.m.kind)) := o.here
  clear H11
  clear o
  refine Slim.val_g (t := 13) (c := (true && ((Ms.isKind q.m.kind) == true))) (v := .pointer (some ⟨B, 1, none⟩)) rfl (by rw [S]; decide) (Slim.wanted_g rfl rfl H12) (Slim.field_g rfl H1 (fun _ => rfl) (by go_simp; first | done | rfl)) fun a3 o => ?_
  replace S := o.size.trans S; replace D := o.defers.trans D
  replace H1 := Slim.stays o H1 (by decide)
  replace H3 := Slim.stays o H3 (by decide)
  replace H12 := Slim.stays o H12 (by decide)
  have H13 : Slim.Has a3 13 (true && ((Ms.isKind q.m.kind) == true)) (.pointer (some ⟨B, 1, none⟩)) := o.here
  clear o
  refine Slim.val_g (t := 14) (c := (true && ((Ms.isKind q.m.kind) == true))) (v := .int .i64 q.m.frm) rfl (by rw [S]; decide) (Slim.wanted_g rfl rfl H12) (Slim.load_g rfl H13 (fun h => h) (by have k := BX.out.cell 1; go_simp; first | done | rfl)) fun a4 o => ?_
  replace S := o.size.trans S; replace D := o.defers.trans D
  replace H1 := Slim.stays o H1 (by decide)
  replace H3 := Slim.stays o H3 (by decide)
  replace H12 := Slim.stays o H12 (by decide)
  have H14 : Slim.Has a4 14 (true && ((Ms.isKind q.m.kind) == true)) (.int .i64 q.m.frm) := o.here
  clear H13
  clear o
  refine Slim.val_g (t := 15) (c := (true && ((Ms.isKind q.m.kind) == true))) (v := .bool (decide (0 ≤ q.m.frm))) rfl (by rw [S]; decide) (Slim.wanted_g rfl rfl H12) (Slim.binl_g rfl H14 (fun h => h) (fun _ _ => Slim.cmp_leq)) fun a5 o => ?_
  replace S := o.size.trans S; replace D := o.defers.trans D
  replace H1 := Slim.stays o H1 (by decide)
  replace H3 := Slim.stays o H3 (by decide)
  replace H12 := Slim.stays o H12 (by decide)
  have H15 : Slim.Has a5 15 (true && ((Ms.isKind q.m.kind) == true)) (.bool (decide (0 ≤ q.m.frm))) := o.here
  clear H14
  clear o
  refine Slim.val_g (t := 16) (c := true) (v := .bool ((Ms.isKind q.m.kind) && (decide (0 ≤ q.m.frm)))) rfl (by rw [S]; decide) (Slim.wants_all rfl) (Slim.and_g rfl H12 H15 (fun h => h) (fun h1 h2 => Bool.and_eq_true_iff.2 ⟨h1, by rw [h2]; rfl⟩)) fun a6 o => ?_
  replace S := o.size.trans S; replace D := o.defers.trans D
  replace H1 := Slim.stays o H1 (by decide)
  replace H3 := Slim.stays o H3 (by decide)
  have H16 : Slim.Has a6 16 true (.bool ((Ms.isKind q.m.kind) && (decide (0 ≤ q.m.frm)))) := o.here
  clear H12
  clear H15
  clear o
  refine Slim.val_g (t := 17) (c := true) (v := .bool ((Ms.isKind q.m.kind) && (decide (0 ≤ q.m.frm)))) rfl (by rw [S]; decide) (Slim.wants_all rfl) (Slim.move_g rfl H16 (fun h => h)) fun a7 o => ?_
  replace S := o.size.trans S; replace D := o.defers.trans D
  replace H1 := Slim.stays o H1 (by decide)
  replace H3 := Slim.stays o H3 (by decide)
  have H17 : Slim.Has a7 17 true (.bool ((Ms.isKind q.m.kind) && (decide (0 ≤ q.m.frm)))) := o.here
  clear H16
  clear o
  refine Slim.val_g (t := 18) (c := (true && (((Ms.isKind q.m.kind) && (decide (0 ≤ q.m.frm))) == true))) (v := .pointer (some ⟨B, 1, none⟩)) rfl (by rw [S]; decide) (Slim.wanted_g rfl rfl H17) (Slim.field_g rfl H1 (fun _ => rfl) (by go_simp; first | done | rfl)) fun a8 o => ?_
  replace S := o.size.trans S; replace D := o.defers.trans D
  replace H1 := Slim.stays o H1 (by decide)
  replace H3 := Slim.stays o H3 (by decide)
  replace H17 := Slim.stays o H17 (by decide)
  have H18 : Slim.Has a8 18 (true && (((Ms.isKind q.m.kind) && (decide (0 ≤ q.m.frm))) == true)) (.pointer (some ⟨B, 1, none⟩)) := o.here
  clear o
  refine Slim.val_g (t := 19) (c := (true && (((Ms.isKind q.m.kind) && (decide (0 ≤ q.m.frm))) == true))) (v := .int .i64 q.m.frm) rfl (by rw [S]; decide) (Slim.wanted_g rfl rfl H17) (Slim.load_g rfl H18 (fun h => h) (by have k := BX.out.cell 1; go_simp; first | done | rfl)) fun a9 o => ?_
  replace S := o.size.trans S; replace D := o.defers.trans D
  replace H1 := Slim.stays o H1 (by decide)
  replace H3 := Slim.stays o H3 (by decide)
  replace H17 := Slim.stays o H17 (by decide)
  have H19 : Slim.Has a9 19 (true && (((Ms.isKind q.m.kind) && (decide (0 ≤ q.m.frm))) == true)) (.int .i64 q.m.frm) := o.here
  clear H18
  clear o
  refine Slim.val_g (t := 20) (c := (true && (((Ms.isKind q.m.kind) && (decide (0 ≤ q.m.frm))) == true))) (v := .bool (decide (q.m.frm < 12))) rfl (by rw [S]; decide) (Slim.wanted_g rfl rfl H17) (Slim.bin_g rfl H19 (fun h => h) (fun _ _ => Slim.cmp_lss)) fun a10 o => ?_
  replace S := o.size.trans S; replace D := o.defers.trans D
  replace H1 := Slim.stays o H1 (by decide)
  replace H3 := Slim.stays o H3 (by decide)
  replace H17 := Slim.stays o H17 (by decide)
  have H20 : Slim.Has a10 20 (true && (((Ms.isKind q.m.kind) && (decide (0 ≤ q.m.frm))) == true)) (.bool (decide (q.m.frm < 12))) := o.here
  clear H19
  clear o
  refine Slim.val_g (t := 21) (c := true) (v := .bool (((Ms.isKind q.m.kind) && (decide (0 ≤ q.m.frm))) && (decide (q.m.frm < 12)))) rfl (by rw [S]; decide) (Slim.wants_all rfl) (Slim.and_g rfl H17 H20 (fun h => h) (fun h1 h2 => Bool.and_eq_true_iff.2 ⟨h1, by rw [h2]; rfl⟩)) fun a11 o => ?_
  replace S := o.size.trans S; replace D := o.defers.trans D
  replace H1 := Slim.stays o H1 (by decide)
  replace H3 := Slim.stays o H3 (by decide)
  have H21 : Slim.Has a11 21 true (.bool (((Ms.isKind q.m.kind) && (decide (0 ≤ q.m.frm))) && (decide (q.m.frm < 12)))) := o.here
  clear H17
  clear H20
  clear o
  refine Slim.val_g (t := 22) (c := true) (v := .bool (((Ms.isKind q.m.kind) && (decide (0 ≤ q.m.frm))) && (decide (q.m.frm < 12)))) rfl (by rw [S]; decide) (Slim.wants_all rfl) (Slim.move_g rfl H21 (fun h => h)) fun a12 o => ?_
  replace S := o.size.trans S; replace D := o.defers.trans D
  replace H1 := Slim.stays o H1 (by decide)
  replace H3 := Slim.stays o H3 (by decide)
  have H22 : Slim.Has a12 22 true (.bool (((Ms.isKind q.m.kind) && (decide (0 ≤ q.m.frm))) && (decide (q.m.frm < 12)))) := o.here
  clear H21
  clear o
  refine Slim.val_g (t := 23) (c := (true && ((((Ms.isKind q.m.kind) && (decide (0 ≤ q.m.frm))) && (decide (q.m.frm < 12))) == true))) (v := .int .i64 (Ms.own q.m.kind)) rfl (by rw [S]; decide) (Slim.wanted_g rfl rfl H22) (Slim.move_g rfl H3 (fun _ => rfl)) fun a13 o => ?_
  replace S := o.size.trans S; replace D := o.defers.trans D
  replace H1 := Slim.stays o H1 (by decide)
  replace H22 := Slim.stays o H22 (by decide)
  have H23 : Slim.Has a13 23 (true && ((((Ms.isKind q.m.kind) && (decide (0 ≤ q.m.frm))) && (decide (q.m.frm < 12))) == true)) (.int .i64 (Ms.own q.m.kind)) := o.here
  clear H3
  clear o
  refine Slim.val_g (t := 24) (c := (true && ((((Ms.isKind q.m.kind) && (decide (0 ≤ q.m.frm))) && (decide (q.m.frm < 12))) == true))) (v := .agg q.cells) rfl (by rw [S]; decide) (Slim.wanted_g rfl rfl H22) (Slim.load_g rfl H1 (fun _ => rfl) (Slim.load_whole BX.out.is Try.underlying29 rfl msg_info)) fun a14 o => ?_
  replace S := o.size.trans S; replace D := o.defers.trans D
  replace H1 := Slim.stays o H1 (by decide)
  replace H22 := Slim.stays o H22 (by decide)
  replace H23 := Slim.stays o H23 (by decide)
  have H24 : Slim.Has a14 24 (true && ((((Ms.isKind q.m.kind) && (decide (0 ≤ q.m.frm))) && (decide (q.m.frm < 12))) == true)) (.agg q.cells) := o.here
  clear o
  refine Slim.call_g (t := 25) (c := (true && ((((Ms.isKind q.m.kind) && (decide (0 ≤ q.m.frm))) && (decide (q.m.frm < 12))) == true))) (v := .bool (Ms.mayP (Ms.own q.m.kind) q.m)) rfl (by rw [S]; decide) (Slim.wanted_g rfl rfl H22) (Slim.calls22_g rfl H23 H24 (fun h => h) (fun h => h) (by go_simp; first | done | rfl)) (fun _ => mayparts_any _ q _ LF.out.1 LF.out.2.1 LF.out.2.2) fun a15 W1 o hb => ?_
  replace BX := Lib.hid (BX.out.below hb BX.out.lt); replace KB := Lib.hid (KB.out.trans (hb.mono KB.out.size)); clear hb
  replace S := o.size.trans S; replace D := o.defers.trans D
  replace H1 := Slim.stays o H1 (by decide)
  replace H22 := Slim.stays o H22 (by decide)
  have H25 : Slim.Has a15 25 (true && ((((Ms.isKind q.m.kind) && (decide (0 ≤ q.m.frm))) && (decide (q.m.frm < 12))) == true)) (.bool (Ms.mayP (Ms.own q.m.kind) q.m)) := o.here
  clear H23
  clear H24
  clear o
  refine Slim.val_g (t := 26) (c := true) (v := .bool ((((Ms.isKind q.m.kind) && (decide (0 ≤ q.m.frm))) && (decide (q.m.frm < 12))) && (Ms.mayP (Ms.own q.m.kind) q.m))) rfl (by rw [S]; decide) (Slim.wants_all rfl) (Slim.and_g rfl H22 H25 (fun h => h) (fun h1 h2 => Bool.and_eq_true_iff.2 ⟨h1, by rw [h2]; rfl⟩)) fun a16 o => ?_
  replace S := o.size.trans S; replace D := o.defers.trans D
  replace H1 := Slim.stays o H1 (by decide)
  have H26 : Slim.Has a16 26 true (.bool ((((Ms.isKind q.m.kind) && (decide (0 ≤ q.m.frm))) && (decide (q.m.frm < 12))) && (Ms.mayP (Ms.own q.m.kind) q.m))) := o.here
  clear H22
  clear H25
  clear o
  refine Slim.val_g (t := 27) (c := true) (v := .bool ((((Ms.isKind q.m.kind) && (decide (0 ≤ q.m.frm))) && (decide (q.m.frm < 12))) && (Ms.mayP (Ms.own q.m.kind) q.m))) rfl (by rw [S]; decide) (Slim.wants_all rfl) (Slim.move_g rfl H26 (fun h => h)) fun a17 o => ?_
  replace S := o.size.trans S; replace D := o.defers.trans D
  replace H1 := Slim.stays o H1 (by decide)
  have H27 : Slim.Has a17 27 true (.bool ((((Ms.isKind q.m.kind) && (decide (0 ≤ q.m.frm))) && (decide (q.m.frm < 12))) && (Ms.mayP (Ms.own q.m.kind) q.m))) := o.here
  clear H26
  clear o
  refine Slim.val_g (t := 28) (c := (true && (((((Ms.isKind q.m.kind) && (decide (0 ≤ q.m.frm))) && (decide (q.m.frm < 12))) && (Ms.mayP (Ms.own q.m.kind) q.m)) == true))) (v := .pointer (some ⟨B, 13, none⟩)) rfl (by rw [S]; decide) (Slim.wanted_g rfl rfl H27) (Slim.field_g rfl H1 (fun _ => rfl) (by go_simp; first | done | rfl)) fun a18 o => ?_
  replace S := o.size.trans S; replace D := o.defers.trans D
  replace H1 := Slim.stays o H1 (by decide)
  replace H27 := Slim.stays o H27 (by decide)
  have H28 : Slim.Has a18 28 (true && (((((Ms.isKind q.m.kind) && (decide (0 ≤ q.m.frm))) && (decide (q.m.frm < 12))) && (Ms.mayP (Ms.own q.m.kind) q.m)) == true)) (.pointer (some ⟨B, 13, none⟩)) := o.here
  clear o
  refine Slim.val_g (t := 29) (c := (true && (((((Ms.isKind q.m.kind) && (decide (0 ≤ q.m.frm))) && (decide (q.m.frm < 12))) && (Ms.mayP (Ms.own q.m.kind) q.m)) == true))) (v := .slice q.ai q.m.ins.length q.ci) rfl (by rw [S]; decide) (Slim.wanted_g rfl rfl H27) (Slim.load_g rfl H28 (fun h => h) (by have k := BX.out.cell 13; go_simp; first | done | rfl)) fun a19 o => ?_
  replace S := o.size.trans S; replace D := o.defers.trans D
  replace H1 := Slim.stays o H1 (by decide)
  replace H27 := Slim.stays o H27 (by decide)
  have H29 : Slim.Has a19 29 (true && (((((Ms.isKind q.m.kind) && (decide (0 ≤ q.m.frm))) && (decide (q.m.frm < 12))) && (Ms.mayP (Ms.own q.m.kind) q.m)) == true)) (.slice q.ai q.m.ins.length q.ci) := o.here
  clear H28
  clear o
  refine Slim.call_g (t := 30) (c := (true && (((((Ms.isKind q.m.kind) && (decide (0 ≤ q.m.frm))) && (decide (q.m.frm < 12))) && (Ms.mayP (Ms.own q.m.kind) q.m)) == true))) (v := .bool (Ms.insB q.m)) rfl (by rw [S]; decide) (Slim.wanted_g rfl rfl H27) (Slim.calls1_g rfl H29 (fun h => h) (by go_simp; first | done | rfl)) (fun _ => mayinputs_any q.m q.ai q.ci _ LF.out.1 TI.out ((LI.out.below KB.out).wider KB.out.size)) fun a20 W2 o hb => ?_
  replace BX := Lib.hid (BX.out.below hb BX.out.lt); replace KB := Lib.hid (KB.out.trans (hb.mono KB.out.size)); clear hb
  replace S := o.size.trans S; replace D := o.defers.trans D
  replace H1 := Slim.stays o H1 (by decide)
  replace H27 := Slim.stays o H27 (by decide)
  have H30 : Slim.Has a20 30 (true && (((((Ms.isKind q.m.kind) && (decide (0 ≤ q.m.frm))) && (decide (q.m.frm < 12))) && (Ms.mayP (Ms.own q.m.kind) q.m)) == true)) (.bool (Ms.insB q.m)) := o.here
  clear H29
  clear o
  refine Slim.val_g (t := 31) (c := true) (v := .bool (((((Ms.isKind q.m.kind) && (decide (0 ≤ q.m.frm))) && (decide (q.m.frm < 12))) && (Ms.mayP (Ms.own q.m.kind) q.m)) && (Ms.insB q.m))) rfl (by rw [S]; decide) (Slim.wants_all rfl) (Slim.and_g rfl H27 H30 (fun h => h) (fun h1 h2 => Bool.and_eq_true_iff.2 ⟨h1, by rw [h2]; rfl⟩)) fun a21 o => ?_
  replace S := o.size.trans S; replace D := o.defers.trans D
  replace H1 := Slim.stays o H1 (by decide)
  have H31 : Slim.Has a21 31 true (.bool (((((Ms.isKind q.m.kind) && (decide (0 ≤ q.m.frm))) && (decide (q.m.frm < 12))) && (Ms.mayP (Ms.own q.m.kind) q.m)) && (Ms.insB q.m))) := o.here
  clear H27
  clear H30
  clear o
  refine Slim.val_g (t := 32) (c := true) (v := .bool (((((Ms.isKind q.m.kind) && (decide (0 ≤ q.m.frm))) && (decide (q.m.frm < 12))) && (Ms.mayP (Ms.own q.m.kind) q.m)) && (Ms.insB q.m))) rfl (by rw [S]; decide) (Slim.wants_all rfl) (Slim.move_g rfl H31 (fun h => h)) fun a22 o => ?_
  replace S := o.size.trans S; replace D := o.defers.trans D
  replace H1 := Slim.stays o H1 (by decide)
  have H32 : Slim.Has a22 32 true (.bool (((((Ms.isKind q.m.kind) && (decide (0 ≤ q.m.frm))) && (decide (q.m.frm < 12))) && (Ms.mayP (Ms.own q.m.kind) q.m)) && (Ms.insB q.m))) := o.here
  clear H31
  clear o
  refine Slim.val_g (t := 33) (c := (true && ((((((Ms.isKind q.m.kind) && (decide (0 ≤ q.m.frm))) && (decide (q.m.frm < 12))) && (Ms.mayP (Ms.own q.m.kind) q.m)) && (Ms.insB q.m)) == true))) (v := .pointer (some ⟨B, 7, none⟩)) rfl (by rw [S]; decide) (Slim.wanted_g rfl rfl H32) (Slim.field_g rfl H1 (fun _ => rfl) (by go_simp; first | done | rfl)) fun a23 o => ?_
  replace S := o.size.trans S; replace D := o.defers.trans D
  replace H1 := Slim.stays o H1 (by decide)
  replace H32 := Slim.stays o H32 (by decide)
  have H33 : Slim.Has a23 33 (true && ((((((Ms.isKind q.m.kind) && (decide (0 ≤ q.m.frm))) && (decide (q.m.frm < 12))) && (Ms.mayP (Ms.own q.m.kind) q.m)) && (Ms.insB q.m)) == true)) (.pointer (some ⟨B, 7, none⟩)) := o.here
  clear o
  refine Slim.val_g (t := 34) (c := (true && ((((((Ms.isKind q.m.kind) && (decide (0 ≤ q.m.frm))) && (decide (q.m.frm < 12))) && (Ms.mayP (Ms.own q.m.kind) q.m)) && (Ms.insB q.m)) == true))) (v := .int .i64 q.m.frame) rfl (by rw [S]; decide) (Slim.wanted_g rfl rfl H32) (Slim.load_g rfl H33 (fun h => h) (by have k := BX.out.cell 7; go_simp; first | done | rfl)) fun a24 o => ?_
  replace S := o.size.trans S; replace D := o.defers.trans D
  replace H1 := Slim.stays o H1 (by decide)
  replace H32 := Slim.stays o H32 (by decide)
  have H34 : Slim.Has a24 34 (true && ((((((Ms.isKind q.m.kind) && (decide (0 ≤ q.m.frm))) && (decide (q.m.frm < 12))) && (Ms.mayP (Ms.own q.m.kind) q.m)) && (Ms.insB q.m)) == true)) (.int .i64 q.m.frame) := o.here
  clear H33
  clear o
  refine Slim.val_g (t := 35) (c := (true && ((((((Ms.isKind q.m.kind) && (decide (0 ≤ q.m.frm))) && (decide (q.m.frm < 12))) && (Ms.mayP (Ms.own q.m.kind) q.m)) && (Ms.insB q.m)) == true))) (v := .pointer (some ⟨B, 14, none⟩)) rfl (by rw [S]; decide) (Slim.wanted_g rfl rfl H32) (Slim.field_g rfl H1 (fun _ => rfl) (by go_simp; first | done | rfl)) fun a25 o => ?_
  replace S := o.size.trans S; replace D := o.defers.trans D
  replace H32 := Slim.stays o H32 (by decide)
  replace H34 := Slim.stays o H34 (by decide)
  have H35 : Slim.Has a25 35 (true && ((((((Ms.isKind q.m.kind) && (decide (0 ≤ q.m.frm))) && (decide (q.m.frm < 12))) && (Ms.mayP (Ms.own q.m.kind) q.m)) && (Ms.insB q.m)) == true)) (.pointer (some ⟨B, 14, none⟩)) := o.here
  clear H1
  clear o
  refine Slim.val_g (t := 36) (c := (true && ((((((Ms.isKind q.m.kind) && (decide (0 ≤ q.m.frm))) && (decide (q.m.frm < 12))) && (Ms.mayP (Ms.own q.m.kind) q.m)) && (Ms.insB q.m)) == true))) (v := .slice q.al q.m.log.length q.cl) rfl (by rw [S]; decide) (Slim.wanted_g rfl rfl H32) (Slim.load_g rfl H35 (fun h => h) (by have k := BX.out.cell 14; go_simp; first | done | rfl)) fun a26 o => ?_
  replace S := o.size.trans S; replace D := o.defers.trans D
  replace H32 := Slim.stays o H32 (by decide)
  replace H34 := Slim.stays o H34 (by decide)
  have H36 : Slim.Has a26 36 (true && ((((((Ms.isKind q.m.kind) && (decide (0 ≤ q.m.frm))) && (decide (q.m.frm < 12))) && (Ms.mayP (Ms.own q.m.kind) q.m)) && (Ms.insB q.m)) == true)) (.slice q.al q.m.log.length q.cl) := o.here
  clear H35
  clear o
  refine Slim.call_g (t := 37) (c := (true && ((((((Ms.isKind q.m.kind) && (decide (0 ≤ q.m.frm))) && (decide (q.m.frm < 12))) && (Ms.mayP (Ms.own q.m.kind) q.m)) && (Ms.insB q.m)) == true))) (v := .bool (Ms.logOkB q.m)) rfl (by rw [S]; decide) (Slim.wanted_g rfl rfl H32) (Slim.calls22_g rfl H34 H36 (fun h => h) (fun h => h) (by go_simp; first | done | rfl)) (fun _ => maylog_any q.m q.al q.cl _ TF.out LF.out.2.1 ((LL.out.below KB.out).wider KB.out.size)) fun a27 W3 o hb => ?_
  replace BX := Lib.hid (BX.out.below hb BX.out.lt); replace KB := Lib.hid (KB.out.trans (hb.mono KB.out.size)); clear hb
  replace S := o.size.trans S; replace D := o.defers.trans D
  replace H32 := Slim.stays o H32 (by decide)
  have H37 : Slim.Has a27 37 (true && ((((((Ms.isKind q.m.kind) && (decide (0 ≤ q.m.frm))) && (decide (q.m.frm < 12))) && (Ms.mayP (Ms.own q.m.kind) q.m)) && (Ms.insB q.m)) == true)) (.bool (Ms.logOkB q.m)) := o.here
  clear H34
  clear H36
  clear o
  refine Slim.val_g (t := 38) (c := true) (v := .bool ((((((Ms.isKind q.m.kind) && (decide (0 ≤ q.m.frm))) && (decide (q.m.frm < 12))) && (Ms.mayP (Ms.own q.m.kind) q.m)) && (Ms.insB q.m)) && (Ms.logOkB q.m))) rfl (by rw [S]; decide) (Slim.wants_all rfl) (Slim.and_g rfl H32 H37 (fun h => h) (fun h1 h2 => Bool.and_eq_true_iff.2 ⟨h1, by rw [h2]; rfl⟩)) fun a28 o => ?_
  replace S := o.size.trans S; replace D := o.defers.trans D
  have H38 : Slim.Has a28 38 true (.bool ((((((Ms.isKind q.m.kind) && (decide (0 ≤ q.m.frm))) && (decide (q.m.frm < 12))) && (Ms.mayP (Ms.own q.m.kind) q.m)) && (Ms.insB q.m)) && (Ms.logOkB q.m))) := o.here
  clear H32
  clear H37
  clear o
  refine Slim.val_g (t := 2) (c := true) (v := .bool ((((((Ms.isKind q.m.kind) && (decide (0 ≤ q.m.frm))) && (decide (q.m.frm < 12))) && (Ms.mayP (Ms.own q.m.kind) q.m)) && (Ms.insB q.m)) && (Ms.logOkB q.m))) rfl (by rw [S]; decide) (Slim.wants_all rfl) (Slim.assign_g rfl H38 (fun h => h)) fun a29 o => ?_
  replace S := o.size.trans S; replace D := o.defers.trans D
  have H2 : Slim.Has a29 2 true (.bool ((((((Ms.isKind q.m.kind) && (decide (0 ≤ q.m.frm))) && (decide (q.m.frm < 12))) && (Ms.mayP (Ms.own q.m.kind) q.m)) && (Ms.insB q.m)) && (Ms.logOkB q.m))) := o.here
  clear H38
  clear o
  refine wpList_nil ?_
  refine (by assumption : ∀ a w, Code.wp Try.prog _ _ a w → _) _ _ ?_
  refine wp_ret ?_
  (try simp only [Exit.inBlock, Exit.then])
  exact on_ret rfl D H2 ⟨by rw [← TN.out]; rfl, KB.out⟩
end Go.Proofs.Ytgmlbimgcifenaa
namespace Go.Proofs.Ytgmlbimgcifenaa
open Go.RowKit
set_option linter.unusedVariables false

theorem bytes_at {w : World} {B n : Nat} {A : Option Addr} {l : List Int} (h : Lies w B 1 A n (Im.u8s l)) (k : Nat) (hk : k < l.length) : ∃ ad, A = some ad ∧ w.cell? (ad.add k) = some (.int .u8 (l.getD k 0)) := by
  have hn : l.length = n := by have := h.len; rw [Im.u8s_len] at this; omega
  obtain ⟨ad, rfl, hb⟩ := h.start (by omega)
  refine ⟨ad, rfl, h.cell ad rfl (by omega) k _ ?_⟩
  unfold Im.u8s
  rw [List.getElem?_map, List.getElem?_eq_getElem hk]
  simp [hk]

set_option maxHeartbeats 1000000 in
theorem wcheck_any (l : List Int) (A : Option Addr) (n c : Nat) (w : World) (hB : Im.IsBytes l) (hl : n ≤ maxLen) (hL : Lies w w.heap.size 1 A n (Im.u8s l)) :
    Calls Try.prog 23 #[.slice A n c] w fun e w' => e = .returned (.int .u32 (Crc.sum l : Nat)) ∧ w = w' := by
  have hn : l.length = n := by have := hL.len; rw [Im.u8s_len] at this; omega
  subst hn
  unfold maxLen at hl
  have hat := Lib.hid (fun (k : Nat) (h : k < l.length) => bytes_at hL k h)
  have hlt := Lib.hid (fun k => Crc.upto_lt hB k)
  have HB := Lib.hid hB
  clear hB
  clear hL
  go_enter Try.func23, Try.ntmps23
  go_wp2
  go_loop [3, 5, 6, 9, 18] (fun c o t i k => ∃ j : Nat, j ≤ l.length ∧ i = .int .i64 j ∧ c = .int .u32 ((Crc.upto l j : Nat) : Int)) (fun _ _ _ i _ => l.length - (intOf i).toNat)
  case atStart => exact ⟨0, Nat.zero_le _, rfl, rfl⟩
  case round =>
    obtain ⟨j, hj, rfl, rfl⟩ := hrel
    by_cases hlt2 : j < l.length
    · have hjs : (j : Int) < (l.length : Int) := by omega
      obtain ⟨ad, rfl, hc⟩ := hat.out j hlt2
      have hby := HB.out (l.getD j 0) (by
        have e : l.getD j 0 = l[j] := by simp [hlt2]
        rw [e]; exact List.getElem_mem hlt2)
      obtain ⟨X, hX⟩ : ∃ X : Nat, X = (l.getD j 0).toNat := ⟨_, rfl⟩
      have hcx : l.getD j 0 = (X : Int) := by rw [hX]; omega
      rw [hcx] at hc
      have hX255 : X ≤ 255 := by omega
      have HN := Lib.hid (show Crc.upto l (j + 1) = Crc.byte (Crc.upto l j) X from by rw [hX]; exact Crc.upto_next l j hlt2)
      have hcl := hlt.out j
      generalize Crc.upto l j = c at *
      have hxor : bits .xor .u32 (c : Int) ((X : Int) * 16777216) = ((c ^^^ X * 16777216 : Nat) : Int) := by
        rw [show (X : Int) * 16777216 = ((X * 16777216 : Nat) : Int) by omega]
        exact u32_xor_nat _ _ hcl (by omega)
      have hYl : c ^^^ X * 16777216 < 4294967296 := Nat.xor_lt_two_pow (n := 32) hcl (by omega)
      have HB8 : Crc.byte c X = Crc.steps 8 (c ^^^ X * 16777216) := rfl
      rw [HB8] at HN
      clear hby hX HB8 hcx
      generalize c ^^^ X * 16777216 = Y at *
      have HXO := Lib.hid hxor
      clear hxor
      go_wp2
      go_loop [3, 6, 18] (fun c t i => ∃ m : Nat, m ≤ 8 ∧ i = .int .i64 m ∧ c = .int .u32 ((Crc.steps m Y : Nat) : Int)) (fun _ _ i => 8 - (intOf i).toNat)
      case atStart => exact ⟨0, Nat.zero_le _, rfl, by rw [HXO.out]; rfl⟩
      case round =>
        obtain ⟨m, hm, rfl, rfl⟩ := hrel
        have hsl := Crc.steps_lt m hYl
        have HS := Lib.hid (show Crc.steps (m + 1) Y = Crc.step (Crc.steps m Y) from rfl)
        by_cases hm8 : m < 8
        · have hm8' : (m : Int) < 8 := by omega
          generalize Crc.steps m Y = N at *
          cases hb : N.testBit 31
          · have hst : Crc.step N = N * 2 % 4294967296 := by unfold Crc.step; rw [hb, if_neg (by decide)]
            have hdiv : (N : Int) / 2147483648 = 0 := by
              have : N / 2147483648 = 0 := Crc.top_no hb hsl
              omega
            rw [hst] at HS
            have hN31 : N * 2 < 4294967296 := by omega
            rw [Nat.mod_eq_of_lt hN31] at HS
            have hx2 := u32_xor_nat (N * 2) 0 hN31 (by decide)
            rw [Nat.xor_zero] at hx2
            have HX := Lib.hid hx2
            clear hst hx2
            go_wp2
            go_round
            case rel => exact ⟨m + 1, by omega, by go_num, by rw [HS.out, ← HX.out]; rfl⟩
            case measure => simp [intOf]; omega
          · have hst : Crc.step N = (N * 2 % 4294967296) ^^^ 1947962583 := by unfold Crc.step; rw [hb, if_pos rfl]; rfl
            have hdiv : (N : Int) / 2147483648 = 1 := by
              have : N / 2147483648 = 1 := Crc.top_yes hb hsl
              omega
            have hx2 := u32_xor_nat (N * 2 % 4294967296) 1947962583 (Nat.mod_lt _ (by decide)) (by decide)
            rw [hst] at HS
            have HX := Lib.hid hx2
            clear hst hx2
            go_wp2
            go_round
            case rel => exact ⟨m + 1, by omega, by go_num, by rw [HS.out, ← HX.out]; rfl⟩
            case measure => simp [intOf]; omega
        · obtain rfl : m = 8 := by omega
          clear HS
          rw [← HN.out]
          go_wp2
          go_round
          case rel => exact ⟨j + 1, by omega, by go_num, rfl⟩
          case measure => simp [intOf]; omega
    · obtain rfl : j = l.length := by omega
      rw [Crc.upto_all]
      have hjs : ¬ (l.length : Int) < (l.length : Int) := by omega
      go_wp2
      go_ret
      exact ⟨rfl, rfl⟩
end Go.Proofs.Ytgmlbimgcifenaa
namespace Ms
open Im
theorem app_bytes {a b : List Int} (ha : IsBytes a) (hb : IsBytes b) : IsBytes (a ++ b) := fun x hx => (List.mem_append.1 hx).elim (ha x) (hb x)
theorem flat_bytes {α : Type} {f : α → List Int} : ∀ (l : List α), (∀ a ∈ l, IsBytes (f a)) → IsBytes (l.flatMap f) := fun l h x hx => by
  obtain ⟨a, ha, hx⟩ := List.mem_flatMap.1 hx
  exact h a ha x hx
theorem part_bytes {m : M} (hT : Ty m) (c : Int) : IsBytes (part m c) := by
  have hin : IsBytes (Im.bytesOf 1 (m.ins.length : Int) ++ m.ins.flatMap En.inBytes) := app_bytes (bytesOf_bytes _ _) (flat_bytes _ fun p _ => by unfold En.inBytes; exact app_bytes (bytesOf_bytes _ _) (app_bytes (bytesOf_bytes _ _) (bytesOf_bytes _ _)))
  have hlo : IsBytes (Im.bytesOf 1 (m.log.length : Int) ++ m.log.flatMap logBytes) := app_bytes (bytesOf_bytes _ _) (flat_bytes _ fun e _ => app_bytes (bytesOf_bytes _ _) (En.put_bytes e.e))
  have hda : IsBytes (Im.bytesOf 1 (m.data.length : Int) ++ m.data) := app_bytes (bytesOf_bytes _ _) hT.data
  unfold part
  repeat' split
  all_goals first | exact bytesOf_bytes _ _ | assumption
theorem body_bytes {m : M} (hT : Ty m) : IsBytes (body m) := by
  unfold body head
  exact app_bytes (app_bytes (app_bytes (app_bytes (app_bytes (bytesOf_bytes _ _) (bytesOf_bytes _ _)) (bytesOf_bytes _ _)) (bytesOf_bytes _ _)) (bytesOf_bytes _ _)) (flat_bytes _ fun c _ => part_bytes hT c)
theorem put_bytes {m : M} (hT : Ty m) : IsBytes (put m) := app_bytes (bytesOf_bytes _ _) (body_bytes hT)
end Ms
namespace Go.Proofs.Ytgmlbimgcifenaa
open Go.RowKit Go.Shelf
set_option linter.unusedVariables false
set_option linter.unusedSimpArgs false

set_option maxRecDepth 100000 in
set_option maxHeartbeats 1000000 in
theorem layu32_far (size : Nat) (x : Int) (P o : Nat) (t : TypeId) (cs : Array Value) (bs : List Int) (b Bb Bp : Nat) (w : World) (hs : size ≤ 8) (hx : 0 ≤ x ∧ x ≤ 4294967295) (hbB : b ≤ Bb) (h : Wr b Bb Bp bs w) (hl : bs.length + size ≤ 65536) (hP : Box w P t cs) (ho : cs[o]? = some (.int .u32 x)) (h1 : t ≠ 27) (h2 : t ≠ 5) (h3 : t ≠ 68) :
    Calls Try.prog 33 #[.func (.func 54) #[] #[.pointer (some ⟨Bp, 0, none⟩)], .int .i64 size, .pointer (some ⟨P, o, none⟩)] w fun e w' => e = .returned (.tuple #[]) ∧ Wr b Bb Bp (bs ++ Im.bytesOf size x) w' ∧ Wrote b Bb w w' ∧ FarK Bb w w' := by
  have hvx : IntKind.u64.wrap x = x := by rw [IntKind.wrap_u64]; omega
  have hwb : IntKind.u32.wrap x = x := by rw [IntKind.wrap_u32]; omega
  have cw := Lib.hid (write_far size x bs b Bb Bp w hs (by omega) hbB h hl)
  have HH := Lib.hid h
  have HP := Lib.hid hP
  have k0 := hP.cell o
  rw [ho] at k0
  have HO := Lib.hid ho
  clear h hP ho
  go_enter Try.func33, Try.ntmps33
  go_wp2_with (go_at_call 54; ((with_reducible refine (cw.out).mono ?_); rintro e w1 ⟨rfl, hI1, hK1, hF1⟩; have P1 := Lib.hid (HP.out.wrote' hK1 HH.out.isvar h1 h2); have I1 := Lib.hid hI1; have K1 := Lib.hid hK1; have F1 := Lib.hid hF1; have k1 := P1.out.cell o; rw [HO.out] at k1; have f1 := P1.out.free o; clear hI1 hK1 hF1 k0))
  go_end0
  have hB := fun k => setCell_noop P1.out HO.out k
  exact ⟨rfl, I1.out.off (p := ⟨P, o, none⟩) P1.out h3 h1 h2 _, K1.out.noop P1.out HO.out, fun g G hg hf => ⟨⟨(hB _).trans (F1.out g G hg hf).1.is⟩, fun A' n' c' h' => (F1.out g G hg hf).2 A' n' c' ⟨(hB _).symm.trans h'.is⟩⟩⟩


theorem wcatch_put (Bw Bb Bc : Nat) (u : TypeId) (pv : Value) (older : List PanicEntry) (w : World) (z : Int) (hw : Box w Bw 3 #[.int .i64 z]) (x : Value) (hb : Box w Bb 27 #[x]) (y : Int) (hc : Box w Bc 3 #[.int .i64 y]) :
    CallsD Try.prog 29 #[.pointer (some ⟨Bw, 0, none⟩), .pointer (some ⟨Bb, 0, none⟩), .pointer (some ⟨Bc, 0, none⟩)] (.panicking ({ v := .iface u pv, recovered := false } :: older)) w fun e u' w' =>
      e = .returned (.tuple #[]) ∧ u' = .panicking ({ v := .iface u pv, recovered := true } :: older) ∧ w' = (w.setCell ⟨Bb, 0, none⟩ (.slice none 0 0)).setCell ⟨Bc, 0, none⟩ (.int .i64 z) := by
  have ne : Bb ≠ Bc := Box.apart hb hc (by decide)
  have w0 := hw.cell 0
  have c1 := hb.cell 0
  have f1 := hb.free 0
  have c2 := hc.cell 0
  have f2 := hc.free 0
  refine callsD_of_wpS Try.func29 rfl fun c₀ cs hu => ?_
  apply wpS_seq
  apply wpS_region
  simp [wpOpsS, go_sem, recoverD, hu, Try.ntmps29, Exit.thenS]
  refine wpS_cond (t := true) (by simp [Act.eval, Array.replicate]) ?_
  simp only [if_true]
  apply wpS_region
  have c2' : (w.setCell ⟨Bb, 0, none⟩ (.slice none 0 0)).cell? ⟨Bc, 0, none⟩ = some (.int .i64 y) := (hc.far (p := ⟨Bb, 0, none⟩) (fun e => ne e.symm) _).cell 0
  have f2' : (w.setCell ⟨Bb, 0, none⟩ (.slice none 0 0)).frozen? ⟨Bc, 0, none⟩ = false := (hc.far (p := ⟨Bb, 0, none⟩) (fun e => ne e.symm) _).free 0
  simp [wpOpsS, go_sem, w0, c1, f1, c2', f2', bodyPostS, results, Try.results29]

theorem wcatch_idle_put (o p q : Addr) (w : World) :
    CallsD Try.prog 29 #[.pointer (some o), .pointer (some p), .pointer (some q)] .returning w fun e u' w' => e = .returned (.tuple #[]) ∧ u' = .returning ∧ w' = w := by
  refine callsD_of_wpS Try.func29 rfl fun c₀ cs hu => ?_
  apply wpS_seq
  apply wpS_region
  simp [wpOpsS, go_sem, recoverD, hu, Try.ntmps29, Exit.thenS]
  refine wpS_cond (t := false) (by simp [Act.eval, Array.replicate]) ?_
  simp only [Bool.false_eq_true, if_false]
  refine wpS_of_wp (wp_skip ?_)
  cases c₀
  simp_all [bodyPostS, results, Try.results29]

theorem msg_one (q : Ms.S) : q.cells.all (·.oneCell') = true := by
  unfold Ms.S.cells Ms.cells Ms.S.si Ms.S.sl Ms.S.sd
  simp [Value.oneCell']
theorem msg_info16 : (Try.prog.info? 29).map (·.size) = some 16 := by kernel_rfl
theorem LiesM.to {w X : World} {b : Nat} {q : Ms.S} (h : LiesM w b q) (hb : Below b w X) : LiesM X b q := ⟨h.ins.below hb, h.log.below hb, h.data.below hb, h.fi, h.fl, h.fd⟩
theorem LiesM.wide {w : World} {b b' : Nat} {q : Ms.S} (h : LiesM w b q) (hb : b ≤ b') : LiesM w b' q := ⟨h.ins.wider hb, h.log.wider hb, h.data.wider hb, h.fi, h.fl, h.fd⟩

set_option maxRecDepth 100000 in
set_option maxHeartbeats 2000000 in
theorem wput_no (q : Ms.S) (w : World) (hT : Ms.Ty q.m) (hno : ¬ Ms.Ok q.m) (hL : LiesM w w.heap.size q) :
    Calls Try.prog 14 #[.agg q.cells] w fun r w' => r = .returned (.tuple #[.slice none 0 0, .int .i64 1]) ∧ Below w.heap.size w w' := by
  have hmf : ∀ (fn : Fn) (first cap : Array Value) (w : World), (Instr.makeFunc fn first cap).run Try.prog w = .ok (.func fn first cap) w := fun _ _ _ _ => rfl
  obtain ⟨V, hV⟩ : ∃ V, V = ((((w.alloc (.cells q.cells 29)).alloc (.cells #[.slice none 0 0] 27)).alloc (.cells #[.int .i64 0] 3)).alloc (.cells #[.int .i64 1] 3)) := ⟨_, rfl⟩
  have P1 := Lib.hid (show Box V w.heap.size 29 q.cells by rw [hV]; exact (((Box.made w _ _).alloc _).alloc _).alloc _)
  have B1 := Lib.hid (show Box V (w.heap.size + 1) 27 #[.slice none 0 0] by rw [hV]; exact ((Box.made_at (n := w.heap.size + 1) (w.alloc (.cells q.cells 29)) _ _ (by simp)).alloc _).alloc _)
  have C1 := Lib.hid (show Box V (w.heap.size + 1 + 1) 3 #[.int .i64 0] by rw [hV]; exact (Box.made_at (n := w.heap.size + 1 + 1) ((w.alloc (.cells q.cells 29)).alloc (.cells #[.slice none 0 0] 27)) _ _ (by simp)).alloc _)
  have D1 := Lib.hid (show Box V (w.heap.size + 1 + 1 + 1) 3 #[.int .i64 1] by rw [hV]; exact Box.made_at (n := w.heap.size + 1 + 1 + 1) (((w.alloc (.cells q.cells 29)).alloc (.cells #[.slice none 0 0] 27)).alloc (.cells #[.int .i64 0] 3)) _ _ (by simp))
  have K1 := Lib.hid (show Below w.heap.size w V by rw [hV]; exact ((((Below.refl w.heap.size w).alloc (Nat.le_refl _) _).alloc (by simp) _).alloc (by simp <;> omega) _).alloc (by simp <;> omega) _)
  have HV := Lib.hid hV.symm
  have cm := Lib.hid (wmay_any q V hT ((hL.to K1.out).wide K1.out.size))
  rw [← Ms.okB_no hno] at cm
  clear hL hT hno hV
  go_enter_defers Try.func14, Try.ntmps14
  go_upto_region 3 with fail
  rw [HV.out]
  go_wp2_with (first | ((with_reducible refine load_at_gate rfl rfl Try.underlying29 rfl msg_info16 ?_); apply LoadAt.mk (cs := q.cells.toList) rfl (fun j v hv => by rw [addr_cell, Nat.zero_add, P1.out.cell]; simpa using hv) rfl; rw [Array.toArray_toList]) | (go_at_call 15; ((with_reducible refine (cm.out).mono ?_); rintro r w1 ⟨rfl, hb⟩; have D2 := Lib.hid (D1.out.below hb D1.out.lt); have C2 := Lib.hid (C1.out.below hb C1.out.lt); have B2 := Lib.hid (B1.out.below hb B1.out.lt); have K2 := Lib.hid (K1.out.trans (hb.mono K1.out.size)); clear hb)) | (go_at_call 30; ((with_reducible refine (need_no _ _).mono ?_); rintro r w2 ⟨rfl, rfl⟩)))
  refine leaves_cons (f := 29) (args := #[.pointer (some ⟨w.heap.size + 1 + 1 + 1, 0, none⟩), .pointer (some ⟨w.heap.size + 1, 0, none⟩), .pointer (some ⟨w.heap.size + 1 + 1, 0, none⟩)]) (by simp) (by simp [go_sem]) ?_
  refine (wcatch_put (w.heap.size + 1 + 1 + 1) (w.heap.size + 1) (w.heap.size + 1 + 1) _ _ [] _ _ D2.out _ B2.out _ C2.out).mono ?_
  have ne : w.heap.size + 1 ≠ w.heap.size + 1 + 1 := by omega
  have B4 := (B2.out.put 0 (.slice none 0 0)).far (p := ⟨w.heap.size + 1 + 1, 0, none⟩) ne (.int .i64 1)
  have C4 := (C2.out.far (p := ⟨w.heap.size + 1, 0, none⟩) (fun q => ne q.symm) (.slice none 0 0)).put 0 (.int .i64 1)
  have K4 := (K2.out.setCell (p := ⟨w.heap.size + 1, 0, none⟩) (Nat.le_succ _) (.slice none 0 0)).setCell (p := ⟨w.heap.size + 1 + 1, 0, none⟩) (by show w.heap.size ≤ w.heap.size + 1 + 1; omega) (.int .i64 1)
  have b4 := B4.cell 0
  have c4 := C4.cell 0
  simp at b4 c4
  rintro r u' w'' ⟨rfl, rfl, rfl⟩
  simp [Leaves, settle, results, Try.results14, go_sem, b4, c4]
  exact K4

/-- What Put of a message that may be says: its bytes, in a row of their own; or that they are too many. -/
def SaysPut (q : Ms.S) (w : World) (r : Ending) (w' : World) : Prop :=
  ((Ms.put q.m).length ≤ 1200 ∧ ∃ A c, r = .returned (.tuple #[.slice A (Ms.put q.m).length c, .int .i64 0]) ∧ (Ms.put q.m).length ≤ c ∧ w'.ownsRow w.heap.size 5 1 (.slice A (Ms.put q.m).length c) (Ms.put q.m).length (Im.u8s (Ms.put q.m)) ∧ Below w.heap.size w w') ∨
  (¬ (Ms.put q.m).length ≤ 1200 ∧ r = .returned (.tuple #[.slice none 0 0, .int .i64 4]) ∧ Below w.heap.size w w')
set_option maxRecDepth 100000 in
set_option maxHeartbeats 4000000 in
theorem wput_yes (q : Ms.S) (w : World) (hT : Ms.Ty q.m) (hok : Ms.Ok q.m) (hL : LiesM w w.heap.size q) :
    Calls Try.prog 14 #[.agg q.cells] w (SaysPut q w) := by
  have hmf : ∀ (fn : Fn) (first cap : Array Value) (w : World), (Instr.makeFunc fn first cap).run Try.prog w = .ok (.func fn first cap) w := fun _ _ _ _ => rfl
  obtain ⟨V, hV⟩ : ∃ V, V = ((((w.alloc (.cells q.cells 29)).alloc (.cells #[.slice none 0 0] 27)).alloc (.cells #[.int .i64 0] 3)).alloc (.cells #[.int .i64 1] 3)) := ⟨_, rfl⟩
  have P1 := Lib.hid (show Box V w.heap.size 29 q.cells by rw [hV]; exact (((Box.made w _ _).alloc _).alloc _).alloc _)
  have B1 := Lib.hid (show Box V (w.heap.size + 1) 27 #[.slice none 0 0] by rw [hV]; exact ((Box.made_at (n := w.heap.size + 1) (w.alloc (.cells q.cells 29)) _ _ (by simp)).alloc _).alloc _)
  have C1 := Lib.hid (show Box V (w.heap.size + 1 + 1) 3 #[.int .i64 0] by rw [hV]; exact (Box.made_at (n := w.heap.size + 1 + 1) ((w.alloc (.cells q.cells 29)).alloc (.cells #[.slice none 0 0] 27)) _ _ (by simp)).alloc _)
  have D1 := Lib.hid (show Box V (w.heap.size + 1 + 1 + 1) 3 #[.int .i64 1] by rw [hV]; exact Box.made_at (n := w.heap.size + 1 + 1 + 1) (((w.alloc (.cells q.cells 29)).alloc (.cells #[.slice none 0 0] 27)).alloc (.cells #[.int .i64 0] 3)) _ _ (by simp))
  have K1 := Lib.hid (show Below w.heap.size w V by rw [hV]; exact ((((Below.refl w.heap.size w).alloc (Nat.le_refl _) _).alloc (by simp) _).alloc (by simp <;> omega) _).alloc (by simp <;> omega) _)
  have HV := Lib.hid hV.symm
  have cm := Lib.hid (wmay_any q V hT ((hL.to K1.out).wide K1.out.size))
  rw [← Ms.okB_yes hok] at cm
  have ble := Ms.body_le hok
  have bby := Lib.hid (Ms.body_bytes hT)
  have HL := Lib.hid hL
  have HPUT := Lib.hid (show Ms.put q.m = Im.bytesOf 4 ((Crc.sum (Ms.body q.m) : Nat) : Int) ++ Ms.body q.m from rfl)
  have slt := Crc.sum_lt (Ms.body_bytes hT)
  clear hV
  have HTT := Lib.hid hT
  have HOK := Lib.hid hok
  clear hL hT hok
  go_enter_defers Try.func14, Try.ntmps14
  go_upto_region 3 with fail
  rw [HV.out]
  go_upto_region 5 with (first | ((with_reducible refine load_at_gate rfl rfl Try.underlying29 rfl msg_info16 ?_); apply LoadAt.mk (cs := q.cells.toList) rfl (fun j v hv => by rw [addr_cell, Nat.zero_add, P1.out.cell]; simpa using hv) rfl; rw [Array.toArray_toList]) | (go_at_call 15; ((with_reducible refine (cm.out).mono ?_); rintro r w1 ⟨rfl, hb⟩; have P2 := Lib.hid (P1.out.below hb P1.out.lt); have D2 := Lib.hid (D1.out.below hb D1.out.lt); have C2 := Lib.hid (C1.out.below hb C1.out.lt); have B2 := Lib.hid (B1.out.below hb B1.out.lt); have K2 := Lib.hid (K1.out.trans (hb.mono K1.out.size)); clear hb cm)) | (go_at_call 30; ((with_reducible refine (need_yes _ _).mono ?_); rintro r w2 ⟨rfl, rfl⟩)))
  have sz1 := K2.out.size
  obtain ⟨U, hU⟩ : ∃ U, U = (w1.alloc (.cells #[.slice none 0 0] 27)).alloc (.cells #[.pointer (some ⟨w1.heap.size, 0, none⟩)] 68) := ⟨_, rfl⟩
  have bU : Below w1.heap.size w1 U := by rw [hU]; exact ((Below.refl w1.heap.size w1).alloc (Nat.le_refl _) _).alloc (by simp) _
  have W3 : Wr w.heap.size w1.heap.size (w1.heap.size + 1) [] U := by rw [hU]; exact Wr.nil (Box.made_at (n := w1.heap.size + 1) (w1.alloc _) _ _ (by simp)) ((Box.made w1 _ _).alloc _)
  have P3 := Lib.hid (P2.out.below bU P2.out.lt)
  have D3 := Lib.hid (D2.out.below bU D2.out.lt)
  have C3 := Lib.hid (C2.out.below bU C2.out.lt)
  have B3 := Lib.hid (B2.out.below bU B2.out.lt)
  have K3 := Lib.hid (K2.out.trans (bU.mono sz1))
  have cl := Lib.hid (laymsg_w q w.heap.size [] w.heap.size w1.heap.size (w1.heap.size + 1) U HTT.out HOK.out sz1 (Nat.le_refl _) K3.out.size W3 (by simp) P3.out (HL.out.to K3.out))
  rw [List.nil_append] at cl
  have ltb := B2.out.lt
  subst hU
  clear W3 bU
  go_upto_region 6 with (first | (go_at_call 32; ((with_reducible refine (writer_any _ _).mono ?_); rintro r w3 ⟨rfl, rfl⟩)) | (go_at_call 31; ((with_reducible refine (cl.out).mono ?_); rintro r w4 ⟨rfl, hI, hB, hK, hVK⟩; have I4 := Lib.hid hI; have D4 := Lib.hid (hK _ _ _ D3.out (by omega) (by decide) (by decide)); have C4 := Lib.hid (hK _ _ _ C3.out (by omega) (by decide) (by decide)); have B4 := Lib.hid (hVK _ _ B3.out (by omega) (by omega)); have K4 := Lib.hid (K3.out.trans hB); have Z4 := Lib.hid hB.size; clear hI hB hK hVK cl)))
  obtain ⟨hp4, A4, k4, hv4, how4⟩ := I4.out
  obtain ⟨m, hm⟩ : ∃ m, m = (Ms.body q.m).length := ⟨_, rfl⟩
  rw [← hm] at hv4 how4 ble
  have HM := Lib.hid hm.symm
  have v4 := hv4.cell 0
  have hm0 : m ≠ 0 := by have := HM.out; unfold Ms.body at this; rw [List.length_append, Ms.head_len] at this; omega
  have L4 := Lies.owned how4
  have cc := Lib.hid (wcheck_any (Ms.body q.m) A4 m k4 w4 bby.out (by unfold maxLen; omega) L4)
  have HV4 := Lib.hid hv4
  have OW4 := Lib.hid how4
  have sz4 : w.heap.size ≤ w4.heap.size := K4.out.size
  have ltv := hv4.lt
  clear hp4 hv4 how4 L4 hm
  go_upto_region 7 with (go_at_call 23; ((with_reducible refine (cc.out).mono ?_); rintro r w5 ⟨rfl, rfl⟩))
  obtain ⟨U, hU⟩ : ∃ U, U = (w4.alloc (.cells #[.int .u32 ((Crc.sum (Ms.body q.m) : Nat) : Int)] 23)).alloc (.cells #[.pointer (some ⟨w.heap.size + 1, 0, none⟩)] 68) := ⟨_, rfl⟩
  have bU : Below w4.heap.size w4 U := by rw [hU]; exact ((Below.refl w4.heap.size w4).alloc (Nat.le_refl _) _).alloc (by simp) _
  have Q5 : Box U w4.heap.size 23 #[.int .u32 ((Crc.sum (Ms.body q.m) : Nat) : Int)] := by rw [hU]; exact (Box.made w4 _ _).alloc _
  have D5 := Lib.hid (D4.out.below bU D4.out.lt)
  have C5 := Lib.hid (C4.out.below bU C4.out.lt)
  have B5 := Lib.hid (B4.out.below bU B4.out.lt)
  have V5 := Lib.hid (HV4.out.below bU ltv)
  have OW5 := Lib.hid (own_below OW4.out bU (Nat.le_refl _))
  have K5 := Lib.hid (K4.out.trans (bU.mono sz4))
  have W5 : Wr w.heap.size (w.heap.size + 1) (w4.heap.size + 1) [] U := Wr.nil (by rw [hU]; exact Box.made_at (n := w4.heap.size + 1) (w4.alloc _) _ _ (by simp)) B5.out
  have c5 := Lib.hid (layu32_far 4 ((Crc.sum (Ms.body q.m) : Nat) : Int) w4.heap.size 0 23 #[.int .u32 ((Crc.sum (Ms.body q.m) : Nat) : Int)] [] w.heap.size (w.heap.size + 1) (w4.heap.size + 1) U (by decide) (by omega) (Nat.le_succ _) W5 (by simp) Q5 rfl (by decide) (by decide) (by decide))
  rw [List.nil_append, show ((4 : Nat) : Int) = 4 from rfl] at c5
  obtain ⟨g, cur, hA4, hbg, hmc, hgB, hcur⟩ := own_row OW5.out hm0
  have hF5 : Far g (w.heap.size + 1) U := fun A n c hB => by rw [hB.is_one B5.out]; intro h; cases h
  have IV5 := Lib.hid W5.isvar
  have GB := Lib.hid hgB
  have GF := Lib.hid hF5
  have GC := Lib.hid hcur
  have HA := Lib.hid hA4
  subst hU
  clear W5 Q5 bU hgB hF5 hcur hA4 cc
  go_upto_region 8 with (first | (go_at_call 32; ((with_reducible refine (writer_any _ _).mono ?_); rintro r w6 ⟨rfl, rfl⟩)) | (go_at_call 33; ((with_reducible refine (c5.out).mono ?_); rintro r w7 ⟨rfl, hI, hK, hF⟩; have I7 := Lib.hid hI; have D7 := Lib.hid (D5.out.wrote' hK IV5.out (by decide) (by decide)); have C7 := Lib.hid (C5.out.wrote' hK IV5.out (by decide) (by decide)); have V7 := Lib.hid (V5.out.wrote hK (by omega) (by decide)); have G7 := Lib.hid (hF g cur GB.out GF.out).1; have K7 := Lib.hid (K5.out.trans (hK.to K5.out.size)); clear hI hK hF c5)))
  obtain ⟨hp7, Ab, kb, hvb, howb⟩ := I7.out
  rw [Im.bytesOf_len] at hvb howb
  have b7 := hvb.cell 0
  have v7 := V7.out.cell 0
  have L7 := Lib.hid (show Lies w7 w7.heap.size 1 A4 m (Im.u8s (Ms.body q.m)) by rw [HA.out]; exact G7.out.row_lies HM.out GC.out)
  have HB7 := Lib.hid hvb
  have OW7 := Lib.hid howb
  have sz7 : w.heap.size ≤ w7.heap.size := K7.out.size
  obtain ⟨i0, hi0, hz0, hz1, hz2⟩ := u8_parts
  have HI := Lib.hid hi0
  have HZ := Lib.hid hz0
  have HS := Lib.hid hz1
  have HY := Lib.hid hz2
  clear hp7 hvb howb hi0 hz0 hz1 hz2
  go_upto_region 9 with ((with_reducible refine append_gate (x := .tmp 17) (y := .tmp 18) (t := 27) (e := 5) (size := 1) (bytes := 1) rfl rfl Try.underlying27 HI.out HZ.out HS.out HY.out rfl (by decide) ?_); refine Appends.mk (base := w.heap.size) (n := 4) (xs := Im.u8s (Im.bytesOf 4 ((Crc.sum (Ms.body q.m) : Nat) : Int))) rfl OW7.out L7.out (Im.u8s_one _) (by unfold maxLen; omega) (by omega) sz7 ?_; intro A9 k9 w9 how9 hg9; have D9 := Lib.hid (D7.out.grown hg9 (D7.out.unowned OW7.out (by decide))); have C9 := Lib.hid (C7.out.grown hg9 (C7.out.unowned OW7.out (by decide))); have B9 := Lib.hid (HB7.out.grown hg9 (HB7.out.unowned OW7.out (by decide))); have K9 := Lib.hid (K7.out.trans (((Wrote.refl (b := w.heap.size) (B := w.heap.size + 1) (Nat.le_succ _) w7).grown OW7.out hg9).to sz7)); have OW9 := Lib.hid how9; have f9 := B9.out.free 0; have b9 := B9.out.cell 0; clear hg9 how9)
  have ne12 : w.heap.size + 1 ≠ w.heap.size + 1 + 1 := by omega
  have ne13 : w.heap.size + 1 ≠ w.heap.size + 1 + 1 + 1 := by omega
  have ne23 : w.heap.size + 1 + 1 ≠ w.heap.size + 1 + 1 + 1 := by omega
  have D10 := Lib.hid (D9.out.far (p := ⟨w.heap.size + 1, 0, none⟩) ne13.symm (.slice A9 (4 + m) k9))
  have d10 := D10.out.cell 0
  have e10 := D10.out.free 0
  have OW10 := Lib.hid (ownsRow_setCell_other (a := ⟨w.heap.size + 1, 0, none⟩) OW9.out (B9.out.unowned OW9.out (by decide)) (.slice A9 (4 + m) k9))
  clear f9 b9 b7 v7
  go_upto_region 10 with fail
  obtain ⟨U, hU⟩ : ∃ U, U = (w9.setCell ⟨w.heap.size + 1, 0, none⟩ (.slice A9 (4 + m) k9)).setCell ⟨w.heap.size + 1 + 1 + 1, 0, none⟩ (.int .i64 4) := ⟨_, rfl⟩
  have BU := Lib.hid (show Box U (w.heap.size + 1) 27 #[(.slice A9 (4 + m) k9)] by rw [hU]; exact (B9.out.put 0 (.slice A9 (4 + m) k9)).far (p := ⟨w.heap.size + 1 + 1 + 1, 0, none⟩) ne13 _)
  have CU := Lib.hid (show Box U (w.heap.size + 1 + 1) 3 #[.int .i64 0] by rw [hU]; exact (C9.out.far (p := ⟨w.heap.size + 1, 0, none⟩) ne12.symm _).far (p := ⟨w.heap.size + 1 + 1 + 1, 0, none⟩) ne23 _)
  have DU := Lib.hid (show Box U (w.heap.size + 1 + 1 + 1) 3 #[.int .i64 4] by rw [hU]; exact D10.out.put 0 _)
  have KU := Lib.hid (show Below w.heap.size w U by rw [hU]; exact (K9.out.setCell (p := ⟨w.heap.size + 1, 0, none⟩) (Nat.le_succ _) _).setCell (p := ⟨w.heap.size + 1 + 1 + 1, 0, none⟩) (by show w.heap.size ≤ w.heap.size + 1 + 1 + 1; omega) _)
  have OWU := Lib.hid (show U.ownsRow w.heap.size 5 1 (.slice A9 (4 + m) k9) (4 + m) (Im.u8s (Ms.put q.m)) by rw [hU, HPUT.out, Im.u8s_append]; exact ownsRow_setCell_other (a := ⟨w.heap.size + 1 + 1 + 1, 0, none⟩) OW10.out (D10.out.unowned OW10.out (by decide)) _)
  have HLEN := Lib.hid (show (Ms.put q.m).length = 4 + m by rw [HPUT.out, List.length_append, Im.bytesOf_len, HM.out])
  rw [← hU]
  clear hU d10 e10
  have bu := BU.out.cell 0
  have fu := BU.out.free 0
  have cu := CU.out.cell 0
  have gu := CU.out.free 0
  by_cases hle : 4 + m ≤ 1200
  · have hle' : (4 : Int) + (m : Int) ≤ 1200 := by omega
    have CU2 := CU.out.far (p := ⟨w.heap.size + 1, 0, none⟩) ne12.symm (.slice A9 (4 + m) k9)
    have cu2 := CU2.cell 0
    have gu2 := CU2.free 0
    clear CU2
    go_wp2_with (go_at_call 30; ((with_reducible refine (need_yes _ _).mono ?_); rintro r wn ⟨rfl, rfl⟩))
    have B4 := (BU.out.put 0 (.slice A9 (4 + m) k9)).far (p := ⟨w.heap.size + 1 + 1, 0, none⟩) ne12 (.int .i64 0)
    have C4 := (CU.out.far (p := ⟨w.heap.size + 1, 0, none⟩) ne12.symm (.slice A9 (4 + m) k9)).put 0 (.int .i64 0)
    have K4 := (KU.out.setCell (p := ⟨w.heap.size + 1, 0, none⟩) (Nat.le_succ _) (.slice A9 (4 + m) k9)).setCell (p := ⟨w.heap.size + 1 + 1, 0, none⟩) (by show w.heap.size ≤ w.heap.size + 1 + 1; omega) (.int .i64 0)
    have O1 := ownsRow_setCell_other (a := ⟨w.heap.size + 1, 0, none⟩) OWU.out (BU.out.unowned OWU.out (by decide)) (.slice A9 (4 + m) k9)
    have OW := ownsRow_setCell_other (a := ⟨w.heap.size + 1 + 1, 0, none⟩) O1 ((CU.out.far (p := ⟨w.heap.size + 1, 0, none⟩) ne12.symm (.slice A9 (4 + m) k9)).unowned O1 (by decide)) (.int .i64 0)
    have b4 := B4.cell 0
    have c4 := C4.cell 0
    simp at b4 c4
    refine leaves_cons (f := 29) (args := #[.pointer (some ⟨w.heap.size + 1 + 1 + 1, 0, none⟩), .pointer (some ⟨w.heap.size + 1, 0, none⟩), .pointer (some ⟨w.heap.size + 1 + 1, 0, none⟩)]) (by simp) (by simp [go_sem]) ?_
    refine (wcatch_idle_put _ _ _ _).mono ?_
    rintro r u' w'' ⟨rfl, rfl, rfl⟩
    simp [Leaves, settle, results, Try.results14, go_sem, b4, c4]
    refine .inl ⟨by rw [HLEN.out]; exact hle, A9, k9, ?_, ?_, ?_, K4⟩
    · rw [HLEN.out]
    · rw [HLEN.out]; exact own_cap OWU.out
    · rw [HLEN.out]; exact OW
  · have hle' : ¬ (4 : Int) + (m : Int) ≤ 1200 := by omega
    go_wp2_with (go_at_call 30; ((with_reducible refine (need_no _ _).mono ?_); rintro r wn ⟨rfl, rfl⟩))
    refine leaves_cons (f := 29) (args := #[.pointer (some ⟨w.heap.size + 1 + 1 + 1, 0, none⟩), .pointer (some ⟨w.heap.size + 1, 0, none⟩), .pointer (some ⟨w.heap.size + 1 + 1, 0, none⟩)]) (by simp) (by simp [go_sem]) ?_
    refine (wcatch_put (w.heap.size + 1 + 1 + 1) (w.heap.size + 1) (w.heap.size + 1 + 1) _ _ [] _ _ DU.out _ BU.out _ CU.out).mono ?_
    have ne : w.heap.size + 1 ≠ w.heap.size + 1 + 1 := by omega
    have B4 := (BU.out.put 0 (.slice none 0 0)).far (p := ⟨w.heap.size + 1 + 1, 0, none⟩) ne (.int .i64 4)
    have C4 := (CU.out.far (p := ⟨w.heap.size + 1, 0, none⟩) (fun q => ne q.symm) (.slice none 0 0)).put 0 (.int .i64 4)
    have K4 := (KU.out.setCell (p := ⟨w.heap.size + 1, 0, none⟩) (Nat.le_succ _) (.slice none 0 0)).setCell (p := ⟨w.heap.size + 1 + 1, 0, none⟩) (by show w.heap.size ≤ w.heap.size + 1 + 1; omega) (.int .i64 4)
    have b4 := B4.cell 0
    have c4 := C4.cell 0
    simp at b4 c4
    rintro r u' w'' ⟨rfl, rfl, rfl⟩
    simp [Leaves, settle, results, Try.results14, go_sem, b4, c4]
    exact .inr ⟨by rw [HLEN.out]; exact hle, rfl, K4⟩
end Go.Proofs.Ytgmlbimgcifenaa
