/-
Several texts in one: Zin Eo Yg Yi Yl Zh Rx.
-/
import Derived.Test.YtgmlbimgcifenaaVp6
namespace Go.Proofs.Ytgmlbimgcifenaa
open Go.RowKit Go.Shelf
set_option linter.unusedVariables false
set_option linter.unusedSimpArgs false

theorem zin_infoZ : (Try.prog.info? 50).map (fun i => (i.zero, i.size, i.bytes)) = some (some (Value.agg #[.int .i8 0, .int .i8 0, .int .u8 0]), 3, 3) := by kernel_rfl
theorem zin_sz : (Try.prog.info? 50).map (·.size) = some 3 := by kernel_rfl

set_option maxRecDepth 100000 in
set_option maxHeartbeats 4000000 in
theorem listzin_w (C : List Value) (ys : List (List Int)) (n : Nat) (A : Option Addr) (c size : Nat) (z : Int) (hz : z = size) (P o : Nat) (t : TypeId) (cs : Array Value) (bs : List Int) (b Bb Bp : Nat) (w : World) (hn : ys.length = n) (hn16 : n ≤ 4096) (hs : size ≤ 8) (hbB : b ≤ Bb) (hbP : b ≤ P) (hbw : b ≤ w.heap.size) (h : Wr b Bb Bp bs w) (hl : bs.length + size + ys.flatten.length ≤ 65536) (hP : Box w P t cs)
    (ho : cs[o]? = some (.slice A n c)) (hL : Lies w b 3 A n C) (hone : ∀ u ∈ C, u.oneCell' = true) (h1 : t ≠ 27) (h2 : t ≠ 5) (h3 : t ≠ 68) (hc : EachW 78 50 3 C ys b Bb Bp w) :
    Calls Try.prog 77 #[.func (.func 54) #[] #[.pointer (some ⟨Bp, 0, none⟩)], .int .i64 z, .pointer (some ⟨P, o, none⟩), .func (.func 78) #[] #[]] w fun e w' => e = .returned (.tuple #[]) ∧ Wr b Bb Bp (bs ++ (Im.bytesOf size n ++ ys.flatten)) w' ∧ Below b w w' ∧ Kb P w w' ∧ VarK Bb P w w' ∧ ∃ S, Box w' P t (cs.setIfInBounds o (.slice (some ⟨S, 0, none⟩) n n)) := by
  subst hz
  have k0 := hP.cell o
  rw [ho] at k0
  have ltP := hP.lt
  have hwn : IntKind.u64.wrap (n : Int) = n := by rw [IntKind.wrap_u64]; omega
  have HL := Lib.hid (Box.made w 3 #[.int .i64 n])
  have HPA := Lib.hid (hP.alloc (.cells #[.int .i64 n] 3))
  have HA := Lib.hid (h.alloc (.cells #[.int .i64 n] 3))
  have WA := Lib.hid ((Wrote.refl hbB w).alloc (.cells #[.int .i64 n] 3))
  have KA := Lib.hid ((Kb.refl (B := P) w).call (one_below w (.cells #[.int .i64 n] 3)))
  have VA := Lib.hid ((VarK.refl (Bb := Bb) (P := P) w).call (one_below w (.cells #[.int .i64 n] 3)))
  have c1 := Lib.hid (layint_w size size rfl n w.heap.size 0 3 #[.int .i64 n] bs b Bb Bp _ hs (by omega) hbB HA.out (by omega) HL.out rfl (by decide) (by decide) (by decide))
  rw [hwn] at c1
  have hvar := Lib.hid HA.out.isvar
  have HO := Lib.hid ho
  have HLs := Lib.hid hL
  obtain ⟨i0, hi0, hz0, hz1, hz2⟩ := info_parts zin_infoZ
  obtain ⟨Z, hZ⟩ : ∃ Z, Z = madeCells (Value.agg #[.int .i8 0, .int .i8 0, .int .u8 0]).cells (n * 3) := ⟨_, rfl⟩
  have hZs : Z.size = n * 3 := by rw [hZ, size_madeCells]
  have hCs : C.length = n * 3 := hL.len
  have hmk : ∀ W : World, (Instr.makeSlice 25 (.int .i64 (n : Int)) (.int .i64 (n : Int))).run Try.prog W = .ok (.slice (some ⟨W.heap.size, 0, none⟩) n n) (W.alloc (.cells Z 50)) := fun W => by
    have := run_make (P := Try.prog) W 25 50 i0 _ Try.underlying25 hi0 hz0 .i64 .i64 n n (by omega) (Int.le_refl _) (by rw [hz2]; omega) (by omega)
    rw [this, hZ, hz1, Int.toNat_natCast]
  have hcp : ∀ W : World, Lies W W.heap.size 3 A n C → (Builtin.copy_ #[25, 25] 3 #[.slice (some ⟨W.heap.size, 0, none⟩) n n, .slice A n c]).run Try.prog (W.alloc (.cells Z 50)) = .ok (.int .i64 n) (W.alloc (.cells C.toArray 50)) := fun W hW => by
    cases A with
    | none =>
      have hn0 : n = 0 := by
        by_cases h0 : n = 0
        · exact h0
        · obtain ⟨ad, e, _⟩ := hW.start h0
          cases e
      have hl0 : C = [] := List.eq_nil_of_length_eq_zero (by omega)
      have hz : Z = #[] := Array.eq_empty_of_size_eq_zero (by omega)
      have := run_copy_nought (P := Try.prog) (W.alloc (.cells Z 50)) 25 25 3 50 ⟨W.heap.size, 0, none⟩ n n c Try.underlying25 (by rw [Option.isSome_map]; rw [hi0]; rfl)
      rw [hn0] at this ⊢
      rw [hl0]
      rw [hz] at this ⊢
      simpa [goInt] using this
    | some ad =>
      have hc : ∀ j v, C[j]? = some v → (W.alloc (.cells Z 50)).cell? (ad.add j) = some v := fun j v hv => by
        have hn0 : n ≠ 0 := fun e => by
          have := (List.getElem?_eq_some_iff.1 hv).1
          omega
        exact (hW.below (one_below W (.cells Z 50))).cell ad rfl hn0 j v hv
      have := run_copy_rows (P := Try.prog) (W.alloc (.cells Z 50)) 25 25 3 50 3 W.heap.size n n ad n c Z 50 C Try.underlying25 zin_sz (Box.made W _ _).is (by rw [hW.len]; simp) hc (by rw [hW.len, hZs]) hone
      rw [World.setRow_alloc_new] at this
      simpa [goInt] using this
  have NL := Lib.hid hn
  have HC := Lib.hid hc
  have HCS := Lib.hid hCs
  clear h hP ho hL hZ hn hc hCs
  go_enter Try.func77, Try.ntmps77
  go_upto_region 2 with (go_at_call 51; ((with_reducible refine (c1.out).mono ?_); rintro e w1 ⟨rfl, hI1, hK1⟩; have L1 := HL.out.wrote' hK1 hvar.out (by decide) (by decide); have l1 := L1.cell 0; have P1 := Lib.hid (HPA.out.wrote' hK1 hvar.out h1 h2); have I1 := Lib.hid hI1; have K1 := Lib.hid (WA.out.trans hK1); have B1 := Lib.hid (KA.out.wrote hK1 hvar.out); have V1 := Lib.hid (VA.out.wrote hK1); clear hI1 hK1 L1 k0))
  have lw1 := (HLs.out.below (K1.out.to hbw))
  have hcpw := hcp w1 (lw1.wider (Nat.le_trans hbw K1.out.size))
  have p58 : ∀ x, (w1.alloc x).cell? ⟨P, o, none⟩ = some (.slice A n c) := fun x => ((P1.out.alloc x).cell o).trans HO.out
  have sz1 : w.heap.size ≤ w1.heap.size := K1.out.size
  clear hcp lw1 HLs HL HPA HA WA KA VA c1
  go_upto_region 4 with fail
  obtain ⟨U, hU⟩ : ∃ U, U = w1.alloc (.cells C.toArray 50) := ⟨_, rfl⟩
  have PU : Box U P t cs := by rw [hU]; exact P1.out.alloc _
  have SU : Box U w1.heap.size 50 C.toArray := by rw [hU]; exact Box.made w1 _ _
  have IU : Wr b Bb Bp (bs ++ Im.bytesOf size n) U := by rw [hU]; exact I1.out.alloc _
  have BU : Below b w U := by rw [hU]; exact (K1.out.to hbw).alloc (Nat.le_trans hbw sz1) _
  have KU : Kb P w U := by rw [hU]; exact B1.out.call (one_below _ _)
  have VU : VarK Bb P w U := by rw [hU]; exact V1.out.call (one_below _ _)
  have hSP : w1.heap.size ≠ P := by have := P1.out.lt; omega
  have hbS : b ≤ w1.heap.size := Nat.le_trans hbw sz1
  have hSw : w.heap.size ≤ w1.heap.size := sz1
  rw [← hU]
  generalize w1.heap.size = S at *
  have IU := Lib.hid IU
  have PU := Lib.hid PU
  have SU := Lib.hid SU
  have BU := Lib.hid BU
  have KU := Lib.hid KU
  have VU := Lib.hid VU
  clear hU I1 K1 P1 B1 V1 p58 hcpw hmk l1 hvar sz1
  go_upto_region 5 with fail
  go_loopw [10, 27] (fun _ i wr => ∃ k : Nat, k ≤ n ∧ i = .int .i64 k ∧ Wr b Bb Bp (bs ++ Im.bytesOf size n ++ (ys.take k).flatten) wr ∧ Below b U wr ∧ Kb S U wr ∧ VarK Bb S U wr ∧ ∃ Y, Box wr S 50 Y ∧ Y.size = C.length ∧ ∀ j, k * 3 ≤ j → Y[j]? = C[j]?) (fun _ i _ => n - (intOf i).toNat)
  case atStart => exact ⟨0, by omega, rfl, by simpa using IU.out, Below.refl _ _, Kb.refl _, VarK.refl _, _, SU.out, by simp, fun j _ => by simp⟩
  case round =>
    obtain ⟨k, hk, rfl, hI, hB, hK, hVK, Y, hY, hYs, hYc⟩ := hrel
    by_cases hlt : k < n
    · have hk8 : (k : Int) < n := by omega
      have hkl : k < ys.length := by have := NL.out; omega
      have ht := Im.flat_take hkl
      have hle := Im.flat_le ys (k + 1)
      rw [ht, List.length_append] at hle
      have HT := Lib.hid ht
      have cc := Lib.hid (HC.out k S wr Y (bs ++ Im.bytesOf size n ++ (ys.take k).flatten) hkl (BU.out.trans hB) hbS hI (by rw [List.length_append, List.length_append, Im.bytesOf_len]; omega) hY (fun j hj => hYc _ (by omega)))
      have HB := Lib.hid hB
      have HK := Lib.hid hK
      have HVK := Lib.hid hVK
      have HYs := Lib.hid hYs
      have HYc := Lib.hid hYc
      clear ht hle hI hB hK hVK hYs hYc hY
      go_wp2_with (go_at_call 78; ((with_reducible refine (cc.out).mono ?_); rintro e w3 ⟨rfl, hI, hB, hK, hVK, Y', hY, hYs, hYc⟩; have V3 := Lib.hid (HVK.out.trans hVK); have I3 := Lib.hid hI; have B3 := Lib.hid (HB.out.trans hB); have K3 := Lib.hid (HK.out.trans hK); have Y3 := Lib.hid hY; have Z3 := Lib.hid (hYs.trans HYs.out); have C3 := Lib.hid hYc; clear hI hB hK hVK hY hYs hYc))
      go_roundw
      case rel => exact ⟨k + 1, by omega, by go_num, by rw [HT.out, ← List.append_assoc]; exact I3.out, B3.out, K3.out, V3.out, Y', Y3.out, Z3.out, fun j hj => by rw [C3.out j (by omega)]; exact HYc.out j (by omega)⟩
      case measure => simp [intOf]; omega
    · have hk8 : ¬ (k : Int) < n := by omega
      obtain rfl : k = n := by omega
      have ht : ys.take k = ys := List.take_of_length_le (by have := NL.out; omega)
      rw [ht] at hI
      have HI := Lib.hid hI
      have HK := Lib.hid hK
      have HB := Lib.hid hB
      have HVK := Lib.hid hVK
      have PW := Lib.hid (hK P t cs PU.out hSP.symm h1 h2)
      have pc : wr.cell? ⟨P, o, none⟩ = some (.slice A k c) := (PW.out.cell o).trans HO.out
      have pf : wr.frozen? ⟨P, o, none⟩ = false := PW.out.free o
      clear hI hK hB hVK hY hYs hYc
      go_wp2
      go_end0
      exact ⟨rfl, by rw [← List.append_assoc]; exact HI.out.off (p := ⟨P, o, none⟩) PW.out h3 h1 h2 _, (BU.out.trans HB.out).setCell hbP _, (KU.out.fresh HK.out hSw).put o _, (VU.out.fresh HVK.out hSw).put o _, S, PW.out.put o _⟩

set_option maxRecDepth 100000 in
set_option maxHeartbeats 4000000 in
theorem listzin_r {α : Type} (dec : List Int → Option (α × List Int)) (Good : World → α → List Value → Prop) (size : Nat) (z : Int) (hz : z = size) (P o : Nat) (t : TypeId) (cs : Array Value) (bs : List Int) (b Bb Bp : Nat) (w : World) (hBy : Im.IsBytes bs) (hs : 1 ≤ size ∧ size ≤ 2) (hbB : b ≤ Bb) (hbP : b ≤ P) (hbw : b ≤ w.heap.size) (h : Rd b Bb Bp bs w) (hP : Box w P t cs)
    (ho : cs[o]? = some (.slice none 0 0)) (h1 : t ≠ 27) (h2 : t ≠ 5) (h3 : t ≠ 68)
    (hG1 : ∀ X X' S Y v C, Box X S 50 Y → Kb S X X' → Good X v C → Good X' v C) (hG2 : ∀ X X' Y v C, Box X P t Y → Kb P X X' → Good X v C → Good X' v C)
    (hc : EachR 78 50 3 (Value.agg #[.int .i8 0, .int .i8 0, .int .u8 0]).cells.toList dec Good b Bb Bp w) :
    Calls Try.prog 77 #[.func (.func 60) #[] #[.pointer (some ⟨Bp, 0, none⟩)], .int .i64 z, .pointer (some ⟨P, o, none⟩), .func (.func 78) #[] #[]] w (GotL 50 3 (Im.decL size dec bs) Good b Bb Bp P o t cs w) := by
  subst hz
  have k0 := hP.cell o
  rw [ho] at k0
  have ltP := hP.lt
  have HPA := Lib.hid (hP.alloc (.cells #[.int .i64 0] 3))
  have HKA := Lib.hid (Rk.alloc (w := w) (Bb := Bb) (P := P) hbw (.cells #[.int .i64 0] 3))
  have c1 := Lib.hid (part_int size size rfl 0 w.heap.size 0 3 #[.int .i64 0] bs b Bb Bp _ (by omega) hBy hbB hbw (by simp <;> omega) (h.call (one_below w (.cells #[.int .i64 0] 3)) hbw) (Box.made w 3 #[.int .i64 0]) rfl (by decide) (by decide) (by decide))
  obtain ⟨i0, hi0, hz0, hz1, hz2⟩ := info_parts zin_infoZ
  have hmk : ∀ (n : Nat), n < 65536 → ∀ W : World, (Instr.makeSlice 25 (.int .i64 (n : Int)) (.int .i64 (n : Int))).run Try.prog W = .ok (.slice (some ⟨W.heap.size, 0, none⟩) n n) (W.alloc (.cells (madeCells (Value.agg #[.int .i8 0, .int .i8 0, .int .u8 0]).cells (n * 3)) 50)) := fun n hn W => by
    have := run_make (P := Try.prog) W 25 50 i0 _ Try.underlying25 hi0 hz0 .i64 .i64 n n (by omega) (Int.le_refl _) (by rw [hz2]; omega) (by omega)
    rw [this, hz1, Int.toNat_natCast]
  have hcp : ∀ (n : Nat) (Z : Array Value) (W : World), (Builtin.copy_ #[25, 25] 3 #[.slice (some ⟨W.heap.size, 0, none⟩) n n, .slice none 0 0]).run Try.prog (W.alloc (.cells Z 50)) = .ok (.int .i64 0) (W.alloc (.cells Z 50)) := fun n Z W => by
    have := run_copy_nought (P := Try.prog) (W.alloc (.cells Z 50)) 25 25 3 50 ⟨W.heap.size, 0, none⟩ n n 0 Try.underlying25 (by rw [Option.isSome_map]; rw [hi0]; rfl)
    simpa [goInt] using this
  have HO := Lib.hid ho
  have HB := Lib.hid hbP
  have HW := Lib.hid hbw
  have HY := Lib.hid hBy
  have HC := Lib.hid hc
  have G1 := Lib.hid hG1
  have G2 := Lib.hid hG2
  have HS := Lib.hid hs
  clear h hP ho hBy hc hG1 hG2 hs
  go_enter Try.func77, Try.ntmps77
  go_upto_region 2 with (go_at_call 51; ((with_reducible refine (c1.out).mono ?_); rintro r w1 (⟨m, r1, hr, rfl, hI, hK, hB1⟩ | ⟨hn, ⟨ss, rfl⟩, hK, cs', hB1, hs⟩); (all_goals first | (have R1 := Lib.hid hr; have Y1 := Lib.hid (Im.rdn_inv HY.out hr); have l1 := hB1.cell 0; have P1 := Lib.hid (hK.kb _ _ _ HPA.out (by omega) h1 h2); have I1 := Lib.hid hI; have K1 := Lib.hid (HKA.out.local hK (Nat.le_refl _)); clear hr hI hK hB1 c1 k0) | (have N1 := Lib.hid hn; have F1 := Lib.hid (HKA.out.local hK (Nat.le_refl _)); have Q1 := Lib.hid (hK.kb _ _ _ HPA.out (by omega) h1 h2); clear hn hK hB1 hs c1 k0))))
  rotate_left
  · refine ⟨rfl, .inr ⟨?_, ⟨_, rfl⟩, F1.out, Q1.out⟩⟩
    unfold Im.decL
    rw [N1.out, Option.bind_none]
  obtain ⟨n, hmn⟩ : ∃ n : Nat, m = n := ⟨m.toNat, by have := Y1.out.2.1; omega⟩
  subst hmn
  have hn256 : n < 65536 := by
    have h1 := Y1.out.2.2.1
    have h2 : (2 : Int) ^ (8 * size) ≤ 2 ^ 16 := by
      have := Nat.pow_le_pow_right (show 0 < 2 by decide) (show 8 * size ≤ 16 by have := HS.out; omega)
      exact_mod_cast this
    omega
  have HDE := Lib.hid (show Im.decL size dec bs = Im.decFrom dec [] n r1 by unfold Im.decL; rw [R1.out, Option.bind_some, Int.toNat_natCast, Im.decFrom_nil])
  simp only [List.getElem?_toArray, Array.setIfInBounds, List.size_toArray, List.length_cons, List.length_nil, Nat.zero_add, Nat.lt_add_one, dite_true, List.set_toArray, List.set_cons_zero, List.getElem?_cons_zero] at l1
  have hmkn := hmk n hn256
  obtain ⟨Z, hZ⟩ : ∃ Z, Z = madeCells (Value.agg #[.int .i8 0, .int .i8 0, .int .u8 0]).cells (n * 3) := ⟨_, rfl⟩
  rw [← hZ] at hmkn
  have HZ := Lib.hid (show ∀ j, Z[j]? = if j < 0 * 3 then ([] : List (List Value)).flatten[j]? else if j < n * 3 then (Value.agg #[.int .i8 0, .int .i8 0, .int .u8 0]).cells.toList[j % 3]? else none from by rw [hZ]; exact made_rows (Value.agg #[.int .i8 0, .int .i8 0, .int .u8 0]).cells n (by decide))
  have hcpw := hcp n Z w1
  have p58 : ∀ x, (w1.alloc x).cell? ⟨P, o, none⟩ = some (.slice none 0 0) := fun x => ((P1.out.alloc x).cell o).trans HO.out
  have s1 := Nat.le_trans HW.out K1.out.below.size
  have sz1 := K1.out.below.size
  clear hcp HPA HKA hmk hZ
  go_upto_region 4 with fail
  obtain ⟨U, hU⟩ : ∃ U, U = w1.alloc (.cells Z 50) := ⟨_, rfl⟩
  have PU := Lib.hid (show Box U P t cs by (rw [hU]; exact P1.out.alloc _))
  have SU := Lib.hid (show Box U w1.heap.size 50 Z by (rw [hU]; exact Box.made w1 _ _))
  have IU := Lib.hid (show Rd b Bb Bp r1 U by (rw [hU]; exact I1.out.call (one_below w1 _) s1))
  have KU := Lib.hid (show Rk b Bb P w U by (rw [hU]; exact K1.out.trans (Rk.alloc (w := w1) (Bb := Bb) (P := P) s1 _)))
  have hSB : Hid (w1.heap.size ≠ P) := Lib.hid (by have := P1.out.lt; omega)
  have hSw : Hid (b ≤ w1.heap.size) := Lib.hid s1
  have hSz : Hid (w.heap.size ≤ w1.heap.size) := Lib.hid sz1
  rw [← hU]
  generalize w1.heap.size = S at *
  clear hU I1 K1 P1 p58 hcpw hmkn l1 s1 sz1
  have hbU : b ≤ U.heap.size := Nat.le_trans HW.out KU.out.below.size
  go_upto_region 5 with fail
  go_loopw [10, 27] (fun _ i wr => ∃ (k : Nat) (l : List α) (Cs : List (List Value)) (bs' : List Int), k ≤ n ∧ i = .int .i64 k ∧ l.length = k ∧ Im.IsBytes bs' ∧ Im.decFrom dec [] n r1 = Im.decFrom dec l (n - k) bs' ∧ Rd b Bb Bp bs' wr ∧ Rk b Bb S U wr ∧ AllGood 3 (Good wr) l Cs ∧ ∃ Y, Box wr S 50 Y ∧ ∀ j, Y[j]? = if j < k * 3 then Cs.flatten[j]? else if j < n * 3 then (Value.agg #[.int .i8 0, .int .i8 0, .int .u8 0]).cells.toList[j % 3]? else none) (fun _ i _ => n - (intOf i).toNat)
  case atStart => exact ⟨0, [], [], r1, by omega, rfl, rfl, Y1.out.2.2.2, rfl, IU.out, Rk.refl _ _ _ _, trivial, Z, SU.out, HZ.out⟩
  case round =>
    obtain ⟨k, l, Cs, bs', hk, rfl, hlen, hy, hdec, hI, hK, hA, Y, hB, hYc⟩ := hrel
    by_cases hlt : k < n
    · have hk8 : (k : Int) < n := by omega
      rw [show n - k = (n - (k + 1)) + 1 by omega] at hdec
      have hwy : b ≤ wr.heap.size := Nat.le_trans hbU hK.below.size
      have hkn : (k + 1) * 3 ≤ n * 3 := Nat.mul_le_mul_right _ hlt
      have cc := Lib.hid (HC.out k S wr Y bs' hy (KU.out.below.trans hK.below) hSw.out hwy hI hB (fun j hj => by rw [hYc, if_neg (by omega), if_pos (by omega)]; congr 1; omega))
      have HNX := Lib.hid hdec
      have HLEN := Lib.hid hlen
      have K2 := Lib.hid hK
      have HA := Lib.hid hA
      have HBX := Lib.hid hB
      have HYC := Lib.hid hYc
      clear hI hK hB hdec hlen hy hwy hA hYc hkn
      go_wp2_with (go_at_call 78; ((with_reducible refine (cc.out).mono ?_); rintro e w3 (⟨v, r3, C, hr, rfl, hy, hI, hK, hCl, hG, Y', hB, hP⟩ | ⟨hn, ⟨ss, rfl⟩, hK⟩); (all_goals first | (have R3 := Lib.hid hr; have Y3 := Lib.hid hy; have I3 := Lib.hid hI; have K3 := Lib.hid (K2.out.trans hK); have A3 := Lib.hid ((HA.out.mono (fun v C => G1.out wr w3 S Y v C HBX.out hK.kb)).snoc hCl hG); have B3 := Lib.hid hB; have Z3 := Lib.hid (Im.Patch.snoc hP HYC.out hCl hlt (by rw [HA.out.len.2, HLEN.out])); clear hr hy hI hK hCl hG hB hP) | (have N3 := Lib.hid hn; have F3 := Lib.hid (K2.out.trans hK); clear hn hK))))
      · go_roundw
        case rel => exact ⟨k + 1, l ++ [v], Cs ++ [C], r3, by omega, by go_num, by rw [List.length_append, HLEN.out]; rfl, Y3.out, by rw [HNX.out, Im.decFrom_some R3.out], I3.out, K3.out, A3.out, Y', B3.out, Z3.out⟩
        case measure => simp [intOf]; omega
      · refine ⟨rfl, .inr ⟨?_, ⟨_, rfl⟩, KU.out.local F3.out hSz.out, F3.out.kb _ _ _ PU.out hSB.out.symm h1 h2⟩⟩
        rw [HDE.out, HNX.out, Im.decFrom_none N3.out]
    · have hk8 : ¬ (k : Int) < n := by omega
      obtain rfl : k = n := by omega
      rw [Nat.sub_self, Im.decFrom_zero] at hdec
      have HI := Lib.hid hI
      have HK := Lib.hid hK
      have HDX := Lib.hid hdec
      have HL := Lib.hid hlen
      have HYY := Lib.hid hy
      have PW := Lib.hid (hK.kb _ _ _ PU.out hSB.out.symm h1 h2)
      have pc : wr.cell? ⟨P, o, none⟩ = some (.slice none 0 0) := (PW.out.cell o).trans HO.out
      have pf : wr.frozen? ⟨P, o, none⟩ = false := PW.out.free o
      have eY : Y = Cs.flatten.toArray := by
        apply Array.ext_getElem?
        intro j
        have hl2 := hA.len.2
        rw [hYc j]
        by_cases hj : j < k * 3
        · rw [if_pos hj, List.getElem?_toArray]
        · rw [if_neg hj, if_neg hj, List.getElem?_toArray, List.getElem?_eq_none (by rw [hl2, hlen]; omega)]
      have HA := Lib.hid hA
      rw [eY] at hB
      have HBX := Lib.hid hB
      clear hI hK hB hdec hlen hy hA hYc eY
      go_wp2
      go_end0
      refine .inl ⟨l, bs', S, Cs, by rw [HDE.out, HDX.out], rfl, HYY.out, HI.out.off (p := ⟨P, o, none⟩) PW.out h3 h1 HB.out _, ?_, hSz.out, ?_, HBX.out.far hSB.out _, HA.out.mono fun v C => G2.out wr _ cs v C PW.out ((Kb.refl wr).put o _)⟩
      · exact (KU.out.local HK.out hSz.out).put HB.out o _
      · rw [HL.out]; exact PW.out.put o _
end Go.Proofs.Ytgmlbimgcifenaa
namespace Go.Proofs.Ytgmlbimgcifenaa
open Go.ChangeShapes Go.WideShapes Go.ChangeAt Go.RowKit Go.Joins Go.ChangeMaps Go.Deep
set_option linter.unusedVariables false

theorem cut_at9 {α : Type} (l : List α) (a b : Nat) : l.drop a = (l.drop a).take b ++ l.drop (a + b) := by
  have := (List.take_append_drop b (l.drop a)).symm
  rwa [List.drop_drop] at this
theorem cut_end9 {α : Type} (l : List α) (a b : Nat) (h : l.length = a + b) : l.drop a = (l.drop a).take b := by
  rw [List.take_of_length_le (by simp; omega)]
section
variable {H : Type} {enc : TypeId × Value → H} {w : World} {base : Nat} {spare : Nat → Bool} {held : Bool}
set_option maxRecDepth 100000 in
theorem trod_ev {base : Nat} {spare : Nat → Bool} {held : Bool} {fuel : Nat} {l : List Value} {y : DataW H × List MemPlace} (hl : l.length = 4) (h : DataW.trod enc Try.prog w base spare held fuel 59 l = some y) : ∃ s : En.Ev, l = s.cells ∧ En.tyEv s := by
  obtain ⟨xs, n, _, _, _, hlen, hf⟩ := DataW.trod_struct Try.underlying59 h
  have ci : Try.prog.cellsOf 3 = 1 := by kernel_rfl
  match l, hl, xs, hlen with
  | [a0, a1, a2, a3], _, [y0, y1, y2, y3], _ =>
    obtain ⟨x0, e0, _, w0⟩ := DataW.trod_int Try.underlying3 (hf 0 _ rfl)
    obtain ⟨x1, e1, _, w1⟩ := DataW.trod_int Try.underlying3 (hf 1 _ rfl)
    obtain ⟨x2, e2, _, w2⟩ := DataW.trod_int Try.underlying3 (hf 2 _ rfl)
    obtain ⟨x3, e3, _, w3⟩ := DataW.trod_int Try.underlying3 (hf 3 _ rfl)
    simp [ci] at e0 e1 e2 e3
    subst e0 e1 e2 e3
    exact ⟨⟨x0, x1, x2, x3⟩, rfl, Bd.i64 w0, Bd.i64 w1, Bd.i64 w2, Bd.i64 w3⟩
set_option maxRecDepth 100000 in
theorem trod_ins {base : Nat} {spare : Nat → Bool} {held : Bool} {fuel : Nat} {l : List Value} {y : DataW H × List MemPlace} (hl : l.length = 24) (h : DataW.trod enc Try.prog w base spare held fuel 51 l = some y) :
    ∃ f : Nat → Gm.In, l = Gm.insCells f ∧ ∀ k, k < 8 → Gm.tyIn (f k) := by
  obtain ⟨xs, m, _, hx, _, hn, he⟩ := DataW.trod_array Try.underlying51 h
  have c3 : Try.prog.cellsOf 50 = 3 := by kernel_rfl
  simp only [c3] at he
  have key : ∀ i, i < 8 → ∃ q : Gm.In, (l.drop (i * 3)).take 3 = q.cells ∧ Gm.tyIn q := by
    intro i hi
    have hlen : ((l.drop (i * 3)).take 3).length = 3 := by simp; omega
    obtain ⟨y, hy⟩ : ∃ y, xs[i]? = some y := ⟨xs[i]'(by omega), List.getElem?_eq_getElem (by omega)⟩
    have h : DataW.trod enc Try.prog w base spare held m 50 ((l.drop (i * 3)).take 3) = xs[i]? := he i hi
    rw [hy] at h
    match hq : (l.drop (i * 3)).take 3, hlen with
    | [a, b, c], _ =>
      rw [hq] at h
      obtain ⟨q, h1, h2, _⟩ := trod_in h
      exact ⟨q, h1, h2⟩
  have hch : ∃ ps : Nat → Gm.In, ∀ i, i < 8 → ((l.drop (i * 3)).take 3 = (ps i).cells ∧ Gm.tyIn (ps i)) :=
    ⟨fun i => if h : i < 8 then (key i h).choose else ⟨0, 0, 0⟩, fun i hi => by dsimp only; rw [dif_pos hi]; exact (key i hi).choose_spec⟩
  obtain ⟨ps, hps⟩ := hch
  refine ⟨ps, ?_, fun i hi => (hps i hi).2⟩
  rw [cut24 l hl]
  unfold Gm.insCells
  rw [(hps 0 (by decide)).1, (hps 1 (by decide)).1, (hps 2 (by decide)).1, (hps 3 (by decide)).1, (hps 4 (by decide)).1, (hps 5 (by decide)).1, (hps 6 (by decide)).1, (hps 7 (by decide)).1]
set_option maxRecDepth 100000 in
theorem trod_entry {base : Nat} {spare : Nat → Bool} {held : Bool} {fuel : Nat} {l : List Value} {y : DataW H × List MemPlace} (hl : l.length = 26) (h : DataW.trod enc Try.prog w base spare held fuel 53 l = some y) :
    ∃ q : En.S, l = q.cells ∧ En.Ty q.e ∧ q.e.evs.length ≤ maxLen ∧ Lies w w.heap.size 4 q.adr q.e.evs.length (En.evCells q.e.evs) := by
  obtain ⟨y0, y1, y2, n, _, _, h0, h1, h2⟩ := trod_struct3 Try.underlying53 h
  have ci : Try.prog.cellsOf 3 = 1 := by kernel_rfl
  have c24 : Try.prog.cellsOf 51 = 24 := by kernel_rfl
  have csl : Try.prog.cellsOf 47 = 1 := by kernel_rfl
  have c4 : Try.prog.cellsOf 59 = 4 := by kernel_rfl
  obtain ⟨x0, e0, _, w0⟩ := DataW.trod_int Try.underlying3 h0
  simp only [c24] at h2
  obtain ⟨f, e2, hty⟩ := trod_ins (by simp; omega) h2
  simp only [csl] at h1
  have hlen1 : ((l.drop 1).take 1).length = 1 := by simp; omega
  obtain ⟨u, hu⟩ : ∃ u, (l.drop 1).take 1 = [u] := by
    match hq : (l.drop 1).take 1, hlen1 with
    | [u], _ => exact ⟨u, rfl⟩
  have h1' : DataW.trod enc Try.prog w base spare held n 47 [u] = some y1 := by rw [← hu]; exact h1
  have hsl : ∃ a m k, u = .slice a m k := by
    rcases DataW.trod_slice Try.underlying47 h1' with ⟨hv, _⟩ | ⟨a, len, cap, elems, rest, k, _, hv, _⟩
    · injection hv with hv; exact ⟨_, _, _, hv⟩
    · injection hv with hv; exact ⟨_, _, _, hv⟩
  obtain ⟨a, m, k, rfl⟩ := hsl
  obtain ⟨A, c, evs, ev, ht, hm, hL⟩ := open_slice (enc := enc) (w := w) (base := base) (spare := spare) (held := held) En.Ev.cells 4 En.tyEv ⟨0, 0, 0, 0⟩ Try.underlying47 c4 (by decide) (fun _ => rfl) (fun hl ht => trod_ev hl ht) (v := .slice a m k) (d := y1.1) (p := y1.2) (fun cs e => by cases e) ⟨n, h1'⟩
  refine ⟨⟨⟨x0, evs, f⟩, A, c⟩, ?_, ⟨Bd.i64 w0, ht, hty⟩, hm, hL⟩
  have e0' : (l.drop 0).take 1 = [Value.int .i64 x0] := by rw [← e0, ci]
  have q2 : l.drop 2 = Gm.insCells f := by rw [← e2]; exact cut_end9 l 2 24 (by omega)
  have q1 : l.drop 1 = [Value.slice A evs.length c] ++ Gm.insCells f := by rw [← q2, ← ev, ← hu]; exact cut_at9 l 1 1
  have q0 : l.drop 0 = [Value.int .i64 x0] ++ ([Value.slice A evs.length c] ++ Gm.insCells f) := by rw [← q1, ← e0']; exact cut_at9 l 0 1
  have ql : l = [Value.int .i64 x0] ++ ([Value.slice A evs.length c] ++ Gm.insCells f) := q0
  rw [ql]
  rfl
set_option maxRecDepth 100000 in
theorem agg_of {b0 : Nat} {v : Value} {t : TypeId} {d : TypeDesc} (hu : Try.prog.underlying t = some d) (hd : d.isRow = true) (hv : Value.okWide Try.prog w .any b0 t v) : ∃ cs, v = .agg cs ∧ cs.size = Try.prog.cellsOf t := by
  cases d <;> first | (cases hd; done) | (obtain ⟨cs, h1, h2, _⟩ : ∃ cs, v = .agg cs ∧ cs.size = Try.prog.cellsOf t ∧ Row.okWide Try.prog w .any b0 t cs := (by simpa [Value.okWide, hu] using hv); exact ⟨cs, h1, h2⟩)
set_option maxRecDepth 100000 in
theorem open_bytes {b0 : Nat} {v : Value} {d : DataW H} {p : List MemPlace} (hv : Value.okWide Try.prog w .any b0 27 v) (h : DataW.Trod enc Try.prog w base spare held 27 v d p) :
    ∃ (A : Option Addr) (c : Nat) (l : List Int), v = .slice A l.length c ∧ Im.IsBytes l ∧ l.length ≤ maxLen ∧ l.length ≤ c ∧ Lies w w.heap.size 1 A l.length (Im.u8s l) := by
  have hag : ∀ cs, v ≠ .agg cs := fun cs e => by subst e; simp [Value.okWide, Try.underlying27, Cell.okWide, Cell.ok] at hv
  obtain ⟨A, c, l, h1, h2, h3, h4, h5⟩ := open_slice_c (enc := enc) (w := w) (base := base) (spare := spare) (held := held) (fun x : Int => [Value.int .u8 x]) 1 (fun x => 0 ≤ x ∧ x ≤ 255) 0 Try.underlying27 (by kernel_rfl) (by decide) (fun _ => rfl) (fun hl ht => by
    obtain ⟨x, e, _, w⟩ := DataW.trod_int Try.underlying5 ht
    exact ⟨x, e, Bd.u8 w⟩) hag h
  refine ⟨A, c, l, h1, h2, h3, h5, ?_⟩
  have e : ∀ l : List Int, (l.flatMap fun x => [Value.int .u8 x]) = Im.u8s l := fun l => by
    unfold Im.u8s
    induction l with
    | nil => rfl
    | cons a l ih => rw [List.flatMap_cons, ih]; rfl
  rw [← e]
  exact h4
end
end Go.Proofs.Ytgmlbimgcifenaa
namespace Go.Proofs.Ytgmlbimgcifenaa
open Go.ChangeShapes Go.WideShapes Go.ChangeAt Go.RowKit Go.Joins Go.ChangeMaps Go.Deep
set_option linter.unusedVariables false
set_option linter.unusedSimpArgs false

section
variable {H : Type} {enc : TypeId × Value → H} {w : World} {base : Nat} {spare : Nat → Bool} {held : Bool}
theorem trod_in3 {base : Nat} {spare : Nat → Bool} {held : Bool} {fuel : Nat} {l : List Value} {y : DataW H × List MemPlace} (hl : l.length = 3) (h : DataW.trod enc Try.prog w base spare held fuel 50 l = some y) : ∃ s : Gm.In, l = s.cells ∧ Gm.tyIn s := by
  match l, hl with
  | [a, b, c], _ =>
    obtain ⟨q, h1, h2, _⟩ := trod_in h
    exact ⟨q, h1, h2⟩
set_option maxRecDepth 100000 in
set_option maxHeartbeats 1000000 in
theorem open_msg {b0 : Nat} {v : Value} {d : DataW H} {p : List MemPlace} (hv : Value.okWide Try.prog w .any b0 29 v) (h : DataW.Trod enc Try.prog w base spare held 29 v d p) :
    ∃ q : Ms.S, v = .agg q.cells ∧ Ms.Ty q.m ∧ LiesM w w.heap.size q := by
  obtain ⟨cs, rfl, hsz⟩ := agg_of Try.underlying29 rfl hv
  rw [show Try.prog.cellsOf 29 = 16 from by kernel_rfl] at hsz
  obtain ⟨l⟩ := cs
  obtain ⟨fuel, hf0⟩ := h
  have hf' : DataW.trod enc Try.prog w base spare held fuel 29 l = some (d, p) := hf0
  obtain ⟨xs, n, _, _, _, hlen, hf⟩ := DataW.trod_struct Try.underlying29 hf'
  have ci0 : Try.prog.cellsOf 3 = 1 := by kernel_rfl
  have ci1 : Try.prog.cellsOf 22 = 1 := by kernel_rfl
  have ci2 : Try.prog.cellsOf 23 = 1 := by kernel_rfl
  have ci3 : Try.prog.cellsOf 24 = 1 := by kernel_rfl
  have ci4 : Try.prog.cellsOf 25 = 1 := by kernel_rfl
  have ci5 : Try.prog.cellsOf 26 = 1 := by kernel_rfl
  have ci6 : Try.prog.cellsOf 27 = 1 := by kernel_rfl
  have hl16 : l.length = 16 := by simpa using hsz
  match l, hl16, xs, hlen with
  | [a0, a1, a2, a3, a4, a5, a6, a7, a8, a9, a10, a11, a12, a13, a14, a15], _, [y0, y1, y2, y3, y4, y5, y6, y7, y8, y9, y10, y11, y12, y13, y14, y15], _ =>
    obtain ⟨x0, e0, _, w0⟩ := DataW.trod_int Try.underlying3 (hf 0 _ rfl)
    obtain ⟨x1, e1, _, w1⟩ := DataW.trod_int Try.underlying3 (hf 1 _ rfl)
    obtain ⟨x2, e2, _, w2⟩ := DataW.trod_int Try.underlying22 (hf 2 _ rfl)
    obtain ⟨x3, e3, _, w3⟩ := DataW.trod_int Try.underlying22 (hf 3 _ rfl)
    obtain ⟨x4, e4, _, w4⟩ := DataW.trod_int Try.underlying23 (hf 4 _ rfl)
    obtain ⟨x5, e5, _, w5⟩ := DataW.trod_int Try.underlying3 (hf 5 _ rfl)
    obtain ⟨x6, e6, _, w6⟩ := DataW.trod_int Try.underlying3 (hf 6 _ rfl)
    obtain ⟨x7, e7, _, w7⟩ := DataW.trod_int Try.underlying3 (hf 7 _ rfl)
    obtain ⟨x8, e8, _, w8⟩ := DataW.trod_int Try.underlying3 (hf 8 _ rfl)
    obtain ⟨x9, e9, _, w9⟩ := DataW.trod_int Try.underlying3 (hf 9 _ rfl)
    obtain ⟨x10, e10, _, w10⟩ := DataW.trod_int Try.underlying3 (hf 10 _ rfl)
    obtain ⟨x11, e11, _, w11⟩ := DataW.trod_int Try.underlying23 (hf 11 _ rfl)
    obtain ⟨x12, e12, _, w12⟩ := DataW.trod_int Try.underlying24 (hf 12 _ rfl)
    simp [ci0, ci1, ci2, ci3, ci4, ci5, ci6] at e0 e1 e2 e3 e4 e5 e6 e7 e8 e9 e10 e11 e12
    subst e0 e1 e2 e3 e4 e5 e6 e7 e8 e9 e10 e11 e12
    have f13 := hf 13 _ rfl
    simp [ci0, ci1, ci2, ci3, ci4, ci5, ci6] at f13
    obtain ⟨b13, m13, k13, hv13⟩ : ∃ a m k, a13 = .slice a m k := by
      rcases DataW.trod_slice Try.underlying25 f13 with ⟨hv, _⟩ | ⟨a, len, cap, elems, rest, k, _, hv, _⟩
      · injection hv with hv; exact ⟨_, _, _, hv⟩
      · injection hv with hv; exact ⟨_, _, _, hv⟩
    subst hv13
    have f14 := hf 14 _ rfl
    simp [ci0, ci1, ci2, ci3, ci4, ci5, ci6] at f14
    obtain ⟨b14, m14, k14, hv14⟩ : ∃ a m k, a14 = .slice a m k := by
      rcases DataW.trod_slice Try.underlying26 f14 with ⟨hv, _⟩ | ⟨a, len, cap, elems, rest, k, _, hv, _⟩
      · injection hv with hv; exact ⟨_, _, _, hv⟩
      · injection hv with hv; exact ⟨_, _, _, hv⟩
    subst hv14
    have f15 := hf 15 _ rfl
    simp [ci0, ci1, ci2, ci3, ci4, ci5, ci6] at f15
    obtain ⟨b15, m15, k15, hv15⟩ : ∃ a m k, a15 = .slice a m k := by
      rcases DataW.trod_slice Try.underlying27 f15 with ⟨hv, _⟩ | ⟨a, len, cap, elems, rest, k, _, hv, _⟩
      · injection hv with hv; exact ⟨_, _, _, hv⟩
      · injection hv with hv; exact ⟨_, _, _, hv⟩
    subst hv15
    obtain ⟨A13, c13, ins, v13, t13, l13, L13⟩ := open_slice (enc := enc) (w := w) (base := base) (spare := spare) (held := held) Gm.In.cells 3 Gm.tyIn ⟨0, 0, 0⟩ Try.underlying25 (by kernel_rfl) (by decide) (fun _ => rfl) (fun hl ht => trod_in3 hl ht) (v := .slice b13 m13 k13) (d := y13.1) (p := y13.2) (fun cs e => by cases e) ⟨n, f13⟩
    obtain ⟨A14, c14, log, v14, t14, l14, L14⟩ := open_slice (enc := enc) (w := w) (base := base) (spare := spare) (held := held) En.S.cells 26 (fun q => En.Ty q.e ∧ q.e.evs.length ≤ maxLen ∧ Lies w w.heap.size 4 q.adr q.e.evs.length (En.evCells q.e.evs)) ⟨⟨0, [], En.in0⟩, none, 0⟩ Try.underlying26 (by kernel_rfl) (by decide) (fun _ => rfl) (fun hl ht => trod_entry hl ht) (v := .slice b14 m14 k14) (d := y14.1) (p := y14.2) (fun cs e => by cases e) ⟨n, f14⟩
    obtain ⟨A15, c15, data, v15, t15, l15, L15⟩ := open_slice (enc := enc) (w := w) (base := base) (spare := spare) (held := held) (fun x : Int => [Value.int .u8 x]) 1 (fun x => 0 ≤ x ∧ x ≤ 255) 0 Try.underlying27 (by kernel_rfl) (by decide) (fun _ => rfl) (fun hl ht => by
      obtain ⟨x, e, _, w⟩ := DataW.trod_int Try.underlying5 ht
      exact ⟨x, e, Bd.u8 w⟩) (v := .slice b15 m15 k15) (d := y15.1) (p := y15.2) (fun cs e => by cases e) ⟨n, f15⟩
    injection v13 with v131 v132 v133
    injection v14 with v141 v142 v143
    injection v15 with v151 v152 v153
    subst v131 v132 v133 v141 v142 v143 v151 v152 v153
    have e : ∀ l : List Int, (l.flatMap fun x => [Value.int .u8 x]) = Im.u8s l := fun l => by
      unfold Im.u8s
      induction l with
      | nil => rfl
      | cons a l ih => rw [List.flatMap_cons, ih]; rfl
    have e15 : (data.flatMap fun x => [Value.int .u8 x]) = Im.u8s data := e data
    refine ⟨⟨⟨x0, x1, x2, x3, x4, x5, x6, x7, x8, x9, x10, x11, x12, ins, log, data⟩, b13, k13, b14, k14, b15, k15⟩, rfl, ⟨Bd.i64 w0, Bd.i64 w1, Bd.u16 w2, Bd.u16 w3, Bd.u32 w4, Bd.i64 w5, Bd.i64 w6, Bd.i64 w7, Bd.i64 w8, Bd.i64 w9, Bd.i64 w10, Bd.u32 w11, Bd.u64 w12, t13, fun q hq => (t14 q hq).1, t15⟩, ⟨L13, ⟨L14, fun q hq => (t14 q hq).2.2, fun q hq => (t14 q hq).2.1⟩, (by rw [← e15]; exact L15), l13, l14, l15⟩⟩
end
end Go.Proofs.Ytgmlbimgcifenaa
namespace Ms
def differ (m n : M) : Bool := ((((((((((((((((m.kind != n.kind) || (m.frm != n.frm)) || (m.serial != n.serial)) || (m.ack != n.ack)) || (m.seen != n.seen)) || (m.slot != n.slot)) || (m.gen != n.gen)) || (m.frame != n.frame)) || (m.code != n.code)) || (m.n != n.n)) || (m.of != n.of)) || (m.bits != n.bits)) || (m.sum != n.sum)) || (!decide (m.data = n.data))) || ((m.ins.length : Int) != (n.ins.length : Int))) || ((m.log.length : Int) != (n.log.length : Int)))
/-- In all parts alike. -/
structure Same (m n : M) : Prop where
  nums : differ m n = false
  ins : ∀ k (h : k < m.ins.length) (h' : k < n.ins.length), m.ins[k] = n.ins[k]
  log : En.frontB m.log n.log = true
noncomputable def sameB (m n : M) : Bool := @decide (Same m n) (Classical.propDecidable _)
theorem sameB_iff {m n : M} : sameB m n = true ↔ Same m n := by unfold sameB; exact @decide_eq_true_iff _ (Classical.propDecidable _)
end Ms
namespace Go.Proofs.Ytgmlbimgcifenaa
open Go.RowKit
set_option linter.unusedVariables false

set_option linter.unusedSimpArgs false
instance : DecidableEq Gm.In := fun a b => by
  cases a; cases b
  simp only [Gm.In.mk.injEq]
  infer_instance
end Go.Proofs.Ytgmlbimgcifenaa
namespace Ms
/-- An entry's bytes, and how many. -/
def logBytes (e : En.S) : List Int := Im.bytesOf 2 ((En.put e.e).length : Int) ++ En.put e.e
theorem logBytes_le {e : En.S} (h : En.Ok e.e) : (logBytes e).length ≤ 112 := by
  unfold logBytes
  rw [List.length_append, Im.bytesOf_len]
  have := En.put_le h.count
  omega
theorem logs_le : ∀ (l : List En.S), (∀ e ∈ l, En.Ok e.e) → (l.flatMap logBytes).length ≤ 112 * l.length
  | [], _ => Nat.le_refl _
  | a :: l, h => by
    rw [List.flatMap_cons, List.length_append, List.length_cons]
    have h1 := logBytes_le (h a (by simp))
    have h2 := logs_le l (fun e he => h e (by simp [he]))
    omega
end Ms
namespace Go.Proofs.Ytgmlbimgcifenaa
open Go.RowKit
set_option linter.unusedVariables false

set_option linter.unusedSimpArgs false
end Go.Proofs.Ytgmlbimgcifenaa
namespace Ms
open Go
/-- An input, out of bytes. -/
def decInW (bs : List Int) : Option (Gm.In × List Int) := (Im.rdn 1 bs).bind fun x => (Im.rdn 1 x.2).bind fun y => (Im.rdn 1 y.2).bind fun b => some (⟨IntKind.i8.wrap x.1, IntKind.i8.wrap y.1, b.1⟩, b.2)
theorem inCells_at3 (l : List Gm.In) (k j : Nat) (hk : k < l.length) (hj : j < 3) : (Gm.inCells l)[k * 3 + j]? = (l[k]).cells[j]? := by
  induction l generalizing k with
  | nil => simp at hk
  | cons s l ih =>
    show (s.cells ++ Gm.inCells l)[k * 3 + j]? = _
    match k with
    | 0 => rw [List.getElem?_append_left (by show 0 * 3 + j < 3; omega)]; simp
    | k + 1 =>
      rw [List.getElem?_append_right (by show 3 ≤ (k + 1) * 3 + j; omega)]
      have := ih k (by simpa using hk)
      rw [show (k + 1) * 3 + j - s.cells.length = k * 3 + j from by show (k + 1) * 3 + j - 3 = _; omega, this]
      simp
end Ms
namespace Go.Proofs.Ytgmlbimgcifenaa
open Go.RowKit Go.Shelf
set_option linter.unusedVariables false
set_option linter.unusedSimpArgs false

theorem patch3 (cs : Array Value) (o : Nat) (x0 x1 x2 y0 y1 y2 : Value) (s0 : cs[o]? = some x0) (s1 : cs[o + 1]? = some x1) (s2 : cs[o + 2]? = some x2) : Im.Patch cs o [y0, y1, y2] (((cs.setIfInBounds o y0).setIfInBounds (o + 1) y1).setIfInBounds (o + 2) y2) := by
  have a := Im.Patch.one y0 s0
  have b := Im.Patch.one (o := o + 1) y1 (show (cs.setIfInBounds o y0)[o + 1]? = some x1 by rw [Array.getElem?_setIfInBounds_ne (by omega), s1])
  have c := Im.Patch.one (o := o + 2) y2 (show ((cs.setIfInBounds o y0).setIfInBounds (o + 1) y1)[o + 2]? = some x2 by rw [Array.getElem?_setIfInBounds_ne (by omega), Array.getElem?_setIfInBounds_ne (by omega), s2])
  exact (a.trans b rfl).trans c rfl

set_option maxRecDepth 100000 in
set_option maxHeartbeats 4000000 in
theorem winput_w (p : Gm.In) (P o : Nat) (t : TypeId) (cs : Array Value) (bs : List Int) (b Bb Bp : Nat) (w : World) (hty : Gm.tyIn p) (hbB : b ≤ Bb) (h : Wr b Bb Bp bs w) (hl : bs.length + 3 ≤ 65536) (hP : Box w P t cs)
    (s0 : cs[o]? = some (.int .i8 p.x)) (s1 : cs[o + 1]? = some (.int .i8 p.y)) (s2 : cs[o + 2]? = some (.int .u8 p.b)) (h1 : t ≠ 27) (h2 : t ≠ 5) (h3 : t ≠ 68) :
    Calls Try.prog 78 #[.func (.func 54) #[] #[.pointer (some ⟨Bp, 0, none⟩)], .pointer (some ⟨P, o, none⟩)] w fun e w' => e = .returned (.tuple #[]) ∧ Wr b Bb Bp (bs ++ En.inBytes p) w' ∧ Wrote b Bb w w' := by
  obtain ⟨t1, t2, t3⟩ := hty
  have HSN := Lib.hid (show bs ++ En.inBytes p = bs ++ Im.bytesOf 1 p.x ++ Im.bytesOf 1 p.y ++ Im.bytesOf 1 p.b by simp [En.inBytes])
  have P2 := Lib.hid hP
  have IV2 := Lib.hid h.isvar
  have ltP := hP.lt
  have c0 := Lib.hid (layi8_w 1 1 rfl p.x P o t _ bs b Bb Bp w (by decide) t1 hbB h (by omega) hP s0 h1 h2 h3)
  rw [En.bytesOf_wrap1] at c0
  have c1 := fun X (hX : Wr b Bb Bp (bs ++ Im.bytesOf 1 p.x) X) hB => Lib.hid (layi8_w 1 1 rfl p.y P (o + 1) t _ _ b Bb Bp X (by decide) t2 hbB hX (by simp only [List.length_append, Im.bytesOf_len]; omega) hB s1 h1 h2 h3)
  rw [En.bytesOf_wrap1] at c1
  have c2 := fun X (hX : Wr b Bb Bp (bs ++ Im.bytesOf 1 p.x ++ Im.bytesOf 1 p.y) X) hB => Lib.hid (layu8_w 1 1 rfl p.b P (o + 2) t _ _ b Bb Bp X (by decide) t3 hbB hX (by simp only [List.length_append, Im.bytesOf_len]; omega) hB s2 h1 h2 h3)
  rw [En.bytesOf_wrap1] at c2
  clear h hP s0 s1 s2
  go_enter Try.func78, Try.ntmps78
  go_wp2_with (first | (go_at_call 86; first | ((with_reducible refine (c0.out).mono ?_); rintro e w3 ⟨rfl, hI, hK⟩; have P3 := Lib.hid (P2.out.wrote' hK IV2.out h1 h2); have IV3 := Lib.hid hI.isvar; have I3 := Lib.hid hI; have K3 := Lib.hid hK; clear hI hK c0) | ((with_reducible refine ((c1 _ I3.out P3.out).out).mono ?_); rintro e w4 ⟨rfl, hI, hK⟩; have P4 := Lib.hid (P3.out.wrote' hK IV3.out h1 h2); have IV4 := Lib.hid hI.isvar; have I4 := Lib.hid hI; have K4 := Lib.hid (K3.out.trans hK); clear hI hK)) | (go_at_call 87; ((with_reducible refine ((c2 _ I4.out P4.out).out).mono ?_); rintro e w5 ⟨rfl, hI, hK⟩; have I5 := Lib.hid hI; have K5 := Lib.hid (K4.out.trans hK); clear hI hK)))
  go_end0
  exact ⟨rfl, by rw [HSN.out]; exact I5.out, K5.out⟩

set_option maxRecDepth 100000 in
set_option maxHeartbeats 4000000 in
theorem winput_r (x0 x1 x2 : Int) (P o : Nat) (t : TypeId) (cs : Array Value) (bs : List Int) (b Bb Bp : Nat) (w : World) (hBy : Im.IsBytes bs) (hbB : b ≤ Bb) (hbP : b ≤ P) (hbw : b ≤ w.heap.size) (h : Rd b Bb Bp bs w) (hP : Box w P t cs)
    (s0 : cs[o]? = some (.int .i8 x0)) (s1 : cs[o + 1]? = some (.int .i8 x1)) (s2 : cs[o + 2]? = some (.int .u8 x2)) (h1 : t ≠ 27) (h2 : t ≠ 5) (h3 : t ≠ 68) :
    Calls Try.prog 78 #[.func (.func 60) #[] #[.pointer (some ⟨Bp, 0, none⟩)], .pointer (some ⟨P, o, none⟩)] w (Got b Bb Bp P t cs.size (Ms.decInW bs) (fun p => ((cs.setIfInBounds o (.int .i8 p.x)).setIfInBounds (o + 1) (.int .i8 p.y)).setIfInBounds (o + 2) (.int .u8 p.b)) w) := by
  have q0 := Lib.hid (part_i8 1 1 rfl x0 P o t cs bs b Bb Bp w (by decide) hBy hbB hbP hbw h hP s0 h1 h2 h3)
  have q1 := fun v bs'' X hy' hX1 hX2 hX3 => Lib.hid (part_i8 1 1 rfl x1 P (o + 1) t (cs.setIfInBounds o v) bs'' b Bb Bp X (by decide) hy' hbB hbP hX1 hX2 hX3 (by rw [Array.getElem?_setIfInBounds_ne (by omega), s1]) h1 h2 h3)
  have q2 := fun v v' bs'' X hy' hX1 hX2 hX3 => Lib.hid (part_u8 1 1 rfl x2 P (o + 2) t ((cs.setIfInBounds o v).setIfInBounds (o + 1) v') bs'' b Bb Bp X (by decide) hy' hbB hbP hX1 hX2 hX3 (by rw [Array.getElem?_setIfInBounds_ne (by omega), Array.getElem?_setIfInBounds_ne (by omega), s2]) h1 h2 h3)
  have HDV := Lib.hid (show Ms.decInW bs = (Im.rdn 1 bs).bind fun x => (Im.rdn 1 x.2).bind fun y => (Im.rdn 1 y.2).bind fun b => some (⟨IntKind.i8.wrap x.1, IntKind.i8.wrap y.1, b.1⟩, b.2) from rfl)
  have ltP := hP.lt
  have HW := Lib.hid hbw
  have YY := Lib.hid hBy
  clear h hP hbw hBy s0 s1 s2
  go_enter Try.func78, Try.ntmps78
  go_wp2_with (first | (go_at_call 86; first | ((with_reducible refine (q0.out).mono ?_); rintro r w3 (⟨y0, r3, hr, rfl, hI, hK, hB⟩ | ⟨hn, ⟨ss, rfl⟩, hK, cs', hB, hs⟩); (all_goals first | (have R3 := Lib.hid hr; have Y3 := Lib.hid (Im.rdn_inv YY.out hr).2.2.2; have P3 := Lib.hid hB; have I3 := Lib.hid hI; have K3 := Lib.hid hK; clear hr hI hK hB q0) | (have N3 := Lib.hid hn; have F3 := Lib.hid hK; have B3 := Lib.hid hB; have S3 := Lib.hid hs; clear hn hK hB hs q0))) | ((with_reducible refine ((q1 _ _ _ Y3.out (Nat.le_trans HW.out K3.out.below.size) I3.out P3.out).out).mono ?_); rintro r w4 (⟨y1, r4, hr, rfl, hI, hK, hB⟩ | ⟨hn, ⟨ss, rfl⟩, hK, cs', hB, hs⟩); (all_goals first | (have R4 := Lib.hid hr; have Y4 := Lib.hid (Im.rdn_inv Y3.out hr).2.2.2; have P4 := Lib.hid hB; have I4 := Lib.hid hI; have K4 := Lib.hid (K3.out.trans hK); clear hr hI hK hB q1) | (have N4 := Lib.hid hn; have F4 := Lib.hid (K3.out.trans hK); have B4 := Lib.hid hB; have S4 := Lib.hid hs; clear hn hK hB hs q1)))) | (go_at_call 87; ((with_reducible refine ((q2 _ _ _ _ Y4.out (Nat.le_trans HW.out K4.out.below.size) I4.out P4.out).out).mono ?_); rintro r w5 (⟨y2, r5, hr, rfl, hI, hK, hB⟩ | ⟨hn, ⟨ss, rfl⟩, hK, cs', hB, hs⟩); (all_goals first | (have R5 := Lib.hid hr; have P5 := Lib.hid hB; have I5 := Lib.hid hI; have K5 := Lib.hid (K4.out.trans hK); clear hr hI hK hB q2) | (have N5 := Lib.hid hn; have F5 := Lib.hid (K4.out.trans hK); have B5 := Lib.hid hB; have S5 := Lib.hid hs; clear hn hK hB hs q2)))))
  · go_end0
    exact .inl ⟨⟨IntKind.i8.wrap y0, IntKind.i8.wrap y1, y2⟩, r5, by rw [HDV.out, R3.out, Option.bind_some, R4.out, Option.bind_some, R5.out, Option.bind_some], rfl, I5.out, K5.out, P5.out⟩
  · exact ⟨rfl, .inr ⟨by rw [HDV.out, R3.out, Option.bind_some, R4.out, Option.bind_some, N5.out, Option.bind_none], ⟨_, rfl⟩, F5.out, _, B5.out, by rw [S5.out]; simp⟩⟩
  · exact ⟨rfl, .inr ⟨by rw [HDV.out, R3.out, Option.bind_some, N4.out, Option.bind_none], ⟨_, rfl⟩, F4.out, _, B4.out, by rw [S4.out]; simp⟩⟩
  · exact ⟨rfl, .inr ⟨by rw [HDV.out, N3.out, Option.bind_none], ⟨_, rfl⟩, F3.out, _, B3.out, S3.out⟩⟩
theorem decInW_bytes {bs rest : List Int} {p : Gm.In} (hB : Im.IsBytes bs) (h : Ms.decInW bs = some (p, rest)) : Im.IsBytes rest := by
  unfold Ms.decInW at h
  cases h1 : Im.rdn 1 bs with
  | none => rw [h1] at h; cases h
  | some x =>
    rw [h1, Option.bind_some] at h
    cases h2 : Im.rdn 1 x.2 with
    | none => rw [h2] at h; cases h
    | some y =>
      rw [h2, Option.bind_some] at h
      cases h3 : Im.rdn 1 y.2 with
      | none => rw [h3] at h; cases h
      | some z =>
        rw [h3, Option.bind_some] at h
        injection h with h
        injection h with _ h
        have b1 := (Im.rdn_inv hB h1).2.2.2
        have b2 := (Im.rdn_inv b1 h2).2.2.2
        have b3 := (Im.rdn_inv b2 h3).2.2.2
        rw [← h]; exact b3
theorem eachin_w (l : List Gm.In) (hty : ∀ p ∈ l, Gm.tyIn p) (b Bb Bp : Nat) (w : World) (hbB : b ≤ Bb) (hbw : b ≤ w.heap.size) : EachW 78 50 3 (Gm.inCells l) (l.map En.inBytes) b Bb Bp w := by
  intro k S X Y bs hk hB hbS hI hl hY hc
  rw [List.length_map] at hk
  have e : (l.map En.inBytes).getD k [] = En.inBytes l[k] := by simp [hk]
  rw [e] at hl ⊢
  have ht := hty l[k] (List.getElem_mem hk)
  have sc : ∀ j, j < 3 → Y[k * 3 + j]? = (l[k]).cells[j]? := fun j hj => by rw [hc j hj]; exact Ms.inCells_at3 l k j hk hj
  generalize hs : l[k] = s at *
  rw [En.inBytes_len] at hl
  refine (winput_w s S (k * 3) 50 Y bs b Bb Bp X ht hbB hI hl hY (sc 0 (by omega)) (sc 1 (by omega)) (sc 2 (by omega)) (by decide) (by decide) (by decide)).mono ?_
  rintro e w' ⟨rfl, h1, h2⟩
  have hv := hI.isvar
  exact ⟨rfl, h1, h2.to (Nat.le_trans hbw hB.size), (Kb.refl X).wrote h2 hv, (VarK.refl X).wrote h2, Y, hY.wrote' h2 hv (by decide) (by decide), rfl, fun _ _ => rfl⟩
theorem eachin_r (b Bb Bp : Nat) (w : World) (hbB : b ≤ Bb) : EachR 78 50 3 (Value.agg #[.int .i8 0, .int .i8 0, .int .u8 0]).cells.toList Ms.decInW (fun _ p C => C = p.cells) b Bb Bp w := by
  intro k S X Y bs hy hB hbS hbX hI hY hc
  have s0 : Y[k * 3]? = some (.int .i8 0) := hc 0 (by omega)
  have s1 : Y[k * 3 + 1]? = some (.int .i8 0) := hc 1 (by omega)
  have s2 : Y[k * 3 + 2]? = some (.int .u8 0) := hc 2 (by omega)
  refine (winput_r 0 0 0 S (k * 3) 50 Y bs b Bb Bp X hy hbB hbS hbX hI hY s0 s1 s2 (by decide) (by decide) (by decide)).mono ?_
  rintro e w' (⟨v, rest, hr, rfl, hI', hK, hB'⟩ | ⟨hn, hp, hK, _⟩)
  · exact .inl ⟨v, rest, v.cells, hr, rfl, decInW_bytes hy hr, hI', hK, rfl, rfl, _, hB', patch3 Y _ _ _ _ _ _ _ s0 s1 s2⟩
  · exact .inr ⟨hn, hp, hK⟩
theorem eachen_w (l : List En.S) (hok : ∀ q ∈ l, En.Ok q.e ∧ En.Ty q.e) (b Bb Bp : Nat) (w : World) (hL : ∀ q ∈ l, Lies w b 4 q.adr q.e.evs.length (En.evCells q.e.evs)) (hbB : b ≤ Bb) (hbw : b ≤ w.heap.size) : EachW 81 53 26 (En.sCells l) (l.map Ms.logBytes) b Bb Bp w := by
  intro k S X Y bs hk hB hbS hI hl hY hc
  rw [List.length_map] at hk
  have e : (l.map Ms.logBytes).getD k [] = Ms.logBytes l[k] := by simp [hk]
  rw [e] at hl ⊢
  have hm := List.getElem_mem hk
  have ht := hok l[k] hm
  have hl2 := (hL l[k] hm).below hB
  have sc : ∀ j, j < 26 → Y[k * 26 + j]? = (l[k]).cells[j]? := fun j hj => by rw [hc j hj]; exact En.sCells_at l k j hk hj
  generalize hs : l[k] = s at *
  have hsz : k * 26 + 26 ≤ Y.size := by
    have := sc 25 (by omega)
    have h2 : ∃ v, s.cells[25]? = some v := ⟨_, List.getElem?_eq_getElem (by rw [En.S.cells_len]; omega)⟩
    obtain ⟨v, h2⟩ := h2
    rw [h2] at this
    have := (Array.getElem?_eq_some_iff.1 this).1
    omega
  refine (wentry_w s.e s.e.evs.length s.adr s.cap S (k * 26) Y bs b Bb Bp X rfl ht.1 ht.2 hbB hbS (Nat.le_trans hbw hB.size) hI (by unfold Ms.logBytes at hl; rw [List.length_append, Im.bytesOf_len] at hl; omega) hY hsz (fun j v hv => ?_) hl2).mono ?_
  · have hj : j < 26 := by have := (List.getElem?_eq_some_iff.1 hv).1; rw [Array.length_toList, En.cells_size] at this; exact this
    rw [sc j hj]; exact hv
  · rintro e w' ⟨rfl, h1, h2, h3, h3', Y', h4, h5, h6⟩
    exact ⟨rfl, h1, h2, h3, h3', Y', h4, h5, h6⟩
theorem eachen_r (b Bb Bp : Nat) (w : World) (hbB : b ≤ Bb) : EachR 81 53 26 (Value.agg En.zeroC).cells.toList decEntryW GoodEn b Bb Bp w := by
  intro k S X Y bs hy hB hbS hbX hI hY hc
  have hc' : ∀ j, j < 26 → Y[k * 26 + j]? = En.zeroC.toList[j]? := hc
  have hsz : k * 26 + 26 ≤ Y.size := by
    have := hc' 25 (by omega)
    have h2 : ∃ v, En.zeroC.toList[25]? = some v := ⟨_, rfl⟩
    obtain ⟨v, h2⟩ := h2
    rw [h2] at this
    have := (Array.getElem?_eq_some_iff.1 this).1
    omega
  exact wentry_r S (k * 26) Y bs b Bb Bp X hy hbB hbS hbX hI hY hsz fun j v hv => by
    have hj : j < 26 := by have := (List.getElem?_eq_some_iff.1 hv).1; rw [Array.length_toList, En.zeroC_size] at this; exact this
    rw [hc' j hj]; exact hv
theorem goodEn_kept {X X' : World} {S : Nat} {t : TypeId} {Y : Array Value} {e : En.E} {C : List Value} (hB : Box X S t Y) (ht : t ≠ 59) (hK : Kb S X X') (h : GoodEn X e C) : GoodEn X' e C := by
  obtain ⟨S2, h1, h2⟩ := h
  exact ⟨S2, h1, hK S2 _ _ h2 (Box.apart h2 hB (fun e => ht e.symm)) (by decide) (by decide)⟩
end Go.Proofs.Ytgmlbimgcifenaa
namespace Rx
open Go
/-- What a call that throws may leave. -/
abbrev Thr := List PanicEntry → World → Prop

def isHard (o : Oper) : Bool := match o.op with | .store .. => true | _ => false
def isMake (o : Oper) : Bool := match o.op with | .buildSlice .. | .alloc .. => true | .call c => (match c.callee with | .builtin .append | .value _ => true | _ => false) | _ => false
def isStore (o : Oper) : Bool := isHard o || isMake o
/-- The world is looked at, and left as it is. -/
def isLook (o : Oper) : Bool := match o.op with | .load .. | .nilCheck .. => true | _ => false
/-- Nothing of the world is asked. -/
def isFree (o : Oper) : Bool := match o.op with | .fieldAddr .. | .indexAddr .. | .move .. | .assign .. | .pick .. | .extract .. | .binOp .. | .unOp .. | .build .. | .convert .. => true | _ => false

theorem store_free {o : Oper} (h : isStore o = true) : isFree o = false := by
  unfold isStore isHard isMake at h
  unfold isFree
  generalize o.op = x at h ⊢
  cases x <;> first | rfl | (exact absurd h (by decide)) | (simp at h)
theorem store_look {o : Oper} (h : isStore o = true) : isLook o = false := by
  unfold isStore isHard isMake at h
  unfold isLook
  generalize o.op = x at h ⊢
  cases x <;> first | rfl | (exact absurd h (by decide)) | (simp at h)

/-- What an operation leaves: the value v, a world of C. -/
def Gives (P : Program) (X : Thr) (o : Oper) (a : Act) (w : World) (v : Value) (C : World → Prop) : Prop :=
  match (execOp a.eval o).run P w with
  | .ok (.value u) w1 => u = v ∧ C w1
  | .ok .skip w1 => undef = v ∧ C w1
  | .ok (.enter f args) w1 => Calls P f args w1 fun e w2 => (e = .returned v ∧ C w2) ∨ ∃ ch, e = .panicked ch ∧ X ch w2
  | _ => False

theorem Gives.wp {P : Program} {X : Thr} {o : Oper} {a : Act} {w : World} {v : Value} {C : World → Prop} {K : Act → World → Prop} {Q : Exit → Act → World → Prop} (h : Gives P X o a w v C) (hX : ∀ ch w', X ch w' → Q (.panic ch) a w') (hK : ∀ w', C w' → K (a.put o.dst v) w') : o.wp P a w K Q := by
  unfold Gives at h
  unfold Oper.wp
  generalize (execOp a.eval o).run P w = r at *
  cases r with
  | ok n w1 =>
    cases n <;> simp only [Oper.upon] at h ⊢
    case value u => obtain ⟨rfl, h⟩ := h; exact hK _ h
    case skip => obtain ⟨rfl, h⟩ := h; exact hK _ h
    case enter f args =>
      refine h.mono fun e w2 hq => ?_
      rcases hq with ⟨he, hw⟩ | ⟨ch, he, hw⟩
      · subst he; exact hK _ hw
      · subst he; exact hX _ _ hw
  | halt x w1 => cases h
theorem Gives.congr {P : Program} {X : Thr} {o : Oper} {a a' : Act} {w : World} {v : Value} {C : World → Prop} (h : Gives P X o a w v C) (he : execOp a'.eval o = execOp a.eval o) : Gives P X o a' w v C := by
  unfold Gives at *; rw [he]; exact h

/-- The walk in the order of the text: C is what is known of the world, D what is known of it till the next store, E what is known all the time; n is how many have been; the looks of st ask E alone. -/
def wpLex (P : Program) (X : Thr) (st : List Nat) (E : World → Prop) (Q : Act → (World → Prop) → Prop) : List Oper → Nat → Act → (World → Prop) → (World → Prop) → Prop
  | [], _, a, C, _ => Q a C
  | o :: rest, n, a, C, D =>
    if isStore o then ∃ v C' D', (∀ w, C w → Gives P X o a w v C') ∧ (isHard o = false → D' = D) ∧ (∀ w, C' w → D' w ∧ E w) ∧ wpLex P X st E Q rest (n + 1) (a.put o.dst v) C' D'
    else if isFree o then ∃ v, (∀ w, Gives P X o a w v (fun w' => w' = w)) ∧ wpLex P X st E Q rest (n + 1) (a.put o.dst v) C D
    else if isLook o then ∃ v, (∀ w, (if st.contains n then E w else D w) → Gives P X o a w v (fun w' => w' = w)) ∧ wpLex P X st E Q rest (n + 1) (a.put o.dst v) C D
    else ∃ v, (∀ w, C w → Gives P X o a w v C) ∧ wpLex P X st E Q rest (n + 1) (a.put o.dst v) C D

/-- A run in the order of the text, written out. -/
structure Run (P : Program) (X : Thr) (st : Nat → Bool) (E : World → Prop) (l : List Oper) (A : Nat → Act) (C D : Nat → World → Prop) (v : Nat → Value) : Prop where
  act : ∀ i o, l[i]? = some o → A (i + 1) = (A i).put o.dst (v i)
  store : ∀ i o, l[i]? = some o → isStore o = true → ∀ w, C i w → Gives P X o (A i) w (v i) (C (i + 1))
  free : ∀ i o, l[i]? = some o → isStore o = false → isFree o = true → C (i + 1) = C i ∧ ∀ w, Gives P X o (A i) w (v i) (fun w' => w' = w)
  look : ∀ i o, l[i]? = some o → isStore o = false → isFree o = false → isLook o = true → C (i + 1) = C i ∧ ∀ w, (if st i then E w else D i w) → Gives P X o (A i) w (v i) (fun w' => w' = w)
  read : ∀ i o, l[i]? = some o → isStore o = false → isFree o = false → isLook o = false → C (i + 1) = C i ∧ ∀ w, C i w → Gives P X o (A i) w (v i) (C i)
  soft : ∀ i o, l[i]? = some o → isHard o = false → D (i + 1) = D i
  held : ∀ i, i ≤ l.length → ∀ w, C i w → D i w ∧ E w

def consF {α : Type} (x : α) (f : Nat → α) : Nat → α
  | 0 => x
  | i + 1 => f i
theorem Run.cons {P : Program} {X : Thr} {st : Nat → Bool} {E : World → Prop} {l : List Oper} {o : Oper} {a : Act} {C D C1 D1 : World → Prop} {u : Value} {A : Nat → Act} {Cs Ds : Nat → World → Prop} {v : Nat → Value} (hr : Run P X (fun i => st (i + 1)) E l A Cs Ds v) (hA : A 0 = a.put o.dst u) (hC : Cs 0 = C1) (hD : Ds 0 = D1) (hCD : ∀ w, C w → D w ∧ E w)
    (h1 : isStore o = true → ∀ w, C w → Gives P X o a w u C1) (h2 : isStore o = false → isFree o = true → C1 = C ∧ ∀ w, Gives P X o a w u (fun w' => w' = w)) (h3 : isStore o = false → isFree o = false → isLook o = true → C1 = C ∧ ∀ w, (if st 0 then E w else D w) → Gives P X o a w u (fun w' => w' = w))
    (h4 : isStore o = false → isFree o = false → isLook o = false → C1 = C ∧ ∀ w, C w → Gives P X o a w u C) (h5 : isHard o = false → D1 = D) : Run P X st E (o :: l) (consF a A) (consF C Cs) (consF D Ds) (consF u v) := by
  refine ⟨?_, ?_, ?_, ?_, ?_, ?_, ?_⟩
  · intro i o' ho'
    cases i with
    | zero => simp at ho'; subst ho'; exact hA
    | succ i => exact hr.act i o' (by simpa using ho')
  · intro i o' ho'
    cases i with
    | zero => simp at ho'; subst ho'; intro hs w hw; show Gives P X o a w u (Cs 0); rw [hC]; exact h1 hs w hw
    | succ i => exact hr.store i o' (by simpa using ho')
  · intro i o' ho'
    cases i with
    | zero => simp at ho'; subst ho'; intro hs hf; exact ⟨hC.trans (h2 hs hf).1, (h2 hs hf).2⟩
    | succ i => exact hr.free i o' (by simpa using ho')
  · intro i o' ho'
    cases i with
    | zero => simp at ho'; subst ho'; intro hs hf hl; exact ⟨hC.trans (h3 hs hf hl).1, (h3 hs hf hl).2⟩
    | succ i => exact hr.look i o' (by simpa using ho')
  · intro i o' ho'
    cases i with
    | zero => simp at ho'; subst ho'; intro hs hf hl; exact ⟨hC.trans (h4 hs hf hl).1, (h4 hs hf hl).2⟩
    | succ i => exact hr.read i o' (by simpa using ho')
  · intro i o' ho'
    cases i with
    | zero => simp at ho'; subst ho'; intro hh; exact hD.trans (h5 hh)
    | succ i => exact hr.soft i o' (by simpa using ho')
  · intro i hi
    cases i with
    | zero => exact hCD
    | succ i => exact hr.held i (by simpa using hi)
theorem run_of_lex {P : Program} {X : Thr} {st : List Nat} {E : World → Prop} {Q : Act → (World → Prop) → Prop} : ∀ (l : List Oper) (n : Nat) (a : Act) (C D : World → Prop), (∀ w, C w → D w ∧ E w) → wpLex P X st E Q l n a C D →
    ∃ A Cs Ds v, Run P X (fun i => st.contains (n + i)) E l A Cs Ds v ∧ A 0 = a ∧ Cs 0 = C ∧ Ds 0 = D ∧ Q (A l.length) (Cs l.length)
  | [], n, a, C, D, hCD, h => ⟨fun _ => a, fun _ => C, fun _ => D, fun _ => undef, ⟨fun i o h => by simp at h, fun i o h => by simp at h, fun i o h => by simp at h, fun i o h => by simp at h, fun i o h => by simp at h, fun i o h => by simp at h, fun i _ w hw => hCD w hw⟩, rfl, rfl, rfl, h⟩
  | o :: l, n, a, C, D, hCD, h => by
    unfold wpLex at h
    have shift : (fun i => st.contains (n + 1 + i)) = fun i => (fun j => st.contains (n + j)) (i + 1) := funext fun i => by
      show st.contains (n + 1 + i) = st.contains (n + (i + 1)); rw [show n + 1 + i = n + (i + 1) by omega]
    by_cases hs : isStore o = true
    · rw [if_pos hs] at h
      obtain ⟨u, C', D', h1, hd, hcd, h2⟩ := h
      obtain ⟨A, Cs, Ds, v, hr, hA, hC, hD, hQ⟩ := run_of_lex l (n + 1) _ C' D' hcd h2
      rw [shift] at hr
      exact ⟨_, _, _, _, Run.cons (st := fun j => st.contains (n + j)) hr hA hC hD hCD (fun _ => h1) (fun e => by rw [hs] at e; cases e) (fun e => by rw [hs] at e; cases e) (fun e => by rw [hs] at e; cases e) hd, rfl, rfl, rfl, hQ⟩
    · have hs0 : isStore o = false := by simpa using hs
      have hh0 : isHard o = false := by simp [isStore] at hs0; exact hs0.1
      rw [if_neg hs] at h
      by_cases hf : isFree o = true
      · rw [if_pos hf] at h
        obtain ⟨u, h1, h2⟩ := h
        obtain ⟨A, Cs, Ds, v, hr, hA, hC, hD, hQ⟩ := run_of_lex l (n + 1) _ C D hCD h2
        rw [shift] at hr
        exact ⟨_, _, _, _, Run.cons (st := fun j => st.contains (n + j)) hr hA hC hD hCD (fun e => absurd e hs) (fun _ _ => ⟨rfl, h1⟩) (fun _ e => by rw [hf] at e; cases e) (fun _ e => by rw [hf] at e; cases e) (fun _ => rfl), rfl, rfl, rfl, hQ⟩
      · rw [if_neg hf] at h
        by_cases hl : isLook o = true
        · rw [if_pos hl] at h
          obtain ⟨u, h1, h2⟩ := h
          obtain ⟨A, Cs, Ds, v, hr, hA, hC, hD, hQ⟩ := run_of_lex l (n + 1) _ C D hCD h2
          rw [shift] at hr
          exact ⟨_, _, _, _, Run.cons (st := fun j => st.contains (n + j)) hr hA hC hD hCD (fun e => absurd e hs) (fun _ e => absurd e hf) (fun _ _ _ => ⟨rfl, h1⟩) (fun _ _ e => by rw [hl] at e; cases e) (fun _ => rfl), rfl, rfl, rfl, hQ⟩
        · rw [if_neg hl] at h
          obtain ⟨u, h1, h2⟩ := h
          obtain ⟨A, Cs, Ds, v, hr, hA, hC, hD, hQ⟩ := run_of_lex l (n + 1) _ C D hCD h2
          rw [shift] at hr
          exact ⟨_, _, _, _, Run.cons (st := fun j => st.contains (n + j)) hr hA hC hD hCD (fun e => absurd e hs) (fun _ e => absurd e hf) (fun _ _ e => absurd e hl) (fun _ _ _ => ⟨rfl, h1⟩) (fun _ => rfl), rfl, rfl, rfl, hQ⟩

section
variable {l : List Oper} {v : Nat → Value} {a0 : Act}
structure Shape (l : List Oper) (v : Nat → Value) (a0 : Act) (S : Nat → Bool) (a : Act) : Prop where
  size : a.tmps.size = a0.tmps.size
  defers : a.defers = a0.defers
  done : ∀ j o t, l[j]? = some o → o.dst = some t → S j = true → a.tmps[t]? = if t < a0.tmps.size then some (v j) else none
  rest : ∀ t, (∀ j o, l[j]? = some o → o.dst = some t → S j = false) → a.tmps[t]? = a0.tmps[t]?

def Distinct (l : List Oper) : Prop := ∀ (i j : Nat) (oi oj : Oper) (t : Tmp), l[i]? = some oi → l[j]? = some oj → oi.dst = some t → oj.dst = some t → i = j

theorem Shape.start : Shape l v a0 (fun _ => false) a0 := ⟨rfl, rfl, fun _ _ _ _ _ h => (by cases h), fun _ _ => rfl⟩
theorem Shape.put {S : Nat → Bool} {a : Act} (hd : Distinct l) (h : Shape l v a0 S a) {i : Nat} {o : Oper} (ho : l[i]? = some o) : Shape l v a0 (fun j => S j || j == i) (a.put o.dst (v i)) := by
  cases hdst : o.dst with
  | none =>
    refine ⟨h.size, h.defers, fun j oj t hj ht hS => ?_, fun t ht => ?_⟩
    · simp only [Bool.or_eq_true, beq_iff_eq] at hS
      rcases hS with hS | rfl
      · exact h.done j oj t hj ht hS
      · rw [ho] at hj; injection hj with hj; subst hj; rw [hdst] at ht; cases ht
    · exact h.rest t fun j oj hj ht' => by have := ht j oj hj ht'; simp at this; exact this.1
  | some d =>
    refine ⟨by simp [Act.put, h.size], h.defers, fun j oj t hj ht hS => ?_, fun t ht => ?_⟩
    · simp only [Act.put, Array.getElem?_setIfInBounds]
      by_cases htd : d = t
      · subst htd
        have : j = i := hd j i oj o d hj ho ht hdst
        subst this
        rw [if_pos rfl, h.size]
      · rw [if_neg htd]
        simp only [Bool.or_eq_true, beq_iff_eq] at hS
        rcases hS with hS | rfl
        · exact h.done j oj t hj ht hS
        · rw [ho] at hj; injection hj with hj; subst hj; rw [hdst] at ht; injection ht with ht; exact absurd ht htd
    · have hne : d ≠ t := fun e => by subst e; have := ht i o ho hdst; simp at this
      simp only [Act.put, Array.getElem?_setIfInBounds, if_neg hne]
      exact h.rest t fun j oj hj ht' => by have := ht j oj hj ht'; simp at this; exact this.1
theorem Shape.same {S S' : Nat → Bool} {a a' : Act} (h : Shape l v a0 S a) (h' : Shape l v a0 S' a') {t : Nat} (hS : ∀ j o, l[j]? = some o → o.dst = some t → S j = S' j) : a.tmps[t]? = a'.tmps[t]? := by
  by_cases hx : ∃ j o, l[j]? = some o ∧ o.dst = some t ∧ S j = true
  · obtain ⟨j, o, hj, ht, hs⟩ := hx
    rw [h.done j o t hj ht hs, h'.done j o t hj ht (by rw [← hS j o hj ht]; exact hs)]
  · have hn : ∀ j o, l[j]? = some o → o.dst = some t → S j = false := fun j o hj ht => by
      cases hs : S j
      · rfl
      · exact absurd ⟨j, o, hj, ht, hs⟩ hx
    rw [h.rest t hn, h'.rest t fun j o hj ht => by rw [← hS j o hj ht]; exact hn j o hj ht]
theorem Shape.ext {S S' : Nat → Bool} {a a' : Act} (h : Shape l v a0 S a) (h' : Shape l v a0 S' a') (hS : ∀ j o, l[j]? = some o → S j = S' j) : a = a' := by
  have ht : a.tmps = a'.tmps := Array.ext_getElem? fun t => h.same h' fun j o hj _ => hS j o hj
  have hd : a.defers = a'.defers := h.defers.trans h'.defers.symm
  cases a; cases a'; simp_all
theorem Shape.congr {S S' : Nat → Bool} {a : Act} (h : Shape l v a0 S a) (hS : ∀ j o, l[j]? = some o → S j = S' j) : Shape l v a0 S' a :=
  ⟨h.size, h.defers, fun j o t hj ht hs => h.done j o t hj ht (by rw [hS j o hj]; exact hs), fun t ht => h.rest t fun j o hj hd => by rw [hS j o hj]; exact ht j o hj hd⟩
theorem Run.shape {P : Program} {X : Thr} {st : Nat → Bool} {E : World → Prop} {A : Nat → Act} {C D : Nat → World → Prop} (hr : Run P X st E l A C D v) (hd : Distinct l) : ∀ k, k ≤ l.length → Shape l v (A 0) (fun j => decide (j < k)) (A k)
  | 0, _ => Shape.start.congr fun j o _ => by simp
  | k + 1, hk => by
    have ho : l[k]? = some (l[k]'(by omega)) := List.getElem?_eq_getElem (by omega)
    rw [hr.act k _ ho]
    refine ((Run.shape hr hd k (by omega)).put hd ho).congr fun j o _ => ?_
    rw [Bool.eq_iff_iff]; simp; omega
end

/-- Does i wait for j? As the table says. -/
def tb (b : Array Nat) (i j : Nat) : Bool := (b.getD i 0).testBit j
def pairB (st : List Nat) (l : List Oper) (b : Array Nat) (i j : Nat) : Bool :=
  match l[i]?, l[j]? with
  | some oi, some oj =>
    (!(tb b i j) || oi.after.any fun e => Region.binds .any e && (e.on == j || tb b e.on j)) &&
    (i == j || ((match oi.dst, oj.dst with | some d, some d' => d != d' | _, _ => true) &&
      (match oj.dst with | some d => !(oi.looksAt l.toArray).contains d || (if j < i then tb b i j else tb b j i) | none => true) &&
      (!isStore oj || isFree oi || (isLook oi && (!isHard oj || st.contains i)) || (if j < i then tb b i j else tb b j i))))
  | _, _ => true
def oneB (l : List Oper) (i : Nat) : Bool :=
  match l[i]? with
  | some o => o.guard.isNone && !(isStore o && isFree o) && o.after.all fun e => !Region.binds .any e || decide (e.on < i)
  | none => true
def okB (st : List Nat) (l : List Oper) : Bool :=
  Region.noSelect l.toArray && ((List.range l.length).all fun i => oneB l i && (List.range l.length).all fun j => pairB st l (Region.before l.toArray) i j)

structure Ok (st : List Nat) (l : List Oper) (cl : Nat → Nat → Bool) : Prop where
  sel : Region.noSelect l.toArray = true
  guard : ∀ (i : Nat) (o : Oper), l[i]? = some o → o.guard = none
  down : ∀ (i : Nat) (o : Oper), l[i]? = some o → ∀ e ∈ o.after, Region.binds .any e = true → e.on < i
  cert : ∀ (i j : Nat) (o oj : Oper), l[i]? = some o → l[j]? = some oj → cl i j = true → ∃ e ∈ o.after, Region.binds .any e = true ∧ (e.on = j ∨ cl e.on j = true)
  dist : Distinct l
  looks : ∀ (i j : Nat) (oi oj : Oper) (t : Tmp), l[i]? = some oi → l[j]? = some oj → i ≠ j → oj.dst = some t → t ∈ oi.looksAt l.toArray → (if j < i then cl i j else cl j i) = true
  store : ∀ (i j : Nat) (oi oj : Oper), l[i]? = some oi → l[j]? = some oj → i ≠ j → isStore oj = true → isFree oi = false → (isLook oi && (!isHard oj || st.contains i)) = false → (if j < i then cl i j else cl j i) = true
theorem Ok.of (st : List Nat) (l : List Oper) (h : okB st l = true) : Ok st l (tb (Region.before l.toArray)) := by
  simp only [okB, Bool.and_eq_true] at h
  obtain ⟨h0, h⟩ := h
  have h1 : ∀ i o, l[i]? = some o → oneB l i = true ∧ ∀ j oj, l[j]? = some oj → pairB st l (Region.before l.toArray) i j = true := fun i o ho => by
    have hi : i < l.length := (List.getElem?_eq_some_iff.1 ho).1
    have := List.all_eq_true.1 h i (List.mem_range.2 hi)
    simp only [Bool.and_eq_true] at this
    exact ⟨this.1, fun j oj hj => List.all_eq_true.1 this.2 j (List.mem_range.2 (List.getElem?_eq_some_iff.1 hj).1)⟩
  have one : ∀ i o, l[i]? = some o → (o.guard.isNone = true ∧ (!(isStore o && isFree o)) = true) ∧ (o.after.all fun e => !Region.binds .any e || decide (e.on < i)) = true := fun i o ho => by
    have := (h1 i o ho).1
    simp only [oneB, ho, Bool.and_eq_true] at this
    exact this
  have two : ∀ i j oi oj, l[i]? = some oi → l[j]? = some oj →
      (!(tb (Region.before l.toArray) i j) || oi.after.any fun e => Region.binds .any e && (e.on == j || tb (Region.before l.toArray) e.on j)) = true ∧
      (i == j || ((match oi.dst, oj.dst with | some d, some d' => d != d' | _, _ => true) &&
      (match oj.dst with | some d => !(oi.looksAt l.toArray).contains d || (if j < i then tb (Region.before l.toArray) i j else tb (Region.before l.toArray) j i) | none => true) &&
      (!isStore oj || isFree oi || (isLook oi && (!isHard oj || st.contains i)) || (if j < i then tb (Region.before l.toArray) i j else tb (Region.before l.toArray) j i)))) = true := fun i j oi oj hi hj => by
    have := (h1 i oi hi).2 j oj hj
    simp only [pairB, hi, hj, Bool.and_eq_true] at this
    exact this
  refine ⟨h0, fun i o ho => by simpa using (one i o ho).1.1, fun i o ho e he hb => ?_, fun i j o oj hi hj hc => ?_, fun i j oi oj t hi hj hdi hdj => ?_, fun i j oi oj t hi hj hne hdj ht => ?_, fun i j oi oj hi hj hne hs hf hlk => ?_⟩
  · have := (Array.all_eq_true_iff_forall_mem.1 (one i o ho).2) e he
    simpa [hb] using this
  · have := (two i j o oj hi hj).1
    rw [hc] at this
    simp at this
    obtain ⟨k, hk, h1, h2⟩ := this
    exact ⟨o.after[k], Array.getElem_mem hk, h1, h2⟩
  · by_cases hij : i = j
    · exact hij
    · have := (two i j oi oj hi hj).2
      simp [hij, hdi, hdj] at this
  · have := (two i j oi oj hi hj).2
    simp only [Bool.or_eq_true, beq_iff_eq, Bool.and_eq_true, hne, false_or, hdj] at this
    have h2 := this.1.2
    rcases h2 with h2 | h2
    · simp at h2; exact absurd ht h2
    · exact h2
  · have := (two i j oi oj hi hj).2
    simp only [Bool.or_eq_true, beq_iff_eq, Bool.and_eq_true, hne, false_or] at this
    rcases this.2 with ((h2 | h2) | h2) | h2
    · simp [hs] at h2
    · rw [hf] at h2; cases h2
    · simp only [h2.1, Bool.true_and] at hlk; have h3' := h2.2; simp only [Bool.or_eq_false_iff] at hlk; rcases h3' with h3 | h3
      · rw [hlk.1] at h3; cases h3
      · rw [hlk.2] at h3; cases h3
    · exact h2

/-- How many have not been. -/
def unl (f : Nat → Bool) : Nat → Nat
  | 0 => 0
  | k + 1 => unl f k + (if f k then 0 else 1)
theorem unl_le (f : Nat → Bool) : ∀ n, unl f n ≤ n
  | 0 => Nat.le_refl _
  | n + 1 => by have := unl_le f n; unfold unl; split <;> omega
theorem unl_zero {f : Nat → Bool} : ∀ {n}, unl f n = 0 → ∀ i, i < n → f i = true
  | 0, _, i, h => absurd h (by omega)
  | n + 1, h, i, hi => by
    unfold unl at h
    by_cases hfn : f n = true
    · rw [if_pos hfn] at h
      by_cases hin : i = n
      · rw [hin]; exact hfn
      · exact unl_zero (n := n) (by omega) i (by omega)
    · rw [if_neg hfn] at h; omega
theorem unl_congr {f g : Nat → Bool} : ∀ {n}, (∀ i, i < n → f i = g i) → unl f n = unl g n
  | 0, _ => rfl
  | n + 1, h => by unfold unl; rw [unl_congr (n := n) fun i hi => h i (by omega), h n (by omega)]
theorem unl_set {f g : Nat → Bool} {i : Nat} (h0 : f i = false) (h1 : g i = true) (ho : ∀ j, j ≠ i → g j = f j) : ∀ {n}, i < n → unl g n + 1 = unl f n
  | 0, h => absurd h (by omega)
  | n + 1, h => by
    unfold unl
    by_cases hin : i = n
    · subst hin
      rw [unl_congr (n := i) fun j hj => ho j (by omega), h0, h1]; simp
    · have := unl_set h0 h1 ho (n := n) (by omega)
      rw [ho n (by omega)]; omega

structure Inv (l : List Oper) (v : Nat → Value) (a0 : Act) (C : Nat → World → Prop) (listed : Array Bool) (a : Act) (w : World) : Prop where
  size : listed.size = l.length
  closed : ∀ (i : Nat) (o : Oper), l[i]? = some o → listed.getD i false = true → ∀ e ∈ o.after, Region.binds .any e = true → listed.getD e.on false = true
  shape : Shape l v a0 (fun j => listed.getD j false) a
  world : ∀ i, i ≤ l.length → (∀ (j : Nat) (o : Oper), l[j]? = some o → isStore o = true → listed.getD j false = decide (j < i)) → C i w

section
variable {P : Program} {X : Thr} {st : List Nat} {E : World → Prop} {l : List Oper} {A : Nat → Act} {C D : Nat → World → Prop} {v : Nat → Value} {cl : Nat → Nat → Bool} {listed : Array Bool} {a : Act} {w : World}
theorem Inv.down (ok : Ok st l cl) (h : Inv l v (A 0) C listed a w) : ∀ (n i j : Nat), i < n → (∃ o, l[i]? = some o) → (∃ o, l[j]? = some o) → cl i j = true → listed.getD i false = true → listed.getD j false = true
  | 0, _, _, hi, _, _, _, _ => absurd hi (by omega)
  | n + 1, i, j, hi, ⟨o, ho⟩, ⟨oj, hj⟩, hc, hl => by
    obtain ⟨e, he, hb, h'⟩ := ok.cert i j o oj ho hj hc
    have h1 := h.closed i o ho hl e he hb
    rcases h' with rfl | h'
    · exact h1
    · have hd := ok.down i o ho e he hb
      have hlt : i < l.length := (List.getElem?_eq_some_iff.1 ho).1
      exact Inv.down ok h n e.on j (by omega) ⟨_, List.getElem?_eq_getElem (show e.on < l.length by omega)⟩ ⟨oj, hj⟩ h' h1
/-- What stands between stores is one class. -/
theorem Run.between (hr : Run P X (fun i => st.contains i) E l A C D v) {i : Nat} : ∀ (d k : Nat), k = i + d → k ≤ l.length → (∀ (j : Nat) (o : Oper), l[j]? = some o → isStore o = true → i ≤ j → j < k → False) → C k = C i
  | 0, k, hk, _, _ => by rw [hk]; rfl
  | d + 1, k, hk, hl, hn => by
    have ih := Run.between hr d (k - 1) (by omega) (by omega) (fun j o hj hs h1 h2 => hn j o hj hs h1 (by omega))
    have ho : l[k - 1]? = some (l[k - 1]'(by omega)) := List.getElem?_eq_getElem (by omega)
    have hs : isStore (l[k - 1]'(by omega)) = false := by
      cases h : isStore (l[k - 1]'(by omega))
      · rfl
      · exact (hn _ _ ho h (by omega) (by omega)).elim
    have e : k - 1 + 1 = k := by omega
    cases hf : isFree (l[k - 1]'(by omega))
    · cases hl : isLook (l[k - 1]'(by omega))
      · have := (hr.read _ _ ho hs hf hl).1; rw [e] at this; rw [this, ih]
      · have := (hr.look _ _ ho hs hf hl).1; rw [e] at this; rw [this, ih]
    · have := (hr.free _ _ ho hs hf).1; rw [e] at this; rw [this, ih]
theorem Run.one (hr : Run P X (fun i => st.contains i) E l A C D v) {f : Nat → Bool} {i k : Nat} (hi : i ≤ l.length) (hk : k ≤ l.length) (h1 : ∀ (j : Nat) (o : Oper), l[j]? = some o → isStore o = true → f j = decide (j < i)) (h2 : ∀ (j : Nat) (o : Oper), l[j]? = some o → isStore o = true → f j = decide (j < k)) : C k = C i := by
  rcases Nat.le_total i k with h | h
  · exact hr.between (k - i) k (by omega) hk fun j o hj hs ha hb => by
      have e1 := h1 j o hj hs; have e2 := h2 j o hj hs
      rw [e1] at e2; simp at e2; omega
  · exact (hr.between (i - k) i (by omega) hi fun j o hj hs ha hb => by
      have e1 := h1 j o hj hs; have e2 := h2 j o hj hs
      rw [e1] at e2; simp at e2; omega).symm

theorem Run.steady (hr : Run P X (fun i => st.contains i) E l A C D v) {i : Nat} : ∀ (d k : Nat), k = i + d → k ≤ l.length → (∀ (j : Nat) (o : Oper), l[j]? = some o → isHard o = true → i ≤ j → j < k → False) → D k = D i
  | 0, k, hk, _, _ => by rw [hk]; rfl
  | d + 1, k, hk, hl, hn => by
    have ih := Run.steady hr d (k - 1) (by omega) (by omega) (fun j o hj hs h1 h2 => hn j o hj hs h1 (by omega))
    have ho : l[k - 1]? = some (l[k - 1]'(by omega)) := List.getElem?_eq_getElem (by omega)
    have hs : isHard (l[k - 1]'(by omega)) = false := by
      cases h : isHard (l[k - 1]'(by omega))
      · rfl
      · exact (hn _ _ ho h (by omega) (by omega)).elim
    have e : k - 1 + 1 = k := by omega
    have := hr.soft _ _ ho hs; rw [e] at this; rw [this, ih]
/-- Of the acts the first so many have been. -/
theorem Inv.where_ (ok : Ok st l cl) (h : Inv l v (A 0) C listed a w) : ∃ k, k ≤ l.length ∧ ∀ (j : Nat) (o : Oper), l[j]? = some o → isStore o = true → listed.getD j false = decide (j < k) := by
  have key : ∀ n, n ≤ l.length → (∀ (j : Nat) (o : Oper), l[j]? = some o → isStore o = true → j < n → listed.getD j false = true) ∨ ∃ k, k < n ∧ ∃ o, l[k]? = some o ∧ isStore o = true ∧ listed.getD k false = false ∧ ∀ (j : Nat) (o : Oper), l[j]? = some o → isStore o = true → j < k → listed.getD j false = true := by
    intro n
    induction n with
    | zero => intro _; exact .inl fun j o _ _ hj => absurd hj (by omega)
    | succ n ih =>
      intro hn
      rcases ih (by omega) with h1 | ⟨k, hk, h1⟩
      · have ho : l[n]? = some (l[n]'(by omega)) := List.getElem?_eq_getElem (by omega)
        by_cases hs : isStore (l[n]'(by omega)) = true
        · cases hl : listed.getD n false
          · exact .inr ⟨n, by omega, _, ho, hs, hl, h1⟩
          · refine .inl fun j o hj hso hjn => ?_
            by_cases e : j = n
            · subst e; exact hl
            · exact h1 j o hj hso (by omega)
        · refine .inl fun j o hj hso hjn => ?_
          by_cases e : j = n
          · subst e; rw [ho] at hj; injection hj with hj; subst hj; exact absurd hso hs
          · exact h1 j o hj hso (by omega)
      · exact .inr ⟨k, by omega, h1⟩
  rcases key l.length (Nat.le_refl _) with h1 | ⟨k, hk, o, ho, hs, hl, h1⟩
  · refine ⟨l.length, Nat.le_refl _, fun j o hj hso => ?_⟩
    have := (List.getElem?_eq_some_iff.1 hj).1
    rw [h1 j o hj hso this]; simp [this]
  · refine ⟨k, by omega, fun j oj hj hsj => ?_⟩
    by_cases hjk : j < k
    · rw [h1 j oj hj hsj hjk]; simp [hjk]
    · by_cases e : j = k
      · subst e; rw [hl]; simp
      · have hf : isFree o = false := store_free hs
        have hlk : isLook o = false := store_look hs
        have hc := ok.store k j o oj ho hj (fun e' => e e'.symm) hsj hf (by simp [hlk])
        rw [if_neg (by omega)] at hc
        cases hlj : listed.getD j false
        · simp [hjk]
        · have := h.down ok l.length j k (List.getElem?_eq_some_iff.1 hj).1 ⟨oj, hj⟩ ⟨o, ho⟩ hc hlj
          rw [hl] at this; cases this
theorem Inv.step (hr : Run P X (fun i => st.contains i) E l A C D v) (ok : Ok st l cl) (h : Inv l v (A 0) C listed a w) {Q : Exit → Act → World → Prop} (hX : ∀ a', a'.defers = (A 0).defers → (∀ t, (∀ o ∈ l, o.dst ≠ some t) → a'.tmps[t]? = (A 0).tmps[t]?) → ∀ ch w', X ch w' → Q (.panic ch) a' w') {i : Nat} (hi : i ∈ Region.ready .any l.toArray listed) :
    wpOp P l.toArray Q i (fun a' w' => Inv l v (A 0) C (listed.setIfInBounds i true) a' w') a w := by
  obtain ⟨hun, o, ho', hdeps⟩ := mem_ready.1 hi
  have ho : l[i]? = some o := by simpa using ho'
  have hil : i < l.length := (List.getElem?_eq_some_iff.1 ho).1
  have his : i < listed.size := by rw [h.size]; exact hil
  have hun' : listed.getD i false = false := by simp [his] at hun ⊢; exact hun
  -- who is waited for has been; who waits has not
  have before : ∀ j oj, l[j]? = some oj → cl i j = true → listed.getD j false = true := fun j oj hj hc => by
    obtain ⟨e, he, hb, h'⟩ := ok.cert i j o oj ho hj hc
    have h1 := hdeps e he hb
    rcases h' with rfl | h'
    · exact h1
    · have hd := ok.down i o ho e he hb
      exact h.down ok l.length e.on j (by omega) ⟨_, List.getElem?_eq_getElem (show e.on < l.length by omega)⟩ ⟨oj, hj⟩ h' h1
  have behind : ∀ j oj, l[j]? = some oj → cl j i = true → listed.getD j false = false := fun j oj hj hc => by
    cases hl : listed.getD j false
    · rfl
    · have hjl : j < l.length := (List.getElem?_eq_some_iff.1 hj).1
      have := h.down ok l.length j i hjl ⟨oj, hj⟩ ⟨o, ho⟩ hc hl
      rw [hun'] at this; cases this
  have exec : execOp a.eval o = execOp (A i).eval o := execOp_congr o (fun cs b => Region.noSelect_spec ok.sel i o cs b ho') fun x hx => by
    cases x with
    | tmp t =>
      have ht : t ∈ o.looksAt l.toArray := List.mem_append_left _ (List.mem_filterMap.2 ⟨.tmp t, by simpa using hx, rfl⟩)
      have e := h.shape.same (hr.shape ok.dist i (by omega)) (t := t) fun j oj hj hd => by
        by_cases hji : j = i
        · subst hji; rw [hun']; simp
        · have hc := ok.looks i j o oj t ho hj (fun e => hji e.symm) hd ht
          by_cases hlt : j < i
          · rw [if_pos hlt] at hc; rw [before j oj hj hc]; simp [hlt]
          · rw [if_neg hlt] at hc; rw [behind j oj hj hc]; simp [hlt]
      simp only [Act.eval, Array.getD_eq_getD_getElem?, e]
    | const => rfl
    | global => rfl
    | func => rfl
  have hg := ok.guard i o ho
  have getset : ∀ j, (listed.setIfInBounds i true).getD j false = (listed.getD j false || j == i) := fun j => by
    by_cases hji : j = i
    · subst hji; simp [his]
    · rw [getD_set_ne false (fun e => hji e.symm)]; simp [hji]
  -- what is left of the invariant, whatever comes of the world
  have next : ∀ w', (∀ k, k ≤ l.length → (∀ (j : Nat) (oj : Oper), l[j]? = some oj → isStore oj = true → (listed.getD j false || j == i) = decide (j < k)) → C k w') → Inv l v (A 0) C (listed.setIfInBounds i true) (a.put o.dst (v i)) w' := fun w' hw => by
    refine ⟨by simp [h.size], fun j oj hj hl e he hb => ?_, (h.shape.put ok.dist ho).congr fun j oj hj => (getset j).symm, fun k hk hst => hw k hk fun j oj hj hs => by rw [← getset j]; exact hst j oj hj hs⟩
    rw [getset] at hl ⊢
    simp only [Bool.or_eq_true, beq_iff_eq] at hl ⊢
    rcases hl with hl | rfl
    · exact .inl (h.closed j oj hj hl e he hb)
    · rw [ho] at hj; injection hj with hj; subst hj; exact .inl (hdeps e he hb)
  unfold wpOp
  simp only [ho', Region.wanted, hg, if_true]
  refine .inl ?_
  cases hs : isStore o
  · cases hf : isFree o
    · cases hl : isLook o
      · -- a call
        have here : ∀ (j : Nat) (oj : Oper), l[j]? = some oj → isStore oj = true → listed.getD j false = decide (j < i) := fun j oj hj hsj => by
          have hji : j ≠ i := fun e => by subst e; rw [ho] at hj; injection hj with hj; subst hj; rw [hs] at hsj; cases hsj
          have hc := ok.store i j o oj ho hj (fun e => hji e.symm) hsj hf (by simp [hl])
          by_cases hlt : j < i
          · rw [if_pos hlt] at hc; rw [before j oj hj hc]; simp [hlt]
          · rw [if_neg hlt] at hc; rw [behind j oj hj hc]; simp [hlt]
        have hw := h.world i (by omega) here
        refine (((hr.read i o ho hs hf hl).2 w hw).congr exec).wp (fun ch w' hq => hX _ h.shape.defers (fun t ht => h.shape.rest t fun j o hj hd => absurd hd (ht o (List.mem_of_getElem? hj))) ch w' hq) fun w' hw' => next w' fun k hk hst => ?_
        have hst' : ∀ (j : Nat) (oj : Oper), l[j]? = some oj → isStore oj = true → listed.getD j false = decide (j < k) := fun j oj hj hsj => by
          have hji : j ≠ i := fun e => by subst e; rw [ho] at hj; injection hj with hj; subst hj; rw [hs] at hsj; cases hsj
          have := hst j oj hj hsj; rw [show (j == i) = false from by simpa using hji, Bool.or_false] at this; exact this
        rw [hr.one (f := fun j => listed.getD j false) (by omega) hk here hst']; exact hw'
      · -- a look
        obtain ⟨k0, hk0, hat⟩ := h.where_ ok
        have hD : if st.contains i then E w else D i w := by
          have h00 := hr.held k0 hk0 w (h.world k0 hk0 hat)
          by_cases hst0 : st.contains i = true
          · rw [if_pos hst0]; exact h00.2
          rw [if_neg hst0]
          have h0 := h00.1
          have hst0 : st.contains i = false := by simpa using hst0
          have hard : ∀ (j : Nat) (oj : Oper), l[j]? = some oj → isHard oj = true → listed.getD j false = decide (j < i) ∧ j ≠ i := fun j oj hj hhj => by
            have hsj : isStore oj = true := by simp [isStore, hhj]
            have hji : j ≠ i := fun e => by subst e; rw [ho] at hj; injection hj with hj; subst hj; rw [hs] at hsj; cases hsj
            have hc := ok.store i j o oj ho hj (fun e => hji e.symm) hsj hf (by rw [hhj, hst0]; simp)
            by_cases hlt : j < i
            · rw [if_pos hlt] at hc; rw [before j oj hj hc]; simp [hlt, hji]
            · rw [if_neg hlt] at hc; rw [behind j oj hj hc]; simp [hlt, hji]
          have none : ∀ (j : Nat) (oj : Oper), l[j]? = some oj → isHard oj = true → decide (j < k0) = decide (j < i) := fun j oj hj hhj => by
            rw [← hat j oj hj (by simp [isStore, hhj])]; exact (hard j oj hj hhj).1
          rcases Nat.le_total i k0 with hle | hle
          · rw [hr.steady (i := i) (k0 - i) k0 (by omega) hk0 fun j oj hj hh h1 h2 => by
              have := none j oj hj hh; simp [h2] at this; omega] at h0
            exact h0
          · rw [← hr.steady (i := k0) (i - k0) i (by omega) (by omega) fun j oj hj hh h1 h2 => by
              have := none j oj hj hh; simp [h2] at this; omega] at h0
            exact h0
        refine (((hr.look i o ho hs hf hl).2 w hD).congr exec).wp (fun ch w' hq => hX _ h.shape.defers (fun t ht => h.shape.rest t fun j o hj hd => absurd hd (ht o (List.mem_of_getElem? hj))) ch w' hq) fun w' hw' => next w' fun k hk hst => ?_
        subst hw'
        refine h.world k hk fun j oj hj hsj => ?_
        have hji : j ≠ i := fun e => by subst e; rw [ho] at hj; injection hj with hj; subst hj; rw [hs] at hsj; cases hsj
        have := hst j oj hj hsj; rw [show (j == i) = false from by simpa using hji, Bool.or_false] at this; exact this
    · -- nothing of the world
      refine (((hr.free i o ho hs hf).2 w).congr exec).wp (fun ch w' hq => hX _ h.shape.defers (fun t ht => h.shape.rest t fun j o hj hd => absurd hd (ht o (List.mem_of_getElem? hj))) ch w' hq) fun w' hw' => next w' fun k hk hst => ?_
      subst hw'
      refine h.world k hk fun j oj hj hsj => ?_
      have hji : j ≠ i := fun e => by subst e; rw [ho] at hj; injection hj with hj; subst hj; rw [hs] at hsj; cases hsj
      have := hst j oj hj hsj; rw [show (j == i) = false from by simpa using hji, Bool.or_false] at this; exact this
  · -- a store
    have hf : isFree o = false := store_free hs
    have hlk : isLook o = false := store_look hs
    have here : ∀ (j : Nat) (oj : Oper), l[j]? = some oj → isStore oj = true → listed.getD j false = decide (j < i) := fun j oj hj hsj => by
      by_cases hji : j = i
      · subst hji; rw [hun']; simp
      · have hc := ok.store i j o oj ho hj (fun e => hji e.symm) hsj hf (by simp [hlk])
        by_cases hlt : j < i
        · rw [if_pos hlt] at hc; rw [before j oj hj hc]; simp [hlt]
        · rw [if_neg hlt] at hc; rw [behind j oj hj hc]; simp [hlt]
    have hw := h.world i (by omega) here
    have hgv := hr.store i o ho hs w hw
    refine (hgv.congr exec).wp (fun ch w' hq => hX _ h.shape.defers (fun t ht => h.shape.rest t fun j o hj hd => absurd hd (ht o (List.mem_of_getElem? hj))) ch w' hq) fun w' hw' => next w' fun k hk hst => ?_
    have h1 : ∀ (j : Nat) (oj : Oper), l[j]? = some oj → isStore oj = true → (listed.getD j false || j == i) = decide (j < i + 1) := fun j oj hj hsj => by
      rw [here j oj hj hsj, Bool.eq_iff_iff]; simp; omega
    rw [hr.one (f := fun j => listed.getD j false || j == i) (by omega) hk h1 hst]; exact hw'

theorem Inv.all_ (hr : Run P X (fun i => st.contains i) E l A C D v) (ok : Ok st l cl) {Q : Exit → Act → World → Prop} (hX : ∀ a', a'.defers = (A 0).defers → (∀ t, (∀ o ∈ l, o.dst ≠ some t) → a'.tmps[t]? = (A 0).tmps[t]?) → ∀ ch w', X ch w' → Q (.panic ch) a' w') (hQ : ∀ w, C l.length w → Q .normal (A l.length) w) : ∀ (n : Nat) (listed : Array Bool) (a : Act) (w : World), Inv l v (A 0) C listed a w → unl (fun i => listed.getD i false) l.length ≤ n →
    wpAny P .any l.toArray Q n listed a w := by
  have last : ∀ (listed : Array Bool) (a : Act) (w : World), Inv l v (A 0) C listed a w → (∀ i, i < l.length → listed.getD i false = true) → Q .normal a w := fun listed a w h hall => by
    have e : a = A l.length := h.shape.ext (hr.shape ok.dist l.length (Nat.le_refl _)) fun j o hj => by
      have hjl : j < l.length := (List.getElem?_eq_some_iff.1 hj).1
      rw [hall j hjl]; simp [hjl]
    rw [e]
    exact hQ w (h.world l.length (Nat.le_refl _) fun j o hj _ => by
      have hjl : j < l.length := (List.getElem?_eq_some_iff.1 hj).1
      rw [hall j hjl]; simp [hjl])
  intro n
  induction n with
  | zero =>
    intro listed a w h hn
    have hall := unl_zero (f := fun i => listed.getD i false) (n := l.length) (by omega)
    refine ⟨?_, last listed a w h hall⟩
    cases hr' : Region.ready .any l.toArray listed with
    | nil => rfl
    | cons i is =>
      have hi : i ∈ Region.ready .any l.toArray listed := by rw [hr']; simp
      obtain ⟨hun, o, ho', _⟩ := mem_ready.1 hi
      have hil : i < l.length := by have := (Array.getElem?_eq_some_iff.1 ho').1; simpa using this
      have := hall i hil
      have his : i < listed.size := by rw [h.size]; exact hil
      simp [his] at hun this
      rw [this] at hun; cases hun
  | succ n ih =>
    intro listed a w h hn
    refine ⟨fun hr' => last listed a w h fun i hi => ?_, fun i hi => ?_⟩
    · induction i using Nat.strongRecOn with
      | _ i ihi =>
        cases hu : listed.getD i false
        · have ho : l[i]? = some (l[i]'hi) := List.getElem?_eq_getElem hi
          have : i ∈ Region.ready .any l.toArray listed := mem_ready.2 ⟨by
            have his : i < listed.size := by rw [h.size]; exact hi
            simp [his] at hu ⊢; exact hu, _, (by rw [List.getElem?_toArray]; exact ho), fun e he hb => by
            have hd := ok.down i _ ho e he hb
            exact ihi e.on hd (by omega)⟩
          rw [hr'] at this; cases this
        · rfl
    · refine wpOp_mono (fun a' w' h' => ih _ a' w' h' ?_) (h.step hr ok hX hi)
      obtain ⟨hun, o, ho', _⟩ := mem_ready.1 hi
      have hil : i < l.length := by have := (Array.getElem?_eq_some_iff.1 ho').1; simpa using this
      have his : i < listed.size := by rw [h.size]; exact hil
      have := unl_set (f := fun i => listed.getD i false) (g := fun j => (listed.setIfInBounds i true).getD j false) (i := i) (by simp [his] at hun ⊢; exact hun) (by simp [his]) (fun j hj => getD_set_ne false (fun e => hj e.symm)) hil
      omega

/-- **One walk serves every order.** -/
theorem any_of_lex {Q : Exit → Act → World → Prop} (hX : ∀ a', a'.defers = a.defers → (∀ t, (∀ o ∈ l, o.dst ≠ some t) → a'.tmps[t]? = a.tmps[t]?) → ∀ ch w', X ch w' → Q (.panic ch) a' w') (hB : okB st l = true) (C0 D0 : World → Prop) (hC : C0 w.drew) (hCD : ∀ w, C0 w → D0 w ∧ E w)
    (h : wpLex P X st E (fun a' C' => ∀ w', C' w' → Q .normal a' w') l 0 a C0 D0) : wpAny P .any l.toArray Q l.toArray.size (Array.replicate l.toArray.size false) a w.drew := by
  obtain ⟨A, Cs, Ds, v, hr, hA, hC0, hD0, hQ⟩ := run_of_lex l 0 a C0 D0 hCD h
  simp only [Nat.zero_add] at hr
  have ok := Ok.of st l hB
  have hinv : Inv l v (A 0) Cs (Array.replicate l.toArray.size false) a w.drew := by
    have hg : ∀ i, (Array.replicate l.length false).getD i false = false := fun i => by
      by_cases hi : i < l.length <;> simp [hi]
    refine ⟨by simp, fun i o ho hl => ?_, ?_, fun i hi hst => ?_⟩
    · simp only [List.size_toArray] at hl; rw [hg i] at hl; cases hl
    · rw [hA]; exact Shape.start.congr fun j o _ => by simp only [List.size_toArray]; rw [hg j]
    · have e : Cs i = Cs 0 := hr.between i i (by omega) hi fun j o hj hs h0 hlt => by
        have := hst j o hj hs
        simp only [List.size_toArray] at this
        rw [hg j] at this; simp at this; omega
      rw [e, hC0]; exact hC
  have := Inv.all_ hr ok (Q := Q) (by rw [hA]; exact hX) hQ l.toArray.size _ _ _ hinv (by have := unl_le (fun i => (Array.replicate l.toArray.size false).getD i false) l.length; simpa using this)
  exact this
end
theorem wp_region_lex {P : Program} {X : Thr} {l : List Oper} {a : Act} {w : World} {id : Nat} {Q : Exit → Act → World → Prop} (hm : P.follows .mixedOrders = true) (st : List Nat) (hB : okB st l = true) (C0 D0 E : World → Prop) (hC : C0 w.drew) (hCD : ∀ w, C0 w → D0 w ∧ E w) (hX : ∀ a', a'.defers = a.defers → (∀ t, (∀ o ∈ l, o.dst ≠ some t) → a'.tmps[t]? = a.tmps[t]?) → ∀ ch w', X ch w' → Q (.panic ch) a' w')
    (h : wpLex P X st E (fun a' C' => ∀ w', C' w' → Q .normal a' w') l 0 a C0 D0) : (Code.region id l.toArray true).wp P Q a w :=
  wp_region_any hm (any_of_lex hX hB C0 D0 hC hCD h)

section
variable {P : Program} {X : Thr} {st : List Nat} {E : World → Prop} {Q : Act → (World → Prop) → Prop} {o : Oper} {rest : List Oper} {n : Nat} {a : Act} {C D : World → Prop} {W : World}
theorem lex_free (hs : isStore o = false) (hf : isFree o = true) {v : Value} (hrun : ∀ w, (execOp a.eval o).run P w = .ok (.value v) w) (h : wpLex P X st E Q rest (n + 1) (a.put o.dst v) C D) : wpLex P X st E Q (o :: rest) n a C D := by
  unfold wpLex
  rw [if_neg (by simp [hs]), if_pos hf]
  exact ⟨v, fun w => by unfold Gives; rw [hrun w]; exact ⟨rfl, rfl⟩, h⟩
theorem lex_look (hs : isStore o = false) (hf : isFree o = false) (hl : isLook o = true) (hst : st.contains n = false) {v : Value} (hrun : ∀ w, D w → (execOp a.eval o).run P w = .ok (.value v) w) (h : wpLex P X st E Q rest (n + 1) (a.put o.dst v) C D) : wpLex P X st E Q (o :: rest) n a C D := by
  unfold wpLex
  rw [if_neg (by simp [hs]), if_neg (by simp [hf]), if_pos hl]
  exact ⟨v, fun w hw => by rw [if_neg (by rw [hst]; simp)] at hw; unfold Gives; rw [hrun w hw]; exact ⟨rfl, rfl⟩, h⟩
/-- A function is called: it may leave another class. -/
theorem lex_call (hs : isStore o = true) {C' : World → Prop} {v : Value} {f : FuncId} {args : Array Value} (hrun : ∀ w, C w → (execOp a.eval o).run P w = .ok (.enter f args) w) (hc : ∀ w, C w → Calls P f args w fun e w' => (e = .returned v ∧ C' w') ∨ ∃ ch, e = .panicked ch ∧ X ch w') (hD : ∀ w, C' w → D w ∧ E w) (h : wpLex P X st E Q rest (n + 1) (a.put o.dst v) C' D) : wpLex P X st E Q (o :: rest) n a C D := by
  unfold wpLex
  rw [if_pos hs]
  exact ⟨v, C', D, fun w hw => by unfold Gives; rw [hrun w hw]; exact hc w hw, fun _ => rfl, hD, h⟩
/-- Memory is made; the world is known. -/
theorem lex_make (hs : isStore o = true) {v : Value} {W' : World} (hrun : (execOp a.eval o).run P W = .ok (.value v) W') (hD : D W' ∧ E W') (h : wpLex P X st E Q rest (n + 1) (a.put o.dst v) (· = W') D) : wpLex P X st E Q (o :: rest) n a (· = W) D := by
  unfold wpLex
  rw [if_pos hs]
  exact ⟨v, (· = W'), D, fun w hw => by subst hw; unfold Gives; rw [hrun]; exact ⟨rfl, rfl⟩, fun _ => rfl, fun w hw => hw ▸ hD, h⟩
theorem lex_store (hs : isStore o = true) (hh : isHard o = true) {C' D' : World → Prop} (hrun : ∀ w, C w → ∃ W', (execOp a.eval o).run P w = .ok .skip W' ∧ C' W') (hD : ∀ w, C' w → D' w ∧ E w) (h : wpLex P X st E Q rest (n + 1) (a.put o.dst undef) C' D') : wpLex P X st E Q (o :: rest) n a C D := by
  unfold wpLex
  rw [if_pos hs]
  exact ⟨undef, C', D', fun w hw => by obtain ⟨W', h1, h2⟩ := hrun w hw; unfold Gives; rw [h1]; exact ⟨rfl, h2⟩, fun e => by (rw [hh] at e; cases e), hD, h⟩
theorem lex_end {Q : Exit → Act → World → Prop} (h : ∀ w', C w' → Q .normal a w') : wpLex P X st E (fun a' C' => ∀ w', C' w' → Q .normal a' w') [] n a C D := h
end
end Rx
