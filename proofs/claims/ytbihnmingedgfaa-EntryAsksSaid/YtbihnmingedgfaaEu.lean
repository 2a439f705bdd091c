/-
The program's entry: events, a whole entry are read, whatever bytes there are.
-/
import Derived.Test.YtbihnmingedgfaaEz
import Derived.Test.YtbihnmingedgfaaEx
namespace En
open Go
def ev0 : Ev := ⟨0, 0, 0, 0⟩
theorem set4 (l r : List Ev) (k : Nat) (hk : k = l.length) (z v : Ev) :
    (((((evCells (l ++ z :: r)).toArray.setIfInBounds (k * 4) (.int .i64 v.kind)).setIfInBounds (k * 4 + 1) (.int .i64 v.slot)).setIfInBounds (k * 4 + 2) (.int .i64 v.gen)).setIfInBounds (k * 4 + 3) (.int .i64 v.peer)) = (evCells (l ++ v :: r)).toArray := by
  have e : ∀ u : Ev, evCells (l ++ u :: r) = evCells l ++ (u.cells ++ evCells r) := fun u => by unfold evCells; simp
  have hl := evCells_len l
  rw [← hk] at hl
  rw [e, e]
  simp only [List.setIfInBounds_toArray]
  rw [List.set_append_right _ _ (by omega), List.set_append_right _ _ (by omega), List.set_append_right _ _ (by omega), List.set_append_right _ _ (by omega), hl]
  rw [show k * 4 - k * 4 = 0 by omega, show k * 4 + 1 - k * 4 = 1 by omega, show k * 4 + 2 - k * 4 = 2 by omega, show k * 4 + 3 - k * 4 = 3 by omega]
  rfl
theorem made_evs (n : Nat) : madeCells (Value.agg #[.int .i64 0, .int .i64 0, .int .i64 0, .int .i64 0]).cells (n * 4) = (evCells (List.replicate n ev0)).toArray := by
  have hs : (madeCells (Value.agg #[.int .i64 0, .int .i64 0, .int .i64 0, .int .i64 0]).cells (n * 4)).size = n * 4 := size_madeCells _ _
  have hl : (evCells (List.replicate n ev0)).length = n * 4 := by rw [evCells_len, List.length_replicate]
  apply Array.ext_getElem?
  intro i
  by_cases hi : i < n * 4
  · have h2 := evCells_at (List.replicate n ev0) (i / 4) (i % 4) (by rw [List.length_replicate]; omega) (by omega)
    rw [show i / 4 * 4 + i % 4 = i by omega, List.getElem_replicate] at h2
    conv => rhs; rw [List.getElem?_toArray, h2]
    unfold madeCells
    rw [Array.getElem?_map, Array.getElem?_range, if_pos hi]
    have h3 : i % 4 = 0 ∨ i % 4 = 1 ∨ i % 4 = 2 ∨ i % 4 = 3 := by omega
    show some ((#[Value.int .i64 0, .int .i64 0, .int .i64 0, .int .i64 0] : Array Value)[i % 4]!) = _
    rcases h3 with e | e | e | e <;> rw [e] <;> rfl
  · rw [Array.getElem?_eq_none (by omega), Array.getElem?_eq_none (by simp [hl]; omega)]
end En
namespace Go.Proofs.Ytbihnmingedgfaa
open Go.RowKit Go.Shelf
set_option linter.unusedVariables false
set_option linter.unusedSimpArgs false

/-- What is left behind the events. -/
def GotEvs (b Bb Bp B : Nat) (t : TypeId) (cs : Array Value) (bs : List Int) (w : World) (e : Ending) (w' : World) : Prop :=
      (∃ l rest S, En.decEvents bs = some (l, rest) ∧ e = .returned (.tuple #[]) ∧ Rd b Bb Bp rest w' ∧ Rk b Bb B w w' ∧ Box w' B t (cs.setIfInBounds 1 (.slice (some ⟨S, 0, none⟩) l.length l.length)) ∧ Box w' S 83 (En.evCells l).toArray) ∨
      (En.decEvents bs = none ∧ Pan e ∧ Rk b Bb B w w' ∧ ∃ cs', Box w' B t cs' ∧ cs'.size = cs.size)
set_option maxRecDepth 100000 in
set_option maxHeartbeats 4000000 in
theorem layevents_r (B : Nat) (t : TypeId) (cs : Array Value) (bs : List Int) (b Bb Bp : Nat) (w : World) (hBy : Im.IsBytes bs) (hbB : b ≤ Bb) (hbP : b ≤ B) (hbw : b ≤ w.heap.size) (h : Rd b Bb Bp bs w) (hP : Box w B t cs)
    (ho : cs[1]? = some (.slice none 0 0)) (h1 : t ≠ 54) (h2 : t ≠ 5) (h3 : t ≠ 120) (h4 : t ≠ 83) :
    Calls Try.prog 131 #[.func (.func 130) #[] #[.pointer (some ⟨Bp, 0, none⟩)], .pointer (some ⟨B, 0, none⟩)] w (GotEvs b Bb Bp B t cs bs w) := by
  have k0 := hP.cell 1
  rw [ho] at k0
  have ltP := hP.lt
  have HPA := Lib.hid (hP.alloc (.cells #[.int .i64 0] 3))
  have HKA := Lib.hid (Rk.alloc (w := w) (Bb := Bb) (P := B) hbw (.cells #[.int .i64 0] 3))
  have c1 := Lib.hid (part_int 1 1 rfl 0 w.heap.size 0 3 #[.int .i64 0] bs b Bb Bp _ (by decide) hBy hbB hbw (by simp <;> omega) (h.call (one_below w (.cells #[.int .i64 0] 3)) hbw) (Box.made w 3 #[.int .i64 0]) rfl (by decide) (by decide) (by decide))
  obtain ⟨i0, hi0, hz0, hz1, hz2⟩ := info_parts ev_info
  have hmk : ∀ (n : Nat), n < 256 → ∀ W : World, (Instr.makeSlice 70 (.int .i64 (n : Int)) (.int .i64 (n : Int))).run Try.prog W = .ok (.slice (some ⟨W.heap.size, 0, none⟩) n n) (W.alloc (.cells (En.evCells (List.replicate n En.ev0)).toArray 83)) := fun n hn W => by
    have := run_make (P := Try.prog) W 70 83 i0 _ Try.underlying70 hi0 hz0 .i64 .i64 n n (by omega) (Int.le_refl _) (by rw [hz2]; omega) (by omega)
    rw [this, hz1, Int.toNat_natCast, En.made_evs]
  have hcp : ∀ (n : Nat) (Z : Array Value) (W : World), (Builtin.copy_ #[70, 70] 3 #[.slice (some ⟨W.heap.size, 0, none⟩) n n, .slice none 0 0]).run Try.prog (W.alloc (.cells Z 83)) = .ok (.int .i64 0) (W.alloc (.cells Z 83)) := fun n Z W => by
    have := run_copy_nought (P := Try.prog) (W.alloc (.cells Z 83)) 70 70 3 83 ⟨W.heap.size, 0, none⟩ n n 0 Try.underlying70 (by rw [Option.isSome_map]; rw [hi0]; rfl)
    simpa [goInt] using this
  have HO := Lib.hid ho
  have HB := Lib.hid hbP
  have HW := Lib.hid hbw
  have HY := Lib.hid hBy
  clear h hP ho hBy
  go_enter Try.func131, Try.ntmps131
  go_upto_region 2 with (go_at_call 124; ((with_reducible refine (c1.out).mono ?_); rintro r w1 (⟨m, r1, hr, rfl, hI, hK, hB1⟩ | ⟨hn, ⟨ss, rfl⟩, hK, cs', hB1, hs⟩); (all_goals first | (have R1 := Lib.hid hr; have Y1 := Lib.hid (Im.rdn_inv HY.out hr); have l1 := hB1.cell 0; have P1 := Lib.hid (hK.kb _ _ _ HPA.out (by omega) h1 h2); have I1 := Lib.hid hI; have K1 := Lib.hid (HKA.out.local hK (Nat.le_refl _)); clear hr hI hK hB1 c1 k0) | (have N1 := Lib.hid hn; have F1 := Lib.hid (HKA.out.local hK (Nat.le_refl _)); have G1 := Lib.hid (hK.kb _ _ _ HPA.out (by omega) h1 h2); clear hn hK hB1 hs c1 k0))))
  rotate_left
  · refine ⟨rfl, .inr ⟨?_, ⟨_, rfl⟩, F1.out, _, G1.out, rfl⟩⟩
    unfold En.decEvents
    rw [N1.out, Option.bind_none]
  obtain ⟨n, hmn⟩ : ∃ n : Nat, m = n := ⟨m.toNat, by have := Y1.out.2.1; omega⟩
  subst hmn
  have hn256 : n < 256 := by have := Y1.out.2.2.1; omega
  have HDE := Lib.hid (show En.decEvents bs = En.decEvs n [] r1 by unfold En.decEvents; rw [R1.out, Option.bind_some, Int.toNat_natCast])
  simp only [List.getElem?_toArray, Array.setIfInBounds, List.size_toArray, List.length_cons, List.length_nil, Nat.zero_add, Nat.lt_add_one, dite_true, List.set_toArray, List.set_cons_zero, List.getElem?_cons_zero] at l1
  have hmkn := hmk n hn256
  obtain ⟨Z, hZ⟩ : ∃ Z, Z = (En.evCells (List.replicate n En.ev0)).toArray := ⟨_, rfl⟩
  rw [← hZ] at hmkn
  have hcpw := hcp n Z w1
  have p58 : ∀ o, (w1.alloc o).cell? ⟨B, 1, none⟩ = some (.slice none 0 0) := fun o => ((P1.out.alloc o).cell 1).trans HO.out
  have f58 : ∀ o, (w1.alloc o).frozen? ⟨B, 1, none⟩ = false := fun o => (P1.out.alloc o).free 1
  have s1 := Nat.le_trans HW.out K1.out.below.size
  have sz1 := K1.out.below.size
  have HZ := Lib.hid hZ
  clear hcp HPA HKA hmk hZ
  go_upto_region 5 with fail
  obtain ⟨U, hU⟩ : ∃ U, U = (w1.alloc (.cells Z 83)).setCell ⟨B, 1, none⟩ (.slice (some ⟨w1.heap.size, 0, none⟩) n n) := ⟨_, rfl⟩
  have PU := Lib.hid (show Box U B t (cs.setIfInBounds 1 (.slice (some ⟨w1.heap.size, 0, none⟩) n n)) by (rw [hU]; exact (P1.out.alloc _).put 1 _))
  have SU := Lib.hid (show Box U w1.heap.size 83 Z by (rw [hU]; exact (Box.made w1 _ _).far (by show _ ≠ B; have := P1.out.lt; omega) _))
  have IU := Lib.hid (show Rd b Bb Bp r1 U by (rw [hU]; exact (I1.out.call (one_below w1 _) s1).off (p := ⟨B, 1, none⟩) (P1.out.alloc _) h3 h1 HB.out _))
  have KU := Lib.hid (show Rk b Bb B w U by (rw [hU]; exact (K1.out.trans (Rk.alloc (w := w1) (Bb := Bb) (P := B) s1 _)).put HB.out 1 _))
  have hSB : Hid (w1.heap.size ≠ B) := Lib.hid (by have := P1.out.lt; omega)
  have hSw : Hid (b ≤ w1.heap.size) := Lib.hid s1
  have hSz : Hid (w.heap.size ≤ w1.heap.size) := Lib.hid sz1
  rw [← hU]
  generalize w1.heap.size = S at *
  clear hU I1 K1 P1 p58 f58 hcpw hmkn l1 s1 sz1
  have hbU : b ≤ U.heap.size := Nat.le_trans HW.out KU.out.below.size
  go_wp2
  go_loopw [29] (fun i wr => ∃ (k : Nat) (l : List En.Ev) (bs' : List Int), k ≤ n ∧ i = .int .i64 k ∧ l.length = k ∧ Im.IsBytes bs' ∧ En.decEvs n [] r1 = En.decEvs (n - k) l bs' ∧ Rd b Bb Bp bs' wr ∧ Rk b Bb S U wr ∧ Box wr S 83 (En.evCells (l ++ List.replicate (n - k) En.ev0)).toArray) (fun i _ => n - (intOf i).toNat)
  case atStart => exact ⟨0, [], r1, by omega, rfl, rfl, Y1.out.2.2.2, rfl, IU.out, Rk.refl _ _ _ _, by rw [List.nil_append, Nat.sub_zero, ← HZ.out]; exact SU.out⟩
  case round =>
    obtain ⟨k, l, bs', hk, rfl, hlen, hy, hdec, hI, hK, hB⟩ := hrel
    by_cases hlt : k < n
    · have hk8 : (k : Int) < n := by omega
      rw [show n - k = (n - (k + 1)) + 1 by omega] at hdec hB
      rw [List.replicate_succ] at hB
      have hcell : ∀ j, j < 4 → (En.evCells (l ++ En.ev0 :: List.replicate (n - (k + 1)) En.ev0)).toArray[k * 4 + j]? = some (.int .i64 0) := fun j hj => by
        rw [List.getElem?_toArray, En.evCells_at _ k j (by simp; omega) hj]
        have e : (l ++ En.ev0 :: List.replicate (n - (k + 1)) En.ev0)[k]'(by simp; omega) = En.ev0 := by subst hlen; simp
        rw [e]
        match j, hj with
        | 0, _ | 1, _ | 2, _ | 3, _ => rfl
      have hnew := fun v => En.set4 l (List.replicate (n - (k + 1)) En.ev0) k hlen.symm En.ev0 v
      obtain ⟨Y, hY⟩ : ∃ Y, Y = (En.evCells (l ++ En.ev0 :: List.replicate (n - (k + 1)) En.ev0)).toArray := ⟨_, rfl⟩
      rw [← hY] at hB
      simp only [← hY] at hcell hnew
      have hnext : En.decEvs n [] r1 = (En.decEv bs').bind fun q => En.decEvs (n - (k + 1)) (l ++ [q.1]) q.2 := hdec
      have hdv : En.decEv bs' = (Im.rdn 1 bs').bind fun k => (Im.rdn 1 k.2).bind fun s => (Im.rdn 2 s.2).bind fun g => (Im.rdn 1 g.2).bind fun p => some (⟨k.1, s.1, g.1, p.1⟩, p.2) := rfl
      have hwy : b ≤ wr.heap.size := Nat.le_trans hbU hK.below.size
      have HNX := Lib.hid hnext
      have HDV := Lib.hid hdv
      have HNEW := Lib.hid hnew
      have HLEN := Lib.hid hlen
      have K2 := Lib.hid hK
      have p2 := hB.cell
      have LT := Lib.hid hB.lt
      have g0 := hcell 0 (by omega)
      have g1 := hcell 1 (by omega)
      have g2 := hcell 2 (by omega)
      have g3 := hcell 3 (by omega)
      rw [Nat.add_zero] at g0
      have q0 := Lib.hid (part_int 1 1 rfl 0 S (k * 4) 83 Y bs' b Bb Bp wr (by decide) hy hbB hSw.out hwy hI hB g0 (by decide) (by decide) (by decide))
      have q1 := fun v bs'' X hy' hX1 hX2 hX3 => Lib.hid (part_int 1 1 rfl 0 S (k * 4 + 1) 83 (Y.setIfInBounds (k * 4) v) bs'' b Bb Bp X (by decide) hy' hbB hSw.out hX1 hX2 hX3 (by rw [Array.getElem?_setIfInBounds_ne (by omega), g1]) (by decide) (by decide) (by decide))
      have q2 := fun v v' bs'' X hy' hX1 hX2 hX3 => Lib.hid (part_int 2 2 rfl 0 S (k * 4 + 2) 83 ((Y.setIfInBounds (k * 4) v).setIfInBounds (k * 4 + 1) v') bs'' b Bb Bp X (by decide) hy' hbB hSw.out hX1 hX2 hX3 (by rw [Array.getElem?_setIfInBounds_ne (by omega), Array.getElem?_setIfInBounds_ne (by omega), g2]) (by decide) (by decide) (by decide))
      have q3 := fun v v' v'' bs'' X hy' hX1 hX2 hX3 => Lib.hid (part_int 1 1 rfl 0 S (k * 4 + 3) 83 (((Y.setIfInBounds (k * 4) v).setIfInBounds (k * 4 + 1) v').setIfInBounds (k * 4 + 2) v'') bs'' b Bb Bp X (by decide) hy' hbB hSw.out hX1 hX2 hX3 (by rw [Array.getElem?_setIfInBounds_ne (by omega), Array.getElem?_setIfInBounds_ne (by omega), Array.getElem?_setIfInBounds_ne (by omega), g3]) (by decide) (by decide) (by decide))
      have YY := Lib.hid hy
      have HWY := Lib.hid hwy
      clear hI hK hB hcell hnew hY hnext hdec hdv hlen hy hwy g0 g1 g2 g3
      go_wp2_with (go_at_call 124; first | ((with_reducible refine (q0.out).mono ?_); rintro r w3 (⟨y0, r3, hr, rfl, hI, hK, hB⟩ | ⟨hn, ⟨ss, rfl⟩, hK, cs', hB, hs⟩); (all_goals first | (have R3 := Lib.hid hr; have Y3 := Lib.hid (Im.rdn_inv YY.out hr).2.2.2; have P3 := Lib.hid hB; have I3 := Lib.hid hI; have K3 := Lib.hid (K2.out.trans hK); clear hr hI hK hB q0) | (have N3 := Lib.hid hn; have F3 := Lib.hid (K2.out.trans hK); clear hn hK hB hs q0))) | ((with_reducible refine ((q1 _ _ _ Y3.out (Nat.le_trans hbU K3.out.below.size) I3.out P3.out).out).mono ?_); rintro r w4 (⟨y1, r4, hr, rfl, hI, hK, hB⟩ | ⟨hn, ⟨ss, rfl⟩, hK, cs', hB, hs⟩); (all_goals first | (have R4 := Lib.hid hr; have Y4 := Lib.hid (Im.rdn_inv Y3.out hr).2.2.2; have P4 := Lib.hid hB; have I4 := Lib.hid hI; have K4 := Lib.hid (K3.out.trans hK); clear hr hI hK hB q1) | (have N4 := Lib.hid hn; have F4 := Lib.hid (K3.out.trans hK); clear hn hK hB hs q1))) | ((with_reducible refine ((q2 _ _ _ _ Y4.out (Nat.le_trans hbU K4.out.below.size) I4.out P4.out).out).mono ?_); rintro r w5 (⟨y2, r5, hr, rfl, hI, hK, hB⟩ | ⟨hn, ⟨ss, rfl⟩, hK, cs', hB, hs⟩); (all_goals first | (have R5 := Lib.hid hr; have Y5 := Lib.hid (Im.rdn_inv Y4.out hr).2.2.2; have P5 := Lib.hid hB; have I5 := Lib.hid hI; have K5 := Lib.hid (K4.out.trans hK); clear hr hI hK hB q2) | (have N5 := Lib.hid hn; have F5 := Lib.hid (K4.out.trans hK); clear hn hK hB hs q2))) | ((with_reducible refine ((q3 _ _ _ _ _ Y5.out (Nat.le_trans hbU K5.out.below.size) I5.out P5.out).out).mono ?_); rintro r w6 (⟨y3, r6, hr, rfl, hI, hK, hB⟩ | ⟨hn, ⟨ss, rfl⟩, hK, cs', hB, hs⟩); (all_goals first | (have R6 := Lib.hid hr; have Y6 := Lib.hid (Im.rdn_inv Y5.out hr).2.2.2; have P6 := Lib.hid hB; have I6 := Lib.hid hI; have K6 := Lib.hid (K5.out.trans hK); clear hr hI hK hB q3) | (have N6 := Lib.hid hn; have F6 := Lib.hid (K5.out.trans hK); clear hn hK hB hs q3))))
      · go_roundw
        case rel =>
          refine ⟨k + 1, l ++ [⟨y0, y1, y2, y3⟩], r6, by omega, by go_num, by rw [List.length_append, HLEN.out]; rfl, Y6.out, ?_, I6.out, K6.out, ?_⟩
          · rw [HNX.out, HDV.out, R3.out, Option.bind_some, R4.out, Option.bind_some, R5.out, Option.bind_some, R6.out, Option.bind_some, Option.bind_some]
          · have h6 := P6.out
            have e6 := HNEW.out ⟨y0, y1, y2, y3⟩
            dsimp only at e6
            rw [e6] at h6
            rw [List.append_assoc]
            exact h6
        case measure => simp [intOf]; omega
      · refine ⟨rfl, .inr ⟨?_, ⟨_, rfl⟩, KU.out.local F6.out hSz.out, _, F6.out.kb _ _ _ PU.out hSB.out.symm h1 h2, by simp⟩⟩
        rw [HDE.out, HNX.out, HDV.out, R3.out, Option.bind_some, R4.out, Option.bind_some, R5.out, Option.bind_some, N6.out, Option.bind_none, Option.bind_none]
      · refine ⟨rfl, .inr ⟨?_, ⟨_, rfl⟩, KU.out.local F5.out hSz.out, _, F5.out.kb _ _ _ PU.out hSB.out.symm h1 h2, by simp⟩⟩
        rw [HDE.out, HNX.out, HDV.out, R3.out, Option.bind_some, R4.out, Option.bind_some, N5.out, Option.bind_none, Option.bind_none]
      · refine ⟨rfl, .inr ⟨?_, ⟨_, rfl⟩, KU.out.local F4.out hSz.out, _, F4.out.kb _ _ _ PU.out hSB.out.symm h1 h2, by simp⟩⟩
        rw [HDE.out, HNX.out, HDV.out, R3.out, Option.bind_some, N4.out, Option.bind_none, Option.bind_none]
      · refine ⟨rfl, .inr ⟨?_, ⟨_, rfl⟩, KU.out.local F3.out hSz.out, _, F3.out.kb _ _ _ PU.out hSB.out.symm h1 h2, by simp⟩⟩
        rw [HDE.out, HNX.out, HDV.out, N3.out, Option.bind_none, Option.bind_none]
    · have hk8 : ¬ (k : Int) < n := by omega
      obtain rfl : k = n := by omega
      rw [Nat.sub_self] at hdec hB
      have HI := Lib.hid hI
      have HK := Lib.hid hK
      have HBX := Lib.hid hB
      have HDX := Lib.hid hdec
      have HL := Lib.hid hlen
      clear hI hK hB hdec hlen
      go_wp2
      go_end0
      refine .inl ⟨l, bs', S, by rw [HDE.out, HDX.out]; rfl, rfl, HI.out, KU.out.local HK.out hSz.out, ?_, ?_⟩
      · rw [HL.out]; exact HK.out.kb _ _ _ PU.out hSB.out.symm h1 h2
      · have := HBX.out; rwa [List.replicate_zero, List.append_nil] at this
end Go.Proofs.Ytbihnmingedgfaa
