/-
The program's entry: inputs are read, whatever bytes there are.
-/
import Derived.Test.YtbihnmingedgfaaEw
namespace En
open Go
theorem set3_at {cs : Array Value} {o : Nat} {u0 u1 u2 x y z : Value} (h0 : cs[o]? = some u0) (h1 : cs[o + 1]? = some u1) (h2 : cs[o + 2]? = some u2) :
    (((cs.setIfInBounds o x).setIfInBounds (o + 1) y).setIfInBounds (o + 2) z)[o]? = some x ∧ (((cs.setIfInBounds o x).setIfInBounds (o + 1) y).setIfInBounds (o + 2) z)[o + 1]? = some y ∧ (((cs.setIfInBounds o x).setIfInBounds (o + 1) y).setIfInBounds (o + 2) z)[o + 2]? = some z := by
  have l0 := (Array.getElem?_eq_some_iff.1 h0).1
  have l1 := (Array.getElem?_eq_some_iff.1 h1).1
  have l2 := (Array.getElem?_eq_some_iff.1 h2).1
  refine ⟨?_, ?_, ?_⟩
  · rw [Array.getElem?_setIfInBounds_ne (by omega), Array.getElem?_setIfInBounds_ne (by omega), Array.getElem?_setIfInBounds_self, if_pos l0]
  · rw [Array.getElem?_setIfInBounds_ne (by omega), Array.getElem?_setIfInBounds_self, if_pos (by simpa using l1)]
  · rw [Array.getElem?_setIfInBounds_self, if_pos (by simpa using l2)]
end En
namespace Go.Proofs.Ytbihnmingedgfaa
open Go.RowKit Go.Shelf
set_option linter.unusedVariables false
set_option linter.unusedSimpArgs false

theorem need_any (v : Bool) (s : ByteArray) (w : World) : Calls Try.prog 76 #[.bool v, .string s] w fun e w' => (v = true ∧ e = .returned (.tuple #[]) ∧ w = w') ∨ (v = false ∧ Pan e ∧ w = w') := by
  cases v
  · exact (need_no s w).mono fun e w' ⟨h1, h2⟩ => .inr ⟨rfl, ⟨s, h1⟩, h2⟩
  · exact (need_yes s w).mono fun e w' ⟨h1, h2⟩ => .inl ⟨rfl, h1, h2⟩

set_option maxRecDepth 100000 in
set_option maxHeartbeats 4000000 in
theorem layinput_r (x0 y0 b0 : Int) (P o : Nat) (t : TypeId) (cs : Array Value) (bs : List Int) (b Bb Bp : Nat) (w : World) (hBy : Im.IsBytes bs) (hbB : b ≤ Bb) (hbP : b ≤ P) (hbw : b ≤ w.heap.size) (h : Rd b Bb Bp bs w) (hP : Box w P t cs) (s0 : cs[o]? = some (.int .i8 x0)) (s1 : cs[o + 1]? = some (.int .i8 y0)) (s2 : cs[o + 2]? = some (.int .u8 b0)) (h1 : t ≠ 54) (h2 : t ≠ 5) (h3 : t ≠ 120) :
    Calls Try.prog 154 #[.func (.func 130) #[] #[.pointer (some ⟨Bp, 0, none⟩)], .pointer (some ⟨P, o, none⟩)] w (Got b Bb Bp P t cs.size (En.decIn bs) (fun p => ((cs.setIfInBounds o (.int .i8 p.x)).setIfInBounds (o + 1) (.int .i8 p.y)).setIfInBounds (o + 2) (.int .u8 p.b)) w) := by
  have c1 := Lib.hid (part_i8 1 1 rfl x0 P o t cs bs b Bb Bp w (by decide) hBy hbB hbP hbw h hP s0 h1 h2 h3)
  have c2 := fun v bs' X hy hX1 hX2 hX3 => Lib.hid (part_i8 1 1 rfl y0 P (o + 1) t (cs.setIfInBounds o v) bs' b Bb Bp X (by decide) hy hbB hbP hX1 hX2 hX3 (by rw [Array.getElem?_setIfInBounds_ne (by omega), s1]) h1 h2 h3)
  have c3 := fun v v' bs' X hy hX1 hX2 hX3 => Lib.hid (part_u8 1 1 rfl b0 P (o + 2) t ((cs.setIfInBounds o v).setIfInBounds (o + 1) v') bs' b Bb Bp X (by decide) hy hbB hbP hX1 hX2 hX3 (by rw [Array.getElem?_setIfInBounds_ne (by omega), Array.getElem?_setIfInBounds_ne (by omega), s2]) h1 h2 h3)
  have hcell := fun x y z => Lib.hid (En.set3_at (x := x) (y := y) (z := z) s0 s1 s2)
  have hneq := in_neq
  have P0 := Lib.hid hP
  have ltP := hP.lt
  have HW := Lib.hid hbw
  have HY := Lib.hid hBy
  have hdec : En.decIn bs = (Im.rdn 1 bs).bind fun x => (Im.rdn 1 x.2).bind fun y => (Im.rdn 1 y.2).bind fun b => if En.zero ⟨IntKind.i8.wrap x.1, IntKind.i8.wrap y.1, b.1⟩ then none else some (⟨IntKind.i8.wrap x.1, IntKind.i8.wrap y.1, b.1⟩, b.2) := rfl
  have HD := Lib.hid hdec
  clear h hP s0 s1 s2 hdec hbw hBy
  go_enter Try.func154, Try.ntmps154
  go_wp2_with (first | (go_at_call 76; ((with_reducible refine (need_any _ _ _).mono ?_); rintro e wn (⟨hz, rfl, rfl⟩ | ⟨hz, ⟨ss, rfl⟩, rfl⟩))) | (go_at_call 162; first | ((with_reducible refine (c1.out).mono ?_); rintro e w1 (⟨y1, r1, hr, rfl, hI, hK, hB⟩ | ⟨hn, ⟨ss, rfl⟩, hK, cs', hB, hs⟩); (all_goals first | (have R1 := Lib.hid hr; have Y1 := Lib.hid (Im.rdn_inv HY.out hr).2.2.2; have P1 := Lib.hid hB; have I1 := Lib.hid hI; have K1 := Lib.hid hK; clear hr hI hK hB c1) | (have N1 := Lib.hid hn; have F1 := Lib.hid hK; have B1 := Lib.hid hB; have S1 := Lib.hid hs; clear hn hK hB hs c1))) | ((with_reducible refine ((c2 _ _ _ Y1.out (Nat.le_trans HW.out K1.out.below.size) I1.out P1.out).out).mono ?_); rintro e w2 (⟨y2, r2, hr, rfl, hI, hK, hB⟩ | ⟨hn, ⟨ss, rfl⟩, hK, cs', hB, hs⟩); (all_goals first | (have R2 := Lib.hid hr; have Y2 := Lib.hid (Im.rdn_inv Y1.out hr).2.2.2; have P2 := Lib.hid hB; have I2 := Lib.hid hI; have K2 := Lib.hid (K1.out.trans hK); clear hr hI hK hB c2) | (have N2 := Lib.hid hn; have F2 := Lib.hid (K1.out.trans hK); have B2 := Lib.hid hB; have S2 := Lib.hid (hs.trans (Array.size_setIfInBounds ..)); clear hn hK hB hs c2)))) | (go_at_call 163; ((with_reducible refine ((c3 _ _ _ _ Y2.out (Nat.le_trans HW.out K2.out.below.size) I2.out P2.out).out).mono ?_); rintro e w3 (⟨y3, r3, hr, rfl, hI, hK, hB⟩ | ⟨hn, ⟨ss, rfl⟩, hK, cs', hB, hs⟩); (all_goals first | (have R3 := Lib.hid hr; have P3 := Lib.hid hB; have I3 := Lib.hid hI; have K3 := Lib.hid (K2.out.trans hK); have p0 := (hB.cell o).trans (hcell _ _ _).out.1; have p1 := (hB.cell (o + 1)).trans (hcell _ _ _).out.2.1; have p2 := (hB.cell (o + 2)).trans (hcell _ _ _).out.2.2; clear hr hI hK hB c3) | (have N3 := Lib.hid hn; have F3 := Lib.hid (K2.out.trans hK); have B3 := Lib.hid hB; have S3 := Lib.hid (hs.trans ((Array.size_setIfInBounds ..).trans (Array.size_setIfInBounds ..))); clear hn hK hB hs c3)))))
  · go_end0
    refine .inl ⟨⟨IntKind.i8.wrap y1, IntKind.i8.wrap y2, y3⟩, r3, ?_, rfl, I3.out, K3.out, P3.out⟩
    rw [HD.out, R1.out, Option.bind_some, R2.out, Option.bind_some, R3.out, Option.bind_some, if_neg (by simpa using hz)]
  · refine ⟨rfl, .inr ⟨?_, ⟨_, rfl⟩, K3.out, _, P3.out, by simp⟩⟩
    rw [HD.out, R1.out, Option.bind_some, R2.out, Option.bind_some, R3.out, Option.bind_some, if_pos (by simpa using hz)]
  · refine ⟨rfl, .inr ⟨?_, ⟨_, rfl⟩, F3.out, _, B3.out, S3.out⟩⟩
    rw [HD.out, R1.out, Option.bind_some, R2.out, Option.bind_some, N3.out, Option.bind_none]
  · refine ⟨rfl, .inr ⟨?_, ⟨_, rfl⟩, F2.out, _, B2.out, S2.out⟩⟩
    rw [HD.out, R1.out, Option.bind_some, N2.out, Option.bind_none]
  · refine ⟨rfl, .inr ⟨?_, ⟨_, rfl⟩, F1.out, _, B1.out, S1.out⟩⟩
    rw [HD.out, N1.out, Option.bind_none]

set_option maxRecDepth 100000 in
set_option maxHeartbeats 4000000 in
theorem layinputs_r (fr : Int) (l : List En.Ev) (s : Value) (B : Nat) (bs : List Int) (b Bb Bp : Nat) (w : World) (hBy : Im.IsBytes bs) (hbB : b ≤ Bb) (hbP : b ≤ B) (hbw : b ≤ w.heap.size) (h : Rd b Bb Bp bs w) (hP : Box w B 72 (En.cells ⟨fr, l, En.in0⟩ s)) :
    Calls Try.prog 132 #[.func (.func 130) #[] #[.pointer (some ⟨Bp, 0, none⟩)], .pointer (some ⟨B, 0, none⟩)] w (Got b Bb Bp B 72 26 (En.decInputs En.in0 bs) (fun f => En.cells ⟨fr, l, f⟩ s) w) := by
  have ltP := hP.lt
  have P0 := Lib.hid hP
  have W0 := Lib.hid h
  have HW := Lib.hid hbw
  have HY := Lib.hid hBy
  clear h hP hbw hBy
  go_enter Try.func132, Try.ntmps132
  go_wp2_with ((with_reducible refine en_load_ins rfl rfl ?_); apply LoadEn.mk rfl; (focus (with_reducible exact P0.out.alloc _)); dsimp only)
  go_loopw [12] (fun i wr => ∃ k : Nat, k ≤ 8 ∧ i = .int .i64 k ∧ Rd b Bb Bp bs wr ∧ Rk b Bb B w wr ∧ Box wr B 72 (En.cells ⟨fr, l, En.in0⟩ s) ∧ Box wr w.heap.size 3 #[.int .i64 0]) (fun i _ => 8 - (intOf i).toNat)
  case atStart => exact ⟨0, by omega, rfl, W0.out.call (one_below _ _) HW.out, Rk.alloc HW.out _, P0.out.alloc _, Box.made _ _ _⟩
  case round =>
    obtain ⟨k, hk, rfl, hI, hK, hB, hD⟩ := hrel
    by_cases hlt : k < 8
    · have hk8 : (k : Int) < 8 := by omega
      have hpart := in_index En.in0 k hlt
      have hneq := fun W => in_neq 0 0 0 W
      rw [show En.zero ⟨0, 0, 0⟩ = true from rfl] at hneq
      have HI := Lib.hid hI
      have HK := Lib.hid hK
      have HB := Lib.hid hB
      have HD := Lib.hid hD
      have sz := hK.below.size
      clear hI hK hB hD
      simp only [En.in0] at hpart
      go_wp2
      go_roundw
      case rel => exact ⟨k + 1, by omega, by go_num, HI.out.call (one_below _ _) (Nat.le_trans HW.out sz), HK.out.trans (Rk.alloc (Nat.le_trans HW.out sz) _), HB.out.alloc _, HD.out.alloc _⟩
      case measure => simp [intOf]; omega
    · have hk8 : ¬ (k : Int) < 8 := by omega
      obtain rfl : k = 8 := by omega
      have c1 := Lib.hid (part_int 1 1 rfl 0 w.heap.size 0 3 #[.int .i64 0] bs b Bb Bp wr (by decide) HY.out hbB HW.out (Nat.le_trans HW.out hK.below.size) hI hD rfl (by decide) (by decide) (by decide))
      have HB := Lib.hid hB
      have HK := Lib.hid hK
      have neD : B ≠ w.heap.size := by omega
      clear hI hK hB hD
      go_wp2_with (go_at_call 124; ((with_reducible refine (c1.out).mono ?_); rintro r w1 (⟨m, r1, hr, rfl, hI, hK, hB1⟩ | ⟨hn, ⟨ss, rfl⟩, hK, cs', hB1, hs⟩); (all_goals first | (have R1 := Lib.hid hr; have Y1 := Lib.hid (Im.rdn_inv HY.out hr); have D1 := Lib.hid hB1; have P1 := Lib.hid (hK.kb _ _ _ HB.out neD (by decide) (by decide)); have I1 := Lib.hid hI; have K1 := Lib.hid (HK.out.local hK (Nat.le_refl _)); clear hr hI hK hB1 c1) | (have N1 := Lib.hid hn; have F1 := Lib.hid (HK.out.local hK (Nat.le_refl _)); have G1 := Lib.hid (hK.kb _ _ _ HB.out neD (by decide) (by decide)); clear hn hK hB1 hs c1))))
      rotate_left
      · refine ⟨rfl, .inr ⟨?_, ⟨_, rfl⟩, F1.out, _, G1.out, rfl⟩⟩
        unfold En.decInputs
        rw [N1.out, Option.bind_none]
      obtain ⟨mm, hmm⟩ : ∃ mm : Nat, m = mm := ⟨m.toNat, by have := Y1.out.2.1; omega⟩
      subst hmm
      have hm8 : mm < 256 := by have := Y1.out.2.2.1; omega
      have HDI := Lib.hid (show En.decInputs En.in0 bs = En.decIns mm 0 8 En.in0 r1 by unfold En.decInputs; rw [R1.out, Option.bind_some, Int.toNat_natCast])
      go_loopw [26] (fun i wx => ∃ (k : Nat) (f : Nat → Gm.In) (bs' : List Int), k ≤ 8 ∧ i = .int .i64 k ∧ Im.IsBytes bs' ∧ En.decIns mm 0 8 En.in0 r1 = En.decIns mm k (8 - k) f bs' ∧ Rd b Bb Bp bs' wx ∧ Rk b Bb B w1 wx ∧ Box wx B 72 (En.cells ⟨fr, l, f⟩ s)) (fun i _ => 8 - (intOf i).toNat)
      case atStart => exact ⟨0, En.in0, r1, by omega, rfl, Y1.out.2.2.2, rfl, I1.out, Rk.refl _ _ _ _, P1.out⟩
      case round =>
        obtain ⟨k, f, bs', hk, rfl, hy, hdec, hI, hK, hB⟩ := hrel
        have D2 := Lib.hid (hK.kb _ _ _ D1.out neD.symm (by decide) (by decide))
        have d1 := D2.out.cell 0
        simp only [List.getElem?_toArray, Array.setIfInBounds, List.size_toArray, List.length_cons, List.length_nil, Nat.zero_add, Nat.lt_add_one, dite_true, List.set_toArray, List.set_cons_zero, List.getElem?_cons_zero] at d1
        by_cases hlt : k < 8
        · have hk8 : (k : Int) < 8 := by omega
          rw [show 8 - k = (8 - (k + 1)) + 1 by omega] at hdec
          have e0 := (En.cells_in ⟨fr, l, f⟩ s k 0 hlt (by omega)).trans rfl
          have e1 := (En.cells_in ⟨fr, l, f⟩ s k 1 hlt (by omega)).trans rfl
          have e2 := (En.cells_in ⟨fr, l, f⟩ s k 2 hlt (by omega)).trans rfl
          have hwy := Nat.le_trans HW.out (Nat.le_trans K1.out.below.size hK.below.size)
          have ltB := hB.lt
          cases hb : mm.testBit k
          · have hnext : En.decIns mm 0 8 En.in0 r1 = En.decIns mm (k + 1) (8 - (k + 1)) f bs' := by rw [hdec]; show (if mm.testBit k = true then _ else _) = _; rw [hb]; rfl
            obtain ⟨q, hq1, hq2⟩ := En.and_no hm8 hlt hb
            have HN := Lib.hid hnext
            have HI := Lib.hid hI
            have HK := Lib.hid hK
            have HB := Lib.hid hB
            have HYY := Lib.hid hy
            clear hI hK hB hnext hdec e0 e1 e2 hy
            go_upto_region 11 with fail
            go_quiet (fail)
            go_wp2
            go_roundw
            case rel => exact ⟨k + 1, f, bs', by omega, by go_num, HYY.out, HN.out, HI.out.call (draws_below (Below.refl _ _) _) hwy, HK.out.trans ⟨draws_below (Below.refl _ _) _, (Kb.refl wr).call (draws_below (Below.refl _ _) _)⟩, HB.out.draws _⟩
            case measure => simp [intOf]; omega
          · have hnext : En.decIns mm 0 8 En.in0 r1 = (En.decIn bs').bind fun q => En.decIns mm (k + 1) (8 - (k + 1)) (En.upd f k q.1) q.2 := by rw [hdec]; show (if mm.testBit k = true then _ else _) = _; rw [hb]; rfl
            obtain ⟨q, hq1, hq2⟩ := En.and_yes hm8 hlt hb
            have HN := Lib.hid hnext
            have HI := Lib.hid hI
            have HK := Lib.hid hK
            have HB := Lib.hid hB
            have HYY := Lib.hid hy
            have E0 := Lib.hid e0
            have E1 := Lib.hid e1
            have E2 := Lib.hid e2
            clear hI hK hB hnext hdec e0 e1 e2 hy
            go_upto_region 11 with fail
            go_quiet (fail)
            have cl := fun n => Lib.hid (layinput_r _ _ _ B (2 + k * 3) 72 _ bs' b Bb Bp (wr.drewN n) HYY.out hbB hbP hwy (HI.out.call (draws_below (Below.refl _ _) n) hwy) (HB.out.draws n) E0.out E1.out E2.out (by decide) (by decide) (by decide))
            have KD := fun n => Lib.hid (show Rk b Bb B w1 (wr.drewN n) from HK.out.trans ⟨draws_below (Below.refl _ _) _, (Kb.refl wr).call (draws_below (Below.refl _ _) _)⟩)
            go_wp2_with (go_at_call 154; ((with_reducible refine ((cl _).out).mono ?_); rintro r w3 (⟨p, r3, hr, rfl, hI, hK, hB3⟩ | ⟨hn, ⟨ss, rfl⟩, hK, cs', hB3, hs⟩); (all_goals first | (have R3 := Lib.hid hr; have P3 := Lib.hid hB3; have I3 := Lib.hid hI; have K3 := Lib.hid ((KD _).out.trans hK); clear hr hI hK hB3) | (have N3 := Lib.hid hn; have F3 := Lib.hid (K1.out.trans ((KD _).out.trans hK)); have G3 := Lib.hid hB3; have S3 := Lib.hid hs; clear hn hK hB3 hs))))
            · go_roundw
              case rel => exact ⟨k + 1, En.upd f k p, r3, by omega, by go_num, (En.decIn_inv HYY.out R3.out).2.1, by rw [HN.out, R3.out, Option.bind_some], I3.out, K3.out, by have := P3.out; rw [En.cells_setin _ _ k hlt p] at this; exact this⟩
              case measure => simp [intOf]; omega
            · refine ⟨rfl, .inr ⟨?_, ⟨_, rfl⟩, F3.out, _, G3.out, S3.out⟩⟩
              rw [HDI.out, HN.out, N3.out, Option.bind_none]
        · have hk8 : ¬ (k : Int) < 8 := by omega
          obtain rfl : k = 8 := by omega
          have HN := Lib.hid hdec
          have HI := Lib.hid hI
          have HK := Lib.hid hK
          have HB := Lib.hid hB
          clear hI hK hB hdec
          go_wp2
          go_end0
          exact .inl ⟨f, bs', by rw [HDI.out, HN.out]; rfl, rfl, HI.out, K1.out.trans HK.out, HB.out⟩
end Go.Proofs.Ytbihnmingedgfaa
