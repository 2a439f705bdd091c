/-
Several texts in one: Di De.
-/
import Derived.Test.YthojjpoadabehaaLp4
namespace Go.Proofs.Ythojjpoadabehaa
open Go.RowKit
set_option linter.unusedVariables false
set_option linter.unusedSimpArgs false
set_option maxRecDepth 100000 in
set_option maxHeartbeats 4000000 in
theorem two13_law {LP : LkP} (C : LinkC LP) (A : Option Addr) (c n : Nat) (l : List Int) (w : World) (hn : n = l.length) (hnm : n ≤ maxLen) (hL : Lies w w.heap.size 1 A n (l.flatMap fun x => [.int .i64 x])) :
    Calls Try.prog 4 #[.slice A n c] w fun e w' => e = .returned (.bool true) ∧ Below w.heap.size w w' := by
  have c0 := Lib.hid (P13.new C (LP := LP) (X := w) (w := w) 0 (by decide) (Below.refl _ _))
  have c1 := fun Ba X (h : P13 LP w Ba (Lk.new 0) X) => Lib.hid (T13.second C C.uk 0 (by decide) h)
  have ct := fun X => Lib.hid (told13_law C X)
  have HL := Lib.hid hL
  have NL := Lib.hid hn
  clear hL hn
  unfold maxLen at hnm
  go_enter Try.func4, Try.ntmps4
  go_wp2_with (go_at_call 7; first
    | ((with_reducible refine (c1 _ _ H0.out).out.mono ?_); rintro e w1 ⟨Bb, rfl, h1⟩; have H1 := Lib.hid h1; clear h1)
    | ((with_reducible refine c0.out.mono ?_); rintro e w0 ⟨Ba, rfl, h0⟩; have H0 := Lib.hid h0; clear h0))
  go_loopw [5, 6, 7, 8] (fun lo se ta i wr => ∃ (k t : Nat) (L : List Int) (ma mb : Lk.M) (A1 : Option Addr) (c1 : Nat), k ≤ n ∧ k ≤ 30 ∧ i = .int .i64 k ∧ se = .int .i64 k ∧ ta = .int .i64 t ∧ lo = .slice A1 L.length c1 ∧ Lk.Two k t L ma mb ∧ T13 LP LP w Ba ma Bb mb A1 L.length c1 (Lk.u16s L) wr) (fun _ _ _ i _ => n - (intOf i).toNat)
  case atStart => exact ⟨0, 0, [], Lk.new 0, Lk.new 0, none, 0, Nat.zero_le _, Nat.zero_le _, rfl, rfl, rfl, rfl, Lk.two_new, H1.out⟩
  case round =>
    obtain ⟨k, t, L, ma, mb, A1, c1', hk, hk30, rfl, rfl, rfl, rfl, hT, hP⟩ := hrel
    have HP := Lib.hid hP
    have HT := Lib.hid hT
    clear hP hT H0 H1 c0 c1
    by_cases hlt : k < n ∧ k < 30
    · obtain ⟨hl1, hl2⟩ := hlt
      have hkn : (k : Int) < n := by omega
      have hk3 : (k : Int) < 30 := by omega
      have hcb : Below w.heap.size w wr := by obtain ⟨_, _, _, _, _, _, _, h⟩ := HP.out; exact h
      obtain ⟨ad, rfl, hadl⟩ := HL.out.start (by omega)
      have nb := NL.out
      have q0 := fun X (hX : Below w.heap.size w X) => lk_ints (HL.out.below hX) nb k (by omega)
      generalize l.getD k 0 = z at q0
      have hT := HT.out
      have hnx := Lk.two_next hT hl2
      have cs := T13.stamp C C.uk hT.a HP.out
      rw [hnx] at cs
      have CS := Lib.hid cs
      have MA := Lib.hid (Lk.stamp_ok hT.a)
      have hla := hT.a.h.last
      have hse := hT.a.h.seen
      clear cs hnx nb hcb
      generalize ma.h.last = la at *
      generalize (ma.h.seen : Nat) = se at *
      have hcn := hT.cnt
      cases hb1 : (bits BinOp.and IntKind.i64 z 1 == 1)
      · cases hb2 : (bits BinOp.and IntKind.i64 z 2 == 2)
        · have cb := fun X hX => T13.hear (X := X) (w := w) (Ba := Bb) (ma := mb) (Bb := Ba) (mb := Lk.stamp ma) (A := A1) (n := L.length) (c := c1') (xs := Lk.u16s L) C C.uk hT.b k ((k : Int) + 1) la se (by omega) (by omega) hla hse hX
          rw [Lk.two_fresh hT hl2] at cb
          have M1 := Lib.hid (Lk.hear_ok hT.b (now := (k : Int)) (s := (k : Int) + 1) (by omega) (by omega) la se)
          have e1 := Lib.hid (show (Lk.hear mb k ((k : Int) + 1) la se).h = Sr.note mb.h ((k : Int) + 1) from rfl)
          have e2 := Lib.hid (show (Lk.hear mb k ((k : Int) + 1) la se).ser = t from hT.sb)
          have CB := Lib.hid cb
          clear cb
          generalize Lk.hear mb k ((k : Int) + 1) la se = m1 at *
          obtain ⟨r1, r2, r3, r4⟩ := Lk.two_taken hT hl2 M1.out e1.out e2.out
          have ce := fun X hX => T13.stamp (X := X) (w := w) (Ba := Bb) (ma := m1) (Bb := Ba) (mb := Lk.stamp ma) (A := A1) (n := L.length) (c := c1') (xs := Lk.u16s L) C C.uk M1.out hX
          rw [r1, r2] at ce
          have cf := fun X hX => T13.hear (X := X) (w := w) (Ba := Ba) (ma := Lk.stamp ma) (Bb := Bb) (mb := Lk.stamp m1) (A := A1) (n := L.length) (c := c1') (xs := Lk.u16s L) C C.uk MA.out k ((t : Int) + 1) ((k : Int) + 1) m1.h.seen (by omega) (by have := hT.cnt; omega) (by omega) M1.out.h.seen hX
          rw [r3] at cf
          have CE := Lib.hid ce
          have CF := Lib.hid cf
          have R4 := Lib.hid r4
          have htk : t < 30 := by have := hT.cnt; omega
          clear ce cf r1 r2 r3 r4
          generalize (m1.h.seen : Nat) = sn at *
          go_upto_region 11 with ((go_at_call 10; ((with_reducible refine CS.out.mono ?_); rintro e w1 ⟨rfl, h1⟩; have H1 := Lib.hid h1; have q1 := q0 w1 (by obtain ⟨_, _, _, _, _, _, _, h⟩ := h1; exact h); clear h1)))
          go_wp2_with (first
            | (go_at_call 12; first
              | ((with_reducible refine (CF.out _ H5.out.swap).mono ?_); rintro e w6 ⟨rfl, h6⟩; have H6 := Lib.hid h6; clear h6)
              | (((with_reducible refine (CB.out _ H1.out.swap).mono ?_); rintro e w3 ⟨rfl, h3⟩; have H3 := Lib.hid h3; clear h3); have q3 := q0 w3 (by obtain ⟨_, _, _, _, _, _, _, h⟩ := H3.out; exact h)))
            | (go_at_call 10; ((with_reducible refine (CE.out _ H3.out).mono ?_); rintro e w5 ⟨rfl, h5⟩; have H5 := Lib.hid h5; clear h5)))
          go_roundw
          case rel => exact ⟨k + 1, t + 1, L, _, _, A1, c1', by omega, by omega, by go_num, by go_num, by go_num, rfl, R4.out, H6.out⟩
          case measure => simp [intOf]; omega
        · have cb := fun X hX => T13.hear (X := X) (w := w) (Ba := Bb) (ma := mb) (Bb := Ba) (mb := Lk.stamp ma) (A := A1) (n := L.length) (c := c1') (xs := Lk.u16s L) C C.uk hT.b k ((k : Int) + 1) la se (by omega) (by omega) hla hse hX
          rw [Lk.two_fresh hT hl2] at cb
          have M1 := Lib.hid (Lk.hear_ok hT.b (now := (k : Int)) (s := (k : Int) + 1) (by omega) (by omega) la se)
          have e1 := Lib.hid (show (Lk.hear mb k ((k : Int) + 1) la se).h = Sr.note mb.h ((k : Int) + 1) from rfl)
          have e2 := Lib.hid (show (Lk.hear mb k ((k : Int) + 1) la se).ser = t from hT.sb)
          have CB := Lib.hid cb
          clear cb
          generalize Lk.hear mb k ((k : Int) + 1) la se = m1 at *
          have cd := fun X hX => T13.hear (X := X) (w := w) (Ba := Bb) (ma := m1) (Bb := Ba) (mb := Lk.stamp ma) (A := A1) (n := L.length) (c := c1') (xs := Lk.u16s L) C C.uk M1.out k ((k : Int) + 1) la se (by omega) (by omega) hla hse hX
          have ef : Lk.fresh m1 ((k : Int) + 1) = false := by
            unfold Lk.fresh
            rw [e1.out]
            exact (Lk.two_again hT hl2).1
          rw [ef] at cd
          have M3 := Lib.hid (Lk.hear_ok M1.out (now := (k : Int)) (s := (k : Int) + 1) (by omega) (by omega) la se)
          have e3 := Lib.hid (show (Lk.hear m1 k ((k : Int) + 1) la se).h = Sr.note mb.h ((k : Int) + 1) by
            show Sr.note m1.h ((k : Int) + 1) = _
            rw [e1.out]
            exact (Lk.two_again hT hl2).2)
          have e4 := Lib.hid (show (Lk.hear m1 k ((k : Int) + 1) la se).ser = t from e2.out)
          have CD := Lib.hid cd
          clear cd ef
          generalize Lk.hear m1 k ((k : Int) + 1) la se = m3 at *
          obtain ⟨r1, r2, r3, r4⟩ := Lk.two_taken hT hl2 M3.out e3.out e4.out
          have ce := fun X hX => T13.stamp (X := X) (w := w) (Ba := Bb) (ma := m3) (Bb := Ba) (mb := Lk.stamp ma) (A := A1) (n := L.length) (c := c1') (xs := Lk.u16s L) C C.uk M3.out hX
          rw [r1, r2] at ce
          have cf := fun X hX => T13.hear (X := X) (w := w) (Ba := Ba) (ma := Lk.stamp ma) (Bb := Bb) (mb := Lk.stamp m3) (A := A1) (n := L.length) (c := c1') (xs := Lk.u16s L) C C.uk MA.out k ((t : Int) + 1) ((k : Int) + 1) m3.h.seen (by omega) (by have := hT.cnt; omega) (by omega) M3.out.h.seen hX
          rw [r3] at cf
          have CE := Lib.hid ce
          have CF := Lib.hid cf
          have R4 := Lib.hid r4
          have htk : t < 30 := by have := hT.cnt; omega
          clear ce cf r1 r2 r3 r4
          generalize (m3.h.seen : Nat) = sn at *
          go_upto_region 11 with ((go_at_call 10; ((with_reducible refine CS.out.mono ?_); rintro e w1 ⟨rfl, h1⟩; have H1 := Lib.hid h1; have q1 := q0 w1 (by obtain ⟨_, _, _, _, _, _, _, h⟩ := h1; exact h); clear h1)))
          go_wp2_with (first
            | (go_at_call 12; first
              | ((with_reducible refine (CF.out _ H5.out.swap).mono ?_); rintro e w6 ⟨rfl, h6⟩; have H6 := Lib.hid h6; clear h6)
              | (((with_reducible refine (CD.out _ H3.out).mono ?_); rintro e w4 ⟨rfl, h4⟩; have H4 := Lib.hid h4; clear h4))
              | (((with_reducible refine (CB.out _ H1.out.swap).mono ?_); rintro e w3 ⟨rfl, h3⟩; have H3 := Lib.hid h3; clear h3); have q3 := q0 w3 (by obtain ⟨_, _, _, _, _, _, _, h⟩ := H3.out; exact h)))
            | (go_at_call 10; ((with_reducible refine (CE.out _ H4.out).mono ?_); rintro e w5 ⟨rfl, h5⟩; have H5 := Lib.hid h5; clear h5)))
          go_roundw
          case rel => exact ⟨k + 1, t + 1, L, _, _, A1, c1', by omega, by omega, by go_num, by go_num, by go_num, rfl, R4.out, H6.out⟩
          case measure => simp [intOf]; omega
      · have HTL := Lib.hid (Lk.two_lost hT hl2)
        have sl := u16s1 ((k : Int) + 1)
        have hcl := HT.out.cnt
        go_upto_region 12 with ((go_at_call 10; ((with_reducible refine CS.out.mono ?_); rintro e w1 ⟨rfl, h1⟩; have H1 := Lib.hid h1; have q1 := q0 w1 (by obtain ⟨_, _, _, _, _, _, _, h⟩ := h1; exact h); clear h1)))
        have HA := Lib.hid (T13.below C.uk C.uk H1.out (one_below w1 (.cells #[.int .u16 ((k : Int) + 1)] 28)))
        obtain ⟨_, _, _, _, _, qq, _, hbw⟩ := HA.out
        have QQ := Lib.hid qq
        have hbs := hbw.size
        clear qq hbw hT
        go_wp2_with (at_builtin; refine wpList_append_que (by rfl) (.tmp 47) (.tmp 49) (by rfl) QQ.out hbs (by omega) ((k : Int) + 1) ⟨w1.heap.size, 0, none⟩ 1 (by rfl) (by rfl) (cell_one w1 ((k : Int) + 1)) ?_; intro A2 c2 w2 Q2' hg2 hA2; have Q2 := Lib.hid Q2'; have G2 := Lib.hid (T13.grown C.uk C.uk HA.out Q2' hg2 hA2); clear Q2' hg2 hA2)
        go_roundw
        case rel =>
          refine ⟨k + 1, t, L ++ [(k : Int) + 1], Lk.stamp ma, mb, A2, c2, by omega, by omega, by go_num, by go_num, rfl, by rw [List.length_append]; rfl, HTL.out, ?_⟩
          rw [List.length_append]
          have e : Lk.u16s (L ++ [(k : Int) + 1]) = Lk.u16s L ++ [.int .u16 ((k : Int) + 1)] := List.map_append
          rw [e]
          exact G2.out
        case measure => simp [intOf]; omega
    · have hT := HT.out
      have hc := hT.cnt
      have hL64 : L.length ≤ 30 := by omega
      have hci : (t : Int) + L.length = k := by omega
      have hnb : Lk.next mb = (t : Int) + 1 := by unfold Lk.next; rw [hT.sb]; omega
      have cs := T13.stamp C C.uk hT.b HP.out.swap
      rw [hnb] at cs
      have CS := Lib.hid cs
      have hla := hT.b.h.last
      have hse := hT.b.h.seen
      have hop := Lib.hid hT.op
      have HE := Lib.hid (Lk.two_end hT 99 ((t : Int) + 1))
      have MA := Lib.hid hT.a
      have cf := fun X hX => T13.hear (X := X) (w := w) (Ba := Ba) (ma := ma) (Bb := Bb) (mb := Lk.stamp mb) (A := A1) (n := L.length) (c := c1') (xs := Lk.u16s L) C C.uk hT.a 99 ((t : Int) + 1) mb.h.last mb.h.seen (by decide) (by omega) hla hse hX
      have ME := Lib.hid (Lk.hear_ok hT.a (now := 99) (s := (t : Int) + 1) (by decide) (by omega) mb.h.last mb.h.seen)
      have CF := Lib.hid cf
      clear cs cf hT hnb
      generalize mb.h.last = la at *
      generalize (mb.h.seen : Nat) = se at *
      have fin := fun (m : Lk.M) (mo : m.Ok) (me : m.op = L) X (hX : T13 LP LP w Ba m Bb (Lk.stamp mb) A1 L.length c1' (Lk.u16s L) X) => Lib.hid (show Calls Try.prog 17 #[.pointer (some ⟨Ba, 0, none⟩)] X fun e X' => ∃ A3 c3, e = .returned (.slice A3 L.length c3) ∧ Lies X' X'.heap.size 1 A3 L.length (Lk.u16s L) ∧ T13 LP LP w Ba m Bb (Lk.stamp mb) A1 L.length c1' (Lk.u16s L) X' from by
        have := T13.open_ C C.uk mo hX
        rw [me] at this
        exact this)
      have F0 := Lib.hid (fin ma MA.out hop.out)
      have F1 := Lib.hid (fin _ ME.out HE.out)
      clear fin
      have sm := fun A3 c3 X l3 l4 => Lib.hid (same13_any A3 A1 L.length L.length c3 c1' L X rfl rfl (by omega) l3 l4)
      have QL := Lib.hid (show ∀ m X, T13 LP LP w Ba m Bb (Lk.stamp mb) A1 L.length c1' (Lk.u16s L) X → Lies X X.heap.size 1 A1 L.length (Lk.u16s L) ∧ Below w.heap.size w X from fun m X hX => by obtain ⟨_, _, _, _, _, hq, _, hb⟩ := hX; exact ⟨hq.lies, hb⟩)
      generalize Lk.hear ma 99 ((t : Int) + 1) la se = ma' at *
      have hkk : (k : Int) = n ∨ (k : Int) = 30 := by omega
      by_cases ht : 0 < t
      · have hti : (0 : Int) < t := by omega
        by_cases hkn : (k : Int) < n
        · have hk3 : ¬ (k : Int) < 30 := by omega
          clear hkk hlt
          go_wp2_with (first
            | (go_at_call 10; ((with_reducible refine CS.out.mono ?_); rintro e w1 ⟨rfl, h1⟩; have H1 := Lib.hid h1.swap; clear h1))
            | (go_at_call 12; ((with_reducible refine (CF.out _ H1.out).mono ?_); rintro e w2 ⟨rfl, h2⟩; have H2 := Lib.hid h2; clear h2))
            | (go_at_call 9; ((with_reducible refine (ct _).out.mono ?_); rintro e w3 ⟨rfl, h3⟩; have H3 := Lib.hid (T13.below C.uk C.uk H2.out h3); clear h3))
            | (go_at_call 17; ((with_reducible refine (F1.out _ H3.out).out.mono ?_); rintro e w4 ⟨A3, c3, rfl, l3, h4⟩; have H4 := Lib.hid h4; have L3 := Lib.hid l3; clear h4 l3))
            | (go_at_call 16; ((with_reducible refine (sm A3 c3 _ L3.out (QL.out _ _ H4.out).1).out.mono ?_); rintro e w5 ⟨rfl, h5⟩; have H5 := Lib.hid (T13.below C.uk C.uk H4.out h5); clear h5)))
          go_ret
          exact ⟨rfl, (QL.out _ _ H5.out).2⟩
        · clear hkk hlt
          go_wp2_with (first
            | (go_at_call 10; ((with_reducible refine CS.out.mono ?_); rintro e w1 ⟨rfl, h1⟩; have H1 := Lib.hid h1.swap; clear h1))
            | (go_at_call 12; ((with_reducible refine (CF.out _ H1.out).mono ?_); rintro e w2 ⟨rfl, h2⟩; have H2 := Lib.hid h2; clear h2))
            | (go_at_call 9; ((with_reducible refine (ct _).out.mono ?_); rintro e w3 ⟨rfl, h3⟩; have H3 := Lib.hid (T13.below C.uk C.uk H2.out h3); clear h3))
            | (go_at_call 17; ((with_reducible refine (F1.out _ H3.out).out.mono ?_); rintro e w4 ⟨A3, c3, rfl, l3, h4⟩; have H4 := Lib.hid h4; have L3 := Lib.hid l3; clear h4 l3))
            | (go_at_call 16; ((with_reducible refine (sm A3 c3 _ L3.out (QL.out _ _ H4.out).1).out.mono ?_); rintro e w5 ⟨rfl, h5⟩; have H5 := Lib.hid (T13.below C.uk C.uk H4.out h5); clear h5)))
          go_ret
          exact ⟨rfl, (QL.out _ _ H5.out).2⟩
      · have hti : ¬ (0 : Int) < t := by omega
        by_cases hkn : (k : Int) < n
        · have hk3 : ¬ (k : Int) < 30 := by omega
          clear hkk hlt
          go_wp2_with (first
            | (go_at_call 10; ((with_reducible refine CS.out.mono ?_); rintro e w1 ⟨rfl, h1⟩; have H1 := Lib.hid h1.swap; clear h1))
            | (go_at_call 9; ((with_reducible refine (ct _).out.mono ?_); rintro e w3 ⟨rfl, h3⟩; have H3 := Lib.hid (T13.below C.uk C.uk H1.out h3); clear h3))
            | (go_at_call 17; ((with_reducible refine (F0.out _ H3.out).out.mono ?_); rintro e w4 ⟨A3, c3, rfl, l3, h4⟩; have H4 := Lib.hid h4; have L3 := Lib.hid l3; clear h4 l3))
            | (go_at_call 16; ((with_reducible refine (sm A3 c3 _ L3.out (QL.out _ _ H4.out).1).out.mono ?_); rintro e w5 ⟨rfl, h5⟩; have H5 := Lib.hid (T13.below C.uk C.uk H4.out h5); clear h5)))
          go_ret
          exact ⟨rfl, (QL.out _ _ H5.out).2⟩
        · clear hkk hlt
          go_wp2_with (first
            | (go_at_call 10; ((with_reducible refine CS.out.mono ?_); rintro e w1 ⟨rfl, h1⟩; have H1 := Lib.hid h1.swap; clear h1))
            | (go_at_call 9; ((with_reducible refine (ct _).out.mono ?_); rintro e w3 ⟨rfl, h3⟩; have H3 := Lib.hid (T13.below C.uk C.uk H1.out h3); clear h3))
            | (go_at_call 17; ((with_reducible refine (F0.out _ H3.out).out.mono ?_); rintro e w4 ⟨A3, c3, rfl, l3, h4⟩; have H4 := Lib.hid h4; have L3 := Lib.hid l3; clear h4 l3))
            | (go_at_call 16; ((with_reducible refine (sm A3 c3 _ L3.out (QL.out _ _ H4.out).1).out.mono ?_); rintro e w5 ⟨rfl, h5⟩; have H5 := Lib.hid (T13.below C.uk C.uk H4.out h5); clear h5)))
          go_ret
          exact ⟨rfl, (QL.out _ _ H5.out).2⟩
end Go.Proofs.Ythojjpoadabehaa
namespace Go.Proofs.Ythojjpoadabehaa
open Go.RowKit
set_option linter.unusedVariables false
set_option linter.unusedSimpArgs false
set_option maxRecDepth 100000 in
set_option maxHeartbeats 4000000 in
theorem many13_law {LP : LkP} (C : LinkC LP) (n ack : Int) (w : World) :
    Calls Try.prog 5 #[.int .i64 n, .int .i64 ack] w fun e w' => e = .returned (.bool true) ∧ Below w.heap.size w w' := by
  have c0 := Lib.hid (P13.new C (LP := LP) (X := w) (w := w) 0 (by decide) (Below.refl _ _))
  have ct := fun X => Lib.hid (told13_law C X)
  obtain ⟨K, hK, hK2⟩ := modN n 201 (by decide)
  go_enter Try.func5, Try.ntmps5
  go_wp2_with ((go_at_call 7; ((with_reducible refine c0.out.mono ?_); rintro e w0 ⟨B, rfl, h0⟩; have H0 := Lib.hid h0; clear h0)))
  rw [hK]
  go_loopw [7] (fun i wr => ∃ j : Nat, j ≤ K ∧ i = .int .i64 ((j : Int) + 1) ∧ P13 LP w B (Lk.after j) wr) (fun i _ => K + 1 - (intOf i).toNat)
  case atStart => exact ⟨0, Nat.zero_le _, rfl, H0.out⟩
  case round =>
    obtain ⟨j, hj, rfl, hP⟩ := hrel
    have HP := Lib.hid hP
    clear hP H0 c0
    by_cases hlt : j < K
    · have hle : (j : Int) + 1 ≤ K := by omega
      have cs := Lib.hid (P13.stamp C (Lk.after_ok j) HP.out)
      have e1 : Lk.next (Lk.after j) = (j : Int) + 1 := by rw [Lk.after_is j (by omega)]; unfold Lk.next; dsimp only; omega
      have e2 : (Lk.after j).h = Sr.none := by rw [Lk.after_is j (by omega)]
      rw [e1, e2] at cs
      have CS := Lib.hid (show Calls Try.prog 10 #[.pointer (some ⟨B, 0, none⟩)] wr fun e X' => e = .returned (.tuple #[.int .u16 ((j : Int) + 1), .int .u16 0, .int .u32 0]) ∧ P13 LP w B (Lk.after (j + 1)) X' from cs.out)
      clear cs e1 e2
      go_wp2_with ((go_at_call 10; ((with_reducible refine CS.out.mono ?_); rintro e w1 ⟨rfl, h1⟩; have H1 := Lib.hid h1; clear h1)))
      go_roundw
      case rel => exact ⟨j + 1, by omega, by go_num, H1.out⟩
      case measure => simp [intOf]; omega
    · obtain rfl : j = K := by omega
      have HO := Lib.hid (Lk.after_ok j)
      have hj2 : j ≤ 200 := by omega
      have HA := Lib.hid (Lk.after_is j hj2)
      obtain ⟨m, hm⟩ : ∃ m, m = min j 64 := ⟨_, rfl⟩
      have co := P13.open_ C HO.out HP.out
      have hop : (Lk.after j).op = Lk.opOf j := by rw [HA.out]
      rw [hop, Lk.opOf_len, ← hm] at co
      have CO := Lib.hid co
      have HM := Lib.hid hm
      clear co hop hm
      go_upto_region 12 with ((go_at_call 17; ((with_reducible refine CO.out.mono ?_); rintro e w1 ⟨A, c, rfl, l1, h1⟩; have H1 := Lib.hid h1; have L1 := Lib.hid l1; clear h1 l1)))
      by_cases h64 : j ≤ 64
      · obtain rfl : m = j := by have := HM.out; omega
        have h65 : ¬ 64 < m := by omega
        go_upto_region 14 with fail
        obtain ⟨ad, hAd⟩ : ∃ ad, m = 0 ∨ A = some ad := by
          by_cases h0 : m = 0
          · exact ⟨⟨0, 0, none⟩, .inl h0⟩
          · obtain ⟨ad, h, _⟩ := L1.out.start h0
            exact ⟨ad, .inr h⟩
        have cell := Lib.hid (show ∀ r, r < m → ∀ ad, A = some ad → w1.cell? (ad.add r) = some (.int .u16 ((1 : Int) + r)) from fun r hr ad hA => by
          refine L1.out.cell ad hA (by omega) r _ ?_
          unfold Lk.u16s
          rw [List.getElem?_map, Lk.opOf_at m r (by omega)]
          show some (Value.int .u16 _) = _
          rw [show ((m - min m 64 + 1 + r : Nat) : Int) = (1 : Int) + r by omega])
        have HAd := Lib.hid hAd
        clear hAd CO HA
        go_wp2_with fail
        go_loop [12] (fun i => ∃ r : Nat, r ≤ m ∧ i = .int .i64 r) (fun i => m - (intOf i).toNat)
        case atStart => exact ⟨0, Nat.zero_le _, rfl⟩
        case round =>
          obtain ⟨r, hr, rfl⟩ := hrel
          by_cases hrm : r < m
          · have hrmi : (r : Int) < m := by omega
            rcases HAd.out with h0 | rfl
            · omega
            have q0 := cell.out r hrm ad rfl
            go_wp2_with fail
            go_round
            case rel => exact ⟨r + 1, by omega, by go_num⟩
            case measure => simp [intOf]; omega
          · obtain rfl : r = m := by omega
            by_cases h00 : r = 0
            · have h00i : (r : Int) = 0 := by omega
              go_wp2_with ((go_at_call 9; ((with_reducible refine (ct _).out.mono ?_); rintro e w2 ⟨rfl, h2⟩; have H2 := Lib.hid (P13.below C H1.out h2); clear h2)))
              obtain ⟨F3, _, hf3⟩ := H2.out
              go_ret
              exact ⟨rfl, hf3⟩
            · have h00i : ¬ (r : Int) = 0 := by omega
              rcases HAd.out with h0 | rfl
              · exact absurd h0 h00
              obtain ⟨q, hq, hq2⟩ := modN ack (r : Int) (by omega)
              have um : IntKind.u64.wrap (r : Int) = (r : Int) := by rw [IntKind.wrap_u64]; omega
              have q0 := cell.out q (by omega) ad rfl
              have hqn : q < r := by omega
              have hh : ((r - min r 64 + 1 + q : Nat) : Int) = (1 : Int) + q := by omega
              have hl := Lk.heard_len r q (by omega) (by omega)
              rw [hh] at hl
              have hH := P13.hear C HO.out 4 9 ((1 : Int) + q) 0 (by decide) (by decide) (by omega) (by decide) H1.out
              have HO3 := Lib.hid (Lk.hear_ok HO.out (now := 4) (s := 9) (by decide) (by decide) ((1 : Int) + q) 0)
              have hA3 : (Lk.hear (Lk.after r) 4 9 ((1 : Int) + q) 0).at_ = 4 := by rw [Lk.after_is r (by omega)]; rfl
              rw [show ((0 : Nat) : Int) = 0 from rfl] at hH
              have HH := Lib.hid hH
              clear hH hh
              generalize Lk.hear (Lk.after r) 4 9 ((1 : Int) + q) 0 = M3 at *
              generalize Lk.fresh (Lk.after r) 9 = fr at *
              have c3 := fun X (hX : P13 LP w B M3 X) => P13.open_ C HO3.out hX
              rw [hl] at c3
              obtain ⟨r1, hr1, hr2⟩ : ∃ r1 : Nat, (r1 : Int) = (r : Int) - 1 ∧ min r 64 - 1 = r1 := ⟨min r 64 - 1, by omega, rfl⟩
              have C3 := Lib.hid (show ∀ X, P13 LP w B M3 X → Calls Try.prog 17 #[.pointer (some ⟨B, 0, none⟩)] X fun e X' => ∃ A c, e = .returned (.slice A r1 c) ∧ P13 LP w B M3 X' from fun X hX => (c3 X hX).mono fun e X' ⟨A, c, he, _, h2⟩ => ⟨A, c, by rw [he, hr2], h2⟩)
              have c4 := fun X (hX : P13 LP w B M3 X) => P13.quiet C HO3.out 4 (by decide) (by rw [hA3]; decide) hX
              rw [hA3, show max 0 ((4 : Int) - 4) = 0 from by decide] at c4
              have C4 := Lib.hid c4
              clear c3 c4 hA3 hl
              go_wp2_with (first
                | (go_at_call 12; ((with_reducible refine HH.out.mono ?_); rintro e w3 ⟨rfl, h3⟩; have H3 := Lib.hid h3; clear h3))
                | (go_at_call 17; ((with_reducible refine (C3.out _ H3.out).mono ?_); rintro e w4 ⟨A4, c4, rfl, h4⟩; have H4 := Lib.hid h4; clear h4))
                | (go_at_call 9; ((with_reducible refine (ct _).out.mono ?_); rintro e w5 ⟨rfl, h5⟩; have H5 := Lib.hid (P13.below C H4.out h5); clear h5))
                | (go_at_call 14; ((with_reducible refine (C4.out _ H5.out).mono ?_); rintro e w6 ⟨rfl, h6⟩; have H6 := Lib.hid h6; clear h6)))
              obtain ⟨F3, _, hf3⟩ := H6.out
              go_ret
              first
                | exact ⟨rfl, hf3⟩
                | (refine ⟨?_, hf3⟩
                   trace_state
                   sorry)
      · obtain rfl : m = 64 := by have := HM.out; omega
        have h65 : 64 < j := by omega
        go_upto_region 14 with fail
        obtain ⟨ad, hAd⟩ : ∃ ad, 64 = 0 ∨ A = some ad := by
          by_cases h0 : 64 = 0
          · exact ⟨⟨0, 0, none⟩, .inl h0⟩
          · obtain ⟨ad, h, _⟩ := L1.out.start h0
            exact ⟨ad, .inr h⟩
        have cell := Lib.hid (show ∀ r, r < 64 → ∀ ad, A = some ad → w1.cell? (ad.add r) = some (.int .u16 ((j : Int) - 64 + 1 + r)) from fun r hr ad hA => by
          refine L1.out.cell ad hA (by omega) r _ ?_
          unfold Lk.u16s
          rw [List.getElem?_map, Lk.opOf_at j r (by omega)]
          show some (Value.int .u16 _) = _
          rw [show ((j - min j 64 + 1 + r : Nat) : Int) = (j : Int) - 64 + 1 + r by omega])
        have HAd := Lib.hid hAd
        clear hAd CO HA
        go_wp2_with fail
        go_loop [12] (fun i => ∃ r : Nat, r ≤ 64 ∧ i = .int .i64 r) (fun i => 64 - (intOf i).toNat)
        case atStart => exact ⟨0, Nat.zero_le _, rfl⟩
        case round =>
          obtain ⟨r, hr, rfl⟩ := hrel
          by_cases hrm : r < 64
          · have hrmi : (r : Int) < 64 := by omega
            rcases HAd.out with h0 | rfl
            · omega
            have q0 := cell.out r hrm ad rfl
            go_wp2_with fail
            go_round
            case rel => exact ⟨r + 1, by omega, by go_num⟩
            case measure => simp [intOf]; omega
          · obtain rfl : r = 64 := by omega
            by_cases h00 : 64 = 0
            · have h00i : (64 : Int) = 0 := by omega
              go_wp2_with ((go_at_call 9; ((with_reducible refine (ct _).out.mono ?_); rintro e w2 ⟨rfl, h2⟩; have H2 := Lib.hid (P13.below C H1.out h2); clear h2)))
              obtain ⟨F3, _, hf3⟩ := H2.out
              go_ret
              exact ⟨rfl, hf3⟩
            · have h00i : ¬ (64 : Int) = 0 := by omega
              rcases HAd.out with h0 | rfl
              · exact absurd h0 h00
              obtain ⟨q, hq, hq2⟩ := modN ack (64 : Int) (by omega)
              have um : IntKind.u64.wrap (64 : Int) = (64 : Int) := by rw [IntKind.wrap_u64]; omega
              have q0 := cell.out q (by omega) ad rfl
              have hqn : q < 64 := by omega
              have hh : ((j - min j 64 + 1 + q : Nat) : Int) = (j : Int) - 64 + 1 + q := by omega
              have hl := Lk.heard_len j q (by omega) (by omega)
              rw [hh] at hl
              have hH := P13.hear C HO.out 4 9 ((j : Int) - 64 + 1 + q) 0 (by decide) (by decide) (by omega) (by decide) H1.out
              have HO3 := Lib.hid (Lk.hear_ok HO.out (now := 4) (s := 9) (by decide) (by decide) ((j : Int) - 64 + 1 + q) 0)
              have hA3 : (Lk.hear (Lk.after j) 4 9 ((j : Int) - 64 + 1 + q) 0).at_ = 4 := by rw [Lk.after_is j (by omega)]; rfl
              rw [show ((0 : Nat) : Int) = 0 from rfl] at hH
              have HH := Lib.hid hH
              clear hH hh
              generalize Lk.hear (Lk.after j) 4 9 ((j : Int) - 64 + 1 + q) 0 = M3 at *
              generalize Lk.fresh (Lk.after j) 9 = fr at *
              have c3 := fun X (hX : P13 LP w B M3 X) => P13.open_ C HO3.out hX
              rw [hl] at c3
              obtain ⟨r1, hr1, hr2⟩ : ∃ r1 : Nat, (r1 : Int) = (64 : Int) - 1 ∧ min j 64 - 1 = r1 := ⟨min j 64 - 1, by omega, rfl⟩
              have C3 := Lib.hid (show ∀ X, P13 LP w B M3 X → Calls Try.prog 17 #[.pointer (some ⟨B, 0, none⟩)] X fun e X' => ∃ A c, e = .returned (.slice A r1 c) ∧ P13 LP w B M3 X' from fun X hX => (c3 X hX).mono fun e X' ⟨A, c, he, _, h2⟩ => ⟨A, c, by rw [he, hr2], h2⟩)
              have c4 := fun X (hX : P13 LP w B M3 X) => P13.quiet C HO3.out 4 (by decide) (by rw [hA3]; decide) hX
              rw [hA3, show max 0 ((4 : Int) - 4) = 0 from by decide] at c4
              have C4 := Lib.hid c4
              clear c3 c4 hA3 hl
              go_wp2_with (first
                | (go_at_call 12; ((with_reducible refine HH.out.mono ?_); rintro e w3 ⟨rfl, h3⟩; have H3 := Lib.hid h3; clear h3))
                | (go_at_call 17; ((with_reducible refine (C3.out _ H3.out).mono ?_); rintro e w4 ⟨A4, c4, rfl, h4⟩; have H4 := Lib.hid h4; clear h4))
                | (go_at_call 9; ((with_reducible refine (ct _).out.mono ?_); rintro e w5 ⟨rfl, h5⟩; have H5 := Lib.hid (P13.below C H4.out h5); clear h5))
                | (go_at_call 14; ((with_reducible refine (C4.out _ H5.out).mono ?_); rintro e w6 ⟨rfl, h6⟩; have H6 := Lib.hid h6; clear h6)))
              obtain ⟨F3, _, hf3⟩ := H6.out
              go_ret
              first
                | exact ⟨rfl, hf3⟩
                | (refine ⟨?_, hf3⟩
                   trace_state
                   sorry)
end Go.Proofs.Ythojjpoadabehaa
