/-
Several texts in one: Dl Sx Sy Lka Lkb Lkc Lkd Lke Lc Dd Df.
-/
import Derived.Test.YthojjpoadabehaaLp3
namespace Go.Proofs.Ythojjpoadabehaa
open Go.RowKit
set_option linter.unusedVariables false
set_option linter.unusedSimpArgs false
theorem lop_add (a : Addr) (x j : Nat) : (a.add x).add j = a.add (x + j) := by
  unfold Addr.add
  by_cases hj : j = 0
  · subst hj; simp
  · by_cases hx : x = 0
    · subst hx; simp [hj]
    · have : ¬ x + j = 0 := by omega
      simp [hj, hx, this, Nat.add_assoc]
theorem lop_at {w : World} {B n : Nat} {ad : Addr} {l : List Lk.Op} (h : Lies w B 5 (some ad) n (l.flatMap Lk.Op.cells)) (hn : n = l.length) (f : Nat) (hf : f < l.length) (j : Nat) (hj : j < 5) : w.cell? ((ad.add (f * 5)).add j) = (l[f]).cells[j]? := by
  have h1 := flat_at (cells := Lk.Op.cells) (c := 5) (fun _ => rfl) l f j hf (by omega)
  have h2 : (l[f]).cells[j]? = some ((l[f]).cells[j]'(by show j < 5; exact hj)) := List.getElem?_eq_getElem _
  rw [h2] at h1 ⊢
  have := h.cell ad rfl (by omega) (f * 5 + j) _ h1
  rw [lop_add]
  exact this
set_option maxRecDepth 100000 in
set_option maxHeartbeats 4000000 in
theorem plays13_law {LP : LkP} (C : LinkC LP) (now : Int) (hnow : -9223372036854775808 ≤ now ∧ now ≤ 9223372036854775807) (A : Option Addr) (c : Nat) (l : List Lk.Op) (w : World) (hty : ∀ q ∈ l, q.ty) (hnm : l.length ≤ maxLen) (hL : Lies w w.heap.size 5 A l.length (l.flatMap Lk.Op.cells)) :
    Calls Try.prog 3 #[.int .i64 now, .slice A l.length c] w fun e w' => e = .returned (.bool true) ∧ Below w.heap.size w w' := by
  have c0 := Lib.hid (P13.new C (LP := LP) (X := w) (w := w) now hnow (Below.refl _ _))
  have c1 := fun Ba X (h : P13 LP w Ba (Lk.new now) X) => Lib.hid (T13.secondRef C.uk now h)
  have ct := fun X => Lib.hid (told13_law C X)
  have HL := Lib.hid hL
  have HTY := Lib.hid hty
  clear hL hty
  unfold maxLen at hnm
  obtain ⟨n, hn⟩ : ∃ n, n = l.length := ⟨_, rfl⟩
  have NL := Lib.hid hn
  rw [← hn] at hnm ⊢
  have hL2 := HL.out
  rw [← hn] at hL2
  have HL2 := Lib.hid hL2
  clear hL2 hn HL
  go_enter Try.func3, Try.ntmps3
  by_cases h200 : (200 : Int) < n
  · go_wp2_with (first
      | (go_at_call 7; ((with_reducible refine c0.out.mono ?_); rintro e w0 ⟨Ba, rfl, h0⟩; have H0 := Lib.hid h0; clear h0))
      | (go_at_call 8; ((with_reducible refine (c1 _ _ H0.out).out.mono ?_); rintro e w1 ⟨Bb, rfl, h1⟩; have H1 := Lib.hid h1; clear h1))
      | (go_at_call 9; ((with_reducible refine (ct _).out.mono ?_); rintro e w3 ⟨rfl, h3⟩; have H3 := Lib.hid (T13.below C.uk ref_uk H1.out h3); clear h3)))
    obtain ⟨_, _, _, _, _, _, _, hb⟩ := H3.out
    go_ret
    exact ⟨rfl, hb⟩
  · go_wp2_with (first
      | (go_at_call 7; ((with_reducible refine c0.out.mono ?_); rintro e w0 ⟨Ba, rfl, h0⟩; have H0 := Lib.hid h0; clear h0))
      | (go_at_call 8; ((with_reducible refine (c1 _ _ H0.out).out.mono ?_); rintro e w1 ⟨Bb, rfl, h1⟩; have H1 := Lib.hid h1; clear h1)))
    go_loopw [7] (fun i wr => ∃ (k : Nat) (m : Lk.M), k ≤ n ∧ i = .int .i64 k ∧ m.Ok ∧ T13 LP RefL w Ba m Bb m none 0 0 [] wr) (fun i _ => n - (intOf i).toNat)
    case atStart => exact ⟨0, Lk.new now, Nat.zero_le _, rfl, Lk.new_ok hnow, H1.out⟩
    case round =>
      obtain ⟨k, m, hk, rfl, ho, hP⟩ := hrel
      have HP := Lib.hid hP
      have HO := Lib.hid ho
      clear hP ho H0 H1 c0 c1
      by_cases hlt : k < n
      · have hkn : (k : Int) < n := by omega
        obtain ⟨ad, rfl, hadl⟩ := HL2.out.start (by omega)
        have hcb : Below w.heap.size w wr := by obtain ⟨_, _, _, _, _, _, _, h⟩ := HP.out; exact h
        have nb := NL.out
        obtain ⟨q, hqe⟩ : ∃ q, q = l[k]'(by omega) := ⟨_, rfl⟩
        have q0 : ∀ j, j < 5 → wr.cell? ((ad.add (k * 5)).add j) = q.cells[j]? := fun j hj => by rw [hqe]; exact lop_at (HL2.out.below hcb) nb k (by omega) j hj
        have hq : q.ty := by rw [hqe]; exact HTY.out _ (List.getElem_mem _)
        clear hqe
        obtain ⟨qk, qn, qs, qa, qz⟩ := q
        obtain ⟨t1, t2, t3, t4, t5⟩ := hq
        dsimp only at t1 t2 t3 t4 t5
        have p0 : wr.cell? (ad.add (k * 5)) = some (.int .i64 qk) := by have := q0 0 (by decide); rw [lop_add, Nat.add_zero] at this; exact this
        have p1 : wr.cell? ⟨(ad.add (k * 5)).block, (ad.add (k * 5)).off + 1, none⟩ = some (.int .i64 qn) := q0 1 (by decide)
        have p2 : wr.cell? ⟨(ad.add (k * 5)).block, (ad.add (k * 5)).off + 2, none⟩ = some (.int .u16 qs) := q0 2 (by decide)
        have p3 : wr.cell? ⟨(ad.add (k * 5)).block, (ad.add (k * 5)).off + 3, none⟩ = some (.int .u16 qa) := q0 3 (by decide)
        have p4 : wr.cell? ⟨(ad.add (k * 5)).block, (ad.add (k * 5)).off + 4, none⟩ = some (.int .u32 qz) := q0 4 (by decide)
        clear q0 nb hcb
        go_upto_region 10 with fail
        have U1 := Lib.hid (U13.of C.uk ref_uk HP.out (one_below wr (.cells #[.int .i64 qk, .int .i64 qn, .int .u16 qs, .int .u16 qa, .int .u32 qz] 31)) (Box.made wr 31 #[.int .i64 qk, .int .i64 qn, .int .u16 qs, .int .u16 qa, .int .u32 qz]) (Nat.le_refl _))
        clear p0 p1 p2 p3 p4 HP
        generalize wr.alloc (.cells #[.int .i64 qk, .int .i64 qn, .int .u16 qs, .int .u16 qa, .int .u32 qz] 31) = X1 at *
        generalize wr.heap.size = Bo at *
        have k0 : X1.cell? ⟨Bo, 0, none⟩ = some (.int .i64 qk) := U1.out.block.cell 0
        go_upto_region 15 with fail
        generalize (wrap64 (qk.tmod 3 + 3)).tmod 3 = r
        clear k0
        by_cases hr0 : r = 0
        · subst hr0
          have mo := Lib.hid (Lk.stamp_ok HO.out)
          have cs := fun Y hY => Lib.hid (U13.stamp (X := Y) (w := w) (Ba := Ba) (ma := m) (Bb := Bb) (mb := m) (Bo := Bo) (t := 31) (cs := #[.int .i64 qk, .int .i64 qn, .int .u16 qs, .int .u16 qa, .int .u32 qz]) C ref_uk HO.out hY)
          have cr := fun Y hY => Lib.hid (U13.refstamp (X := Y) (w := w) (Ba := Ba) (ma := Lk.stamp m) (Bb := Bb) (mb := m) (Bo := Bo) (t := 31) (cs := #[.int .i64 qk, .int .i64 qn, .int .u16 qs, .int .u16 qa, .int .u32 qz]) C.uk HO.out hY)
          generalize Lk.stamp m = m2 at *
          generalize Lk.next m = nx at *
          generalize m.h.last = la at *
          generalize (m.h.seen : Nat) = se at *
          go_upto_region 23 with (first
            | (go_at_call 10; ((with_reducible refine (cs _ U1.out).out.mono ?_); rintro e w2 ⟨rfl, h2⟩; have H2 := Lib.hid h2; clear h2))
            | (go_at_call 11; ((with_reducible refine (cr _ H2.out).out.mono ?_); rintro e w3 ⟨rfl, h3⟩; have H3 := Lib.hid h3; clear h3)))
          obtain ⟨A1, c1, hBL, hLL⟩ := U13.refbox H3.out
          have hm64 := mo.out.few
          have BD := Lib.hid hBL.drew
          have LD := Lib.hid (hLL.below (Below.drew (Below.refl _ _)))
          have HD := Lib.hid (U13.drew C.uk ref_uk H3.out)
          have kd : w3.drew.cell? ⟨Bb, 37, none⟩ = some (.slice A1 m2.op.length c1) := BD.out.cell 37
          have co := Lib.hid (U13.openB C mo.out HD.out)
          have sm := fun A3 c3 X l3 l4 => Lib.hid (same13_any A3 A1 m2.op.length m2.op.length c3 c1 m2.op X rfl rfl (by omega) l3 l4)
          clear hBL hLL
          go_region_held3 (fun w' => w'.cell? ⟨Bb, 37, none⟩ = some (.slice A1 m2.op.length c1)) (first | exact kd | exact k2 | exact k3 | go_keep) (first
            | (go_at_call 17; (with_reducible refine co.out.mono ?_); rintro e Y2 ⟨A3, c3, rfl, l3, hb3⟩; have HY := Lib.hid (U13.below C.uk ref_uk HD.out hb3); have L3 := Lib.hid l3; have LY := Lib.hid ((LD.out.below hb3).wider hb3.size); have BY := Lib.hid (BD.out.below hb3 BD.out.lt); have k2 : Y2.cell? ⟨Bb, 37, none⟩ = some (.slice A1 m2.op.length c1) := BY.out.cell 37; clear l3 hb3)
            | (go_at_call 16; (with_reducible refine (sm A3 c3 _ L3.out LY.out).out.mono ?_); rintro e Z ⟨rfl, hz⟩; have HZ := Lib.hid (U13.below C.uk ref_uk HY.out hz); have k3 : Z.cell? ⟨Bb, 37, none⟩ = some (.slice A1 m2.op.length c1) := (BY.out.below hz BY.out.lt).cell 37; clear hz))
          all_goals (
            go_wp2_with fail
            go_roundw
            case rel => exact ⟨k + 1, m2, by omega, by go_num, mo.out, HZ.out.to⟩
            case measure => simp [intOf]; omega)
        · by_cases hr1 : r = 1
          · subst hr1
            obtain ⟨qz', hz, hz2⟩ : ∃ z : Nat, qz = (z : Int) ∧ z < 4294967296 := ⟨qz.toNat, by omega, by omega⟩
            subst hz
            have mo := Lib.hid (Lk.hear_ok HO.out (now := qn) (s := qs) t2 t3 qa qz')
            have cs := fun Y hY => Lib.hid (U13.hear (X := Y) (w := w) (Ba := Ba) (ma := m) (Bb := Bb) (mb := m) (Bo := Bo) (t := 31) (cs := #[.int .i64 qk, .int .i64 qn, .int .u16 qs, .int .u16 qa, .int .u32 (qz' : Nat)]) C ref_uk HO.out qn qs qa qz' t2 t3 t4 hz2 hY)
            have cr := fun Y hY => Lib.hid (U13.refhear (X := Y) (w := w) (Ba := Ba) (ma := Lk.hear m qn qs qa qz') (Bb := Bb) (mb := m) (Bo := Bo) (t := 31) (cs := #[.int .i64 qk, .int .i64 qn, .int .u16 qs, .int .u16 qa, .int .u32 (qz' : Nat)]) C.uk HO.out qn qs qa qz' t2 t3 t4 hz2 hY)
            generalize Lk.hear m qn qs qa qz' = m2 at *
            generalize Lk.fresh m qs = fr at *
            go_upto_region 21 with fail
            have U2 := Lib.hid (U13.drew C.uk ref_uk U1.out)
            have kd1 := U13.cells U2.out
            go_region_held3 (fun w' => w'.cell? ⟨Bo, 1, none⟩ = some (.int .i64 qn) ∧ w'.cell? ⟨Bo, 2, none⟩ = some (.int .u16 qs) ∧ w'.cell? ⟨Bo, 3, none⟩ = some (.int .u16 qa) ∧ w'.cell? ⟨Bo, 4, none⟩ = some (.int .u32 (qz' : Nat))) (first | exact kd1 | exact kd2 | exact kd3 | go_keep) (first
              | (go_at_call 12; (with_reducible refine (cs _ U2.out).out.mono ?_); rintro e w2 ⟨rfl, h2⟩; have H2 := Lib.hid h2; have kd2 := U13.cells h2; clear h2)
              | (go_at_call 13; (with_reducible refine (cr _ H2.out).out.mono ?_); rintro e w3 ⟨rfl, h3⟩; have H3 := Lib.hid h3; have kd3 := U13.cells h3; clear h3))
            all_goals (
              clear kd1 kd2 kd3
              go_upto_region 23 with fail
              obtain ⟨A1, c1, hBL, hLL⟩ := U13.refbox H3.out
              have hm64 := mo.out.few
              have BD := Lib.hid hBL.drew
              have LD := Lib.hid (hLL.below (Below.drew (Below.refl _ _)))
              have HD := Lib.hid (U13.drew C.uk ref_uk H3.out)
              have kd : w3.drew.cell? ⟨Bb, 37, none⟩ = some (.slice A1 m2.op.length c1) := BD.out.cell 37
              have co := Lib.hid (U13.openB C mo.out HD.out)
              have sm := fun A3 c3 X l3 l4 => Lib.hid (same13_any A3 A1 m2.op.length m2.op.length c3 c1 m2.op X rfl rfl (by omega) l3 l4)
              clear hBL hLL
              go_region_held3 (fun w' => w'.cell? ⟨Bb, 37, none⟩ = some (.slice A1 m2.op.length c1)) (first | exact kd | exact k2 | exact k3 | go_keep) (first
                | (go_at_call 17; (with_reducible refine co.out.mono ?_); rintro e Y2 ⟨A3, c3, rfl, l3, hb3⟩; have HY := Lib.hid (U13.below C.uk ref_uk HD.out hb3); have L3 := Lib.hid l3; have LY := Lib.hid ((LD.out.below hb3).wider hb3.size); have BY := Lib.hid (BD.out.below hb3 BD.out.lt); have k2 : Y2.cell? ⟨Bb, 37, none⟩ = some (.slice A1 m2.op.length c1) := BY.out.cell 37; clear l3 hb3)
                | (go_at_call 16; (with_reducible refine (sm A3 c3 _ L3.out LY.out).out.mono ?_); rintro e Z ⟨rfl, hz⟩; have HZ := Lib.hid (U13.below C.uk ref_uk HY.out hz); have k3 : Z.cell? ⟨Bb, 37, none⟩ = some (.slice A1 m2.op.length c1) := (BY.out.below hz BY.out.lt).cell 37; clear hz))
              all_goals (
                go_wp2_with fail
                go_roundw
                case rel => exact ⟨k + 1, m2, by omega, by go_num, mo.out, HZ.out.to⟩
                case measure => simp [intOf]; omega))
          · obtain ⟨A1, c1, hBL, hLL⟩ := U13.refbox U1.out
            have k36 : X1.cell? ⟨Bb, 36, none⟩ = some (.int .i64 m.at_) := hBL.cell 36
            have k1 := (U13.cells U1.out).1
            have hat := HO.out.at_
            have mo := HO
            clear hBL hLL
            obtain ⟨at_, hae⟩ : ∃ a, a = m.at_ := ⟨_, rfl⟩
            rw [← hae] at k36 hat
            have HAE := Lib.hid hae
            clear hae
            have hwe : IntKind.i64.wrap (qn - at_) = wrap64 (qn - at_) := by rw [IntKind.wrap_i64]; unfold wrap64; omega
            have kd1 : X1.drew.cell? ⟨Bo, 1, none⟩ = some (.int .i64 qn) ∧ X1.drew.cell? ⟨Bb, 36, none⟩ = some (.int .i64 at_) := ⟨k1, k36⟩
            by_cases ho1 : IntKind.i64.wrap (qn - at_) < 0 ∧ at_ < qn
            · have g1 := decide_eq_true ho1.1
              have g2 := decide_eq_true ho1.2
              obtain ⟨g3, g4⟩ := ho1
              clear hwe
              have HD := Lib.hid (fun nq => U13.below C.uk ref_uk U1.out (draws_below (Below.refl _ _) nq))
              go_upto_region 11 with fail
              go_quiet (fail)
              go_wp2_with ((go_at_call 9; ((with_reducible refine (ct _).out.mono ?_); rintro e w3 ⟨rfl, h3⟩; have H3 := Lib.hid (U13.below C.uk ref_uk (HD.out _) h3); clear h3)))
              go_ret
              exact ⟨rfl, H3.out.down⟩
            · rw [hwe] at ho1
              have hw : qn - at_ ≤ 9223372036854775807 := by unfold wrap64 at ho1; omega
              have hv : Lk.quiet m qn = max 0 (qn - at_) := by
                unfold Lk.quiet
                rw [← HAE.out]
                split
                · omega
                · unfold wrap64; omega
              have hdec : decide (IntKind.i64.wrap (qn - at_) < 0) = false ∨ (decide (IntKind.i64.wrap (qn - at_) < 0) = true ∧ decide (at_ < qn) = false) := by
                rw [hwe]
                by_cases h1 : wrap64 (qn - at_) < 0
                · exact .inr ⟨decide_eq_true h1, decide_eq_false fun h2 => ho1 ⟨h1, h2⟩⟩
                · exact .inl (decide_eq_false h1)
              have cq := fun Y hY => (U13.quiet (X := Y) (w := w) (Ba := Ba) (ma := m) (Bb := Bb) (mb := m) (Bo := Bo) (t := 31) (cs := #[.int .i64 qk, .int .i64 qn, .int .u16 qs, .int .u16 qa, .int .u32 qz]) C ref_uk HO.out qn t2 (by rw [← HAE.out]; exact hw) hY)
              have cr := fun Y hY => (U13.refquiet (X := Y) (LP := LP) (w := w) (Ba := Ba) (ma := m) (Bb := Bb) (mb := m) (Bo := Bo) (t := 31) (cs := #[.int .i64 qk, .int .i64 qn, .int .u16 qs, .int .u16 qa, .int .u32 qz]) HO.out qn t2 hY)
              rw [← HAE.out] at cq
              rw [hv] at cr
              have CQ := Lib.hid cq
              have CR := Lib.hid cr
              have HW := Lib.hid hw
              clear cq cr hv hwe ho1 hw
              have HD := Lib.hid (fun nq => U13.below C.uk ref_uk U1.out (draws_below (Below.refl _ _) nq))
              generalize max 0 (qn - at_) = vv at *
              obtain ⟨d, hd⟩ : ∃ d, IntKind.i64.wrap (qn - at_) = d := ⟨_, rfl⟩
              rw [hd] at hdec
              rcases hdec with g1 | ⟨g1, g2⟩
              all_goals (
                go_upto_region 11 with fail
                go_quiet (fail)
                go_upto_region 13 with fail
                generalize hX2 : X1.drewN _ = X2
                have H2 := Lib.hid (show U13 LP RefL w Ba m Bb m Bo 31 #[.int .i64 qk, .int .i64 qn, .int .u16 qs, .int .u16 qa, .int .u32 qz] X2 by rw [← hX2]; exact HD.out _)
                have U2 := Lib.hid (U13.drew C.uk ref_uk H2.out)
                have kd1 := (U13.cells U2.out).1
                clear k1 k36 HD hX2
                go_region_held3 (fun w' => w'.cell? ⟨Bo, 1, none⟩ = some (.int .i64 qn)) (first | exact kd1 | exact kd2 | go_keep) (first
                  | (go_at_call 14; (with_reducible refine (CQ.out _ U2.out).mono ?_); rintro e w2 ⟨rfl, h2⟩; have H3 := Lib.hid h2; have kd2 := (U13.cells h2).1; clear h2)
                  | (go_at_call 15; (with_reducible refine (CR.out _ H3.out).mono ?_); rintro e w3 ⟨rfl, rfl⟩))
                all_goals (
                  clear kd1 kd2
                  go_upto_region 23 with fail
                  obtain ⟨A1, c1, hBL, hLL⟩ := U13.refbox H3.out
                  have hm64 := mo.out.few
                  have BD := Lib.hid hBL.drew
                  have LD := Lib.hid (hLL.below (Below.drew (Below.refl _ _)))
                  have HD := Lib.hid (U13.drew C.uk ref_uk H3.out)
                  have kd : w2.drew.cell? ⟨Bb, 37, none⟩ = some (.slice A1 m.op.length c1) := BD.out.cell 37
                  have co := Lib.hid (U13.openB C mo.out HD.out)
                  have sm := fun A3 c3 X l3 l4 => Lib.hid (same13_any A3 A1 m.op.length m.op.length c3 c1 m.op X rfl rfl (by omega) l3 l4)
                  clear hBL hLL
                  go_region_held3 (fun w' => w'.cell? ⟨Bb, 37, none⟩ = some (.slice A1 m.op.length c1)) (first | exact kd | exact k2 | exact k3 | go_keep) (first
                    | (go_at_call 17; (with_reducible refine co.out.mono ?_); rintro e Y2 ⟨A3, c3, rfl, l3, hb3⟩; have HY := Lib.hid (U13.below C.uk ref_uk HD.out hb3); have L3 := Lib.hid l3; have LY := Lib.hid ((LD.out.below hb3).wider hb3.size); have BY := Lib.hid (BD.out.below hb3 BD.out.lt); have k2 : Y2.cell? ⟨Bb, 37, none⟩ = some (.slice A1 m.op.length c1) := BY.out.cell 37; clear l3 hb3)
                    | (go_at_call 16; (with_reducible refine (sm A3 c3 _ L3.out LY.out).out.mono ?_); rintro e Z ⟨rfl, hz⟩; have HZ := Lib.hid (U13.below C.uk ref_uk HY.out hz); have k3 : Z.cell? ⟨Bb, 37, none⟩ = some (.slice A1 m.op.length c1) := (BY.out.below hz BY.out.lt).cell 37; clear hz))
                  all_goals (
                    go_wp2_with fail
                    go_roundw
                    case rel => exact ⟨k + 1, m, by omega, by go_num, mo.out, HZ.out.to⟩
                    case measure => simp [intOf]; omega)))
      · obtain rfl : k = n := by omega
        go_wp2_with ((go_at_call 9; ((with_reducible refine (ct _).out.mono ?_); rintro e w3 ⟨rfl, h3⟩; have H3 := Lib.hid (T13.below C.uk ref_uk HP.out h3); clear h3)))
        obtain ⟨_, _, _, _, _, _, _, hb⟩ := H3.out
        go_ret
        exact ⟨rfl, hb⟩
end Go.Proofs.Ythojjpoadabehaa
namespace Go.Proofs.Ythojjpoadabehaa
open Go.RowKit
set_option linter.unusedVariables false

set_option maxHeartbeats 1000000 in
theorem goon_first (la s : Int) (se B : Nat) (w : World) (hB : Box w B 62 (Sr.H.cells ⟨false, la, se⟩)) :
    Calls Try.prog 32 #[.pointer (some ⟨B, 0, none⟩), .int .u16 s] w fun e w' => e = .returned (.tuple #[]) ∧ Box w' B 62 (Sr.H.cells ⟨true, s, se⟩) ∧ Only B w w' := by
  have q0 : w.cell? ⟨B, 0, none⟩ = some (.bool false) := hB.cell 0
  have q1 : w.cell? ⟨B, 1, none⟩ = some (.int .u16 la) := hB.cell 1
  have f0 := hB.free 0
  have f1 := hB.free 1
  have q2 : (w.setCell ⟨B, 0, none⟩ (.bool true)).cell? ⟨B, 1, none⟩ = some (.int .u16 la) := (hB.put 0 (.bool true)).cell 1
  have f2 := (hB.put 0 (.bool true)).free 1
  have HE := Lib.hid (show Box _ B 62 (Sr.H.cells ⟨true, s, se⟩) from (hB.put 0 (.bool true)).put 1 (.int .u16 s))
  have HO := Lib.hid ((Only.set (B := B) w 0 (.bool true)).trans (Only.set (w.setCell ⟨B, 0, none⟩ (.bool true)) 1 (.int .u16 s)))
  clear hB
  go_enter Try.func32, Try.ntmps32
  go_wp2
  go_end0
  exact ⟨rfl, HE.out, HO.out⟩

set_option maxHeartbeats 2000000 in
theorem goon_ahead (la s : Int) (se B : Nat) (hse : se < 4294967296) (hd : 0 < Sr.way la s) (w : World) (hB : Box w B 62 (Sr.H.cells ⟨true, la, se⟩)) :
    Calls Try.prog 32 #[.pointer (some ⟨B, 0, none⟩), .int .u16 s] w fun e w' => e = .returned (.tuple #[]) ∧ Box w' B 62 (Sr.H.cells ⟨true, s, Sr.up se (Sr.way la s)⟩) ∧ Only B w w' := by
  have q0 : w.cell? ⟨B, 0, none⟩ = some (.bool true) := hB.cell 0
  have c1 := fun X => Lib.hid (serway_any la s X)
  have c2 := fun X => Lib.hid (serbits_any s X)
  have c3 := fun X hX => Lib.hid (serbit_any s la w.heap.size X hX)
  have hk := shift_up se (Sr.way la s) hd
  have hmod : se * 2 ^ (Sr.way la s).toNat % 4294967296 < 4294967296 := Nat.mod_lt _ (by decide)
  have hor := u32_or_nat _ _ hmod (Sr.bitN_lt (Sr.way la s))
  have HB := Lib.hid hB
  clear hB
  unfold Sr.up at *
  generalize (se * 2 ^ (Sr.way la s).toNat % 4294967296) = M at *
  generalize Sr.bitN (Sr.way la s) = Z at *
  generalize Sr.way la s = d at *
  go_enter Try.func32, Try.ntmps32
  go_upto_region 1 with fail
  clear q0
  have hL : ∀ X : World, Box X B 62 (Sr.H.cells ⟨true, la, se⟩) → X.cell? ⟨B, 1, none⟩ = some (.int .u16 la) := fun X hX => hX.cell 1
  have hS : ∀ X : World, Box X B 62 (Sr.H.cells ⟨true, la, se⟩) → X.cell? ⟨B, 2, none⟩ = some (.int .u32 (se : Nat)) := fun X hX => hX.cell 2
  have HL := Lib.hid hL
  have HS := Lib.hid hS
  clear hL hS
  refine Ry.wp_region_lex (by kernel_rfl) [] (by kernel_rfl) (· = w.drew) (fun X => Box X B 62 (Sr.H.cells ⟨true, la, se⟩)) (fun _ => True) rfl (fun W hW => ⟨hW ▸ HB.out.drew, trivial⟩) ?_
  have hW1 := Lib.hid (show Box (w.drew.alloc (.cells #[.int .u16 s] 28)) B 62 (Sr.H.cells ⟨true, la, se⟩) from HB.out.drew.alloc _)
  repeat (first
    | (apply Ry.lex_free rfl rfl; focus (intro _; go_simp; first | done | rfl))
    | (apply Ry.lex_look rfl rfl rfl rfl; focus (intro W hW; have l1 := HL.out W hW; have l2 := HS.out W hW; clear hW; go_simp; first | done | rfl)))
  refine Ry.lex_call (C' := (· = w.drew)) (v := .int .i64 d) (f := 35) (args := #[.int .u16 la, .int .u16 s]) rfl ?_ ?_ (fun W hW => ⟨hW ▸ HB.out.drew, trivial⟩) ?_
  · intro Z hZ; clear hZ; go_simp; first | done | rfl | exact ⟨rfl, rfl⟩
  · intro Z hZ
    exact (c1 Z).out.mono (fun e w' h => ⟨h.1, h.2.symm.trans hZ⟩)
  repeat (first
    | (apply Ry.lex_free rfl rfl; focus (intro _; go_simp; first | done | rfl))
    | (apply Ry.lex_look rfl rfl rfl rfl; focus (intro W hW; have l1 := HL.out W hW; have l2 := HS.out W hW; clear hW; go_simp; first | done | rfl)))
  refine Ry.lex_call (C' := (· = w.drew.alloc (.cells #[.int .u16 s] 28))) (v := .func (.func 34) #[] #[.pointer (some ⟨w.heap.size, 0, none⟩)]) (f := 30) (args := #[.int .u16 s]) rfl ?_ ?_ (fun W hW => ⟨hW ▸ hW1.out, trivial⟩) ?_
  · intro Z hZ; clear hZ; go_simp; first | done | rfl | exact ⟨rfl, rfl⟩
  · intro Z hZ
    subst hZ
    exact (c2 _).out
  repeat (first
    | (apply Ry.lex_free rfl rfl; focus (intro _; go_simp; first | done | rfl))
    | (apply Ry.lex_look rfl rfl rfl rfl; focus (intro W hW; have l1 := HL.out W hW; have l2 := HS.out W hW; clear hW; go_simp; first | done | rfl)))
  refine Ry.lex_call (C' := (· = w.drew.alloc (.cells #[.int .u16 s] 28))) (v := .int .u32 (Z : Nat)) (f := 34) (args := #[.int .u16 la, .pointer (some ⟨w.heap.size, 0, none⟩)]) rfl ?_ ?_ (fun W hW => ⟨hW ▸ hW1.out, trivial⟩) ?_
  · intro Z hZ; clear hZ; go_simp; first | done | rfl | exact ⟨rfl, rfl⟩
  · intro Z hZ
    subst hZ
    exact (c3 (w.drew.alloc (.cells #[.int .u16 s] 28)) (heap_alloc_new w.drew _)).out.mono (fun e w' h => ⟨h.1, h.2.symm⟩)
  repeat (first
    | (apply Ry.lex_free rfl rfl; focus (intro _; go_simp; first | done | rfl))
    | (apply Ry.lex_look rfl rfl rfl rfl; focus (intro W hW; have l1 := HL.out W hW; have l2 := HS.out W hW; clear hW; go_simp; first | done | rfl)))
  refine Ry.lex_store rfl rfl (C' := (· = (w.drew.alloc (.cells #[.int .u16 s] 28)).setCell ⟨B, 2, none⟩ (.int .u32 ((M ||| Z : Nat) : Int)))) (D' := fun _ => True) (fun W hW => ⟨_, ?_, rfl⟩) (fun _ _ => ⟨trivial, trivial⟩) ?_
  focus (subst hW; have f2 := (HB.out.alloc (.cells #[.int .u16 s] 28)).free 2; have k2 := HS.out _ (HB.out.alloc (.cells #[.int .u16 s] 28)); rw [← hor]; go_simp; first | done | rfl)
  refine Ry.lex_end fun W2 hW2 => ?_
  simp only [Act.put, List.setIfInBounds_toArray, List.set_cons_succ, List.set_cons_zero]
  have B2 := Lib.hid (show Box W2 B 62 (Sr.H.cells ⟨true, la, M ||| Z⟩) from hW2 ▸ hW1.out.put 2 _)
  have O2 := Lib.hid (show Only B w W2 from hW2 ▸ (Only.of_below ((Below.refl w.heap.size w).drew.alloc (Nat.le_refl _) _)).trans (Only.set _ 2 _))
  clear hW2 hW1 HL HS HB c1 c2 c3 hk hor
  have q0 : W2.cell? ⟨B, 0, none⟩ = some (.bool true) := B2.out.cell 0
  have f0 := B2.out.free 0
  have q2 : (W2.setCell ⟨B, 0, none⟩ (.bool true)).cell? ⟨B, 1, none⟩ = some (.int .u16 la) := (B2.out.put 0 (.bool true)).cell 1
  have f2 := (B2.out.put 0 (.bool true)).free 1
  have HE := Lib.hid (show Box _ B 62 (Sr.H.cells ⟨true, s, M ||| Z⟩) from (B2.out.put 0 (.bool true)).put 1 (.int .u16 s))
  have HO := Lib.hid (O2.out.trans ((Only.set (B := B) W2 0 (.bool true)).trans (Only.set (W2.setCell ⟨B, 0, none⟩ (.bool true)) 1 (.int .u16 s))))
  go_wp2
  go_end0
  exact ⟨rfl, HE.out, HO.out⟩
end Go.Proofs.Ythojjpoadabehaa
namespace Go.Proofs.Ythojjpoadabehaa
open Go.RowKit
set_option linter.unusedVariables false

set_option maxHeartbeats 1000000 in
theorem note_one (la s : Int) (se B : Nat) (w : World) (hB : Box w B 62 (Sr.H.cells ⟨false, la, se⟩)) :
    Calls Try.prog 25 #[.pointer (some ⟨B, 0, none⟩), .int .u16 s] w fun e w' => e = .returned (.bool true) ∧ Box w' B 62 (Sr.H.cells ⟨true, s, se⟩) ∧ Only B w w' := by
  have q0 : w.cell? ⟨B, 0, none⟩ = some (.bool false) := hB.cell 0
  have cg := Lib.hid (goon_first la s se B w hB)
  clear hB
  go_enter Try.func25, Try.ntmps25
  go_wp2_with (go_at_call 32; ((with_reducible refine ((cg).out).mono ?_); rintro e w1 ⟨rfl, hb, ho⟩; have HB := Lib.hid hb; have HO := Lib.hid ho; clear hb ho))
  go_ret
  exact ⟨rfl, HB.out, HO.out⟩

set_option maxHeartbeats 1000000 in
theorem note_on (la s : Int) (se B : Nat) (hse : se < 4294967296) (hd : 0 < Sr.way la s) (w : World) (hB : Box w B 62 (Sr.H.cells ⟨true, la, se⟩)) :
    Calls Try.prog 25 #[.pointer (some ⟨B, 0, none⟩), .int .u16 s] w fun e w' => e = .returned (.bool true) ∧ Box w' B 62 (Sr.H.cells ⟨true, s, Sr.up se (Sr.way la s)⟩) ∧ Only B w w' := by
  have q0 : w.cell? ⟨B, 0, none⟩ = some (.bool true) := hB.cell 0
  have q1 : w.cell? ⟨B, 1, none⟩ = some (.int .u16 la) := hB.cell 1
  have cg := Lib.hid (goon_ahead la s se B hse hd w hB)
  have ca := fun X => Lib.hid (serahead_any s la X)
  rw [decide_eq_true hd] at ca
  clear hB hd
  generalize Sr.way la s = d at *
  generalize Sr.up se d = M at *
  go_enter Try.func25, Try.ntmps25
  go_wp2_with (first | (go_at_call 31; ((with_reducible refine ((ca _).out).mono ?_); rintro e w1 ⟨rfl, rfl⟩)) | (go_at_call 32; ((with_reducible refine ((cg).out).mono ?_); rintro e w1 ⟨rfl, hb, ho⟩; have HB := Lib.hid hb; have HO := Lib.hid ho; clear hb ho)))
  go_ret
  exact ⟨rfl, HB.out, HO.out⟩

set_option maxHeartbeats 1000000 in
theorem note_far (la s : Int) (se B : Nat) (hse : se < 4294967296) (hd : ¬ 0 < Sr.way la s) (hz : Sr.bitN (Sr.way s la) = 0) (w : World) (hB : Box w B 62 (Sr.H.cells ⟨true, la, se⟩)) :
    Calls Try.prog 25 #[.pointer (some ⟨B, 0, none⟩), .int .u16 s] w fun e w' => e = .returned (.bool false) ∧ Box w' B 62 (Sr.H.cells ⟨true, la, se⟩) ∧ Only B w w' := by
  have q0 : w.cell? ⟨B, 0, none⟩ = some (.bool true) := hB.cell 0
  have q1 : w.cell? ⟨B, 1, none⟩ = some (.int .u16 la) := hB.cell 1
  have W1 := hB.alloc (.cells #[.int .u16 la] 28)
  have q2 : (w.alloc (.cells #[.int .u16 la] 28)).cell? ⟨B, 2, none⟩ = some (.int .u32 (se : Nat)) := W1.cell 2
  have f2 := W1.free 2
  have c2 := fun X => Lib.hid (serbits_any la X)
  have c3 := Lib.hid (serbit_any la s w.heap.size (w.alloc (.cells #[.int .u16 la] 28)) (heap_alloc_new w _))
  have ca := fun X => Lib.hid (serahead_any s la X)
  rw [decide_eq_false hd] at ca
  have hand := u32_and_nat se (Sr.bitN (Sr.way s la)) hse (Sr.bitN_lt _)
  have hor := u32_or_nat se (Sr.bitN (Sr.way s la)) hse (Sr.bitN_lt _)
  have HE := Lib.hid W1
  have HO := Lib.hid (Only.of_below (B := B) (one_below w (.cells #[.int .u16 la] 28)))
  clear W1
  clear hB hd
  generalize Sr.way la s = d at *
  generalize Sr.bitN (Sr.way s la) = Z at *
  go_enter Try.func25, Try.ntmps25
  go_wp2_with (first | (go_at_call 31; ((with_reducible refine ((ca _).out).mono ?_); rintro e w1 ⟨rfl, rfl⟩)) | (go_at_call 30; ((with_reducible refine ((c2 _).out).mono ?_); rintro e w1 ⟨rfl, rfl⟩)) | (go_at_call 34; ((with_reducible refine ((c3).out).mono ?_); rintro e w1 ⟨rfl, rfl⟩)))
  all_goals
    go_ret
    exact ⟨rfl, HE.out, HO.out⟩

set_option maxHeartbeats 1000000 in
theorem note_came (la s : Int) (se B : Nat) (hse : se < 4294967296) (hd : ¬ 0 < Sr.way la s) (hz : Sr.bitN (Sr.way s la) ≠ 0) (hh : se &&& Sr.bitN (Sr.way s la) ≠ 0) (w : World) (hB : Box w B 62 (Sr.H.cells ⟨true, la, se⟩)) :
    Calls Try.prog 25 #[.pointer (some ⟨B, 0, none⟩), .int .u16 s] w fun e w' => e = .returned (.bool false) ∧ Box w' B 62 (Sr.H.cells ⟨true, la, se⟩) ∧ Only B w w' := by
  have q0 : w.cell? ⟨B, 0, none⟩ = some (.bool true) := hB.cell 0
  have q1 : w.cell? ⟨B, 1, none⟩ = some (.int .u16 la) := hB.cell 1
  have W1 := hB.alloc (.cells #[.int .u16 la] 28)
  have q2 : (w.alloc (.cells #[.int .u16 la] 28)).cell? ⟨B, 2, none⟩ = some (.int .u32 (se : Nat)) := W1.cell 2
  have f2 := W1.free 2
  have c2 := fun X => Lib.hid (serbits_any la X)
  have c3 := Lib.hid (serbit_any la s w.heap.size (w.alloc (.cells #[.int .u16 la] 28)) (heap_alloc_new w _))
  have ca := fun X => Lib.hid (serahead_any s la X)
  rw [decide_eq_false hd] at ca
  have hand := u32_and_nat se (Sr.bitN (Sr.way s la)) hse (Sr.bitN_lt _)
  have hor := u32_or_nat se (Sr.bitN (Sr.way s la)) hse (Sr.bitN_lt _)
  have HE := Lib.hid W1
  have HO := Lib.hid (Only.of_below (B := B) (one_below w (.cells #[.int .u16 la] 28)))
  have hz' : (((Sr.bitN (Sr.way s la) : Nat) : Int) == 0) = false := by simpa using hz
  have hh' : ((((se &&& Sr.bitN (Sr.way s la)) : Nat) : Int) != 0) = true := by simpa using hh
  clear W1 hz hh hor
  generalize se &&& Sr.bitN (Sr.way s la) = Y at *
  clear hB hd
  generalize Sr.way la s = d at *
  generalize Sr.bitN (Sr.way s la) = Z at *
  go_enter Try.func25, Try.ntmps25
  go_wp2_with (first | (go_at_call 31; ((with_reducible refine ((ca _).out).mono ?_); rintro e w1 ⟨rfl, rfl⟩)) | (go_at_call 30; ((with_reducible refine ((c2 _).out).mono ?_); rintro e w1 ⟨rfl, rfl⟩)) | (go_at_call 34; ((with_reducible refine ((c3).out).mono ?_); rintro e w1 ⟨rfl, rfl⟩)))
  all_goals
    go_ret
    exact ⟨rfl, HE.out, HO.out⟩

set_option maxHeartbeats 1000000 in
theorem note_late (la s : Int) (se B : Nat) (hse : se < 4294967296) (hd : ¬ 0 < Sr.way la s) (hz : Sr.bitN (Sr.way s la) ≠ 0) (hh : se &&& Sr.bitN (Sr.way s la) = 0) (w : World) (hB : Box w B 62 (Sr.H.cells ⟨true, la, se⟩)) :
    Calls Try.prog 25 #[.pointer (some ⟨B, 0, none⟩), .int .u16 s] w fun e w' => e = .returned (.bool true) ∧ Box w' B 62 (Sr.H.cells ⟨true, la, se ||| Sr.bitN (Sr.way s la)⟩) ∧ Only B w w' := by
  have q0 : w.cell? ⟨B, 0, none⟩ = some (.bool true) := hB.cell 0
  have q1 : w.cell? ⟨B, 1, none⟩ = some (.int .u16 la) := hB.cell 1
  have W1 := hB.alloc (.cells #[.int .u16 la] 28)
  have q2 : (w.alloc (.cells #[.int .u16 la] 28)).cell? ⟨B, 2, none⟩ = some (.int .u32 (se : Nat)) := W1.cell 2
  have f2 := W1.free 2
  have c2 := fun X => Lib.hid (serbits_any la X)
  have c3 := Lib.hid (serbit_any la s w.heap.size (w.alloc (.cells #[.int .u16 la] 28)) (heap_alloc_new w _))
  have ca := fun X => Lib.hid (serahead_any s la X)
  rw [decide_eq_false hd] at ca
  have hand := u32_and_nat se (Sr.bitN (Sr.way s la)) hse (Sr.bitN_lt _)
  have hor := u32_or_nat se (Sr.bitN (Sr.way s la)) hse (Sr.bitN_lt _)
  have HE := Lib.hid (show Box ((w.alloc (.cells #[.int .u16 la] 28)).setCell ⟨B, 2, none⟩ (.int .u32 ((se ||| Sr.bitN (Sr.way s la) : Nat) : Int))) B 62 (Sr.H.cells ⟨true, la, se ||| Sr.bitN (Sr.way s la)⟩) from W1.put 2 _)
  have HO := Lib.hid ((Only.of_below (B := B) (one_below w (.cells #[.int .u16 la] 28))).trans (Only.set _ 2 (.int .u32 ((se ||| Sr.bitN (Sr.way s la) : Nat) : Int))))
  have hz' : (((Sr.bitN (Sr.way s la) : Nat) : Int) == 0) = false := by simpa using hz
  have hh' : ((((se &&& Sr.bitN (Sr.way s la)) : Nat) : Int) != 0) = false := by simpa using hh
  clear W1 hz hh
  generalize se &&& Sr.bitN (Sr.way s la) = Y at *
  generalize se ||| Sr.bitN (Sr.way s la) = M at *
  clear hB hd
  generalize Sr.way la s = d at *
  generalize Sr.bitN (Sr.way s la) = Z at *
  go_enter Try.func25, Try.ntmps25
  go_wp2_with (first | (go_at_call 31; ((with_reducible refine ((ca _).out).mono ?_); rintro e w1 ⟨rfl, rfl⟩)) | (go_at_call 30; ((with_reducible refine ((c2 _).out).mono ?_); rintro e w1 ⟨rfl, rfl⟩)) | (go_at_call 34; ((with_reducible refine ((c3).out).mono ?_); rintro e w1 ⟨rfl, rfl⟩)))
  all_goals
    go_ret
    exact ⟨rfl, HE.out, HO.out⟩

/-- All the ways. -/
theorem note_any (h : Sr.H) (ho : h.Ok) (s : Int) (B : Nat) (w : World) (hB : Box w B 62 h.cells) :
    Calls Try.prog 25 #[.pointer (some ⟨B, 0, none⟩), .int .u16 s] w fun e w' => e = .returned (.bool (Sr.fresh h s)) ∧ Box w' B 62 (Sr.note h s).cells ∧ Only B w w' := by
  obtain ⟨so, la, se⟩ := h
  cases so
  · obtain ⟨e1, e2⟩ := Sr.note_first (h := ⟨false, la, se⟩) rfl s
    rw [e1, e2]
    exact note_one la s se B w hB
  · by_cases hd : 0 < Sr.way la s
    · obtain ⟨e1, e2⟩ := Sr.note_ahead (h := ⟨true, la, se⟩) rfl hd
      rw [e1, e2]
      exact note_on la s se B ho.seen hd w hB
    · by_cases hz : Sr.bitN (Sr.way s la) = 0
      · obtain ⟨e1, e2⟩ := Sr.note_old (h := ⟨true, la, se⟩) rfl hd (.inl hz)
        rw [e1, e2]
        exact note_far la s se B ho.seen hd hz w hB
      · by_cases hh : se &&& Sr.bitN (Sr.way s la) = 0
        · have hn := Sr.has_and se (Sr.way s la)
          rw [decide_eq_false (by rw [hh]; simp)] at hn
          obtain ⟨e1, e2⟩ := Sr.note_behind (h := ⟨true, la, se⟩) rfl hd hz hn.symm
          rw [e1, e2]
          exact note_late la s se B ho.seen hd hz hh w hB
        · have hn := Sr.has_and se (Sr.way s la)
          rw [decide_eq_true hh] at hn
          obtain ⟨e1, e2⟩ := Sr.note_old (h := ⟨true, la, se⟩) rfl hd (.inr hn.symm)
          rw [e1, e2]
          exact note_came la s se B ho.seen hd hz hh w hB
end Go.Proofs.Ythojjpoadabehaa
namespace Lk
open Go Go.RowKit
/-- Where the first one is of which that holds. -/
def IdxSays (p : Int → Bool) (op : List Int) (v : Int) : Prop := (v = -1 ∧ ∀ x ∈ op, p x = false) ∨ ∃ i x, v = ((i : Nat) : Int) ∧ op[i]? = some x ∧ p x = true ∧ ∀ y ∈ op.take i, p y = false
theorem idx_hit {p : Int → Bool} {op : List Int} {v : Int} {k : Nat} {x : Int} (h : IdxSays p op v) (hx : op[k]? = some x) (hp : p x = true) (hb : ∀ y ∈ op.take k, p y = false) : v = k := by
  rcases h with ⟨_, h⟩ | ⟨i, y, rfl, hy, hpy, hby⟩
  · have := h x (List.mem_of_getElem? hx)
    rw [hp] at this
    cases this
  · congr 1
    rcases Nat.lt_trichotomy i k with h | h | h
    · have : y ∈ op.take k := by
        have h2 : (op.take k)[i]? = some y := by rw [List.getElem?_take, if_pos h]; exact hy
        exact List.mem_of_getElem? h2
      have := hb y this
      rw [hpy] at this
      cases this
    · exact h
    · have : x ∈ op.take i := by
        have h2 : (op.take i)[k]? = some x := by rw [List.getElem?_take, if_pos h]; exact hx
        exact List.mem_of_getElem? h2
      have := hby x this
      rw [hp] at this
      cases this
theorem idx_none {p : Int → Bool} {op : List Int} {v : Int} (h : IdxSays p op v) (hb : ∀ y ∈ op, p y = false) : v = -1 := by
  rcases h with ⟨h, _⟩ | ⟨i, y, rfl, hy, hpy, _⟩
  · exact h
  · have := hb y (List.mem_of_getElem? hy)
    rw [hpy] at this
    cases this
theorem idx_all (p : Int → Bool) : ∀ (op : List Int), (∀ x ∈ op, p x = false) ∨ ∃ i x, op[i]? = some x ∧ p x = true ∧ ∀ y ∈ op.take i, p y = false
  | [] => .inl fun x hx => absurd hx List.not_mem_nil
  | z :: r => by
    cases hz : p z
    · rcases idx_all p r with h | ⟨i, x, hi, hx, hb⟩
      · exact .inl fun x hx => (List.mem_cons.1 hx).elim (fun e => e ▸ hz) (h x)
      · exact .inr ⟨i + 1, x, hi, hx, fun y hy => (List.mem_cons.1 (show y ∈ z :: r.take i from hy)).elim (fun e => e ▸ hz) (hb y)⟩
    · exact .inr ⟨0, z, rfl, hz, fun y hy => absurd hy List.not_mem_nil⟩
theorem take_next {p : Int → Bool} {op : List Int} {k : Nat} {x : Int} (hx : op[k]? = some x) (hp : p x = false) (hb : ∀ y ∈ op.take k, p y = false) : ∀ y ∈ op.take (k + 1), p y = false := fun y hy => by
  rw [List.take_add_one, hx] at hy
  rcases List.mem_append.1 hy with h | h
  · exact hb y h
  · obtain rfl := List.mem_singleton.1 h; exact hp
end Lk
namespace Go.Proofs.Ythojjpoadabehaa
open Go.RowKit
set_option linter.unusedVariables false
set_option linter.unusedSimpArgs false
section
variable {w : World} {b n c : Nat} {A : Option Addr} {xs : List Value}
theorem Que.some_ (h : Que w b A n c xs) (hn : 0 < n) : ∃ g off cells, A = some ⟨g, off, none⟩ ∧ b ≤ g ∧ Box w g 28 cells ∧ off + c ≤ cells.size ∧ ∀ j, j < n → cells[off + j]? = xs[j]? := by
  rcases h.at_ with ⟨_, h0, _⟩ | h
  · omega
  · exact h
theorem Que.set {g off : Nat} (h : Que w b (some ⟨g, off, none⟩) n c xs) (i : Nat) (hi : i < n) (u : Value) : Que (w.setCell ⟨g, off + i, none⟩ u) b (some ⟨g, off, none⟩) n c (xs.set i u) := by
  obtain ⟨g', off', cells, e, hb, hB, hsz, hat⟩ := h.some_ (by omega)
  injection e with e; injection e with e1 e2 _; subst e1 e2
  have hl := h.le
  refine ⟨by rw [List.length_set]; exact h.len, hl, h.max, .inr ⟨g, off, _, rfl, hb, hB.put (off + i) u, by rw [Array.size_setIfInBounds]; exact hsz, fun j hj => ?_⟩⟩
  by_cases hij : i = j
  · subst hij
    rw [Array.getElem?_setIfInBounds_self_of_lt (by omega), List.getElem?_set_self (by rw [h.len]; exact hi)]
  · rw [Array.getElem?_setIfInBounds_ne (by omega), List.getElem?_set_ne hij, hat j hj]
theorem Que.take_ (h : Que w b A n c xs) (m : Nat) (hm : m ≤ n) : Que w b A m c (xs.take m) := by
  have hl := h.le
  refine ⟨by rw [List.length_take, h.len]; omega, by omega, h.max, ?_⟩
  rcases h.at_ with ⟨h1, h2, h3⟩ | ⟨g, off, cells, h1, h2, h3, h4, h5⟩
  · exact .inl ⟨h1, by omega, h3⟩
  · exact .inr ⟨g, off, cells, h1, h2, h3, h4, fun j hj => by rw [List.getElem?_take, if_pos hj]; exact h5 j (by omega)⟩
/-- Cells that lie behind what counts are of no account. -/
theorem Que.behind {g off : Nat} : ∀ (vs : List Value) (i : Nat) {w : World} (h : Que w b (some ⟨g, off, none⟩) n c xs) (hi : n ≤ i), Que (w.setCells g (off + i) vs) b (some ⟨g, off, none⟩) n c xs
  | [], i, w, h, hi => h
  | v :: r, i, w, h, hi => by
    refine Que.behind r (i + 1) (w := w.setCell ⟨g, off + i, none⟩ v) ?_ (by omega)
    obtain ⟨g', off', cells, e, hb, hB, hsz, hat⟩ := h.at_.resolve_left (by rintro ⟨h0, _⟩; cases h0)
    injection e with e; injection e with e1 e2 _; subst e1 e2
    exact ⟨h.len, h.le, h.max, .inr ⟨g, off, _, rfl, hb, hB.put (off + i) v, by rw [Array.size_setIfInBounds]; exact hsz, fun j hj => by rw [Array.getElem?_setIfInBounds_ne (by omega), hat j hj]⟩⟩
end
theorem KeepL.puts {F : Nat → Prop} {X : World} {B : Nat} (hF : F B ∨ X.heap.size ≤ B) : ∀ (vs : List Value) (o : Nat) {X' : World} (h : KeepL F X X'), KeepL F X (X'.setCells B o vs)
  | [], _, _, h => h
  | v :: r, o, X', h => KeepL.puts hF r (o + 1) (h.put hF o v)
set_option maxHeartbeats 400000 in
theorem hearcl_any (x ack : Int) (seen : Nat) (hn : seen < 4294967296) (B8 B9 : Nat) (X : World) (h8 : X.cell? ⟨B8, 0, none⟩ = some (.int .u16 ack)) (h9 : X.cell? ⟨B9, 0, none⟩ = some (.int .u32 (seen : Nat))) :
    Calls Try.prog 23 #[.int .u16 x, .pointer (some ⟨B8, 0, none⟩), .pointer (some ⟨B9, 0, none⟩)] X fun e X' => e = .returned (.bool (Sr.told x ack seen)) ∧ Below X.heap.size X X' := by
  have c1 := Lib.hid (sertold_any x ack seen hn X)
  generalize Sr.told x ack seen = T at *
  go_enter Try.func23, Try.ntmps23
  go_wp2_with (go_at_call 24; ((with_reducible refine ((c1).out).mono ?_); rintro e w1 ⟨rfl, hb⟩; have HB := Lib.hid hb; clear hb))
  go_ret
  exact ⟨rfl, HB.out⟩
set_option maxRecDepth 100000 in
set_option maxHeartbeats 2000000 in
theorem idxf_any (b c : Nat) (A : Option Addr) (op : List Int) (ack : Int) (seen : Nat) (hn : seen < 4294967296) (B8 B9 : Nat) (v : Int) (hv : Lk.IdxSays (fun x => Sr.told x ack seen) op v) (hfew : op.length ≤ 64) (X : World) (hQ : Que X b A op.length c (Lk.u16s op))
    (h8 : Box X B8 28 #[.int .u16 ack]) (h9 : Box X B9 29 #[.int .u32 (seen : Nat)]) :
    Calls Try.prog 29 #[.slice A op.length c, .func (.func 23) #[] #[.pointer (some ⟨B8, 0, none⟩), .pointer (some ⟨B9, 0, none⟩)]] X fun e X' => e = .returned (.int .i64 v) ∧ Below X.heap.size X X' := by
  have HV := Lib.hid hv
  have HQ := Lib.hid hQ
  have H8 := Lib.hid h8
  have H9 := Lib.hid h9
  have ct := fun x X' h8 h9 => Lib.hid (hearcl_any x ack seen hn B8 B9 X' h8 h9)
  clear hv hQ h8 h9
  go_enter Try.func29, Try.ntmps29
  go_wp2_with fail
  go_loopw [5, 8] (fun _ i wr => ∃ k : Nat, k ≤ op.length ∧ i = .int .i64 k ∧ Below X.heap.size X wr ∧ ∀ y ∈ op.take k, Sr.told y ack seen = false) (fun _ i _ => op.length - (intOf i).toNat)
  case atStart => exact ⟨0, Nat.zero_le _, rfl, Below.refl _ _, fun y hy => absurd hy List.not_mem_nil⟩
  case round =>
    obtain ⟨k, hk, rfl, hW, hbf⟩ := hrel
    have HW := Lib.hid hW
    have HBF := Lib.hid hbf
    clear hbf hW
    by_cases hlt : k < op.length
    · have hlti : (k : Int) < op.length := by omega
      obtain ⟨g, off, cells, rfl, hbg, hG, hsz, hat⟩ := (HQ.out.below HW.out).some_ (by omega)
      have hx : op[k]? = some op[k] := List.getElem?_eq_getElem hlt
      have kx : wr.cell? ⟨g, off + k, none⟩ = some (.int .u16 op[k]) := by
        rw [hG.cell, hat k hlt]
        unfold Lk.u16s
        rw [List.getElem?_map, hx]
        rfl
      have k8 : wr.cell? ⟨B8, 0, none⟩ = some (.int .u16 ack) := (H8.out.below HW.out H8.out.lt).cell 0
      have k9 : wr.cell? ⟨B9, 0, none⟩ = some (.int .u32 (seen : Nat)) := (H9.out.below HW.out H9.out.lt).cell 0
      have HX := Lib.hid hx
      clear hG hsz hat hx
      have hct := ct op[k] wr k8 k9
      generalize op[k] = x at *
      cases htd : Sr.told x ack seen
      · rw [htd] at hct
        have HT := Lib.hid htd
        clear htd
        go_wp2_with (go_at_call 23; ((with_reducible refine ((hct).out).mono ?_); rintro e w5 ⟨rfl, hb5⟩; have HB5 := Lib.hid hb5; clear hb5))
        go_roundw
        case rel => exact ⟨k + 1, by omega, by go_num, HW.out.trans (HB5.out.mono HW.out.size), Lk.take_next HX.out HT.out HBF.out⟩
        case measure => simp [intOf]; omega
      · rw [htd] at hct
        have HT := Lib.hid htd
        clear htd
        go_wp2_with (go_at_call 23; ((with_reducible refine ((hct).out).mono ?_); rintro e w5 ⟨rfl, hb5⟩; have HB5 := Lib.hid hb5; clear hb5))
        go_ret
        exact ⟨by rw [Lk.idx_hit HV.out HX.out HT.out HBF.out]; rfl, HW.out.trans (HB5.out.mono HW.out.size)⟩
    · obtain rfl : k = op.length := by omega
      have hlti : ¬ (op.length : Int) < op.length := by omega
      go_wp2_with fail
      go_ret
      exact ⟨by rw [Lk.idx_none HV.out (fun y hy => HBF.out y (by rw [List.take_length]; exact hy))]; rfl, HW.out⟩
end Go.Proofs.Ythojjpoadabehaa
namespace Go.Proofs.Ythojjpoadabehaa
open Go.RowKit
set_option linter.unusedVariables false
set_option linter.unusedSimpArgs false
/-- A row in which so many were gone over: what is left of them stands in front, the others stand where they stood. -/
structure Lk.Gone (op : List Int) (ack : Int) (seen j : Nat) (L : List Int) : Prop where
  len : L.length = op.length
  le : j ≤ op.length
  lt : (left op ack seen j).length < j
  front : ∀ k, k < (left op ack seen j).length → L[k]? = (left op ack seen j)[k]?
  rest : ∀ k, j ≤ k → L[k]? = op[k]?
theorem Lk.Gone.start {op : List Int} {ack : Int} {seen i : Nat} {x : Int} (hx : op[i]? = some x) (hp : Sr.told x ack seen = true) (hb : ∀ y ∈ op.take i, Sr.told y ack seen = false) : Gone op ack seen (i + 1) op ∧ (left op ack seen (i + 1)).length = i := by
  have hi : i < op.length := (List.getElem?_eq_some_iff.1 hx).1
  have e : left op ack seen (i + 1) = op.take i := by
    rw [left_succ op ack seen i x hx, hp]
    simp only [if_true, List.append_nil]
    unfold left
    rw [List.filter_eq_self]
    intro y hy
    rw [hb y hy]; rfl
  have hl : (left op ack seen (i + 1)).length = i := by rw [e, List.length_take]; omega
  refine ⟨⟨rfl, hi, by omega, fun k hk => ?_, fun _ _ => rfl⟩, hl⟩
  rw [e, List.getElem?_take, if_pos (by omega)]
theorem Lk.Gone.on {op L : List Int} {ack : Int} {seen j : Nat} {x : Int} (h : Gone op ack seen j L) (hx : op[j]? = some x) (hp : Sr.told x ack seen = true) : Gone op ack seen (j + 1) L ∧ (left op ack seen (j + 1)).length = (left op ack seen j).length := by
  have hi : j < op.length := (List.getElem?_eq_some_iff.1 hx).1
  have e : left op ack seen (j + 1) = left op ack seen j := by rw [left_succ op ack seen j x hx, hp]; exact List.append_nil _
  have hl := h.lt
  exact ⟨⟨h.len, hi, by rw [e]; omega, by rw [e]; exact h.front, fun k hk => h.rest k (by omega)⟩, by rw [e]⟩
theorem Lk.Gone.keep {op L : List Int} {ack : Int} {seen j : Nat} {x : Int} (h : Gone op ack seen j L) (hx : op[j]? = some x) (hp : Sr.told x ack seen = false) : Gone op ack seen (j + 1) (L.set (left op ack seen j).length x) ∧ (left op ack seen (j + 1)).length = (left op ack seen j).length + 1 := by
  have hi : j < op.length := (List.getElem?_eq_some_iff.1 hx).1
  have e : left op ack seen (j + 1) = left op ack seen j ++ [x] := by rw [left_succ op ack seen j x hx, hp]; rfl
  have hl := h.lt
  have hll := h.len
  refine ⟨⟨by rw [List.length_set]; exact h.len, hi, by rw [e, List.length_append]; show _ + 1 < _; omega, fun k hk => ?_, fun k hk => ?_⟩, by rw [e, List.length_append]; rfl⟩
  · rw [e, List.length_append] at hk
    have hk' : k < (left op ack seen j).length + 1 := hk
    rw [e]
    by_cases hkl : k < (left op ack seen j).length
    · rw [List.getElem?_set_ne (by omega), List.getElem?_append_left hkl]; exact h.front k hkl
    · obtain rfl : k = (left op ack seen j).length := by omega
      rw [List.getElem?_set_self (by omega), List.getElem?_append_right (Nat.le_refl _), Nat.sub_self]; rfl
  · rw [List.getElem?_set_ne (by omega)]; exact h.rest k (by omega)
theorem Lk.Gone.done {op L : List Int} {ack : Int} {seen : Nat} (h : Gone op ack seen op.length L) : L.take (left op ack seen op.length).length = op.filter fun x => !Sr.told x ack seen := by
  rw [← left_all]
  have hl := h.lt
  have hll := h.len
  refine List.ext_getElem? fun k => ?_
  rw [List.getElem?_take]
  split
  · rename_i hk; exact h.front k hk
  · rename_i hk; rw [List.getElem?_eq_none (by omega)]
theorem u16s_get {l : List Int} {k : Nat} {x : Int} (h : l[k]? = some x) : (Lk.u16s l)[k]? = some (.int .u16 x) := by
  unfold Lk.u16s
  rw [List.getElem?_map, h]
  rfl
theorem u16s_set (l : List Int) (i : Nat) (x : Int) : Lk.u16s (l.set i x) = (Lk.u16s l).set i (.int .u16 x) := by
  unfold Lk.u16s
  exact List.map_set
theorem u16s_take (l : List Int) (i : Nat) : Lk.u16s (l.take i) = (Lk.u16s l).take i := by
  unfold Lk.u16s
  exact List.map_take
theorem u16_zero (w : World) : (zeroValue 28).run Try.prog w = .ok (.int .u16 0) w := by
  obtain ⟨i, hi, hz, hs, hby⟩ := info_parts u16_infoQ
  simp [zeroValue, typeInfo, hi, hz]
/-- clear of the end of such a row. -/
theorem Que.clear_ {w : World} {b n c g off : Nat} {xs : List Value} (h : Que w b (some ⟨g, off, none⟩) n c xs) (i : Nat) (hi : i < n) (ty : TypeId) :
    (Builtin.clear_ #[38] ty #[.slice (some ⟨g, off + i, none⟩) (n - i) (c - i)]).run Try.prog w = .ok (.tuple #[]) (w.setCells g (off + i) (List.replicate (n - i) (.int .u16 0))) := by
  obtain ⟨g', off', cells, e, hb, hB, hsz, hat⟩ := h.some_ (by omega)
  injection e with e; injection e with e1 e2 _; subst e1 e2
  have hl := h.le
  exact Lib.run_clear_slice (P := Try.prog) w 38 28 ty (.int .u16 0) Try.underlying38 u16_zero rfl rfl g (off + i) (n - i) (c - i) (by omega)
    (fun j hj => by rw [hB.cell, Array.getElem?_eq_getElem (by omega)]; rfl) (fun j hj => hB.free _)
set_option maxRecDepth 100000 in
set_option maxHeartbeats 4000000 in
theorem delfunc_any (b c : Nat) (A : Option Addr) (op : List Int) (ack : Int) (seen : Nat) (hn : seen < 4294967296) (B8 B9 : Nat) (hfew : op.length ≤ 64) (X : World) (hQ : Que X b A op.length c (Lk.u16s op))
    (h8 : Box X B8 28 #[.int .u16 ack]) (h9 : Box X B9 29 #[.int .u32 (seen : Nat)]) (hd : ∀ g, A.map (·.block) = some g → g ≠ B8) :
    Calls Try.prog 22 #[.slice A op.length c, .func (.func 23) #[] #[.pointer (some ⟨B8, 0, none⟩), .pointer (some ⟨B9, 0, none⟩)]] X fun e X' =>
      ∃ m, e = .returned (.slice A m c) ∧ Que X' b A m c (Lk.u16s (op.filter fun x => !Sr.told x ack seen)) ∧ KeepL (fun k => A.map (·.block) = some k) X X' := by
  have HQ := Lib.hid hQ
  have H8 := Lib.hid h8
  have H9 := Lib.hid h9
  have ci := fun v hv => Lib.hid (idxf_any b c A op ack seen hn B8 B9 v hv hfew X hQ h8 h9)
  have ct := fun x X' h8 h9 => Lib.hid (hearcl_any x ack seen hn B8 B9 X' h8 h9)
  rcases Lk.idx_all (fun x => Sr.told x ack seen) op with hall | ⟨i0, x0, hi0, hx0, hb0⟩
  · have ci := ci (-1) (.inl ⟨rfl, hall⟩)
    have HF := Lib.hid (show (op.filter fun x => !Sr.told x ack seen) = op by
      rw [List.filter_eq_self]
      intro y hy
      rw [show Sr.told y ack seen = false from hall y hy]; rfl)
    clear hall ct hQ h8 h9 hd
    go_enter Try.func22, Try.ntmps22
    go_wp2_with (go_at_call 29; ((with_reducible refine ((ci).out).mono ?_); rintro e w1 ⟨rfl, hb⟩; have HB := Lib.hid hb; clear hb))
    go_ret
    exact ⟨_, rfl, by rw [HF.out]; exact HQ.out.below HB.out, (KeepL.refl _ X).call HB.out⟩
  · have ci := ci i0 (.inr ⟨i0, x0, rfl, hi0, hx0, hb0⟩)
    have hlt0 : i0 < op.length := (List.getElem?_eq_some_iff.1 hi0).1
    obtain ⟨g, off, cells0, rfl, hbg, hG0, _, _⟩ := hQ.some_ (by omega)
    have hg8 : g ≠ B8 := hd g rfl
    have hg9 : g ≠ B9 := Box.apart hG0 h9 (by decide)
    obtain ⟨hg1, hg2⟩ := Lk.Gone.start hi0 hx0 hb0
    have HG1 := Lib.hid hg1
    have HG2 := Lib.hid hg2
    have hcle := hQ.le
    have hni : ((i0 : Int) == -1) = false := beq_eq_false_iff_ne.2 (by omega)
    clear hQ h8 h9 hd hG0 hb0 hx0 hi0 hg1 hg2
    go_enter Try.func22, Try.ntmps22
    go_wp2_with (go_at_call 29; ((with_reducible refine ((ci).out).mono ?_); rintro e w1 ⟨rfl, hb⟩; have HB := Lib.hid hb; clear hb))
    go_loopw [5, 6, 7] (fun s5 s6 _ wr => ∃ (i j : Nat) (L : List Int), s5 = .int .i64 i ∧ s6 = .int .i64 j ∧ i = (Lk.left op ack seen j).length ∧ Lk.Gone op ack seen j L ∧ Que wr b (some ⟨g, off, none⟩) op.length c (Lk.u16s L) ∧ KeepL (fun k => k = g) X wr) (fun _ i _ _ => op.length - (intOf i).toNat)
    case atStart => exact ⟨i0, i0 + 1, op, rfl, by go_num, HG2.out.symm, HG1.out, HQ.out.below HB.out, (KeepL.refl _ X).call HB.out⟩
    case round =>
      obtain ⟨i, j, L, rfl, rfl, hi, hG, hQ, hK⟩ := hrel
      have HI := Lib.hid hi
      have hij := hG.lt
      rw [← hi] at hij
      have hjl := hG.le
      have HGo := Lib.hid hG
      have HQr := Lib.hid hQ
      have HK := Lib.hid hK
      obtain ⟨g', off', cells, e, _, hB, hsz, hat⟩ := hQ.some_ (by omega)
      injection e with e; injection e with e1 e2 _; subst e1 e2
      by_cases hlt : j < op.length
      · have hlti : (j : Int) < op.length := by omega
        have hx : op[j]? = some op[j] := List.getElem?_eq_getElem hlt
        have HX := Lib.hid hx
        have kx : wr.cell? ⟨g, off + j, none⟩ = some (.int .u16 op[j]) := by
          rw [hB.cell, hat j hlt]
          exact u16s_get (by rw [hG.rest j (Nat.le_refl _)]; exact hx)
        have k8 : wr.cell? ⟨B8, 0, none⟩ = some (.int .u16 ack) := (show Box wr B8 _ _ from ⟨(hK.block B8 H8.out.lt (fun e => hg8 e.symm)).trans H8.out.is⟩).cell 0
        have k9 : wr.cell? ⟨B9, 0, none⟩ = some (.int .u32 (seen : Nat)) := (show Box wr B9 _ _ from ⟨(hK.block B9 H9.out.lt (fun e => hg9 e.symm)).trans H9.out.is⟩).cell 0
        obtain ⟨old, hold⟩ : ∃ old, cells[off + i]? = some old := ⟨_, Array.getElem?_eq_getElem (by omega)⟩
        have hct := ct op[j] wr k8 k9
        have HB1 := Lib.hid hB
        have HO := Lib.hid hold
        clear hB hat hsz hK hQ hG hx hi hold k8 k9
        generalize op[j] = x at *
        cases htd : Sr.told x ack seen
        · rw [htd] at hct
          obtain ⟨n1, n2⟩ := HGo.out.keep HX.out htd
          have N1 := Lib.hid n1
          have N2 := Lib.hid n2
          clear htd n1 n2
          go_wp2_with (go_at_call 23; ((with_reducible refine ((hct).out).mono ?_); rintro e w5 ⟨rfl, hb5⟩; have B5 := Lib.hid (HB1.out.below hb5 HB1.out.lt); have Q5 := Lib.hid (HQr.out.below hb5); have K5 := Lib.hid (HK.out.call hb5); clear hb5; have c5 := (B5.out.cell (off + i)).trans HO.out; have f5 := B5.out.free (off + i); have l5 := B5.out.lt))
          go_roundw
          case rel => exact ⟨i + 1, j + 1, L.set i x, by go_num, by go_num, by rw [N2.out, HI.out], by rw [HI.out]; exact N1.out, by rw [u16s_set]; exact Q5.out.set i (by omega) _, K5.out.put (.inl rfl) _ _⟩
          case measure => simp [intOf]; omega
        · rw [htd] at hct
          obtain ⟨n1, n2⟩ := HGo.out.on HX.out htd
          have N1 := Lib.hid n1
          have N2 := Lib.hid n2
          clear htd n1 n2
          go_wp2_with (go_at_call 23; ((with_reducible refine ((hct).out).mono ?_); rintro e w5 ⟨rfl, hb5⟩; have Q5 := Lib.hid (HQr.out.below hb5); have K5 := Lib.hid (HK.out.call hb5); clear hb5))
          go_roundw
          case rel => exact ⟨i, j + 1, L, rfl, by go_num, by rw [N2.out, HI.out], N1.out, Q5.out, K5.out⟩
          case measure => simp [intOf]; omega
      · obtain rfl : j = op.length := by omega
        have hlti : ¬ (op.length : Int) < op.length := by omega
        have hcl := fun ty => hQ.clear_ i hij ty
        clear hB hat hsz hK hQ hG hi
        go_wp2_with fail
        go_ret
        refine ⟨i, rfl, ?_, ?_⟩
        · rw [← HGo.out.done, ← HI.out, u16s_take]
          exact ((HQr.out.take_ i (by omega)).behind _ i (Nat.le_refl _))
        · have h1 := KeepL.puts (F := fun k => k = g) (X := X) (B := g) (.inl rfl) (List.replicate (op.length - i) (.int .u16 0)) (off + i) HK.out
          exact ⟨h1.os, h1.tape, h1.output, h1.size, fun k hk hne => h1.block k hk fun e => hne (by rw [e])⟩
end Go.Proofs.Ythojjpoadabehaa
namespace Lk
open Go Go.RowKit
def pcells (ser : Int) (s : Value) (H : Nat) (t : Int) : Array Value := #[.int .u16 ser, s, .pointer (some ⟨H, 0, none⟩), .int .i64 t]
end Lk
namespace Go.Proofs.Ythojjpoadabehaa
open Go.RowKit
set_option linter.unusedVariables false
set_option linter.unusedSimpArgs false
/-- The program's link lies there; F are its blocks. -/
structure PrgL (b : Nat) (F : Nat → Prop) (B : Nat) (m : Lk.M) (X : World) : Prop where
  box : ∃ A c H, Box X B 53 (Lk.pcells m.ser (.slice A m.op.length c) H m.at_) ∧ Box X H 62 m.h.cells ∧ Que X b A m.op.length c (Lk.u16s m.op) ∧ (∀ g, A.map (·.block) = some g → F g) ∧ F H
  own : F B
  up : ∀ k, F k → b ≤ k ∧ k < X.heap.size
theorem PrgL.keep {b B : Nat} {F G : Nat → Prop} {m : Lk.M} {X X' : World} (h : PrgL b F B m X) (k : KeepL G X X') (hd : ∀ j, F j → ¬ G j) : PrgL b F B m X' := by
  obtain ⟨A, c, H, hB, hH, hQ, hA, hF⟩ := h.box
  refine ⟨⟨A, c, H, ⟨(k.block B hB.lt (hd B h.own)).trans hB.is⟩, ⟨(k.block H hH.lt (hd H hF)).trans hH.is⟩, hQ.keep fun g cs hg hb => ⟨(k.block g hb.lt (hd g (hA g hg))).trans hb.is⟩, hA, hF⟩, h.own, fun j hj => ⟨(h.up j hj).1, Nat.lt_of_lt_of_le (h.up j hj).2 k.size⟩⟩
theorem link_built (H : Nat) (now : Int) : Try.prog.built 53 [(2, .pointer (some ⟨H, 0, none⟩)), (3, .int .i64 now)] = some (Lk.pcells 0 (.slice none 0 0) H now) := by kernel_rfl
set_option maxHeartbeats 1000000 in
theorem lknew_any (b : Nat) (now : Int) (X : World) (hb : b ≤ X.heap.size) :
    Calls Try.prog 7 #[.int .i64 now] X fun e X' => ∃ B F, e = .returned (.pointer (some ⟨B, 0, none⟩)) ∧ PrgL b F B (Lk.new now) X' ∧ Below X.heap.size X X' ∧ ∀ k, F k → X.heap.size ≤ k := by
  have hbu := link_built X.heap.size now
  have cn := Lib.hid (sernew_any X)
  have R := Lib.hid (show PrgL b (fun k => k = X.heap.size ∨ k = X.heap.size + 1) (X.heap.size + 1) (Lk.new now) ((X.alloc (.cells Sr.none.cells 62)).alloc (.cells (Lk.pcells 0 (.slice none 0 0) X.heap.size now) 53)) from
    ⟨⟨none, 0, X.heap.size, by
        have := Box.made (X.alloc (.cells Sr.none.cells 62)) 53 (Lk.pcells 0 (.slice none 0 0) X.heap.size now)
        rwa [show (X.alloc (.cells Sr.none.cells 62)).heap.size = X.heap.size + 1 by simp] at this,
      (Box.made X 62 Sr.none.cells).alloc _, Que.nil _ _, (fun g hg => by cases hg), .inl rfl⟩, .inr rfl, fun k hk => by rcases hk with rfl | rfl <;> simp <;> omega⟩)
  have K := Lib.hid (show Below X.heap.size X ((X.alloc (.cells Sr.none.cells 62)).alloc (.cells (Lk.pcells 0 (.slice none 0 0) X.heap.size now) 53)) from
    (one_below X _).trans ((one_below _ _).mono (by simp)))
  go_enter Try.func7, Try.ntmps7
  go_wp2_with (first | (go_at_call 18; ((with_reducible refine ((cn).out).mono ?_); rintro e w1 ⟨rfl, rfl⟩)) | (refine wpList_build_is rfl (t := 53) (vs := [(2, .pointer (some ⟨X.heap.size, 0, none⟩)), (3, .int .i64 now)]) rfl rfl hbu ?_))
  go_ret
  exact ⟨X.heap.size + 1, _, rfl, R.out, K.out, fun k hk => by rcases hk with rfl | rfl <;> omega⟩
set_option maxHeartbeats 1000000 in
theorem lkstamp_nil (X : World) : Calls Try.prog 10 #[.pointer none] X fun e X' => e = .returned (.tuple #[.int .u16 0, .int .u16 0, .int .u32 0]) ∧ Below X.heap.size X X' := by
  go_enter Try.func10, Try.ntmps10
  go_wp2
  go_ret3
  exact ⟨rfl, Below.refl _ _⟩
set_option maxHeartbeats 1000000 in
theorem lkhear_nil (now s ack seen : Int) (X : World) : Calls Try.prog 12 #[.pointer none, .int .i64 now, .int .u16 s, .int .u16 ack, .int .u32 seen] X fun e X' => e = .returned (.bool false) ∧ Below X.heap.size X X' := by
  have K := Lib.hid (show Below X.heap.size X ((X.alloc (.cells #[.int .u16 ack] 28)).alloc (.cells #[.int .u32 seen] 29)) from
    (one_below X _).trans ((one_below _ _).mono (by simp)))
  go_enter Try.func12, Try.ntmps12
  go_wp2
  go_ret
  exact ⟨rfl, K.out⟩
set_option maxHeartbeats 1000000 in
theorem lkquiet_nil (now : Int) (X : World) : Calls Try.prog 14 #[.pointer none, .int .i64 now] X fun e X' => e = .returned (.int .i64 0) ∧ Below X.heap.size X X' := by
  go_enter Try.func14, Try.ntmps14
  go_wp2
  go_ret
  exact ⟨rfl, Below.refl _ _⟩
set_option maxHeartbeats 1000000 in
theorem lkopen_nil (X : World) : Calls Try.prog 17 #[.pointer none] X fun e X' => ∃ A c, e = .returned (.slice A 0 c) ∧ Below X.heap.size X X' := by
  go_enter Try.func17, Try.ntmps17
  go_wp2
  go_ret
  exact ⟨none, 0, rfl, Below.refl _ _⟩
theorem u64_gap (now t : Int) (hn : -9223372036854775808 ≤ now ∧ now ≤ 9223372036854775807) (ht : -9223372036854775808 ≤ t ∧ t ≤ 9223372036854775807) (h : ¬ now ≤ t) (hg : now - t ≤ 9223372036854775807) :
    IntKind.u64.wrap (IntKind.u64.wrap now - IntKind.u64.wrap t) = now - t := by
  rw [IntKind.wrap_u64, IntKind.wrap_u64, IntKind.wrap_u64]
  omega
set_option maxHeartbeats 1000000 in
theorem lkquiet_any (b : Nat) (F : Nat → Prop) (B : Nat) (m : Lk.M) (ho : m.Ok) (now : Int) (hn : -9223372036854775808 ≤ now ∧ now ≤ 9223372036854775807) (hg : now - m.at_ ≤ 9223372036854775807) (X : World) (h : PrgL b F B m X) :
    Calls Try.prog 14 #[.pointer (some ⟨B, 0, none⟩), .int .i64 now] X fun e X' => e = .returned (.int .i64 (max 0 (now - m.at_))) ∧ Below X.heap.size X X' := by
  obtain ⟨A, c, H, hB, _⟩ := h.box
  have k3 : X.cell? ⟨B, 3, none⟩ = some (.int .i64 m.at_) := hB.cell 3
  have hat := ho.at_
  generalize m.at_ = t at *
  clear hB h ho
  by_cases hle : now ≤ t
  · have hm : max 0 (now - t) = 0 := by omega
    rw [hm]
    clear hm hg
    go_enter Try.func14, Try.ntmps14
    go_wp2
    go_ret
    exact ⟨rfl, Below.refl _ _⟩
  · have hm : max 0 (now - t) = now - t := by omega
    have hgap := u64_gap now t hn hat hle hg
    rw [hm]
    have hd0 : 0 < now - t := by omega
    generalize now - t = d at *
    have hmin : ¬ (9223372036854775807 : Int) < d := by omega
    have hdd : (if d < 9223372036854775807 then d else 9223372036854775807) = d := by split <;> omega
    have hwd : IntKind.i64.wrap d = d := by rw [IntKind.wrap_i64]; omega
    clear hm hat
    go_enter Try.func14, Try.ntmps14
    go_wp2
    all_goals
      go_ret
      exact ⟨ret_int (by first | rfl | exact hwd | omega), Below.refl _ _⟩
set_option maxHeartbeats 1000000 in
theorem clone_any (b n c : Nat) (A : Option Addr) (xs : List Value) (h1 : ∀ u ∈ xs, u.oneCell' = true) (hn : n ≤ 1000) (X : World) (h : Que X b A n c xs) :
    Calls Try.prog 28 #[.slice A n c] X fun e X' => ∃ A' c', e = .returned (.slice A' n c') ∧ Lies X' X'.heap.size 1 A' n xs ∧ Below X.heap.size X X' := by
  obtain ⟨i, hi, hz, hs, hby⟩ := info_parts u16_infoQ
  have hl := h.len
  have q22 : ∀ (w : World) (a : Option Addr) (n c n' c' : Nat), (binOp .eql 38 (.slice a n c) (.slice none n' c')).run Try.prog w = .ok (.bool a.isNone) w := fun w a n c n' c' => Lib.run_eql_slice_nil w _ _ a n c n' c' Try.underlying38
  rcases h.at_ with ⟨rfl, h0, rfl⟩ | ⟨g, off, cells, rfl, hb, hB, hsz, hat⟩
  · subst h0
    obtain rfl : xs = [] := List.eq_nil_of_length_eq_zero hl
    clear hl h
    go_enter Try.func28, Try.ntmps28
    go_wp2
    go_ret
    exact ⟨none, 0, rfl, Lies.empty, Below.refl _ _⟩
  · have hc := Lib.hid (show ∀ (j : Nat) (u : Value), xs[j]? = some u → (X.alloc (.cells #[] 28)).cell? (Addr.add ⟨g, off, none⟩ j) = some u from fun j u hj => by
      have hjn : j < n := by have := (List.getElem?_eq_some_iff.1 hj).1; omega
      rw [Addr.add_lit, (hB.alloc _).cell, hat j hjn]
      exact hj)
    have H1 := Lib.hid h1
    have HL := Lib.hid (show xs.length = n * 1 by omega)
    clear hB hat hsz h hl h1 hb
    go_enter Try.func28, Try.ntmps28
    go_wp2_with (at_builtin; refine wpList_append_own _ rfl _ _ 38 rfl X.heap.size 28 i (.int .u16 0) 1 2 Try.underlying38 hi hz hs hby rfl (by decide) _ _ _ rfl (World.ownsRow_made X #[] 0 (Nat.le_refl _) (Nat.zero_le _) (by simp)) ⟨g, off, none⟩ n c xs rfl HL.out hc.out H1.out (by unfold maxLen; omega) (by omega) (by simp) ?_; intro v' w1 hown hgrow hnil; have HO := Lib.hid hown; have HG := Lib.hid hgrow; clear hown hgrow hnil)
    go_ret
    obtain ⟨A', c', hv'⟩ := owned_slice HO.out
    rw [Nat.zero_add] at hv'
    have hq := Que.owned (by rw [← hv', ← Nat.zero_add n]; exact HO.out)
    refine ⟨A', c', by rw [← hv']; rfl, by simpa using hq.lies, ?_⟩
    exact ((Below.refl _ X).alloc (Nat.le_refl _) _).grown HG.out (by simp) (fun k hk => by have hk' : some X.heap.size = some k := hk; injection hk' with e; omega)
set_option maxHeartbeats 1000000 in
theorem lkopen_any (b : Nat) (F : Nat → Prop) (B : Nat) (m : Lk.M) (ho : m.Ok) (X : World) (h : PrgL b F B m X) :
    Calls Try.prog 17 #[.pointer (some ⟨B, 0, none⟩)] X fun e X' => ∃ A c, e = .returned (.slice A m.op.length c) ∧ Lies X' X'.heap.size 1 A m.op.length (Lk.u16s m.op) ∧ Below X.heap.size X X' := by
  obtain ⟨A, c, H, hB, hH, hQ, _⟩ := h.box
  have k1 : X.cell? ⟨B, 1, none⟩ = some (.slice A m.op.length c) := hB.cell 1
  have hfew := ho.few
  have cc := Lib.hid (clone_any b m.op.length c A (Lk.u16s m.op) (fun u hu => by obtain ⟨x, _, rfl⟩ := List.mem_map.1 hu; rfl) (by omega) X hQ)
  clear hB hH hQ h ho
  generalize Lk.u16s m.op = xs at *
  generalize m.op.length = n at *
  go_enter Try.func17, Try.ntmps17
  go_wp2_with (go_at_call 28; ((with_reducible refine ((cc).out).mono ?_); rintro e w1 ⟨A', c', rfl, hl, hb⟩; have HL := Lib.hid hl; have HB := Lib.hid hb; clear hl hb))
  go_ret
  exact ⟨A', c', rfl, HL.out, HB.out⟩
end Go.Proofs.Ythojjpoadabehaa
namespace Go.Proofs.Ythojjpoadabehaa
open Go.RowKit
set_option linter.unusedVariables false
set_option linter.unusedSimpArgs false
/-- Cells within what counts are rewritten. -/
theorem Que.over {b n c g off : Nat} : ∀ (vs : List Value) (i : Nat) {w : World} {xs : List Value} (h : Que w b (some ⟨g, off, none⟩) n c xs) (hi : i + vs.length ≤ n), ∃ xs', Que (w.setCells g (off + i) vs) b (some ⟨g, off, none⟩) n c xs' ∧ (∀ k, k < i → xs'[k]? = xs[k]?) ∧ ∀ k, k < vs.length → xs'[i + k]? = vs[k]?
  | [], i, w, xs, h, hi => ⟨xs, h, fun _ _ => rfl, fun k hk => absurd hk (Nat.not_lt_zero _)⟩
  | v :: r, i, w, xs, h, hi => by
    have hi' : i + (r.length + 1) ≤ n := hi
    obtain ⟨xs', h1, h2, h3⟩ := Que.over r (i + 1) (h.set i (by omega) v) (by omega)
    have hl := h.len
    refine ⟨xs', h1, fun k hk => by rw [h2 k (by omega), List.getElem?_set_ne (by omega)], fun k hk => ?_⟩
    have hk' : k < r.length + 1 := hk
    cases k with
    | zero => rw [Nat.add_zero, h2 i (by omega), List.getElem?_set_self (by omega)]; rfl
    | succ k => rw [show i + (k + 1) = i + 1 + k by omega, h3 k (by omega)]; rfl
set_option maxRecDepth 100000 in
set_option maxHeartbeats 4000000 in
theorem delete1_any (b n c g off : Nat) (xs : List Value) (h1 : ∀ u ∈ xs, u.oneCell' = true) (hn2 : 1 < n) (hn : n ≤ 1000) (X : World) (h : Que X b (some ⟨g, off, none⟩) n c xs) :
    Calls Try.prog 19 #[.slice (some ⟨g, off, none⟩) n c, .int .i64 0, .int .i64 1] X fun e X' => e = .returned (.slice (some ⟨g, off, none⟩) (n - 1) c) ∧ Que X' b (some ⟨g, off, none⟩) (n - 1) c (xs.drop 1) ∧ KeepL (fun k => k = g) X X' := by
  obtain ⟨i, hi, hz, hs, hby⟩ := info_parts u16_infoQ
  have hle := h.le
  have hlen := h.len
  have hmx := h.max
  obtain ⟨news, hnews⟩ : ∃ news, news = xs.drop 1 := ⟨_, rfl⟩
  have hnl : news.length = n - 1 := by rw [hnews, List.length_drop]; omega
  obtain ⟨g', off', cells, e, hbg, hB, hsz, hat⟩ := h.some_ (by omega)
  injection e with e; injection e with e1 e2 _; subst e1 e2
  have hsrc := Lib.hid (show ∀ (t : Nat) (u : Value), news[t]? = some u → X.drew.cell? (Addr.add ⟨g, off + 1, none⟩ t) = some u from fun t u hu => by
    have ht : t < n - 1 := by have := (List.getElem?_eq_some_iff.1 hu).1; omega
    rw [hnews, List.getElem?_drop] at hu
    rw [Addr.add_lit, show off + 1 + t = off + (1 + t) by omega]
    exact (hB.cell _).trans ((hat (1 + t) (by omega)).trans hu))
  have s1 := Lib.hid (show news.length = (n - 1) * 1 by omega)
  have s2 := Lib.hid (show ∀ u ∈ news, u.oneCell' = true from fun u hu => h1 u (List.mem_of_mem_drop (by rw [← hnews]; exact hu)))
  have s3 := Lib.hid (show ∀ t, t < news.length → (X.drew.cell? ⟨g, off + 0 * 1 + t, none⟩).isSome = true ∧ X.drew.frozen? ⟨g, off + 0 * 1 + t, none⟩ = false from fun t ht => ⟨by
    show (X.cell? _).isSome = true
    rw [hB.cell, Array.getElem?_eq_getElem (by omega)]; rfl, hB.free _⟩)
  obtain ⟨W1, hW1⟩ : ∃ W1, W1 = X.drew.setCells g (off + 0 * 1) news := ⟨_, rfl⟩
  obtain ⟨xs', q1, _, q3⟩ := Que.over news 0 (h.below (Below.drew (Below.refl _ _))) (by omega)
  have Q1 : Que W1 b (some ⟨g, off, none⟩) n c xs' := by rw [hW1]; exact q1
  have K1 : KeepL (fun k => k = g) X W1 := by
    rw [hW1]
    exact KeepL.puts (F := fun k => k = g) (.inl rfl) news (off + 0 * 1) ((KeepL.refl _ X).call (Below.drew (Below.refl _ _)))
  have hcl : ∀ ty, (Builtin.clear_ #[38] ty #[.slice (some ⟨g, off + (n - 1), none⟩) (n - (n - 1)) (c - (n - 1))]).run Try.prog W1 = .ok (.tuple #[]) (W1.setCells g (off + (n - 1)) (List.replicate (n - (n - 1)) (.int .u16 0))) := fun ty => Q1.clear_ (n - 1) (by omega) ty
  have HW := Lib.hid hW1
  have HE := Lib.hid (show xs'.take (n - 1) = xs.drop 1 by
    rw [← hnews]
    refine List.ext_getElem? fun k => ?_
    rw [List.getElem?_take]
    split
    · rename_i hk; have := q3 k (by omega); rw [Nat.zero_add] at this; exact this
    · rename_i hk; rw [List.getElem?_eq_none (by omega)])
  have HQ := Lib.hid Q1
  have HK := Lib.hid K1
  have hc1 : c ≠ 1 := by omega
  have hc0 : 1 ≤ c := by omega
  have hn1i : (1 : Int) ≤ (n : Int) := by omega
  clear hB hat hsz h q1 q3 Q1 K1 hW1 hnews h1
  go_enter Try.func19, Try.ntmps19
  go_wp2_with fail
  go_region_law (refine step_append_room rfl (.tmp 22) (.tmp 25) 38 rfl 28 i 1 Try.underlying38 hi hs g off 0 c (by simp [Act.eval, Act.put]) ⟨g, off + 1, none⟩ (n - 1) (c - 1) news (by simp [Act.eval, Act.put, hc1]) s1.out hsrc.out s2.out (by omega) s3.out ?_; rw [← HW.out])
  go_wp2
  go_ret
  refine ⟨rfl, ?_, ?_⟩
  · rw [← HE.out]
    exact ((HQ.out.take_ (n - 1) (by omega)).behind _ (n - 1) (Nat.le_refl _))
  · exact KeepL.puts (F := fun k => k = g) (.inl rfl) _ _ HK.out
theorem u16s_one (l : List Int) (x : Int) (u : Value) (hu : u ∈ Lk.u16s l ++ [.int .u16 x]) : u.oneCell' = true := by
  rcases List.mem_append.1 hu with h | h
  · obtain ⟨x, _, rfl⟩ := List.mem_map.1 h; rfl
  · obtain rfl := List.mem_singleton.1 h; rfl
theorem SaysPr.mk {b B n c H : Nat} {F : Nat → Prop} {A : Option Addr} {X X' : World} {ser t : Int} {h : Sr.H} {op : List Int} (r : Value) (K : KeepL F X X') (up : ∀ k, F k → b ≤ k ∧ k < X.heap.size) (hb : b ≤ X.heap.size) (own : F B)
    (hB : Box X' B 53 (Lk.pcells ser (.slice A n c) H t)) (hH : Box X' H 62 h.cells) (hF : F H) (hQ : Que X' b A n c (Lk.u16s op)) (hA : ∀ g, A.map (·.block) = some g → F g ∨ X.heap.size ≤ g) : SaysP PrgL b F B ⟨ser, h, t, op⟩ r X (.returned r) X' := by
  have hn := hQ.len
  rw [Lk.u16s_len] at hn
  subst hn
  refine ⟨rfl, fun k => F k ∨ (X.heap.size ≤ k ∧ k < X'.heap.size), fun k hk => hk.imp id And.left, ⟨⟨A, c, H, hB, hH, hQ, fun g hg => (hA g hg).imp id fun h => ⟨h, hQ.lt hg⟩, .inl hF⟩, .inl own, fun k hk => ?_⟩, K⟩
  rcases hk with hk | ⟨h1, h2⟩
  · exact ⟨(up k hk).1, Nat.lt_of_lt_of_le (up k hk).2 K.size⟩
  · exact ⟨Nat.le_trans hb h1, h2⟩
set_option maxRecDepth 100000 in
set_option maxHeartbeats 4000000 in
theorem lkstamp_any (b : Nat) (F : Nat → Prop) (B : Nat) (m : Lk.M) (ho : m.Ok) (X : World) (h : PrgL b F B m X) (hb : b ≤ X.heap.size) :
    Calls Try.prog 10 #[.pointer (some ⟨B, 0, none⟩)] X (SaysP PrgL b F B (Lk.stamp m) (.tuple #[.int .u16 (Lk.next m), .int .u16 m.h.last, .int .u32 (m.h.seen : Nat)]) X) := by
  obtain ⟨A, c, H, hB, hH, hQ, hA, hFH⟩ := h.box
  have hfew := ho.few
  have hown := Lib.hid h.own
  have hup := Lib.hid h.up
  have HA := Lib.hid hA
  have HFH := Lib.hid hFH
  have hse := ho.ser
  have hHB : H ≠ B := Box.apart hH hB (by decide)
  obtain ⟨ser, hh, t, op⟩ := m
  dsimp only at hB hH hQ hfew hse ⊢
  obtain ⟨nx, hnx⟩ : ∃ nx, nx = Lk.next ⟨ser, hh, t, op⟩ := ⟨_, rfl⟩
  have hw : IntKind.u16.wrap (ser + 1) = nx := by rw [hnx]; exact IntKind.wrap_u16 _
  rw [← hnx]
  have HST := Lib.hid (show Lk.stamp ⟨ser, hh, t, op⟩ = ⟨nx, hh, t, Lk.few (op ++ [nx])⟩ by unfold Lk.stamp; rw [← hnx])
  clear hnx h hA ho hFH
  have k0 : X.cell? ⟨B, 0, none⟩ = some (.int .u16 ser) := hB.cell 0
  have f0 := hB.free 0
  have l0 := hB.lt
  have B1 := Lib.hid (show Box (X.setCell ⟨B, 0, none⟩ (.int .u16 nx)) B 53 (Lk.pcells nx (.slice A op.length c) H t) from hB.put 0 (.int .u16 nx))
  have H1 := Lib.hid (hH.far (p := ⟨B, 0, none⟩) hHB (.int .u16 nx))
  have Q1 := Lib.hid (hQ.far (p := ⟨B, 0, none⟩) hB (by decide) (.int .u16 nx))
  have K1 := Lib.hid ((KeepL.refl F X).put (.inl hown.out) 0 (.int .u16 nx))
  have s1 : (X.setCell ⟨B, 0, none⟩ (.int .u16 nx)).heap.size = X.heap.size := by simp
  clear hB hQ hH
  go_enter Try.func10, Try.ntmps10
  go_upto_region 4 with fail
  clear k0 f0 l0 hw
  generalize X.setCell ⟨B, 0, none⟩ (.int .u16 nx) = X1 at *
  generalize op.length = n at *
  have BD := Lib.hid B1.out.drew
  have HD := Lib.hid H1.out.drew
  have QD := Lib.hid (Q1.out.below (Below.drew (Below.refl _ _)))
  have k0 : X1.drew.cell? ⟨B, 0, none⟩ = some (.int .u16 nx) := BD.out.cell 0
  have k37 : X1.drew.cell? ⟨B, 1, none⟩ = some (.slice A n c) := BD.out.cell 1
  have sl := u16s1 nx
  have k37a : (X1.alloc (.cells #[.int .u16 nx] 28)).cell? ⟨B, 1, none⟩ = some (.slice A n c) := (B1.out.alloc (.cells #[.int .u16 nx] 28)).cell 1
  have QA := fun cs => Lib.hid (QD.out.below (one_below X1.drew (.cells cs 28)))
  have BA := fun cs => Lib.hid (BD.out.alloc (.cells cs 28))
  have HA1 := fun cs => Lib.hid (HD.out.alloc (.cells cs 28))
  have S1 := Lib.hid s1
  have hbx : b ≤ X1.heap.size := by omega
  clear s1
  have sD : X1.drew.heap.size = X1.heap.size := rfl
  go_region_law ((refine step_append_que (by rfl) (.tmp 20) (.tmp 25) (by rfl) (QA _).out (by simp; omega) (by omega) nx ⟨X1.drew.heap.size, 0, none⟩ 1 (by rfl) (by rfl) (cell_one X1.drew nx) ?_; intro A2 c2 w2 Q2' hg2 hA2; have Q2 := Lib.hid Q2'; have B2 := Lib.hid ((QA _).out.grown_box (BA _).out (by decide) hg2); have H2 := Lib.hid ((QA _).out.grown_box (HA1 _).out (by decide) hg2); have l2 := B2.out.lt; have f2 := B2.out.free 1; have k2 := (B2.out.cell 1).trans (show _ = some (Value.slice A n c) from rfl); have G2 := Lib.hid hg2; have HA2 := Lib.hid hA2; clear Q2' hg2 hA2))
  all_goals (
    have KX : KeepL F X (w2.setCell ⟨B, 1, none⟩ (.slice A2 (n + 1) c2)) := by
      have h1 := K1.out.call (Below.drew (one_below X1 (.cells #[.int .u16 nx] 28)))
      have h2 := KeepL.grown h1 G2.out (fun g hg => .inl (HA.out g hg))
      exact h2.put (.inl hown.out) 1 _
    have K3 := Lib.hid KX
    have B3 := Lib.hid (show Box (w2.setCell ⟨B, 1, none⟩ (.slice A2 (n + 1) c2)) B 53 (Lk.pcells nx (.slice A2 (n + 1) c2) H t) from B2.out.put 1 (.slice A2 (n + 1) c2))
    have H3 := Lib.hid (H2.out.far (p := ⟨B, 1, none⟩) hHB (.slice A2 (n + 1) c2))
    have Q3 := Lib.hid (Q2.out.far (p := ⟨B, 1, none⟩) B2.out (by decide) (.slice A2 (n + 1) c2))
    have HA3 := Lib.hid (show ∀ g, A2.map (·.block) = some g → F g ∨ X.heap.size ≤ g from fun g hg => by
      rcases HA2.out with h | h
      · exact .inl (HA.out g (by rw [← h]; exact hg))
      · right
        have := h g hg
        have hs : (X1.alloc (.cells #[.int .u16 nx] 28)).drew.heap.size = X1.heap.size + 1 := by simp
        have := S1.out
        omega)
    clear k0 k37 k37a sl QA BA HA1 S1 hbx sD KX B2 H2 Q2 G2 HA2 l2 f2 k2 BD HD QD B1 H1 Q1 K1
    generalize w2.setCell ⟨B, 1, none⟩ (.slice A2 (n + 1) c2) = X3 at *
    have k3 : X3.cell? ⟨B, 1, none⟩ = some (.slice A2 (n + 1) c2) := B3.out.cell 1
    have f3 := B3.out.free 1
    have l3 := B3.out.lt
    have cl := fun X hX => Lib.hid (serlast_any hh H X hX)
    by_cases h65 : 64 < n + 1
    · obtain ⟨g, off, _, rfl, _⟩ := Q3.out.some_ (Nat.succ_pos n)
      have h65i : (64 : Int) < (n : Int) + 1 := by omega
      have cd := Lib.hid (delete1_any b (n + 1) c2 g off _ (u16s_one op nx) (by omega) (by omega) X3 Q3.out)
      have hle := Q3.out.le
      have BX := Lib.hid B3.out.lt
      rw [show n + 1 - 1 = n from rfl] at cd
      have hgB : g ≠ B := fun e => by
        obtain ⟨g', off', _, e', _, hG, _⟩ := Q3.out.some_ (Nat.succ_pos n)
        injection e' with e'; injection e' with e1 e2 _; subst e1 e2
        exact Box.apart hG B3.out (by decide) e
      have hgH : g ≠ H := fun e => by
        obtain ⟨g', off', _, e', _, hG, _⟩ := Q3.out.some_ (Nat.succ_pos n)
        injection e' with e'; injection e' with e1 e2 _; subst e1 e2
        exact Box.apart hG H3.out (by decide) e
      go_upto_region 7 with ((go_at_call 19; ((with_reducible refine ((cd).out).mono ?_); rintro e w4 ⟨rfl, hq4, hk4⟩; have B4 := Lib.hid (show Box w4 B _ _ from ⟨(hk4.block B BX.out (Ne.symm hgB)).trans B3.out.is⟩); have H4 := Lib.hid (show Box w4 H _ _ from ⟨(hk4.block H H3.out.lt (Ne.symm hgH)).trans H3.out.is⟩); have Q4 := Lib.hid hq4; have K4 := Lib.hid (K3.out.trans hk4 (fun j hj => by subst hj; exact HA3.out _ rfl)); clear hq4 hk4; have k4 : w4.cell? ⟨B, 1, none⟩ = some (.slice (some ⟨g, off, none⟩) (n + 1) c2) := B4.out.cell 1; have f4 := B4.out.free 1; have l4 := B4.out.lt)))
      have B5 := Lib.hid (show Box (w4.setCell ⟨B, 1, none⟩ (.slice (some ⟨g, off, none⟩) n c2)) B 53 (Lk.pcells nx (.slice (some ⟨g, off, none⟩) n c2) H t) from B4.out.put 1 _)
      have H5 := Lib.hid (H4.out.far (p := ⟨B, 1, none⟩) hHB (.slice (some ⟨g, off, none⟩) n c2))
      have Q5 := Lib.hid (Q4.out.far (p := ⟨B, 1, none⟩) B4.out (by decide) (.slice (some ⟨g, off, none⟩) n c2))
      have K5 := Lib.hid (K4.out.put (.inl hown.out) 1 (.slice (some ⟨g, off, none⟩) n c2))
      clear B4 H4 Q4 K4 k4 f4 l4 k3 f3 l3 B3 H3 K3 cd
      generalize w4.setCell ⟨B, 1, none⟩ (.slice (some ⟨g, off, none⟩) n c2) = X5 at *
      have k5 : X5.cell? ⟨B, 2, none⟩ = some (.pointer (some ⟨H, 0, none⟩)) := B5.out.cell 2
      go_wp2_with ((go_at_call 20; ((with_reducible refine ((cl _ H5.out).out).mono ?_); rintro e w6 ⟨rfl, hb6⟩; have B6 := Lib.hid (B5.out.below hb6 B5.out.lt); have H6 := Lib.hid (H5.out.below hb6 H5.out.lt); have Q6 := Lib.hid (Q5.out.below hb6); have K6 := Lib.hid (K5.out.call hb6); clear hb6; have k6 : w6.cell? ⟨B, 0, none⟩ = some (.int .u16 nx) := B6.out.cell 0)))
      go_ret3
      rw [HST.out]
      refine SaysPr.mk _ K6.out hup.out hb hown.out B6.out H6.out HFH.out ?_ (fun g' hg => HA3.out g' hg)
      have hl := Q3.out.len
      have hfw : Lk.few (op ++ [nx]) = (op ++ [nx]).drop 1 := by
        unfold Lk.few
        rw [if_pos]
        rw [List.length_append, Lk.u16s_len] at hl
        rw [List.length_append]
        show 64 < op.length + 1
        have hl' : op.length + 1 = n + 1 := hl
        omega
      rw [hfw]
      have hq := Q6.out
      unfold Lk.u16s at hq ⊢
      rw [List.map_drop, List.map_append]
      exact hq
    · have h65i : ¬ (64 : Int) < (n : Int) + 1 := by omega
      have k5 : X3.cell? ⟨B, 2, none⟩ = some (.pointer (some ⟨H, 0, none⟩)) := B3.out.cell 2
      go_wp2_with ((go_at_call 20; ((with_reducible refine ((cl _ H3.out).out).mono ?_); rintro e w6 ⟨rfl, hb6⟩; have B6 := Lib.hid (B3.out.below hb6 B3.out.lt); have H6 := Lib.hid (H3.out.below hb6 H3.out.lt); have Q6 := Lib.hid (Q3.out.below hb6); have K6 := Lib.hid (K3.out.call hb6); clear hb6; have k6 : w6.cell? ⟨B, 0, none⟩ = some (.int .u16 nx) := B6.out.cell 0)))
      go_ret3
      rw [HST.out]
      refine SaysPr.mk _ K6.out hup.out hb hown.out B6.out H6.out HFH.out ?_ HA3.out
      have hl := Q3.out.len
      have hfw : Lk.few (op ++ [nx]) = op ++ [nx] := by
        unfold Lk.few
        rw [if_neg]
        rw [List.length_append, Lk.u16s_len] at hl
        rw [List.length_append]
        show ¬ (64 < op.length + 1)
        have hl' : op.length + 1 = n + 1 := hl
        omega
      rw [hfw]
      have hq := Q6.out
      unfold Lk.u16s at hq ⊢
      rw [List.map_append]
      exact hq)
end Go.Proofs.Ythojjpoadabehaa
namespace Go.Proofs.Ythojjpoadabehaa
open Go.RowKit
set_option linter.unusedVariables false
set_option linter.unusedSimpArgs false
set_option maxRecDepth 100000 in
set_option maxHeartbeats 4000000 in
theorem lkhear_any (b : Nat) (F : Nat → Prop) (B : Nat) (m : Lk.M) (ho : m.Ok) (now s ack : Int) (seen : Nat) (hnow : -9223372036854775808 ≤ now ∧ now ≤ 9223372036854775807) (hs : 0 ≤ s ∧ s ≤ 65535) (ha : 0 ≤ ack ∧ ack ≤ 65535) (hn : seen < 4294967296) (X : World) (h : PrgL b F B m X) (hb : b ≤ X.heap.size) :
    Calls Try.prog 12 #[.pointer (some ⟨B, 0, none⟩), .int .i64 now, .int .u16 s, .int .u16 ack, .int .u32 (seen : Nat)] X (SaysP PrgL b F B (Lk.hear m now s ack seen) (.bool (Lk.fresh m s)) X) := by
  obtain ⟨A, c, H, hB, hH, hQ, hA, hFH⟩ := h.box
  have hfew := ho.few
  have hhok := ho.h
  have hat := ho.at_
  have hown := Lib.hid h.own
  have hup := Lib.hid h.up
  have HA := Lib.hid hA
  have HFH := Lib.hid hFH
  have hHB : H ≠ B := Box.apart hH hB (by decide)
  obtain ⟨ser, hh, t, op⟩ := m
  dsimp only at hB hH hQ hfew hhok hat ⊢
  have HH := Lib.hid (show Lk.hear ⟨ser, hh, t, op⟩ now s ack seen = ⟨ser, Sr.note hh s, max t now, op.filter fun x => !Sr.told x ack seen⟩ from rfl)
  have HF : Lk.fresh ⟨ser, hh, t, op⟩ s = Sr.fresh hh s := rfl
  rw [HF]
  have cn := fun X' hX => Lib.hid (note_any hh hhok s H X' hX)
  -- the two captured variables
  obtain ⟨X2, hX2⟩ : ∃ X2, X2 = (X.alloc (.cells #[.int .u16 ack] 28)).alloc (.cells #[.int .u32 (seen : Nat)] 29) := ⟨_, rfl⟩
  have b2 : Below X.heap.size X X2 := by rw [hX2]; exact (one_below X _).trans ((one_below _ _).mono (by simp))
  have h8 : Box X2 X.heap.size 28 #[.int .u16 ack] := by rw [hX2]; exact (Box.made X 28 #[.int .u16 ack]).alloc _
  have h9 : Box X2 (X.heap.size + 1) 29 #[.int .u32 (seen : Nat)] := by
    rw [hX2]
    have := Box.made (X.alloc (.cells #[.int .u16 ack] 28)) 29 #[.int .u32 (seen : Nat)]
    rwa [show (X.alloc (.cells #[.int .u16 ack] 28)).heap.size = X.heap.size + 1 by simp] at this
  have cd := Lib.hid (delfunc_any b c A op ack seen hn X.heap.size (X.heap.size + 1) hfew X2 (hQ.below b2) h8 h9 (fun g hg e => by have := hQ.lt hg; omega))
  have B2 := Lib.hid (hB.below b2 hB.lt)
  have H2 := Lib.hid (hH.below b2 hH.lt)
  have K2 := Lib.hid ((KeepL.refl F X).call b2)
  have hAB : ∀ k, A.map (·.block) = some k → k ≠ B := fun k hk e => by
    rcases hQ.at_ with ⟨rfl, _⟩ | ⟨g, off, _, rfl, _, hG, _⟩
    · cases hk
    · injection hk with hk; subst hk; exact Box.apart hG hB (by decide) e
  have hAH : ∀ k, A.map (·.block) = some k → k ≠ H := fun k hk e => by
    rcases hQ.at_ with ⟨rfl, _⟩ | ⟨g, off, _, rfl, _, hG, _⟩
    · cases hk
    · injection hk with hk; subst hk; exact Box.apart hG hH (by decide) e
  have HAB := Lib.hid hAB
  have HAH := Lib.hid hAH
  have k2 : X2.cell? ⟨B, 1, none⟩ = some (.slice A op.length c) := B2.out.cell 1
  clear h hA ho hB hQ HF hH hFH b2 h8 h9 hAB hAH
  go_enter Try.func12, Try.ntmps12
  go_upto_region 3 with fail
  rw [← hX2]
  have HX2 := Lib.hid hX2
  clear hX2
  generalize op.length = n at *
  go_upto_region 4 with ((go_at_call 22; ((with_reducible refine ((cd).out).mono ?_); rintro e w4 ⟨m4, rfl, hq4, hk4⟩; have B4 := Lib.hid (show Box w4 B _ _ from ⟨(hk4.block B B2.out.lt (fun e => HAB.out _ e rfl)).trans B2.out.is⟩); have H4 := Lib.hid (show Box w4 H _ _ from ⟨(hk4.block H H2.out.lt (fun e => HAH.out _ e rfl)).trans H2.out.is⟩); have Q4 := Lib.hid hq4; have K4 := Lib.hid (K2.out.trans hk4 (fun j hj => .inl (HA.out j hj))); clear hq4 hk4; have k4 : w4.cell? ⟨B, 1, none⟩ = some (.slice A n c) := B4.out.cell 1; have f4 := B4.out.free 1; have l4 := B4.out.lt)))
  have B5 := Lib.hid (show Box (w4.setCell ⟨B, 1, none⟩ (.slice A m4 c)) B 53 (Lk.pcells ser (.slice A m4 c) H t) from B4.out.put 1 _)
  have H5 := Lib.hid (H4.out.far (p := ⟨B, 1, none⟩) hHB (.slice A m4 c))
  have Q5 := Lib.hid (Q4.out.far (p := ⟨B, 1, none⟩) B4.out (by decide) (.slice A m4 c))
  have K5 := Lib.hid (K4.out.put (.inl hown.out) 1 (.slice A m4 c))
  clear B4 H4 Q4 K4 k4 f4 l4 k2 B2 H2 K2 cd
  generalize w4.setCell ⟨B, 1, none⟩ (.slice A m4 c) = X5 at *
  have k5 : X5.cell? ⟨B, 3, none⟩ = some (.int .i64 t) := B5.out.cell 3
  have f5 := B5.out.free 3
  have l5 := B5.out.lt
  have HM := Lib.hid (show max t now = if t < now then now else t by rw [Int.max_def]; split <;> split <;> omega)
  go_upto_region 5 with fail
  have B6 := Lib.hid (show Box (X5.setCell ⟨B, 3, none⟩ (.int .i64 (max t now))) B 53 (Lk.pcells ser (.slice A m4 c) H (max t now)) from B5.out.put 3 _)
  have H6 := Lib.hid (H5.out.far (p := ⟨B, 3, none⟩) hHB (.int .i64 (max t now)))
  have Q6 := Lib.hid (Q5.out.far (p := ⟨B, 3, none⟩) B5.out (by decide) (.int .i64 (max t now)))
  have K6 := Lib.hid (K5.out.put (.inl hown.out) 3 (.int .i64 (max t now)))
  rw [HM.out] at B6 H6 Q6 K6
  clear k5 f5 l5 B5 H5 Q5 K5
  generalize (if t < now then now else t) = mx at *
  generalize X5.setCell ⟨B, 3, none⟩ (.int .i64 mx) = X6 at *
  have k6 : X6.cell? ⟨B, 2, none⟩ = some (.pointer (some ⟨H, 0, none⟩)) := B6.out.cell 2
  go_wp2_with ((go_at_call 25; ((with_reducible refine ((cn _ H6.out).out).mono ?_); rintro e w9 ⟨rfl, hb9, ho9⟩)))
  go_ret
  rw [HH.out, HM.out]
  have HBne : B ≠ H := Ne.symm hHB
  refine SaysPr.mk _ ?_ hup.out hb hown.out ⟨(ho9.block B B6.out.lt HBne).trans B6.out.is⟩ hb9 HFH.out ?_ (fun g hg => .inl (HA.out g hg))
  · exact K6.out.trans (F' := fun k => k = H) ⟨ho9.os, ho9.tape, ho9.output, ho9.size, fun k hk hne => ho9.block k hk hne⟩ (fun j hj => by subst hj; exact .inl HFH.out)
  · refine Q6.out.keep fun g cs hg hbx => ⟨(ho9.block g hbx.lt fun e => ?_).trans hbx.is⟩
    exact Box.apart hbx H6.out (by decide) e
end Go.Proofs.Ythojjpoadabehaa
namespace Go.Proofs.Ythojjpoadabehaa
open Go.RowKit
def PrgL13 : LkP := PrgL
/-- The program's link is held to it. -/
theorem linkC : LinkC PrgL13 where
  up := fun h => h.up
  keep := fun h k hd => h.keep k hd
  new := fun b now X hb _ => lknew_any b now X hb
  stamp := fun b F B m ho X h hb => lkstamp_any b F B m ho X h hb
  hear := fun b F B m ho now s ack seen hnow hs ha hn X h hb => lkhear_any b F B m ho now s ack seen hnow hs ha hn X h hb
  quiet := fun b F B m ho now hn hg X h => lkquiet_any b F B m ho now hn hg X h
  open_ := fun b F B m ho X h => lkopen_any b F B m ho X h
  stamp0 := lkstamp_nil
  hear0 := lkhear_nil
  quiet0 := lkquiet_nil
  open0 := lkopen_nil
end Go.Proofs.Ythojjpoadabehaa
namespace Lk
open Go
/-- So many are stamped. -/
def after : Nat → M
  | 0 => new 0
  | i + 1 => stamp (after i)
def opOf (i : Nat) : List Int := (List.range (min i 64)).map fun j => ((i - min i 64 + 1 + j : Nat) : Int)
theorem opOf_len (i : Nat) : (opOf i).length = min i 64 := by unfold opOf; rw [List.length_map, List.length_range]
theorem opOf_at (i j : Nat) (h : j < min i 64) : (opOf i)[j]? = some ((i - min i 64 + 1 + j : Nat) : Int) := by
  unfold opOf
  rw [List.getElem?_map, List.getElem?_range h]
  rfl
theorem opOf_next (i : Nat) : few (opOf i ++ [((i + 1 : Nat) : Int)]) = opOf (i + 1) := by
  have hl : (opOf i ++ [((i + 1 : Nat) : Int)]).length = min i 64 + 1 := by rw [List.length_append, opOf_len]; rfl
  unfold few
  rw [hl]
  have get : ∀ j, j ≤ min i 64 → (opOf i ++ [((i + 1 : Nat) : Int)])[j]? = some ((i - min i 64 + 1 + j : Nat) : Int) := by
    intro j hj
    by_cases h : j < min i 64
    · rw [List.getElem?_append_left (by rw [opOf_len]; exact h), opOf_at i j h]
    · obtain rfl : j = min i 64 := by omega
      rw [List.getElem?_append_right (by rw [opOf_len]; omega), opOf_len, Nat.sub_self]
      show some ((i + 1 : Nat) : Int) = _
      rw [show i - min i 64 + 1 + min i 64 = i + 1 by omega]
  split
  · refine List.ext_getElem? fun j => ?_
    rw [List.getElem?_drop]
    by_cases h : j < 64
    · rw [get (1 + j) (by omega), opOf_at (i + 1) j (by omega)]
      congr 2
      omega
    · rw [List.getElem?_eq_none (by omega), List.getElem?_eq_none (by rw [opOf_len]; omega)]
  · refine List.ext_getElem? fun j => ?_
    by_cases h : j < i + 1
    · rw [get j (by omega), opOf_at (i + 1) j (by omega)]
      congr 2
      omega
    · rw [List.getElem?_eq_none (by omega), List.getElem?_eq_none (by rw [opOf_len]; omega)]
theorem after_is (i : Nat) (hi : i ≤ 200) : after i = ⟨i, Sr.none, 0, opOf i⟩ := by
  induction i with
  | zero => rfl
  | succ i ih =>
    show stamp (after i) = _
    rw [ih (by omega)]
    unfold stamp next
    dsimp only
    rw [show ((i : Int) + 1) % 65536 = ((i + 1 : Nat) : Int) by omega, opOf_next]
theorem after_ok (i : Nat) : (after i).Ok := by
  induction i with
  | zero => exact new_ok (by decide)
  | succ i ih => exact stamp_ok ih
theorem told_zero (x h : Int) : Sr.told x h 0 = decide (x = h) := by
  unfold Sr.told Sr.has
  rw [Nat.zero_testBit, Bool.and_false, Bool.or_false]
theorem heard_len (i r : Nat) (hr : r < min i 64) (hi : i ≤ 200) : (hear (after i) 4 9 ((i - min i 64 + 1 + r : Nat) : Int) 0).op.length = min i 64 - 1 := by
  rw [after_is i hi]
  unfold hear
  dsimp only
  have hmem : ((i - min i 64 + 1 + r : Nat) : Int) ∈ opOf i := List.mem_iff_getElem?.2 ⟨r, opOf_at i r hr⟩
  have hnd : (opOf i).Nodup := by
    unfold opOf
    refine List.Pairwise.map _ ?_ List.nodup_range
    intro a b hab h
    exact hab (by omega)
  have hf : (opOf i).filter (fun x => !Sr.told x ((i - min i 64 + 1 + r : Nat) : Int) 0) = (opOf i).erase ((i - min i 64 + 1 + r : Nat) : Int) := by
    rw [List.Nodup.erase_eq_filter hnd]
    refine List.filter_congr fun x _ => ?_
    rw [told_zero]
    generalize ((i - min i 64 + 1 + r : Nat) : Int) = q
    show (!decide (x = q)) = !(x == q)
    by_cases h : x = q
    · rw [h, beq_self_eq_true, decide_eq_true rfl]
    · rw [beq_false_of_ne h, decide_eq_false h]
  rw [hf, List.length_erase_of_mem hmem, opOf_len]
end Lk
namespace Lk
open Go
/-- Two ends after so many messages, so many of which came; the rest is lost. -/
structure Two (i t : Nat) (L : List Int) (ma mb : M) : Prop where
  a : ma.Ok
  b : mb.Ok
  sa : ma.ser = i
  sb : mb.ser = t
  op : ma.op = L
  cnt : t + L.length = i
  low : ∀ x ∈ L, 1 ≤ x ∧ x ≤ i ∧ Sr.told x mb.h.last mb.h.seen = false
  ha : ma.h.some = false ∨ (ma.h.some = true ∧ ma.h.last = t)
  hb : mb.h = Sr.none ∨ (mb.h.some = true ∧ 1 ≤ mb.h.last ∧ mb.h.last ≤ i)
theorem way_small {a b : Int} (ha : 0 ≤ a ∧ a ≤ 1000) (hb : 0 ≤ b ∧ b ≤ 1000) : Sr.way a b = b - a := Sr.way_unique rfl (by omega)
theorem two_new : Two 0 0 [] (new 0) (new 0) :=
  ⟨new_ok (by decide), new_ok (by decide), rfl, rfl, rfl, rfl, fun x hx => absurd hx List.not_mem_nil, .inl rfl, .inl rfl⟩
section
variable {i t : Nat} {L : List Int} {ma mb : M}
theorem two_next (h : Two i t L ma mb) (hi : i < 30) : next ma = (i : Int) + 1 := by unfold next; rw [h.sa]; omega
theorem two_op (h : Two i t L ma mb) (hi : i < 30) : (stamp ma).op = L ++ [(i : Int) + 1] := by
  unfold stamp
  dsimp only
  rw [two_next h hi, h.op]
  unfold few
  rw [if_neg]
  rw [List.length_append]
  have := h.cnt
  show ¬ 64 < L.length + 1
  omega
theorem two_untold (h : Two i t L ma mb) (hi : i < 30) : Sr.told ((i : Int) + 1) mb.h.last mb.h.seen = false := by
  rcases h.hb with hn | ⟨_, h1, h2⟩
  · rw [hn]
    show Sr.told ((i : Int) + 1) 0 0 = false
    rw [told_zero]
    exact decide_eq_false (by omega)
  · unfold Sr.told Sr.has
    rw [way_small (by omega) (by omega), decide_eq_false (show ¬ (i : Int) + 1 = mb.h.last by omega), decide_eq_false (show ¬ (1 ≤ mb.h.last - ((i : Int) + 1) ∧ mb.h.last - ((i : Int) + 1) ≤ 32) by omega)]
    rfl
theorem two_lost (h : Two i t L ma mb) (hi : i < 30) : Two (i + 1) t (L ++ [(i : Int) + 1]) (stamp ma) mb := by
  refine ⟨stamp_ok h.a, h.b, ?_, h.sb, two_op h hi, ?_, fun x hx => ?_, h.ha, ?_⟩
  · show next ma = _
    rw [two_next h hi]
    rfl
  · rw [List.length_append]
    have := h.cnt
    show t + (L.length + 1) = i + 1
    omega
  · rcases List.mem_append.1 hx with hx | hx
    · have := h.low x hx
      exact ⟨this.1, by omega, this.2.2⟩
    · obtain rfl := List.mem_singleton.1 hx
      exact ⟨by omega, by omega, two_untold h hi⟩
  · rcases h.hb with hn | ⟨h0, h1, h2⟩
    · exact .inl hn
    · exact .inr ⟨h0, h1, by omega⟩
theorem two_fresh (h : Two i t L ma mb) (hi : i < 30) : fresh mb ((i : Int) + 1) = true := by
  unfold fresh
  rcases h.hb with hn | ⟨h0, h1, h2⟩
  · exact (Sr.note_first (by rw [hn]; rfl) _).1
  · exact (Sr.note_ahead h0 (by rw [way_small (by omega) (by omega)]; omega)).1
/-- What b knows then. -/
theorem two_note (h : Two i t L ma mb) (hi : i < 30) : (Sr.note mb.h ((i : Int) + 1)).some = true ∧ (Sr.note mb.h ((i : Int) + 1)).last = (i : Int) + 1 ∧ ∀ x ∈ L, Sr.told x ((i : Int) + 1) (Sr.note mb.h ((i : Int) + 1)).seen = false := by
  rcases h.hb with hn | ⟨h0, h1, h2⟩
  · rw [(Sr.note_first (by rw [hn]; rfl) _).2]
    refine ⟨rfl, rfl, fun x hx => ?_⟩
    have := h.low x hx
    rw [hn]
    show Sr.told x ((i : Int) + 1) 0 = false
    rw [told_zero]
    exact decide_eq_false (by omega)
  · have hw : Sr.way mb.h.last ((i : Int) + 1) = (i : Int) + 1 - mb.h.last := way_small (by omega) (by omega)
    rw [(Sr.note_ahead h0 (by rw [hw]; omega)).2]
    refine ⟨rfl, rfl, fun x hx => ?_⟩
    obtain ⟨x1, x2, x3⟩ := h.low x hx
    dsimp only
    rw [hw]
    unfold Sr.told Sr.has at x3 ⊢
    rw [way_small (by omega) (by omega)] at x3 ⊢
    rw [Bool.or_eq_false_iff] at x3 ⊢
    refine ⟨decide_eq_false (by omega), ?_⟩
    have x4 : ¬ x = mb.h.last := of_decide_eq_false x3.1
    rw [Sr.up_test _ _ (by omega)]
    by_cases hlt : x < mb.h.last
    · have x5 := x3.2
      rw [decide_eq_true (show 1 ≤ mb.h.last - x ∧ mb.h.last - x ≤ 32 by omega), Bool.true_and] at x5
      rw [show ((i : Int) + 1 - x - 1).toNat - ((i : Int) + 1 - mb.h.last).toNat = (mb.h.last - x - 1).toNat by omega, x5, decide_eq_false (show ¬ (i : Int) + 1 - mb.h.last = ((((i : Int) + 1 - x - 1).toNat : Nat) : Int) + 1 by omega)]
      simp
    · rw [decide_eq_false (show ¬ (i : Int) + 1 - mb.h.last = ((((i : Int) + 1 - x - 1).toNat : Nat) : Int) + 1 by omega), decide_eq_false (show ¬ (i : Int) + 1 - mb.h.last ≤ ((((i : Int) + 1 - x - 1).toNat : Nat) : Int) by omega)]
      simp
/-- Heard twice: it is old, and nothing changes. -/
theorem two_again (h : Two i t L ma mb) (hi : i < 30) : Sr.fresh (Sr.note mb.h ((i : Int) + 1)) ((i : Int) + 1) = false ∧ Sr.note (Sr.note mb.h ((i : Int) + 1)) ((i : Int) + 1) = Sr.note mb.h ((i : Int) + 1) := by
  obtain ⟨h1, h2, _⟩ := two_note h hi
  generalize Sr.note mb.h ((i : Int) + 1) = q at *
  have hw : Sr.way q.last ((i : Int) + 1) = 0 := by rw [h2, way_small (by omega) (by omega)]; omega
  have hw' : Sr.way ((i : Int) + 1) q.last = 0 := by rw [h2, way_small (by omega) (by omega)]; omega
  exact Sr.note_old h1 (by rw [hw]; omega) (.inl (by rw [hw']; rfl))
theorem two_taken (h : Two i t L ma mb) (hi : i < 30) {m : M} (hm : m.Ok) (hh : m.h = Sr.note mb.h ((i : Int) + 1)) (hs : m.ser = t) :
    next m = (t : Int) + 1 ∧ m.h.last = (i : Int) + 1 ∧ fresh (stamp ma) ((t : Int) + 1) = true ∧ Two (i + 1) (t + 1) L (hear (stamp ma) i ((t : Int) + 1) ((i : Int) + 1) m.h.seen) (stamp m) := by
  obtain ⟨h1, h2, h3⟩ := two_note h hi
  have hc := h.cnt
  have hn : next m = (t : Int) + 1 := by unfold next; rw [hs]; omega
  have hf : fresh (stamp ma) ((t : Int) + 1) = true ∧ (Sr.note (stamp ma).h ((t : Int) + 1)).some = true ∧ (Sr.note (stamp ma).h ((t : Int) + 1)).last = ((t + 1 : Nat) : Int) := by
    show Sr.fresh ma.h ((t : Int) + 1) = true ∧ (Sr.note ma.h ((t : Int) + 1)).some = true ∧ (Sr.note ma.h ((t : Int) + 1)).last = ((t + 1 : Nat) : Int)
    rcases h.ha with hn | ⟨h0, hl⟩
    · obtain ⟨q1, q2⟩ := Sr.note_first hn ((t : Int) + 1)
      rw [q1, q2]
      exact ⟨rfl, rfl, rfl⟩
    · obtain ⟨q1, q2⟩ := Sr.note_ahead h0 (s := (t : Int) + 1) (by rw [hl, way_small (by omega) (by omega)]; omega)
      rw [q1, q2]
      exact ⟨rfl, rfl, rfl⟩
  refine ⟨hn, by rw [hh]; exact h2, hf.1, hear_ok (stamp_ok h.a) (by omega) (by omega) _ _, stamp_ok hm, ?_, ?_, ?_, by omega, fun x hx => ?_, .inr hf.2, .inr ⟨?_, ?_, ?_⟩⟩
  · show next ma = _
    rw [two_next h hi]
    rfl
  · show next m = _
    rw [hn]
    rfl
  · show (stamp ma).op.filter _ = L
    rw [two_op h hi, List.filter_append, hh]
    have e1 : L.filter (fun x => !Sr.told x ((i : Int) + 1) (Sr.note mb.h ((i : Int) + 1)).seen) = L := List.filter_eq_self.2 fun x hx => by rw [h3 x hx]; rfl
    rw [e1]
    have e2 : Sr.told ((i : Int) + 1) ((i : Int) + 1) (Sr.note mb.h ((i : Int) + 1)).seen = true := by unfold Sr.told; rw [decide_eq_true rfl]; rfl
    rw [List.filter_cons, e2]
    simp
  · have := h.low x hx
    refine ⟨this.1, by omega, ?_⟩
    show Sr.told x m.h.last m.h.seen = false
    rw [hh, h2]
    exact h3 x hx
  · show m.h.some = true
    rw [hh]; exact h1
  · show 1 ≤ m.h.last
    rw [hh, h2]; omega
  · show m.h.last ≤ _
    rw [hh, h2]; omega
/-- Nothing more is told. -/
theorem two_end (h : Two i t L ma mb) (now s : Int) : (hear ma now s mb.h.last mb.h.seen).op = L := by
  show ma.op.filter _ = L
  rw [h.op]
  exact List.filter_eq_self.2 fun x hx => by rw [(h.low x hx).2.2]; rfl
end
end Lk
