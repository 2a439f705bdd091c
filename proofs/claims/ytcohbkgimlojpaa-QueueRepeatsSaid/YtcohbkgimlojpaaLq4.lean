/-
Several texts in one: Qun Quo Imp Iwk.
-/
import Derived.Test.YtcohbkgimlojpaaLq3
namespace Qu
def inEq (p q : Gm.In) : Bool := p.x == q.x && p.y == q.y && p.b == q.b
end Qu
namespace Go.Proofs.Ytcohbkgimlojpaa
open Go.RowKit
set_option linter.unusedVariables false
set_option linter.unusedSimpArgs false
theorem in_any_eql (p q : Gm.In) (w : World) : (binOp .eql 24 (.agg (Qu.inCells p)) (.agg (Qu.inCells q))).run Try.prog w = .ok (.bool (Qu.inEq p q)) w := by
  obtain ⟨a, b, c⟩ := p
  obtain ⟨a', b', c'⟩ := q
  unfold Qu.inCells
  dsimp only
  have h : (Op.equalIn 10000 24 (.agg #[.int .i8 a, .int .i8 b, .int .u8 c]) (.agg #[.int .i8 a', .int .i8 b', .int .u8 c'])).run Try.prog w = .ok (Qu.inEq ⟨a, b, c⟩ ⟨a', b', c'⟩) w := by
    by_cases h1 : a = a'
    · by_cases h2 : b = b'
      · by_cases h3 : c = c'
        · subst h1 h2 h3; go_simp <;> simp [Qu.inEq]
        · have h4 : (c == c') = false := by simpa using h3
          subst h1 h2; go_simp <;> simp [h4, h3, Qu.inEq]
      · have h4 : (b == b') = false := by simpa using h2
        subst h1; go_simp <;> simp [h4, h2, Qu.inEq]
    · have h4 : (a == a') = false := by simpa using h1
      go_simp <;> simp [h4, h1, Qu.inEq]
  generalize Qu.inEq ⟨a, b, c⟩ ⟨a', b', c'⟩ = r at *
  generalize #[Value.int .i8 a, .int .i8 b, .int .u8 c] = F at *
  generalize #[Value.int .i8 a', .int .i8 b', .int .u8 c'] = G at *
  go_simp
theorem i64_wrap64 (x : Int) : IntKind.i64.wrap x = wrap64 x := by rw [IntKind.wrap_i64]; unfold wrap64; omega
set_option maxRecDepth 100000 in
set_option maxHeartbeats 4000000 in
theorem done14_law {LP : QuP} (C : QueueC LP) (last : Gm.In) (hlast : Gm.tyIn last) (A : Option Addr) (c : Nat) (l : List Qu.Op) (num : Int) (inp : Gm.In) (hinp : Gm.tyIn inp) (w : World) (hty : ∀ q ∈ l, q.ty) (hnm : l.length ≤ maxLen) (hL : Lies w w.heap.size 5 A l.length (l.flatMap Qu.Op.cells)) :
    Calls Try.prog 5 #[.agg (Qu.inCells last), .slice A l.length c, .int .i64 num, .agg (Qu.inCells inp)] w fun e w' => e = .returned (.bool true) ∧ Below w.heap.size w w' := by
  obtain ⟨X1, hX1⟩ : ∃ X1, X1 = (w.alloc (.cells (Qu.inCells last) 24)).alloc (.cells (Qu.inCells inp) 24) := ⟨_, rfl⟩
  obtain ⟨P0, hP0⟩ : ∃ P0, P0 = w.heap.size := ⟨_, rfl⟩
  obtain ⟨P1, hP1⟩ : ∃ P1, P1 = w.heap.size + 1 := ⟨_, rfl⟩
  have BL := Lib.hid (show Box X1 P0 24 (Qu.inCells last) by rw [hX1, hP0]; exact (Box.made w _ _).alloc _)
  have BI := Lib.hid (show Box X1 P1 24 (Qu.inCells inp) by rw [hX1, hP1]; exact Box.made_at _ _ _ (by simp))
  have KX := Lib.hid (show Below w.heap.size w X1 by rw [hX1]; exact two_belowQ w _ _)
  have KG := Lib.hid (show ∀ j, (j = P0 ∨ j = P1) → w.heap.size ≤ j ∧ j < X1.heap.size by intro j hj; rw [hX1]; simp; omega)
  have c0 := Lib.hid (P14.new C (LP := LP) (X := X1) (w := w) (G := fun j => j = P0 ∨ j = P1) 0 last (by decide) hlast KX.out KG.out)
  have ct := fun X => Lib.hid (told14_law C X)
  have HL := Lib.hid hL
  have HTY := Lib.hid hty
  clear hL hty
  unfold maxLen at hnm
  obtain ⟨n, hn⟩ : ∃ n, n = l.length := ⟨_, rfl⟩
  have NL := Lib.hid hn
  rw [← hn] at hnm ⊢
  have hL2 := HL.out
  rw [← hn] at hL2
  have HL2 := Lib.hid hL2
  clear hL2 hn HL
  obtain ⟨N, hN, hN2⟩ := modN num 71 (by decide)
  have HNN := Lib.hid hN
  clear hN
  have k00 : X1.cell? ⟨P0, 0, none⟩ = some (.int .i8 last.x) := BL.out.cell 0
  have k01 : X1.cell? ⟨P0, 1, none⟩ = some (.int .i8 last.y) := BL.out.cell 1
  have k02 : X1.cell? ⟨P0, 2, none⟩ = some (.int .u8 last.b) := BL.out.cell 2
  unfold Qu.inCells at c0 ⊢
  go_enter Try.func5, Try.ntmps5
  go_upto_region 1 with fail
  rw [show (w.alloc (.cells #[.int .i8 last.x, .int .i8 last.y, .int .u8 last.b] 24)).alloc (.cells #[.int .i8 inp.x, .int .i8 inp.y, .int .u8 inp.b] 24) = X1 from hX1.symm, ← hP1, ← hP0]
  clear hX1 hP0 hP1
  go_upto_region 4 with (go_at_call 7; ((with_reducible refine c0.out.mono ?_); rintro e w0 ⟨B, rfl, h0, k'⟩; have H0 := Lib.hid h0; have I0 := Lib.hid (BI.out.below k' BI.out.lt); clear h0 k'))
  clear k00 k01 k02 c0 BL KX KG BI
  by_cases h40 : (40 : Int) < n
  · go_wp2_with (go_at_call 9; ((with_reducible refine (ct _).out.mono ?_); rintro e w3 ⟨rfl, h3⟩; have H3 := Lib.hid (HoldO.below C.ob H0.out h3); clear h3))
    go_ret
    exact ⟨rfl, H3.out.down⟩
  · go_wp2_with fail
    go_loopw [10] (fun i wr => ∃ (k : Nat) (M : Qu.M), k ≤ n ∧ i = .int .i64 k ∧ M.Ok ∧ M.from_ = 0 ∧ Box wr P1 24 (Qu.inCells inp) ∧ P14 LP w B M (fun j => j = P0 ∨ j = P1) wr) (fun i _ => n - (intOf i).toNat)
    case atStart => exact ⟨0, Qu.new 0 last, Nat.zero_le _, rfl, Qu.new_ok (by decide) hlast, rfl, I0.out, H0.out⟩
    case round =>
      obtain ⟨k, M, hk, rfl, hM, hfr, hI, hP⟩ := hrel
      have HP := Lib.hid hP
      have HM := Lib.hid hM
      have HI := Lib.hid hI
      have HFR := Lib.hid hfr
      clear hP hM hI hfr H0 I0
      by_cases hlt : k < n
      · have hkn : (k : Int) < n := by omega
        obtain ⟨ad, rfl, hadl⟩ := HL2.out.start (by omega)
        have nb := NL.out
        obtain ⟨q, hqe⟩ : ∃ q, q = l[k]'(by omega) := ⟨_, rfl⟩
        have q0 := Lib.hid (show ∀ W, Below w.heap.size w W → ∀ j, j < 5 → W.cell? ((ad.add (k * 5)).add j) = q.cells[j]? from fun W hW j hj => by rw [hqe]; exact qop_at (HL2.out.below hW) nb k (by omega) j hj)
        have hq : q.ty := by rw [hqe]; exact HTY.out _ (List.getElem_mem _)
        clear hqe nb
        obtain ⟨qk, qf, qi⟩ := q
        obtain ⟨t1, t2, t3⟩ := hq
        dsimp only at t1 t2 t3
        obtain ⟨K, hK, hK2⟩ := modN qf 64 (by decide)
        have HKK := Lib.hid hK
        clear hK
        have c2 := P14.put (LP := LP) (w := w) (B := B) (m := M) (G := fun j => j = P0 ∨ j = P1) (X := wr.drew) C HM.out K qi (by omega) t3 (HoldO.drew C.ob HP.out)
        have HO2 := Lib.hid (Qu.put_ok HM.out K t3)
        have HF2 := Lib.hid (show (Qu.put M K qi).from_ = 0 by have : (Qu.put M K qi).from_ = M.from_ := (by unfold Qu.put; split <;> rfl); rw [this, HFR.out])
        generalize Qu.put M K qi = M2 at *
        generalize Qu.putOk M K qi = okk at *
        rw [← HKK.out, ← i64_wrap64] at c2
        have C2 := Lib.hid c2
        clear c2 HKK
        unfold Qu.inCells at C2
        have ID := Lib.hid HI.out.drew
        have kd1 : wr.drew.cell? ⟨(ad.add (k * 5)).block, (ad.add (k * 5)).off + 1, none⟩ = some (.int .i64 qf) ∧ wr.drew.cell? ⟨(ad.add (k * 5)).block, (ad.add (k * 5)).off + 2, none⟩ = some (.int .i8 qi.x) ∧ wr.drew.cell? ⟨(ad.add (k * 5)).block, (ad.add (k * 5)).off + 2 + 1, none⟩ = some (.int .i8 qi.y) ∧ wr.drew.cell? ⟨(ad.add (k * 5)).block, (ad.add (k * 5)).off + 2 + 2, none⟩ = some (.int .u8 qi.b) :=
          ⟨q0.out _ HP.out.down.drew 1 (by decide), q0.out _ HP.out.down.drew 2 (by decide), q0.out _ HP.out.down.drew 3 (by decide), q0.out _ HP.out.down.drew 4 (by decide)⟩
        go_upto_region 9 with fail
        go_region_held3 (fun w' => w'.cell? ⟨(ad.add (k * 5)).block, (ad.add (k * 5)).off + 1, none⟩ = some (.int .i64 qf) ∧ w'.cell? ⟨(ad.add (k * 5)).block, (ad.add (k * 5)).off + 2, none⟩ = some (.int .i8 qi.x) ∧ w'.cell? ⟨(ad.add (k * 5)).block, (ad.add (k * 5)).off + 2 + 1, none⟩ = some (.int .i8 qi.y) ∧ w'.cell? ⟨(ad.add (k * 5)).block, (ad.add (k * 5)).off + 2 + 2, none⟩ = some (.int .u8 qi.b)) (first | exact kd1 | exact kd2 | go_keep) (first
          | (go_at_call 10; (with_reducible refine C2.out.mono ?_); rintro e X2 ⟨rfl, h', k'⟩; have H2 := Lib.hid h'; have I2 := Lib.hid (k'.box (.inr rfl) ID.out); clear h' k'; have kd2 : X2.cell? ⟨(ad.add (k * 5)).block, (ad.add (k * 5)).off + 1, none⟩ = some (.int .i64 qf) ∧ X2.cell? ⟨(ad.add (k * 5)).block, (ad.add (k * 5)).off + 2, none⟩ = some (.int .i8 qi.x) ∧ X2.cell? ⟨(ad.add (k * 5)).block, (ad.add (k * 5)).off + 2 + 1, none⟩ = some (.int .i8 qi.y) ∧ X2.cell? ⟨(ad.add (k * 5)).block, (ad.add (k * 5)).off + 2 + 2, none⟩ = some (.int .u8 qi.b) :=
          ⟨q0.out _ H2.out.down 1 (by decide), q0.out _ H2.out.down 2 (by decide), q0.out _ H2.out.down 3 (by decide), q0.out _ H2.out.down 4 (by decide)⟩))
        all_goals (
          clear kd1 kd2
          go_wp2_with fail
          go_roundw
          case rel => exact ⟨k + 1, M2, by omega, by go_num, HO2.out, HF2.out, I2.out, H2.out⟩
          case measure => simp [intOf]; omega)
      · obtain rfl : k = n := by omega
        have hkn : ¬ (k : Int) < k := by omega
        clear hlt HL2 HTY NL
        -- what was
        go_upto_region 10 with fail
        obtain ⟨Pw, hPw⟩ : ∃ Pw, Pw = wr.heap.size := ⟨_, rfl⟩
        obtain ⟨Xa, hXa⟩ : ∃ Xa, Xa = wr.alloc (.cells (Qu.arr 192 (Qu.wf M 0)) 35) := ⟨_, rfl⟩
        have Ha := Lib.hid (show P14 LP w B M (fun j => (j = P0 ∨ j = P1) ∨ j = Pw) Xa by rw [hXa, hPw]; exact HoldO.alloc C.ob HP.out _)
        have Wa := Lib.hid (show Box Xa Pw 35 (Qu.arr 192 (Qu.wf M 0)) by rw [hXa, hPw]; exact Box.made _ _ _)
        have Ia := Lib.hid (show Box Xa P1 24 (Qu.inCells inp) by rw [hXa]; exact HI.out.alloc _)
        go_upto_region 11 with (refine wpList_alloc_z (cs := Qu.arr 192 (Qu.wf M 0)) rfl rfl (ins_zero M) rfl ?_; simp only [Act.put, List.setIfInBounds_toArray, List.set_cons_succ, List.set_cons_zero])
        rw [← hXa, ← hPw]
        clear hXa hPw HP HI
        obtain ⟨Pi, hPi⟩ : ∃ Pi, Pi = Xa.heap.size := ⟨_, rfl⟩
        obtain ⟨Xb, hXb⟩ : ∃ Xb, Xb = Xa.alloc (.cells (Qu.arr 64 (Qu.hf M 0)) 34) := ⟨_, rfl⟩
        have Hb := Lib.hid (show P14 LP w B M (fun j => ((j = P0 ∨ j = P1) ∨ j = Pw) ∨ j = Pi) Xb by rw [hXb, hPi]; exact HoldO.alloc C.ob Ha.out _)
        have Wb := Lib.hid (show Box Xb Pw 35 (Qu.arr 192 (Qu.wf M 0)) by rw [hXb]; exact Wa.out.alloc _)
        have Fb := Lib.hid (show Box Xb Pi 34 (Qu.arr 64 (Qu.hf M 0)) by rw [hXb, hPi]; exact Box.made _ _ _)
        have Ib := Lib.hid (show Box Xb P1 24 (Qu.inCells inp) by rw [hXb]; exact Ia.out.alloc _)
        go_upto_region 12 with (refine wpList_alloc_z (cs := Qu.arr 64 (Qu.hf M 0)) rfl rfl (bools_zero' M) rfl ?_; simp only [Act.put, List.setIfInBounds_toArray, List.set_cons_succ, List.set_cons_zero])
        rw [← hXb, ← hPi]
        clear hXb hPi Ha Wa Ia
        obtain ⟨G, hG⟩ : ∃ G : Nat → Prop, G = fun j => ((j = P0 ∨ j = P1) ∨ j = Pw) ∨ j = Pi := ⟨_, rfl⟩
        rw [← hG] at Hb
        have G1 : G P1 := by rw [hG]; exact .inl (.inl (.inr rfl))
        have Gw : G Pw := by rw [hG]; exact .inl (.inr rfl)
        have Gi : G Pi := by rw [hG]; exact .inr rfl
        clear hG
        have hwi : Pw ≠ Pi := Box.apart Wb.out Fb.out (by decide)
        go_wp2_with fail
        go_loopw [13] (fun i wx => ∃ j : Nat, j ≤ 64 ∧ i = .int .i64 j ∧ Box wx Pw 35 (Qu.arr 192 (Qu.wf M j)) ∧ Box wx Pi 34 (Qu.arr 64 (Qu.hf M j)) ∧ Box wx P1 24 (Qu.inCells inp) ∧ P14 LP w B M G wx) (fun i _ => 64 - (intOf i).toNat)
        case atStart => exact ⟨0, by omega, rfl, Wb.out, Fb.out, Ib.out, Hb.out⟩
        case round =>
          obtain ⟨j, hj, rfl, hw, hf, hI, hP⟩ := hrel
          have W1 := Lib.hid hw
          have F1 := Lib.hid hf
          have I1 := Lib.hid hI
          have HP := Lib.hid hP
          clear hw hf hI hP Wb Fb Ib Hb
          by_cases hjl : j < 64
          · have hj64 : (j : Int) < 64 := by omega
            have hj0 : (0 : Int) ≤ (j : Int) := by omega
            have c1 := P14.at_ (LP := LP) (w := w) (B := B) (m := M) (G := G) (X := wr) C HM.out j (by omega) HP.out
            rw [Qu.at_is j (by rw [HFR.out]; omega)] at c1
            have hflag := Qu.atN_flag (m := M) (d := j) (n := 64) (by omega)
            rw [hflag] at c1
            have C1 := Lib.hid c1
            have EW := Lib.hid (show Qu.arr 192 (Qu.upd (Qu.upd (Qu.upd (Qu.wf M j) (j * 3) (.int .i8 (Qu.atN M j 64).1.x)) (j * 3 + 1) (.int .i8 (Qu.atN M j 64).1.y)) (j * 3 + 2) (.int .u8 (Qu.atN M j 64).1.b)) = Qu.arr 192 (Qu.wf M (j + 1)) from Qu.arr_congr fun x _ => Qu.wf_next M j x)
            have EF := Lib.hid (show Qu.arr 64 (Qu.upd (Qu.hf M j) j (.bool (M.known j).isSome)) = Qu.arr 64 (Qu.hf M (j + 1)) from Qu.arr_congr fun x _ => Qu.hf_next M j x)
            clear c1 hflag
            generalize (M.known j).isSome = fl at *
            generalize (Qu.atN M j 64).1 = v at *
            unfold Qu.inCells at C1
            go_upto_region 15 with fail
            go_wp2_with (go_at_call 14; ((with_reducible refine C1.out.mono ?_); rintro e X5 ⟨rfl, h', k'⟩; have H5 := Lib.hid h'; have W5 := Lib.hid (W1.out.below k' W1.out.lt); have F5 := Lib.hid (F1.out.below k' F1.out.lt); have I5 := Lib.hid (I1.out.below k' I1.out.lt); clear h' k'; have s1 := Lib.hid (arr_store W5.out (show j * 3 < 192 by omega) (.int .i8 v.x)); have s2 := Lib.hid (arr_store s1.out (show j * 3 + 1 < 192 by omega) (.int .i8 v.y)); have s3 := Lib.hid (arr_store s2.out (show j * 3 + 2 < 192 by omega) (.int .u8 v.b)); have f3 := Lib.hid (((F5.out.far (p := ⟨Pw, j * 3, none⟩) (Ne.symm hwi) (.int .i8 v.x)).far (p := ⟨Pw, j * 3 + 1, none⟩) (Ne.symm hwi) (.int .i8 v.y)).far (p := ⟨Pw, j * 3 + 2, none⟩) (Ne.symm hwi) (.int .u8 v.b)); have q0 := arr_cell W5.out (show j * 3 < 192 by omega); have q1 := arr_cell W5.out (show j * 3 + 1 < 192 by omega); have q2 := arr_cell W5.out (show j * 3 + 2 < 192 by omega); have qf := W5.out.free; have ql := W5.out.lt; have r0 := arr_cell f3.out (show j < 64 by omega); have rf := f3.out.free; have rl := f3.out.lt; generalize Qu.wf M j (j * 3) = o0 at q0; generalize Qu.wf M j (j * 3 + 1) = o1 at q1; generalize Qu.wf M j (j * 3 + 2) = o2 at q2; generalize Qu.hf M j j = o3 at r0))
            have n1 : P1 ≠ Pw := Box.apart I5.out W5.out (by decide)
            have n2 : P1 ≠ Pi := Box.apart I5.out F5.out (by decide)
            go_roundw
            case rel =>
              refine ⟨j + 1, by omega, by go_num, ?_, ?_, ?_, ?_⟩
              · have := s3.out
                rw [EW.out] at this
                exact this.far (p := ⟨Pi, j, none⟩) hwi _
              · have := arr_store f3.out hjl (.bool fl)
                rw [EF.out] at this
                exact this
              · exact (((I5.out.far (p := ⟨Pw, j * 3, none⟩) n1 _).far (p := ⟨Pw, j * 3 + 1, none⟩) n1 _).far (p := ⟨Pw, j * 3 + 2, none⟩) n1 _).far (p := ⟨Pi, j, none⟩) n2 _
              · exact HoldO.put C.ob (HoldO.put C.ob (HoldO.put C.ob (HoldO.put C.ob H5.out Gw _ _) Gw _ _) Gw _ _) Gi _ _
            case measure => simp [intOf]; omega
          · obtain rfl : j = 64 := by omega
            have hj64 : ¬ ((64 : Nat) : Int) < 64 := by omega
            have hK := HNN.out
            go_wp2_with fail
            clear hK
            go_loopw [15] (fun i wx => ∃ k : Nat, k ≤ N ∧ i = .int .i64 k ∧ Box wx Pw 35 (Qu.arr 192 (Qu.wf M 64)) ∧ Box wx Pi 34 (Qu.arr 64 (Qu.hf M 64)) ∧ Box wx P1 24 (Qu.inCells inp) ∧ P14 LP w B (Qu.dn M inp k) G wx) (fun i _ => N - (intOf i).toNat)
            case atStart => exact ⟨0, Nat.zero_le _, rfl, W1.out, F1.out, I1.out, HP.out⟩
            case round =>
              obtain ⟨k, hk, rfl, hw, hf, hI, hP⟩ := hrel
              have W2 := Lib.hid hw
              have F2 := Lib.hid hf
              have I2 := Lib.hid hI
              have HP2 := Lib.hid hP
              clear hw hf hI hP W1 F1 I1 HP
              by_cases hkl : k < N
              · have hkN : (k : Int) < (N : Int) := by omega
                have cd := Lib.hid (P14.done (LP := LP) (w := w) (B := B) (m := Qu.dn M inp k) (G := G) (X := wr) C (Qu.dn_ok HM.out hinp HFR.out k (by omega)) (by rw [Qu.dn_from, HFR.out]; omega) inp hinp HP2.out)
                have p0 : wr.cell? ⟨P1, 0, none⟩ = some (.int .i8 inp.x) := I2.out.cell 0
                have p1 : wr.cell? ⟨P1, 1, none⟩ = some (.int .i8 inp.y) := I2.out.cell 1
                have p2 : wr.cell? ⟨P1, 2, none⟩ = some (.int .u8 inp.b) := I2.out.cell 2
                unfold Qu.inCells at cd
                go_wp2_with (go_at_call 12; ((with_reducible refine cd.out.mono ?_); rintro e X5 ⟨rfl, h', k'⟩; have H5 := Lib.hid h'; have W5 := Lib.hid (k'.box Gw W2.out); have F5 := Lib.hid (k'.box Gi F2.out); have I5 := Lib.hid (k'.box G1 I2.out); clear h' k'))
                go_roundw
                case rel => exact ⟨k + 1, by omega, by go_num, W5.out, F5.out, I5.out, H5.out⟩
                case measure => simp [intOf]; omega
              · obtain rfl : k = N := by omega
                have hkN : ¬ (k : Int) < (k : Int) := by omega
                have HM3 := Lib.hid (Qu.dn_ok HM.out hinp HFR.out k (by omega))
                have HF3 := Lib.hid (show (Qu.dn M inp k).from_ = k by rw [Qu.dn_from, HFR.out]; omega)
                have HK3 := Lib.hid (Qu.dn_known HM.out inp k)
                have HL3 := Lib.hid (Qu.dn_last M inp k)
                generalize Qu.dn M inp k = M3 at *
                go_wp2_with fail
                go_loopw [16, 17, 18] (fun i _ _ wx => ∃ j : Nat, k ≤ j ∧ (j = k ∨ j ≤ 64) ∧ i = .int .i64 j ∧ Box wx Pw 35 (Qu.arr 192 (Qu.wf M 64)) ∧ Box wx Pi 34 (Qu.arr 64 (Qu.hf M 64)) ∧ Box wx P1 24 (Qu.inCells inp) ∧ P14 LP w B M3 G wx) (fun i _ _ _ => 64 - (intOf i).toNat)
                case atStart => exact ⟨k, Nat.le_refl _, .inl rfl, rfl, W2.out, F2.out, I2.out, HP2.out⟩
                case round =>
                  obtain ⟨j, hj, hjk, rfl, hw, hf, hI, hP⟩ := hrel
                  have W3 := Lib.hid hw
                  have F3 := Lib.hid hf
                  have I3 := Lib.hid hI
                  have HP3 := Lib.hid hP
                  clear hw hf hI hP W2 F2 I2 HP2
                  by_cases hjl : j < 64
                  · have hj64 : (j : Int) < 64 := by omega
                    have hj0 : (0 : Int) ≤ (j : Int) := by omega
                    have c1 := P14.at_ (LP := LP) (w := w) (B := B) (m := M3) (G := G) (X := wr) C HM3.out j (by omega) HP3.out
                    rw [Qu.at_is (j - k) (by rw [HF3.out]; omega)] at c1
                    have hkn3 : M3.known (j - k) = M.known j := by rw [HK3.out, if_pos (by omega), show j - k + k = j by omega]
                    have hif : wr.cell? ⟨Pi, j, none⟩ = some (.bool (M.known j).isSome) := (arr_cell F3.out hjl).trans (by rw [Qu.hf_at M hjl])
                    have ns := fun i W => in_notsame i W
                    unfold Qu.inCells at ns
                    cases hkj : M.known j with
                    | none =>
                      rw [hkj] at hif hkn3
                      have hif : wr.cell? ⟨Pi, j, none⟩ = some (.bool false) := hif
                      have hfl := Qu.atN_flag (m := M3) (d := j - k) (n := 64) (by omega)
                      rw [hkn3] at hfl
                      generalize Qu.atN M3 (j - k) 64 = v at *
                      obtain ⟨v1, fl⟩ := v
                      dsimp only at c1 hfl
                      subst hfl
                      have C1 := Lib.hid c1
                      clear c1 hif ns
                      unfold Qu.inCells at C1
                      go_upto_region 25 with (go_at_call 14; ((with_reducible refine C1.out.mono ?_); rintro e X5 ⟨rfl, h', k'⟩; have H5 := Lib.hid (HoldO.alloc C.ob h' (.cells (Qu.inCells v1) 24)); have W5 := Lib.hid ((W3.out.below k' W3.out.lt).alloc (.cells (Qu.inCells v1) 24)); have F5 := Lib.hid ((F3.out.below k' F3.out.lt).alloc (.cells (Qu.inCells v1) 24)); have I5 := Lib.hid ((I3.out.below k' I3.out.lt).alloc (.cells (Qu.inCells v1) 24)); have V5 := Lib.hid (Box.made X5 24 (Qu.inCells v1)); clear h' k'))
                      rw [show X5.alloc (.cells #[.int .i8 v1.x, .int .i8 v1.y, .int .u8 v1.b] 24) = X5.alloc (.cells (Qu.inCells v1) 24) from rfl]
                      generalize X5.heap.size = Pv at *
                      generalize X5.alloc (.cells (Qu.inCells v1) 24) = X6 at *
                      have hif : X6.cell? ⟨Pi, j, none⟩ = some (.bool false) := (arr_cell F5.out hjl).trans (by rw [Qu.hf_at M hjl, hkj]; rfl)
                      clear hkj
                      go_quiet (fail)
                      go_wp2_with fail
                      go_roundw
                      case rel => exact ⟨j + 1, by omega, .inr (by omega), by go_num, W5.out.below (draws_below (Below.refl _ _) _) W5.out.lt, F5.out.below (draws_below (Below.refl _ _) _) F5.out.lt, I5.out.below (draws_below (Below.refl _ _) _) I5.out.lt, (HoldO.below C.ob H5.out (draws_below (Below.refl _ _) _)).less fun j hj => .inl hj⟩
                      case measure => simp [intOf]; omega
                    | some v1 =>
                      rw [hkj] at hif hkn3
                      have hv := Qu.atN_known (n := 64) hkn3 (by omega)
                      have hv2 := Qu.atN_known (n := 64) hkj hjl
                      rw [hv] at c1
                      have C1 := Lib.hid c1
                      have ns1 := ns v1
                      clear c1 hif hv ns
                      unfold Qu.inCells at C1
                      go_upto_region 25 with (go_at_call 14; ((with_reducible refine C1.out.mono ?_); rintro e X5 ⟨rfl, h', k'⟩; have H5 := Lib.hid (HoldO.alloc C.ob h' (.cells (Qu.inCells v1) 24)); have W5 := Lib.hid ((W3.out.below k' W3.out.lt).alloc (.cells (Qu.inCells v1) 24)); have F5 := Lib.hid ((F3.out.below k' F3.out.lt).alloc (.cells (Qu.inCells v1) 24)); have I5 := Lib.hid ((I3.out.below k' I3.out.lt).alloc (.cells (Qu.inCells v1) 24)); have V5 := Lib.hid (Box.made X5 24 (Qu.inCells v1)); clear h' k'))
                      rw [show X5.alloc (.cells #[.int .i8 v1.x, .int .i8 v1.y, .int .u8 v1.b] 24) = X5.alloc (.cells (Qu.inCells v1) 24) from rfl]
                      generalize X5.heap.size = Pv at *
                      generalize X5.alloc (.cells (Qu.inCells v1) 24) = X6 at *
                      have hif : X6.cell? ⟨Pi, j, none⟩ = some (.bool true) := (arr_cell F5.out hjl).trans (by rw [Qu.hf_at M hjl, hkj]; rfl)
                      have a0 : X6.cell? ⟨Pv, 0, none⟩ = some (.int .i8 v1.x) := V5.out.cell 0
                      have a1 : X6.cell? ⟨Pv, 1, none⟩ = some (.int .i8 v1.y) := V5.out.cell 1
                      have a2 : X6.cell? ⟨Pv, 2, none⟩ = some (.int .u8 v1.b) := V5.out.cell 2
                      have b0 : X6.cell? ⟨Pw, j * 3, none⟩ = some (.int .i8 v1.x) := (arr_cell W5.out (by omega)).trans (by
                        have := Qu.wf_at M (i := 64) (j := j) 0 hjl (by decide)
                        rw [Nat.add_zero, hv2] at this
                        rw [this]; rfl)
                      have b1 : X6.cell? ⟨Pw, j * 3 + 1, none⟩ = some (.int .i8 v1.y) := (arr_cell W5.out (by omega)).trans (by rw [Qu.wf_at M 1 hjl (by decide), hv2]; rfl)
                      have b2 : X6.cell? ⟨Pw, j * 3 + 2, none⟩ = some (.int .u8 v1.b) := (arr_cell W5.out (by omega)).trans (by rw [Qu.wf_at M 2 hjl (by decide), hv2]; rfl)
                      clear hkj hv2 hkn3
                      go_quiet (fail)
                      go_wp2_with fail
                      go_roundw
                      case rel => exact ⟨j + 1, by omega, .inr (by omega), by go_num, W5.out.below (draws_below (Below.refl _ _) _) W5.out.lt, F5.out.below (draws_below (Below.refl _ _) _) F5.out.lt, I5.out.below (draws_below (Below.refl _ _) _) I5.out.lt, (HoldO.below C.ob H5.out (draws_below (Below.refl _ _) _)).less fun j hj => .inl hj⟩
                      case measure => simp [intOf]; omega
                  · have hj64 : ¬ (j : Int) < 64 := by omega
                    have hk0 : (0 : Int) ≤ (k : Int) := by omega
                    have c1 := P14.at_ (LP := LP) (w := w) (B := B) (m := M3) (G := G) (X := wr) C HM3.out k (by omega) HP3.out
                    rw [Qu.at_is 0 (by rw [HF3.out]; omega)] at c1
                    have cf := fun G X hX => P14.from_ (LP := LP) (w := w) (B := B) (m := M3) (G := G) (X := X) C HM3.out hX
                    rw [HF3.out] at cf
                    obtain ⟨f, hf⟩ : ∃ f, f = (k : Int) - 1 := ⟨_, rfl⟩
                    have w1 := Lib.hid (show IntKind.i64.wrap ((k : Int) - 1) = f by rw [IntKind.wrap_i64, hf]; omega)
                    have w2 := Lib.hid (show wrap64 ((k : Int) - 1) = f by rw [hf]; exact IntWalk.wrap64_in _ (by omega))
                    have cp := fun G X hX => P14.put (LP := LP) (w := w) (B := B) (m := M3) (G := G) (X := X) C HM3.out f Qu.none_ (by omega) (by unfold Qu.none_ Gm.tyIn; decide) hX
                    rw [Qu.put_ahead (by rw [HF3.out, hf]; omega), show Qu.inCells Qu.none_ = #[.int .i8 0, .int .i8 0, .int .u8 0] from rfl] at cp
                    have hc : (Qu.atN M3 0 64).2 = true ∨ ((Qu.atN M3 0 64).2 = false ∧ ((Qu.atN M3 0 64).1 = inp ∨ k = 0)) := by
                      cases hk1 : M3.known 0 with
                      | some v => exact .inl (by rw [Qu.atN_known hk1 (by decide)])
                      | none =>
                        refine .inr ?_
                        rw [Qu.atN_far (n := 64) (d := 0) (by decide), Qu.atN_succ_none hk1]
                        refine ⟨rfl, ?_⟩
                        by_cases h0 : 0 < k
                        · exact .inl (HL3.out h0)
                        · exact .inr (by omega)
                    clear hf
                    generalize Qu.atN M3 0 64 = vx at *
                    obtain ⟨x1, x2⟩ := vx
                    dsimp only at c1 hc
                    have C1 := Lib.hid c1
                    have CF := Lib.hid cf
                    have CP := Lib.hid cp
                    clear c1 cf cp
                    unfold Qu.inCells at C1
                    go_upto_region 28 with (go_at_call 14; ((with_reducible refine C1.out.mono ?_); rintro e X5 ⟨rfl, h', k'⟩; have H5 := Lib.hid (HoldO.alloc C.ob h' (.cells (Qu.inCells x1) 24)); have I5 := Lib.hid ((I3.out.below k' I3.out.lt).alloc (.cells (Qu.inCells x1) 24)); have V5 := Lib.hid (Box.made X5 24 (Qu.inCells x1)); clear h' k'))
                    rw [show X5.alloc (.cells #[.int .i8 x1.x, .int .i8 x1.y, .int .u8 x1.b] 24) = X5.alloc (.cells (Qu.inCells x1) 24) from rfl]
                    generalize X5.heap.size = Pv at *
                    generalize X5.alloc (.cells (Qu.inCells x1) 24) = X6 at *
                    have es := fun i W => in_same i W
                    have nsx := fun W => in_any_eql x1 inp W
                    unfold Qu.inCells at es nsx
                    have w1 := w1.out
                    have w2 := w2.out
                    rcases hc with rfl | ⟨rfl, hc⟩
                    · clear es nsx
                      go_wp2_with (first
                        | (go_at_call 9; ((with_reducible refine (ct _).out.mono ?_); rintro e X7 ⟨rfl, h'⟩; have H7 := Lib.hid (HoldO.below C.ob H5.out h'); have I7 := Lib.hid (I5.out.below h' I5.out.lt); have V7 := Lib.hid (V5.out.below h' V5.out.lt); clear h'))
                        | (go_at_call 16; ((with_reducible refine (CF.out _ _ H7.out).mono ?_); rintro e X8 ⟨rfl, h', k'⟩; have H8 := Lib.hid h'; have I8 := Lib.hid (I7.out.below k' I7.out.lt); have V8 := Lib.hid (V7.out.below k' V7.out.lt); clear h' k'; have a0 : X8.cell? ⟨Pv, 0, none⟩ = some (.int .i8 x1.x) := V8.out.cell 0; have a1 : X8.cell? ⟨Pv, 1, none⟩ = some (.int .i8 x1.y) := V8.out.cell 1; have a2 : X8.cell? ⟨Pv, 2, none⟩ = some (.int .u8 x1.b) := V8.out.cell 2; have b0 : X8.cell? ⟨P1, 0, none⟩ = some (.int .i8 inp.x) := I8.out.cell 0; have b1 : X8.cell? ⟨P1, 1, none⟩ = some (.int .i8 inp.y) := I8.out.cell 1; have b2 : X8.cell? ⟨P1, 2, none⟩ = some (.int .u8 inp.b) := I8.out.cell 2))
                        | (go_at_call 10; ((with_reducible refine (CP.out _ _ H8.out).mono ?_); rintro e X9 ⟨rfl, h', k'⟩; have H9 := Lib.hid h'; clear h' k')))
                      all_goals (
                        go_ret
                        exact ⟨rfl, H9.out.down⟩)
                    · rcases hc with rfl | hk0
                      · have es1 := es x1
                        clear es nsx
                        go_wp2_with (first
                          | (go_at_call 9; ((with_reducible refine (ct _).out.mono ?_); rintro e X7 ⟨rfl, h'⟩; have H7 := Lib.hid (HoldO.below C.ob H5.out h'); have I7 := Lib.hid (I5.out.below h' I5.out.lt); have V7 := Lib.hid (V5.out.below h' V5.out.lt); clear h'))
                          | (go_at_call 16; ((with_reducible refine (CF.out _ _ H7.out).mono ?_); rintro e X8 ⟨rfl, h', k'⟩; have H8 := Lib.hid h'; have I8 := Lib.hid (I7.out.below k' I7.out.lt); have V8 := Lib.hid (V7.out.below k' V7.out.lt); clear h' k'; have a0 : X8.cell? ⟨Pv, 0, none⟩ = some (.int .i8 x1.x) := V8.out.cell 0; have a1 : X8.cell? ⟨Pv, 1, none⟩ = some (.int .i8 x1.y) := V8.out.cell 1; have a2 : X8.cell? ⟨Pv, 2, none⟩ = some (.int .u8 x1.b) := V8.out.cell 2; have b0 : X8.cell? ⟨P1, 0, none⟩ = some (.int .i8 x1.x) := I8.out.cell 0; have b1 : X8.cell? ⟨P1, 1, none⟩ = some (.int .i8 x1.y) := I8.out.cell 1; have b2 : X8.cell? ⟨P1, 2, none⟩ = some (.int .u8 x1.b) := I8.out.cell 2))
                          | (go_at_call 10; ((with_reducible refine (CP.out _ _ H8.out).mono ?_); rintro e X9 ⟨rfl, h', k'⟩; have H9 := Lib.hid h'; clear h' k')))
                        all_goals (
                          go_ret
                          exact ⟨rfl, H9.out.down⟩)
                      · have hk00 : ((k : Int) == 0) = true := by rw [hk0]; rfl
                        clear hk0
                        clear es
                        generalize Qu.inEq x1 inp = r at nsx
                        cases r
                        · go_wp2_with (first
                            | (go_at_call 9; ((with_reducible refine (ct _).out.mono ?_); rintro e X7 ⟨rfl, h'⟩; have H7 := Lib.hid (HoldO.below C.ob H5.out h'); have I7 := Lib.hid (I5.out.below h' I5.out.lt); have V7 := Lib.hid (V5.out.below h' V5.out.lt); clear h'))
                            | (go_at_call 16; ((with_reducible refine (CF.out _ _ H7.out).mono ?_); rintro e X8 ⟨rfl, h', k'⟩; have H8 := Lib.hid h'; have I8 := Lib.hid (I7.out.below k' I7.out.lt); have V8 := Lib.hid (V7.out.below k' V7.out.lt); clear h' k'; have a0 : X8.cell? ⟨Pv, 0, none⟩ = some (.int .i8 x1.x) := V8.out.cell 0; have a1 : X8.cell? ⟨Pv, 1, none⟩ = some (.int .i8 x1.y) := V8.out.cell 1; have a2 : X8.cell? ⟨Pv, 2, none⟩ = some (.int .u8 x1.b) := V8.out.cell 2; have b0 : X8.cell? ⟨P1, 0, none⟩ = some (.int .i8 inp.x) := I8.out.cell 0; have b1 : X8.cell? ⟨P1, 1, none⟩ = some (.int .i8 inp.y) := I8.out.cell 1; have b2 : X8.cell? ⟨P1, 2, none⟩ = some (.int .u8 inp.b) := I8.out.cell 2))
                            | (go_at_call 10; ((with_reducible refine (CP.out _ _ H8.out).mono ?_); rintro e X9 ⟨rfl, h', k'⟩; have H9 := Lib.hid h'; clear h' k')))
                          all_goals (
                            go_ret
                            exact ⟨rfl, H9.out.down⟩)
                        · go_wp2_with (first
                            | (go_at_call 9; ((with_reducible refine (ct _).out.mono ?_); rintro e X7 ⟨rfl, h'⟩; have H7 := Lib.hid (HoldO.below C.ob H5.out h'); have I7 := Lib.hid (I5.out.below h' I5.out.lt); have V7 := Lib.hid (V5.out.below h' V5.out.lt); clear h'))
                            | (go_at_call 16; ((with_reducible refine (CF.out _ _ H7.out).mono ?_); rintro e X8 ⟨rfl, h', k'⟩; have H8 := Lib.hid h'; have I8 := Lib.hid (I7.out.below k' I7.out.lt); have V8 := Lib.hid (V7.out.below k' V7.out.lt); clear h' k'; have a0 : X8.cell? ⟨Pv, 0, none⟩ = some (.int .i8 x1.x) := V8.out.cell 0; have a1 : X8.cell? ⟨Pv, 1, none⟩ = some (.int .i8 x1.y) := V8.out.cell 1; have a2 : X8.cell? ⟨Pv, 2, none⟩ = some (.int .u8 x1.b) := V8.out.cell 2; have b0 : X8.cell? ⟨P1, 0, none⟩ = some (.int .i8 inp.x) := I8.out.cell 0; have b1 : X8.cell? ⟨P1, 1, none⟩ = some (.int .i8 inp.y) := I8.out.cell 1; have b2 : X8.cell? ⟨P1, 2, none⟩ = some (.int .u8 inp.b) := I8.out.cell 2))
                            | (go_at_call 10; ((with_reducible refine (CP.out _ _ H8.out).mono ?_); rintro e X9 ⟨rfl, h', k'⟩; have H9 := Lib.hid h'; clear h' k')))
                          all_goals (
                            go_ret
                            exact ⟨rfl, H9.out.down⟩)
end Go.Proofs.Ytcohbkgimlojpaa
namespace Go.Proofs.Ytcohbkgimlojpaa
open Go.RowKit
set_option linter.unusedVariables false
set_option linter.unusedSimpArgs false
theorem op_cells {w : World} {P : Nat} {k f x y b : Int} (h : Box w P 33 #[.int .i64 k, .int .i64 f, .int .i8 x, .int .i8 y, .int .u8 b]) : w.cell? ⟨P, 1, none⟩ = some (.int .i64 f) ∧ w.cell? ⟨P, 2, none⟩ = some (.int .i8 x) ∧ w.cell? ⟨P, 3, none⟩ = some (.int .i8 y) ∧ w.cell? ⟨P, 4, none⟩ = some (.int .u8 b) := ⟨h.cell 1, h.cell 2, h.cell 3, h.cell 4⟩
theorem P14.from_b {LP : QuP} (C : QueueC LP) {w X : World} {B : Nat} {m : Qu.M} {G : Nat → Prop} (ho : m.Ok) (h : P14 LP w B m G X) :
    Calls Try.prog 16 #[.pointer (some ⟨B, 0, none⟩)] X fun e X' => e = .returned (.int .i64 m.from_) ∧ Below X.heap.size X X' := (P14.from_ C ho h).mono fun e X' h => ⟨h.1, h.2.2⟩
theorem P14.known_b {LP : QuP} (C : QueueC LP) {w X : World} {B : Nat} {m : Qu.M} {G : Nat → Prop} (ho : m.Ok) (n : Nat) (hn : Qu.Run m n) (h : P14 LP w B m G X) :
    Calls Try.prog 17 #[.pointer (some ⟨B, 0, none⟩)] X fun e X' => e = .returned (.int .i64 n) ∧ Below X.heap.size X X' := (P14.known C ho n hn h).mono fun e X' h => ⟨h.1, h.2.2⟩
theorem refqknown_b (B n : Nat) (m : Qu.M) (hn : Qu.Run m n) (X : World) (h : RefQ B m X) :
    Calls Try.prog 18 #[.pointer (some ⟨B, 0, none⟩)] X fun e X' => e = .returned (.int .i64 n) ∧ Below X.heap.size X X' := (refqknown_any B n m hn X h).mono fun e X' h => ⟨h.1, h.2 ▸ Below.refl _ _⟩
theorem HoldO.fresh {μ : Type} {LP : Nat → (Nat → Prop) → Nat → μ → World → Prop} {w X X' : World} {B : Nat} {m : μ} {G : Nat → Prop} (C : ObjC LP) (h : HoldO LP w B m G X) (hb : Below X.heap.size X X') {g : Nat} (h1 : X.heap.size ≤ g) (h2 : g < X'.heap.size) : HoldO LP w B m (fun j => G j ∨ j = g) X' := by
  obtain ⟨F, a1, a2, a3⟩ := h
  refine ⟨F, C.keep a1 (KeepL.of_below' hb) (fun _ _ h => h), fun j hj => ?_, a3.trans (hb.mono a3.size)⟩
  rcases hj with hj | rfl
  · exact ⟨(a2 j hj).1, (a2 j hj).2.1, Nat.lt_of_lt_of_le (a2 j hj).2.2 hb.size⟩
  · exact ⟨fun hf => by have := (C.up a1 _ hf).2; omega, Nat.le_trans a3.size h1, h2⟩
set_option maxRecDepth 100000 in
set_option maxHeartbeats 4000000 in
theorem plays14_law {LP : QuP} (C : QueueC LP) (from_ : Int) (last : Gm.In) (hlast : Gm.tyIn last) (A : Option Addr) (c : Nat) (l : List Qu.Op) (near : Bool) (w : World) (hty : ∀ q ∈ l, q.ty) (hnm : l.length ≤ maxLen) (hL : Lies w w.heap.size 5 A l.length (l.flatMap Qu.Op.cells)) :
    Calls Try.prog 3 #[.int .i64 from_, .agg (Qu.inCells last), .slice A l.length c, .bool near] w fun e w' => e = .returned (.bool true) ∧ Below w.heap.size w w' := by
  obtain ⟨X1, hX1⟩ : ∃ X1, X1 = w.alloc (.cells (Qu.inCells last) 24) := ⟨_, rfl⟩
  obtain ⟨P0, hP0⟩ : ∃ P0, P0 = w.heap.size := ⟨_, rfl⟩
  have BL := Lib.hid (show Box X1 P0 24 (Qu.inCells last) by rw [hX1, hP0]; exact Box.made w _ _)
  have KX := Lib.hid (show Below w.heap.size w X1 by rw [hX1]; exact one_below w _)
  obtain ⟨N, hN, hN2⟩ := modN from_ 1001 (by decide)
  have c0 := Lib.hid (P14.new C (LP := LP) (X := X1.drew) (w := w) (G := fun j => False) N last (by omega) hlast (KX.out.drew) (fun j h => h.elim))
  have c1 := fun X => Lib.hid (refqnew_any N last X)
  have HON := Lib.hid (Qu.new_ok (f := (N : Int)) (by omega) hlast)
  have ct := fun X => Lib.hid (told14_law C X)
  have HL := Lib.hid hL
  have HTY := Lib.hid hty
  clear hL hty
  unfold maxLen at hnm
  obtain ⟨n, hn⟩ : ∃ n, n = l.length := ⟨_, rfl⟩
  have NL := Lib.hid hn
  rw [← hn] at hnm ⊢
  have hL2 := HL.out
  rw [← hn] at hL2
  have HL2 := Lib.hid hL2
  clear hL2 hn HL
  have BD := Lib.hid BL.out.drew
  have in_c := fun (W : World) (h : Box W P0 24 (Qu.inCells last)) => Lib.hid (show W.cell? ⟨P0, 0, none⟩ = some (.int .i8 last.x) ∧ W.cell? ⟨P0, 1, none⟩ = some (.int .i8 last.y) ∧ W.cell? ⟨P0, 2, none⟩ = some (.int .u8 last.b) from ⟨h.cell 0, h.cell 1, h.cell 2⟩)
  have kd1 := (in_c _ BD.out).out
  unfold Qu.inCells at c0 c1 ⊢
  go_enter Try.func3, Try.ntmps3
  go_upto_region 2 with fail
  rw [show w.alloc (.cells #[.int .i8 last.x, .int .i8 last.y, .int .u8 last.b] 24) = X1 from hX1.symm, ← hP0]
  rw [hN]
  clear hX1 hP0 hN
  go_region_held3 (fun w' => w'.cell? ⟨P0, 0, none⟩ = some (.int .i8 last.x) ∧ w'.cell? ⟨P0, 1, none⟩ = some (.int .i8 last.y) ∧ w'.cell? ⟨P0, 2, none⟩ = some (.int .u8 last.b)) (first | exact kd1 | exact kd2 | exact kd3 | go_keep) (first
    | (go_at_call 7; (with_reducible refine c0.out.mono ?_); rintro e X2 ⟨B, rfl, h', k'⟩; have H2 := Lib.hid h'; have B2 := Lib.hid (BD.out.below k' BD.out.lt); clear h' k'; have kd2 := (in_c _ B2.out).out)
    | (go_at_call 8; (with_reducible refine (c1 _).out.mono ?_); rintro e X3 ⟨Bb, rfl, h', k', hb'⟩; have H3 := Lib.hid ((HoldO.fresh C.ob H2.out k' hb' h'.lt).less (G' := fun j => j = Bb) fun j hj => .inr hj); have R3 := Lib.hid h'; have B3 := Lib.hid (B2.out.below k' B2.out.lt); clear h' k' hb'; have kd3 := (in_c _ B3.out).out))
  all_goals (
    clear kd1 kd2 kd3 in_c c0 c1 BL KX BD B2 H2 B3
    by_cases h200 : (200 : Int) < n
    · go_wp2_with (go_at_call 9; ((with_reducible refine (ct _).out.mono ?_); rintro e w3 ⟨rfl, h3⟩; have H4 := Lib.hid (HoldO.below C.ob H3.out h3); clear h3))
      go_ret
      exact ⟨rfl, H4.out.down⟩
    · go_wp2_with fail
      go_loopw [12, 13, 14, 15, 16, 17] (fun i _ _ _ _ _ wr => ∃ (k : Nat) (M : Qu.M), k ≤ n ∧ i = .int .i64 k ∧ M.Ok ∧ (0 ≤ M.from_ ∧ M.from_ ≤ 1000 + (k : Int)) ∧ RefQ Bb M wr ∧ P14 LP w B M (fun j => j = Bb) wr) (fun i _ _ _ _ _ _ => n - (intOf i).toNat)
      case atStart => exact ⟨0, Qu.new N last, Nat.zero_le _, rfl, HON.out, by show 0 ≤ (N : Int) ∧ (N : Int) ≤ _; omega, R3.out, H3.out⟩
      case round =>
        obtain ⟨k, M, hk, rfl, hM, hF, hR, hP⟩ := hrel
        have HP := Lib.hid hP
        have HM := Lib.hid hM
        have HR := Lib.hid hR
        have HF := Lib.hid hF
        clear hP hM hR hF H3 R3
        by_cases hlt : k < n
        · have hkn : (k : Int) < n := by omega
          have hk200 : k < 200 := by omega
          obtain ⟨ad, rfl, hadl⟩ := HL2.out.start (by omega)
          have nb := NL.out
          obtain ⟨q, hqe⟩ : ∃ q, q = l[k]'(by omega) := ⟨_, rfl⟩
          have q0 : ∀ j, j < 5 → wr.cell? ((ad.add (k * 5)).add j) = q.cells[j]? := fun j hj => by rw [hqe]; exact qop_at (HL2.out.below HP.out.down) nb k (by omega) j hj
          have hq : q.ty := by rw [hqe]; exact HTY.out _ (List.getElem_mem _)
          clear hqe nb
          obtain ⟨qk, qf, qi⟩ := q
          obtain ⟨t1, t2, t3⟩ := hq
          dsimp only at t1 t2 t3
          have x0 : wr.cell? (ad.add (k * 5)) = some (.int .i64 qk) := by have := q0 0 (by decide); rwa [show (ad.add (k * 5)).add 0 = ad.add (k * 5) from rfl] at this
          have x1 : wr.cell? ⟨(ad.add (k * 5)).block, (ad.add (k * 5)).off + 1, none⟩ = some (.int .i64 qf) := q0 1 (by decide)
          have x2 : wr.cell? ⟨(ad.add (k * 5)).block, (ad.add (k * 5)).off + 2, none⟩ = some (.int .i8 qi.x) := q0 2 (by decide)
          have x3 : wr.cell? ⟨(ad.add (k * 5)).block, (ad.add (k * 5)).off + 3, none⟩ = some (.int .i8 qi.y) := q0 3 (by decide)
          have x4 : wr.cell? ⟨(ad.add (k * 5)).block, (ad.add (k * 5)).off + 4, none⟩ = some (.int .u8 qi.b) := q0 4 (by decide)
          have y1 : wr.cell? ((ad.add (k * 5)).add 1) = some (.int .i64 qf) := q0 1 (by decide)
          have y2 : wr.cell? ((ad.add (k * 5)).add 2) = some (.int .i8 qi.x) := q0 2 (by decide)
          have y3 : wr.cell? ((ad.add (k * 5)).add 3) = some (.int .i8 qi.y) := q0 3 (by decide)
          have y4 : wr.cell? ((ad.add (k * 5)).add 4) = some (.int .u8 qi.b) := q0 4 (by decide)
          obtain ⟨Po, hPo⟩ : ∃ Po, Po = wr.heap.size := ⟨_, rfl⟩
          obtain ⟨X5, hX5⟩ : ∃ X5, X5 = wr.alloc (.cells #[.int .i64 qk, .int .i64 qf, .int .i8 qi.x, .int .i8 qi.y, .int .u8 qi.b] 33) := ⟨_, rfl⟩
          have H5 := Lib.hid (show P14 LP w B M (fun j => j = Bb ∨ j = Po) X5 by rw [hX5, hPo]; exact HoldO.alloc C.ob HP.out _)
          have R5 := Lib.hid (show RefQ Bb M X5 by rw [hX5]; exact HR.out.alloc _)
          have O5 := Lib.hid (show Box X5 Po 33 #[.int .i64 qk, .int .i64 qf, .int .i8 qi.x, .int .i8 qi.y, .int .u8 qi.b] by rw [hX5, hPo]; exact Box.made _ _ _)
          have hbo : Bb ≠ Po := by rw [hPo]; have := HR.out.lt; omega
          go_upto_region 11 with fail
          rw [← hX5, ← hPo]
          clear hX5 hPo x0 x1 x2 x3 x4 y1 y2 y3 y4 q0 HP HR
          cases near
          · have hfr := t2
            have kk0 : X5.cell? ⟨Po, 0, none⟩ = some (.int .i64 qk) := O5.out.cell 0
            go_upto_region 19 with fail
            clear kk0
            generalize (wrap64 (qk.tmod 3 + 3)).tmod 3 = r
            by_cases hr0 : r = 0
            · subst hr0
              have mo := Lib.hid (Qu.put_ok HM.out qf t3)
              have HF2 := Lib.hid (show 0 ≤ (Qu.put M qf qi).from_ ∧ (Qu.put M qf qi).from_ ≤ 1000 + ((k + 1 : Nat) : Int) by have : (Qu.put M qf qi).from_ = M.from_ := (by unfold Qu.put; split <;> rfl); rw [this]; have := HF.out; omega)
              have cp := Lib.hid (P14.put C HM.out qf qi hfr t3 (HoldO.drew C.ob H5.out))
              have cr := fun X hX => Lib.hid (refqput_any Bb M qf qi t3 hfr (by have := HF.out; omega) X hX)
              have OD := Lib.hid O5.out.drew
              have RD5 := Lib.hid R5.out.drew
              unfold Qu.inCells at cp cr
              generalize Qu.put M qf qi = M2 at *
              generalize Qu.putOk M qf qi = pk at *
              have kd1 := op_cells OD.out
              go_upto_region 20 with fail
              go_region_held3 (fun w' => w'.cell? ⟨Po, 1, none⟩ = some (.int .i64 qf) ∧ w'.cell? ⟨Po, 2, none⟩ = some (.int .i8 qi.x) ∧ w'.cell? ⟨Po, 3, none⟩ = some (.int .i8 qi.y) ∧ w'.cell? ⟨Po, 4, none⟩ = some (.int .u8 qi.b)) (first | exact kd1 | exact kd2 | exact kd3 | go_keep) (first
                | (go_at_call 10; (with_reducible refine cp.out.mono ?_); rintro e X6 ⟨rfl, h', k'⟩; have H6 := Lib.hid h'; have O6 := Lib.hid (k'.box (.inr rfl) OD.out); have R6 := Lib.hid (k'.box (.inl rfl) RD5.out); clear h' k'; have kd2 := op_cells O6.out)
                | (go_at_call 11; (with_reducible refine (cr _ R6.out).out.mono ?_); rintro e X7 ⟨rfl, h', k'⟩; have R7 := Lib.hid h'; have H7 := Lib.hid (HoldO.only C.ob H6.out (.inl rfl) k'); have O7 := Lib.hid (k'.box O6.out (Ne.symm hbo)); clear h' k'; have kd3 := op_cells O7.out))
              all_goals (
                clear kd1 kd2 kd3 H5 R5 O5 H6 R6 O6 OD RD5 cp cr
                obtain ⟨nr, hnr⟩ := Qu.run_is M2
                have HE := Lib.hid (fun q : Ext X7.heap.size X7 => HoldO.below C.ob H7.out q.h)
                have RE := Lib.hid (fun q : Ext X7.heap.size X7 => R7.out.below q.h R7.out.lt)
                have cf := fun q : Ext X7.heap.size X7 => Lib.hid (P14.from_b C mo.out (HE.out q))
                have ck := fun q : Ext X7.heap.size X7 => Lib.hid (P14.known_b C mo.out nr hnr (HE.out q))
                have cr := fun q : Ext X7.heap.size X7 => Lib.hid (refqknown_b Bb nr M2 hnr q.w (RE.out q))
                have zf : ∀ q : Ext X7.heap.size X7, q.w.cell? ⟨Bb, 0, none⟩ = some (.int .i64 M2.from_) := fun q => (arr_cell (RE.out q) (by decide)).trans (by rw [Qu.qf_0])
                clear hnr
                generalize hfm : M2.from_ = fm at *
                have HFM := Lib.hid hfm
                clear hfm
                go_upto_region 25 with fail
                refine wp_region_ext X7.heap.size X7 (by kernel_rfl) (by kernel_rfl) (Below.refl _ _) ?_
                repeat (go_big_quiet_step (first | (go_at_call 16; with_reducible exact Calls.ext_of (Nat.le_refl _) (cf _).out) | (go_at_call 17; with_reducible exact Calls.ext_of (Nat.le_refl _) (ck _).out) | (go_at_call 18; with_reducible exact Calls.ext_of (Nat.le_refl _) (cr _).out)))
                refine wpQuiet_nil ?_
                intro _ hw'
                obtain ⟨q5, hw''⟩ := hw'
                subst hw''
                have H9 := Lib.hid (HE.out q5)
                have R9 := Lib.hid (RE.out q5)
                clear cf ck cr zf HE RE
                go_wp2_with fail
                go_roundw
                case rel => exact ⟨k + 1, M2, by omega, by go_num, mo.out, by rw [HFM.out]; exact HF2.out, R9.out, H9.out.less fun j hj => .inl hj⟩
                case measure => simp [intOf]; omega)
            · by_cases hr1 : r = 1
              · subst hr1
                have mo := Lib.hid (Qu.done_ok HM.out (by have := HF.out; omega) t3)
                have HF2 := Lib.hid (show 0 ≤ (Qu.done M qi).from_ ∧ (Qu.done M qi).from_ ≤ 1000 + ((k + 1 : Nat) : Int) by show 0 ≤ M.from_ + 1 ∧ M.from_ + 1 ≤ _; have := HF.out; omega)
                have cp := Lib.hid (P14.done C HM.out (by have := HF.out; omega) qi t3 H5.out)
                have cr := fun X hX => Lib.hid (refqdone_any Bb M qi (fun j hj => by cases h : M.known j with | none => rfl | some v => exact absurd (HM.out.known j v h).1 (by omega)) (by have := HF.out; omega) X hX)
                unfold Qu.inCells at cp cr
                generalize Qu.done M qi = M2 at *
                have kd1 := op_cells O5.out
                obtain ⟨_, k2, k3, k4⟩ := kd1
                go_upto_region 24 with (go_at_call 12; (with_reducible refine cp.out.mono ?_); rintro e X6 ⟨rfl, h', k'⟩; have H6 := Lib.hid h'; have O6 := Lib.hid (k'.box (.inr rfl) O5.out); have R6 := Lib.hid (k'.box (.inl rfl) R5.out); clear h' k')
                clear k2 k3 k4
                have kd1 := op_cells O6.out
                obtain ⟨_, k2, k3, k4⟩ := kd1
                go_upto_region 25 with (go_at_call 13; (with_reducible refine (cr _ R6.out).out.mono ?_); rintro e X7 ⟨rfl, h', k'⟩; have R7 := Lib.hid h'; have H7 := Lib.hid (HoldO.only C.ob H6.out (.inl rfl) k'); have O7 := Lib.hid (k'.box O6.out (Ne.symm hbo)); clear h' k')
                clear k2 k3 k4 H5 R5 O5 H6 R6 O6 cp cr
                obtain ⟨nr, hnr⟩ := Qu.run_is M2
                have HE := Lib.hid (fun q : Ext X7.heap.size X7 => HoldO.below C.ob H7.out q.h)
                have RE := Lib.hid (fun q : Ext X7.heap.size X7 => R7.out.below q.h R7.out.lt)
                have cf := fun q : Ext X7.heap.size X7 => Lib.hid (P14.from_b C mo.out (HE.out q))
                have ck := fun q : Ext X7.heap.size X7 => Lib.hid (P14.known_b C mo.out nr hnr (HE.out q))
                have cr := fun q : Ext X7.heap.size X7 => Lib.hid (refqknown_b Bb nr M2 hnr q.w (RE.out q))
                have zf : ∀ q : Ext X7.heap.size X7, q.w.cell? ⟨Bb, 0, none⟩ = some (.int .i64 M2.from_) := fun q => (arr_cell (RE.out q) (by decide)).trans (by rw [Qu.qf_0])
                clear hnr
                generalize hfm : M2.from_ = fm at *
                have HFM := Lib.hid hfm
                clear hfm
                go_upto_region 25 with fail
                refine wp_region_ext X7.heap.size X7 (by kernel_rfl) (by kernel_rfl) (Below.refl _ _) ?_
                repeat (go_big_quiet_step (first | (go_at_call 16; with_reducible exact Calls.ext_of (Nat.le_refl _) (cf _).out) | (go_at_call 17; with_reducible exact Calls.ext_of (Nat.le_refl _) (ck _).out) | (go_at_call 18; with_reducible exact Calls.ext_of (Nat.le_refl _) (cr _).out)))
                refine wpQuiet_nil ?_
                intro _ hw'
                obtain ⟨q5, hw''⟩ := hw'
                subst hw''
                have H9 := Lib.hid (HE.out q5)
                have R9 := Lib.hid (RE.out q5)
                clear cf ck cr zf HE RE
                go_wp2_with fail
                go_roundw
                case rel => exact ⟨k + 1, M2, by omega, by go_num, mo.out, by rw [HFM.out]; exact HF2.out, R9.out, H9.out.less fun j hj => .inl hj⟩
                case measure => simp [intOf]; omega
              · have mo := HM
                have HF2 := Lib.hid (show 0 ≤ M.from_ ∧ M.from_ ≤ 1000 + ((k + 1 : Nat) : Int) by have := HF.out; omega)
                have kd1 := op_cells O5.out
                obtain ⟨k1, _, _, _⟩ := kd1
                by_cases hbad : qf < 0 ∨ 1099511627776 < qf
                · rcases hbad with hb1 | hb1
                  · go_wp2_with fail
                    go_roundw
                    case rel => exact ⟨k + 1, M, by omega, by go_num, HM.out, HF2.out, R5.out, H5.out.less fun j hj => .inl hj⟩
                    case measure => simp [intOf]; omega
                  · have hb0 : ¬ qf < 0 := by omega
                    go_wp2_with fail
                    go_roundw
                    case rel => exact ⟨k + 1, M, by omega, by go_num, HM.out, HF2.out, R5.out, H5.out.less fun j hj => .inl hj⟩
                    case measure => simp [intOf]; omega
                · have hb0 : ¬ qf < 0 := by omega
                  have hb1 : ¬ 1099511627776 < qf := by omega
                  have ca := P14.at_ C HM.out qf (by omega) H5.out
                  have cr := fun X hX => refqat_any Bb M qf hfr (by have := HF.out; omega) X hX
                  have hns := fun i W => in_notsame i W
                  unfold Qu.inCells at hns
                  generalize Qu.at_ M qf = v at *
                  obtain ⟨v1, fl⟩ := v
                  dsimp only at ca cr
                  have CA := Lib.hid ca
                  have CR := Lib.hid cr
                  have ns1 := hns v1
                  have hfl : (fl != fl) = false := by cases fl <;> rfl
                  clear ca cr hns
                  unfold Qu.inCells at CA CR
                  go_upto_region 16 with (go_at_call 14; ((with_reducible refine CA.out.mono ?_); rintro e X6 ⟨rfl, h', k'⟩; have H6 := Lib.hid (HoldO.alloc C.ob h' (.cells (Qu.inCells v1) 24)); have O6 := Lib.hid ((O5.out.below k' O5.out.lt).alloc (.cells (Qu.inCells v1) 24)); have R6 := Lib.hid ((R5.out.below k' R5.out.lt).alloc (.cells (Qu.inCells v1) 24)); have V6 := Lib.hid (Box.made X6 24 (Qu.inCells v1)); clear h' k'))
                  rw [show X6.alloc (.cells #[.int .i8 v1.x, .int .i8 v1.y, .int .u8 v1.b] 24) = X6.alloc (.cells (Qu.inCells v1) 24) from rfl]
                  clear k1 H5 R5 O5
                  generalize X6.heap.size = Pa at *
                  generalize X6.alloc (.cells (Qu.inCells v1) 24) = X7 at *
                  have kd1 := op_cells O6.out
                  obtain ⟨k1, _, _, _⟩ := kd1
                  go_upto_region 17 with (go_at_call 15; ((with_reducible refine (CR.out _ R6.out).mono ?_); rintro e X8 ⟨rfl, k'⟩; have H8 := Lib.hid (HoldO.alloc C.ob (HoldO.below C.ob H6.out k') (.cells (Qu.inCells v1) 24)); have R8 := Lib.hid ((R6.out.below k' R6.out.lt).alloc (.cells (Qu.inCells v1) 24)); have V8 := Lib.hid ((V6.out.below k' V6.out.lt).alloc (.cells (Qu.inCells v1) 24)); have U8 := Lib.hid (Box.made X8 24 (Qu.inCells v1)); clear k'))
                  rw [show X8.alloc (.cells #[.int .i8 v1.x, .int .i8 v1.y, .int .u8 v1.b] 24) = X8.alloc (.cells (Qu.inCells v1) 24) from rfl]
                  clear k1 H6 R6 O6 V6 CA CR
                  generalize X8.heap.size = Pb at *
                  generalize X8.alloc (.cells (Qu.inCells v1) 24) = X9 at *
                  have a0 : X9.cell? ⟨Pa, 0, none⟩ = some (.int .i8 v1.x) := V8.out.cell 0
                  have a1 : X9.cell? ⟨Pa, 1, none⟩ = some (.int .i8 v1.y) := V8.out.cell 1
                  have a2 : X9.cell? ⟨Pa, 2, none⟩ = some (.int .u8 v1.b) := V8.out.cell 2
                  have b0 : X9.cell? ⟨Pb, 0, none⟩ = some (.int .i8 v1.x) := U8.out.cell 0
                  have b1 : X9.cell? ⟨Pb, 1, none⟩ = some (.int .i8 v1.y) := U8.out.cell 1
                  have b2 : X9.cell? ⟨Pb, 2, none⟩ = some (.int .u8 v1.b) := U8.out.cell 2
                  have H8 := Lib.hid (H8.out.less (G' := fun j => j = Bb ∨ j = Po) fun j hj => .inl (.inl hj))
                  go_upto_region 25 with fail
                  clear a0 a1 a2 b0 b1 b2 ns1 hfl V8 U8
                  obtain ⟨nr, hnr⟩ := Qu.run_is M
                  have HE := Lib.hid (fun q : Ext X9.heap.size X9 => HoldO.below C.ob H8.out q.h)
                  have RE := Lib.hid (fun q : Ext X9.heap.size X9 => R8.out.below q.h R8.out.lt)
                  have cf := fun q : Ext X9.heap.size X9 => Lib.hid (P14.from_b C mo.out (HE.out q))
                  have ck := fun q : Ext X9.heap.size X9 => Lib.hid (P14.known_b C mo.out nr hnr (HE.out q))
                  have cr := fun q : Ext X9.heap.size X9 => Lib.hid (refqknown_b Bb nr M hnr q.w (RE.out q))
                  have zf : ∀ q : Ext X9.heap.size X9, q.w.cell? ⟨Bb, 0, none⟩ = some (.int .i64 M.from_) := fun q => (arr_cell (RE.out q) (by decide)).trans (by rw [Qu.qf_0])
                  clear hnr
                  generalize hfm : M.from_ = fm at *
                  have HFM := Lib.hid hfm
                  clear hfm
                  go_upto_region 25 with fail
                  refine wp_region_ext X9.heap.size X9 (by kernel_rfl) (by kernel_rfl) (Below.refl _ _) ?_
                  repeat (go_big_quiet_step (first | (go_at_call 16; with_reducible exact Calls.ext_of (Nat.le_refl _) (cf _).out) | (go_at_call 17; with_reducible exact Calls.ext_of (Nat.le_refl _) (ck _).out) | (go_at_call 18; with_reducible exact Calls.ext_of (Nat.le_refl _) (cr _).out)))
                  refine wpQuiet_nil ?_
                  intro _ hw'
                  obtain ⟨q5, hw''⟩ := hw'
                  subst hw''
                  have H9 := Lib.hid (HE.out q5)
                  have R9 := Lib.hid (RE.out q5)
                  clear cf ck cr zf HE RE
                  go_wp2_with fail
                  go_roundw
                  case rel => exact ⟨k + 1, M, by omega, by go_num, mo.out, by rw [HFM.out]; exact HF2.out, R9.out, H9.out.less fun j hj => .inl hj⟩
                  case measure => simp [intOf]; omega
          · have kz0 : X5.drew.cell? ⟨Bb, 0, none⟩ = some (.int .i64 M.from_) := (arr_cell R5.out.drew (by decide)).trans (by rw [Qu.qf_0])
            have kz1 : X5.drew.cell? ⟨Po, 1, none⟩ = some (.int .i64 qf) := O5.out.drew.cell 1
            obtain ⟨K, hK, hK2⟩ := modN qf 70 (by decide)
            have HKK := Lib.hid hK
            clear hK
            obtain ⟨fa, hfa⟩ : ∃ fa, fa = M.from_ + (K : Int) := ⟨_, rfl⟩
            obtain ⟨fr, hfrr⟩ : ∃ fr, fr = fa - 3 := ⟨_, rfl⟩
            have hFb := HF.out
            have hfr : -9223372036854775808 ≤ fr ∧ fr ≤ 9223372036854775807 := by omega
            have W1 := Lib.hid (show IntKind.i64.wrap (M.from_ + (K : Int)) = fa by rw [IntKind.wrap_i64, hfa]; omega)
            have W2 := Lib.hid (show wrap64 (M.from_ + (K : Int)) = fa by rw [hfa]; exact IntWalk.wrap64_in _ (by omega))
            have W3 := Lib.hid (show IntKind.i64.wrap (fa - 3) = fr by rw [IntKind.wrap_i64, hfrr]; omega)
            have W4 := Lib.hid (show wrap64 (fa - 3) = fr by rw [hfrr]; exact IntWalk.wrap64_in _ (by omega))
            have W0 := Lib.hid (show IntKind.i64.wrap ((IntKind.u64.wrap qf).tmod 70) = (K : Int) by rw [i64_wrap64]; exact HKK.out)
            clear hfa hfrr hFb
            have S5 := Lib.hid (show Box (X5.drew.setCell ⟨Po, 1, none⟩ (.int .i64 fr)) Po 33 #[.int .i64 qk, .int .i64 fr, .int .i8 qi.x, .int .i8 qi.y, .int .u8 qi.b] from O5.out.drew.put 1 _)
            have S6 := Lib.hid (HoldO.put C.ob (HoldO.drew C.ob H5.out) (g := Po) (.inr rfl) 1 (.int .i64 fr))
            have S7 := Lib.hid (show RefQ Bb M (X5.drew.setCell ⟨Po, 1, none⟩ (.int .i64 fr)) from R5.out.drew.far (p := ⟨Po, 1, none⟩) hbo _)
            have f5 := O5.out.drew.free 1
            have l5 := O5.out.drew.lt
            go_upto_region 12 with fail
            have w0 := W0.out
            have hK := HKK.out
            have w1 := W1.out
            have w2 := W2.out
            have w3 := W3.out
            have w4 := W4.out
            generalize hfm0 : M.from_ = fm at kz0 w1 w2
            have HFM0 := Lib.hid hfm0
            clear hfm0
            refine Ry.wp_region_lex (by kernel_rfl) [] (by kernel_rfl) (· = X5.drew) (fun W => W = X5.drew) (fun _ => True) rfl (fun W hW => ⟨hW, trivial⟩) ?_
            repeat (first
              | (apply Ry.lex_free rfl rfl; focus (intro _; go_simp; first | done | rfl))
              | (apply Ry.lex_look rfl rfl rfl rfl; focus (intro W hW; subst hW; go_simp; first | done | rfl)))
            refine Ry.lex_store rfl rfl (C' := (· = X5.drew.setCell ⟨Po, 1, none⟩ (.int .i64 fr))) (D' := fun _ => True) (fun W hW => ⟨_, ?_, rfl⟩) (fun W hW => ⟨trivial, trivial⟩) ?_
            focus (subst hW; go_simp; first | done | rfl)
            refine Ry.lex_end fun W2 hW2 => ?_
            simp only [Act.put, List.setIfInBounds_toArray, List.set_cons_succ, List.set_cons_zero]
            subst hW2
            clear kz0 kz1 hK HKK w0 w1 w2 w3 w4 W0 W1 W2 W3 W4 f5 l5 HFM0 H5 R5 O5
            generalize X5.drew.setCell ⟨Po, 1, none⟩ (.int .i64 fr) = X6 at *
            have H5 := S6
            have R5 := S7
            have O5 := S5
            clear S5 S6 S7
            have kk0 : X6.cell? ⟨Po, 0, none⟩ = some (.int .i64 qk) := O5.out.cell 0
            go_upto_region 19 with fail
            clear kk0
            generalize (wrap64 (qk.tmod 3 + 3)).tmod 3 = r
            by_cases hr0 : r = 0
            · subst hr0
              have mo := Lib.hid (Qu.put_ok HM.out fr t3)
              have HF2 := Lib.hid (show 0 ≤ (Qu.put M fr qi).from_ ∧ (Qu.put M fr qi).from_ ≤ 1000 + ((k + 1 : Nat) : Int) by have : (Qu.put M fr qi).from_ = M.from_ := (by unfold Qu.put; split <;> rfl); rw [this]; have := HF.out; omega)
              have cp := Lib.hid (P14.put C HM.out fr qi hfr t3 (HoldO.drew C.ob H5.out))
              have cr := fun X hX => Lib.hid (refqput_any Bb M fr qi t3 hfr (by have := HF.out; omega) X hX)
              have OD := Lib.hid O5.out.drew
              have RD5 := Lib.hid R5.out.drew
              unfold Qu.inCells at cp cr
              generalize Qu.put M fr qi = M2 at *
              generalize Qu.putOk M fr qi = pk at *
              have kd1 := op_cells OD.out
              go_upto_region 20 with fail
              go_region_held3 (fun w' => w'.cell? ⟨Po, 1, none⟩ = some (.int .i64 fr) ∧ w'.cell? ⟨Po, 2, none⟩ = some (.int .i8 qi.x) ∧ w'.cell? ⟨Po, 3, none⟩ = some (.int .i8 qi.y) ∧ w'.cell? ⟨Po, 4, none⟩ = some (.int .u8 qi.b)) (first | exact kd1 | exact kd2 | exact kd3 | go_keep) (first
                | (go_at_call 10; (with_reducible refine cp.out.mono ?_); rintro e X6 ⟨rfl, h', k'⟩; have H6 := Lib.hid h'; have O6 := Lib.hid (k'.box (.inr rfl) OD.out); have R6 := Lib.hid (k'.box (.inl rfl) RD5.out); clear h' k'; have kd2 := op_cells O6.out)
                | (go_at_call 11; (with_reducible refine (cr _ R6.out).out.mono ?_); rintro e X7 ⟨rfl, h', k'⟩; have R7 := Lib.hid h'; have H7 := Lib.hid (HoldO.only C.ob H6.out (.inl rfl) k'); have O7 := Lib.hid (k'.box O6.out (Ne.symm hbo)); clear h' k'; have kd3 := op_cells O7.out))
              all_goals (
                clear kd1 kd2 kd3 H5 R5 O5 H6 R6 O6 OD RD5 cp cr
                obtain ⟨nr, hnr⟩ := Qu.run_is M2
                have HE := Lib.hid (fun q : Ext X7.heap.size X7 => HoldO.below C.ob H7.out q.h)
                have RE := Lib.hid (fun q : Ext X7.heap.size X7 => R7.out.below q.h R7.out.lt)
                have cf := fun q : Ext X7.heap.size X7 => Lib.hid (P14.from_b C mo.out (HE.out q))
                have ck := fun q : Ext X7.heap.size X7 => Lib.hid (P14.known_b C mo.out nr hnr (HE.out q))
                have cr := fun q : Ext X7.heap.size X7 => Lib.hid (refqknown_b Bb nr M2 hnr q.w (RE.out q))
                have zf : ∀ q : Ext X7.heap.size X7, q.w.cell? ⟨Bb, 0, none⟩ = some (.int .i64 M2.from_) := fun q => (arr_cell (RE.out q) (by decide)).trans (by rw [Qu.qf_0])
                clear hnr
                generalize hfm : M2.from_ = fm at *
                have HFM := Lib.hid hfm
                clear hfm
                go_upto_region 25 with fail
                refine wp_region_ext X7.heap.size X7 (by kernel_rfl) (by kernel_rfl) (Below.refl _ _) ?_
                repeat (go_big_quiet_step (first | (go_at_call 16; with_reducible exact Calls.ext_of (Nat.le_refl _) (cf _).out) | (go_at_call 17; with_reducible exact Calls.ext_of (Nat.le_refl _) (ck _).out) | (go_at_call 18; with_reducible exact Calls.ext_of (Nat.le_refl _) (cr _).out)))
                refine wpQuiet_nil ?_
                intro _ hw'
                obtain ⟨q5, hw''⟩ := hw'
                subst hw''
                have H9 := Lib.hid (HE.out q5)
                have R9 := Lib.hid (RE.out q5)
                clear cf ck cr zf HE RE
                go_wp2_with fail
                go_roundw
                case rel => exact ⟨k + 1, M2, by omega, by go_num, mo.out, by rw [HFM.out]; exact HF2.out, R9.out, H9.out.less fun j hj => .inl hj⟩
                case measure => simp [intOf]; omega)
            · by_cases hr1 : r = 1
              · subst hr1
                have mo := Lib.hid (Qu.done_ok HM.out (by have := HF.out; omega) t3)
                have HF2 := Lib.hid (show 0 ≤ (Qu.done M qi).from_ ∧ (Qu.done M qi).from_ ≤ 1000 + ((k + 1 : Nat) : Int) by show 0 ≤ M.from_ + 1 ∧ M.from_ + 1 ≤ _; have := HF.out; omega)
                have cp := Lib.hid (P14.done C HM.out (by have := HF.out; omega) qi t3 H5.out)
                have cr := fun X hX => Lib.hid (refqdone_any Bb M qi (fun j hj => by cases h : M.known j with | none => rfl | some v => exact absurd (HM.out.known j v h).1 (by omega)) (by have := HF.out; omega) X hX)
                unfold Qu.inCells at cp cr
                generalize Qu.done M qi = M2 at *
                have kd1 := op_cells O5.out
                obtain ⟨_, k2, k3, k4⟩ := kd1
                go_upto_region 24 with (go_at_call 12; (with_reducible refine cp.out.mono ?_); rintro e X6 ⟨rfl, h', k'⟩; have H6 := Lib.hid h'; have O6 := Lib.hid (k'.box (.inr rfl) O5.out); have R6 := Lib.hid (k'.box (.inl rfl) R5.out); clear h' k')
                clear k2 k3 k4
                have kd1 := op_cells O6.out
                obtain ⟨_, k2, k3, k4⟩ := kd1
                go_upto_region 25 with (go_at_call 13; (with_reducible refine (cr _ R6.out).out.mono ?_); rintro e X7 ⟨rfl, h', k'⟩; have R7 := Lib.hid h'; have H7 := Lib.hid (HoldO.only C.ob H6.out (.inl rfl) k'); have O7 := Lib.hid (k'.box O6.out (Ne.symm hbo)); clear h' k')
                clear k2 k3 k4 H5 R5 O5 H6 R6 O6 cp cr
                obtain ⟨nr, hnr⟩ := Qu.run_is M2
                have HE := Lib.hid (fun q : Ext X7.heap.size X7 => HoldO.below C.ob H7.out q.h)
                have RE := Lib.hid (fun q : Ext X7.heap.size X7 => R7.out.below q.h R7.out.lt)
                have cf := fun q : Ext X7.heap.size X7 => Lib.hid (P14.from_b C mo.out (HE.out q))
                have ck := fun q : Ext X7.heap.size X7 => Lib.hid (P14.known_b C mo.out nr hnr (HE.out q))
                have cr := fun q : Ext X7.heap.size X7 => Lib.hid (refqknown_b Bb nr M2 hnr q.w (RE.out q))
                have zf : ∀ q : Ext X7.heap.size X7, q.w.cell? ⟨Bb, 0, none⟩ = some (.int .i64 M2.from_) := fun q => (arr_cell (RE.out q) (by decide)).trans (by rw [Qu.qf_0])
                clear hnr
                generalize hfm : M2.from_ = fm at *
                have HFM := Lib.hid hfm
                clear hfm
                go_upto_region 25 with fail
                refine wp_region_ext X7.heap.size X7 (by kernel_rfl) (by kernel_rfl) (Below.refl _ _) ?_
                repeat (go_big_quiet_step (first | (go_at_call 16; with_reducible exact Calls.ext_of (Nat.le_refl _) (cf _).out) | (go_at_call 17; with_reducible exact Calls.ext_of (Nat.le_refl _) (ck _).out) | (go_at_call 18; with_reducible exact Calls.ext_of (Nat.le_refl _) (cr _).out)))
                refine wpQuiet_nil ?_
                intro _ hw'
                obtain ⟨q5, hw''⟩ := hw'
                subst hw''
                have H9 := Lib.hid (HE.out q5)
                have R9 := Lib.hid (RE.out q5)
                clear cf ck cr zf HE RE
                go_wp2_with fail
                go_roundw
                case rel => exact ⟨k + 1, M2, by omega, by go_num, mo.out, by rw [HFM.out]; exact HF2.out, R9.out, H9.out.less fun j hj => .inl hj⟩
                case measure => simp [intOf]; omega
              · have mo := HM
                have HF2 := Lib.hid (show 0 ≤ M.from_ ∧ M.from_ ≤ 1000 + ((k + 1 : Nat) : Int) by have := HF.out; omega)
                have kd1 := op_cells O5.out
                obtain ⟨k1, _, _, _⟩ := kd1
                by_cases hbad : fr < 0 ∨ 1099511627776 < fr
                · rcases hbad with hb1 | hb1
                  · go_wp2_with fail
                    go_roundw
                    case rel => exact ⟨k + 1, M, by omega, by go_num, HM.out, HF2.out, R5.out, H5.out.less fun j hj => .inl hj⟩
                    case measure => simp [intOf]; omega
                  · have hb0 : ¬ fr < 0 := by omega
                    go_wp2_with fail
                    go_roundw
                    case rel => exact ⟨k + 1, M, by omega, by go_num, HM.out, HF2.out, R5.out, H5.out.less fun j hj => .inl hj⟩
                    case measure => simp [intOf]; omega
                · have hb0 : ¬ fr < 0 := by omega
                  have hb1 : ¬ 1099511627776 < fr := by omega
                  have ca := P14.at_ C HM.out fr (by omega) H5.out
                  have cr := fun X hX => refqat_any Bb M fr hfr (by have := HF.out; omega) X hX
                  have hns := fun i W => in_notsame i W
                  unfold Qu.inCells at hns
                  generalize Qu.at_ M fr = v at *
                  obtain ⟨v1, fl⟩ := v
                  dsimp only at ca cr
                  have CA := Lib.hid ca
                  have CR := Lib.hid cr
                  have ns1 := hns v1
                  have hfl : (fl != fl) = false := by cases fl <;> rfl
                  clear ca cr hns
                  unfold Qu.inCells at CA CR
                  go_upto_region 16 with (go_at_call 14; ((with_reducible refine CA.out.mono ?_); rintro e X6 ⟨rfl, h', k'⟩; have H6 := Lib.hid (HoldO.alloc C.ob h' (.cells (Qu.inCells v1) 24)); have O6 := Lib.hid ((O5.out.below k' O5.out.lt).alloc (.cells (Qu.inCells v1) 24)); have R6 := Lib.hid ((R5.out.below k' R5.out.lt).alloc (.cells (Qu.inCells v1) 24)); have V6 := Lib.hid (Box.made X6 24 (Qu.inCells v1)); clear h' k'))
                  rw [show X6.alloc (.cells #[.int .i8 v1.x, .int .i8 v1.y, .int .u8 v1.b] 24) = X6.alloc (.cells (Qu.inCells v1) 24) from rfl]
                  clear k1 H5 R5 O5
                  generalize X6.heap.size = Pa at *
                  generalize X6.alloc (.cells (Qu.inCells v1) 24) = X7 at *
                  have kd1 := op_cells O6.out
                  obtain ⟨k1, _, _, _⟩ := kd1
                  go_upto_region 17 with (go_at_call 15; ((with_reducible refine (CR.out _ R6.out).mono ?_); rintro e X8 ⟨rfl, k'⟩; have H8 := Lib.hid (HoldO.alloc C.ob (HoldO.below C.ob H6.out k') (.cells (Qu.inCells v1) 24)); have R8 := Lib.hid ((R6.out.below k' R6.out.lt).alloc (.cells (Qu.inCells v1) 24)); have V8 := Lib.hid ((V6.out.below k' V6.out.lt).alloc (.cells (Qu.inCells v1) 24)); have U8 := Lib.hid (Box.made X8 24 (Qu.inCells v1)); clear k'))
                  rw [show X8.alloc (.cells #[.int .i8 v1.x, .int .i8 v1.y, .int .u8 v1.b] 24) = X8.alloc (.cells (Qu.inCells v1) 24) from rfl]
                  clear k1 H6 R6 O6 V6 CA CR
                  generalize X8.heap.size = Pb at *
                  generalize X8.alloc (.cells (Qu.inCells v1) 24) = X9 at *
                  have a0 : X9.cell? ⟨Pa, 0, none⟩ = some (.int .i8 v1.x) := V8.out.cell 0
                  have a1 : X9.cell? ⟨Pa, 1, none⟩ = some (.int .i8 v1.y) := V8.out.cell 1
                  have a2 : X9.cell? ⟨Pa, 2, none⟩ = some (.int .u8 v1.b) := V8.out.cell 2
                  have b0 : X9.cell? ⟨Pb, 0, none⟩ = some (.int .i8 v1.x) := U8.out.cell 0
                  have b1 : X9.cell? ⟨Pb, 1, none⟩ = some (.int .i8 v1.y) := U8.out.cell 1
                  have b2 : X9.cell? ⟨Pb, 2, none⟩ = some (.int .u8 v1.b) := U8.out.cell 2
                  have H8 := Lib.hid (H8.out.less (G' := fun j => j = Bb ∨ j = Po) fun j hj => .inl (.inl hj))
                  go_upto_region 25 with fail
                  clear a0 a1 a2 b0 b1 b2 ns1 hfl V8 U8
                  obtain ⟨nr, hnr⟩ := Qu.run_is M
                  have HE := Lib.hid (fun q : Ext X9.heap.size X9 => HoldO.below C.ob H8.out q.h)
                  have RE := Lib.hid (fun q : Ext X9.heap.size X9 => R8.out.below q.h R8.out.lt)
                  have cf := fun q : Ext X9.heap.size X9 => Lib.hid (P14.from_b C mo.out (HE.out q))
                  have ck := fun q : Ext X9.heap.size X9 => Lib.hid (P14.known_b C mo.out nr hnr (HE.out q))
                  have cr := fun q : Ext X9.heap.size X9 => Lib.hid (refqknown_b Bb nr M hnr q.w (RE.out q))
                  have zf : ∀ q : Ext X9.heap.size X9, q.w.cell? ⟨Bb, 0, none⟩ = some (.int .i64 M.from_) := fun q => (arr_cell (RE.out q) (by decide)).trans (by rw [Qu.qf_0])
                  clear hnr
                  generalize hfm : M.from_ = fm at *
                  have HFM := Lib.hid hfm
                  clear hfm
                  go_upto_region 25 with fail
                  refine wp_region_ext X9.heap.size X9 (by kernel_rfl) (by kernel_rfl) (Below.refl _ _) ?_
                  repeat (go_big_quiet_step (first | (go_at_call 16; with_reducible exact Calls.ext_of (Nat.le_refl _) (cf _).out) | (go_at_call 17; with_reducible exact Calls.ext_of (Nat.le_refl _) (ck _).out) | (go_at_call 18; with_reducible exact Calls.ext_of (Nat.le_refl _) (cr _).out)))
                  refine wpQuiet_nil ?_
                  intro _ hw'
                  obtain ⟨q5, hw''⟩ := hw'
                  subst hw''
                  have H9 := Lib.hid (HE.out q5)
                  have R9 := Lib.hid (RE.out q5)
                  clear cf ck cr zf HE RE
                  go_wp2_with fail
                  go_roundw
                  case rel => exact ⟨k + 1, M, by omega, by go_num, mo.out, by rw [HFM.out]; exact HF2.out, R9.out, H9.out.less fun j hj => .inl hj⟩
                  case measure => simp [intOf]; omega
        · obtain rfl : k = n := by omega
          have hkn : ¬ (k : Int) < k := by omega
          go_wp2_with (go_at_call 9; ((with_reducible refine (ct _).out.mono ?_); rintro e w3 ⟨rfl, h3⟩; have H4 := Lib.hid (HoldO.below C.ob HP.out h3); clear h3))
          go_ret
          exact ⟨rfl, H4.out.down⟩)
end Go.Proofs.Ytcohbkgimlojpaa
namespace Go.Proofs.Ytcohbkgimlojpaa
open Go.RowKit
set_option linter.unusedVariables false
set_option linter.unusedSimpArgs false
/-- In block r lies a map; g is what is found in it. -/
structure IMap (W : World) (r : Nat) (k : IntKind) (g : Int → Option Value) : Prop where
  ex : ∃ es clock, W.heap[r]? = some (.map es clock) ∧ Go.MapKept.Stamped es clock ∧ (∀ x ∈ es.toList, Go.MapKept.IsKey (.int k) x.key) ∧ ∀ a v, g a = some v ↔ ∃ e ∈ es.toList, e.key = .int k a ∧ e.val = v
section
variable {P : Program} {W W' : World} {r : Nat} {k : IntKind} {g : Int → Option Value} {mt kt et : TypeId}
theorem IMap.lt (h : IMap W r k g) : r < W.heap.size := by
  obtain ⟨es, clock, hb, _⟩ := h.ex
  exact (Array.getElem?_eq_some_iff.1 hb).1
theorem IMap.same (h : IMap W r k g) (hb : W'.heap[r]? = W.heap[r]?) : IMap W' r k g := by
  obtain ⟨es, clock, h1, h2⟩ := h.ex
  exact ⟨es, clock, hb.trans h1, h2⟩
theorem IMap.congr {g' : Int → Option Value} (h : IMap W r k g) (e : ∀ a, g a = g' a) : IMap W r k g' := by
  have : g = g' := funext e
  exact this ▸ h
theorem IMap.below {b : Nat} (h : IMap W r k g) (hb : Below b W W') (hr : r < b) : IMap W' r k g := h.same (hb.block r hr)
theorem IMap.box {b : Nat} {t : TypeId} {cs : Array Value} (h : IMap W r k g) (hB : Box W b t cs) : r ≠ b := fun e => by
  obtain ⟨es, clock, h1, _⟩ := h.ex
  rw [e, hB.is] at h1
  cases h1
theorem IMap.far (h : IMap W r k g) {p : Addr} (hp : r ≠ p.block) (u : Value) : IMap (W.setCell p u) r k g := h.same (heap_setCell_other W p r u hp)
theorem IMap.made (W : World) (k : IntKind) : IMap (W.alloc (.map #[] 0)) W.heap.size k (fun _ => none) :=
  ⟨#[], 0, heap_alloc_new W _, Go.MapKept.stamped_empty 0, by simp, by simp⟩
/-- What findKey comes to. -/
theorem IMap.finds (h : IMap W r k g) (hk : P.underlying kt = some (.int k)) (a : Int) : ∃ es clock, W.heap[r]? = some (.map es clock) ∧ Go.MapKept.Stamped es clock ∧ (∀ x ∈ es.toList, Go.MapKept.IsKey (.int k) x.key) ∧ (∀ a v, g a = some v ↔ ∃ e ∈ es.toList, e.key = .int k a ∧ e.val = v) ∧
    ((g a = none ∧ (∀ x ∈ es.toList, x.key ≠ .int k a) ∧ ∀ w, (Instr.findKey kt (.int k a) es.toList).run P w = .ok none w) ∨ ∃ j e, g a = some e.val ∧ es[j]? = some e ∧ e.key = .int k a ∧ ∀ w, (Instr.findKey kt (.int k a) es.toList).run P w = .ok (some (j, e.val)) w) := by
  obtain ⟨es, clock, h1, h2, h3, h4⟩ := h.ex
  refine ⟨es, clock, h1, h2, h3, h4, ?_⟩
  rcases Go.MapKept.findNow_spec (d := .int k) (k := .int k a) rfl es.toList 0 h3 with ⟨f1, f2⟩ | ⟨j, e, f1, f2, f3⟩
  · refine .inl ⟨?_, f2, fun w => Go.MapKept.run_findKey hk f1⟩
    cases hg : g a with
    | none => rfl
    | some v =>
      obtain ⟨e, he, hke, _⟩ := (h4 a v).1 hg
      exact absurd hke (f2 e he)
  · rw [Nat.zero_add] at f1
    have hj : es[j]? = some e := by simpa using f2
    exact .inr ⟨j, e, (h4 a e.val).2 ⟨e, List.mem_of_getElem? f2, f3, rfl⟩, hj, f3, fun w => Go.MapKept.run_findKey hk f1⟩
/-- v, ok := m[a] -/
theorem IMap.look (h : IMap W r k g) (hm : P.underlying mt = some (.map kt et)) (hk : P.underlying kt = some (.int k)) {z : Value} (hz : ∀ w, (zeroValue et).run P w = .ok z w) (a : Int) :
    (Instr.lookup mt (.map (some r)) (.int k a) true).run P W = .ok (.tuple #[(g a).getD z, .bool (g a).isSome]) W := by
  obtain ⟨es, clock, h1, _, _, _, hf⟩ := h.finds hk a
  have hc := fun e n => Go.MapKept.run_checkKey (P := P) (w := W) hk (k := .int k a) rfl e n
  rcases hf with ⟨hg, _, hf⟩ | ⟨j, e, hg, _, _, hf⟩
  · rw [hg]
    simp [Instr.lookup, run_underlying hm, Go.MapKept.run_getObj_map h1, hc, hf, hz, Result.andThen]
  · rw [hg]
    simp [Instr.lookup, run_underlying hm, Go.MapKept.run_getObj_map h1, hc, hf, Result.andThen]
def updI (g : Int → Option Value) (a : Int) (o : Option Value) : Int → Option Value := fun b => if b = a then o else g b
theorem only_map {W : World} {r : Nat} {o o' : Obj} (h : W.heap[r]? = some o) : Only r W { W with heap := W.heap.setIfInBounds r o' } :=
  ⟨rfl, rfl, rfl, by simp, fun k _ hne => by simp [Array.getElem?_setIfInBounds, Ne.symm hne]⟩
/-- m[a] = v -/
theorem IMap.store (h : IMap W r k g) (hm : P.underlying mt = some (.map kt et)) (hk : P.underlying kt = some (.int k)) (a : Int) (v : Value) :
    ∃ W', (Instr.mapUpdate mt (.map (some r)) (.int k a) v).run P W = .ok () W' ∧ IMap W' r k (updI g a (some v)) ∧ Only r W W' := by
  obtain ⟨es, clock, h1, hs, h3, h4, hf⟩ := h.finds hk a
  have hc := fun e n => Go.MapKept.run_checkKey (P := P) (w := W) hk (k := .int k a) rfl e n
  have hst := Go.MapKept.run_keyThatStays (P := P) (w := W) (d := .int k) (k := .int k a) rfl
  rcases hf with ⟨hg, hno, hf⟩ | ⟨j, e, hg, hj, hke, hf⟩
  · refine ⟨{ W with heap := W.heap.setIfInBounds r (.map (es.push { key := .int k a, val := v, born := clock }) (clock + 1)) }, ?_, ⟨_, _, (Go.MapKept.heap_set h1).1, Go.MapKept.stamped_push hs hno, ?_, fun b u => ?_⟩, only_map h1⟩
    · simp [Instr.mapUpdate, run_underlying hm, Go.MapKept.run_getObj_map h1, hc, hf, Go.MapKept.run_setObj_map _ h1, Result.andThen]
    · intro x hx
      simp only [Array.toList_push, List.mem_append, List.mem_singleton] at hx
      rcases hx with hx | rfl
      · exact h3 x hx
      · rfl
    · unfold updI
      by_cases hb : b = a
      · subst hb
        rw [if_pos rfl]
        constructor
        · intro hu
          injection hu with hu
          exact ⟨{ key := .int k b, val := v, born := clock }, by simp, rfl, hu⟩
        · rintro ⟨x, hx, hkx, hvx⟩
          simp only [Array.toList_push, List.mem_append, List.mem_singleton] at hx
          rcases hx with hx | rfl
          · exact absurd hkx (hno x hx)
          · exact congrArg some hvx
      · rw [if_neg hb, h4]
        constructor
        · rintro ⟨x, hx, hkx, hvx⟩
          exact ⟨x, by simp [hx], hkx, hvx⟩
        · rintro ⟨x, hx, hkx, hvx⟩
          simp only [Array.toList_push, List.mem_append, List.mem_singleton] at hx
          rcases hx with hx | rfl
          · exact ⟨x, hx, hkx, hvx⟩
          · injection hkx with _ hkx
            exact absurd hkx.symm hb
  · have hjl : j < es.size := (Array.getElem?_eq_some_iff.1 hj).1
    have hkey : ∀ e', es[j]? = some e' → ({ e' with key := .int k a, val := v } : MapEntry).key = e'.key := fun e' he' => by rw [hj] at he'; cases he'; exact hke.symm
    have hone : ∀ i x, es[i]? = some x → x.key = .int k a → i = j := fun i x hi hx => by
      have hl : i < (es.toList.map (·.key)).length := by simpa using (Array.getElem?_eq_some_iff.1 hi).1
      refine (List.getElem?_inj hl hs.2.2).1 ?_
      rw [List.getElem?_map, List.getElem?_map, Array.getElem?_toList, Array.getElem?_toList, hi, hj]
      show some x.key = some e.key
      rw [hx, hke]
    refine ⟨{ W with heap := W.heap.setIfInBounds r (.map (es.modify j fun e' => { e' with key := .int k a, val := v }) clock) }, ?_, ⟨_, _, (Go.MapKept.heap_set h1).1, Go.MapKept.stamped_modify hs _ _ (fun _ _ => rfl) (fun e' _ he' => hkey e' he'), Go.MapKept.isKey_modify h3 _ _ hkey, fun b u => ?_⟩, only_map h1⟩
    · simp [Instr.mapUpdate, run_underlying hm, Go.MapKept.run_getObj_map h1, hc, hf, hj, hke, hst, Go.MapKept.run_setObj_map _ h1, Result.andThen]
    · have hmod : ∀ i, (es.modify j fun e' => { e' with key := .int k a, val := v })[i]? = if j = i then (es[i]?).map (fun e' => { e' with key := .int k a, val := v }) else es[i]? := fun i => Array.getElem?_modify
      have hmem : ∀ x, x ∈ (es.modify j fun e' => { e' with key := .int k a, val := v }).toList ↔ ∃ i, (es.modify j fun e' => { e' with key := .int k a, val := v })[i]? = some x := fun x => by
        rw [Array.mem_toList_iff, Array.mem_iff_getElem?]
      have hmem0 : ∀ x, x ∈ es.toList ↔ ∃ i, es[i]? = some x := fun x => by rw [Array.mem_toList_iff, Array.mem_iff_getElem?]
      unfold updI
      by_cases hb : b = a
      · subst hb
        rw [if_pos rfl]
        constructor
        · intro hu
          injection hu with hu
          refine ⟨{ e with key := .int k b, val := v }, (hmem _).2 ⟨j, by rw [hmod, if_pos rfl, hj]; rfl⟩, rfl, hu⟩
        · rintro ⟨x, hx, hkx, hvx⟩
          obtain ⟨i, hi⟩ := (hmem x).1 hx
          rw [hmod] at hi
          by_cases hij : j = i
          · subst hij
            rw [if_pos rfl, hj] at hi
            injection hi with hi
            subst hi
            exact congrArg some hvx
          · rw [if_neg hij] at hi
            exact absurd (hone i x hi hkx).symm hij
      · rw [if_neg hb, h4]
        constructor
        · rintro ⟨x, hx, hkx, hvx⟩
          obtain ⟨i, hi⟩ := (hmem0 x).1 hx
          refine ⟨x, (hmem x).2 ⟨i, ?_⟩, hkx, hvx⟩
          rw [hmod, if_neg]
          · exact hi
          · rintro rfl
            rw [hj] at hi
            cases hi
            rw [hke] at hkx
            injection hkx with _ hkx
            exact hb hkx.symm
        · rintro ⟨x, hx, hkx, hvx⟩
          obtain ⟨i, hi⟩ := (hmem x).1 hx
          rw [hmod] at hi
          by_cases hij : j = i
          · subst hij
            rw [if_pos rfl, hj] at hi
            injection hi with hi
            subst hi
            injection hkx with _ hkx
            exact absurd hkx.symm hb
          · rw [if_neg hij] at hi
            exact ⟨x, (hmem0 x).2 ⟨i, hi⟩, hkx, hvx⟩
/-- delete(m, a) -/
theorem IMap.del (h : IMap W r k g) (hm : P.underlying mt = some (.map kt et)) (hk : P.underlying kt = some (.int k)) (a : Int) (t2 ty : TypeId) :
    ∃ W', (Builtin.delete_ #[mt, t2] ty #[.map (some r), .int k a]).run P W = .ok (.tuple #[]) W' ∧ IMap W' r k (updI g a none) ∧ Only r W W' := by
  obtain ⟨es, clock, h1, hs, h3, h4, hf⟩ := h.finds hk a
  have hc := fun e n => Go.MapKept.run_checkKey (P := P) (w := W) hk (k := .int k a) rfl e n
  rcases hf with ⟨hg, hno, hf⟩ | ⟨j, e, hg, hj, hke, hf⟩
  · refine ⟨{ W with heap := W.heap.setIfInBounds r (.map es clock) }, ?_, ⟨es, clock, (Go.MapKept.heap_set h1).1, hs, h3, fun b u => ?_⟩, only_map h1⟩
    · simp [Builtin.delete_, run_underlying hm, Go.MapKept.run_getObj_map h1, hc, hf, Go.MapKept.run_setObj_map _ h1, Result.andThen]
    · unfold updI
      by_cases hb : b = a
      · subst hb
        rw [if_pos rfl, ← h4, hg]
      · rw [if_neg hb, h4]
  · have hone : ∀ i x, es[i]? = some x → x.key = .int k a → i = j := fun i x hi hx => by
      have hl : i < (es.toList.map (·.key)).length := by simpa using (Array.getElem?_eq_some_iff.1 hi).1
      refine (List.getElem?_inj hl hs.2.2).1 ?_
      rw [List.getElem?_map, List.getElem?_map, Array.getElem?_toList, Array.getElem?_toList, hi, hj]
      show some x.key = some e.key
      rw [hx, hke]
    have hl : (es.eraseIdxIfInBounds j).toList = es.toList.eraseIdx j := by simp
    have hmem : ∀ x, x ∈ (es.eraseIdxIfInBounds j).toList ↔ ∃ i, i ≠ j ∧ es[i]? = some x := fun x => by
      rw [hl, List.mem_eraseIdx_iff_getElem?]
      simp
    have hmem0 : ∀ x, x ∈ es.toList ↔ ∃ i, es[i]? = some x := fun x => by rw [Array.mem_toList_iff, Array.mem_iff_getElem?]
    refine ⟨{ W with heap := W.heap.setIfInBounds r (.map (es.eraseIdxIfInBounds j) clock) }, ?_, ⟨_, clock, (Go.MapKept.heap_set h1).1, Go.MapKept.stamped_erase hs j, fun x hx => ?_, fun b u => ?_⟩, only_map h1⟩
    · simp [Builtin.delete_, run_underlying hm, Go.MapKept.run_getObj_map h1, hc, hf, Go.MapKept.run_setObj_map _ h1, Result.andThen]
    · obtain ⟨i, _, hi⟩ := (hmem x).1 hx
      exact h3 x ((hmem0 x).2 ⟨i, hi⟩)
    · unfold updI
      by_cases hb : b = a
      · subst hb
        rw [if_pos rfl]
        constructor
        · intro hu; cases hu
        · rintro ⟨x, hx, hkx, hvx⟩
          obtain ⟨i, hij, hi⟩ := (hmem x).1 hx
          exact absurd (hone i x hi hkx) hij
      · rw [if_neg hb, h4]
        constructor
        · rintro ⟨x, hx, hkx, hvx⟩
          obtain ⟨i, hi⟩ := (hmem0 x).1 hx
          refine ⟨x, (hmem x).2 ⟨i, ?_, hi⟩, hkx, hvx⟩
          rintro rfl
          rw [hj] at hi
          cases hi
          rw [hke] at hkx
          injection hkx with _ hkx
          exact hb hkx.symm
        · rintro ⟨x, hx, hkx, hvx⟩
          obtain ⟨i, _, hi⟩ := (hmem x).1 hx
          exact ⟨x, (hmem0 x).2 ⟨i, hi⟩, hkx, hvx⟩
end
end Go.Proofs.Ytcohbkgimlojpaa
namespace Go.Proofs.Ytcohbkgimlojpaa
open Go.RowKit
open Go.ChangeMaps (setBlock)
set_option linter.unusedVariables false
set_option linter.unusedSimpArgs false
/-- A map that may be none. -/
def GMap (W : World) (o : Option Nat) (k : IntKind) (g : Int → Option Value) : Prop := (o = none ∧ ∀ a, g a = none) ∨ ∃ r, o = some r ∧ IMap W r k g
/-- A going over the map in block r is under way, in block t: left is to come. -/
structure IGo (W : World) (r t : Nat) (k : IntKind) (g : Int → Option Value) (left : Int → Bool) (n : Nat) : Prop where
  ex : ∃ es clock seen, W.heap[r]? = some (.map es clock) ∧ W.heap[t]? = some (.mapIter (some r) clock seen clock) ∧ Go.MapKept.Stamped es clock ∧ (∀ x ∈ es.toList, Go.MapKept.IsKey (.int k) x.key) ∧ (∀ a v, g a = some v ↔ ∃ e ∈ es.toList, e.key = .int k a ∧ e.val = v) ∧ (∀ a, left a = true ↔ ∃ e ∈ es.toList, e.key = .int k a ∧ seen.contains e.born = false) ∧ (leftOf es seen).size = n
def GGo (W : World) (o : Option Nat) (t : Nat) (k : IntKind) (g : Int → Option Value) (left : Int → Bool) (n : Nat) : Prop :=
  (o = none ∧ W.heap[t]? = some (.mapIter none 0 #[] 0) ∧ (∀ a, left a = false) ∧ n = 0) ∨ ∃ r, o = some r ∧ IGo W r t k g left n
section
variable {P : Program} {W W' : World} {r t n : Nat} {o : Option Nat} {k : IntKind} {g : Int → Option Value} {left : Int → Bool} {mt kt et : TypeId}
theorem isKey_int {v : Value} (h : Go.MapKept.IsKey (.int k) v) : ∃ a, v = .int k a := by
  cases v <;> simp [Go.MapKept.IsKey] at h
  subst h
  exact ⟨_, rfl⟩
theorem IGo.same (h : IGo W r t k g left n) (hr : W'.heap[r]? = W.heap[r]?) (ht : W'.heap[t]? = W.heap[t]?) : IGo W' r t k g left n := by
  obtain ⟨es, clock, seen, h1, h2, h3⟩ := h.ex
  exact ⟨es, clock, seen, hr.trans h1, ht.trans h2, h3⟩
theorem IGo.lt (h : IGo W r t k g left n) : r < W.heap.size ∧ t < W.heap.size ∧ r ≠ t := by
  obtain ⟨es, clock, seen, h1, h2, _⟩ := h.ex
  refine ⟨(Array.getElem?_eq_some_iff.1 h1).1, (Array.getElem?_eq_some_iff.1 h2).1, fun e => ?_⟩
  rw [e, h2] at h1
  cases h1
theorem IGo.left_eq (h : IGo W r t k g left n) : W.rangeLeft r t = n := by
  obtain ⟨es, clock, seen, h1, h2, _, _, _, _, h9⟩ := h.ex
  simp only [World.rangeLeft, h1, h2]
  exact h9
theorem GGo.left_eq (h : GGo W o t k g left n) : W.rangeLeft (o.getD t) t = n := by
  rcases h with ⟨rfl, h1, _, rfl⟩ | ⟨r, rfl, h⟩
  · show W.rangeLeft t t = 0
    simp only [World.rangeLeft, h1]
  · exact h.left_eq
theorem GGo.lt (h : GGo W o t k g left n) : t < W.heap.size := by
  rcases h with ⟨rfl, h1, _, rfl⟩ | ⟨r, rfl, h⟩
  · exact (Array.getElem?_eq_some_iff.1 h1).1
  · exact h.lt.2.1
theorem GGo.same (h : GGo W o t k g left n) (hr : ∀ r, o = some r → W'.heap[r]? = W.heap[r]?) (ht : W'.heap[t]? = W.heap[t]?) : GGo W' o t k g left n := by
  rcases h with ⟨rfl, h1, h2, rfl⟩ | ⟨r, rfl, h⟩
  · exact .inl ⟨rfl, ht.trans h1, h2, rfl⟩
  · exact .inr ⟨r, rfl, h.same (hr r rfl) ht⟩
theorem GGo.below {b : Nat} (h : GGo W o t k g left n) (hb : Below b W W') (ht : t < b) (hr : ∀ r, o = some r → r < b) : GGo W' o t k g left n := h.same (fun r e => hb.block r (hr r e)) (hb.block t ht)
theorem GMap.same (h : GMap W o k g) (hr : ∀ r, o = some r → W'.heap[r]? = W.heap[r]?) : GMap W' o k g := by
  rcases h with ⟨rfl, h⟩ | ⟨r, rfl, h⟩
  · exact .inl ⟨rfl, h⟩
  · exact .inr ⟨r, rfl, h.same (hr r rfl)⟩
theorem GMap.lt (h : GMap W o k g) {r : Nat} (e : o = some r) : r < W.heap.size := by
  rcases h with ⟨rfl, h⟩ | ⟨r', rfl, h⟩
  · cases e
  · injection e with e
    subst e
    exact h.lt
theorem GMap.below {b : Nat} (h : GMap W o k g) (hb : Below b W W') (hr : ∀ r, o = some r → r < b) : GMap W' o k g := h.same fun r e => hb.block r (hr r e)
theorem GMap.box {b : Nat} {T : TypeId} {cs : Array Value} (h : GMap W o k g) (hB : Box W b T cs) : ∀ r, o = some r → r ≠ b := fun r e => by
  rcases h with ⟨rfl, h⟩ | ⟨r', rfl, h⟩
  · cases e
  · injection e with e
    subst e
    exact h.box hB
theorem GMap.congr {g' : Int → Option Value} (h : GMap W o k g) (e : ∀ a, g a = g' a) : GMap W o k g' := by
  have : g = g' := funext e
  exact this ▸ h
/-- v, ok := m[a] -/
theorem GMap.look (h : GMap W o k g) (hm : P.underlying mt = some (.map kt et)) (hk : P.underlying kt = some (.int k)) {z : Value} (hz : ∀ w, (zeroValue et).run P w = .ok z w) (a : Int) :
    (Instr.lookup mt (.map o) (.int k a) true).run P W = .ok (.tuple #[(g a).getD z, .bool (g a).isSome]) W := by
  rcases h with ⟨rfl, h⟩ | ⟨r, rfl, h⟩
  · have hc := fun e n => Go.MapKept.run_checkKey (P := P) (w := W) hk (k := .int k a) rfl e n
    have hf : ∀ w, (Instr.findKey kt (.int k a) []).run P w = .ok none w := fun w => Go.MapKept.run_findKey hk (by simp [Instr.findNow])
    rw [h]
    simp [Instr.lookup, run_underlying hm, hc, hf, hz, Result.andThen]
  · exact h.look hm hk hz a
/-- delete(m, a) -/
theorem GMap.del (h : GMap W o k g) (hm : P.underlying mt = some (.map kt et)) (hk : P.underlying kt = some (.int k)) (a : Int) (t2 ty : TypeId) :
    ∃ W', (Builtin.delete_ #[mt, t2] ty #[.map o, .int k a]).run P W = .ok (.tuple #[]) W' ∧ GMap W' o k (updI g a none) ∧ KeepL (fun j => o = some j) W W' ∧ W'.heap.size = W.heap.size := by
  rcases h with ⟨rfl, h⟩ | ⟨r, rfl, h⟩
  · have hc := fun e n => Go.MapKept.run_checkKey (P := P) (w := W) hk (k := .int k a) rfl e n
    refine ⟨W, ?_, .inl ⟨rfl, fun b => ?_⟩, KeepL.refl _ _, rfl⟩
    · simp [Builtin.delete_, run_underlying hm, hc, Result.andThen]
    · unfold updI
      split
      · rfl
      · exact h b
  · obtain ⟨W', h1, h2, h3⟩ := h.del hm hk a t2 ty
    have hsz : W'.heap.size = W.heap.size := by
      obtain ⟨es, clock, hb, _, _, _, hf⟩ := h.finds (P := P) hk a
      have hc := fun e n => Go.MapKept.run_checkKey (P := P) (w := W) hk (k := .int k a) rfl e n
      rcases hf with ⟨_, _, hf⟩ | ⟨j, e, _, _, _, hf⟩
      · simp [Builtin.delete_, run_underlying hm, Go.MapKept.run_getObj_map hb, hc, hf, Go.MapKept.run_setObj_map _ hb, Result.andThen] at h1
        rw [← h1]
        simp
      · simp [Builtin.delete_, run_underlying hm, Go.MapKept.run_getObj_map hb, hc, hf, Go.MapKept.run_setObj_map _ hb, Result.andThen] at h1
        rw [← h1]
        simp
    exact ⟨W', h1, .inr ⟨r, rfl, h2⟩, ⟨h3.os, h3.tape, h3.output, h3.size, fun j hj hne => h3.block j hj fun e => hne (by rw [e])⟩, hsz⟩
/-- 'range m' -/
theorem GMap.range (h : GMap W o k g) (hm : P.underlying mt = some (.map kt et)) :
    ∃ it, (Instr.range mt (.map o)).run P W = .ok (.pointer (some ⟨W.heap.size, 0, none⟩)) (W.alloc it) ∧ ∃ n, GGo (W.alloc it) o W.heap.size k g (fun a => (g a).isSome) n := by
  rcases h with ⟨rfl, h⟩ | ⟨r, rfl, h⟩
  · exact ⟨_, run_range_nilMap W mt kt et hm, 0, .inl ⟨rfl, heap_alloc_new _ _, fun a => by show (g a).isSome = false; rw [h a]; rfl, rfl⟩⟩
  · obtain ⟨es, clock, h1, hs, h3, h4⟩ := h.ex
    refine ⟨_, run_range_map W mt kt et r es clock hm h1, _, .inr ⟨r, rfl, es, clock, #[], ?_, heap_alloc_new _ _, hs, h3, h4, fun a => ?_, rfl⟩⟩
    · rw [heap_alloc_old _ _ h.lt]
      exact h1
    · rw [Option.isSome_iff_exists]
      constructor
      · rintro ⟨v, hv⟩
        obtain ⟨e, he, hke, _⟩ := (h4 a v).1 hv
        exact ⟨e, he, hke, by simp⟩
      · rintro ⟨e, he, hke, _⟩
        exact ⟨e.val, (h4 a e.val).2 ⟨e, he, hke, rfl⟩⟩
theorem only_iter {W w1 : World} {t : Nat} {x : Obj} (hw : w1 = W ∨ w1 = W.drew) : Only t W (setBlock w1 t x) ∧ (setBlock w1 t x).heap.size = W.heap.size := by
  have e1 : w1.heap = W.heap ∧ w1.os = W.os ∧ w1.tape = W.tape ∧ w1.output = W.output := by rcases hw with rfl | rfl <;> exact ⟨rfl, rfl, rfl, rfl⟩
  have e2 : (setBlock w1 t x).heap = w1.heap.setIfInBounds t x := rfl
  refine ⟨⟨e1.2.1, e1.2.2.1, e1.2.2.2, by rw [e2, e1.1]; simp, fun k _ hne => ?_⟩, by rw [e2, e1.1]; simp⟩
  rw [e2, e1.1]
  simp [Array.getElem?_setIfInBounds, Ne.symm hne]
/-- The step: nothing is left, or one comes, whichever. -/
theorem GGo.next (h : GGo W o t k g left n) (ty : TypeId) :
    ((∀ a, left a = false) ∧ (Instr.next (.pointer (some ⟨t, 0, none⟩)) false ty).run P W = .ok (.tuple #[.bool false]) W) ∨
    ∃ a v W1 n1, left a = true ∧ g a = some v ∧ (Instr.next (.pointer (some ⟨t, 0, none⟩)) false ty).run P W = .ok (.tuple #[.bool true, .int k a, v]) W1 ∧ (Instr.entry (.pointer (some ⟨t, 0, none⟩))).run P W1 = .ok (.tuple #[.int k a, v]) W1 ∧
      GGo W1 o t k g (fun b => left b && decide (b ≠ a)) n1 ∧ n1 < n ∧ Only t W W1 ∧ W1.heap.size = W.heap.size := by
  rcases h with ⟨rfl, h1, h2, rfl⟩ | ⟨r, rfl, h⟩
  · refine .inl ⟨h2, ?_⟩
    simp only [Instr.next, getObj, Sem.run_bind, Sem.run, h1, Result.andThen]
    rfl
  · have hlt := h.lt
    obtain ⟨es, clock, seen, h1, h2, hs, h3, h4, h7, h8⟩ := h.ex
    rcases run_next_at (P := P) W ty t r clock clock seen es clock h2 h1 hs.1 (Nat.le_refl _) with ⟨h0, hrun⟩ | ⟨e, he, w1, hw1, hrun⟩
    · refine .inl ⟨fun a => ?_, hrun⟩
      rw [← Bool.not_eq_true, h7]
      rintro ⟨x, hx, _, hsx⟩
      rw [all_seen es seen h0 x hx] at hsx
      cases hsx
    · right
      have hm := mem_left he
      obtain ⟨a, ha⟩ := isKey_int (h3 e hm.1)
      obtain ⟨ho, hz⟩ := only_iter (x := .mapIter (some r) clock (seen.push e.born) clock) (t := t) hw1
      have hr1 : (setBlock w1 t (.mapIter (some r) clock (seen.push e.born) clock)).heap[r]? = some (.map es clock) := (ho.block r hlt.1 hlt.2.2).trans h1
      have ht1 : (setBlock w1 t (.mapIter (some r) clock (seen.push e.born) clock)).heap[t]? = some (.mapIter (some r) clock (seen.push e.born) clock) := by
        have : t < w1.heap.size := by rcases hw1 with rfl | rfl <;> exact hlt.2.1
        simp [setBlock, this]
      have hkey : ∀ x ∈ es.toList, x.key = .int k a → x = e := fun x hx hxk => by
        exact Go.entry_eq_of_key ((Go.MapKept.stamped_iff es clock).1 hs).2.2 hx hm.1 (hxk.trans ha.symm)
      refine ⟨a, e.val, _, _, (h7 a).2 ⟨e, hm.1, ha, hm.2⟩, (h4 a e.val).2 ⟨e, hm.1, ha, rfl⟩, by rw [hrun, ha], ?_, .inr ⟨r, rfl, es, clock, seen.push e.born, hr1, ht1, hs, h3, h4, fun b => ?_, rfl⟩, ?_, ho, hz⟩
      · rw [run_entry_at (P := P) _ t r clock seen es clock e ht1 hr1 hm.1 hs.2.1, ha]
      · rw [Bool.and_eq_true, decide_eq_true_eq, h7]
        constructor
        · rintro ⟨⟨x, hx, hxk, hxs⟩, hba⟩
          refine ⟨x, hx, hxk, ?_⟩
          rw [contains_push, hxs, Bool.false_or]
          rw [beq_eq_false_iff_ne]
          intro hb
          have := born_inj hs.2.1 hx hm.1 hb
          subst this
          rw [ha] at hxk
          injection hxk with _ hxk
          exact hba hxk.symm
        · rintro ⟨x, hx, hxk, hxs⟩
          rw [contains_push, Bool.or_eq_false_iff] at hxs
          refine ⟨⟨x, hx, hxk, hxs.1⟩, fun hb => ?_⟩
          subst hb
          have := hkey x hx hxk
          subst this
          simp at hxs
      · rw [← h8]
        exact left_shrinks es seen e he
end
end Go.Proofs.Ytcohbkgimlojpaa
