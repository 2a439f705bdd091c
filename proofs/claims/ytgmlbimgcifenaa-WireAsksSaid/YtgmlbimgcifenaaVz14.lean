/-
Several texts in one: Zv Zx Aa Yq Ab Ue Uf Uh Ub Uc Ui Rnd.
-/
import Derived.Test.YtgmlbimgcifenaaVz13
set_option maxRecDepth 100000
set_option maxHeartbeats 8000000
set_option linter.unusedVariables false
set_option linter.unusedSimpArgs false
namespace Ms
open Go
noncomputable def sameW (m n : M) : Bool := ((((((((((((((((m.kind == n.kind) && (m.frm == n.frm)) && (m.serial == n.serial)) && (m.ack == n.ack)) && (m.seen == n.seen)) && (m.slot == n.slot)) && (m.gen == n.gen)) && (m.frame == n.frame)) && (m.code == n.code)) && (m.n == n.n)) && (m.of == n.of)) && (m.bits == n.bits)) && (m.sum == n.sum)) && (decide (m.ins = n.ins))) && (En.eqB m.log n.log)) && (decide (m.data = n.data)))
theorem sameW_is (m n : M) : sameW m n = sameB m n := by
  have hL : En.eqB m.log n.log = true ↔ m.log.length = n.log.length ∧ ∀ j (h : j < m.log.length) (h' : j < n.log.length), En.Like m.log[j].e n.log[j].e := by
    constructor
    · intro h
      by_cases hh : m.log.length = n.log.length ∧ ∀ j (h : j < m.log.length) (h' : j < n.log.length), En.Like m.log[j].e n.log[j].e
      · exact hh
      · rw [En.eqB_no hh] at h; cases h
    · exact En.eqB_yes
  have hF : En.frontB m.log n.log = true ↔ m.log.length ≤ n.log.length ∧ ∀ j (h : j < m.log.length) (h' : j < n.log.length), En.Like m.log[j].e n.log[j].e := by
    constructor
    · intro h
      by_cases hh : m.log.length ≤ n.log.length ∧ ∀ j (h : j < m.log.length) (h' : j < n.log.length), En.Like m.log[j].e n.log[j].e
      · exact hh
      · rw [En.frontB_no hh] at h; cases h
    · exact En.frontB_yes
  rw [Bool.eq_iff_iff, sameB_iff]
  unfold sameW
  simp only [Bool.and_eq_true, beq_iff_eq, decide_eq_true_eq, hL]
  constructor
  · rintro ⟨⟨⟨⟨⟨⟨⟨⟨⟨⟨⟨⟨⟨⟨⟨h1, h2⟩, h3⟩, h4⟩, h5⟩, h6⟩, h7⟩, h8⟩, h9⟩, h10⟩, h11⟩, h12⟩, h13⟩, h14⟩, h15⟩, h16⟩
    refine ⟨?_, fun k h h' => by simp only [h14], hF.2 ⟨by omega, h15.2⟩⟩
    unfold differ
    simp [h1, h2, h3, h4, h5, h6, h7, h8, h9, h10, h11, h12, h13, h14, h15.1, h16]
  · rintro ⟨hd, hi, hl⟩
    unfold differ at hd
    simp only [Bool.or_eq_false_iff, bne_eq_false_iff_eq, Bool.not_eq_eq_eq_not, Bool.not_false, decide_eq_true_eq] at hd
    obtain ⟨⟨⟨⟨⟨⟨⟨⟨⟨⟨⟨⟨⟨⟨⟨h1, h2⟩, h3⟩, h4⟩, h5⟩, h6⟩, h7⟩, h8⟩, h9⟩, h10⟩, h11⟩, h12⟩, h13⟩, hdt⟩, hil⟩, hll⟩ := hd
    have hll' : m.log.length = n.log.length := by omega
    have hil' : m.ins.length = n.ins.length := by omega
    exact ⟨⟨⟨⟨⟨⟨⟨⟨⟨⟨⟨⟨⟨⟨⟨h1, h2⟩, h3⟩, h4⟩, h5⟩, h6⟩, h7⟩, h8⟩, h9⟩, h10⟩, h11⟩, h12⟩, h13⟩, List.ext_getElem hil' fun k h h' => hi k h h'⟩, ⟨hll', (hF.1 hl).2⟩⟩, hdt⟩
end Ms
namespace Go.Proofs.Ytgmlbimgcifenaa
open Go.RowKit Go.Shelf
theorem in_neqv (a b c e f g : Int) (w : World) : (binOp .neq 50 (.agg #[.int .i8 a, .int .i8 b, .int .u8 c]) (.agg #[.int .i8 e, .int .i8 f, .int .u8 g])).run Try.prog w = .ok (.bool (!decide (a = e ∧ b = f ∧ c = g))) w := by
  have hh : (Op.equalIn 10000 50 (.agg #[.int .i8 a, .int .i8 b, .int .u8 c]) (.agg #[.int .i8 e, .int .i8 f, .int .u8 g])).run Try.prog w = .ok (decide (a = e ∧ b = f ∧ c = g)) w := by
    by_cases h1 : a = e
    · by_cases h2 : b = f
      · by_cases h3 : c = g
        · subst h1 h2 h3; go_simp <;> simp
        · have h5 : (c == g) = false := by simpa using h3
          subst h1 h2; go_simp <;> simp [h5, h3]
      · have h5 : (b == f) = false := by simpa using h2
        subst h1; go_simp <;> simp [h5, h2]
    · have h5 : (a == e) = false := by simpa using h1
      go_simp <;> simp [h5, h1]
  generalize #[Value.int .i8 a, .int .i8 b, .int .u8 c] = F at *
  generalize #[Value.int .i8 e, .int .i8 f, .int .u8 g] = G at *
  go_simp
theorem inseq_any (l m : List Gm.In) (A B : Option Addr) (n n' c d : Nat) (w : World) (hn : n = l.length) (hm : n' = m.length) (n64 : n ≤ maxLen) (m64 : n' ≤ maxLen) (hr : Lies w w.heap.size 3 A n (Gm.inCells l)) (hq : Lies w w.heap.size 3 B n' (Gm.inCells m)) :
    Calls Try.prog 47 #[.slice A n c, .slice B n' d] w fun e w' => e = .returned (.bool (decide (l = m))) ∧ Below w.heap.size w w' := by
  obtain ⟨r, hr0⟩ : ∃ r, r = decide (l = m) := ⟨_, rfl⟩
  rw [← hr0]
  have HR := qh hr0
  have n63 : (n : Int) ≤ 9223372036854775807 := by unfold maxLen at n64; omega
  have m63 : (n' : Int) ≤ 9223372036854775807 := by unfold maxLen at m64; omega
  clear hr0 n64 m64
  by_cases hnn : n = n'
  · subst hnn
    have HN := qh hn
    have HM := qh hm
    clear hn hm
    go_enter Try.func47, Try.ntmps47
    go_wp2
    go_loopw [13] (fun i wr => ∃ k : Nat, k ≤ n ∧ i = .int .i64 k ∧ Below w.heap.size w wr ∧ ∀ j, j < k → l[j]? = m[j]?) (fun i _ => n - (intOf i).toNat)
    case atStart => exact ⟨0, by omega, rfl, Below.refl _ _, fun j hj => absurd hj (Nat.not_lt_zero j)⟩
    case round =>
      obtain ⟨k, hk, rfl, hb, hall⟩ := hrel
      by_cases hlt : k < n
      · have hk8 : (k : Int) < n := by omega
        have hkl : k < l.length := by have := HN.out; omega
        have hkm : k < m.length := by have := HM.out; omega
        obtain ⟨ad, rfl, hbl, a0, a1, a2⟩ := in_at3 (hr.below hb) HN.out k hkl
        obtain ⟨bd, rfl, hbm, c0, c1, c2⟩ := in_at3 (hq.below hb) HM.out k hkm
        have hlk : l[k]? = some l[k] := List.getElem?_eq_getElem hkl
        have hmk : m[k]? = some m[k] := List.getElem?_eq_getElem hkm
        generalize l[k] = u at a0 a1 a2 hlk
        generalize m[k] = v at c0 c1 c2 hmk
        obtain ⟨u0, u1, u2⟩ := u
        obtain ⟨v0, v1, v2⟩ := v
        dsimp only at a0 a1 a2 c0 c1 c2
        have hneq := fun W => in_neqv u0 u1 u2 v0 v1 v2 W
        have HB := qh hb
        have HALL := qh hall
        have HLK := qh hlk
        have HMK := qh hmk
        clear hr hq hb hall hlk hmk
        by_cases he : u0 = v0 ∧ u1 = v1 ∧ u2 = v2
        · rw [decide_eq_true he] at hneq
          have hnew := qh (show ∀ j, j < k + 1 → l[j]? = m[j]? from fun j hj => by
            by_cases e : j = k
            · rw [e, HLK.out, HMK.out, he.1, he.2.1, he.2.2]
            · exact HALL.out j (by omega))
          clear he
          go_upto_region 6 with fail
          go_quiet (fail)
          go_wp2
          go_roundw
          case rel => exact ⟨k + 1, by omega, by go_num, draws_below HB.out _, hnew.out⟩
          case measure => simp [intOf]; omega
        · rw [decide_eq_false he] at hneq
          have hno := qh (show ¬ l = m from fun h => he (by
            have h1 := HLK.out
            rw [h, HMK.out] at h1
            injection h1 with h1
            injection h1 with h1 h2 h3
            exact ⟨h1.symm, h2.symm, h3.symm⟩))
          clear he
          go_upto_region 6 with fail
          go_quiet (fail)
          go_wp2
          go_ret
          exact ⟨ret_bool (by rw [HR.out]; exact (decide_eq_false hno.out).symm), draws_below HB.out _⟩
      · have hk8 : ¬ (k : Int) < n := by omega
        have hyes := qh (show l = m from List.ext_getElem? fun i => by
          by_cases hi : i < k
          · exact hall i hi
          · rw [List.getElem?_eq_none (by have := HN.out; omega), List.getElem?_eq_none (by have := HM.out; omega)])
        have HB := qh hb
        clear hr hq hb hall
        go_wp2
        go_ret
        exact ⟨ret_bool (by rw [HR.out]; exact (decide_eq_true hyes.out).symm), HB.out⟩
  · have hne : ((n : Int) != n') = true := by simp; omega
    have hno := qh (show ¬ l = m from fun h => hnn (by rw [hn, hm, h]))
    clear hr hq hn hm hnn
    go_enter Try.func47, Try.ntmps47
    go_wp2
    go_ret
    exact ⟨ret_bool (by rw [HR.out]; exact (decide_eq_false hno.out).symm), Below.refl _ _⟩
theorem byteseq_any (l m : List Int) (A B : Option Addr) (c d : Nat) (w : World) (hl : Im.IsBytes l) (hm : Im.IsBytes m) (hL : Lies w w.heap.size 1 A l.length (Im.u8s l)) (hM : Lies w w.heap.size 1 B m.length (Im.u8s m)) :
    Calls Try.prog 50 #[.slice A l.length c, .slice B m.length d] w fun e w' => e = .returned (.bool (decide (l = m))) ∧ Below w.heap.size w w' := by
  have k1 := conv_bytes l l.length A c w w.heap.size rfl hL
  have k2 := conv_bytes m m.length B d w w.heap.size rfl hM
  obtain ⟨r, hr⟩ : ∃ r, r = decide (l = m) := ⟨_, rfl⟩
  rw [← hr]
  have h := Sx.str_eq_iff hl hm
  rw [← hr] at h
  have HR := qh hr
  generalize strOfNums l = s at *
  generalize strOfNums m = t at *
  generalize l.length = n at *
  generalize m.length = n' at *
  have HH := qh h
  clear hr h hL hM
  go_enter Try.func50, Try.ntmps50
  go_wp2
  go_ret
  exact ⟨ret_bool (by rw [← HH.out]), Below.refl _ _⟩
theorem wsame_any (p q : Ms.S) (w : World) (hTp : Ms.Ty p.m) (hTq : Ms.Ty q.m) (hP : LiesM w w.heap.size p) (hQ : LiesM w w.heap.size q) :
    Calls Try.prog 22 #[.agg p.cells, .agg q.cells] w fun e w' => e = .returned (.bool (Ms.sameB p.m q.m)) ∧ Below w.heap.size w w' := by
  have TP := qh hTp
  have TQ := qh hTq
  have LP := qh hP
  have LQ := qh hQ
  have KB := qh ((one_below w (.cells p.cells 29)).alloc (one_below w (.cells p.cells 29)).size (.cells q.cells 29))
  have BX := qh ((Box.made w 29 p.cells).alloc (.cells q.cells 29))
  have BY := qh (Box.made (w.alloc (.cells p.cells 29)) 29 q.cells)
  clear hTp hTq hP hQ
  go_enter Try.func22, Try.ntmps22
  go_upto_region 1 with fail
  generalize hW : (w.alloc (.cells p.cells 29)).alloc (.cells q.cells 29) = W0 at *
  generalize hB2 : (w.alloc (.cells p.cells 29)).heap.size = B at *
  obtain ⟨A, hA⟩ : ∃ A, A = w.heap.size := ⟨_, rfl⟩
  rw [← hA] at BX
  refine Slim.forget 115 rfl rfl fun a0 S D hf => ?_
  have H2 : Slim.Has a0 2 true (.pointer (some ⟨A, 0, none⟩)) := by rw [hA]; exact hf 2 _ rfl
  have H3 : Slim.Has a0 3 true (.pointer (some ⟨B, 0, none⟩)) := hf 3 _ (by rw [← hB2]; simp; first | done | rfl)
  clear hf hW hB2 hA
  refine wp_region_lit ?_
  refine Slim.va (v := .pointer (some ⟨A, 0, none⟩)) rfl rfl S D (Slim.field_g rfl H2 id (by go_simp; first | done | rfl)) fun a1 o S D H5 => ?_
  replace H2 := o.st H2
  replace H3 := o.st H3
  refine Slim.va (v := .int .i64 p.m.kind) rfl rfl S D (Slim.load_g rfl H5 id (by have k := BX.out.cell 0; go_simp; first | done | rfl)) fun a2 o S D H6 => ?_
  replace H2 := o.st H2
  replace H3 := o.st H3
  clear H5 o
  refine Slim.va (v := .pointer (some ⟨B, 0, none⟩)) rfl rfl S D (Slim.field_g rfl H3 id (by go_simp; first | done | rfl)) fun a3 o S D H7 => ?_
  replace H2 := o.st H2
  replace H3 := o.st H3
  replace H6 := o.st H6
  refine Slim.va (v := .int .i64 q.m.kind) rfl rfl S D (Slim.load_g rfl H7 id (by have k := BY.out.cell 0; go_simp; first | done | rfl)) fun a4 o S D H8 => ?_
  replace H2 := o.st H2
  replace H3 := o.st H3
  replace H6 := o.st H6
  clear H7 o
  refine Slim.va rfl rfl S D (Slim.bin2_g rfl H6 H8 id id (fun _ _ => Slim.cmp_eql)) fun a5 o S D H9 => ?_
  replace H2 := o.st H2
  replace H3 := o.st H3
  clear H6 H8 o
  refine Slim.va rfl rfl S D (Slim.move_g rfl H9 id) fun a6 o S D H10 => ?_
  replace H2 := o.st H2
  replace H3 := o.st H3
  clear H9 o
  refine Slim.vg (v := .pointer (some ⟨A, 1, none⟩)) rfl S D rfl rfl H10 (Slim.field_g rfl H2 (fun _ => rfl) (by go_simp; first | done | rfl)) fun a7 o S D H11 => ?_
  replace H2 := o.st H2
  replace H3 := o.st H3
  replace H10 := o.st H10
  refine Slim.vg (v := .int .i64 p.m.frm) rfl S D rfl rfl H10 (Slim.load_g rfl H11 id (by have k := BX.out.cell 1; go_simp; first | done | rfl)) fun a8 o S D H12 => ?_
  replace H2 := o.st H2
  replace H3 := o.st H3
  replace H10 := o.st H10
  clear H11 o
  refine Slim.vg (v := .pointer (some ⟨B, 1, none⟩)) rfl S D rfl rfl H10 (Slim.field_g rfl H3 (fun _ => rfl) (by go_simp; first | done | rfl)) fun a9 o S D H13 => ?_
  replace H2 := o.st H2
  replace H3 := o.st H3
  replace H10 := o.st H10
  replace H12 := o.st H12
  refine Slim.vg (v := .int .i64 q.m.frm) rfl S D rfl rfl H10 (Slim.load_g rfl H13 id (by have k := BY.out.cell 1; go_simp; first | done | rfl)) fun a10 o S D H14 => ?_
  replace H2 := o.st H2
  replace H3 := o.st H3
  replace H10 := o.st H10
  replace H12 := o.st H12
  clear H13 o
  refine Slim.vg rfl S D rfl rfl H10 (Slim.bin2_g rfl H12 H14 id id (fun _ _ => Slim.cmp_eql)) fun a11 o S D H15 => ?_
  replace H2 := o.st H2
  replace H3 := o.st H3
  replace H10 := o.st H10
  clear H12 H14 o
  refine Slim.va rfl rfl S D (Slim.and_g rfl H10 H15 id (fun h1 h2 => Bool.and_eq_true_iff.2 ⟨h1, by rw [h2]; rfl⟩)) fun a12 o S D H16 => ?_
  replace H2 := o.st H2
  replace H3 := o.st H3
  clear H10 H15 o
  refine Slim.va rfl rfl S D (Slim.move_g rfl H16 id) fun a13 o S D H17 => ?_
  replace H2 := o.st H2
  replace H3 := o.st H3
  clear H16 o
  refine Slim.vg (v := .pointer (some ⟨A, 2, none⟩)) rfl S D rfl rfl H17 (Slim.field_g rfl H2 (fun _ => rfl) (by go_simp; first | done | rfl)) fun a14 o S D H18 => ?_
  replace H2 := o.st H2
  replace H3 := o.st H3
  replace H17 := o.st H17
  refine Slim.vg (v := .int .u16 p.m.serial) rfl S D rfl rfl H17 (Slim.load_g rfl H18 id (by have k := BX.out.cell 2; go_simp; first | done | rfl)) fun a15 o S D H19 => ?_
  replace H2 := o.st H2
  replace H3 := o.st H3
  replace H17 := o.st H17
  clear H18 o
  refine Slim.vg (v := .pointer (some ⟨B, 2, none⟩)) rfl S D rfl rfl H17 (Slim.field_g rfl H3 (fun _ => rfl) (by go_simp; first | done | rfl)) fun a16 o S D H20 => ?_
  replace H2 := o.st H2
  replace H3 := o.st H3
  replace H17 := o.st H17
  replace H19 := o.st H19
  refine Slim.vg (v := .int .u16 q.m.serial) rfl S D rfl rfl H17 (Slim.load_g rfl H20 id (by have k := BY.out.cell 2; go_simp; first | done | rfl)) fun a17 o S D H21 => ?_
  replace H2 := o.st H2
  replace H3 := o.st H3
  replace H17 := o.st H17
  replace H19 := o.st H19
  clear H20 o
  refine Slim.vg rfl S D rfl rfl H17 (Slim.bin2_g rfl H19 H21 id id (fun _ _ => Slim.cmp_eql)) fun a18 o S D H22 => ?_
  replace H2 := o.st H2
  replace H3 := o.st H3
  replace H17 := o.st H17
  clear H19 H21 o
  refine Slim.va rfl rfl S D (Slim.and_g rfl H17 H22 id (fun h1 h2 => Bool.and_eq_true_iff.2 ⟨h1, by rw [h2]; rfl⟩)) fun a19 o S D H23 => ?_
  replace H2 := o.st H2
  replace H3 := o.st H3
  clear H17 H22 o
  refine Slim.va rfl rfl S D (Slim.move_g rfl H23 id) fun a20 o S D H24 => ?_
  replace H2 := o.st H2
  replace H3 := o.st H3
  clear H23 o
  refine Slim.vg (v := .pointer (some ⟨A, 3, none⟩)) rfl S D rfl rfl H24 (Slim.field_g rfl H2 (fun _ => rfl) (by go_simp; first | done | rfl)) fun a21 o S D H25 => ?_
  replace H2 := o.st H2
  replace H3 := o.st H3
  replace H24 := o.st H24
  refine Slim.vg (v := .int .u16 p.m.ack) rfl S D rfl rfl H24 (Slim.load_g rfl H25 id (by have k := BX.out.cell 3; go_simp; first | done | rfl)) fun a22 o S D H26 => ?_
  replace H2 := o.st H2
  replace H3 := o.st H3
  replace H24 := o.st H24
  clear H25 o
  refine Slim.vg (v := .pointer (some ⟨B, 3, none⟩)) rfl S D rfl rfl H24 (Slim.field_g rfl H3 (fun _ => rfl) (by go_simp; first | done | rfl)) fun a23 o S D H27 => ?_
  replace H2 := o.st H2
  replace H3 := o.st H3
  replace H24 := o.st H24
  replace H26 := o.st H26
  refine Slim.vg (v := .int .u16 q.m.ack) rfl S D rfl rfl H24 (Slim.load_g rfl H27 id (by have k := BY.out.cell 3; go_simp; first | done | rfl)) fun a24 o S D H28 => ?_
  replace H2 := o.st H2
  replace H3 := o.st H3
  replace H24 := o.st H24
  replace H26 := o.st H26
  clear H27 o
  refine Slim.vg rfl S D rfl rfl H24 (Slim.bin2_g rfl H26 H28 id id (fun _ _ => Slim.cmp_eql)) fun a25 o S D H29 => ?_
  replace H2 := o.st H2
  replace H3 := o.st H3
  replace H24 := o.st H24
  clear H26 H28 o
  refine Slim.va rfl rfl S D (Slim.and_g rfl H24 H29 id (fun h1 h2 => Bool.and_eq_true_iff.2 ⟨h1, by rw [h2]; rfl⟩)) fun a26 o S D H30 => ?_
  replace H2 := o.st H2
  replace H3 := o.st H3
  clear H24 H29 o
  refine Slim.va rfl rfl S D (Slim.move_g rfl H30 id) fun a27 o S D H31 => ?_
  replace H2 := o.st H2
  replace H3 := o.st H3
  clear H30 o
  refine Slim.vg (v := .pointer (some ⟨A, 4, none⟩)) rfl S D rfl rfl H31 (Slim.field_g rfl H2 (fun _ => rfl) (by go_simp; first | done | rfl)) fun a28 o S D H32 => ?_
  replace H2 := o.st H2
  replace H3 := o.st H3
  replace H31 := o.st H31
  refine Slim.vg (v := .int .u32 p.m.seen) rfl S D rfl rfl H31 (Slim.load_g rfl H32 id (by have k := BX.out.cell 4; go_simp; first | done | rfl)) fun a29 o S D H33 => ?_
  replace H2 := o.st H2
  replace H3 := o.st H3
  replace H31 := o.st H31
  clear H32 o
  refine Slim.vg (v := .pointer (some ⟨B, 4, none⟩)) rfl S D rfl rfl H31 (Slim.field_g rfl H3 (fun _ => rfl) (by go_simp; first | done | rfl)) fun a30 o S D H34 => ?_
  replace H2 := o.st H2
  replace H3 := o.st H3
  replace H31 := o.st H31
  replace H33 := o.st H33
  refine Slim.vg (v := .int .u32 q.m.seen) rfl S D rfl rfl H31 (Slim.load_g rfl H34 id (by have k := BY.out.cell 4; go_simp; first | done | rfl)) fun a31 o S D H35 => ?_
  replace H2 := o.st H2
  replace H3 := o.st H3
  replace H31 := o.st H31
  replace H33 := o.st H33
  clear H34 o
  refine Slim.vg rfl S D rfl rfl H31 (Slim.bin2_g rfl H33 H35 id id (fun _ _ => Slim.cmp_eql)) fun a32 o S D H36 => ?_
  replace H2 := o.st H2
  replace H3 := o.st H3
  replace H31 := o.st H31
  clear H33 H35 o
  refine Slim.va rfl rfl S D (Slim.and_g rfl H31 H36 id (fun h1 h2 => Bool.and_eq_true_iff.2 ⟨h1, by rw [h2]; rfl⟩)) fun a33 o S D H37 => ?_
  replace H2 := o.st H2
  replace H3 := o.st H3
  clear H31 H36 o
  refine Slim.va rfl rfl S D (Slim.move_g rfl H37 id) fun a34 o S D H38 => ?_
  replace H2 := o.st H2
  replace H3 := o.st H3
  clear H37 o
  refine Slim.vg (v := .pointer (some ⟨A, 5, none⟩)) rfl S D rfl rfl H38 (Slim.field_g rfl H2 (fun _ => rfl) (by go_simp; first | done | rfl)) fun a35 o S D H39 => ?_
  replace H2 := o.st H2
  replace H3 := o.st H3
  replace H38 := o.st H38
  refine Slim.vg (v := .int .i64 p.m.slot) rfl S D rfl rfl H38 (Slim.load_g rfl H39 id (by have k := BX.out.cell 5; go_simp; first | done | rfl)) fun a36 o S D H40 => ?_
  replace H2 := o.st H2
  replace H3 := o.st H3
  replace H38 := o.st H38
  clear H39 o
  refine Slim.vg (v := .pointer (some ⟨B, 5, none⟩)) rfl S D rfl rfl H38 (Slim.field_g rfl H3 (fun _ => rfl) (by go_simp; first | done | rfl)) fun a37 o S D H41 => ?_
  replace H2 := o.st H2
  replace H3 := o.st H3
  replace H38 := o.st H38
  replace H40 := o.st H40
  refine Slim.vg (v := .int .i64 q.m.slot) rfl S D rfl rfl H38 (Slim.load_g rfl H41 id (by have k := BY.out.cell 5; go_simp; first | done | rfl)) fun a38 o S D H42 => ?_
  replace H2 := o.st H2
  replace H3 := o.st H3
  replace H38 := o.st H38
  replace H40 := o.st H40
  clear H41 o
  refine Slim.vg rfl S D rfl rfl H38 (Slim.bin2_g rfl H40 H42 id id (fun _ _ => Slim.cmp_eql)) fun a39 o S D H43 => ?_
  replace H2 := o.st H2
  replace H3 := o.st H3
  replace H38 := o.st H38
  clear H40 H42 o
  refine Slim.va rfl rfl S D (Slim.and_g rfl H38 H43 id (fun h1 h2 => Bool.and_eq_true_iff.2 ⟨h1, by rw [h2]; rfl⟩)) fun a40 o S D H44 => ?_
  replace H2 := o.st H2
  replace H3 := o.st H3
  clear H38 H43 o
  refine Slim.va rfl rfl S D (Slim.move_g rfl H44 id) fun a41 o S D H45 => ?_
  replace H2 := o.st H2
  replace H3 := o.st H3
  clear H44 o
  refine Slim.vg (v := .pointer (some ⟨A, 6, none⟩)) rfl S D rfl rfl H45 (Slim.field_g rfl H2 (fun _ => rfl) (by go_simp; first | done | rfl)) fun a42 o S D H46 => ?_
  replace H2 := o.st H2
  replace H3 := o.st H3
  replace H45 := o.st H45
  refine Slim.vg (v := .int .i64 p.m.gen) rfl S D rfl rfl H45 (Slim.load_g rfl H46 id (by have k := BX.out.cell 6; go_simp; first | done | rfl)) fun a43 o S D H47 => ?_
  replace H2 := o.st H2
  replace H3 := o.st H3
  replace H45 := o.st H45
  clear H46 o
  refine Slim.vg (v := .pointer (some ⟨B, 6, none⟩)) rfl S D rfl rfl H45 (Slim.field_g rfl H3 (fun _ => rfl) (by go_simp; first | done | rfl)) fun a44 o S D H48 => ?_
  replace H2 := o.st H2
  replace H3 := o.st H3
  replace H45 := o.st H45
  replace H47 := o.st H47
  refine Slim.vg (v := .int .i64 q.m.gen) rfl S D rfl rfl H45 (Slim.load_g rfl H48 id (by have k := BY.out.cell 6; go_simp; first | done | rfl)) fun a45 o S D H49 => ?_
  replace H2 := o.st H2
  replace H3 := o.st H3
  replace H45 := o.st H45
  replace H47 := o.st H47
  clear H48 o
  refine Slim.vg rfl S D rfl rfl H45 (Slim.bin2_g rfl H47 H49 id id (fun _ _ => Slim.cmp_eql)) fun a46 o S D H50 => ?_
  replace H2 := o.st H2
  replace H3 := o.st H3
  replace H45 := o.st H45
  clear H47 H49 o
  refine Slim.va rfl rfl S D (Slim.and_g rfl H45 H50 id (fun h1 h2 => Bool.and_eq_true_iff.2 ⟨h1, by rw [h2]; rfl⟩)) fun a47 o S D H51 => ?_
  replace H2 := o.st H2
  replace H3 := o.st H3
  clear H45 H50 o
  refine Slim.va rfl rfl S D (Slim.move_g rfl H51 id) fun a48 o S D H52 => ?_
  replace H2 := o.st H2
  replace H3 := o.st H3
  clear H51 o
  refine Slim.vg (v := .pointer (some ⟨A, 7, none⟩)) rfl S D rfl rfl H52 (Slim.field_g rfl H2 (fun _ => rfl) (by go_simp; first | done | rfl)) fun a49 o S D H53 => ?_
  replace H2 := o.st H2
  replace H3 := o.st H3
  replace H52 := o.st H52
  refine Slim.vg (v := .int .i64 p.m.frame) rfl S D rfl rfl H52 (Slim.load_g rfl H53 id (by have k := BX.out.cell 7; go_simp; first | done | rfl)) fun a50 o S D H54 => ?_
  replace H2 := o.st H2
  replace H3 := o.st H3
  replace H52 := o.st H52
  clear H53 o
  refine Slim.vg (v := .pointer (some ⟨B, 7, none⟩)) rfl S D rfl rfl H52 (Slim.field_g rfl H3 (fun _ => rfl) (by go_simp; first | done | rfl)) fun a51 o S D H55 => ?_
  replace H2 := o.st H2
  replace H3 := o.st H3
  replace H52 := o.st H52
  replace H54 := o.st H54
  refine Slim.vg (v := .int .i64 q.m.frame) rfl S D rfl rfl H52 (Slim.load_g rfl H55 id (by have k := BY.out.cell 7; go_simp; first | done | rfl)) fun a52 o S D H56 => ?_
  replace H2 := o.st H2
  replace H3 := o.st H3
  replace H52 := o.st H52
  replace H54 := o.st H54
  clear H55 o
  refine Slim.vg rfl S D rfl rfl H52 (Slim.bin2_g rfl H54 H56 id id (fun _ _ => Slim.cmp_eql)) fun a53 o S D H57 => ?_
  replace H2 := o.st H2
  replace H3 := o.st H3
  replace H52 := o.st H52
  clear H54 H56 o
  refine Slim.va rfl rfl S D (Slim.and_g rfl H52 H57 id (fun h1 h2 => Bool.and_eq_true_iff.2 ⟨h1, by rw [h2]; rfl⟩)) fun a54 o S D H58 => ?_
  replace H2 := o.st H2
  replace H3 := o.st H3
  clear H52 H57 o
  refine Slim.va rfl rfl S D (Slim.move_g rfl H58 id) fun a55 o S D H59 => ?_
  replace H2 := o.st H2
  replace H3 := o.st H3
  clear H58 o
  refine Slim.vg (v := .pointer (some ⟨A, 8, none⟩)) rfl S D rfl rfl H59 (Slim.field_g rfl H2 (fun _ => rfl) (by go_simp; first | done | rfl)) fun a56 o S D H60 => ?_
  replace H2 := o.st H2
  replace H3 := o.st H3
  replace H59 := o.st H59
  refine Slim.vg (v := .int .i64 p.m.code) rfl S D rfl rfl H59 (Slim.load_g rfl H60 id (by have k := BX.out.cell 8; go_simp; first | done | rfl)) fun a57 o S D H61 => ?_
  replace H2 := o.st H2
  replace H3 := o.st H3
  replace H59 := o.st H59
  clear H60 o
  refine Slim.vg (v := .pointer (some ⟨B, 8, none⟩)) rfl S D rfl rfl H59 (Slim.field_g rfl H3 (fun _ => rfl) (by go_simp; first | done | rfl)) fun a58 o S D H62 => ?_
  replace H2 := o.st H2
  replace H3 := o.st H3
  replace H59 := o.st H59
  replace H61 := o.st H61
  refine Slim.vg (v := .int .i64 q.m.code) rfl S D rfl rfl H59 (Slim.load_g rfl H62 id (by have k := BY.out.cell 8; go_simp; first | done | rfl)) fun a59 o S D H63 => ?_
  replace H2 := o.st H2
  replace H3 := o.st H3
  replace H59 := o.st H59
  replace H61 := o.st H61
  clear H62 o
  refine Slim.vg rfl S D rfl rfl H59 (Slim.bin2_g rfl H61 H63 id id (fun _ _ => Slim.cmp_eql)) fun a60 o S D H64 => ?_
  replace H2 := o.st H2
  replace H3 := o.st H3
  replace H59 := o.st H59
  clear H61 H63 o
  refine Slim.va rfl rfl S D (Slim.and_g rfl H59 H64 id (fun h1 h2 => Bool.and_eq_true_iff.2 ⟨h1, by rw [h2]; rfl⟩)) fun a61 o S D H65 => ?_
  replace H2 := o.st H2
  replace H3 := o.st H3
  clear H59 H64 o
  refine Slim.va rfl rfl S D (Slim.move_g rfl H65 id) fun a62 o S D H66 => ?_
  replace H2 := o.st H2
  replace H3 := o.st H3
  clear H65 o
  refine Slim.vg (v := .pointer (some ⟨A, 9, none⟩)) rfl S D rfl rfl H66 (Slim.field_g rfl H2 (fun _ => rfl) (by go_simp; first | done | rfl)) fun a63 o S D H67 => ?_
  replace H2 := o.st H2
  replace H3 := o.st H3
  replace H66 := o.st H66
  refine Slim.vg (v := .int .i64 p.m.n) rfl S D rfl rfl H66 (Slim.load_g rfl H67 id (by have k := BX.out.cell 9; go_simp; first | done | rfl)) fun a64 o S D H68 => ?_
  replace H2 := o.st H2
  replace H3 := o.st H3
  replace H66 := o.st H66
  clear H67 o
  refine Slim.vg (v := .pointer (some ⟨B, 9, none⟩)) rfl S D rfl rfl H66 (Slim.field_g rfl H3 (fun _ => rfl) (by go_simp; first | done | rfl)) fun a65 o S D H69 => ?_
  replace H2 := o.st H2
  replace H3 := o.st H3
  replace H66 := o.st H66
  replace H68 := o.st H68
  refine Slim.vg (v := .int .i64 q.m.n) rfl S D rfl rfl H66 (Slim.load_g rfl H69 id (by have k := BY.out.cell 9; go_simp; first | done | rfl)) fun a66 o S D H70 => ?_
  replace H2 := o.st H2
  replace H3 := o.st H3
  replace H66 := o.st H66
  replace H68 := o.st H68
  clear H69 o
  refine Slim.vg rfl S D rfl rfl H66 (Slim.bin2_g rfl H68 H70 id id (fun _ _ => Slim.cmp_eql)) fun a67 o S D H71 => ?_
  replace H2 := o.st H2
  replace H3 := o.st H3
  replace H66 := o.st H66
  clear H68 H70 o
  refine Slim.va rfl rfl S D (Slim.and_g rfl H66 H71 id (fun h1 h2 => Bool.and_eq_true_iff.2 ⟨h1, by rw [h2]; rfl⟩)) fun a68 o S D H72 => ?_
  replace H2 := o.st H2
  replace H3 := o.st H3
  clear H66 H71 o
  refine Slim.va rfl rfl S D (Slim.move_g rfl H72 id) fun a69 o S D H73 => ?_
  replace H2 := o.st H2
  replace H3 := o.st H3
  clear H72 o
  refine Slim.vg (v := .pointer (some ⟨A, 10, none⟩)) rfl S D rfl rfl H73 (Slim.field_g rfl H2 (fun _ => rfl) (by go_simp; first | done | rfl)) fun a70 o S D H74 => ?_
  replace H2 := o.st H2
  replace H3 := o.st H3
  replace H73 := o.st H73
  refine Slim.vg (v := .int .i64 p.m.of) rfl S D rfl rfl H73 (Slim.load_g rfl H74 id (by have k := BX.out.cell 10; go_simp; first | done | rfl)) fun a71 o S D H75 => ?_
  replace H2 := o.st H2
  replace H3 := o.st H3
  replace H73 := o.st H73
  clear H74 o
  refine Slim.vg (v := .pointer (some ⟨B, 10, none⟩)) rfl S D rfl rfl H73 (Slim.field_g rfl H3 (fun _ => rfl) (by go_simp; first | done | rfl)) fun a72 o S D H76 => ?_
  replace H2 := o.st H2
  replace H3 := o.st H3
  replace H73 := o.st H73
  replace H75 := o.st H75
  refine Slim.vg (v := .int .i64 q.m.of) rfl S D rfl rfl H73 (Slim.load_g rfl H76 id (by have k := BY.out.cell 10; go_simp; first | done | rfl)) fun a73 o S D H77 => ?_
  replace H2 := o.st H2
  replace H3 := o.st H3
  replace H73 := o.st H73
  replace H75 := o.st H75
  clear H76 o
  refine Slim.vg rfl S D rfl rfl H73 (Slim.bin2_g rfl H75 H77 id id (fun _ _ => Slim.cmp_eql)) fun a74 o S D H78 => ?_
  replace H2 := o.st H2
  replace H3 := o.st H3
  replace H73 := o.st H73
  clear H75 H77 o
  refine Slim.va rfl rfl S D (Slim.and_g rfl H73 H78 id (fun h1 h2 => Bool.and_eq_true_iff.2 ⟨h1, by rw [h2]; rfl⟩)) fun a75 o S D H79 => ?_
  replace H2 := o.st H2
  replace H3 := o.st H3
  clear H73 H78 o
  refine Slim.va rfl rfl S D (Slim.move_g rfl H79 id) fun a76 o S D H80 => ?_
  replace H2 := o.st H2
  replace H3 := o.st H3
  clear H79 o
  refine Slim.vg (v := .pointer (some ⟨A, 11, none⟩)) rfl S D rfl rfl H80 (Slim.field_g rfl H2 (fun _ => rfl) (by go_simp; first | done | rfl)) fun a77 o S D H81 => ?_
  replace H2 := o.st H2
  replace H3 := o.st H3
  replace H80 := o.st H80
  refine Slim.vg (v := .int .u32 p.m.bits) rfl S D rfl rfl H80 (Slim.load_g rfl H81 id (by have k := BX.out.cell 11; go_simp; first | done | rfl)) fun a78 o S D H82 => ?_
  replace H2 := o.st H2
  replace H3 := o.st H3
  replace H80 := o.st H80
  clear H81 o
  refine Slim.vg (v := .pointer (some ⟨B, 11, none⟩)) rfl S D rfl rfl H80 (Slim.field_g rfl H3 (fun _ => rfl) (by go_simp; first | done | rfl)) fun a79 o S D H83 => ?_
  replace H2 := o.st H2
  replace H3 := o.st H3
  replace H80 := o.st H80
  replace H82 := o.st H82
  refine Slim.vg (v := .int .u32 q.m.bits) rfl S D rfl rfl H80 (Slim.load_g rfl H83 id (by have k := BY.out.cell 11; go_simp; first | done | rfl)) fun a80 o S D H84 => ?_
  replace H2 := o.st H2
  replace H3 := o.st H3
  replace H80 := o.st H80
  replace H82 := o.st H82
  clear H83 o
  refine Slim.vg rfl S D rfl rfl H80 (Slim.bin2_g rfl H82 H84 id id (fun _ _ => Slim.cmp_eql)) fun a81 o S D H85 => ?_
  replace H2 := o.st H2
  replace H3 := o.st H3
  replace H80 := o.st H80
  clear H82 H84 o
  refine Slim.va rfl rfl S D (Slim.and_g rfl H80 H85 id (fun h1 h2 => Bool.and_eq_true_iff.2 ⟨h1, by rw [h2]; rfl⟩)) fun a82 o S D H86 => ?_
  replace H2 := o.st H2
  replace H3 := o.st H3
  clear H80 H85 o
  refine Slim.va rfl rfl S D (Slim.move_g rfl H86 id) fun a83 o S D H87 => ?_
  replace H2 := o.st H2
  replace H3 := o.st H3
  clear H86 o
  refine Slim.vg (v := .pointer (some ⟨A, 12, none⟩)) rfl S D rfl rfl H87 (Slim.field_g rfl H2 (fun _ => rfl) (by go_simp; first | done | rfl)) fun a84 o S D H88 => ?_
  replace H2 := o.st H2
  replace H3 := o.st H3
  replace H87 := o.st H87
  refine Slim.vg (v := .int .u64 p.m.sum) rfl S D rfl rfl H87 (Slim.load_g rfl H88 id (by have k := BX.out.cell 12; go_simp; first | done | rfl)) fun a85 o S D H89 => ?_
  replace H2 := o.st H2
  replace H3 := o.st H3
  replace H87 := o.st H87
  clear H88 o
  refine Slim.vg (v := .pointer (some ⟨B, 12, none⟩)) rfl S D rfl rfl H87 (Slim.field_g rfl H3 (fun _ => rfl) (by go_simp; first | done | rfl)) fun a86 o S D H90 => ?_
  replace H2 := o.st H2
  replace H3 := o.st H3
  replace H87 := o.st H87
  replace H89 := o.st H89
  refine Slim.vg (v := .int .u64 q.m.sum) rfl S D rfl rfl H87 (Slim.load_g rfl H90 id (by have k := BY.out.cell 12; go_simp; first | done | rfl)) fun a87 o S D H91 => ?_
  replace H2 := o.st H2
  replace H3 := o.st H3
  replace H87 := o.st H87
  replace H89 := o.st H89
  clear H90 o
  refine Slim.vg rfl S D rfl rfl H87 (Slim.bin2_g rfl H89 H91 id id (fun _ _ => Slim.cmp_eql)) fun a88 o S D H92 => ?_
  replace H2 := o.st H2
  replace H3 := o.st H3
  replace H87 := o.st H87
  clear H89 H91 o
  refine Slim.va rfl rfl S D (Slim.and_g rfl H87 H92 id (fun h1 h2 => Bool.and_eq_true_iff.2 ⟨h1, by rw [h2]; rfl⟩)) fun a89 o S D H93 => ?_
  replace H2 := o.st H2
  replace H3 := o.st H3
  clear H87 H92 o
  refine Slim.va rfl rfl S D (Slim.move_g rfl H93 id) fun a90 o S D H94 => ?_
  replace H2 := o.st H2
  replace H3 := o.st H3
  clear H93 o
  refine Slim.vg (v := .pointer (some ⟨A, 13, none⟩)) rfl S D rfl rfl H94 (Slim.field_g rfl H2 (fun _ => rfl) (by go_simp; first | done | rfl)) fun a91 o S D H95 => ?_
  replace H2 := o.st H2
  replace H3 := o.st H3
  replace H94 := o.st H94
  refine Slim.vg (v := .slice p.ai p.m.ins.length p.ci) rfl S D rfl rfl H94 (Slim.load_g rfl H95 id (by have k := BX.out.cell 13; go_simp; first | done | rfl)) fun a92 o S D H96 => ?_
  replace H2 := o.st H2
  replace H3 := o.st H3
  replace H94 := o.st H94
  clear H95 o
  refine Slim.vg (v := .pointer (some ⟨B, 13, none⟩)) rfl S D rfl rfl H94 (Slim.field_g rfl H3 (fun _ => rfl) (by go_simp; first | done | rfl)) fun a93 o S D H97 => ?_
  replace H2 := o.st H2
  replace H3 := o.st H3
  replace H94 := o.st H94
  replace H96 := o.st H96
  refine Slim.vg (v := .slice q.ai q.m.ins.length q.ci) rfl S D rfl rfl H94 (Slim.load_g rfl H97 id (by have k := BY.out.cell 13; go_simp; first | done | rfl)) fun a94 o S D H98 => ?_
  replace H2 := o.st H2
  replace H3 := o.st H3
  replace H94 := o.st H94
  replace H96 := o.st H96
  clear H97 o
  refine Slim.call_g (t := 99) (c := (true && ((((((((((((((p.m.kind == q.m.kind) && (p.m.frm == q.m.frm)) && (p.m.serial == q.m.serial)) && (p.m.ack == q.m.ack)) && (p.m.seen == q.m.seen)) && (p.m.slot == q.m.slot)) && (p.m.gen == q.m.gen)) && (p.m.frame == q.m.frame)) && (p.m.code == q.m.code)) && (p.m.n == q.m.n)) && (p.m.of == q.m.of)) && (p.m.bits == q.m.bits)) && (p.m.sum == q.m.sum)) == true))) (v := .bool (decide (p.m.ins = q.m.ins))) rfl (by rw [S]; decide) (Slim.wanted_g rfl rfl H94) (Slim.calls22_g rfl H96 H98 id id (by go_simp; first | done | rfl)) (fun _ => inseq_any p.m.ins q.m.ins p.ai q.ai _ _ p.ci q.ci _ rfl rfl LP.out.fi LQ.out.fi ((LP.out.ins.below KB.out).wider KB.out.size) ((LQ.out.ins.below KB.out).wider KB.out.size)) fun a95 W1 o hb => ?_
  replace BX := qh (BX.out.below hb BX.out.lt); replace BY := qh (BY.out.below hb BY.out.lt); replace KB := qh (KB.out.trans (hb.mono KB.out.size)); clear hb
  replace S := o.size.trans S; replace D := o.defers.trans D
  replace H2 := o.st H2
  replace H3 := o.st H3
  replace H94 := o.st H94
  have H99 : Slim.Has a95 99 (true && ((((((((((((((p.m.kind == q.m.kind) && (p.m.frm == q.m.frm)) && (p.m.serial == q.m.serial)) && (p.m.ack == q.m.ack)) && (p.m.seen == q.m.seen)) && (p.m.slot == q.m.slot)) && (p.m.gen == q.m.gen)) && (p.m.frame == q.m.frame)) && (p.m.code == q.m.code)) && (p.m.n == q.m.n)) && (p.m.of == q.m.of)) && (p.m.bits == q.m.bits)) && (p.m.sum == q.m.sum)) == true)) (.bool (decide (p.m.ins = q.m.ins))) := o.here
  clear H96
  clear H98
  refine Slim.va rfl rfl S D (Slim.and_g rfl H94 H99 id (fun h1 h2 => Bool.and_eq_true_iff.2 ⟨h1, by rw [h2]; rfl⟩)) fun a96 o S D H100 => ?_
  replace H2 := o.st H2
  replace H3 := o.st H3
  clear H94 H99 o
  refine Slim.va rfl rfl S D (Slim.move_g rfl H100 id) fun a97 o S D H101 => ?_
  replace H2 := o.st H2
  replace H3 := o.st H3
  clear H100 o
  refine Slim.vg (v := .pointer (some ⟨A, 14, none⟩)) rfl S D rfl rfl H101 (Slim.field_g rfl H2 (fun _ => rfl) (by go_simp; first | done | rfl)) fun a98 o S D H102 => ?_
  replace H2 := o.st H2
  replace H3 := o.st H3
  replace H101 := o.st H101
  refine Slim.vg (v := .slice p.al p.m.log.length p.cl) rfl S D rfl rfl H101 (Slim.load_g rfl H102 id (by have k := BX.out.cell 14; go_simp; first | done | rfl)) fun a99 o S D H103 => ?_
  replace H2 := o.st H2
  replace H3 := o.st H3
  replace H101 := o.st H101
  clear H102 o
  refine Slim.vg (v := .pointer (some ⟨B, 14, none⟩)) rfl S D rfl rfl H101 (Slim.field_g rfl H3 (fun _ => rfl) (by go_simp; first | done | rfl)) fun a100 o S D H104 => ?_
  replace H2 := o.st H2
  replace H3 := o.st H3
  replace H101 := o.st H101
  replace H103 := o.st H103
  refine Slim.vg (v := .slice q.al q.m.log.length q.cl) rfl S D rfl rfl H101 (Slim.load_g rfl H104 id (by have k := BY.out.cell 14; go_simp; first | done | rfl)) fun a101 o S D H105 => ?_
  replace H2 := o.st H2
  replace H3 := o.st H3
  replace H101 := o.st H101
  replace H103 := o.st H103
  clear H104 o
  refine Slim.call_g (t := 106) (c := (true && (((((((((((((((p.m.kind == q.m.kind) && (p.m.frm == q.m.frm)) && (p.m.serial == q.m.serial)) && (p.m.ack == q.m.ack)) && (p.m.seen == q.m.seen)) && (p.m.slot == q.m.slot)) && (p.m.gen == q.m.gen)) && (p.m.frame == q.m.frame)) && (p.m.code == q.m.code)) && (p.m.n == q.m.n)) && (p.m.of == q.m.of)) && (p.m.bits == q.m.bits)) && (p.m.sum == q.m.sum)) && (decide (p.m.ins = q.m.ins))) == true))) (v := .bool (En.eqB p.m.log q.m.log)) rfl (by rw [S]; decide) (Slim.wanted_g rfl rfl H101) (Slim.callsf_g (f := 48) (xs := [.tmp 103, .tmp 105, .func 49]) (vs := [.slice p.al p.m.log.length p.cl, .slice q.al q.m.log.length q.cl, .func (.func 49) #[] #[]]) (args := #[.slice p.al p.m.log.length p.cl, .slice q.al q.m.log.length q.cl, .func (.func 49) #[] #[]]) rfl (fun h0 => by simp only [List.map_cons, List.map_nil, Slim.pres H103 (id h0), Slim.pres H105 (id h0)]; rfl) rfl (by go_simp; first | done | rfl)) (fun _ => eqfunc_any p.m.log q.m.log p.al q.al _ _ p.cl q.cl _ LP.out.fl LQ.out.fl ((LP.out.log.below KB.out).wider KB.out.size) ((LQ.out.log.below KB.out).wider KB.out.size)) fun a102 W2 o hb => ?_
  replace BX := qh (BX.out.below hb BX.out.lt); replace BY := qh (BY.out.below hb BY.out.lt); replace KB := qh (KB.out.trans (hb.mono KB.out.size)); clear hb
  replace S := o.size.trans S; replace D := o.defers.trans D
  replace H2 := o.st H2
  replace H3 := o.st H3
  replace H101 := o.st H101
  have H106 : Slim.Has a102 106 (true && (((((((((((((((p.m.kind == q.m.kind) && (p.m.frm == q.m.frm)) && (p.m.serial == q.m.serial)) && (p.m.ack == q.m.ack)) && (p.m.seen == q.m.seen)) && (p.m.slot == q.m.slot)) && (p.m.gen == q.m.gen)) && (p.m.frame == q.m.frame)) && (p.m.code == q.m.code)) && (p.m.n == q.m.n)) && (p.m.of == q.m.of)) && (p.m.bits == q.m.bits)) && (p.m.sum == q.m.sum)) && (decide (p.m.ins = q.m.ins))) == true)) (.bool (En.eqB p.m.log q.m.log)) := o.here
  clear H103
  clear H105
  refine Slim.va rfl rfl S D (Slim.and_g rfl H101 H106 id (fun h1 h2 => Bool.and_eq_true_iff.2 ⟨h1, by rw [h2]; rfl⟩)) fun a103 o S D H107 => ?_
  replace H2 := o.st H2
  replace H3 := o.st H3
  clear H101 H106 o
  refine Slim.va rfl rfl S D (Slim.move_g rfl H107 id) fun a104 o S D H108 => ?_
  replace H2 := o.st H2
  replace H3 := o.st H3
  clear H107 o
  refine Slim.vg (v := .pointer (some ⟨A, 15, none⟩)) rfl S D rfl rfl H108 (Slim.field_g rfl H2 (fun _ => rfl) (by go_simp; first | done | rfl)) fun a105 o S D H109 => ?_
  replace H3 := o.st H3
  replace H108 := o.st H108
  clear H2 o
  refine Slim.vg (v := .slice p.ad p.m.data.length p.cd) rfl S D rfl rfl H108 (Slim.load_g rfl H109 id (by have k := BX.out.cell 15; go_simp; first | done | rfl)) fun a106 o S D H110 => ?_
  replace H3 := o.st H3
  replace H108 := o.st H108
  clear H109 o
  refine Slim.vg (v := .pointer (some ⟨B, 15, none⟩)) rfl S D rfl rfl H108 (Slim.field_g rfl H3 (fun _ => rfl) (by go_simp; first | done | rfl)) fun a107 o S D H111 => ?_
  replace H108 := o.st H108
  replace H110 := o.st H110
  clear H3 o
  refine Slim.vg (v := .slice q.ad q.m.data.length q.cd) rfl S D rfl rfl H108 (Slim.load_g rfl H111 id (by have k := BY.out.cell 15; go_simp; first | done | rfl)) fun a108 o S D H112 => ?_
  replace H108 := o.st H108
  replace H110 := o.st H110
  clear H111 o
  refine Slim.call_g (t := 113) (c := (true && ((((((((((((((((p.m.kind == q.m.kind) && (p.m.frm == q.m.frm)) && (p.m.serial == q.m.serial)) && (p.m.ack == q.m.ack)) && (p.m.seen == q.m.seen)) && (p.m.slot == q.m.slot)) && (p.m.gen == q.m.gen)) && (p.m.frame == q.m.frame)) && (p.m.code == q.m.code)) && (p.m.n == q.m.n)) && (p.m.of == q.m.of)) && (p.m.bits == q.m.bits)) && (p.m.sum == q.m.sum)) && (decide (p.m.ins = q.m.ins))) && (En.eqB p.m.log q.m.log)) == true))) (v := .bool (decide (p.m.data = q.m.data))) rfl (by rw [S]; decide) (Slim.wanted_g rfl rfl H108) (Slim.calls22_g rfl H110 H112 id id (by go_simp; first | done | rfl)) (fun _ => byteseq_any p.m.data q.m.data p.ad q.ad p.cd q.cd _ TP.out.data TQ.out.data ((LP.out.data.below KB.out).wider KB.out.size) ((LQ.out.data.below KB.out).wider KB.out.size)) fun a109 W3 o hb => ?_
  replace BX := qh (BX.out.below hb BX.out.lt); replace BY := qh (BY.out.below hb BY.out.lt); replace KB := qh (KB.out.trans (hb.mono KB.out.size)); clear hb
  replace S := o.size.trans S; replace D := o.defers.trans D
  replace H108 := o.st H108
  have H113 : Slim.Has a109 113 (true && ((((((((((((((((p.m.kind == q.m.kind) && (p.m.frm == q.m.frm)) && (p.m.serial == q.m.serial)) && (p.m.ack == q.m.ack)) && (p.m.seen == q.m.seen)) && (p.m.slot == q.m.slot)) && (p.m.gen == q.m.gen)) && (p.m.frame == q.m.frame)) && (p.m.code == q.m.code)) && (p.m.n == q.m.n)) && (p.m.of == q.m.of)) && (p.m.bits == q.m.bits)) && (p.m.sum == q.m.sum)) && (decide (p.m.ins = q.m.ins))) && (En.eqB p.m.log q.m.log)) == true)) (.bool (decide (p.m.data = q.m.data))) := o.here
  clear H110
  clear H112
  refine Slim.va rfl rfl S D (Slim.and_g rfl H108 H113 id (fun h1 h2 => Bool.and_eq_true_iff.2 ⟨h1, by rw [h2]; rfl⟩)) fun a110 o S D H114 => ?_
  clear H108 H113 o
  refine Slim.va rfl rfl S D (Slim.assign_g rfl H114 id) fun a111 o S D H4 => ?_
  clear H114 o
  refine wpList_nil ?_
  refine (by assumption : ∀ a w, Code.wp Try.prog _ _ a w → _) _ _ ?_
  refine wp_ret ?_
  (try simp only [Exit.inBlock, Exit.then])
  exact on_ret rfl D H4 ⟨by rw [← Ms.sameW_is]; rfl, KB.out⟩
end Go.Proofs.Ytgmlbimgcifenaa
namespace Ms
def bare14 : S := ⟨start 14 3 258 0 0, none, 0, none, 0, none, 0⟩
def none16 : S := ⟨start 0 0 0 0 0, none, 0, none, 0, none, 0⟩
theorem start_ty {k f s : Int} (h : 0 ≤ k ∧ k ≤ 14) (h2 : 0 ≤ f ∧ f ≤ 11) (h3 : 0 ≤ s ∧ s ≤ 65535) : Ty (start k f s 0 0) := by
  unfold start
  refine ⟨?_, ?_, ?_, ?_, ?_, ?_, ?_, ?_, ?_, ?_, ?_, ?_, ?_, ?_, ?_, ?_⟩ <;> (dsimp only) <;> first | exact h3 | (unfold En.i64; omega) | omega | (intro x hx; cases hx)
theorem bare14_ty : Ty bare14.m := start_ty (by decide) (by decide) (by decide)
theorem none16_ty : Ty none16.m := start_ty (by decide) (by decide) (by decide)
theorem bare14_ok : Ok bare14.m := ⟨by decide, by decide, by decide, fun k h => absurd h (Nat.not_lt_zero _), fun k h => absurd h (Nat.not_lt_zero _)⟩
theorem none16_no : ¬ Ok none16.m := fun h => absurd h.n1 (by decide)
theorem bare14_body : body bare14.m = [14, 3, 2, 1, 0, 0, 0, 0, 0, 0] := by decide
theorem bare14_len : (put bare14.m).length = 14 := by rw [put_len, bare14_body]; rfl
theorem bare14_mid : ((put bare14.m).drop 4).take 4 = [14, 3, 2, 1] := by rw [put_drop, bare14_body]; rfl
theorem sum_none : Crc.sum [] = 4294967295 := rfl
end Ms
namespace Go.Proofs.Ytgmlbimgcifenaa
open Go.RowKit Go.Shelf
theorem str14 : strOfNums [14, 3, 2, 1] = ⟨#[14, 3, 2, 1]⟩ := rfl
theorem lies_bare {q : Ms.S} {w : World} {b : Nat} (h1 : q.m.ins = []) (h2 : q.m.log = []) (h3 : q.m.data = []) : LiesM w b q := by
  refine ⟨?_, ⟨?_, ?_, ?_⟩, ?_, by rw [h1]; exact Nat.zero_le _, by rw [h2]; exact Nat.zero_le _, by rw [h3]; exact Nat.zero_le _⟩
  · rw [h1]; exact Lies.empty
  · rw [h2]; exact Lies.empty
  · intro s hs; rw [h2] at hs; cases hs
  · intro s hs; rw [h2] at hs; cases hs
  · rw [h3]; exact Lies.empty
theorem Lies.front1 {w : World} {B n m : Nat} {A : Option Addr} {xs ys : List Int} (h : Lies w B 1 A n (Im.u8s (xs ++ ys))) (hm : xs.length = m) (hn : m ≤ n) : Lies w B 1 A m (Im.u8s xs) := by
  refine ⟨by rw [Im.u8s_len]; omega, fun h0 => h.start (by omega), fun ad e h0 j u hj => h.cell ad e (by omega) j u ?_⟩
  rw [Im.u8s_append, List.getElem?_append_left (List.getElem?_eq_some_iff.1 hj).1]
  exact hj
theorem LiesM.made {w : World} {q : Ms.S} (h : LiesM w w.heap.size q) (x : Obj) : LiesM (w.alloc x) (w.alloc x).heap.size q := (h.to (one_below w x)).wide (one_below w x).size
section
variable {ops : Array Oper} {Q : Exit → Act → World → Prop} {o : Oper} {rest : List Oper} {a : Act} {w : World} {x y : Operand}
def LoadMs (ops : Array Oper) (Q : Exit → Act → World → Prop) (rest : List Oper) (dst : Option Tmp) (p : Value) (a : Act) (w : World) : Prop :=
  ∃ (B : Nat) (cs : Array Value), p = .pointer (some ⟨B, 0, none⟩) ∧ Box w B 29 cs ∧ cs.size = 16 ∧ wpList Try.prog ops Q rest (a.put dst (.agg cs)) w
theorem LoadMs.mk {p : Value} {dst : Option Tmp} {B : Nat} {cs : Array Value} (hp : p = .pointer (some ⟨B, 0, none⟩)) (hB : Box w B 29 cs) (hs : cs.size = 16) (h : wpList Try.prog ops Q rest (a.put dst (.agg cs)) w) : LoadMs ops Q rest dst p a w := ⟨B, cs, hp, hB, hs, h⟩
theorem ms_load (hgd : o.guard = none) (ho : o.op = .load 29 x) (h : LoadMs ops Q rest o.dst (a.eval x) a w) : wpList Try.prog ops Q (o :: rest) a w := by
  obtain ⟨B, cs, hx, hB, hs, h⟩ := h
  exact wpList_load_blk hgd ho hx hB Try.underlying29 rfl (by rw [hs]; exact msg_info16) h
theorem ms_load_g (hw : Region.wanted o (yielded ops a.tmps) = true) (ho : o.op = .load 29 x) (h : LoadMs ops Q rest o.dst (a.eval x) a w) : wpList Try.prog ops Q (o :: rest) a w := by
  obtain ⟨B, cs, hx, hB, hs, h⟩ := h
  refine wpList_load_part_g hw ho hx hB cs.toList (fun j v hv => ?_) Try.underlying29 rfl (by rw [Array.length_toList, hs]; exact msg_info16) (by rw [Array.toArray_toList]; exact h)
  rw [Nat.zero_add]
  simpa using hv
theorem ms_store_new {v : World} {old cs : Array Value} (hgd : o.guard = none) (ho : o.op = .store 29 x y) (hx : a.eval x = .pointer (some ⟨v.heap.size, 0, none⟩)) (hy : a.eval y = .agg cs)
    (hold : old.size = 16) (hs : cs.size = 16) (h1 : cs.all (·.oneCell') = true) (h : wpList Try.prog ops Q rest (a.put o.dst undef) (v.alloc (.cells cs 29))) : wpList Try.prog ops Q (o :: rest) a (v.alloc (.cells old 29)) :=
  wpList_store_new hgd ho hx hy rfl rfl (by rw [hs]; exact msg_info16) (by rw [hs]; exact hold) h1 h
end
theorem ms_size (q : Ms.S) : q.cells.size = 16 := rfl
theorem wput_short (q : Ms.S) (w : World) (hT : Ms.Ty q.m) (hok : Ms.Ok q.m) (hl : (Ms.put q.m).length ≤ 1200) (hL : LiesM w w.heap.size q) :
    Calls Try.prog 14 #[.agg q.cells] w fun r w' => ∃ A c, r = .returned (.tuple #[.slice A (Ms.put q.m).length c, .int .i64 0]) ∧ (Ms.put q.m).length ≤ c ∧ w'.ownsRow w.heap.size 5 1 (.slice A (Ms.put q.m).length c) (Ms.put q.m).length (Im.u8s (Ms.put q.m)) ∧ Below w.heap.size w w' :=
  (wput_yes q w hT hok hL).mono fun _ _ h => by
    rcases h with ⟨_, h⟩ | ⟨h, _⟩
    · exact h
    · exact absurd hl h
def GotBack (m : Ms.M) (w : World) (r : Ending) (w' : World) : Prop :=
  ∃ q : Ms.S, r = .returned (.tuple #[.agg q.cells, .int .i64 0]) ∧ Ms.sameB q.m m = true ∧ Ms.put q.m = Ms.put m ∧ Ms.Ty q.m ∧ Ms.Ok q.m ∧ LiesM w' w'.heap.size q ∧ Below w.heap.size w w'
theorem wget_back (m : Ms.M) (A : Option Addr) (c : Nat) (w : World) (hT : Ms.Ty m) (hok : Ms.Ok m) (hl : (Ms.put m).length ≤ 1200) (hc : (Ms.put m).length ≤ c) (hL : Lies w w.heap.size 1 A (Ms.put m).length (Im.u8s (Ms.put m))) :
    Calls Try.prog 19 #[.slice A (Ms.put m).length c] w (GotBack m w) :=
  (wget_any (Ms.put m) A _ c w rfl (by unfold maxLen; omega) hc (Ms.put_bytes hT) hL).mono fun r w' h => by
    rcases h with ⟨h, _⟩ | ⟨_, h, _⟩ | ⟨h0, q, h, hr, hq, hb⟩
    · rw [Ms.sum_put hT] at h; cases h
    · exact absurd h (Ms.get_not_none hT hok hl)
    · obtain ⟨h1, h2, h3, _⟩ := Ms.got_put (Ms.put_bytes hT) h0 h
      exact ⟨q, hr, Ms.got_back hT hok hl h, h1, h2, h3, hq, hb⟩
theorem wget_nil (w : World) : Calls Try.prog 19 #[.slice none 0 0] w fun r w' => r = .returned (.tuple #[.agg Ms.zeroM, .int .i64 9]) ∧ Below w.heap.size w w' :=
  (wget_any [] none 0 0 w rfl (Nat.zero_le _) (Nat.le_refl _) Im.IsBytes.nil Lies.empty).mono fun r w' h => by
    rcases h with ⟨_, h⟩ | ⟨h, _⟩ | ⟨h, _⟩
    · exact h
    · cases h
    · cases h
theorem told12_any (w : World) :
    Calls Try.prog 12 #[] w fun e w' => e = .returned (.bool true) ∧ Below w.heap.size w w' := by
  have l0 : ∀ X b, LiesM X b Ms.bare14 := fun X b => lies_bare rfl rfl rfl
  have cp := fun X => qh (wput_short Ms.bare14 X Ms.bare14_ty Ms.bare14_ok (by rw [Ms.bare14_len]; omega) (l0 _ _))
  have cg := fun A c X hc hL => qh (wget_back Ms.bare14.m A c X Ms.bare14_ty Ms.bare14_ok (by rw [Ms.bare14_len]; omega) hc hL)
  have cgn := fun X => qh (wget_nil X)
  have cpn := fun X => qh (wput_no Ms.none16 X Ms.none16_ty Ms.none16_no (lies_bare rfl rfl rfl))
  have csm := fun (q : Ms.S) X (hT : Ms.Ty q.m) (hs : Ms.sameB q.m Ms.bare14.m = true) (hL : LiesM X X.heap.size q) => qh (show Calls Try.prog 22 #[.agg q.cells, .agg Ms.bare14.cells] X fun e w' => e = .returned (.bool true) ∧ Below X.heap.size X w' by
    have := wsame_any q Ms.bare14 X hT Ms.bare14_ty hL (l0 _ _)
    rw [hs] at this
    exact this)
  have cc := fun X => qh (wcheck_any [] none 0 0 X Im.IsBytes.nil (Nat.zero_le _) Lies.empty)
  rw [Ms.sum_none] at cc
  have cm := fun X => qh (wmay_any Ms.bare14 X Ms.bare14_ty (l0 _ _))
  rw [Ms.okB_iff.2 Ms.bare14_ok] at cm
  have hcv := fun A c W B hL => conv_bytes [14, 3, 2, 1] 4 A c W B rfl hL
  rw [str14] at hcv
  have HCV := qh hcv
  have hsplit : Ms.put Ms.bare14.m = (Ms.put Ms.bare14.m).take 4 ++ ([14, 3, 2, 1] ++ (Ms.put Ms.bare14.m).drop 8) := by
    have h1 := Ms.bare14_mid
    have h2 : (Ms.put Ms.bare14.m).drop 8 = ((Ms.put Ms.bare14.m).drop 4).drop 4 := by rw [List.drop_drop]
    rw [h2]
    conv => rhs; rw [← h1, List.take_append_drop, List.take_append_drop]
  have htake : ((Ms.put Ms.bare14.m).take 4).length = 4 := by rw [List.length_take, Ms.bare14_len]; rfl
  have hdrop : ((Ms.put Ms.bare14.m).drop 8).length = 6 := by rw [List.length_drop, Ms.bare14_len]
  rw [Ms.bare14_len] at cp cg
  have b14 : Try.prog.built 29 [(0, .int .i64 14), (1, .int .i64 3), (2, .int .u16 258)] = some Ms.bare14.cells := by kernel_rfl
  have o14 := qh (msg_one Ms.bare14)
  have HS := qh hsplit
  have HT := qh htake
  have HD := qh hdrop
  have Z16 : Ms.none16.cells = Ms.zeroM := rfl
  rw [Z16] at cpn
  have b16 : Ms.bare14.cells.size = 16 := rfl
  have B16 := qh b16
  generalize Ms.put Ms.bare14.m = bs at *
  generalize Ms.bare14 = m0 at *
  clear hsplit htake hdrop hcv Z16 l0 b16
  go_enter Try.func12, Try.ntmps12
  go_upto_region 6 with (first | (with_reducible refine alloc_msg rfl rfl ?_) | ((with_reducible refine ms_store_new rfl rfl rfl rfl Ms.zeroM_size ?_ ?_ ?_); (focus first | (with_reducible exact B16.out) | rfl); (focus first | exact o14.out | exact msg_one _ | exact msg_zero_one)) | (refine wpList_build_is rfl (t := 29) (vs := [(0, .int .i64 14), (1, .int .i64 3), (2, .int .u16 258)]) rfl rfl b14 ?_; have T1 := qh (Box.made w 29 m0.cells); have K1 := qh (one_below w (.cells m0.cells 29))) | (refine wpList_build_is rfl (t := 29) (vs := []) rfl rfl msg_built ?_) | ((with_reducible refine ms_load rfl rfl ?_); apply LoadMs.mk rfl (by with_reducible exact T1.out) B16.out) | (go_at_call 14; ((with_reducible refine ((cp _).out).mono ?_); rintro r w2 ⟨A2, c2, rfl, hc2, hO2, hb⟩; have O2 := qh hO2; have T2 := qh (T1.out.below hb T1.out.lt); have K2 := qh (K1.out.trans (hb.mono K1.out.size)); have C2 := qh hc2; have cg2 := cg A2 c2 _ C2.out (Lies.owned O2.out); clear hc2 hO2 hb cp cg)) | (go_at_call 19; ((with_reducible refine (cg2.out).mono ?_); rintro r w3 ⟨q, rfl, hsm, _, hty, hok, hLq, hb⟩; have LQ3 := qh (LiesM.made hLq (.cells q.cells 29)); have QS := qh hsm; have QT := qh hty; have T3 := qh ((T2.out.below hb T2.out.lt).alloc (.cells q.cells 29)); have K3 := qh ((K2.out.trans (hb.mono K2.out.size)).alloc (Nat.le_trans K2.out.size hb.size) (.cells q.cells 29)); have G3 := qh (Box.made w3 29 q.cells); have O3 := qh ((own_below O2.out hb (Nat.le_refl _)).alloc (.cells q.cells 29)); clear hsm hty hok hLq hb cg2)) | (go_at_call 19; ((with_reducible refine ((cgn _).out).mono ?_); rintro r w4 ⟨rfl, hb⟩; have LQ4 := qh (LiesM.made ((LQ3.out.to hb).wide hb.size) (.cells Ms.zeroM 29)); have T4 := qh ((T3.out.below hb T3.out.lt).alloc (.cells Ms.zeroM 29)); have K4 := qh ((K3.out.trans (hb.mono K3.out.size)).alloc (Nat.le_trans K3.out.size hb.size) (.cells Ms.zeroM 29)); have G4 := qh ((G3.out.below hb G3.out.lt).alloc (.cells Ms.zeroM 29)); have O4 := qh ((own_below O3.out hb (Nat.le_refl _)).alloc (.cells Ms.zeroM 29)); clear hb cgn)) | (go_at_call 14; ((with_reducible refine ((cpn _).out).mono ?_); rintro r w5 ⟨rfl, hb⟩; have LQ5 := qh ((LQ4.out.to hb).wide hb.size); have T5 := qh (T4.out.below hb T4.out.lt); have K5 := qh (K4.out.trans (hb.mono K4.out.size)); have G5 := qh (G4.out.below hb G4.out.lt); have O5 := qh (own_below O4.out hb (Nat.le_refl _)); clear hb cpn)))
  all_goals (
    obtain ⟨ad, rfl, -⟩ := (Lies.owned O5.out).start (by decide)
    have c8 : 8 ≤ c2 := Nat.le_trans (by decide) C2.out
    have c4 : ¬ c2 = 4 := by omega
    have L5 := Lies.owned O5.out
    rw [HS.out] at L5
    have L6 := qh (Lies.front1 (Lies.rest L5 10 HT.out C2.out rfl) (m := 4) rfl (by decide))
    rw [if_neg c4] at L6
    clear L5)
  go_wp2_with (first | ((with_reducible refine ms_load_g ?_ rfl ?_); (focus first | rfl | kernel_rfl | simp [Region.wanted, yielded]); apply LoadMs.mk rfl; (focus first | (with_reducible exact G5.out) | (with_reducible exact T6.out) | (with_reducible exact T5.out)); (focus first | exact B16.out | rfl)) | (go_at_call 22; ((with_reducible refine ((csm q _ QT.out QS.out LQ5.out).out).mono ?_); rintro r w6 ⟨rfl, hb⟩; have T6 := qh (T5.out.below hb T5.out.lt); have K6 := qh (K5.out.trans (hb.mono K5.out.size)); have hst := HCV.out _ (c2 - 4) w6 _ (L6.out.below hb); rw [show Addr.add ad 4 = ⟨ad.block, ad.off + 4, none⟩ from rfl] at hst; clear hb)) | (go_at_call 23; ((with_reducible refine ((cc _).out).mono ?_); rintro r w7 ⟨rfl, rfl⟩)) | (go_at_call 15; ((with_reducible refine ((cm _).out).mono ?_); rintro r w8 ⟨rfl, hb⟩; have K8 := qh (K6.out.trans (hb.mono K6.out.size)); clear hb)))
  go_ret
  exact ⟨rfl, K8.out⟩
end Go.Proofs.Ytgmlbimgcifenaa
namespace Go.Proofs.Ytgmlbimgcifenaa
open Go.RowKit Go.Shelf
theorem results_cellW {P : Program} {fn : Func} {p : Tmp} {ty : TypeId} (h : fn.results = #[.cell p ty]) (tmps : Array Value) (w : World) (g : Nat) (t : TypeId) (cs : Array Value) (d : TypeDesc)
    (hp : tmps.getD p undef = .pointer (some ⟨g, 0, none⟩)) (hg : Box w g t cs) (hu : P.underlying ty = some d) (hd : d.isRow = true) (hi : (P.info? ty).map (·.size) = some cs.size) :
    (results fn tmps).run P w = .ok (.agg cs) w := by
  have hp' : tmps[p]?.getD undef = .pointer (some ⟨g, 0, none⟩) := by simpa using hp
  have hl := run_loadVar_row (P := P) w g t ty cs (0, 0) d hg.is hu (by cases d <;> first | rfl | cases hd) hi
  simp [results, h, hp', asAddr, hl]
def ReadTo (B : Nat) (q' : Ms.S) (o' : Option (List Int)) (w : World) (e : Ending) (w' : World) : Prop := e = .returned (.agg q'.cells) ∧ RIs w' B o' ∧ Sol B w w'
theorem RIs.on {w w' : World} {B : Nat} {o : Option (List Int)} (h : RIs w B o) (hb : Below w.heap.size w w') : RIs w' B o := h.below hb h.lt
theorem RIs.set {w : World} {B g : Nat} {o : Option (List Int)} (h : RIs w B o) (hne : B ≠ g) (i : Nat) (u : Value) : RIs (w.setCell ⟨g, i, none⟩ u) B o := h.stays (heap_setCell_other w ⟨g, i, none⟩ B u hne)
theorem RIs.row {w : World} {B g : Nat} {o : Option (List Int)} (h : RIs w B o) (hne : B ≠ g) (cs : Array Value) : RIs (w.setRow g cs) B o := h.stays (setRow_other w g B cs hne)
structure Mid (w : World) (B : Nat) (q : Ms.S) (o : Option (List Int)) (X : World) : Prop where
  box : Box X w.heap.size 29 q.cells
  res : Box X (w.heap.size + 1) 29 Ms.zeroM
  rd : RIs X B o
  sol : Sol B w X
theorem read_pre (q : Ms.S) (o : Option (List Int)) (B : Nat) (w : World) (h : RIs w B o) : ∃ W, (w.alloc (.cells q.cells 29)).alloc (.cells Ms.zeroM 29) = W ∧ Mid w B q o W ∧ B < w.heap.size := by
  have hb : Below w.heap.size w ((w.alloc (.cells q.cells 29)).alloc (.cells Ms.zeroM 29)) := (one_below w _).alloc (by simp) _
  exact ⟨_, rfl, ⟨(Box.made w _ _).alloc _, Box.made_at (n := w.heap.size + 1) _ _ _ (by simp), h.on hb, (Sol.refl B w).call hb⟩, h.lt⟩
section
variable {w X X' : World} {B : Nat} {q : Ms.S} {o o' : Option (List Int)}
theorem Mid.read (h : Mid w B q o X) (hlt : B < w.heap.size) (hR : RIs X' B o') (hS : Sol B X X') : Mid w B q o' X' := ⟨h.box.sol hS (by omega), h.res.sol hS (by omega), hR, h.sol.trans hS⟩
theorem Mid.put (h : Mid w B q o X) (hlt : B < w.heap.size) (i : Nat) (v : Value) (q' : Ms.S) (e : q.cells.setIfInBounds i v = q'.cells) : Mid w B q' o (X.setCell ⟨w.heap.size, i, none⟩ v) :=
  ⟨e ▸ h.box.put i v, h.res.far (p := ⟨w.heap.size, i, none⟩) (show w.heap.size + 1 ≠ w.heap.size by omega) v, h.rd.set (by omega) i v, h.sol.fresh (p := ⟨w.heap.size, i, none⟩) (Nat.le_refl _) v⟩
theorem Mid.ret {a : Act} (h : Mid w B q o X) (hlt : B < w.heap.size) (hp : a.tmps.getD 6 undef = .pointer (some ⟨w.heap.size + 1, 0, none⟩)) (hd : a.defers = []) : bodyPost Try.prog Try.f44 (ReadTo B q o w) .ret a (X.setRow (w.heap.size + 1) q.cells) :=
  bodyPost_ret (results_cellW rfl _ _ (w.heap.size + 1) 29 _ _ hp (h.res.row q.cells) Try.underlying29 rfl msg_info16) hd ⟨rfl, h.rd.row (by omega) _, h.sol.freshRow (Nat.le_succ _) _⟩
end
theorem refread_slot (q : Ms.S) (o : Option (List Int)) (B : Nat) (w : World) (hB : ∀ l, o = some l → Im.IsBytes l) (h : RIs w B o) :
    Calls Try.prog 44 #[.agg q.cells, .pointer (some ⟨B, 0, none⟩), .int .u8 115] w (ReadTo B { q with m := { q.m with slot := Sx.num 1 o } } (Sx.rest 1 o) w) := by
  obtain ⟨W, hW, hM, hlt⟩ := read_pre q o B w h
  have MW := qh hM
  have c1 := qh (rint_any 1 1 rfl o B W (by decide) hB hM.rd)
  have nb := Sx.num_lt (n := 1) hB
  simp only [Nat.reduceMul, Int.reducePow] at nb
  obtain ⟨v, hv⟩ : ∃ v, v = Sx.num 1 o := ⟨_, rfl⟩
  rw [← hv] at c1 nb ⊢
  have HW := qh hW
  clear hW h hB hv hM
  go_enter Try.func44, Try.ntmps44
  go_upto_region 33 with (first | (with_reducible refine alloc_msg rfl rfl ?_) | (go_at_call 42; (rw [HW.out]; (with_reducible refine (c1.out).mono ?_); rintro e w1 ⟨rfl, hR, hS⟩; have M1 := qh (MW.out.read hlt hR hS); have k1 := (M1.out.box.cell 5).trans (show _ = some (Value.int .i64 q.m.slot) from rfl); have kf := M1.out.box.free 5; have kl := M1.out.box.lt; clear hR hS c1)))
  have M3 := qh (M1.out.put hlt 5 (.int .i64 v) { q with m := { q.m with slot := v } } rfl)
  clear k1 kf kl
  generalize w1.setCell ⟨w.heap.size, 5, none⟩ (.int .i64 v) = W3 at *
  go_wp2_with (first | ((with_reducible refine ms_load rfl rfl ?_); apply LoadMs.mk rfl (by with_reducible exact M3.out.box) (ms_size _)) | ((with_reducible refine blk_gate (t := 29) rfl rfl msg_info16 ?_); apply StoreBlk.mk rfl rfl (by with_reducible exact M3.out.res) (msg_one _) (ms_size _) Ms.zeroM_size))
  exact M3.out.ret hlt rfl rfl
theorem refread_gen (q : Ms.S) (o : Option (List Int)) (B : Nat) (w : World) (hB : ∀ l, o = some l → Im.IsBytes l) (h : RIs w B o) :
    Calls Try.prog 44 #[.agg q.cells, .pointer (some ⟨B, 0, none⟩), .int .u8 103] w (ReadTo B { q with m := { q.m with gen := Sx.num 2 o } } (Sx.rest 2 o) w) := by
  obtain ⟨W, hW, hM, hlt⟩ := read_pre q o B w h
  have MW := qh hM
  have c1 := qh (rint_any 2 2 rfl o B W (by decide) hB hM.rd)
  have nb := Sx.num_lt (n := 2) hB
  simp only [Nat.reduceMul, Int.reducePow] at nb
  obtain ⟨v, hv⟩ : ∃ v, v = Sx.num 2 o := ⟨_, rfl⟩
  rw [← hv] at c1 nb ⊢
  have HW := qh hW
  clear hW h hB hv hM
  go_enter Try.func44, Try.ntmps44
  go_upto_region 33 with (first | (with_reducible refine alloc_msg rfl rfl ?_) | (go_at_call 42; (rw [HW.out]; (with_reducible refine (c1.out).mono ?_); rintro e w1 ⟨rfl, hR, hS⟩; have M1 := qh (MW.out.read hlt hR hS); have k1 := (M1.out.box.cell 6).trans (show _ = some (Value.int .i64 q.m.gen) from rfl); have kf := M1.out.box.free 6; have kl := M1.out.box.lt; clear hR hS c1)))
  have M3 := qh (M1.out.put hlt 6 (.int .i64 v) { q with m := { q.m with gen := v } } rfl)
  clear k1 kf kl
  generalize w1.setCell ⟨w.heap.size, 6, none⟩ (.int .i64 v) = W3 at *
  go_wp2_with (first | ((with_reducible refine ms_load rfl rfl ?_); apply LoadMs.mk rfl (by with_reducible exact M3.out.box) (ms_size _)) | ((with_reducible refine blk_gate (t := 29) rfl rfl msg_info16 ?_); apply StoreBlk.mk rfl rfl (by with_reducible exact M3.out.res) (msg_one _) (ms_size _) Ms.zeroM_size))
  exact M3.out.ret hlt rfl rfl
theorem refread_frame (q : Ms.S) (o : Option (List Int)) (B : Nat) (w : World) (hB : ∀ l, o = some l → Im.IsBytes l) (h : RIs w B o) :
    Calls Try.prog 44 #[.agg q.cells, .pointer (some ⟨B, 0, none⟩), .int .u8 102] w (ReadTo B { q with m := { q.m with frame := Sx.num 4 o } } (Sx.rest 4 o) w) := by
  obtain ⟨W, hW, hM, hlt⟩ := read_pre q o B w h
  have MW := qh hM
  have c1 := qh (rint_any 4 4 rfl o B W (by decide) hB hM.rd)
  have nb := Sx.num_lt (n := 4) hB
  simp only [Nat.reduceMul, Int.reducePow] at nb
  obtain ⟨v, hv⟩ : ∃ v, v = Sx.num 4 o := ⟨_, rfl⟩
  rw [← hv] at c1 nb ⊢
  have HW := qh hW
  clear hW h hB hv hM
  go_enter Try.func44, Try.ntmps44
  go_upto_region 33 with (first | (with_reducible refine alloc_msg rfl rfl ?_) | (go_at_call 42; (rw [HW.out]; (with_reducible refine (c1.out).mono ?_); rintro e w1 ⟨rfl, hR, hS⟩; have M1 := qh (MW.out.read hlt hR hS); have k1 := (M1.out.box.cell 7).trans (show _ = some (Value.int .i64 q.m.frame) from rfl); have kf := M1.out.box.free 7; have kl := M1.out.box.lt; clear hR hS c1)))
  have M3 := qh (M1.out.put hlt 7 (.int .i64 v) { q with m := { q.m with frame := v } } rfl)
  clear k1 kf kl
  generalize w1.setCell ⟨w.heap.size, 7, none⟩ (.int .i64 v) = W3 at *
  go_wp2_with (first | ((with_reducible refine ms_load rfl rfl ?_); apply LoadMs.mk rfl (by with_reducible exact M3.out.box) (ms_size _)) | ((with_reducible refine blk_gate (t := 29) rfl rfl msg_info16 ?_); apply StoreBlk.mk rfl rfl (by with_reducible exact M3.out.res) (msg_one _) (ms_size _) Ms.zeroM_size))
  exact M3.out.ret hlt rfl rfl
theorem refread_code (q : Ms.S) (o : Option (List Int)) (B : Nat) (w : World) (hB : ∀ l, o = some l → Im.IsBytes l) (h : RIs w B o) :
    Calls Try.prog 44 #[.agg q.cells, .pointer (some ⟨B, 0, none⟩), .int .u8 99] w (ReadTo B { q with m := { q.m with code := Sx.num 1 o } } (Sx.rest 1 o) w) := by
  obtain ⟨W, hW, hM, hlt⟩ := read_pre q o B w h
  have MW := qh hM
  have c1 := qh (rint_any 1 1 rfl o B W (by decide) hB hM.rd)
  have nb := Sx.num_lt (n := 1) hB
  simp only [Nat.reduceMul, Int.reducePow] at nb
  obtain ⟨v, hv⟩ : ∃ v, v = Sx.num 1 o := ⟨_, rfl⟩
  rw [← hv] at c1 nb ⊢
  have HW := qh hW
  clear hW h hB hv hM
  go_enter Try.func44, Try.ntmps44
  go_upto_region 33 with (first | (with_reducible refine alloc_msg rfl rfl ?_) | (go_at_call 42; (rw [HW.out]; (with_reducible refine (c1.out).mono ?_); rintro e w1 ⟨rfl, hR, hS⟩; have M1 := qh (MW.out.read hlt hR hS); have k1 := (M1.out.box.cell 8).trans (show _ = some (Value.int .i64 q.m.code) from rfl); have kf := M1.out.box.free 8; have kl := M1.out.box.lt; clear hR hS c1)))
  have M3 := qh (M1.out.put hlt 8 (.int .i64 v) { q with m := { q.m with code := v } } rfl)
  clear k1 kf kl
  generalize w1.setCell ⟨w.heap.size, 8, none⟩ (.int .i64 v) = W3 at *
  go_wp2_with (first | ((with_reducible refine ms_load rfl rfl ?_); apply LoadMs.mk rfl (by with_reducible exact M3.out.box) (ms_size _)) | ((with_reducible refine blk_gate (t := 29) rfl rfl msg_info16 ?_); apply StoreBlk.mk rfl rfl (by with_reducible exact M3.out.res) (msg_one _) (ms_size _) Ms.zeroM_size))
  exact M3.out.ret hlt rfl rfl
theorem refread_n (q : Ms.S) (o : Option (List Int)) (B : Nat) (w : World) (hB : ∀ l, o = some l → Im.IsBytes l) (h : RIs w B o) :
    Calls Try.prog 44 #[.agg q.cells, .pointer (some ⟨B, 0, none⟩), .int .u8 110] w (ReadTo B { q with m := { q.m with n := Sx.num 2 o } } (Sx.rest 2 o) w) := by
  obtain ⟨W, hW, hM, hlt⟩ := read_pre q o B w h
  have MW := qh hM
  have c1 := qh (rint_any 2 2 rfl o B W (by decide) hB hM.rd)
  have nb := Sx.num_lt (n := 2) hB
  simp only [Nat.reduceMul, Int.reducePow] at nb
  obtain ⟨v, hv⟩ : ∃ v, v = Sx.num 2 o := ⟨_, rfl⟩
  rw [← hv] at c1 nb ⊢
  have HW := qh hW
  clear hW h hB hv hM
  go_enter Try.func44, Try.ntmps44
  go_upto_region 33 with (first | (with_reducible refine alloc_msg rfl rfl ?_) | (go_at_call 42; (rw [HW.out]; (with_reducible refine (c1.out).mono ?_); rintro e w1 ⟨rfl, hR, hS⟩; have M1 := qh (MW.out.read hlt hR hS); have k1 := (M1.out.box.cell 9).trans (show _ = some (Value.int .i64 q.m.n) from rfl); have kf := M1.out.box.free 9; have kl := M1.out.box.lt; clear hR hS c1)))
  have M3 := qh (M1.out.put hlt 9 (.int .i64 v) { q with m := { q.m with n := v } } rfl)
  clear k1 kf kl
  generalize w1.setCell ⟨w.heap.size, 9, none⟩ (.int .i64 v) = W3 at *
  go_wp2_with (first | ((with_reducible refine ms_load rfl rfl ?_); apply LoadMs.mk rfl (by with_reducible exact M3.out.box) (ms_size _)) | ((with_reducible refine blk_gate (t := 29) rfl rfl msg_info16 ?_); apply StoreBlk.mk rfl rfl (by with_reducible exact M3.out.res) (msg_one _) (ms_size _) Ms.zeroM_size))
  exact M3.out.ret hlt rfl rfl
theorem refread_of (q : Ms.S) (o : Option (List Int)) (B : Nat) (w : World) (hB : ∀ l, o = some l → Im.IsBytes l) (h : RIs w B o) :
    Calls Try.prog 44 #[.agg q.cells, .pointer (some ⟨B, 0, none⟩), .int .u8 111] w (ReadTo B { q with m := { q.m with of := Sx.num 2 o } } (Sx.rest 2 o) w) := by
  obtain ⟨W, hW, hM, hlt⟩ := read_pre q o B w h
  have MW := qh hM
  have c1 := qh (rint_any 2 2 rfl o B W (by decide) hB hM.rd)
  have nb := Sx.num_lt (n := 2) hB
  simp only [Nat.reduceMul, Int.reducePow] at nb
  obtain ⟨v, hv⟩ : ∃ v, v = Sx.num 2 o := ⟨_, rfl⟩
  rw [← hv] at c1 nb ⊢
  have HW := qh hW
  clear hW h hB hv hM
  go_enter Try.func44, Try.ntmps44
  go_upto_region 33 with (first | (with_reducible refine alloc_msg rfl rfl ?_) | (go_at_call 42; (rw [HW.out]; (with_reducible refine (c1.out).mono ?_); rintro e w1 ⟨rfl, hR, hS⟩; have M1 := qh (MW.out.read hlt hR hS); have k1 := (M1.out.box.cell 10).trans (show _ = some (Value.int .i64 q.m.of) from rfl); have kf := M1.out.box.free 10; have kl := M1.out.box.lt; clear hR hS c1)))
  have M3 := qh (M1.out.put hlt 10 (.int .i64 v) { q with m := { q.m with of := v } } rfl)
  clear k1 kf kl
  generalize w1.setCell ⟨w.heap.size, 10, none⟩ (.int .i64 v) = W3 at *
  go_wp2_with (first | ((with_reducible refine ms_load rfl rfl ?_); apply LoadMs.mk rfl (by with_reducible exact M3.out.box) (ms_size _)) | ((with_reducible refine blk_gate (t := 29) rfl rfl msg_info16 ?_); apply StoreBlk.mk rfl rfl (by with_reducible exact M3.out.res) (msg_one _) (ms_size _) Ms.zeroM_size))
  exact M3.out.ret hlt rfl rfl
theorem refread_bits (q : Ms.S) (o : Option (List Int)) (B : Nat) (w : World) (hB : ∀ l, o = some l → Im.IsBytes l) (h : RIs w B o) :
    Calls Try.prog 44 #[.agg q.cells, .pointer (some ⟨B, 0, none⟩), .int .u8 98] w (ReadTo B { q with m := { q.m with bits := Sx.num 4 o } } (Sx.rest 4 o) w) := by
  obtain ⟨W, hW, hM, hlt⟩ := read_pre q o B w h
  have MW := qh hM
  have c1 := qh (rnum_any 4 4 rfl o B W (by decide) hB hM.rd)
  have nb := Sx.num_lt (n := 4) hB
  simp only [Nat.reduceMul, Int.reducePow] at nb
  obtain ⟨v, hv⟩ : ∃ v, v = Sx.num 4 o := ⟨_, rfl⟩
  rw [← hv] at c1 nb ⊢
  have HW := qh hW
  clear hW h hB hv hM
  go_enter Try.func44, Try.ntmps44
  go_upto_region 33 with (first | (with_reducible refine alloc_msg rfl rfl ?_) | (go_at_call 43; (rw [HW.out]; (with_reducible refine (c1.out).mono ?_); rintro e w1 ⟨rfl, hR, hS⟩; have M1 := qh (MW.out.read hlt hR hS); have k1 := (M1.out.box.cell 11).trans (show _ = some (Value.int .u32 q.m.bits) from rfl); have kf := M1.out.box.free 11; have kl := M1.out.box.lt; clear hR hS c1)))
  have M3 := qh (M1.out.put hlt 11 (.int .u32 v) { q with m := { q.m with bits := v } } rfl)
  clear k1 kf kl
  generalize w1.setCell ⟨w.heap.size, 11, none⟩ (.int .u32 v) = W3 at *
  go_wp2_with (first | ((with_reducible refine ms_load rfl rfl ?_); apply LoadMs.mk rfl (by with_reducible exact M3.out.box) (ms_size _)) | ((with_reducible refine blk_gate (t := 29) rfl rfl msg_info16 ?_); apply StoreBlk.mk rfl rfl (by with_reducible exact M3.out.res) (msg_one _) (ms_size _) Ms.zeroM_size))
  exact M3.out.ret hlt rfl rfl
theorem refread_sum (q : Ms.S) (o : Option (List Int)) (B : Nat) (w : World) (hB : ∀ l, o = some l → Im.IsBytes l) (h : RIs w B o) :
    Calls Try.prog 44 #[.agg q.cells, .pointer (some ⟨B, 0, none⟩), .int .u8 109] w (ReadTo B { q with m := { q.m with sum := Sx.num 8 o } } (Sx.rest 8 o) w) := by
  obtain ⟨W, hW, hM, hlt⟩ := read_pre q o B w h
  have MW := qh hM
  have c1 := qh (rnum_any 8 8 rfl o B W (by decide) hB hM.rd)
  have nb := Sx.num_lt (n := 8) hB
  simp only [Nat.reduceMul, Int.reducePow] at nb
  obtain ⟨v, hv⟩ : ∃ v, v = Sx.num 8 o := ⟨_, rfl⟩
  rw [← hv] at c1 nb ⊢
  have HW := qh hW
  clear hW h hB hv hM
  go_enter Try.func44, Try.ntmps44
  go_upto_region 33 with (first | (with_reducible refine alloc_msg rfl rfl ?_) | (go_at_call 43; (rw [HW.out]; (with_reducible refine (c1.out).mono ?_); rintro e w1 ⟨rfl, hR, hS⟩; have M1 := qh (MW.out.read hlt hR hS); have k1 := (M1.out.box.cell 12).trans (show _ = some (Value.int .u64 q.m.sum) from rfl); have kf := M1.out.box.free 12; have kl := M1.out.box.lt; clear hR hS c1)))
  have M3 := qh (M1.out.put hlt 12 (.int .u64 v) { q with m := { q.m with sum := v } } rfl)
  clear k1 kf kl
  generalize w1.setCell ⟨w.heap.size, 12, none⟩ (.int .u64 v) = W3 at *
  go_wp2_with (first | ((with_reducible refine ms_load rfl rfl ?_); apply LoadMs.mk rfl (by with_reducible exact M3.out.box) (ms_size _)) | ((with_reducible refine blk_gate (t := 29) rfl rfl msg_info16 ?_); apply StoreBlk.mk rfl rfl (by with_reducible exact M3.out.res) (msg_one _) (ms_size _) Ms.zeroM_size))
  exact M3.out.ret hlt rfl rfl
end Go.Proofs.Ytgmlbimgcifenaa
namespace Sx
open Go
theorem str_take (l : List Int) (n : Nat) : (strOfNums l).extract 0 n = strOfNums (l.take n) := by
  apply ByteArray.ext
  rw [ByteArray.data_extract]
  apply Array.ext'
  unfold strOfNums
  simp [List.map_take]
def some' (n : Nat) : Option (List Int) → List Int
  | none => []
  | some l => if n ≤ l.length then l.take n else []
def after (n : Nat) : Option (List Int) → Option (List Int)
  | none => none
  | some l => if n ≤ l.length then some (l.drop n) else none
theorem some_few {n : Nat} {l : List Int} (h : ¬ n ≤ l.length) : some' n (some l) = [] ∧ after n (some l) = none := ⟨if_neg h, if_neg h⟩
theorem some_yes {n : Nat} {l : List Int} (h : n ≤ l.length) : some' n (some l) = l.take n ∧ after n (some l) = some (l.drop n) := ⟨if_pos h, if_pos h⟩
end Sx
namespace Go.Proofs.Ytgmlbimgcifenaa
open Go.RowKit
theorem rsome_any (n : Nat) (z : Int) (hz : z = n) (o : Option (List Int)) (B : Nat) (w : World) (hn : n ≤ 65535) (h : RIs w B o) :
    Calls Try.prog 63 #[.pointer (some ⟨B, 0, none⟩), .int .i64 z] w fun e w' => e = .returned (.string (strOfNums (Sx.some' n o))) ∧ RIs w' B (Sx.after n o) ∧ Sol B w w' := by
  match o with
  | none =>
    obtain ⟨s, hs⟩ := h
    have c0 := hs.cell 0
    have c1 := hs.cell 1
    have f0 := hs.free 0
    have f1 := hs.free 1
    have HB := qh hs
    clear hs
    go_enter Try.func63, Try.ntmps63
    go_wp2
    go_ret
    exact ⟨rfl, ⟨_, (HB.out.put 1 (.bool true)).put 0 (.string ⟨#[]⟩)⟩, ((Sol.refl B w).put 1 _).put 0 _⟩
  | some l =>
    have hs : Box w B 82 #[.string (strOfNums l), .bool false] := h
    have c0 := hs.cell 0
    have c1 := hs.cell 1
    have f0 := hs.free 0
    have f1 := hs.free 1
    have HB := qh hs
    have hsz := strOfNums_size l
    clear h hs
    by_cases hlt : l.length < n
    · obtain ⟨e1, e2⟩ := Sx.some_few (n := n) (l := l) (by omega)
      rw [e1, e2]
      have hlz : (l.length : Int) < z := by omega
      generalize strOfNums l = s at *
      clear e1 e2
      go_enter Try.func63, Try.ntmps63
      go_wp2
      go_ret
      exact ⟨rfl, ⟨_, (HB.out.put 1 (.bool true)).put 0 (.string ⟨#[]⟩)⟩, ((Sol.refl B w).put 1 _).put 0 _⟩
    · have hlz : ¬ (l.length : Int) < z := by omega
      obtain ⟨e1, e2⟩ := Sx.some_yes (n := n) (l := l) (by omega)
      rw [e1, e2]
      have HX := qh (Sx.str_drop l n)
      have HT := qh (Sx.str_take l n)
      generalize strOfNums l = s at *
      clear e1 e2
      have hx2 : s.extract n l.length = strOfNums (l.drop n) := by rw [← hsz]; exact HX.out
      have hx1 : s.extract 0 n = strOfNums (l.take n) := HT.out
      have hzn : z.toNat = n := by omega
      have hz0 : 0 ≤ z := by omega
      have hz1 : z ≤ (s.size : Int) := by omega
      go_enter Try.func63, Try.ntmps63
      go_wp2
      go_ret
      exact ⟨rfl, HB.out.put 0 (.string (strOfNums (l.drop n))), (Sol.refl B w).put 0 _⟩
end Go.Proofs.Ytgmlbimgcifenaa
namespace Sx
theorem some_bytes {n : Nat} {o : Option (List Int)} (h : ∀ l, o = some l → Im.IsBytes l) : Im.IsBytes (some' n o) := by
  cases o with
  | none => intro x hx; cases hx
  | some l =>
    unfold some'
    dsimp only
    split
    · exact fun x hx => h l rfl x (List.mem_of_mem_take hx)
    · intro x hx; cases hx
end Sx
namespace Go.Proofs.Ytgmlbimgcifenaa
open Go.RowKit Go.Shelf
theorem add_zero (g j : Nat) : Addr.add ⟨g, 0, none⟩ j = ⟨g, j, none⟩ := by unfold Addr.add; split <;> simp_all
theorem Lies.far1 {w : World} {b S n g i : Nat} {xs : List Value} (h : Lies w b 1 (some ⟨S, 0, none⟩) n xs) (hne : S ≠ g) (v : Value) : Lies (w.setCell ⟨g, i, none⟩ v) b 1 (some ⟨S, 0, none⟩) n xs := by
  refine ⟨h.len, h.start, fun ad e h0 j u hj => ?_⟩
  have k := h.cell ad e h0 j u hj
  injection e with e
  subst e
  rw [add_zero] at k ⊢
  unfold World.cell? at k ⊢
  rw [heap_setCell_other w ⟨g, i, none⟩ S v hne]
  exact k
theorem Lies.row1 {w : World} {b S n g : Nat} {xs : List Value} (h : Lies w b 1 (some ⟨S, 0, none⟩) n xs) (hne : S ≠ g) (cs : Array Value) : Lies (w.setRow g cs) b 1 (some ⟨S, 0, none⟩) n xs := by
  refine ⟨h.len, h.start, fun ad e h0 j u hj => ?_⟩
  have k := h.cell ad e h0 j u hj
  injection e with e
  subst e
  rw [add_zero] at k ⊢
  unfold World.cell? at k ⊢
  rw [setRow_other w g S cs hne]
  exact k
theorem cell_fr (w : World) (C : Array Value) (t : TypeId) (fr : Nat × Nat) (j : Nat) : (w.alloc (.cells C t fr)).cell? ⟨w.heap.size, j, none⟩ = C[j]? := by
  unfold World.cell?
  rw [show (w.alloc (.cells C t fr)).heap[w.heap.size]? = some (.cells C t fr) from heap_alloc_new _ _]
  rfl
theorem conv_back (l : List Int) (hl : Im.IsBytes l) (w : World) : ∃ c W', (convert 9 27 (.string (strOfNums l))).run Try.prog w = .ok (.slice (some ⟨w.heap.size, 0, none⟩) l.length c) W' ∧ Below w.heap.size w W' ∧ Lies W' W'.heap.size 1 (some ⟨w.heap.size, 0, none⟩) l.length (Im.u8s l) := by
  have hr := run_bytes_of_string (P := Try.prog) w 9 27 5 (strOfNums l) Try.underlying9 Try.underlying27 Try.underlying5
  have hs := strOfNums_size l
  rw [hs] at hr
  refine ⟨_, _, hr, ((Below.refl w.heap.size w).drew).alloc (by simp) _, ?_⟩
  · refine ⟨by rw [Im.u8s_len]; omega, fun _ => ⟨_, rfl, by simp⟩, fun ad e h0 j u hj => ?_⟩
    injection e with e
    subst e
    have hjl : j < l.length := by have := (List.getElem?_eq_some_iff.1 hj).1; rw [Im.u8s_len] at this; exact this
    have hj2 : j < (strOfNums l).size := by rw [hs]; exact hjl
    have hat := Sx.str_at hl j hjl hj2
    have hu : u = .int .u8 (l.getD j 0) := by
      unfold Im.u8s at hj
      rw [List.getElem?_map, List.getElem?_eq_getElem hjl] at hj
      simp only [Option.map_some, Option.some.injEq] at hj
      rw [← hj, List.getD_eq_getElem?_getD, List.getElem?_eq_getElem hjl, Option.getD_some]
    rw [add_zero]
    have hc := bytesRow_at (strOfNums l) (grownCap w l.length 0 5) j hj2
    rw [hu, ← hat]
    refine Eq.trans ?_ hc
    exact cell_fr w.drew _ _ _ j
def SaysData (B : Nat) (q : Ms.S) (l : List Int) (o' : Option (List Int)) (w : World) (e : Ending) (w' : World) : Prop := ∃ S c, ReadTo B { q with m := { q.m with data := l }, ad := some ⟨S, 0, none⟩, cd := c } o' w e w' ∧ w.heap.size ≤ S ∧ Lies w' w'.heap.size 1 (some ⟨S, 0, none⟩) l.length (Im.u8s l)
theorem refread_data (q : Ms.S) (o : Option (List Int)) (B : Nat) (w : World) (hB : ∀ l, o = some l → Im.IsBytes l) (h : RIs w B o) :
    Calls Try.prog 44 #[.agg q.cells, .pointer (some ⟨B, 0, none⟩), .int .u8 100] w (SaysData B q (Sx.some' (Sx.num 1 o).toNat (Sx.rest 1 o)) (Sx.after (Sx.num 1 o).toNat (Sx.rest 1 o)) w) := by
  obtain ⟨W, hW⟩ : ∃ W, W = (w.alloc (.cells q.cells 29)).alloc (.cells Ms.zeroM 29) := ⟨_, rfl⟩
  have KW := qh (show Below w.heap.size w W by rw [hW]; exact (one_below w _).alloc (by simp) _)
  have P1 := qh (show Box W w.heap.size 29 q.cells by rw [hW]; exact (Box.made w _ _).alloc _)
  have P2 := qh (show Box W (w.heap.size + 1) 29 Ms.zeroM by rw [hW]; exact Box.made_at (n := w.heap.size + 1) _ _ _ (by simp))
  have hlt := h.lt
  have c1 := qh (rint_any 1 1 rfl o B W (by decide) hB (h.on KW.out))
  have nb := Sx.num_lt (n := 1) hB
  simp only [Nat.reduceMul, Int.reducePow] at nb
  have c2 := fun X hX => qh (rsome_any (Sx.num 1 o).toNat (Sx.num 1 o) (by omega) (Sx.rest 1 o) B X (by omega) hX)
  have hby : Im.IsBytes (Sx.some' (Sx.num 1 o).toNat (Sx.rest 1 o)) := Sx.some_bytes (Sx.rest_bytes hB)
  generalize (Sx.num 1 o).toNat = k at *
  generalize Sx.rest 1 o = o1 at *
  generalize Sx.num 1 o = v at *
  have HW := qh hW.symm
  clear hW h hB
  go_enter Try.func44, Try.ntmps44
  go_upto_region 33 with (first | (with_reducible refine alloc_msg rfl rfl ?_) | (go_at_call 42; (rw [HW.out]; (with_reducible refine (c1.out).mono ?_); rintro e w1 ⟨rfl, hR, hS⟩; have R1 := qh hR; have S1 := qh hS; have Q1 := qh (P1.out.sol hS (by omega)); have Q2 := qh (P2.out.sol hS (by omega)); clear hR hS c1)) | (go_at_call 63; ((with_reducible refine ((c2 _ R1.out).out).mono ?_); rintro e w2 ⟨rfl, hR, hS⟩; have R2 := qh hR; have S2 := qh (S1.out.trans hS); have Q3 := qh (Q1.out.sol hS (by omega)); have Q4 := qh (Q2.out.sol hS (by omega)); obtain ⟨cc, W4, hcv, hbc, hLc⟩ := conv_back _ hby w2; have sz2 := S2.out.size; have Q5 := qh (Q3.out.below hbc Q3.out.lt); have Q6 := qh (Q4.out.below hbc Q4.out.lt); have R5 := qh (R2.out.on hbc); have S5 := qh (S2.out.call hbc); have lw2 := Q4.out.lt; have k1 := (Q5.out.cell 15).trans (show _ = some q.sd from rfl); have kf := Q5.out.free 15; have kl := Q5.out.lt; have B4 := qh hbc; have L4 := qh hLc; clear hR hS c2 hbc hLc)))
  have nS : w2.heap.size ≠ w.heap.size := by omega
  have nS1 : w2.heap.size ≠ w.heap.size + 1 := by omega
  have Q7 := qh (show Box (W4.setCell ⟨w.heap.size, 15, none⟩ (.slice (some ⟨w2.heap.size, 0, none⟩) (Sx.some' k o1).length cc)) w.heap.size 29 ({ q with m := { q.m with data := Sx.some' k o1 }, ad := some ⟨w2.heap.size, 0, none⟩, cd := cc } : Ms.S).cells from Q5.out.put 15 (.slice (some ⟨w2.heap.size, 0, none⟩) (Sx.some' k o1).length cc))
  have Q8 := qh (Q6.out.far (p := ⟨w.heap.size, 15, none⟩) (show w.heap.size + 1 ≠ w.heap.size by omega) (.slice (some ⟨w2.heap.size, 0, none⟩) (Sx.some' k o1).length cc))
  have R7 := qh (R5.out.set (show B ≠ w.heap.size by omega) 15 (.slice (some ⟨w2.heap.size, 0, none⟩) (Sx.some' k o1).length cc))
  have S7 := qh ((((Sol.refl B w).call KW.out).trans S5.out).fresh (p := ⟨w.heap.size, 15, none⟩) (Nat.le_refl _) (.slice (some ⟨w2.heap.size, 0, none⟩) (Sx.some' k o1).length cc))
  have L7 := qh (Lies.far1 (g := w.heap.size) (i := 15) L4.out nS (.slice (some ⟨w2.heap.size, 0, none⟩) (Sx.some' k o1).length cc))
  have z7 : (W4.setCell ⟨w.heap.size, 15, none⟩ (.slice (some ⟨w2.heap.size, 0, none⟩) (Sx.some' k o1).length cc)).heap.size = W4.heap.size := by simp
  have kS : w.heap.size ≤ w2.heap.size := by omega
  clear k1 kf kl hcv
  generalize W4.setCell ⟨w.heap.size, 15, none⟩ (.slice (some ⟨w2.heap.size, 0, none⟩) (Sx.some' k o1).length cc) = W7 at *
  go_wp2_with (first | ((with_reducible refine ms_load rfl rfl ?_); apply LoadMs.mk rfl (by with_reducible exact Q7.out) (ms_size _)) | ((with_reducible refine blk_gate (t := 29) rfl rfl msg_info16 ?_); apply StoreBlk.mk rfl rfl (by with_reducible exact Q8.out) (msg_one _) (ms_size _) Ms.zeroM_size))
  have HB := qh (Q8.out.row ({ q with m := { q.m with data := Sx.some' k o1 }, ad := some ⟨w2.heap.size, 0, none⟩, cd := cc } : Ms.S).cells)
  exact bodyPost_ret (results_cellW rfl _ _ (w.heap.size + 1) 29 _ _ rfl HB.out Try.underlying29 rfl msg_info16) rfl ⟨w2.heap.size, cc, ⟨rfl, R7.out.row (by omega) _, S7.out.freshRow (Nat.le_succ _) _⟩, kS, (Lies.row1 L7.out nS1 _).wider (by rw [← z7]; exact (Below.setRow' (g := w.heap.size + 1) (Below.refl 0 W7) (Nat.zero_le _) _).size)⟩
end Go.Proofs.Ytgmlbimgcifenaa
namespace Go.Proofs.Ytgmlbimgcifenaa
open Go.RowKit Go.Shelf
def KL (q : Ms.S) (X : World) : Prop := Ms.NL q ∨ ∃ S, q.al = some ⟨S, 0, none⟩ ∧ Box X S 53 (En.sCells q.m.log).toArray ∧ ∀ s ∈ q.m.log, s.e.evs = [] ∧ s.adr = none ∧ s.cap = 0
theorem KL.keep {q : Ms.S} {X X' : World} (h : KL q X) (hk : ∀ g t cs, Box X g t cs → t ≠ 29 → t ≠ 3 → Box X' g t cs) : KL q X' := by
  rcases h with h | ⟨S, h1, h3, h4⟩
  · exact .inl h
  · exact .inr ⟨S, h1, hk _ _ _ h3 (by decide) (by decide), h4⟩
structure Mk (w : World) (B : Nat) (q : Ms.S) (X : World) : Prop where
  box : Box X B 29 q.cells
  ri : RI q X
  rl : KL q X
  rd : RD q X
  kept : Below w.heap.size w X
  low : w.heap.size ≤ B
  lowl : ∀ S, q.al = some ⟨S, 0, none⟩ → w.heap.size ≤ S
theorem lies_kl {q : Ms.S} {X : World} (h : KL q X) : LiesS X X.heap.size q.al q.m.log.length q.m.log := by
  rcases h with ⟨a, b, c⟩ | ⟨S, a, c, d⟩
  · refine ⟨?_, ?_, ?_⟩
    · rw [c]; exact Lies.empty
    · intro s hs; rw [c] at hs; cases hs
    · intro s hs; rw [c] at hs; cases hs
  · refine ⟨by rw [a]; exact Lies.boxed c (by rw [En.sCells_len]), fun s hs => ?_, fun s hs => ?_⟩
    · rw [(d s hs).1]; exact Lies.empty
    · rw [(d s hs).1]; exact Nat.zero_le _
theorem Mk.lies {w X : World} {B : Nat} {q : Ms.S} (h : Mk w B q X) (l1 : q.m.ins.length ≤ 255) (l2 : q.m.log.length ≤ 255) (l3 : q.m.data.length ≤ 255) : LiesM X X.heap.size q := by
  refine ⟨?_, lies_kl h.rl, ?_, by unfold maxLen; omega, by unfold maxLen; omega, by unfold maxLen; omega⟩
  · rcases h.ri with ⟨a, b, c⟩ | ⟨S, a, b, c⟩
    · rw [c]; exact Lies.empty
    · rw [a]; exact Lies.boxed c (by rw [Gm.inCells_len])
  · rcases h.rd with ⟨a, b, c⟩ | ⟨S, a, b, c⟩
    · rw [c]; exact Lies.empty
    · rw [a]; exact Lies.boxed c (by rw [Im.u8s_len]; omega)
theorem Mk.call {w X X' : World} {B : Nat} {q : Ms.S} (h : Mk w B q X) (hb : Below X.heap.size X X') : Mk w B q X' :=
  ⟨h.box.below hb h.box.lt, h.ri.below hb, h.rl.keep fun g t cs k _ _ => k.below hb k.lt, h.rd.below hb, h.kept.trans (hb.mono h.kept.size), h.low, h.lowl⟩
theorem Mk.made {w X : World} {B : Nat} {q : Ms.S} (h : Mk w B q X) (o : Obj) : Mk w B q (X.alloc o) := h.call (one_below X o)
theorem Mk.cell {w X : World} {B j : Nat} {q q' : Ms.S} {v : Value} (h : Mk w B q X) (hc : q.cells.setIfInBounds j v = q'.cells) (h1 : RI q' X) (h2 : KL q' X) (h3 : RD q' X) (h4 : ∀ S, q'.al = some ⟨S, 0, none⟩ → w.heap.size ≤ S) : Mk w B q' (X.setCell ⟨B, j, none⟩ v) := by
  have hk : ∀ g t cs, Box X g t cs → t ≠ 29 → t ≠ 3 → Box (X.setCell ⟨B, j, none⟩ v) g t cs := fun g t cs hb ht _ => hb.far (p := ⟨B, j, none⟩) (Box.apart hb h.box ht) v
  have hb := h.box.put j v
  rw [hc] at hb
  exact ⟨hb, h1.keep hk, h2.keep hk, h3.keep hk, h.kept.setCell (p := ⟨B, j, none⟩) h.low v, h.low, h4⟩
theorem RI.copy {q q' : Ms.S} {X : World} (h : RI q X) (h1 : q'.ai = q.ai) (h2 : q'.ci = q.ci) (h3 : q'.m.ins = q.m.ins) : RI q' X := by
  rcases h with ⟨a, b, c⟩ | ⟨S, a, b, c⟩
  · exact .inl ⟨h1.trans a, h2.trans b, h3.trans c⟩
  · exact .inr ⟨S, h1.trans a, by rw [h2, h3]; exact b, by rw [h3]; exact c⟩
theorem KL.copy {q q' : Ms.S} {X : World} (h : KL q X) (h1 : q'.al = q.al) (h2 : q'.cl = q.cl) (h3 : q'.m.log = q.m.log) : KL q' X := by
  rcases h with ⟨a, b, c⟩ | ⟨S, a, c, d⟩
  · exact .inl ⟨h1.trans a, h2.trans b, h3.trans c⟩
  · exact .inr ⟨S, h1.trans a, by rw [h3]; exact c, by rw [h3]; exact d⟩
theorem RD.copy {q q' : Ms.S} {X : World} (h : RD q X) (h1 : q'.ad = q.ad) (h2 : q'.cd = q.cd) (h3 : q'.m.data = q.m.data) : RD q' X := by
  rcases h with ⟨a, b, c⟩ | ⟨S, a, b, c⟩
  · exact .inl ⟨h1.trans a, h2.trans b, h3.trans c⟩
  · exact .inr ⟨S, h1.trans a, by rw [h2, h3]; exact b, by rw [h3]; exact c⟩
theorem Mk.num {w X : World} {B : Nat} {q : Ms.S} (h : Mk w B q X) (j : Nat) (v : Value) (m' : Ms.M) (hc : q.cells.setIfInBounds j v = ({ q with m := m' } : Ms.S).cells) (hi : m'.ins = q.m.ins) (hl : m'.log = q.m.log) (hd : m'.data = q.m.data) : Mk w B { q with m := m' } (X.setCell ⟨B, j, none⟩ v) :=
  h.cell hc (h.ri.copy rfl rfl hi) (h.rl.copy rfl rfl hl) (h.rd.copy rfl rfl hd) h.lowl
theorem Mk.drew {w X : World} {B : Nat} {q : Ms.S} (h : Mk w B q X) : Mk w B q X.drew := h.call (one_below' X)
end Go.Proofs.Ytgmlbimgcifenaa
namespace Kd
open Go
def in0 : Gm.In := ⟨0, 0, 0⟩
def e0 (f : Int) : En.S := ⟨⟨f, [], En.in0⟩, none, 0⟩
def base (k : Int) : Ms.M := ⟨k, 0, 0, 0, 0, 0, if k = 2 ∨ k = 4 then 1 else 0, 0, 0, 0, if k = 7 then 1 else 0, 0, 0, if k = 4 then [in0] else [], if k = 5 then [e0 0] else [], if k = 7 then [1] else []⟩
def codes : List Int := [115, 103, 102, 99, 110, 111, 98, 109, 105, 108, 100]
def chg (p : Int) (m : Ms.M) : Ms.M :=
  if p = 115 then { m with slot := 3 } else if p = 103 then { m with gen := 2 } else if p = 102 then { m with frame := 4, log := m.log.map fun _ => e0 4 } else if p = 99 then { m with code := 5 }
  else if p = 110 then { m with n := 6, of := if 0 < m.of then 7 else m.of } else if p = 111 then { m with of := 9 } else if p = 98 then { m with bits := 10 } else if p = 109 then { m with sum := 11 }
  else if p = 105 then { m with ins := [⟨1, 0, 0⟩] } else if p = 108 then { m with log := [e0 m.frame] } else { m with data := [4, 5] }
theorem e0_ok (f : Int) (h : 0 ≤ f ∧ f < 1048576) : En.Ok (e0 f).e := ⟨h, show En.Row (-1) [] by decide, show ∀ i, i < 8 → En.inOk (En.in0 i) by decide +kernel⟩
theorem ok_of {m : Ms.M} (h1 : Ms.no1 m = false) (h2 : Ms.no2 m = false) (h3 : Ms.no3 m = false) (hi : m.ins = [] ∨ ∃ x, m.ins = [x] ∧ Ms.inB x = true) (hl : m.log = [] ∨ (m.log = [e0 m.frame] ∧ 0 ≤ m.frame ∧ m.frame < 1048576)) : Ms.Ok m := by
  refine ⟨h1, h2, h3, fun k hk => ?_, fun k hk => ?_⟩
  · rcases hi with hi | ⟨x, hi, hx⟩
    · rw [hi] at hk; exact absurd hk (Nat.not_lt_zero _)
    · have h0 : k = 0 := by rw [hi] at hk; simp at hk; exact hk
      subst h0
      have : m.ins[0] = x := by simp [hi]
      rw [this]; exact hx
  · rcases hl with hl | ⟨hl, hf⟩
    · rw [hl] at hk; exact absurd hk (Nat.not_lt_zero _)
    · have h0 : k = 0 := by rw [hl] at hk; simp at hk; exact hk
      subst h0
      have : m.log[0] = e0 m.frame := by simp [hl]
      rw [this]; exact ⟨e0_ok _ hf, by simp [e0]⟩
theorem kinds : ∀ k ∈ ([1, 2, 3, 4, 5, 6, 7, 8, 9, 10, 11, 12, 13, 14] : List Int), ∀ p ∈ codes, Ms.okB (chg p (base k)) = (Ms.has k).contains p := by
  intro k hk p hp
  simp only [codes, List.mem_cons, List.not_mem_nil, or_false] at hk hp
  rcases hk with rfl | rfl | rfl | rfl | rfl | rfl | rfl | rfl | rfl | rfl | rfl | rfl | rfl | rfl <;> rcases hp with rfl | rfl | rfl | rfl | rfl | rfl | rfl | rfl | rfl | rfl | rfl <;>
    first
      | exact (Ms.okB_no (fun h => absurd h.n1 (by decide))).symm
      | exact Ms.okB_iff.2 (ok_of (by decide) (by decide) (by decide) (by first | exact .inl rfl | exact .inr ⟨_, rfl, by decide⟩) (by first | exact .inl rfl | exact .inr ⟨rfl, by decide, by decide⟩))
end Kd
namespace Go.Proofs.Ytgmlbimgcifenaa
open Go.RowKit Go.Shelf
theorem mk_bytes (n : Nat) (h : n ≤ 1000) (W : World) : (Instr.makeSlice 27 (.int .i64 (n : Int)) (.int .i64 (n : Int))).run Try.prog W = .ok (.slice (some ⟨W.heap.size, 0, none⟩) n n) (W.alloc (.cells (madeCells (Value.int .u8 0).cells (n * 1)) 5)) := by
  obtain ⟨i0, hi0, hz0, hz1, hz2⟩ := u8_parts
  have := run_make (P := Try.prog) W 27 5 i0 _ Try.underlying27 hi0 hz0 .i64 .i64 n n (by omega) (Int.le_refl _) (by rw [hz2]; omega) (by omega)
  rw [this, hz1, Int.toNat_natCast]
theorem ms_built (k : Int) : Try.prog.built 29 [(0, .int .i64 k)] = some (Ms.S.cells ⟨Ms.start k 0 0 0 0, none, 0, none, 0, none, 0⟩) := by kernel_rfl
end Go.Proofs.Ytgmlbimgcifenaa
namespace Go.Proofs.Ytgmlbimgcifenaa
open Go.RowKit Go.Shelf
structure Gl (w : World) (B : Nat) (q : Ms.S) (X : World) : Prop where
  box : Box X B 29 q.cells
  own : X.ownsRow w.heap.size 53 26 (.slice q.al q.m.log.length q.cl) q.m.log.length (En.sCells q.m.log)
  kept : Below w.heap.size w X
  low : w.heap.size ≤ B
  bare : q.m.ins = [] ∧ q.m.data = []
  ents : ∀ s ∈ q.m.log, s.e.evs = [] ∧ s.adr = none ∧ s.cap = 0
theorem Gl.lies {w X : World} {B : Nat} {q : Ms.S} (h : Gl w B q X) (hl : q.m.log.length ≤ 1000) : LiesM X X.heap.size q := by
  refine ⟨?_, ⟨Lies.owned h.own, fun s hs => ?_, fun s hs => ?_⟩, ?_, by rw [h.bare.1]; exact Nat.zero_le _, by unfold maxLen; omega, by rw [h.bare.2]; exact Nat.zero_le _⟩
  · rw [h.bare.1]; exact Lies.empty
  · rw [(h.ents s hs).1]; exact Lies.empty
  · rw [(h.ents s hs).1]; exact Nat.zero_le _
  · rw [h.bare.2]; exact Lies.empty
theorem Gl.call {w X X' : World} {B : Nat} {q : Ms.S} (h : Gl w B q X) (hb : Below X.heap.size X X') : Gl w B q X' :=
  ⟨h.box.below hb h.box.lt, own_below h.own hb (Nat.le_refl _), h.kept.trans (hb.mono h.kept.size), h.low, h.bare, h.ents⟩
theorem Gl.step {w X w7 : World} {B c7 : Nat} {A7 : Option Addr} {q : Ms.S} {s : En.S} {o : Obj} (h : Gl w B q X) (hs : s.e.evs = [] ∧ s.adr = none ∧ s.cap = 0)
    (own7 : w7.ownsRow w.heap.size 53 26 (.slice A7 (q.m.log.length + 1) c7) (q.m.log.length + 1) (En.sCells q.m.log ++ En.S.cells s)) (hg : (X.alloc o).grownBy w7 (Value.slice q.al q.m.log.length q.cl).ownBlock) :
    Gl w B { q with m := { q.m with log := q.m.log ++ [s] }, al := A7, cl := c7 } (w7.setCell ⟨B, 14, none⟩ (.slice A7 (q.m.log.length + 1) c7)) := by
  have hb := grown_box h.box h.own (by decide) hg
  have e1 : (q.m.log ++ [s]).length = q.m.log.length + 1 := by rw [List.length_append]; rfl
  have e2 : En.sCells (q.m.log ++ [s]) = En.sCells q.m.log ++ En.S.cells s := by unfold En.sCells; rw [List.flatMap_append, List.flatMap_cons, List.flatMap_nil, List.append_nil]
  refine ⟨?_, ?_, (below_gone (h.kept.alloc h.kept.size _) hg (own_at h.own) (Nat.le_refl _)).setCell (p := ⟨B, 14, none⟩) h.low _, h.low, h.bare, ?_⟩
  · have k := hb.put 14 (.slice A7 (q.m.log.length + 1) c7)
    have e : q.cells.setIfInBounds 14 (.slice A7 (q.m.log.length + 1) c7) = ({ q with m := { q.m with log := q.m.log ++ [s] }, al := A7, cl := c7 } : Ms.S).cells := by
      unfold Ms.S.cells Ms.cells Ms.S.sl
      dsimp only
      rw [e1]
      rfl
    rw [e] at k
    exact k
  · dsimp only
    rw [e1, e2]
    exact ownsRow_setCell_other (a := ⟨B, 14, none⟩) own7 (hb.unowned own7 (by decide)) _
  · intro x hx
    rcases List.mem_append.1 hx with hx | hx
    · exact h.ents x hx
    · obtain rfl := List.mem_singleton.1 hx; exact hs
end Go.Proofs.Ytgmlbimgcifenaa
namespace Go.Proofs.Ytgmlbimgcifenaa
open Go.RowKit Go.Shelf
def SaysB (w : World) (e : Ending) (w' : World) : Prop := ∃ b : Bool, e = .returned (.bool b) ∧ Below w.heap.size w w'
theorem few12_any (q : Ms.S) (w : World) (hL : LiesM w w.heap.size q) :
    Calls Try.prog 11 #[.agg q.cells] w (SaysB w) := by
  have K1 := qh (one_below w (.cells q.cells 29))
  have B1 := qh (Box.made w 29 q.cells)
  have r13 : q.cells[13]? = some (.slice q.ai q.m.ins.length q.ci) := rfl
  have r14 : q.cells[14]? = some (.slice q.al q.m.log.length q.cl) := rfl
  have r15 : q.cells[15]? = some (.slice q.ad q.m.data.length q.cd) := rfl
  have k13 := (B1.out.cell 13).trans r13
  have k14 := (B1.out.cell 14).trans r14
  have k15 := (B1.out.cell 15).trans r15
  obtain ⟨ni, hni⟩ : ∃ n, n = q.m.ins.length := ⟨_, rfl⟩
  obtain ⟨n, hn⟩ : ∃ n, n = q.m.log.length := ⟨_, rfl⟩
  obtain ⟨nd, hnd⟩ : ∃ n, n = q.m.data.length := ⟨_, rfl⟩
  have hlog := hL.log
  have fl := hL.fl
  rw [← hni] at k13
  rw [← hn] at k14 r14 hlog fl
  rw [← hnd] at k15
  unfold maxLen at fl
  have HLX := qh hlog
  have HN := qh hn
  have R14 := qh r14
  have l1 : w.heap.size < w.heap.size + 1 := Nat.lt_succ_self _
  clear hlog hn hni hnd r13 r14 r15 hL
  go_enter Try.func11, Try.ntmps11
  by_cases h1 : 20 < ni
  · have i1 : 20 < (ni : Int) := by omega
    go_wp2
    go_ret
    exact ⟨_, rfl, K1.out⟩
  · have i1 : ¬ 20 < (ni : Int) := by omega
    by_cases h2 : 20 < n
    · have i2 : 20 < (n : Int) := by omega
      go_wp2
      go_ret
      exact ⟨_, rfl, K1.out⟩
    · have i2 : ¬ 20 < (n : Int) := by omega
      by_cases h3 : 100 < nd
      · have i3 : 100 < (nd : Int) := by omega
        go_wp2
        go_ret
        exact ⟨_, rfl, K1.out⟩
      · have i3 : ¬ 100 < (nd : Int) := by omega
        go_wp2
        go_loopw [3] (fun i wr => ∃ k : Nat, k ≤ n ∧ i = .int .i64 k ∧ Box wr w.heap.size 29 q.cells ∧ Below w.heap.size w wr) (fun i _ => n - (intOf i).toNat)
        case atStart => exact ⟨0, by omega, rfl, B1.out, K1.out⟩
        case round =>
          obtain ⟨k, hk, rfl, hB, hb⟩ := hrel
          have j14 := (hB.cell 14).trans R14.out
          have lB := hB.lt
          by_cases hlt : k < n
          · have hk8 : (k : Int) < n := by omega
            have hkl : k < q.m.log.length := by have := HN.out; omega
            obtain ⟨ad, hA, hbl, hcell⟩ := (HLX.out.below hb).at k hkl
            obtain ⟨p, hp⟩ : ∃ p, p = q.m.log[k] := ⟨_, rfl⟩
            rw [← hp] at hcell
            have hlen : p.cells.length = 26 := En.S.cells_len p
            have cf := fun X => qh (enfew_any p.e p.adr p.e.evs.length p.cap X)
            rw [show Value.slice p.adr p.e.evs.length p.cap = p.sl from rfl] at cf
            obtain ⟨z, hz⟩ : ∃ z, z = En.cells p.e p.sl := ⟨_, rfl⟩
            have hqz : p.cells.toArray = z := by rw [hz]; exact En.S.cells_arr p
            have HB := qh hB
            have HK := qh hb
            rw [← hz] at cf
            rw [hA] at j14
            generalize decide ((p.e.evs.length : Int) ≤ 20) = fb at cf
            clear hz hp hB hb hA
            cases fb
            · go_wp2_with (first | ((with_reducible refine load_at_gate rfl rfl Try.underlying53 rfl en_info ?_); apply LoadAt.mk rfl hcell hlen; rw [hqz]) | (go_at_call 25; ((with_reducible refine ((cf _).out).mono ?_); rintro r w3 ⟨rfl, hb3⟩; have K3 := qh (HK.out.trans (hb3.mono HK.out.size)); have B3 := qh (HB.out.below hb3 HB.out.lt); clear hb3)))
              go_ret
              exact ⟨_, rfl, K3.out⟩
            · go_wp2_with (first | ((with_reducible refine load_at_gate rfl rfl Try.underlying53 rfl en_info ?_); apply LoadAt.mk rfl hcell hlen; rw [hqz]) | (go_at_call 25; ((with_reducible refine ((cf _).out).mono ?_); rintro r w3 ⟨rfl, hb3⟩; have K3 := qh (HK.out.trans (hb3.mono HK.out.size)); have B3 := qh (HB.out.below hb3 HB.out.lt); clear hb3)))
              go_roundw
              case rel => exact ⟨k + 1, by omega, by go_num, B3.out, K3.out⟩
              case measure => simp [intOf]; omega
          · have hk8 : ¬ (k : Int) < n := by omega
            go_wp2
            go_ret
            exact ⟨_, rfl, hb⟩
end Go.Proofs.Ytgmlbimgcifenaa
namespace Go.Proofs.Ytgmlbimgcifenaa
open Go.RowKit Go.Shelf
theorem LiesM.on {w w' : World} {q : Ms.S} (h : LiesM w w.heap.size q) (hb : Below w.heap.size w w') : LiesM w' w'.heap.size q := (h.to hb).wide hb.size
theorem Lies.on {w w' : World} {size n : Nat} {A : Option Addr} {xs : List Value} (h : Lies w w.heap.size size A n xs) (hb : Below w.heap.size w w') : Lies w' w'.heap.size size A n xs := (h.below hb).wider hb.size
end Go.Proofs.Ytgmlbimgcifenaa
namespace Bb
open Go Kd
def logOf (f : Int) (n : Nat) : List En.S := (List.range n).map fun i : Nat => e0 (f + (i : Int))
theorem logOf_next (f : Int) (n : Nat) : logOf f (n + 1) = logOf f n ++ [e0 (f + (n : Int))] := by unfold logOf; rw [List.range_succ, List.map_append]; rfl
theorem logOf_len (f : Int) (n : Nat) : (logOf f n).length = n := by unfold logOf; rw [List.length_map, List.length_range]
def m0 : Ms.M := ⟨2, 11, 0, 0, 0, 7, 60000, 1048576, 0, 0, 0, 0, 0, [], [], []⟩
def cs : List Int := [0, 1, 2, 3, 4, 5, 6, 7, 8, 9]
theorem log_ok {f : Int} {n : Nat} (hf : 0 ≤ f ∧ f + n < 1048576) : ∀ k (h : k < (logOf f n).length), En.Ok (logOf f n)[k].e ∧ (logOf f n)[k].e.frame = f + k := fun k h => by
  have hk : k < n := by rw [logOf_len] at h; exact h
  have e : (logOf f n)[k] = e0 (f + (k : Int)) := by
    have e1 : (logOf f n)[k]? = some (e0 (f + (k : Int))) := by unfold logOf; rw [List.getElem?_map, List.getElem?_range hk]; rfl
    exact Option.some.inj ((List.getElem?_eq_getElem h).symm.trans e1)
  rw [e]
  exact ⟨e0_ok _ (by omega), rfl⟩
end Bb
namespace Go.Proofs.Ytgmlbimgcifenaa
open Go.RowKit Go.Shelf
def MadeAs (w : World) (m : Ms.M) (X : World) : Prop := ∃ q : Ms.S, q.m = m ∧ Box X w.heap.size 29 q.cells ∧ LiesM X X.heap.size q ∧ Below w.heap.size w X
theorem Mk.as {w X : World} {q : Ms.S} (h : Mk w w.heap.size q X) {m : Ms.M} (hm : q.m = m) (l1 : q.m.ins.length ≤ 255) (l2 : q.m.log.length ≤ 255) (l3 : q.m.data.length ≤ 255) : MadeAs w m X := ⟨q, hm, h.box, h.lies l1 l2 l3, h.kept⟩
theorem Mk.row {w X : World} {B : Nat} {q q' : Ms.S} (h : Mk w B q X) (h1 : RI q' X) (h2 : KL q' X) (h3 : RD q' X) (h4 : ∀ S, q'.al = some ⟨S, 0, none⟩ → w.heap.size ≤ S) : Mk w B q' (X.setRow B q'.cells) := by
  have hk : ∀ g t cs, Box X g t cs → t ≠ 29 → t ≠ 3 → Box (X.setRow B q'.cells) g t cs := fun g t cs hb ht _ => hb.row_far (Box.apart hb h.box ht) _
  exact ⟨h.box.row _, h1.keep hk, h2.keep hk, h3.keep hk, Below.setRow' (g := B) h.kept h.low _, h.low, h4⟩
theorem m64 (W : World) : (Instr.makeSlice 27 (.int .i64 64) (.int .i64 64)).run Try.prog W = .ok (.slice (some ⟨W.heap.size, 0, none⟩) 64 64) (W.alloc (.cells (Im.u8s (List.replicate 64 0)).toArray 5)) := by
  have h := mk_bytes 64 (by decide) W
  rw [show madeCells (Value.int .u8 0).cells (64 * 1) = (Im.u8s (List.replicate 64 0)).toArray from by kernel_rfl] at h
  exact h
end Go.Proofs.Ytgmlbimgcifenaa
namespace Go.Proofs.Ytgmlbimgcifenaa
open Go Go.RowKit Go.Shelf
def dropA (A : Option Addr) (cap k : Nat) : Option Addr := if cap - k = 0 then A else A.map fun x => x.add (k * 26)
theorem LiesS.drop {w : World} {B n c : Nat} {A : Option Addr} {l : List En.S} (h : LiesS w B A n l) (k : Nat) (hk : k ≤ n) (hc : n ≤ c) : LiesS w B (dropA A c k) (n - k) (l.drop k) := by
  have hn := h.len
  refine ⟨⟨by rw [En.sCells_len, List.length_drop, hn], fun h0 => ?_, fun ad e h0 j u hu => ?_⟩, fun q hq => h.each q (List.mem_of_mem_drop hq), fun q hq => h.few q (List.mem_of_mem_drop hq)⟩
  · obtain ⟨ad, e, hb⟩ := h.row.start (by omega)
    refine ⟨ad.add (k * 26), by unfold dropA; rw [if_neg (by omega), e]; rfl, by rw [add_block]; exact hb⟩
  · obtain ⟨ad0, e0, hb⟩ := h.row.start (by omega)
    have e1 : ad = ad0.add (k * 26) := by
      unfold dropA at e
      rw [if_neg (by omega), e0] at e
      exact (Option.some.inj e).symm
    have hj : j < (n - k) * 26 := by have := (List.getElem?_eq_some_iff.1 hu).1; rw [En.sCells_len, List.length_drop] at this; omega
    rw [e1, add_twice]
    refine h.row.cell ad0 e0 (by omega) _ u ?_
    have h1 := En.sCells_at (l.drop k) (j / 26) (j % 26) (by rw [List.length_drop]; omega) (by omega)
    have h2 := En.sCells_at l (k + j / 26) (j % 26) (by omega) (by omega)
    rw [show j / 26 * 26 + j % 26 = j by omega, hu] at h1
    rw [show (k + j / 26) * 26 + j % 26 = k * 26 + j by omega] at h2
    rw [h2, h1, List.getElem_drop]
end Go.Proofs.Ytgmlbimgcifenaa