/-
Several texts in one: Zv.
-/
import Derived.Test.YtgmlbimgcifenaaVp11
namespace Ms
open Go
noncomputable def sameW (m n : M) : Bool := ((((((((((((((((m.kind == n.kind) && (m.frm == n.frm)) && (m.serial == n.serial)) && (m.ack == n.ack)) && (m.seen == n.seen)) && (m.slot == n.slot)) && (m.gen == n.gen)) && (m.frame == n.frame)) && (m.code == n.code)) && (m.n == n.n)) && (m.of == n.of)) && (m.bits == n.bits)) && (m.sum == n.sum)) && (decide (m.ins = n.ins))) && (En.eqB m.log n.log)) && (decide (m.data = n.data)))
theorem sameW_is (m n : M) : sameW m n = sameB m n := by
  have hL : En.eqB m.log n.log = true ↔ m.log.length = n.log.length ∧ ∀ j (h : j < m.log.length) (h' : j < n.log.length), En.Like m.log[j].e n.log[j].e := by
    constructor
    · intro h
      by_cases hh : m.log.length = n.log.length ∧ ∀ j (h : j < m.log.length) (h' : j < n.log.length), En.Like m.log[j].e n.log[j].e
      · exact hh
      · rw [En.eqB_no hh] at h; cases h
    · exact En.eqB_yes
  have hF : En.frontB m.log n.log = true ↔ m.log.length ≤ n.log.length ∧ ∀ j (h : j < m.log.length) (h' : j < n.log.length), En.Like m.log[j].e n.log[j].e := by
    constructor
    · intro h
      by_cases hh : m.log.length ≤ n.log.length ∧ ∀ j (h : j < m.log.length) (h' : j < n.log.length), En.Like m.log[j].e n.log[j].e
      · exact hh
      · rw [En.frontB_no hh] at h; cases h
    · exact En.frontB_yes
  rw [Bool.eq_iff_iff, sameB_iff]
  unfold sameW
  simp only [Bool.and_eq_true, beq_iff_eq, decide_eq_true_eq, hL]
  constructor
  · rintro ⟨⟨⟨⟨⟨⟨⟨⟨⟨⟨⟨⟨⟨⟨⟨h1, h2⟩, h3⟩, h4⟩, h5⟩, h6⟩, h7⟩, h8⟩, h9⟩, h10⟩, h11⟩, h12⟩, h13⟩, h14⟩, h15⟩, h16⟩
    refine ⟨?_, fun k h h' => by simp only [h14], hF.2 ⟨by omega, h15.2⟩⟩
    unfold differ
    simp [h1, h2, h3, h4, h5, h6, h7, h8, h9, h10, h11, h12, h13, h14, h15.1, h16]
  · rintro ⟨hd, hi, hl⟩
    unfold differ at hd
    simp only [Bool.or_eq_false_iff, bne_eq_false_iff_eq, Bool.not_eq_eq_eq_not, Bool.not_false, decide_eq_true_eq] at hd
    obtain ⟨⟨⟨⟨⟨⟨⟨⟨⟨⟨⟨⟨⟨⟨⟨h1, h2⟩, h3⟩, h4⟩, h5⟩, h6⟩, h7⟩, h8⟩, h9⟩, h10⟩, h11⟩, h12⟩, h13⟩, hdt⟩, hil⟩, hll⟩ := hd
    have hll' : m.log.length = n.log.length := by omega
    have hil' : m.ins.length = n.ins.length := by omega
    exact ⟨⟨⟨⟨⟨⟨⟨⟨⟨⟨⟨⟨⟨⟨⟨h1, h2⟩, h3⟩, h4⟩, h5⟩, h6⟩, h7⟩, h8⟩, h9⟩, h10⟩, h11⟩, h12⟩, h13⟩, List.ext_getElem hil' fun k h h' => hi k h h'⟩, ⟨hll', (hF.1 hl).2⟩⟩, hdt⟩
end Ms
namespace Go.Proofs.Ytgmlbimgcifenaa
open Go.RowKit Go.Shelf
set_option linter.unusedVariables false
set_option linter.unusedSimpArgs false

theorem in_neqv (a b c e f g : Int) (w : World) : (binOp .neq 50 (.agg #[.int .i8 a, .int .i8 b, .int .u8 c]) (.agg #[.int .i8 e, .int .i8 f, .int .u8 g])).run Try.prog w = .ok (.bool (!decide (a = e ∧ b = f ∧ c = g))) w := by
  have hh : (Op.equalIn 10000 50 (.agg #[.int .i8 a, .int .i8 b, .int .u8 c]) (.agg #[.int .i8 e, .int .i8 f, .int .u8 g])).run Try.prog w = .ok (decide (a = e ∧ b = f ∧ c = g)) w := by
    by_cases h1 : a = e
    · by_cases h2 : b = f
      · by_cases h3 : c = g
        · subst h1 h2 h3; go_simp <;> simp
        · have h5 : (c == g) = false := by simpa using h3
          subst h1 h2; go_simp <;> simp [h5, h3]
      · have h5 : (b == f) = false := by simpa using h2
        subst h1; go_simp <;> simp [h5, h2]
    · have h5 : (a == e) = false := by simpa using h1
      go_simp <;> simp [h5, h1]
  generalize #[Value.int .i8 a, .int .i8 b, .int .u8 c] = F at *
  generalize #[Value.int .i8 e, .int .i8 f, .int .u8 g] = G at *
  go_simp

set_option maxRecDepth 100000 in
set_option maxHeartbeats 4000000 in
theorem inseq_any (l m : List Gm.In) (A B : Option Addr) (n n' c d : Nat) (w : World) (hn : n = l.length) (hm : n' = m.length) (n64 : n ≤ maxLen) (m64 : n' ≤ maxLen) (hr : Lies w w.heap.size 3 A n (Gm.inCells l)) (hq : Lies w w.heap.size 3 B n' (Gm.inCells m)) :
    Calls Try.prog 47 #[.slice A n c, .slice B n' d] w fun e w' => e = .returned (.bool (decide (l = m))) ∧ Below w.heap.size w w' := by
  obtain ⟨r, hr0⟩ : ∃ r, r = decide (l = m) := ⟨_, rfl⟩
  rw [← hr0]
  have HR := Lib.hid hr0
  have n63 : (n : Int) ≤ 9223372036854775807 := by unfold maxLen at n64; omega
  have m63 : (n' : Int) ≤ 9223372036854775807 := by unfold maxLen at m64; omega
  clear hr0 n64 m64
  by_cases hnn : n = n'
  · subst hnn
    have HN := Lib.hid hn
    have HM := Lib.hid hm
    clear hn hm
    go_enter Try.func47, Try.ntmps47
    go_wp2
    go_loopw [13] (fun i wr => ∃ k : Nat, k ≤ n ∧ i = .int .i64 k ∧ Below w.heap.size w wr ∧ ∀ j, j < k → l[j]? = m[j]?) (fun i _ => n - (intOf i).toNat)
    case atStart => exact ⟨0, by omega, rfl, Below.refl _ _, fun j hj => absurd hj (Nat.not_lt_zero j)⟩
    case round =>
      obtain ⟨k, hk, rfl, hb, hall⟩ := hrel
      by_cases hlt : k < n
      · have hk8 : (k : Int) < n := by omega
        have hkl : k < l.length := by have := HN.out; omega
        have hkm : k < m.length := by have := HM.out; omega
        obtain ⟨ad, rfl, hbl, a0, a1, a2⟩ := in_at3 (hr.below hb) HN.out k hkl
        obtain ⟨bd, rfl, hbm, c0, c1, c2⟩ := in_at3 (hq.below hb) HM.out k hkm
        have hlk : l[k]? = some l[k] := List.getElem?_eq_getElem hkl
        have hmk : m[k]? = some m[k] := List.getElem?_eq_getElem hkm
        generalize l[k] = u at a0 a1 a2 hlk
        generalize m[k] = v at c0 c1 c2 hmk
        obtain ⟨u0, u1, u2⟩ := u
        obtain ⟨v0, v1, v2⟩ := v
        dsimp only at a0 a1 a2 c0 c1 c2
        have hneq := fun W => in_neqv u0 u1 u2 v0 v1 v2 W
        have HB := Lib.hid hb
        have HALL := Lib.hid hall
        have HLK := Lib.hid hlk
        have HMK := Lib.hid hmk
        clear hr hq hb hall hlk hmk
        by_cases he : u0 = v0 ∧ u1 = v1 ∧ u2 = v2
        · rw [decide_eq_true he] at hneq
          have hnew := Lib.hid (show ∀ j, j < k + 1 → l[j]? = m[j]? from fun j hj => by
            by_cases e : j = k
            · rw [e, HLK.out, HMK.out, he.1, he.2.1, he.2.2]
            · exact HALL.out j (by omega))
          clear he
          go_upto_region 6 with fail
          go_quiet (fail)
          go_wp2
          go_roundw
          case rel => exact ⟨k + 1, by omega, by go_num, draws_below HB.out _, hnew.out⟩
          case measure => simp [intOf]; omega
        · rw [decide_eq_false he] at hneq
          have hno := Lib.hid (show ¬ l = m from fun h => he (by
            have h1 := HLK.out
            rw [h, HMK.out] at h1
            injection h1 with h1
            injection h1 with h1 h2 h3
            exact ⟨h1.symm, h2.symm, h3.symm⟩))
          clear he
          go_upto_region 6 with fail
          go_quiet (fail)
          go_wp2
          go_ret
          exact ⟨ret_bool (by rw [HR.out]; exact (decide_eq_false hno.out).symm), draws_below HB.out _⟩
      · have hk8 : ¬ (k : Int) < n := by omega
        have hyes := Lib.hid (show l = m from List.ext_getElem? fun i => by
          by_cases hi : i < k
          · exact hall i hi
          · rw [List.getElem?_eq_none (by have := HN.out; omega), List.getElem?_eq_none (by have := HM.out; omega)])
        have HB := Lib.hid hb
        clear hr hq hb hall
        go_wp2
        go_ret
        exact ⟨ret_bool (by rw [HR.out]; exact (decide_eq_true hyes.out).symm), HB.out⟩
  · have hne : ((n : Int) != n') = true := by simp; omega
    have hno := Lib.hid (show ¬ l = m from fun h => hnn (by rw [hn, hm, h]))
    clear hr hq hn hm hnn
    go_enter Try.func47, Try.ntmps47
    go_wp2
    go_ret
    exact ⟨ret_bool (by rw [HR.out]; exact (decide_eq_false hno.out).symm), Below.refl _ _⟩


theorem byteseq_any (l m : List Int) (A B : Option Addr) (c d : Nat) (w : World) (hl : Im.IsBytes l) (hm : Im.IsBytes m) (hL : Lies w w.heap.size 1 A l.length (Im.u8s l)) (hM : Lies w w.heap.size 1 B m.length (Im.u8s m)) :
    Calls Try.prog 50 #[.slice A l.length c, .slice B m.length d] w fun e w' => e = .returned (.bool (decide (l = m))) ∧ Below w.heap.size w w' := by
  have k1 := conv_bytes l l.length A c w w.heap.size rfl hL
  have k2 := conv_bytes m m.length B d w w.heap.size rfl hM
  obtain ⟨r, hr⟩ : ∃ r, r = decide (l = m) := ⟨_, rfl⟩
  rw [← hr]
  have h := Sx.str_eq_iff hl hm
  rw [← hr] at h
  have HR := Lib.hid hr
  generalize strOfNums l = s at *
  generalize strOfNums m = t at *
  generalize l.length = n at *
  generalize m.length = n' at *
  have HH := Lib.hid h
  clear hr h hL hM
  go_enter Try.func50, Try.ntmps50
  go_wp2
  go_ret
  exact ⟨ret_bool (by rw [← HH.out]), Below.refl _ _⟩

set_option maxRecDepth 100000 in
set_option maxHeartbeats 1000000 in
theorem wsame_any (p q : Ms.S) (w : World) (hTp : Ms.Ty p.m) (hTq : Ms.Ty q.m) (hP : LiesM w w.heap.size p) (hQ : LiesM w w.heap.size q) :
    Calls Try.prog 22 #[.agg p.cells, .agg q.cells] w fun e w' => e = .returned (.bool (Ms.sameB p.m q.m)) ∧ Below w.heap.size w w' := by
  have TP := Lib.hid hTp
  have TQ := Lib.hid hTq
  have LP := Lib.hid hP
  have LQ := Lib.hid hQ
  have KB := Lib.hid ((one_below w (.cells p.cells 29)).alloc (one_below w (.cells p.cells 29)).size (.cells q.cells 29))
  have BX := Lib.hid ((Box.made w 29 p.cells).alloc (.cells q.cells 29))
  have BY := Lib.hid (Box.made (w.alloc (.cells p.cells 29)) 29 q.cells)
  clear hTp hTq hP hQ
  go_enter Try.func22, Try.ntmps22
  go_upto_region 1 with fail
  generalize hW : (w.alloc (.cells p.cells 29)).alloc (.cells q.cells 29) = W0 at *
  generalize hB2 : (w.alloc (.cells p.cells 29)).heap.size = B at *
  obtain ⟨A, hA⟩ : ∃ A, A = w.heap.size := ⟨_, rfl⟩
  rw [← hA] at BX
  refine Slim.forget 115 rfl rfl fun a0 S D hf => ?_
  have H2 : Slim.Has a0 2 true (.pointer (some ⟨A, 0, none⟩)) := by rw [hA]; exact hf 2 _ rfl
  have H3 : Slim.Has a0 3 true (.pointer (some ⟨B, 0, none⟩)) := hf 3 _ (by rw [← hB2]; simp; first | done | rfl)
  clear hf hW hB2 hA
  refine wp_region_lit ?_
  refine Slim.val_g (t := 5) (c := true) (v := .pointer (some ⟨A, 0, none⟩)) rfl (by rw [S]; decide) (Slim.wants_all rfl) (Slim.field_g rfl H2 (fun h => h) (by go_simp; first | done | rfl)) fun a1 o => ?_
  replace S := o.size.trans S; replace D := o.defers.trans D
  replace H2 := Slim.stays o H2 (by decide)
  replace H3 := Slim.stays o H3 (by decide)
  have H5 : Slim.Has a1 5 true (.pointer (some ⟨A, 0, none⟩)) := o.here
  clear o
  refine Slim.val_g (t := 6) (c := true) (v := .int .i64 p.m.kind) rfl (by rw [S]; decide) (Slim.wants_all rfl) (Slim.load_g rfl H5 (fun h => h) (by have k := BX.out.cell 0; go_simp; first | done | rfl)) fun a2 o => ?_
  replace S := o.size.trans S; replace D := o.defers.trans D
  replace H2 := Slim.stays o H2 (by decide)
  replace H3 := Slim.stays o H3 (by decide)
  have H6 : Slim.Has a2 6 true (.int .i64 p.m.kind) := o.here
  clear H5
  clear o
  refine Slim.val_g (t := 7) (c := true) (v := .pointer (some ⟨B, 0, none⟩)) rfl (by rw [S]; decide) (Slim.wants_all rfl) (Slim.field_g rfl H3 (fun h => h) (by go_simp; first | done | rfl)) fun a3 o => ?_
  replace S := o.size.trans S; replace D := o.defers.trans D
  replace H2 := Slim.stays o H2 (by decide)
  replace H3 := Slim.stays o H3 (by decide)
  replace H6 := Slim.stays o H6 (by decide)
  have H7 : Slim.Has a3 7 true (.pointer (some ⟨B, 0, none⟩)) := o.here
  clear o
  refine Slim.val_g (t := 8) (c := true) (v := .int .i64 q.m.kind) rfl (by rw [S]; decide) (Slim.wants_all rfl) (Slim.load_g rfl H7 (fun h => h) (by have k := BY.out.cell 0; go_simp; first | done | rfl)) fun a4 o => ?_
  replace S := o.size.trans S; replace D := o.defers.trans D
  replace H2 := Slim.stays o H2 (by decide)
  replace H3 := Slim.stays o H3 (by decide)
  replace H6 := Slim.stays o H6 (by decide)
  have H8 : Slim.Has a4 8 true (.int .i64 q.m.kind) := o.here
  clear H7
  clear o
  refine Slim.val_g (t := 9) (c := true) (v := .bool (p.m.kind == q.m.kind)) rfl (by rw [S]; decide) (Slim.wants_all rfl) (Slim.bin2_g rfl H6 H8 (fun h => h) (fun h => h) (fun _ _ => Slim.cmp_eql)) fun a5 o => ?_
  replace S := o.size.trans S; replace D := o.defers.trans D
  replace H2 := Slim.stays o H2 (by decide)
  replace H3 := Slim.stays o H3 (by decide)
  have H9 : Slim.Has a5 9 true (.bool (p.m.kind == q.m.kind)) := o.here
  clear H6
  clear H8
  clear o
  refine Slim.val_g (t := 10) (c := true) (v := .bool (p.m.kind == q.m.kind)) rfl (by rw [S]; decide) (Slim.wants_all rfl) (Slim.move_g rfl H9 (fun h => h)) fun a6 o => ?_
  replace S := o.size.trans S; replace D := o.defers.trans D
  replace H2 := Slim.stays o H2 (by decide)
  replace H3 := Slim.stays o H3 (by decide)
  have H10 : Slim.Has a6 10 true (.bool (p.m.kind == q.m.kind)) := o.here
  clear H9
  clear o
  refine Slim.val_g (t := 11) (c := (true && ((p.m.kind == q.m.kind) == true))) (v := .pointer (some ⟨A, 1, none⟩)) rfl (by rw [S]; decide) (Slim.wanted_g rfl rfl H10) (Slim.field_g rfl H2 (fun _ => rfl) (by go_simp; first | done | rfl)) fun a7 o => ?_
  replace S := o.size.trans S; replace D := o.defers.trans D
  replace H2 := Slim.stays o H2 (by decide)
  replace H3 := Slim.stays o H3 (by decide)
  replace H10 := Slim.stays o H10 (by decide)
  have H11 : Slim.Has a7 11 (true && ((p.m.kind == q.m.kind) == true)) (.pointer (some ⟨A, 1, none⟩)) := o.here
  clear o
  refine Slim.val_g (t := 12) (c := (true && ((p.m.kind == q.m.kind) == true))) (v := .int .i64 p.m.frm) rfl (by rw [S]; decide) (Slim.wanted_g rfl rfl H10) (Slim.load_g rfl H11 (fun h => h) (by have k := BX.out.cell 1; go_simp; first | done | rfl)) fun a8 o => ?_
  replace S := o.size.trans S; replace D := o.defers.trans D
  replace H2 := Slim.stays o H2 (by decide)
  replace H3 := Slim.stays o H3 (by decide)
  replace H10 := Slim.stays o H10 (by decide)
  have H12 : Slim.Has a8 12 (true && ((p.m.kind == q.m.kind) == true)) (.int .i64 p.m.frm) := o.here
  clear H11
  clear o
  refine Slim.val_g (t := 13) (c := (true && ((p.m.kind == q.m.kind) == true))) (v := .pointer (some ⟨B, 1, none⟩)) rfl (by rw [S]; decide) (Slim.wanted_g rfl rfl H10) (Slim.field_g rfl H3 (fun _ => rfl) (by go_simp; first | done | rfl)) fun a9 o => ?_
  replace S := o.size.trans S; replace D := o.defers.trans D
  replace H2 := Slim.stays o H2 (by decide)
  replace H3 := Slim.stays o H3 (by decide)
  replace H10 := Slim.stays o H10 (by decide)
  replace H12 := Slim.stays o H12 (by decide)
  have H13 : Slim.Has a9 13 (true && ((p.m.kind == q.m.kind) == true)) (.pointer (some ⟨B, 1, none⟩)) := o.here
  clear o
  refine Slim.val_g (t := 14) (c := (true && ((p.m.kind == q.m.kind) == true))) (v := .int .i64 q.m.frm) rfl (by rw [S]; decide) (Slim.wanted_g rfl rfl H10) (Slim.load_g rfl H13 (fun h => h) (by have k := BY.out.cell 1; go_simp; first | done | rfl)) fun a10 o => ?_
  replace S := o.size.trans S; replace D := o.defers.trans D
  replace H2 := Slim.stays o H2 (by decide)
  replace H3 := Slim.stays o H3 (by decide)
  replace H10 := Slim.stays o H10 (by decide)
  replace H12 := Slim.stays o H12 (by decide)
  have H14 : Slim.Has a10 14 (true && ((p.m.kind == q.m.kind) == true)) (.int .i64 q.m.frm) := o.here
  clear H13
  clear o
  refine Slim.val_g (t := 15) (c := (true && ((p.m.kind == q.m.kind) == true))) (v := .bool (p.m.frm == q.m.frm)) rfl (by rw [S]; decide) (Slim.wanted_g rfl rfl H10) (Slim.bin2_g rfl H12 H14 (fun h => h) (fun h => h) (fun _ _ => Slim.cmp_eql)) fun a11 o => ?_
  replace S := o.size.trans S; replace D := o.defers.trans D
  replace H2 := Slim.stays o H2 (by decide)
  replace H3 := Slim.stays o H3 (by decide)
  replace H10 := Slim.stays o H10 (by decide)
  have H15 : Slim.Has a11 15 (true && ((p.m.kind == q.m.kind) == true)) (.bool (p.m.frm == q.m.frm)) := o.here
  clear H12
  clear H14
  clear o
  refine Slim.val_g (t := 16) (c := true) (v := .bool ((p.m.kind == q.m.kind) && (p.m.frm == q.m.frm))) rfl (by rw [S]; decide) (Slim.wants_all rfl) (Slim.and_g rfl H10 H15 (fun h => h) (fun h1 h2 => Bool.and_eq_true_iff.2 ⟨h1, by rw [h2]; rfl⟩)) fun a12 o => ?_
  replace S := o.size.trans S; replace D := o.defers.trans D
  replace H2 := Slim.stays o H2 (by decide)
  replace H3 := Slim.stays o H3 (by decide)
  have H16 : Slim.Has a12 16 true (.bool ((p.m.kind == q.m.kind) && (p.m.frm == q.m.frm))) := o.here
  clear H10
  clear H15
  clear o
  refine Slim.val_g (t := 17) (c := true) (v := .bool ((p.m.kind == q.m.kind) && (p.m.frm == q.m.frm))) rfl (by rw [S]; decide) (Slim.wants_all rfl) (Slim.move_g rfl H16 (fun h => h)) fun a13 o => ?_
  replace S := o.size.trans S; replace D := o.defers.trans D
  replace H2 := Slim.stays o H2 (by decide)
  replace H3 := Slim.stays o H3 (by decide)
  have H17 : Slim.Has a13 17 true (.bool ((p.m.kind == q.m.kind) && (p.m.frm == q.m.frm))) := o.here
  clear H16
  clear o
  refine Slim.val_g (t := 18) (c := (true && (((p.m.kind == q.m.kind) && (p.m.frm == q.m.frm)) == true))) (v := .pointer (some ⟨A, 2, none⟩)) rfl (by rw [S]; decide) (Slim.wanted_g rfl rfl H17) (Slim.field_g rfl H2 (fun _ => rfl) (by go_simp; first | done | rfl)) fun a14 o => ?_
  replace S := o.size.trans S; replace D := o.defers.trans D
  replace H2 := Slim.stays o H2 (by decide)
  replace H3 := Slim.stays o H3 (by decide)
  replace H17 := Slim.stays o H17 (by decide)
  have H18 : Slim.Has a14 18 (true && (((p.m.kind == q.m.kind) && (p.m.frm == q.m.frm)) == true)) (.pointer (some ⟨A, 2, none⟩)) := o.here
  clear o
  refine Slim.val_g (t := 19) (c := (true && (((p.m.kind == q.m.kind) && (p.m.frm == q.m.frm)) == true))) (v := .int .u16 p.m.serial) rfl (by rw [S]; decide) (Slim.wanted_g rfl rfl H17) (Slim.load_g rfl H18 (fun h => h) (by have k := BX.out.cell 2; go_simp; first | done | rfl)) fun a15 o => ?_
  replace S := o.size.trans S; replace D := o.defers.trans D
  replace H2 := Slim.stays o H2 (by decide)
  replace H3 := Slim.stays o H3 (by decide)
  replace H17 := Slim.stays o H17 (by decide)
  have H19 : Slim.Has a15 19 (true && (((p.m.kind == q.m.kind) && (p.m.frm == q.m.frm)) == true)) (.int .u16 p.m.serial) := o.here
  clear H18
  clear o
  refine Slim.val_g (t := 20) (c := (true && (((p.m.kind == q.m.kind) && (p.m.frm == q.m.frm)) == true))) (v := .pointer (some ⟨B, 2, none⟩)) rfl (by rw [S]; decide) (Slim.wanted_g rfl rfl H17) (Slim.field_g rfl H3 (fun _ => rfl) (by go_simp; first | done | rfl)) fun a16 o => ?_
  replace S := o.size.trans S; replace D := o.defers.trans D
  replace H2 := Slim.stays o H2 (by decide)
  replace H3 := Slim.stays o H3 (by decide)
  replace H17 := Slim.stays o H17 (by decide)
  replace H19 := Slim.stays o H19 (by decide)
  have H20 : Slim.Has a16 20 (true && (((p.m.kind == q.m.kind) && (p.m.frm == q.m.frm)) == true)) (.pointer (some ⟨B, 2, none⟩)) := o.here
  clear o
  refine Slim.val_g (t := 21) (c := (true && (((p.m.kind == q.m.kind) && (p.m.frm == q.m.frm)) == true))) (v := .int .u16 q.m.serial) rfl (by rw [S]; decide) (Slim.wanted_g rfl rfl H17) (Slim.load_g rfl H20 (fun h => h) (by have k := BY.out.cell 2; go_simp; first | done | rfl)) fun a17 o => ?_
  replace S := o.size.trans S; replace D := o.defers.trans D
  replace H2 := Slim.stays o H2 (by decide)
  replace H3 := Slim.stays o H3 (by decide)
  replace H17 := Slim.stays o H17 (by decide)
  replace H19 := Slim.stays o H19 (by decide)
  have H21 : Slim.Has a17 21 (true && (((p.m.kind == q.m.kind) && (p.m.frm == q.m.frm)) == true)) (.int .u16 q.m.serial) := o.here
  clear H20
  clear o
  refine Slim.val_g (t := 22) (c := (true && (((p.m.kind == q.m.kind) && (p.m.frm == q.m.frm)) == true))) (v := .bool (p.m.serial == q.m.serial)) rfl (by rw [S]; decide) (Slim.wanted_g rfl rfl H17) (Slim.bin2_g rfl H19 H21 (fun h => h) (fun h => h) (fun _ _ => Slim.cmp_eql)) fun a18 o => ?_
  replace S := o.size.trans S; replace D := o.defers.trans D
  replace H2 := Slim.stays o H2 (by decide)
  replace H3 := Slim.stays o H3 (by decide)
  replace H17 := Slim.stays o H17 (by decide)
  have H22 : Slim.Has a18 22 (true && (((p.m.kind == q.m.kind) && (p.m.frm == q.m.frm)) == true)) (.bool (p.m.serial == q.m.serial)) := o.here
  clear H19
  clear H21
  clear o
  refine Slim.val_g (t := 23) (c := true) (v := .bool (((p.m.kind == q.m.kind) && (p.m.frm == q.m.frm)) && (p.m.serial == q.m.serial))) rfl (by rw [S]; decide) (Slim.wants_all rfl) (Slim.and_g rfl H17 H22 (fun h => h) (fun h1 h2 => Bool.and_eq_true_iff.2 ⟨h1, by rw [h2]; rfl⟩)) fun a19 o => ?_
  replace S := o.size.trans S; replace D := o.defers.trans D
  replace H2 := Slim.stays o H2 (by decide)
  replace H3 := Slim.stays o H3 (by decide)
  have H23 : Slim.Has a19 23 true (.bool (((p.m.kind == q.m.kind) && (p.m.frm == q.m.frm)) && (p.m.serial == q.m.serial))) := o.here
  clear H17
  clear H22
  clear o
  refine Slim.val_g (t := 24) (c := true) (v := .bool (((p.m.kind == q.m.kind) && (p.m.frm == q.m.frm)) && (p.m.serial == q.m.serial))) rfl (by rw [S]; decide) (Slim.wants_all rfl) (Slim.move_g rfl H23 (fun h => h)) fun a20 o => ?_
  replace S := o.size.trans S; replace D := o.defers.trans D
  replace H2 := Slim.stays o H2 (by decide)
  replace H3 := Slim.stays o H3 (by decide)
  have H24 : Slim.Has a20 24 true (.bool (((p.m.kind == q.m.kind) && (p.m.frm == q.m.frm)) && (p.m.serial == q.m.serial))) := o.here
  clear H23
  clear o
  refine Slim.val_g (t := 25) (c := (true && ((((p.m.kind == q.m.kind) && (p.m.frm == q.m.frm)) && (p.m.serial == q.m.serial)) == true))) (v := .pointer (some ⟨A, 3, none⟩)) rfl (by rw [S]; decide) (Slim.wanted_g rfl rfl H24) (Slim.field_g rfl H2 (fun _ => rfl) (by go_simp; first | done | rfl)) fun a21 o => ?_
  replace S := o.size.trans S; replace D := o.defers.trans D
  replace H2 := Slim.stays o H2 (by decide)
  replace H3 := Slim.stays o H3 (by decide)
  replace H24 := Slim.stays o H24 (by decide)
  have H25 : Slim.Has a21 25 (true && ((((p.m.kind == q.m.kind) && (p.m.frm == q.m.frm)) && (p.m.serial == q.m.serial)) == true)) (.pointer (some ⟨A, 3, none⟩)) := o.here
  clear o
  refine Slim.val_g (t := 26) (c := (true && ((((p.m.kind == q.m.kind) && (p.m.frm == q.m.frm)) && (p.m.serial == q.m.serial)) == true))) (v := .int .u16 p.m.ack) rfl (by rw [S]; decide) (Slim.wanted_g rfl rfl H24) (Slim.load_g rfl H25 (fun h => h) (by have k := BX.out.cell 3; go_simp; first | done | rfl)) fun a22 o => ?_
  replace S := o.size.trans S; replace D := o.defers.trans D
  replace H2 := Slim.stays o H2 (by decide)
  replace H3 := Slim.stays o H3 (by decide)
  replace H24 := Slim.stays o H24 (by decide)
  have H26 : Slim.Has a22 26 (true && ((((p.m.kind == q.m.kind) && (p.m.frm == q.m.frm)) && (p.m.serial == q.m.serial)) == true)) (.int .u16 p.m.ack) := o.here
  clear H25
  clear o
  refine Slim.val_g (t := 27) (c := (true && ((((p.m.kind == q.m.kind) && (p.m.frm == q.m.frm)) && (p.m.serial == q.m.serial)) == true))) (v := .pointer (some ⟨B, 3, none⟩)) rfl (by rw [S]; decide) (Slim.wanted_g rfl rfl H24) (Slim.field_g rfl H3 (fun _ => rfl) (by go_simp; first | done | rfl)) fun a23 o => ?_
  replace S := o.size.trans S; replace D := o.defers.trans D
  replace H2 := Slim.stays o H2 (by decide)
  replace H3 := Slim.stays o H3 (by decide)
  replace H24 := Slim.stays o H24 (by decide)
  replace H26 := Slim.stays o H26 (by decide)
  have H27 : Slim.Has a23 27 (true && ((((p.m.kind == q.m.kind) && (p.m.frm == q.m.frm)) && (p.m.serial == q.m.serial)) == true)) (.pointer (some ⟨B, 3, none⟩)) := o.here
  clear o
  refine Slim.val_g (t := 28) (c := (true && ((((p.m.kind == q.m.kind) && (p.m.frm == q.m.frm)) && (p.m.serial == q.m.serial)) == true))) (v := .int .u16 q.m.ack) rfl (by rw [S]; decide) (Slim.wanted_g rfl rfl H24) (Slim.load_g rfl H27 (fun h => h) (by have k := BY.out.cell 3; go_simp; first | done | rfl)) fun a24 o => ?_
  replace S := o.size.trans S; replace D := o.defers.trans D
  replace H2 := Slim.stays o H2 (by decide)
  replace H3 := Slim.stays o H3 (by decide)
  replace H24 := Slim.stays o H24 (by decide)
  replace H26 := Slim.stays o H26 (by decide)
  have H28 : Slim.Has a24 28 (true && ((((p.m.kind == q.m.kind) && (p.m.frm == q.m.frm)) && (p.m.serial == q.m.serial)) == true)) (.int .u16 q.m.ack) := o.here
  clear H27
  clear o
  refine Slim.val_g (t := 29) (c := (true && ((((p.m.kind == q.m.kind) && (p.m.frm == q.m.frm)) && (p.m.serial == q.m.serial)) == true))) (v := .bool (p.m.ack == q.m.ack)) rfl (by rw [S]; decide) (Slim.wanted_g rfl rfl H24) (Slim.bin2_g rfl H26 H28 (fun h => h) (fun h => h) (fun _ _ => Slim.cmp_eql)) fun a25 o => ?_
  replace S := o.size.trans S; replace D := o.defers.trans D
  replace H2 := Slim.stays o H2 (by decide)
  replace H3 := Slim.stays o H3 (by decide)
  replace H24 := Slim.stays o H24 (by decide)
  have H29 : Slim.Has a25 29 (true && ((((p.m.kind == q.m.kind) && (p.m.frm == q.m.frm)) && (p.m.serial == q.m.serial)) == true)) (.bool (p.m.ack == q.m.ack)) := o.here
  clear H26
  clear H28
  clear o
  refine Slim.val_g (t := 30) (c := true) (v := .bool ((((p.m.kind == q.m.kind) && (p.m.frm == q.m.frm)) && (p.m.serial == q.m.serial)) && (p.m.ack == q.m.ack))) rfl (by rw [S]; decide) (Slim.wants_all rfl) (Slim.and_g rfl H24 H29 (fun h => h) (fun h1 h2 => Bool.and_eq_true_iff.2 ⟨h1, by rw [h2]; rfl⟩)) fun a26 o => ?_
  replace S := o.size.trans S; replace D := o.defers.trans D
  replace H2 := Slim.stays o H2 (by decide)
  replace H3 := Slim.stays o H3 (by decide)
  have H30 : Slim.Has a26 30 true (.bool ((((p.m.kind == q.m.kind) && (p.m.frm == q.m.frm)) && (p.m.serial == q.m.serial)) && (p.m.ack == q.m.ack))) := o.here
  clear H24
  clear H29
  clear o
  refine Slim.val_g (t := 31) (c := true) (v := .bool ((((p.m.kind == q.m.kind) && (p.m.frm == q.m.frm)) && (p.m.serial == q.m.serial)) && (p.m.ack == q.m.ack))) rfl (by rw [S]; decide) (Slim.wants_all rfl) (Slim.move_g rfl H30 (fun h => h)) fun a27 o => ?_
  replace S := o.size.trans S; replace D := o.defers.trans D
  replace H2 := Slim.stays o H2 (by decide)
  replace H3 := Slim.stays o H3 (by decide)
  have H31 : Slim.Has a27 31 true (.bool ((((p.m.kind == q.m.kind) && (p.m.frm == q.m.frm)) && (p.m.serial == q.m.serial)) && (p.m.ack == q.m.ack))) := o.here
  clear H30
  clear o
  refine Slim.val_g (t := 32) (c := (true && (((((p.m.kind == q.m.kind) && (p.m.frm == q.m.frm)) && (p.m.serial == q.m.serial)) && (p.m.ack == q.m.ack)) == true))) (v := .pointer (some ⟨A, 4, none⟩)) rfl (by rw [S]; decide) (Slim.wanted_g rfl rfl H31) (Slim.field_g rfl H2 (fun _ => rfl) (by go_simp; first | done | rfl)) fun a28 o => ?_
  replace S := o.size.trans S; replace D := o.defers.trans D
  replace H2 := Slim.stays o H2 (by decide)
  replace H3 := Slim.stays o H3 (by decide)
  replace H31 := Slim.stays o H31 (by decide)
  have H32 : Slim.Has a28 32 (true && (((((p.m.kind == q.m.kind) && (p.m.frm == q.m.frm)) && (p.m.serial == q.m.serial)) && (p.m.ack == q.m.ack)) == true)) (.pointer (some ⟨A, 4, none⟩)) := o.here
  clear o
  refine Slim.val_g (t := 33) (c := (true && (((((p.m.kind == q.m.kind) && (p.m.frm == q.m.frm)) && (p.m.serial == q.m.serial)) && (p.m.ack == q.m.ack)) == true))) (v := .int .u32 p.m.seen) rfl (by rw [S]; decide) (Slim.wanted_g rfl rfl H31) (Slim.load_g rfl H32 (fun h => h) (by have k := BX.out.cell 4; go_simp; first | done | rfl)) fun a29 o => ?_
  replace S := o.size.trans S; replace D := o.defers.trans D
  replace H2 := Slim.stays o H2 (by decide)
  replace H3 := Slim.stays o H3 (by decide)
  replace H31 := Slim.stays o H31 (by decide)
  have H33 : Slim.Has a29 33 (true && (((((p.m.kind == q.m.kind) && (p.m.frm == q.m.frm)) && (p.m.serial == q.m.serial)) && (p.m.ack == q.m.ack)) == true)) (.int .u32 p.m.seen) := o.here
  clear H32
  clear o
  refine Slim.val_g (t := 34) (c := (true && (((((p.m.kind == q.m.kind) && (p.m.frm == q.m.frm)) && (p.m.serial == q.m.serial)) && (p.m.ack == q.m.ack)) == true))) (v := .pointer (some ⟨B, 4, none⟩)) rfl (by rw [S]; decide) (Slim.wanted_g rfl rfl H31) (Slim.field_g rfl H3 (fun _ => rfl) (by go_simp; first | done | rfl)) fun a30 o => ?_
  replace S := o.size.trans S; replace D := o.defers.trans D
  replace H2 := Slim.stays o H2 (by decide)
  replace H3 := Slim.stays o H3 (by decide)
  replace H31 := Slim.stays o H31 (by decide)
  replace H33 := Slim.stays o H33 (by decide)
  have H34 : Slim.Has a30 34 (true && (((((p.m.kind == q.m.kind) && (p.m.frm == q.m.frm)) && (p.m.serial == q.m.serial)) && (p.m.ack == q.m.ack)) == true)) (.pointer (some ⟨B, 4, none⟩)) := o.here
  clear o
  refine Slim.val_g (t := 35) (c := (true && (((((p.m.kind == q.m.kind) && (p.m.frm == q.m.frm)) && (p.m.serial == q.m.serial)) && (p.m.ack == q.m.ack)) == true))) (v := .int .u32 q.m.seen) rfl (by rw [S]; decide) (Slim.wanted_g rfl rfl H31) (Slim.load_g rfl H34 (fun h => h) (by have k := BY.out.cell 4; go_simp; first | done | rfl)) fun a31 o => ?_
  replace S := o.size.trans S; replace D := o.defers.trans D
  replace H2 := Slim.stays o H2 (by decide)
  replace H3 := Slim.stays o H3 (by decide)
  replace H31 := Slim.stays o H31 (by decide)
  replace H33 := Slim.stays o H33 (by decide)
  have H35 : Slim.Has a31 35 (true && (((((p.m.kind == q.m.kind) && (p.m.frm == q.m.frm)) && (p.m.serial == q.m.serial)) && (p.m.ack == q.m.ack)) == true)) (.int .u32 q.m.seen) := o.here
  clear H34
  clear o
  refine Slim.val_g (t := 36) (c := (true && (((((p.m.kind == q.m.kind) && (p.m.frm == q.m.frm)) && (p.m.serial == q.m.serial)) && (p.m.ack == q.m.ack)) == true))) (v := .bool (p.m.seen == q.m.seen)) rfl (by rw [S]; decide) (Slim.wanted_g rfl rfl H31) (Slim.bin2_g rfl H33 H35 (fun h => h) (fun h => h) (fun _ _ => Slim.cmp_eql)) fun a32 o => ?_
  replace S := o.size.trans S; replace D := o.defers.trans D
  replace H2 := Slim.stays o H2 (by decide)
  replace H3 := Slim.stays o H3 (by decide)
  replace H31 := Slim.stays o H31 (by decide)
  have H36 : Slim.Has a32 36 (true && (((((p.m.kind == q.m.kind) && (p.m.frm == q.m.frm)) && (p.m.serial == q.m.serial)) && (p.m.ack == q.m.ack)) == true)) (.bool (p.m.seen == q.m.seen)) := o.here
  clear H33
  clear H35
  clear o
  refine Slim.val_g (t := 37) (c := true) (v := .bool (((((p.m.kind == q.m.kind) && (p.m.frm == q.m.frm)) && (p.m.serial == q.m.serial)) && (p.m.ack == q.m.ack)) && (p.m.seen == q.m.seen))) rfl (by rw [S]; decide) (Slim.wants_all rfl) (Slim.and_g rfl H31 H36 (fun h => h) (fun h1 h2 => Bool.and_eq_true_iff.2 ⟨h1, by rw [h2]; rfl⟩)) fun a33 o => ?_
  replace S := o.size.trans S; replace D := o.defers.trans D
  replace H2 := Slim.stays o H2 (by decide)
  replace H3 := Slim.stays o H3 (by decide)
  have H37 : Slim.Has a33 37 true (.bool (((((p.m.kind == q.m.kind) && (p.m.frm == q.m.frm)) && (p.m.serial == q.m.serial)) && (p.m.ack == q.m.ack)) && (p.m.seen == q.m.seen))) := o.here
  clear H31
  clear H36
  clear o
  refine Slim.val_g (t := 38) (c := true) (v := .bool (((((p.m.kind == q.m.kind) && (p.m.frm == q.m.frm)) && (p.m.serial == q.m.serial)) && (p.m.ack == q.m.ack)) && (p.m.seen == q.m.seen))) rfl (by rw [S]; decide) (Slim.wants_all rfl) (Slim.move_g rfl H37 (fun h => h)) fun a34 o => ?_
  replace S := o.size.trans S; replace D := o.defers.trans D
  replace H2 := Slim.stays o H2 (by decide)
  replace H3 := Slim.stays o H3 (by decide)
  have H38 : Slim.Has a34 38 true (.bool (((((p.m.kind == q.m.kind) && (p.m.frm == q.m.frm)) && (p.m.serial == q.m.serial)) && (p.m.ack == q.m.ack)) && (p.m.seen == q.m.seen))) := o.here
  clear H37
  clear o
  refine Slim.val_g (t := 39) (c := (true && ((((((p.m.kind == q.m.kind) && (p.m.frm == q.m.frm)) && (p.m.serial == q.m.serial)) && (p.m.ack == q.m.ack)) && (p.m.seen == q.m.seen)) == true))) (v := .pointer (some ⟨A, 5, none⟩)) rfl (by rw [S]; decide) (Slim.wanted_g rfl rfl H38) (Slim.field_g rfl H2 (fun _ => rfl) (by go_simp; first | done | rfl)) fun a35 o => ?_
  replace S := o.size.trans S; replace D := o.defers.trans D
  replace H2 := Slim.stays o H2 (by decide)
  replace H3 := Slim.stays o H3 (by decide)
  replace H38 := Slim.stays o H38 (by decide)
  have H39 : Slim.Has a35 39 (true && ((((((p.m.kind == q.m.kind) && (p.m.frm == q.m.frm)) && (p.m.serial == q.m.serial)) && (p.m.ack == q.m.ack)) && (p.m.seen == q.m.seen)) == true)) (.pointer (some ⟨A, 5, none⟩)) := o.here
  clear o
  refine Slim.val_g (t := 40) (c := (true && ((((((p.m.kind == q.m.kind) && (p.m.frm == q.m.frm)) && (p.m.serial == q.m.serial)) && (p.m.ack == q.m.ack)) && (p.m.seen == q.m.seen)) == true))) (v := .int .i64 p.m.slot) rfl (by rw [S]; decide) (Slim.wanted_g rfl rfl H38) (Slim.load_g rfl H39 (fun h => h) (by have k := BX.out.cell 5; go_simp; first | done | rfl)) fun a36 o => ?_
  replace S := o.size.trans S; replace D := o.defers.trans D
  replace H2 := Slim.stays o H2 (by decide)
  replace H3 := Slim.stays o H3 (by decide)
  replace H38 := Slim.stays o H38 (by decide)
  have H40 : Slim.Has a36 40 (true && ((((((p.m.kind == q.m.kind) && (p.m.frm == q.m.frm)) && (p.m.serial == q.m.serial)) && (p.m.ack == q.m.ack)) && (p.m.seen == q.m.seen)) == true)) (.int .i64 p.m.slot) := o.here
  clear H39
  clear o
  refine Slim.val_g (t := 41) (c := (true && ((((((p.m.kind == q.m.kind) && (p.m.frm == q.m.frm)) && (p.m.serial == q.m.serial)) && (p.m.ack == q.m.ack)) && (p.m.seen == q.m.seen)) == true))) (v := .pointer (some ⟨B, 5, none⟩)) rfl (by rw [S]; decide) (Slim.wanted_g rfl rfl H38) (Slim.field_g rfl H3 (fun _ => rfl) (by go_simp; first | done | rfl)) fun a37 o => ?_
  replace S := o.size.trans S; replace D := o.defers.trans D
  replace H2 := Slim.stays o H2 (by decide)
  replace H3 := Slim.stays o H3 (by decide)
  replace H38 := Slim.stays o H38 (by decide)
  replace H40 := Slim.stays o H40 (by decide)
  have H41 : Slim.Has a37 41 (true && ((((((p.m.kind == q.m.kind) && (p.m.frm == q.m.frm)) && (p.m.serial == q.m.serial)) && (p.m.ack == q.m.ack)) && (p.m.seen == q.m.seen)) == true)) (.pointer (some ⟨B, 5, none⟩)) := o.here
  clear o
  refine Slim.val_g (t := 42) (c := (true && ((((((p.m.kind == q.m.kind) && (p.m.frm == q.m.frm)) && (p.m.serial == q.m.serial)) && (p.m.ack == q.m.ack)) && (p.m.seen == q.m.seen)) == true))) (v := .int .i64 q.m.slot) rfl (by rw [S]; decide) (Slim.wanted_g rfl rfl H38) (Slim.load_g rfl H41 (fun h => h) (by have k := BY.out.cell 5; go_simp; first | done | rfl)) fun a38 o => ?_
  replace S := o.size.trans S; replace D := o.defers.trans D
  replace H2 := Slim.stays o H2 (by decide)
  replace H3 := Slim.stays o H3 (by decide)
  replace H38 := Slim.stays o H38 (by decide)
  replace H40 := Slim.stays o H40 (by decide)
  have H42 : Slim.Has a38 42 (true && ((((((p.m.kind == q.m.kind) && (p.m.frm == q.m.frm)) && (p.m.serial == q.m.serial)) && (p.m.ack == q.m.ack)) && (p.m.seen == q.m.seen)) == true)) (.int .i64 q.m.slot) := o.here
  clear H41
  clear o
  refine Slim.val_g (t := 43) (c := (true && ((((((p.m.kind == q.m.kind) && (p.m.frm == q.m.frm)) && (p.m.serial == q.m.serial)) && (p.m.ack == q.m.ack)) && (p.m.seen == q.m.seen)) == true))) (v := .bool (p.m.slot == q.m.slot)) rfl (by rw [S]; decide) (Slim.wanted_g rfl rfl H38) (Slim.bin2_g rfl H40 H42 (fun h => h) (fun h => h) (fun _ _ => Slim.cmp_eql)) fun a39 o => ?_
  replace S := o.size.trans S; replace D := o.defers.trans D
  replace H2 := Slim.stays o H2 (by decide)
  replace H3 := Slim.stays o H3 (by decide)
  replace H38 := Slim.stays o H38 (by decide)
  have H43 : Slim.Has a39 43 (true && ((((((p.m.kind == q.m.kind) && (p.m.frm == q.m.frm)) && (p.m.serial == q.m.serial)) && (p.m.ack == q.m.ack)) && (p.m.seen == q.m.seen)) == true)) (.bool (p.m.slot == q.m.slot)) := o.here
  clear H40
  clear H42
  clear o
  refine Slim.val_g (t := 44) (c := true) (v := .bool ((((((p.m.kind == q.m.kind) && (p.m.frm == q.m.frm)) && (p.m.serial == q.m.serial)) && (p.m.ack == q.m.ack)) && (p.m.seen == q.m.seen)) && (p.m.slot == q.m.slot))) rfl (by rw [S]; decide) (Slim.wants_all rfl) (Slim.and_g rfl H38 H43 (fun h => h) (fun h1 h2 => Bool.and_eq_true_iff.2 ⟨h1, by rw [h2]; rfl⟩)) fun a40 o => ?_
  replace S := o.size.trans S; replace D := o.defers.trans D
  replace H2 := Slim.stays o H2 (by decide)
  replace H3 := Slim.stays o H3 (by decide)
  have H44 : Slim.Has a40 44 true (.bool ((((((p.m.kind == q.m.kind) && (p.m.frm == q.m.frm)) && (p.m.serial == q.m.serial)) && (p.m.ack == q.m.ack)) && (p.m.seen == q.m.seen)) && (p.m.slot == q.m.slot))) := o.here
  clear H38
  clear H43
  clear o
  refine Slim.val_g (t := 45) (c := true) (v := .bool ((((((p.m.kind == q.m.kind) && (p.m.frm == q.m.frm)) && (p.m.serial == q.m.serial)) && (p.m.ack == q.m.ack)) && (p.m.seen == q.m.seen)) && (p.m.slot == q.m.slot))) rfl (by rw [S]; decide) (Slim.wants_all rfl) (Slim.move_g rfl H44 (fun h => h)) fun a41 o => ?_
  replace S := o.size.trans S; replace D := o.defers.trans D
  replace H2 := Slim.stays o H2 (by decide)
  replace H3 := Slim.stays o H3 (by decide)
  have H45 : Slim.Has a41 45 true (.bool ((((((p.m.kind == q.m.kind) && (p.m.frm == q.m.frm)) && (p.m.serial == q.m.serial)) && (p.m.ack == q.m.ack)) && (p.m.seen == q.m.seen)) && (p.m.slot == q.m.slot))) := o.here
  clear H44
  clear o
  refine Slim.val_g (t := 46) (c := (true && (((((((p.m.kind == q.m.kind) && (p.m.frm == q.m.frm)) && (p.m.serial == q.m.serial)) && (p.m.ack == q.m.ack)) && (p.m.seen == q.m.seen)) && (p.m.slot == q.m.slot)) == true))) (v := .pointer (some ⟨A, 6, none⟩)) rfl (by rw [S]; decide) (Slim.wanted_g rfl rfl H45) (Slim.field_g rfl H2 (fun _ => rfl) (by go_simp; first | done | rfl)) fun a42 o => ?_
  replace S := o.size.trans S; replace D := o.defers.trans D
  replace H2 := Slim.stays o H2 (by decide)
  replace H3 := Slim.stays o H3 (by decide)
  replace H45 := Slim.stays o H45 (by decide)
  have H46 : Slim.Has a42 46 (true && (((((((p.m.kind == q.m.kind) && (p.m.frm == q.m.frm)) && (p.m.serial == q.m.serial)) && (p.m.ack == q.m.ack)) && (p.m.seen == q.m.seen)) && (p.m.slot == q.m.slot)) == true)) (.pointer (some ⟨A, 6, none⟩)) := o.here
  clear o
  refine Slim.val_g (t := 47) (c := (true && (((((((p.m.kind == q.m.kind) && (p.m.frm == q.m.frm)) && (p.m.serial == q.m.serial)) && (p.m.ack == q.m.ack)) && (p.m.seen == q.m.seen)) && (p.m.slot == q.m.slot)) == true))) (v := .int .i64 p.m.gen) rfl (by rw [S]; decide) (Slim.wanted_g rfl rfl H45) (Slim.load_g rfl H46 (fun h => h) (by have k := BX.out.cell 6; go_simp; first | done | rfl)) fun a43 o => ?_
  replace S := o.size.trans S; replace D := o.defers.trans D
  replace H2 := Slim.stays o H2 (by decide)
  replace H3 := Slim.stays o H3 (by decide)
  replace H45 := Slim.stays o H45 (by decide)
  have H47 : Slim.Has a43 47 (true && (((((((p.m.kind == q.m.kind) && (p.m.frm == q.m.frm)) && (p.m.serial == q.m.serial)) && (p.m.ack == q.m.ack)) && (p.m.seen == q.m.seen)) && (p.m.slot == q.m.slot)) == true)) (.int .i64 p.m.gen) := o.here
  clear H46
  clear o
  refine Slim.val_g (t := 48) (c := (true && (((((((p.m.kind == q.m.kind) && (p.m.frm == q.m.frm)) && (p.m.serial == q.m.serial)) && (p.m.ack == q.m.ack)) && (p.m.seen == q.m.seen)) && (p.m.slot == q.m.slot)) == true))) (v := .pointer (some ⟨B, 6, none⟩)) rfl (by rw [S]; decide) (Slim.wanted_g rfl rfl H45) (Slim.field_g rfl H3 (fun _ => rfl) (by go_simp; first | done | rfl)) fun a44 o => ?_
  replace S := o.size.trans S; replace D := o.defers.trans D
  replace H2 := Slim.stays o H2 (by decide)
  replace H3 := Slim.stays o H3 (by decide)
  replace H45 := Slim.stays o H45 (by decide)
  replace H47 := Slim.stays o H47 (by decide)
  have H48 : Slim.Has a44 48 (true && (((((((p.m.kind == q.m.kind) && (p.m.frm == q.m.frm)) && (p.m.serial == q.m.serial)) && (p.m.ack == q.m.ack)) && (p.m.seen == q.m.seen)) && (p.m.slot == q.m.slot)) == true)) (.pointer (some ⟨B, 6, none⟩)) := o.here
  clear o
  refine Slim.val_g (t := 49) (c := (true && (((((((p.m.kind == q.m.kind) && (p.m.frm == q.m.frm)) && (p.m.serial == q.m.serial)) && (p.m.ack == q.m.ack)) && (p.m.seen == q.m.seen)) && (p.m.slot == q.m.slot)) == true))) (v := .int .i64 q.m.gen) rfl (by rw [S]; decide) (Slim.wanted_g rfl rfl H45) (Slim.load_g rfl H48 (fun h => h) (by have k := BY.out.cell 6; go_simp; first | done | rfl)) fun a45 o => ?_
  replace S := o.size.trans S; replace D := o.defers.trans D
  replace H2 := Slim.stays o H2 (by decide)
  replace H3 := Slim.stays o H3 (by decide)
  replace H45 := Slim.stays o H45 (by decide)
  replace H47 := Slim.stays o H47 (by decide)
  have H49 : Slim.Has a45 49 (true && (((((((p.m.kind == q.m.kind) && (p.m.frm == q.m.frm)) && (p.m.serial == q.m.serial)) && (p.m.ack == q.m.ack)) && (p.m.seen == q.m.seen)) && (p.m.slot == q.m.slot)) == true)) (.int .i64 q.m.gen) := o.here
  clear H48
  clear o
  refine Slim.val_g (t := 50) (c := (true && (((((((p.m.kind == q.m.kind) && (p.m.frm == q.m.frm)) && (p.m.serial == q.m.serial)) && (p.m.ack == q.m.ack)) && (p.m.seen == q.m.seen)) && (p.m.slot == q.m.slot)) == true))) (v := .bool (p.m.gen == q.m.gen)) rfl (by rw [S]; decide) (Slim.wanted_g rfl rfl H45) (Slim.bin2_g rfl H47 H49 (fun h => h) (fun h => h) (fun _ _ => Slim.cmp_eql)) fun a46 o => ?_
  replace S := o.size.trans S; replace D := o.defers.trans D
  replace H2 := Slim.stays o H2 (by decide)
  replace H3 := Slim.stays o H3 (by decide)
  replace H45 := Slim.stays o H45 (by decide)
  have H50 : Slim.Has a46 50 (true && (((((((p.m.kind == q.m.kind) && (p.m.frm == q.m.frm)) && (p.m.serial == q.m.serial)) && (p.m.ack == q.m.ack)) && (p.m.seen == q.m.seen)) && (p.m.slot == q.m.slot)) == true)) (.bool (p.m.gen == q.m.gen)) := o.here
  clear H47
  clear H49
  clear o
  refine Slim.val_g (t := 51) (c := true) (v := .bool (((((((p.m.kind == q.m.kind) && (p.m.frm == q.m.frm)) && (p.m.serial == q.m.serial)) && (p.m.ack == q.m.ack)) && (p.m.seen == q.m.seen)) && (p.m.slot == q.m.slot)) && (p.m.gen == q.m.gen))) rfl (by rw [S]; decide) (Slim.wants_all rfl) (Slim.and_g rfl H45 H50 (fun h => h) (fun h1 h2 => Bool.and_eq_true_iff.2 ⟨h1, by rw [h2]; rfl⟩)) fun a47 o => ?_
  replace S := o.size.trans S; replace D := o.defers.trans D
  replace H2 := Slim.stays o H2 (by decide)
  replace H3 := Slim.stays o H3 (by decide)
  have H51 : Slim.Has a47 51 true (.bool (((((((p.m.kind == q.m.kind) && (p.m.frm == q.m.frm)) && (p.m.serial == q.m.serial)) && (p.m.ack == q.m.ack)) && (p.m.seen == q.m.seen)) && (p.m.slot == q.m.slot)) && (p.m.gen == q.m.gen))) := o.here
  clear H45
  clear H50
  clear o
  refine Slim.val_g (t := 52) (c := true) (v := .bool (((((((p.m.kind == q.m.kind) && (p.m.frm == q.m.frm)) && (p.m.serial == q.m.serial)) && (p.m.ack == q.m.ack)) && (p.m.seen == q.m.seen)) && (p.m.slot == q.m.slot)) && (p.m.gen == q.m.gen))) rfl (by rw [S]; decide) (Slim.wants_all rfl) (Slim.move_g rfl H51 (fun h => h)) fun a48 o => ?_
  replace S := o.size.trans S; replace D := o.defers.trans D
  replace H2 := Slim.stays o H2 (by decide)
  replace H3 := Slim.stays o H3 (by decide)
  have H52 : Slim.Has a48 52 true (.bool (((((((p.m.kind == q.m.kind) && (p.m.frm == q.m.frm)) && (p.m.serial == q.m.serial)) && (p.m.ack == q.m.ack)) && (p.m.seen == q.m.seen)) && (p.m.slot == q.m.slot)) && (p.m.gen == q.m.gen))) := o.here
  clear H51
  clear o
  refine Slim.val_g (t := 53) (c := (true && ((((((((p.m.kind == q.m.kind) && (p.m.frm == q.m.frm)) && (p.m.serial == q.m.serial)) && (p.m.ack == q.m.ack)) && (p.m.seen == q.m.seen)) && (p.m.slot == q.m.slot)) && (p.m.gen == q.m.gen)) == true))) (v := .pointer (some ⟨A, 7, none⟩)) rfl (by rw [S]; decide) (Slim.wanted_g rfl rfl H52) (Slim.field_g rfl H2 (fun _ => rfl) (by go_simp; first | done | rfl)) fun a49 o => ?_
  replace S := o.size.trans S; replace D := o.defers.trans D
  replace H2 := Slim.stays o H2 (by decide)
  replace H3 := Slim.stays o H3 (by decide)
  replace H52 := Slim.stays o H52 (by decide)
  have H53 : Slim.Has a49 53 (true && ((((((((p.m.kind == q.m.kind) && (p.m.frm == q.m.frm)) && (p.m.serial == q.m.serial)) && (p.m.ack == q.m.ack)) && (p.m.seen == q.m.seen)) && (p.m.slot == q.m.slot)) && (p.m.gen == q.m.gen)) == true)) (.pointer (some ⟨A, 7, none⟩)) := o.here
  clear o
  refine Slim.val_g (t := 54) (c := (true && ((((((((p.m.kind == q.m.kind) && (p.m.frm == q.m.frm)) && (p.m.serial == q.m.serial)) && (p.m.ack == q.m.ack)) && (p.m.seen == q.m.seen)) && (p.m.slot == q.m.slot)) && (p.m.gen == q.m.gen)) == true))) (v := .int .i64 p.m.frame) rfl (by rw [S]; decide) (Slim.wanted_g rfl rfl H52) (Slim.load_g rfl H53 (fun h => h) (by have k := BX.out.cell 7; go_simp; first | done | rfl)) fun a50 o => ?_
  replace S := o.size.trans S; replace D := o.defers.trans D
  replace H2 := Slim.stays o H2 (by decide)
  replace H3 := Slim.stays o H3 (by decide)
  replace H52 := Slim.stays o H52 (by decide)
  have H54 : Slim.Has a50 54 (true && ((((((((p.m.kind == q.m.kind) && (p.m.frm == q.m.frm)) && (p.m.serial == q.m.serial)) && (p.m.ack == q.m.ack)) && (p.m.seen == q.m.seen)) && (p.m.slot == q.m.slot)) && (p.m.gen == q.m.gen)) == true)) (.int .i64 p.m.frame) := o.here
  clear H53
  clear o
  refine Slim.val_g (t := 55) (c := (true && ((((((((p.m.kind == q.m.kind) && (p.m.frm == q.m.frm)) && (p.m.serial == q.m.serial)) && (p.m.ack == q.m.ack)) && (p.m.seen == q.m.seen)) && (p.m.slot == q.m.slot)) && (p.m.gen == q.m.gen)) == true))) (v := .pointer (some ⟨B, 7, none⟩)) rfl (by rw [S]; decide) (Slim.wanted_g rfl rfl H52) (Slim.field_g rfl H3 (fun _ => rfl) (by go_simp; first | done | rfl)) fun a51 o => ?_
  replace S := o.size.trans S; replace D := o.defers.trans D
  replace H2 := Slim.stays o H2 (by decide)
  replace H3 := Slim.stays o H3 (by decide)
  replace H52 := Slim.stays o H52 (by decide)
  replace H54 := Slim.stays o H54 (by decide)
  have H55 : Slim.Has a51 55 (true && ((((((((p.m.kind == q.m.kind) && (p.m.frm == q.m.frm)) && (p.m.serial == q.m.serial)) && (p.m.ack == q.m.ack)) && (p.m.seen == q.m.seen)) && (p.m.slot == q.m.slot)) && (p.m.gen == q.m.gen)) == true)) (.pointer (some ⟨B, 7, none⟩)) := o.here
  clear o
  refine Slim.val_g (t := 56) (c := (true && ((((((((p.m.kind == q.m.kind) && (p.m.frm == q.m.frm)) && (p.m.serial == q.m.serial)) && (p.m.ack == q.m.ack)) && (p.m.seen == q.m.seen)) && (p.m.slot == q.m.slot)) && (p.m.gen == q.m.gen)) == true))) (v := .int .i64 q.m.frame) rfl (by rw [S]; decide) (Slim.wanted_g rfl rfl H52) (Slim.load_g rfl H55 (fun h => h) (by have k := BY.out.cell 7; go_simp; first | done | rfl)) fun a52 o => ?_
  replace S := o.size.trans S; replace D := o.defers.trans D
  replace H2 := Slim.stays o H2 (by decide)
  replace H3 := Slim.stays o H3 (by decide)
  replace H52 := Slim.stays o H52 (by decide)
  replace H54 := Slim.stays o H54 (by decide)
  have H56 : Slim.Has a52 56 (true && ((((((((p.m.kind == q.m.kind) && (p.m.frm == q.m.frm)) && (p.m.serial == q.m.serial)) && (p.m.ack == q.m.ack)) && (p.m.seen == q.m.seen)) && (p.m.slot == q.m.slot)) && (p.m.gen == q.m.gen)) == true)) (.int .i64 q.m.frame) := o.here
  clear H55
  clear o
  refine Slim.val_g (t := 57) (c := (true && ((((((((p.m.kind == q.m.kind) && (p.m.frm == q.m.frm)) && (p.m.serial == q.m.serial)) && (p.m.ack == q.m.ack)) && (p.m.seen == q.m.seen)) && (p.m.slot == q.m.slot)) && (p.m.gen == q.m.gen)) == true))) (v := .bool (p.m.frame == q.m.frame)) rfl (by rw [S]; decide) (Slim.wanted_g rfl rfl H52) (Slim.bin2_g rfl H54 H56 (fun h => h) (fun h => h) (fun _ _ => Slim.cmp_eql)) fun a53 o => ?_
  replace S := o.size.trans S; replace D := o.defers.trans D
  replace H2 := Slim.stays o H2 (by decide)
  replace H3 := Slim.stays o H3 (by decide)
  replace H52 := Slim.stays o H52 (by decide)
  have H57 : Slim.Has a53 57 (true && ((((((((p.m.kind == q.m.kind) && (p.m.frm == q.m.frm)) && (p.m.serial == q.m.serial)) && (p.m.ack == q.m.ack)) && (p.m.seen == q.m.seen)) && (p.m.slot == q.m.slot)) && (p.m.gen == q.m.gen)) == true)) (.bool (p.m.frame == q.m.frame)) := o.here
  clear H54
  clear H56
  clear o
  refine Slim.val_g (t := 58) (c := true) (v := .bool ((((((((p.m.kind == q.m.kind) && (p.m.frm == q.m.frm)) && (p.m.serial == q.m.serial)) && (p.m.ack == q.m.ack)) && (p.m.seen == q.m.seen)) && (p.m.slot == q.m.slot)) && (p.m.gen == q.m.gen)) && (p.m.frame == q.m.frame))) rfl (by rw [S]; decide) (Slim.wants_all rfl) (Slim.and_g rfl H52 H57 (fun h => h) (fun h1 h2 => Bool.and_eq_true_iff.2 ⟨h1, by rw [h2]; rfl⟩)) fun a54 o => ?_
  replace S := o.size.trans S; replace D := o.defers.trans D
  replace H2 := Slim.stays o H2 (by decide)
  replace H3 := Slim.stays o H3 (by decide)
  have H58 : Slim.Has a54 58 true (.bool ((((((((p.m.kind == q.m.kind) && (p.m.frm == q.m.frm)) && (p.m.serial == q.m.serial)) && (p.m.ack == q.m.ack)) && (p.m.seen == q.m.seen)) && (p.m.slot == q.m.slot)) && (p.m.gen == q.m.gen)) && (p.m.frame == q.m.frame))) := o.here
  clear H52
  clear H57
  clear o
  refine Slim.val_g (t := 59) (c := true) (v := .bool ((((((((p.m.kind == q.m.kind) && (p.m.frm == q.m.frm)) && (p.m.serial == q.m.serial)) && (p.m.ack == q.m.ack)) && (p.m.seen == q.m.seen)) && (p.m.slot == q.m.slot)) && (p.m.gen == q.m.gen)) && (p.m.frame == q.m.frame))) rfl (by rw [S]; decide) (Slim.wants_all rfl) (Slim.move_g rfl H58 (fun h => h)) fun a55 o => ?_
  replace S := o.size.trans S; replace D := o.defers.trans D
  replace H2 := Slim.stays o H2 (by decide)
  replace H3 := Slim.stays o H3 (by decide)
  have H59 : Slim.Has a55 59 true (.bool ((((((((p.m.kind == q.m.kind) && (p.m.frm == q.m.frm)) && (p.m.serial == q.m.serial)) && (p.m.ack == q.m.ack)) && (p.m.seen == q.m.seen)) && (p.m.slot == q.m.slot)) && (p.m.gen == q.m.gen)) && (p.m.frame == q.m.frame))) := o.here
  clear H58
  clear o
  refine Slim.val_g (t := 60) (c := (true && (((((((((p.m.kind == q.m.kind) && (p.m.frm == q.m.frm)) && (p.m.serial == q.m.serial)) && (p.m.ack == q.m.ack)) && (p.m.seen == q.m.seen)) && (p.m.slot == q.m.slot)) && (p.m.gen == q.m.gen)) && (p.m.frame == q.m.frame)) == true))) (v := .pointer (some ⟨A, 8, none⟩)) rfl (by rw [S]; decide) (Slim.wanted_g rfl rfl H59) (Slim.field_g rfl H2 (fun _ => rfl) (by go_simp; first | done | rfl)) fun a56 o => ?_
  replace S := o.size.trans S; replace D := o.defers.trans D
  replace H2 := Slim.stays o H2 (by decide)
  replace H3 := Slim.stays o H3 (by decide)
  replace H59 := Slim.stays o H59 (by decide)
  have H60 : Slim.Has a56 60 (true && (((((((((p.m.kind == q.m.kind) && (p.m.frm == q.m.frm)) && (p.m.serial == q.m.serial)) && (p.m.ack == q.m.ack)) && (p.m.seen == q.m.seen)) && (p.m.slot == q.m.slot)) && (p.m.gen == q.m.gen)) && (p.m.frame == q.m.frame)) == true)) (.pointer (some ⟨A, 8, none⟩)) := o.here
  clear o
  refine Slim.val_g (t := 61) (c := (true && (((((((((p.m.kind == q.m.kind) && (p.m.frm == q.m.frm)) && (p.m.serial == q.m.serial)) && (p.m.ack == q.m.ack)) && (p.m.seen == q.m.seen)) && (p.m.slot == q.m.slot)) && (p.m.gen == q.m.gen)) && (p.m.frame == q.m.frame)) == true))) (v := .int .i64 p.m.code) rfl (by rw [S]; decide) (Slim.wanted_g rfl rfl H59) (Slim.load_g rfl H60 (fun h => h) (by have k := BX.out.cell 8; go_simp; first | done | rfl)) fun a57 o => ?_
  replace S := o.size.trans S; replace D := o.defers.trans D
  replace H2 := Slim.stays o H2 (by decide)
  replace H3 := Slim.stays o H3 (by decide)
  replace H59 := Slim.stays o H59 (by decide)
  have H61 : Slim.Has a57 61 (true && (((((((((p.m.kind == q.m.kind) && (p.m.frm == q.m.frm)) && (p.m.serial == q.m.serial)) && (p.m.ack == q.m.ack)) && (p.m.seen == q.m.seen)) && (p.m.slot == q.m.slot)) && (p.m.gen == q.m.gen)) && (p.m.frame == q.m.frame)) == true)) (.int .i64 p.m.code) := o.here
  clear H60
  clear o
  refine Slim.val_g (t := 62) (c := (true && (((((((((p.m.kind == q.m.kind) && (p.m.frm == q.m.frm)) && (p.m.serial == q.m.serial)) && (p.m.ack == q.m.ack)) && (p.m.seen == q.m.seen)) && (p.m.slot == q.m.slot)) && (p.m.gen == q.m.gen)) && (p.m.frame == q.m.frame)) == true))) (v := .pointer (some ⟨B, 8, none⟩)) rfl (by rw [S]; decide) (Slim.wanted_g rfl rfl H59) (Slim.field_g rfl H3 (fun _ => rfl) (by go_simp; first | done | rfl)) fun a58 o => ?_
  replace S := o.size.trans S; replace D := o.defers.trans D
  replace H2 := Slim.stays o H2 (by decide)
  replace H3 := Slim.stays o H3 (by decide)
  replace H59 := Slim.stays o H59 (by decide)
  replace H61 := Slim.stays o H61 (by decide)
  have H62 : Slim.Has a58 62 (true && (((((((((p.m.kind == q.m.kind) && (p.m.frm == q.m.frm)) && (p.m.serial == q.m.serial)) && (p.m.ack == q.m.ack)) && (p.m.seen == q.m.seen)) && (p.m.slot == q.m.slot)) && (p.m.gen == q.m.gen)) && (p.m.frame == q.m.frame)) == true)) (.pointer (some ⟨B, 8, none⟩)) := o.here
  clear o
  refine Slim.val_g (t := 63) (c := (true && (((((((((p.m.kind == q.m.kind) && (p.m.frm == q.m.frm)) && (p.m.serial == q.m.serial)) && (p.m.ack == q.m.ack)) && (p.m.seen == q.m.seen)) && (p.m.slot == q.m.slot)) && (p.m.gen == q.m.gen)) && (p.m.frame == q.m.frame)) == true))) (v := .int .i64 q.m.code) rfl (by rw [S]; decide) (Slim.wanted_g rfl rfl H59) (Slim.load_g rfl H62 (fun h => h) (by have k := BY.out.cell 8; go_simp; first | done | rfl)) fun a59 o => ?_
  replace S := o.size.trans S; replace D := o.defers.trans D
  replace H2 := Slim.stays o H2 (by decide)
  replace H3 := Slim.stays o H3 (by decide)
  replace H59 := Slim.stays o H59 (by decide)
  replace H61 := Slim.stays o H61 (by decide)
  have H63 : Slim.Has a59 63 (true && (((((((((p.m.kind == q.m.kind) && (p.m.frm == q.m.frm)) && (p.m.serial == q.m.serial)) && (p.m.ack == q.m.ack)) && (p.m.seen == q.m.seen)) && (p.m.slot == q.m.slot)) && (p.m.gen == q.m.gen)) && (p.m.frame == q.m.frame)) == true)) (.int .i64 q.m.code) := o.here
  clear H62
  clear o
  refine Slim.val_g (t := 64) (c := (true && (((((((((p.m.kind == q.m.kind) && (p.m.frm == q.m.frm)) && (p.m.serial == q.m.serial)) && (p.m.ack == q.m.ack)) && (p.m.seen == q.m.seen)) && (p.m.slot == q.m.slot)) && (p.m.gen == q.m.gen)) && (p.m.frame == q.m.frame)) == true))) (v := .bool (p.m.code == q.m.code)) rfl (by rw [S]; decide) (Slim.wanted_g rfl rfl H59) (Slim.bin2_g rfl H61 H63 (fun h => h) (fun h => h) (fun _ _ => Slim.cmp_eql)) fun a60 o => ?_
  replace S := o.size.trans S; replace D := o.defers.trans D
  replace H2 := Slim.stays o H2 (by decide)
  replace H3 := Slim.stays o H3 (by decide)
  replace H59 := Slim.stays o H59 (by decide)
  have H64 : Slim.Has a60 64 (true && (((((((((p.m.kind == q.m.kind) && (p.m.frm == q.m.frm)) && (p.m.serial == q.m.serial)) && (p.m.ack == q.m.ack)) && (p.m.seen == q.m.seen)) && (p.m.slot == q.m.slot)) && (p.m.gen == q.m.gen)) && (p.m.frame == q.m.frame)) == true)) (.bool (p.m.code == q.m.code)) := o.here
  clear H61
  clear H63
  clear o
  refine Slim.val_g (t := 65) (c := true) (v := .bool (((((((((p.m.kind == q.m.kind) && (p.m.frm == q.m.frm)) && (p.m.serial == q.m.serial)) && (p.m.ack == q.m.ack)) && (p.m.seen == q.m.seen)) && (p.m.slot == q.m.slot)) && (p.m.gen == q.m.gen)) && (p.m.frame == q.m.frame)) && (p.m.code == q.m.code))) rfl (by rw [S]; decide) (Slim.wants_all rfl) (Slim.and_g rfl H59 H64 (fun h => h) (fun h1 h2 => Bool.and_eq_true_iff.2 ⟨h1, by rw [h2]; rfl⟩)) fun a61 o => ?_
  replace S := o.size.trans S; replace D := o.defers.trans D
  replace H2 := Slim.stays o H2 (by decide)
  replace H3 := Slim.stays o H3 (by decide)
  have H65 : Slim.Has a61 65 true (.bool (((((((((p.m.kind == q.m.kind) && (p.m.frm == q.m.frm)) && (p.m.serial == q.m.serial)) && (p.m.ack == q.m.ack)) && (p.m.seen == q.m.seen)) && (p.m.slot == q.m.slot)) && (p.m.gen == q.m.gen)) && (p.m.frame == q.m.frame)) && (p.m.code == q.m.code))) := o.here
  clear H59
  clear H64
  clear o
  refine Slim.val_g (t := 66) (c := true) (v := .bool (((((((((p.m.kind == q.m.kind) && (p.m.frm == q.m.frm)) && (p.m.serial == q.m.serial)) && (p.m.ack == q.m.ack)) && (p.m.seen == q.m.seen)) && (p.m.slot == q.m.slot)) && (p.m.gen == q.m.gen)) && (p.m.frame == q.m.frame)) && (p.m.code == q.m.code))) rfl (by rw [S]; decide) (Slim.wants_all rfl) (Slim.move_g rfl H65 (fun h => h)) fun a62 o => ?_
  replace S := o.size.trans S; replace D := o.defers.trans D
  replace H2 := Slim.stays o H2 (by decide)
  replace H3 := Slim.stays o H3 (by decide)
  have H66 : Slim.Has a62 66 true (.bool (((((((((p.m.kind == q.m.kind) && (p.m.frm == q.m.frm)) && (p.m.serial == q.m.serial)) && (p.m.ack == q.m.ack)) && (p.m.seen == q.m.seen)) && (p.m.slot == q.m.slot)) && (p.m.gen == q.m.gen)) && (p.m.frame == q.m.frame)) && (p.m.code == q.m.code))) := o.here
  clear H65
  clear o
  refine Slim.val_g (t := 67) (c := (true && ((((((((((p.m.kind == q.m.kind) && (p.m.frm == q.m.frm)) && (p.m.serial == q.m.serial)) && (p.m.ack == q.m.ack)) && (p.m.seen == q.m.seen)) && (p.m.slot == q.m.slot)) && (p.m.gen == q.m.gen)) && (p.m.frame == q.m.frame)) && (p.m.code == q.m.code)) == true))) (v := .pointer (some ⟨A, 9, none⟩)) rfl (by rw [S]; decide) (Slim.wanted_g rfl rfl H66) (Slim.field_g rfl H2 (fun _ => rfl) (by go_simp; first | done | rfl)) fun a63 o => ?_
  replace S := o.size.trans S; replace D := o.defers.trans D
  replace H2 := Slim.stays o H2 (by decide)
  replace H3 := Slim.stays o H3 (by decide)
  replace H66 := Slim.stays o H66 (by decide)
  have H67 : Slim.Has a63 67 (true && ((((((((((p.m.kind == q.m.kind) && (p.m.frm == q.m.frm)) && (p.m.serial == q.m.serial)) && (p.m.ack == q.m.ack)) && (p.m.seen == q.m.seen)) && (p.m.slot == q.m.slot)) && (p.m.gen == q.m.gen)) && (p.m.frame == q.m.frame)) && (p.m.code == q.m.code)) == true)) (.pointer (some ⟨A, 9, none⟩)) := o.here
  clear o
  refine Slim.val_g (t := 68) (c := (true && ((((((((((p.m.kind == q.m.kind) && (p.m.frm == q.m.frm)) && (p.m.serial == q.m.serial)) && (p.m.ack == q.m.ack)) && (p.m.seen == q.m.seen)) && (p.m.slot == q.m.slot)) && (p.m.gen == q.m.gen)) && (p.m.frame == q.m.frame)) && (p.m.code == q.m.code)) == true))) (v := .int .i64 p.m.n) rfl (by rw [S]; decide) (Slim.wanted_g rfl rfl H66) (Slim.load_g rfl H67 (fun h => h) (by have k := BX.out.cell 9; go_simp; first | done | rfl)) fun a64 o => ?_
  replace S := o.size.trans S; replace D := o.defers.trans D
  replace H2 := Slim.stays o H2 (by decide)
  replace H3 := Slim.stays o H3 (by decide)
  replace H66 := Slim.stays o H66 (by decide)
  have H68 : Slim.Has a64 68 (true && ((((((((((p.m.kind == q.m.kind) && (p.m.frm == q.m.frm)) && (p.m.serial == q.m.serial)) && (p.m.ack == q.m.ack)) && (p.m.seen == q.m.seen)) && (p.m.slot == q.m.slot)) && (p.m.gen == q.m.gen)) && (p.m.frame == q.m.frame)) && (p.m.code == q.m.code)) == true)) (.int .i64 p.m.n) := o.here
  clear H67
  clear o
  refine Slim.val_g (t := 69) (c := (true && ((((((((((p.m.kind == q.m.kind) && (p.m.frm == q.m.frm)) && (p.m.serial == q.m.serial)) && (p.m.ack == q.m.ack)) && (p.m.seen == q.m.seen)) && (p.m.slot == q.m.slot)) && (p.m.gen == q.m.gen)) && (p.m.frame == q.m.frame)) && (p.m.code == q.m.code)) == true))) (v := .pointer (some ⟨B, 9, none⟩)) rfl (by rw [S]; decide) (Slim.wanted_g rfl rfl H66) (Slim.field_g rfl H3 (fun _ => rfl) (by go_simp; first | done | rfl)) fun a65 o => ?_
  replace S := o.size.trans S; replace D := o.defers.trans D
  replace H2 := Slim.stays o H2 (by decide)
  replace H3 := Slim.stays o H3 (by decide)
  replace H66 := Slim.stays o H66 (by decide)
  replace H68 := Slim.stays o H68 (by decide)
  have H69 : Slim.Has a65 69 (true && ((((((((((p.m.kind == q.m.kind) && (p.m.frm == q.m.frm)) && (p.m.serial == q.m.serial)) && (p.m.ack == q.m.ack)) && (p.m.seen == q.m.seen)) && (p.m.slot == q.m.slot)) && (p.m.gen == q.m.gen)) && (p.m.frame == q.m.frame)) && (p.m.code == q.m.code)) == true)) (.pointer (some ⟨B, 9, none⟩)) := o.here
  clear o
  refine Slim.val_g (t := 70) (c := (true && ((((((((((p.m.kind == q.m.kind) && (p.m.frm == q.m.frm)) && (p.m.serial == q.m.serial)) && (p.m.ack == q.m.ack)) && (p.m.seen == q.m.seen)) && (p.m.slot == q.m.slot)) && (p.m.gen == q.m.gen)) && (p.m.frame == q.m.frame)) && (p.m.code == q.m.code)) == true))) (v := .int .i64 q.m.n) rfl (by rw [S]; decide) (Slim.wanted_g rfl rfl H66) (Slim.load_g rfl H69 (fun h => h) (by have k := BY.out.cell 9; go_simp; first | done | rfl)) fun a66 o => ?_
  replace S := o.size.trans S; replace D := o.defers.trans D
  replace H2 := Slim.stays o H2 (by decide)
  replace H3 := Slim.stays o H3 (by decide)
  replace H66 := Slim.stays o H66 (by decide)
  replace H68 := Slim.stays o H68 (by decide)
  have H70 : Slim.Has a66 70 (true && ((((((((((p.m.kind == q.m.kind) && (p.m.frm == q.m.frm)) && (p.m.serial == q.m.serial)) && (p.m.ack == q.m.ack)) && (p.m.seen == q.m.seen)) && (p.m.slot == q.m.slot)) && (p.m.gen == q.m.gen)) && (p.m.frame == q.m.frame)) && (p.m.code == q.m.code)) == true)) (.int .i64 q.m.n) := o.here
  clear H69
  clear o
  refine Slim.val_g (t := 71) (c := (true && ((((((((((p.m.kind == q.m.kind) && (p.m.frm == q.m.frm)) && (p.m.serial == q.m.serial)) && (p.m.ack == q.m.ack)) && (p.m.seen == q.m.seen)) && (p.m.slot == q.m.slot)) && (p.m.gen == q.m.gen)) && (p.m.frame == q.m.frame)) && (p.m.code == q.m.code)) == true))) (v := .bool (p.m.n == q.m.n)) rfl (by rw [S]; decide) (Slim.wanted_g rfl rfl H66) (Slim.bin2_g rfl H68 H70 (fun h => h) (fun h => h) (fun _ _ => Slim.cmp_eql)) fun a67 o => ?_
  replace S := o.size.trans S; replace D := o.defers.trans D
  replace H2 := Slim.stays o H2 (by decide)
  replace H3 := Slim.stays o H3 (by decide)
  replace H66 := Slim.stays o H66 (by decide)
  have H71 : Slim.Has a67 71 (true && ((((((((((p.m.kind == q.m.kind) && (p.m.frm == q.m.frm)) && (p.m.serial == q.m.serial)) && (p.m.ack == q.m.ack)) && (p.m.seen == q.m.seen)) && (p.m.slot == q.m.slot)) && (p.m.gen == q.m.gen)) && (p.m.frame == q.m.frame)) && (p.m.code == q.m.code)) == true)) (.bool (p.m.n == q.m.n)) := o.here
  clear H68
  clear H70
  clear o
  refine Slim.val_g (t := 72) (c := true) (v := .bool ((((((((((p.m.kind == q.m.kind) && (p.m.frm == q.m.frm)) && (p.m.serial == q.m.serial)) && (p.m.ack == q.m.ack)) && (p.m.seen == q.m.seen)) && (p.m.slot == q.m.slot)) && (p.m.gen == q.m.gen)) && (p.m.frame == q.m.frame)) && (p.m.code == q.m.code)) && (p.m.n == q.m.n))) rfl (by rw [S]; decide) (Slim.wants_all rfl) (Slim.and_g rfl H66 H71 (fun h => h) (fun h1 h2 => Bool.and_eq_true_iff.2 ⟨h1, by rw [h2]; rfl⟩)) fun a68 o => ?_
  replace S := o.size.trans S; replace D := o.defers.trans D
  replace H2 := Slim.stays o H2 (by decide)
  replace H3 := Slim.stays o H3 (by decide)
  have H72 : Slim.Has a68 72 true (.bool ((((((((((p.m.kind == q.m.kind) && (p.m.frm == q.m.frm)) && (p.m.serial == q.m.serial)) && (p.m.ack == q.m.ack)) && (p.m.seen == q.m.seen)) && (p.m.slot == q.m.slot)) && (p.m.gen == q.m.gen)) && (p.m.frame == q.m.frame)) && (p.m.code == q.m.code)) && (p.m.n == q.m.n))) := o.here
  clear H66
  clear H71
  clear o
  refine Slim.val_g (t := 73) (c := true) (v := .bool ((((((((((p.m.kind == q.m.kind) && (p.m.frm == q.m.frm)) && (p.m.serial == q.m.serial)) && (p.m.ack == q.m.ack)) && (p.m.seen == q.m.seen)) && (p.m.slot == q.m.slot)) && (p.m.gen == q.m.gen)) && (p.m.frame == q.m.frame)) && (p.m.code == q.m.code)) && (p.m.n == q.m.n))) rfl (by rw [S]; decide) (Slim.wants_all rfl) (Slim.move_g rfl H72 (fun h => h)) fun a69 o => ?_
  replace S := o.size.trans S; replace D := o.defers.trans D
  replace H2 := Slim.stays o H2 (by decide)
  replace H3 := Slim.stays o H3 (by decide)
  have H73 : Slim.Has a69 73 true (.bool ((((((((((p.m.kind == q.m.kind) && (p.m.frm == q.m.frm)) && (p.m.serial == q.m.serial)) && (p.m.ack == q.m.ack)) && (p.m.seen == q.m.seen)) && (p.m.slot == q.m.slot)) && (p.m.gen == q.m.gen)) && (p.m.frame == q.m.frame)) && (p.m.code == q.m.code)) && (p.m.n == q.m.n))) := o.here
  clear H72
  clear o
  refine Slim.val_g (t := 74) (c := (true && (((((((((((p.m.kind == q.m.kind) && (p.m.frm == q.m.frm)) && (p.m.serial == q.m.serial)) && (p.m.ack == q.m.ack)) && (p.m.seen == q.m.seen)) && (p.m.slot == q.m.slot)) && (p.m.gen == q.m.gen)) && (p.m.frame == q.m.frame)) && (p.m.code == q.m.code)) && (p.m.n == q.m.n)) == true))) (v := .pointer (some ⟨A, 10, none⟩)) rfl (by rw [S]; decide) (Slim.wanted_g rfl rfl H73) (Slim.field_g rfl H2 (fun _ => rfl) (by go_simp; first | done | rfl)) fun a70 o => ?_
  replace S := o.size.trans S; replace D := o.defers.trans D
  replace H2 := Slim.stays o H2 (by decide)
  replace H3 := Slim.stays o H3 (by decide)
  replace H73 := Slim.stays o H73 (by decide)
  have H74 : Slim.Has a70 74 (true && (((((((((((p.m.kind == q.m.kind) && (p.m.frm == q.m.frm)) && (p.m.serial == q.m.serial)) && (p.m.ack == q.m.ack)) && (p.m.seen == q.m.seen)) && (p.m.slot == q.m.slot)) && (p.m.gen == q.m.gen)) && (p.m.frame == q.m.frame)) && (p.m.code == q.m.code)) && (p.m.n == q.m.n)) == true)) (.pointer (some ⟨A, 10, none⟩)) := o.here
  clear o
  refine Slim.val_g (t := 75) (c := (true && (((((((((((p.m.kind == q.m.kind) && (p.m.frm == q.m.frm)) && (p.m.serial == q.m.serial)) && (p.m.ack == q.m.ack)) && (p.m.seen == q.m.seen)) && (p.m.slot == q.m.slot)) && (p.m.gen == q.m.gen)) && (p.m.frame == q.m.frame)) && (p.m.code == q.m.code)) && (p.m.n == q.m.n)) == true))) (v := .int .i64 p.m.of) rfl (by rw [S]; decide) (Slim.wanted_g rfl rfl H73) (Slim.load_g rfl H74 (fun h => h) (by have k := BX.out.cell 10; go_simp; first | done | rfl)) fun a71 o => ?_
  replace S := o.size.trans S; replace D := o.defers.trans D
  replace H2 := Slim.stays o H2 (by decide)
  replace H3 := Slim.stays o H3 (by decide)
  replace H73 := Slim.stays o H73 (by decide)
  have H75 : Slim.Has a71 75 (true && (((((((((((p.m.kind == q.m.kind) && (p.m.frm == q.m.frm)) && (p.m.serial == q.m.serial)) && (p.m.ack == q.m.ack)) && (p.m.seen == q.m.seen)) && (p.m.slot == q.m.slot)) && (p.m.gen == q.m.gen)) && (p.m.frame == q.m.frame)) && (p.m.code == q.m.code)) && (p.m.n == q.m.n)) == true)) (.int .i64 p.m.of) := o.here
  clear H74
  clear o
  refine Slim.val_g (t := 76) (c := (true && (((((((((((p.m.kind == q.m.kind) && (p.m.frm == q.m.frm)) && (p.m.serial == q.m.serial)) && (p.m.ack == q.m.ack)) && (p.m.seen == q.m.seen)) && (p.m.slot == q.m.slot)) && (p.m.gen == q.m.gen)) && (p.m.frame == q.m.frame)) && (p.m.code == q.m.code)) && (p.m.n == q.m.n)) == true))) (v := .pointer (some ⟨B, 10, none⟩)) rfl (by rw [S]; decide) (Slim.wanted_g rfl rfl H73) (Slim.field_g rfl H3 (fun _ => rfl) (by go_simp; first | done | rfl)) fun a72 o => ?_
  replace S := o.size.trans S; replace D := o.defers.trans D
  replace H2 := Slim.stays o H2 (by decide)
  replace H3 := Slim.stays o H3 (by decide)
  replace H73 := Slim.stays o H73 (by decide)
  replace H75 := Slim.stays o H75 (by decide)
  have H76 : Slim.Has a72 76 (true && (((((((((((p.m.kind == q.m.kind) && (p.m.frm == q.m.frm)) && (p.m.serial == q.m.serial)) && (p.m.ack == q.m.ack)) && (p.m.seen == q.m.seen)) && (p.m.slot == q.m.slot)) && (p.m.gen == q.m.gen)) && (p.m.frame == q.m.frame)) && (p.m.code == q.m.code)) && (p.m.n == q.m.n)) == true)) (.pointer (some ⟨B, 10, none⟩)) := o.here
  clear o
  refine Slim.val_g (t := 77) (c := (true && (((((((((((p.m.kind == q.m.kind) && (p.m.frm == q.m.frm)) && (p.m.serial == q.m.serial)) && (p.m.ack == q.m.ack)) && (p.m.seen == q.m.seen)) && (p.m.slot == q.m.slot)) && (p.m.gen == q.m.gen)) && (p.m.frame == q.m.frame)) && (p.m.code == q.m.code)) && (p.m.n == q.m.n)) == true))) (v := .int .i64 q.m.of) rfl (by rw [S]; decide) (Slim.wanted_g rfl rfl H73) (Slim.load_g rfl H76 (fun h => h) (by have k := BY.out.cell 10; go_simp; first | done | rfl)) fun a73 o => ?_
  replace S := o.size.trans S; replace D := o.defers.trans D
  replace H2 := Slim.stays o H2 (by decide)
  replace H3 := Slim.stays o H3 (by decide)
  replace H73 := Slim.stays o H73 (by decide)
  replace H75 := Slim.stays o H75 (by decide)
  have H77 : Slim.Has a73 77 (true && (((((((((((p.m.kind == q.m.kind) && (p.m.frm == q.m.frm)) && (p.m.serial == q.m.serial)) && (p.m.ack == q.m.ack)) && (p.m.seen == q.m.seen)) && (p.m.slot == q.m.slot)) && (p.m.gen == q.m.gen)) && (p.m.frame == q.m.frame)) && (p.m.code == q.m.code)) && (p.m.n == q.m.n)) == true)) (.int .i64 q.m.of) := o.here
  clear H76
  clear o
  refine Slim.val_g (t := 78) (c := (true && (((((((((((p.m.kind == q.m.kind) && (p.m.frm == q.m.frm)) && (p.m.serial == q.m.serial)) && (p.m.ack == q.m.ack)) && (p.m.seen == q.m.seen)) && (p.m.slot == q.m.slot)) && (p.m.gen == q.m.gen)) && (p.m.frame == q.m.frame)) && (p.m.code == q.m.code)) && (p.m.n == q.m.n)) == true))) (v := .bool (p.m.of == q.m.of)) rfl (by rw [S]; decide) (Slim.wanted_g rfl rfl H73) (Slim.bin2_g rfl H75 H77 (fun h => h) (fun h => h) (fun _ _ => Slim.cmp_eql)) fun a74 o => ?_
  replace S := o.size.trans S; replace D := o.defers.trans D
  replace H2 := Slim.stays o H2 (by decide)
  replace H3 := Slim.stays o H3 (by decide)
  replace H73 := Slim.stays o H73 (by decide)
  have H78 : Slim.Has a74 78 (true && (((((((((((p.m.kind == q.m.kind) && (p.m.frm == q.m.frm)) && (p.m.serial == q.m.serial)) && (p.m.ack == q.m.ack)) && (p.m.seen == q.m.seen)) && (p.m.slot == q.m.slot)) && (p.m.gen == q.m.gen)) && (p.m.frame == q.m.frame)) && (p.m.code == q.m.code)) && (p.m.n == q.m.n)) == true)) (.bool (p.m.of == q.m.of)) := o.here
  clear H75
  clear H77
  clear o
  refine Slim.val_g (t := 79) (c := true) (v := .bool (((((((((((p.m.kind == q.m.kind) && (p.m.frm == q.m.frm)) && (p.m.serial == q.m.serial)) && (p.m.ack == q.m.ack)) && (p.m.seen == q.m.seen)) && (p.m.slot == q.m.slot)) && (p.m.gen == q.m.gen)) && (p.m.frame == q.m.frame)) && (p.m.code == q.m.code)) && (p.m.n == q.m.n)) && (p.m.of == q.m.of))) rfl (by rw [S]; decide) (Slim.wants_all rfl) (Slim.and_g rfl H73 H78 (fun h => h) (fun h1 h2 => Bool.and_eq_true_iff.2 ⟨h1, by rw [h2]; rfl⟩)) fun a75 o => ?_
  replace S := o.size.trans S; replace D := o.defers.trans D
  replace H2 := Slim.stays o H2 (by decide)
  replace H3 := Slim.stays o H3 (by decide)
  have H79 : Slim.Has a75 79 true (.bool (((((((((((p.m.kind == q.m.kind) && (p.m.frm == q.m.frm)) && (p.m.serial == q.m.serial)) && (p.m.ack == q.m.ack)) && (p.m.seen == q.m.seen)) && (p.m.slot == q.m.slot)) && (p.m.gen == q.m.gen)) && (p.m.frame == q.m.frame)) && (p.m.code == q.m.code)) && (p.m.n == q.m.n)) && (p.m.of == q.m.of))) := o.here
  clear H73
  clear H78
  clear o
  refine Slim.val_g (t := 80) (c := true) (v := .bool (((((((((((p.m.kind == q.m.kind) && (p.m.frm == q.m.frm)) && (p.m.serial == q.m.serial)) && (p.m.ack == q.m.ack)) && (p.m.seen == q.m.seen)) && (p.m.slot == q.m.slot)) && (p.m.gen == q.m.gen)) && (p.m.frame == q.m.frame)) && (p.m.code == q.m.code)) && (p.m.n == q.m.n)) && (p.m.of == q.m.of))) rfl (by rw [S]; decide) (Slim.wants_all rfl) (Slim.move_g rfl H79 (fun h => h)) fun a76 o => ?_
  replace S := o.size.trans S; replace D := o.defers.trans D
  replace H2 := Slim.stays o H2 (by decide)
  replace H3 := Slim.stays o H3 (by decide)
  have H80 : Slim.Has a76 80 true (.bool (((((((((((p.m.kind == q.m.kind) && (p.m.frm == q.m.frm)) && (p.m.serial == q.m.serial)) && (p.m.ack == q.m.ack)) && (p.m.seen == q.m.seen)) && (p.m.slot == q.m.slot)) && (p.m.gen == q.m.gen)) && (p.m.frame == q.m.frame)) && (p.m.code == q.m.code)) && (p.m.n == q.m.n)) && (p.m.of == q.m.of))) := o.here
  clear H79
  clear o
  refine Slim.val_g (t := 81) (c := (true && ((((((((((((p.m.kind == q.m.kind) && (p.m.frm == q.m.frm)) && (p.m.serial == q.m.serial)) && (p.m.ack == q.m.ack)) && (p.m.seen == q.m.seen)) && (p.m.slot == q.m.slot)) && (p.m.gen == q.m.gen)) && (p.m.frame == q.m.frame)) && (p.m.code == q.m.code)) && (p.m.n == q.m.n)) && (p.m.of == q.m.of)) == true))) (v := .pointer (some ⟨A, 11, none⟩)) rfl (by rw [S]; decide) (Slim.wanted_g rfl rfl H80) (Slim.field_g rfl H2 (fun _ => rfl) (by go_simp; first | done | rfl)) fun a77 o => ?_
  replace S := o.size.trans S; replace D := o.defers.trans D
  replace H2 := Slim.stays o H2 (by decide)
  replace H3 := Slim.stays o H3 (by decide)
  replace H80 := Slim.stays o H80 (by decide)
  have H81 : Slim.Has a77 81 (true && ((((((((((((p.m.kind == q.m.kind) && (p.m.frm == q.m.frm)) && (p.m.serial == q.m.serial)) && (p.m.ack == q.m.ack)) && (p.m.seen == q.m.seen)) && (p.m.slot == q.m.slot)) && (p.m.gen == q.m.gen)) && (p.m.frame == q.m.frame)) && (p.m.code == q.m.code)) && (p.m.n == q.m.n)) && (p.m.of == q.m.of)) == true)) (.pointer (some ⟨A, 11, none⟩)) := o.here
  clear o
  refine Slim.val_g (t := 82) (c := (true && ((((((((((((p.m.kind == q.m.kind) && (p.m.frm == q.m.frm)) && (p.m.serial == q.m.serial)) && (p.m.ack == q.m.ack)) && (p.m.seen == q.m.seen)) && (p.m.slot == q.m.slot)) && (p.m.gen == q.m.gen)) && (p.m.frame == q.m.frame)) && (p.m.code == q.m.code)) && (p.m.n == q.m.n)) && (p.m.of == q.m.of)) == true))) (v := .int .u32 p.m.bits) rfl (by rw [S]; decide) (Slim.wanted_g rfl rfl H80) (Slim.load_g rfl H81 (fun h => h) (by have k := BX.out.cell 11; go_simp; first | done | rfl)) fun a78 o => ?_
  replace S := o.size.trans S; replace D := o.defers.trans D
  replace H2 := Slim.stays o H2 (by decide)
  replace H3 := Slim.stays o H3 (by decide)
  replace H80 := Slim.stays o H80 (by decide)
  have H82 : Slim.Has a78 82 (true && ((((((((((((p.m.kind == q.m.kind) && (p.m.frm == q.m.frm)) && (p.m.serial == q.m.serial)) && (p.m.ack == q.m.ack)) && (p.m.seen == q.m.seen)) && (p.m.slot == q.m.slot)) && (p.m.gen == q.m.gen)) && (p.m.frame == q.m.frame)) && (p.m.code == q.m.code)) && (p.m.n == q.m.n)) && (p.m.of == q.m.of)) == true)) (.int .u32 p.m.bits) := o.here
  clear H81
  clear o
  refine Slim.val_g (t := 83) (c := (true && ((((((((((((p.m.kind == q.m.kind) && (p.m.frm == q.m.frm)) && (p.m.serial == q.m.serial)) && (p.m.ack == q.m.ack)) && (p.m.seen == q.m.seen)) && (p.m.slot == q.m.slot)) && (p.m.gen == q.m.gen)) && (p.m.frame == q.m.frame)) && (p.m.code == q.m.code)) && (p.m.n == q.m.n)) && (p.m.of == q.m.of)) == true))) (v := .pointer (some ⟨B, 11, none⟩)) rfl (by rw [S]; decide) (Slim.wanted_g rfl rfl H80) (Slim.field_g rfl H3 (fun _ => rfl) (by go_simp; first | done | rfl)) fun a79 o => ?_
  replace S := o.size.trans S; replace D := o.defers.trans D
  replace H2 := Slim.stays o H2 (by decide)
  replace H3 := Slim.stays o H3 (by decide)
  replace H80 := Slim.stays o H80 (by decide)
  replace H82 := Slim.stays o H82 (by decide)
  have H83 : Slim.Has a79 83 (true && ((((((((((((p.m.kind == q.m.kind) && (p.m.frm == q.m.frm)) && (p.m.serial == q.m.serial)) && (p.m.ack == q.m.ack)) && (p.m.seen == q.m.seen)) && (p.m.slot == q.m.slot)) && (p.m.gen == q.m.gen)) && (p.m.frame == q.m.frame)) && (p.m.code == q.m.code)) && (p.m.n == q.m.n)) && (p.m.of == q.m.of)) == true)) (.pointer (some ⟨B, 11, none⟩)) := o.here
  clear o
  refine Slim.val_g (t := 84) (c := (true && ((((((((((((p.m.kind == q.m.kind) && (p.m.frm == q.m.frm)) && (p.m.serial == q.m.serial)) && (p.m.ack == q.m.ack)) && (p.m.seen == q.m.seen)) && (p.m.slot == q.m.slot)) && (p.m.gen == q.m.gen)) && (p.m.frame == q.m.frame)) && (p.m.code == q.m.code)) && (p.m.n == q.m.n)) && (p.m.of == q.m.of)) == true))) (v := .int .u32 q.m.bits) rfl (by rw [S]; decide) (Slim.wanted_g rfl rfl H80) (Slim.load_g rfl H83 (fun h => h) (by have k := BY.out.cell 11; go_simp; first | done | rfl)) fun a80 o => ?_
  replace S := o.size.trans S; replace D := o.defers.trans D
  replace H2 := Slim.stays o H2 (by decide)
  replace H3 := Slim.stays o H3 (by decide)
  replace H80 := Slim.stays o H80 (by decide)
  replace H82 := Slim.stays o H82 (by decide)
  have H84 : Slim.Has a80 84 (true && ((((((((((((p.m.kind == q.m.kind) && (p.m.frm == q.m.frm)) && (p.m.serial == q.m.serial)) && (p.m.ack == q.m.ack)) && (p.m.seen == q.m.seen)) && (p.m.slot == q.m.slot)) && (p.m.gen == q.m.gen)) && (p.m.frame == q.m.frame)) && (p.m.code == q.m.code)) && (p.m.n == q.m.n)) && (p.m.of == q.m.of)) == true)) (.int .u32 q.m.bits) := o.here
  clear H83
  clear o
  refine Slim.val_g (t := 85) (c := (true && ((((((((((((p.m.kind == q.m.kind) && (p.m.frm == q.m.frm)) && (p.m.serial == q.m.serial)) && (p.m.ack == q.m.ack)) && (p.m.seen == q.m.seen)) && (p.m.slot == q.m.slot)) && (p.m.gen == q.m.gen)) && (p.m.frame == q.m.frame)) && (p.m.code == q.m.code)) && (p.m.n == q.m.n)) && (p.m.of == q.m.of)) == true))) (v := .bool (p.m.bits == q.m.bits)) rfl (by rw [S]; decide) (Slim.wanted_g rfl rfl H80) (Slim.bin2_g rfl H82 H84 (fun h => h) (fun h => h) (fun _ _ => Slim.cmp_eql)) fun a81 o => ?_
  replace S := o.size.trans S; replace D := o.defers.trans D
  replace H2 := Slim.stays o H2 (by decide)
  replace H3 := Slim.stays o H3 (by decide)
  replace H80 := Slim.stays o H80 (by decide)
  have H85 : Slim.Has a81 85 (true && ((((((((((((p.m.kind == q.m.kind) && (p.m.frm == q.m.frm)) && (p.m.serial == q.m.serial)) && (p.m.ack == q.m.ack)) && (p.m.seen == q.m.seen)) && (p.m.slot == q.m.slot)) && (p.m.gen == q.m.gen)) && (p.m.frame == q.m.frame)) && (p.m.code == q.m.code)) && (p.m.n == q.m.n)) && (p.m.of == q.m.of)) == true)) (.bool (p.m.bits == q.m.bits)) := o.here
  clear H82
  clear H84
  clear o
  refine Slim.val_g (t := 86) (c := true) (v := .bool ((((((((((((p.m.kind == q.m.kind) && (p.m.frm == q.m.frm)) && (p.m.serial == q.m.serial)) && (p.m.ack == q.m.ack)) && (p.m.seen == q.m.seen)) && (p.m.slot == q.m.slot)) && (p.m.gen == q.m.gen)) && (p.m.frame == q.m.frame)) && (p.m.code == q.m.code)) && (p.m.n == q.m.n)) && (p.m.of == q.m.of)) && (p.m.bits == q.m.bits))) rfl (by rw [S]; decide) (Slim.wants_all rfl) (Slim.and_g rfl H80 H85 (fun h => h) (fun h1 h2 => Bool.and_eq_true_iff.2 ⟨h1, by rw [h2]; rfl⟩)) fun a82 o => ?_
  replace S := o.size.trans S; replace D := o.defers.trans D
  replace H2 := Slim.stays o H2 (by decide)
  replace H3 := Slim.stays o H3 (by decide)
  have H86 : Slim.Has a82 86 true (.bool ((((((((((((p.m.kind == q.m.kind) && (p.m.frm == q.m.frm)) && (p.m.serial == q.m.serial)) && (p.m.ack == q.m.ack)) && (p.m.seen == q.m.seen)) && (p.m.slot == q.m.slot)) && (p.m.gen == q.m.gen)) && (p.m.frame == q.m.frame)) && (p.m.code == q.m.code)) && (p.m.n == q.m.n)) && (p.m.of == q.m.of)) && (p.m.bits == q.m.bits))) := o.here
  clear H80
  clear H85
  clear o
  refine Slim.val_g (t := 87) (c := true) (v := .bool ((((((((((((p.m.kind == q.m.kind) && (p.m.frm == q.m.frm)) && (p.m.serial == q.m.serial)) && (p.m.ack == q.m.ack)) && (p.m.seen == q.m.seen)) && (p.m.slot == q.m.slot)) && (p.m.gen == q.m.gen)) && (p.m.frame == q.m.frame)) && (p.m.code == q.m.code)) && (p.m.n == q.m.n)) && (p.m.of == q.m.of)) && (p.m.bits == q.m.bits))) rfl (by rw [S]; decide) (Slim.wants_all rfl) (Slim.move_g rfl H86 (fun h => h)) fun a83 o => ?_
  replace S := o.size.trans S; replace D := o.defers.trans D
  replace H2 := Slim.stays o H2 (by decide)
  replace H3 := Slim.stays o H3 (by decide)
  have H87 : Slim.Has a83 87 true (.bool ((((((((((((p.m.kind == q.m.kind) && (p.m.frm == q.m.frm)) && (p.m.serial == q.m.serial)) && (p.m.ack == q.m.ack)) && (p.m.seen == q.m.seen)) && (p.m.slot == q.m.slot)) && (p.m.gen == q.m.gen)) && (p.m.frame == q.m.frame)) && (p.m.code == q.m.code)) && (p.m.n == q.m.n)) && (p.m.of == q.m.of)) && (p.m.bits == q.m.bits))) := o.here
  clear H86
  clear o
  refine Slim.val_g (t := 88) (c := (true && (((((((((((((p.m.kind == q.m.kind) && (p.m.frm == q.m.frm)) && (p.m.serial == q.m.serial)) && (p.m.ack == q.m.ack)) && (p.m.seen == q.m.seen)) && (p.m.slot == q.m.slot)) && (p.m.gen == q.m.gen)) && (p.m.frame == q.m.frame)) && (p.m.code == q.m.code)) && (p.m.n == q.m.n)) && (p.m.of == q.m.of)) && (p.m.bits == q.m.bits)) == true))) (v := .pointer (some ⟨A, 12, none⟩)) rfl (by rw [S]; decide) (Slim.wanted_g rfl rfl H87) (Slim.field_g rfl H2 (fun _ => rfl) (by go_simp; first | done | rfl)) fun a84 o => ?_
  replace S := o.size.trans S; replace D := o.defers.trans D
  replace H2 := Slim.stays o H2 (by decide)
  replace H3 := Slim.stays o H3 (by decide)
  replace H87 := Slim.stays o H87 (by decide)
  have H88 : Slim.Has a84 88 (true && (((((((((((((p.m.kind == q.m.kind) && (p.m.frm == q.m.frm)) && (p.m.serial == q.m.serial)) && (p.m.ack == q.m.ack)) && (p.m.seen == q.m.seen)) && (p.m.slot == q.m.slot)) && (p.m.gen == q.m.gen)) && (p.m.frame == q.m.frame)) && (p.m.code == q.m.code)) && (p.m.n == q.m.n)) && (p.m.of == q.m.of)) && (p.m.bits == q.m.bits)) == true)) (.pointer (some ⟨A, 12, none⟩)) := o.here
  clear o
  refine Slim.val_g (t := 89) (c := (true && (((((((((((((p.m.kind == q.m.kind) && (p.m.frm == q.m.frm)) && (p.m.serial == q.m.serial)) && (p.m.ack == q.m.ack)) && (p.m.seen == q.m.seen)) && (p.m.slot == q.m.slot)) && (p.m.gen == q.m.gen)) && (p.m.frame == q.m.frame)) && (p.m.code == q.m.code)) && (p.m.n == q.m.n)) && (p.m.of == q.m.of)) && (p.m.bits == q.m.bits)) == true))) (v := .int .u64 p.m.sum) rfl (by rw [S]; decide) (Slim.wanted_g rfl rfl H87) (Slim.load_g rfl H88 (fun h => h) (by have k := BX.out.cell 12; go_simp; first | done | rfl)) fun a85 o => ?_
  replace S := o.size.trans S; replace D := o.defers.trans D
  replace H2 := Slim.stays o H2 (by decide)
  replace H3 := Slim.stays o H3 (by decide)
  replace H87 := Slim.stays o H87 (by decide)
  have H89 : Slim.Has a85 89 (true && (((((((((((((p.m.kind == q.m.kind) && (p.m.frm == q.m.frm)) && (p.m.serial == q.m.serial)) && (p.m.ack == q.m.ack)) && (p.m.seen == q.m.seen)) && (p.m.slot == q.m.slot)) && (p.m.gen == q.m.gen)) && (p.m.frame == q.m.frame)) && (p.m.code == q.m.code)) && (p.m.n == q.m.n)) && (p.m.of == q.m.of)) && (p.m.bits == q.m.bits)) == true)) (.int .u64 p.m.sum) := o.here
  clear H88
  clear o
  refine Slim.val_g (t := 90) (c := (true && (((((((((((((p.m.kind == q.m.kind) && (p.m.frm == q.m.frm)) && (p.m.serial == q.m.serial)) && (p.m.ack == q.m.ack)) && (p.m.seen == q.m.seen)) && (p.m.slot == q.m.slot)) && (p.m.gen == q.m.gen)) && (p.m.frame == q.m.frame)) && (p.m.code == q.m.code)) && (p.m.n == q.m.n)) && (p.m.of == q.m.of)) && (p.m.bits == q.m.bits)) == true))) (v := .pointer (some ⟨B, 12, none⟩)) rfl (by rw [S]; decide) (Slim.wanted_g rfl rfl H87) (Slim.field_g rfl H3 (fun _ => rfl) (by go_simp; first | done | rfl)) fun a86 o => ?_
  replace S := o.size.trans S; replace D := o.defers.trans D
  replace H2 := Slim.stays o H2 (by decide)
  replace H3 := Slim.stays o H3 (by decide)
  replace H87 := Slim.stays o H87 (by decide)
  replace H89 := Slim.stays o H89 (by decide)
  have H90 : Slim.Has a86 90 (true && (((((((((((((p.m.kind == q.m.kind) && (p.m.frm == q.m.frm)) && (p.m.serial == q.m.serial)) && (p.m.ack == q.m.ack)) && (p.m.seen == q.m.seen)) && (p.m.slot == q.m.slot)) && (p.m.gen == q.m.gen)) && (p.m.frame == q.m.frame)) && (p.m.code == q.m.code)) && (p.m.n == q.m.n)) && (p.m.of == q.m.of)) && (p.m.bits == q.m.bits)) == true)) (.pointer (some ⟨B, 12, none⟩)) := o.here
  clear o
  refine Slim.val_g (t := 91) (c := (true && (((((((((((((p.m.kind == q.m.kind) && (p.m.frm == q.m.frm)) && (p.m.serial == q.m.serial)) && (p.m.ack == q.m.ack)) && (p.m.seen == q.m.seen)) && (p.m.slot == q.m.slot)) && (p.m.gen == q.m.gen)) && (p.m.frame == q.m.frame)) && (p.m.code == q.m.code)) && (p.m.n == q.m.n)) && (p.m.of == q.m.of)) && (p.m.bits == q.m.bits)) == true))) (v := .int .u64 q.m.sum) rfl (by rw [S]; decide) (Slim.wanted_g rfl rfl H87) (Slim.load_g rfl H90 (fun h => h) (by have k := BY.out.cell 12; go_simp; first | done | rfl)) fun a87 o => ?_
  replace S := o.size.trans S; replace D := o.defers.trans D
  replace H2 := Slim.stays o H2 (by decide)
  replace H3 := Slim.stays o H3 (by decide)
  replace H87 := Slim.stays o H87 (by decide)
  replace H89 := Slim.stays o H89 (by decide)
  have H91 : Slim.Has a87 91 (true && (((((((((((((p.m.kind == q.m.kind) && (p.m.frm == q.m.frm)) && (p.m.serial == q.m.serial)) && (p.m.ack == q.m.ack)) && (p.m.seen == q.m.seen)) && (p.m.slot == q.m.slot)) && (p.m.gen == q.m.gen)) && (p.m.frame == q.m.frame)) && (p.m.code == q.m.code)) && (p.m.n == q.m.n)) && (p.m.of == q.m.of)) && (p.m.bits == q.m.bits)) == true)) (.int .u64 q.m.sum) := o.here
  clear H90
  clear o
  refine Slim.val_g (t := 92) (c := (true && (((((((((((((p.m.kind == q.m.kind) && (p.m.frm == q.m.frm)) && (p.m.serial == q.m.serial)) && (p.m.ack == q.m.ack)) && (p.m.seen == q.m.seen)) && (p.m.slot == q.m.slot)) && (p.m.gen == q.m.gen)) && (p.m.frame == q.m.frame)) && (p.m.code == q.m.code)) && (p.m.n == q.m.n)) && (p.m.of == q.m.of)) && (p.m.bits == q.m.bits)) == true))) (v := .bool (p.m.sum == q.m.sum)) rfl (by rw [S]; decide) (Slim.wanted_g rfl rfl H87) (Slim.bin2_g rfl H89 H91 (fun h => h) (fun h => h) (fun _ _ => Slim.cmp_eql)) fun a88 o => ?_
  replace S := o.size.trans S; replace D := o.defers.trans D
  replace H2 := Slim.stays o H2 (by decide)
  replace H3 := Slim.stays o H3 (by decide)
  replace H87 := Slim.stays o H87 (by decide)
  have H92 : Slim.Has a88 92 (true && (((((((((((((p.m.kind == q.m.kind) && (p.m.frm == q.m.frm)) && (p.m.serial == q.m.serial)) && (p.m.ack == q.m.ack)) && (p.m.seen == q.m.seen)) && (p.m.slot == q.m.slot)) && (p.m.gen == q.m.gen)) && (p.m.frame == q.m.frame)) && (p.m.code == q.m.code)) && (p.m.n == q.m.n)) && (p.m.of == q.m.of)) && (p.m.bits == q.m.bits)) == true)) (.bool (p.m.sum == q.m.sum)) := o.here
  clear H89
  clear H91
  clear o
  refine Slim.val_g (t := 93) (c := true) (v := .bool (((((((((((((p.m.kind == q.m.kind) && (p.m.frm == q.m.frm)) && (p.m.serial == q.m.serial)) && (p.m.ack == q.m.ack)) && (p.m.seen == q.m.seen)) && (p.m.slot == q.m.slot)) && (p.m.gen == q.m.gen)) && (p.m.frame == q.m.frame)) && (p.m.code == q.m.code)) && (p.m.n == q.m.n)) && (p.m.of == q.m.of)) && (p.m.bits == q.m.bits)) && (p.m.sum == q.m.sum))) rfl (by rw [S]; decide) (Slim.wants_all rfl) (Slim.and_g rfl H87 H92 (fun h => h) (fun h1 h2 => Bool.and_eq_true_iff.2 ⟨h1, by rw [h2]; rfl⟩)) fun a89 o => ?_
  replace S := o.size.trans S; replace D := o.defers.trans D
  replace H2 := Slim.stays o H2 (by decide)
  replace H3 := Slim.stays o H3 (by decide)
  have H93 : Slim.Has a89 93 true (.bool (((((((((((((p.m.kind == q.m.kind) && (p.m.frm == q.m.frm)) && (p.m.serial == q.m.serial)) && (p.m.ack == q.m.ack)) && (p.m.seen == q.m.seen)) && (p.m.slot == q.m.slot)) && (p.m.gen == q.m.gen)) && (p.m.frame == q.m.frame)) && (p.m.code == q.m.code)) && (p.m.n == q.m.n)) && (p.m.of == q.m.of)) && (p.m.bits == q.m.bits)) && (p.m.sum == q.m.sum))) := o.here
  clear H87
  clear H92
  clear o
  refine Slim.val_g (t := 94) (c := true) (v := .bool (((((((((((((p.m.kind == q.m.kind) && (p.m.frm == q.m.frm)) && (p.m.serial == q.m.serial)) && (p.m.ack == q.m.ack)) && (p.m.seen == q.m.seen)) && (p.m.slot == q.m.slot)) && (p.m.gen == q.m.gen)) && (p.m.frame == q.m.frame)) && (p.m.code == q.m.code)) && (p.m.n == q.m.n)) && (p.m.of == q.m.of)) && (p.m.bits == q.m.bits)) && (p.m.sum == q.m.sum))) rfl (by rw [S]; decide) (Slim.wants_all rfl) (Slim.move_g rfl H93 (fun h => h)) fun a90 o => ?_
  replace S := o.size.trans S; replace D := o.defers.trans D
  replace H2 := Slim.stays o H2 (by decide)
  replace H3 := Slim.stays o H3 (by decide)
  have H94 : Slim.Has a90 94 true (.bool (((((((((((((p.m.kind == q.m.kind) && (p.m.frm == q.m.frm)) && (p.m.serial == q.m.serial)) && (p.m.ack == q.m.ack)) && (p.m.seen == q.m.seen)) && (p.m.slot == q.m.slot)) && (p.m.gen == q.m.gen)) && (p.m.frame == q.m.frame)) && (p.m.code == q.m.code)) && (p.m.n == q.m.n)) && (p.m.of == q.m.of)) && (p.m.bits == q.m.bits)) && (p.m.sum == q.m.sum))) := o.here
  clear H93
  clear o
  refine Slim.val_g (t := 95) (c := (true && ((((((((((((((p.m.kind == q.m.kind) && (p.m.frm == q.m.frm)) && (p.m.serial == q.m.serial)) && (p.m.ack == q.m.ack)) && (p.m.seen == q.m.seen)) && (p.m.slot == q.m.slot)) && (p.m.gen == q.m.gen)) && (p.m.frame == q.m.frame)) && (p.m.code == q.m.code)) && (p.m.n == q.m.n)) && (p.m.of == q.m.of)) && (p.m.bits == q.m.bits)) && (p.m.sum == q.m.sum)) == true))) (v := .pointer (some ⟨A, 13, none⟩)) rfl (by rw [S]; decide) (Slim.wanted_g rfl rfl H94) (Slim.field_g rfl H2 (fun _ => rfl) (by go_simp; first | done | rfl)) fun a91 o => ?_
  replace S := o.size.trans S; replace D := o.defers.trans D
  replace H2 := Slim.stays o H2 (by decide)
  replace H3 := Slim.stays o H3 (by decide)
  replace H94 := Slim.stays o H94 (by decide)
  have H95 : Slim.Has a91 95 (true && ((((((((((((((p.m.kind == q.m.kind) && (p.m.frm == q.m.frm)) && (p.m.serial == q.m.serial)) && (p.m.ack == q.m.ack)) && (p.m.seen == q.m.seen)) && (p.m.slot == q.m.slot)) && (p.m.gen == q.m.gen)) && (p.m.frame == q.m.frame)) && (p.m.code == q.m.code)) && (p.m.n == q.m.n)) && (p.m.of == q.m.of)) && (p.m.bits == q.m.bits)) && (p.m.sum == q.m.sum)) == true)) (.pointer (some ⟨A, 13, none⟩)) := o.here
  clear o
  refine Slim.val_g (t := 96) (c := (true && ((((((((((((((p.m.kind == q.m.kind) && (p.m.frm == q.m.frm)) && (p.m.serial == q.m.serial)) && (p.m.ack == q.m.ack)) && (p.m.seen == q.m.seen)) && (p.m.slot == q.m.slot)) && (p.m.gen == q.m.gen)) && (p.m.frame == q.m.frame)) && (p.m.code == q.m.code)) && (p.m.n == q.m.n)) && (p.m.of == q.m.of)) && (p.m.bits == q.m.bits)) && (p.m.sum == q.m.sum)) == true))) (v := .slice p.ai p.m.ins.length p.ci) rfl (by rw [S]; decide) (Slim.wanted_g rfl rfl H94) (Slim.load_g rfl H95 (fun h => h) (by have k := BX.out.cell 13; go_simp; first | done | rfl)) fun a92 o => ?_
  replace S := o.size.trans S; replace D := o.defers.trans D
  replace H2 := Slim.stays o H2 (by decide)
  replace H3 := Slim.stays o H3 (by decide)
  replace H94 := Slim.stays o H94 (by decide)
  have H96 : Slim.Has a92 96 (true && ((((((((((((((p.m.kind == q.m.kind) && (p.m.frm == q.m.frm)) && (p.m.serial == q.m.serial)) && (p.m.ack == q.m.ack)) && (p.m.seen == q.m.seen)) && (p.m.slot == q.m.slot)) && (p.m.gen == q.m.gen)) && (p.m.frame == q.m.frame)) && (p.m.code == q.m.code)) && (p.m.n == q.m.n)) && (p.m.of == q.m.of)) && (p.m.bits == q.m.bits)) && (p.m.sum == q.m.sum)) == true)) (.slice p.ai p.m.ins.length p.ci) := o.here
  clear H95
  clear o
  refine Slim.val_g (t := 97) (c := (true && ((((((((((((((p.m.kind == q.m.kind) && (p.m.frm == q.m.frm)) && (p.m.serial == q.m.serial)) && (p.m.ack == q.m.ack)) && (p.m.seen == q.m.seen)) && (p.m.slot == q.m.slot)) && (p.m.gen == q.m.gen)) && (p.m.frame == q.m.frame)) && (p.m.code == q.m.code)) && (p.m.n == q.m.n)) && (p.m.of == q.m.of)) && (p.m.bits == q.m.bits)) && (p.m.sum == q.m.sum)) == true))) (v := .pointer (some ⟨B, 13, none⟩)) rfl (by rw [S]; decide) (Slim.wanted_g rfl rfl H94) (Slim.field_g rfl H3 (fun _ => rfl) (by go_simp; first | done | rfl)) fun a93 o => ?_
  replace S := o.size.trans S; replace D := o.defers.trans D
  replace H2 := Slim.stays o H2 (by decide)
  replace H3 := Slim.stays o H3 (by decide)
  replace H94 := Slim.stays o H94 (by decide)
  replace H96 := Slim.stays o H96 (by decide)
  have H97 : Slim.Has a93 97 (true && ((((((((((((((p.m.kind == q.m.kind) && (p.m.frm == q.m.frm)) && (p.m.serial == q.m.serial)) && (p.m.ack == q.m.ack)) && (p.m.seen == q.m.seen)) && (p.m.slot == q.m.slot)) && (p.m.gen == q.m.gen)) && (p.m.frame == q.m.frame)) && (p.m.code == q.m.code)) && (p.m.n == q.m.n)) && (p.m.of == q.m.of)) && (p.m.bits == q.m.bits)) && (p.m.sum == q.m.sum)) == true)) (.pointer (some ⟨B, 13, none⟩)) := o.here
  clear o
  refine Slim.val_g (t := 98) (c := (true && ((((((((((((((p.m.kind == q.m.kind) && (p.m.frm == q.m.frm)) && (p.m.serial == q.m.serial)) && (p.m.ack == q.m.ack)) && (p.m.seen == q.m.seen)) && (p.m.slot == q.m.slot)) && (p.m.gen == q.m.gen)) && (p.m.frame == q.m.frame)) && (p.m.code == q.m.code)) && (p.m.n == q.m.n)) && (p.m.of == q.m.of)) && (p.m.bits == q.m.bits)) && (p.m.sum == q.m.sum)) == true))) (v := .slice q.ai q.m.ins.length q.ci) rfl (by rw [S]; decide) (Slim.wanted_g rfl rfl H94) (Slim.load_g rfl H97 (fun h => h) (by have k := BY.out.cell 13; go_simp; first | done | rfl)) fun a94 o => ?_
  replace S := o.size.trans S; replace D := o.defers.trans D
  replace H2 := Slim.stays o H2 (by decide)
  replace H3 := Slim.stays o H3 (by decide)
  replace H94 := Slim.stays o H94 (by decide)
  replace H96 := Slim.stays o H96 (by decide)
  have H98 : Slim.Has a94 98 (true && ((((((((((((((p.m.kind == q.m.kind) && (p.m.frm == q.m.frm)) && (p.m.serial == q.m.serial)) && (p.m.ack == q.m.ack)) && (p.m.seen == q.m.seen)) && (p.m.slot == q.m.slot)) && (p.m.gen == q.m.gen)) && (p.m.frame == q.m.frame)) && (p.m.code == q.m.code)) && (p.m.n == q.m.n)) && (p.m.of == q.m.of)) && (p.m.bits == q.m.bits)) && (p.m.sum == q.m.sum)) == true)) (.slice q.ai q.m.ins.length q.ci) := o.here
  clear H97
  clear o
  refine Slim.call_g (t := 99) (c := (true && ((((((((((((((p.m.kind == q.m.kind) && (p.m.frm == q.m.frm)) && (p.m.serial == q.m.serial)) && (p.m.ack == q.m.ack)) && (p.m.seen == q.m.seen)) && (p.m.slot == q.m.slot)) && (p.m.gen == q.m.gen)) && (p.m.frame == q.m.frame)) && (p.m.code == q.m.code)) && (p.m.n == q.m.n)) && (p.m.of == q.m.of)) && (p.m.bits == q.m.bits)) && (p.m.sum == q.m.sum)) == true))) (v := .bool (decide (p.m.ins = q.m.ins))) rfl (by rw [S]; decide) (Slim.wanted_g rfl rfl H94) (Slim.calls22_g rfl H96 H98 (fun h => h) (fun h => h) (by go_simp; first | done | rfl)) (fun _ => inseq_any p.m.ins q.m.ins p.ai q.ai _ _ p.ci q.ci _ rfl rfl LP.out.fi LQ.out.fi ((LP.out.ins.below KB.out).wider KB.out.size) ((LQ.out.ins.below KB.out).wider KB.out.size)) fun a95 W1 o hb => ?_
  replace BX := Lib.hid (BX.out.below hb BX.out.lt); replace BY := Lib.hid (BY.out.below hb BY.out.lt); replace KB := Lib.hid (KB.out.trans (hb.mono KB.out.size)); clear hb
  replace S := o.size.trans S; replace D := o.defers.trans D
  replace H2 := Slim.stays o H2 (by decide)
  replace H3 := Slim.stays o H3 (by decide)
  replace H94 := Slim.stays o H94 (by decide)
  have H99 : Slim.Has a95 99 (true && ((((((((((((((p.m.kind == q.m.kind) && (p.m.frm == q.m.frm)) && (p.m.serial == q.m.serial)) && (p.m.ack == q.m.ack)) && (p.m.seen == q.m.seen)) && (p.m.slot == q.m.slot)) && (p.m.gen == q.m.gen)) && (p.m.frame == q.m.frame)) && (p.m.code == q.m.code)) && (p.m.n == q.m.n)) && (p.m.of == q.m.of)) && (p.m.bits == q.m.bits)) && (p.m.sum == q.m.sum)) == true)) (.bool (decide (p.m.ins = q.m.ins))) := o.here
  clear H96
  clear H98
  clear o
  refine Slim.val_g (t := 100) (c := true) (v := .bool ((((((((((((((p.m.kind == q.m.kind) && (p.m.frm == q.m.frm)) && (p.m.serial == q.m.serial)) && (p.m.ack == q.m.ack)) && (p.m.seen == q.m.seen)) && (p.m.slot == q.m.slot)) && (p.m.gen == q.m.gen)) && (p.m.frame == q.m.frame)) && (p.m.code == q.m.code)) && (p.m.n == q.m.n)) && (p.m.of == q.m.of)) && (p.m.bits == q.m.bits)) && (p.m.sum == q.m.sum)) && (decide (p.m.ins = q.m.ins)))) rfl (by rw [S]; decide) (Slim.wants_all rfl) (Slim.and_g rfl H94 H99 (fun h => h) (fun h1 h2 => Bool.and_eq_true_iff.2 ⟨h1, by rw [h2]; rfl⟩)) fun a96 o => ?_
  replace S := o.size.trans S; replace D := o.defers.trans D
  replace H2 := Slim.stays o H2 (by decide)
  replace H3 := Slim.stays o H3 (by decide)
  have H100 : Slim.Has a96 100 true (.bool ((((((((((((((p.m.kind == q.m.kind) && (p.m.frm == q.m.frm)) && (p.m.serial == q.m.serial)) && (p.m.ack == q.m.ack)) && (p.m.seen == q.m.seen)) && (p.m.slot == q.m.slot)) && (p.m.gen == q.m.gen)) && (p.m.frame == q.m.frame)) && (p.m.code == q.m.code)) && (p.m.n == q.m.n)) && (p.m.of == q.m.of)) && (p.m.bits == q.m.bits)) && (p.m.sum == q.m.sum)) && (decide (p.m.ins = q.m.ins)))) := o.here
  clear H94
  clear H99
  clear o
  refine Slim.val_g (t := 101) (c := true) (v := .bool ((((((((((((((p.m.kind == q.m.kind) && (p.m.frm == q.m.frm)) && (p.m.serial == q.m.serial)) && (p.m.ack == q.m.ack)) && (p.m.seen == q.m.seen)) && (p.m.slot == q.m.slot)) && (p.m.gen == q.m.gen)) && (p.m.frame == q.m.frame)) && (p.m.code == q.m.code)) && (p.m.n == q.m.n)) && (p.m.of == q.m.of)) && (p.m.bits == q.m.bits)) && (p.m.sum == q.m.sum)) && (decide (p.m.ins = q.m.ins)))) rfl (by rw [S]; decide) (Slim.wants_all rfl) (Slim.move_g rfl H100 (fun h => h)) fun a97 o => ?_
  replace S := o.size.trans S; replace D := o.defers.trans D
  replace H2 := Slim.stays o H2 (by decide)
  replace H3 := Slim.stays o H3 (by decide)
  have H101 : Slim.Has a97 101 true (.bool ((((((((((((((p.m.kind == q.m.kind) && (p.m.frm == q.m.frm)) && (p.m.serial == q.m.serial)) && (p.m.ack == q.m.ack)) && (p.m.seen == q.m.seen)) && (p.m.slot == q.m.slot)) && (p.m.gen == q.m.gen)) && (p.m.frame == q.m.frame)) && (p.m.code == q.m.code)) && (p.m.n == q.m.n)) && (p.m.of == q.m.of)) && (p.m.bits == q.m.bits)) && (p.m.sum == q.m.sum)) && (decide (p.m.ins = q.m.ins)))) := o.here
  clear H100
  clear o
  refine Slim.val_g (t := 102) (c := (true && (((((((((((((((p.m.kind == q.m.kind) && (p.m.frm == q.m.frm)) && (p.m.serial == q.m.serial)) && (p.m.ack == q.m.ack)) && (p.m.seen == q.m.seen)) && (p.m.slot == q.m.slot)) && (p.m.gen == q.m.gen)) && (p.m.frame == q.m.frame)) && (p.m.code == q.m.code)) && (p.m.n == q.m.n)) && (p.m.of == q.m.of)) && (p.m.bits == q.m.bits)) && (p.m.sum == q.m.sum)) && (decide (p.m.ins = q.m.ins))) == true))) (v := .pointer (some ⟨A, 14, none⟩)) rfl (by rw [S]; decide) (Slim.wanted_g rfl rfl H101) (Slim.field_g rfl H2 (fun _ => rfl) (by go_simp; first | done | rfl)) fun a98 o => ?_
  replace S := o.size.trans S; replace D := o.defers.trans D
  replace H2 := Slim.stays o H2 (by decide)
  replace H3 := Slim.stays o H3 (by decide)
  replace H101 := Slim.stays o H101 (by decide)
  have H102 : Slim.Has a98 102 (true && (((((((((((((((p.m.kind == q.m.kind) && (p.m.frm == q.m.frm)) && (p.m.serial == q.m.serial)) && (p.m.ack == q.m.ack)) && (p.m.seen == q.m.seen)) && (p.m.slot == q.m.slot)) && (p.m.gen == q.m.gen)) && (p.m.frame == q.m.frame)) && (p.m.code == q.m.code)) && (p.m.n == q.m.n)) && (p.m.of == q.m.of)) && (p.m.bits == q.m.bits)) && (p.m.sum == q.m.sum)) && (decide (p.m.ins = q.m.ins))) == true)) (.pointer (some ⟨A, 14, none⟩)) := o.here
  clear o
  refine Slim.val_g (t := 103) (c := (true && (((((((((((((((p.m.kind == q.m.kind) && (p.m.frm == q.m.frm)) && (p.m.serial == q.m.serial)) && (p.m.ack == q.m.ack)) && (p.m.seen == q.m.seen)) && (p.m.slot == q.m.slot)) && (p.m.gen == q.m.gen)) && (p.m.frame == q.m.frame)) && (p.m.code == q.m.code)) && (p.m.n == q.m.n)) && (p.m.of == q.m.of)) && (p.m.bits == q.m.bits)) && (p.m.sum == q.m.sum)) && (decide (p.m.ins = q.m.ins))) == true))) (v := .slice p.al p.m.log.length p.cl) rfl (by rw [S]; decide) (Slim.wanted_g rfl rfl H101) (Slim.load_g rfl H102 (fun h => h) (by have k := BX.out.cell 14; go_simp; first | done | rfl)) fun a99 o => ?_
  replace S := o.size.trans S; replace D := o.defers.trans D
  replace H2 := Slim.stays o H2 (by decide)
  replace H3 := Slim.stays o H3 (by decide)
  replace H101 := Slim.stays o H101 (by decide)
  have H103 : Slim.Has a99 103 (true && (((((((((((((((p.m.kind == q.m.kind) && (p.m.frm == q.m.frm)) && (p.m.serial == q.m.serial)) && (p.m.ack == q.m.ack)) && (p.m.seen == q.m.seen)) && (p.m.slot == q.m.slot)) && (p.m.gen == q.m.gen)) && (p.m.frame == q.m.frame)) && (p.m.code == q.m.code)) && (p.m.n == q.m.n)) && (p.m.of == q.m.of)) && (p.m.bits == q.m.bits)) && (p.m.sum == q.m.sum)) && (decide (p.m.ins = q.m.ins))) == true)) (.slice p.al p.m.log.length p.cl) := o.here
  clear H102
  clear o
  refine Slim.val_g (t := 104) (c := (true && (((((((((((((((p.m.kind == q.m.kind) && (p.m.frm == q.m.frm)) && (p.m.serial == q.m.serial)) && (p.m.ack == q.m.ack)) && (p.m.seen == q.m.seen)) && (p.m.slot == q.m.slot)) && (p.m.gen == q.m.gen)) && (p.m.frame == q.m.frame)) && (p.m.code == q.m.code)) && (p.m.n == q.m.n)) && (p.m.of == q.m.of)) && (p.m.bits == q.m.bits)) && (p.m.sum == q.m.sum)) && (decide (p.m.ins = q.m.ins))) == true))) (v := .pointer (some ⟨B, 14, none⟩)) rfl (by rw [S]; decide) (Slim.wanted_g rfl rfl H101) (Slim.field_g rfl H3 (fun _ => rfl) (by go_simp; first | done | rfl)) fun a100 o => ?_
  replace S := o.size.trans S; replace D := o.defers.trans D
  replace H2 := Slim.stays o H2 (by decide)
  replace H3 := Slim.stays o H3 (by decide)
  replace H101 := Slim.stays o H101 (by decide)
  replace H103 := Slim.stays o H103 (by decide)
  have H104 : Slim.Has a100 104 (true && (((((((((((((((p.m.kind == q.m.kind) && (p.m.frm == q.m.frm)) && (p.m.serial == q.m.serial)) && (p.m.ack == q.m.ack)) && (p.m.seen == q.m.seen)) && (p.m.slot == q.m.slot)) && (p.m.gen == q.m.gen)) && (p.m.frame == q.m.frame)) && (p.m.code == q.m.code)) && (p.m.n == q.m.n)) && (p.m.of == q.m.of)) && (p.m.bits == q.m.bits)) && (p.m.sum == q.m.sum)) && (decide (p.m.ins = q.m.ins))) == true)) (.pointer (some ⟨B, 14, none⟩)) := o.here
  clear o
  refine Slim.val_g (t := 105) (c := (true && (((((((((((((((p.m.kind == q.m.kind) && (p.m.frm == q.m.frm)) && (p.m.serial == q.m.serial)) && (p.m.ack == q.m.ack)) && (p.m.seen == q.m.seen)) && (p.m.slot == q.m.slot)) && (p.m.gen == q.m.gen)) && (p.m.frame == q.m.frame)) && (p.m.code == q.m.code)) && (p.m.n == q.m.n)) && (p.m.of == q.m.of)) && (p.m.bits == q.m.bits)) && (p.m.sum == q.m.sum)) && (decide (p.m.ins = q.m.ins))) == true))) (v := .slice q.al q.m.log.length q.cl) rfl (by rw [S]; decide) (Slim.wanted_g rfl rfl H101) (Slim.load_g rfl H104 (fun h => h) (by have k := BY.out.cell 14; go_simp; first | done | rfl)) fun a101 o => ?_
  replace S := o.size.trans S; replace D := o.defers.trans D
  replace H2 := Slim.stays o H2 (by decide)
  replace H3 := Slim.stays o H3 (by decide)
  replace H101 := Slim.stays o H101 (by decide)
  replace H103 := Slim.stays o H103 (by decide)
  have H105 : Slim.Has a101 105 (true && (((((((((((((((p.m.kind == q.m.kind) && (p.m.frm == q.m.frm)) && (p.m.serial == q.m.serial)) && (p.m.ack == q.m.ack)) && (p.m.seen == q.m.seen)) && (p.m.slot == q.m.slot)) && (p.m.gen == q.m.gen)) && (p.m.frame == q.m.frame)) && (p.m.code == q.m.code)) && (p.m.n == q.m.n)) && (p.m.of == q.m.of)) && (p.m.bits == q.m.bits)) && (p.m.sum == q.m.sum)) && (decide (p.m.ins = q.m.ins))) == true)) (.slice q.al q.m.log.length q.cl) := o.here
  clear H104
  clear o
  refine Slim.call_g (t := 106) (c := (true && (((((((((((((((p.m.kind == q.m.kind) && (p.m.frm == q.m.frm)) && (p.m.serial == q.m.serial)) && (p.m.ack == q.m.ack)) && (p.m.seen == q.m.seen)) && (p.m.slot == q.m.slot)) && (p.m.gen == q.m.gen)) && (p.m.frame == q.m.frame)) && (p.m.code == q.m.code)) && (p.m.n == q.m.n)) && (p.m.of == q.m.of)) && (p.m.bits == q.m.bits)) && (p.m.sum == q.m.sum)) && (decide (p.m.ins = q.m.ins))) == true))) (v := .bool (En.eqB p.m.log q.m.log)) rfl (by rw [S]; decide) (Slim.wanted_g rfl rfl H101) (Slim.callsf_g (f := 48) (xs := [.tmp 103, .tmp 105, .func 49]) (vs := [.slice p.al p.m.log.length p.cl, .slice q.al q.m.log.length q.cl, .func (.func 49) #[] #[]]) (args := #[.slice p.al p.m.log.length p.cl, .slice q.al q.m.log.length q.cl, .func (.func 49) #[] #[]]) rfl (fun h0 => by simp only [List.map_cons, List.map_nil, Slim.pres H103 ((fun h => h) h0), Slim.pres H105 ((fun h => h) h0)]; rfl) rfl (by go_simp; first | done | rfl)) (fun _ => eqfunc_any p.m.log q.m.log p.al q.al _ _ p.cl q.cl _ LP.out.fl LQ.out.fl ((LP.out.log.below KB.out).wider KB.out.size) ((LQ.out.log.below KB.out).wider KB.out.size)) fun a102 W2 o hb => ?_
  replace BX := Lib.hid (BX.out.below hb BX.out.lt); replace BY := Lib.hid (BY.out.below hb BY.out.lt); replace KB := Lib.hid (KB.out.trans (hb.mono KB.out.size)); clear hb
  replace S := o.size.trans S; replace D := o.defers.trans D
  replace H2 := Slim.stays o H2 (by decide)
  replace H3 := Slim.stays o H3 (by decide)
  replace H101 := Slim.stays o H101 (by decide)
  have H106 : Slim.Has a102 106 (true && (((((((((((((((p.m.kind == q.m.kind) && (p.m.frm == q.m.frm)) && (p.m.serial == q.m.serial)) && (p.m.ack == q.m.ack)) && (p.m.seen == q.m.seen)) && (p.m.slot == q.m.slot)) && (p.m.gen == q.m.gen)) && (p.m.frame == q.m.frame)) && (p.m.code == q.m.code)) && (p.m.n == q.m.n)) && (p.m.of == q.m.of)) && (p.m.bits == q.m.bits)) && (p.m.sum == q.m.sum)) && (decide (p.m.ins = q.m.ins))) == true)) (.bool (En.eqB p.m.log q.m.log)) := o.here
  clear H103
  clear H105
  clear o
  refine Slim.val_g (t := 107) (c := true) (v := .bool (((((((((((((((p.m.kind == q.m.kind) && (p.m.frm == q.m.frm)) && (p.m.serial == q.m.serial)) && (p.m.ack == q.m.ack)) && (p.m.seen == q.m.seen)) && (p.m.slot == q.m.slot)) && (p.m.gen == q.m.gen)) && (p.m.frame == q.m.frame)) && (p.m.code == q.m.code)) && (p.m.n == q.m.n)) && (p.m.of == q.m.of)) && (p.m.bits == q.m.bits)) && (p.m.sum == q.m.sum)) && (decide (p.m.ins = q.m.ins))) && (En.eqB p.m.log q.m.log))) rfl (by rw [S]; decide) (Slim.wants_all rfl) (Slim.and_g rfl H101 H106 (fun h => h) (fun h1 h2 => Bool.and_eq_true_iff.2 ⟨h1, by rw [h2]; rfl⟩)) fun a103 o => ?_
  replace S := o.size.trans S; replace D := o.defers.trans D
  replace H2 := Slim.stays o H2 (by decide)
  replace H3 := Slim.stays o H3 (by decide)
  have H107 : Slim.Has a103 107 true (.bool (((((((((((((((p.m.kind == q.m.kind) && (p.m.frm == q.m.frm)) && (p.m.serial == q.m.serial)) && (p.m.ack == q.m.ack)) && (p.m.seen == q.m.seen)) && (p.m.slot == q.m.slot)) && (p.m.gen == q.m.gen)) && (p.m.frame == q.m.frame)) && (p.m.code == q.m.code)) && (p.m.n == q.m.n)) && (p.m.of == q.m.of)) && (p.m.bits == q.m.bits)) && (p.m.sum == q.m.sum)) && (decide (p.m.ins = q.m.ins))) && (En.eqB p.m.log q.m.log))) := o.here
  clear H101
  clear H106
  clear o
  refine Slim.val_g (t := 108) (c := true) (v := .bool (((((((((((((((p.m.kind == q.m.kind) && (p.m.frm == q.m.frm)) && (p.m.serial == q.m.serial)) && (p.m.ack == q.m.ack)) && (p.m.seen == q.m.seen)) && (p.m.slot == q.m.slot)) && (p.m.gen == q.m.gen)) && (p.m.frame == q.m.frame)) && (p.m.code == q.m.code)) && (p.m.n == q.m.n)) && (p.m.of == q.m.of)) && (p.m.bits == q.m.bits)) && (p.m.sum == q.m.sum)) && (decide (p.m.ins = q.m.ins))) && (En.eqB p.m.log q.m.log))) rfl (by rw [S]; decide) (Slim.wants_all rfl) (Slim.move_g rfl H107 (fun h => h)) fun a104 o => ?_
  replace S := o.size.trans S; replace D := o.defers.trans D
  replace H2 := Slim.stays o H2 (by decide)
  replace H3 := Slim.stays o H3 (by decide)
  have H108 : Slim.Has a104 108 true (.bool (((((((((((((((p.m.kind == q.m.kind) && (p.m.frm == q.m.frm)) && (p.m.serial == q.m.serial)) && (p.m.ack == q.m.ack)) && (p.m.seen == q.m.seen)) && (p.m.slot == q.m.slot)) && (p.m.gen == q.m.gen)) && (p.m.frame == q.m.frame)) && (p.m.code == q.m.code)) && (p.m.n == q.m.n)) && (p.m.of == q.m.of)) && (p.m.bits == q.m.bits)) && (p.m.sum == q.m.sum)) && (decide (p.m.ins = q.m.ins))) && (En.eqB p.m.log q.m.log))) := o.here
  clear H107
  clear o
  refine Slim.val_g (t := 109) (c := (true && ((((((((((((((((p.m.kind == q.m.kind) && (p.m.frm == q.m.frm)) && (p.m.serial == q.m.serial)) && (p.m.ack == q.m.ack)) && (p.m.seen == q.m.seen)) && (p.m.slot == q.m.slot)) && (p.m.gen == q.m.gen)) && (p.m.frame == q.m.frame)) && (p.m.code == q.m.code)) && (p.m.n == q.m.n)) && (p.m.of == q.m.of)) && (p.m.bits == q.m.bits)) && (p.m.sum == q.m.sum)) && (decide (p.m.ins = q.m.ins))) && (En.eqB p.m.log q.m.log)) == true))) (v := .pointer (some ⟨A, 15, none⟩)) rfl (by rw [S]; decide) (Slim.wanted_g rfl rfl H108) (Slim.field_g rfl H2 (fun _ => rfl) (by go_simp; first | done | rfl)) fun a105 o => ?_
  replace S := o.size.trans S; replace D := o.defers.trans D
  replace H3 := Slim.stays o H3 (by decide)
  replace H108 := Slim.stays o H108 (by decide)
  have H109 : Slim.Has a105 109 (true && ((((((((((((((((p.m.kind == q.m.kind) && (p.m.frm == q.m.frm)) && (p.m.serial == q.m.serial)) && (p.m.ack == q.m.ack)) && (p.m.seen == q.m.seen)) && (p.m.slot == q.m.slot)) && (p.m.gen == q.m.gen)) && (p.m.frame == q.m.frame)) && (p.m.code == q.m.code)) && (p.m.n == q.m.n)) && (p.m.of == q.m.of)) && (p.m.bits == q.m.bits)) && (p.m.sum == q.m.sum)) && (decide (p.m.ins = q.m.ins))) && (En.eqB p.m.log q.m.log)) == true)) (.pointer (some ⟨A, 15, none⟩)) := o.here
  clear H2
  clear o
  refine Slim.val_g (t := 110) (c := (true && ((((((((((((((((p.m.kind == q.m.kind) && (p.m.frm == q.m.frm)) && (p.m.serial == q.m.serial)) && (p.m.ack == q.m.ack)) && (p.m.seen == q.m.seen)) && (p.m.slot == q.m.slot)) && (p.m.gen == q.m.gen)) && (p.m.frame == q.m.frame)) && (p.m.code == q.m.code)) && (p.m.n == q.m.n)) && (p.m.of == q.m.of)) && (p.m.bits == q.m.bits)) && (p.m.sum == q.m.sum)) && (decide (p.m.ins = q.m.ins))) && (En.eqB p.m.log q.m.log)) == true))) (v := .slice p.ad p.m.data.length p.cd) rfl (by rw [S]; decide) (Slim.wanted_g rfl rfl H108) (Slim.load_g rfl H109 (fun h => h) (by have k := BX.out.cell 15; go_simp; first | done | rfl)) fun a106 o => ?_
  replace S := o.size.trans S; replace D := o.defers.trans D
  replace H3 := Slim.stays o H3 (by decide)
  replace H108 := Slim.stays o H108 (by decide)
  have H110 : Slim.Has a106 110 (true && ((((((((((((((((p.m.kind == q.m.kind) && (p.m.frm == q.m.frm)) && (p.m.serial == q.m.serial)) && (p.m.ack == q.m.ack)) && (p.m.seen == q.m.seen)) && (p.m.slot == q.m.slot)) && (p.m.gen == q.m.gen)) && (p.m.frame == q.m.frame)) && (p.m.code == q.m.code)) && (p.m.n == q.m.n)) && (p.m.of == q.m.of)) && (p.m.bits == q.m.bits)) && (p.m.sum == q.m.sum)) && (decide (p.m.ins = q.m.ins))) && (En.eqB p.m.log q.m.log)) == true)) (.slice p.ad p.m.data.length p.cd) := o.here
  clear H109
  clear o
  refine Slim.val_g (t := 111) (c := (true && ((((((((((((((((p.m.kind == q.m.kind) && (p.m.frm == q.m.frm)) && (p.m.serial == q.m.serial)) && (p.m.ack == q.m.ack)) && (p.m.seen == q.m.seen)) && (p.m.slot == q.m.slot)) && (p.m.gen == q.m.gen)) && (p.m.frame == q.m.frame)) && (p.m.code == q.m.code)) && (p.m.n == q.m.n)) && (p.m.of == q.m.of)) && (p.m.bits == q.m.bits)) && (p.m.sum == q.m.sum)) && (decide (p.m.ins = q.m.ins))) && (En.eqB p.m.log q.m.log)) == true))) (v := .pointer (some ⟨B, 15, none⟩)) rfl (by rw [S]; decide) (Slim.wanted_g rfl rfl H108) (Slim.field_g rfl H3 (fun _ => rfl) (by go_simp; first | done | rfl)) fun a107 o => ?_
  replace S := o.size.trans S; replace D := o.defers.trans D
  replace H108 := Slim.stays o H108 (by decide)
  replace H110 := Slim.stays o H110 (by decide)
  have H111 : Slim.Has a107 111 (true && ((((((((((((((((p.m.kind == q.m.kind) && (p.m.frm == q.m.frm)) && (p.m.serial == q.m.serial)) && (p.m.ack == q.m.ack)) && (p.m.seen == q.m.seen)) && (p.m.slot == q.m.slot)) && (p.m.gen == q.m.gen)) && (p.m.frame == q.m.frame)) && (p.m.code == q.m.code)) && (p.m.n == q.m.n)) && (p.m.of == q.m.of)) && (p.m.bits == q.m.bits)) && (p.m.sum == q.m.sum)) && (decide (p.m.ins = q.m.ins))) && (En.eqB p.m.log q.m.log)) == true)) (.pointer (some ⟨B, 15, none⟩)) := o.here
  clear H3
  clear o
  refine Slim.val_g (t := 112) (c := (true && ((((((((((((((((p.m.kind == q.m.kind) && (p.m.frm == q.m.frm)) && (p.m.serial == q.m.serial)) && (p.m.ack == q.m.ack)) && (p.m.seen == q.m.seen)) && (p.m.slot == q.m.slot)) && (p.m.gen == q.m.gen)) && (p.m.frame == q.m.frame)) && (p.m.code == q.m.code)) && (p.m.n == q.m.n)) && (p.m.of == q.m.of)) && (p.m.bits == q.m.bits)) && (p.m.sum == q.m.sum)) && (decide (p.m.ins = q.m.ins))) && (En.eqB p.m.log q.m.log)) == true))) (v := .slice q.ad q.m.data.length q.cd) rfl (by rw [S]; decide) (Slim.wanted_g rfl rfl H108) (Slim.load_g rfl H111 (fun h => h) (by have k := BY.out.cell 15; go_simp; first | done | rfl)) fun a108 o => ?_
  replace S := o.size.trans S; replace D := o.defers.trans D
  replace H108 := Slim.stays o H108 (by decide)
  replace H110 := Slim.stays o H110 (by decide)
  have H112 : Slim.Has a108 112 (true && ((((((((((((((((p.m.kind == q.m.kind) && (p.m.frm == q.m.frm)) && (p.m.serial == q.m.serial)) && (p.m.ack == q.m.ack)) && (p.m.seen == q.m.seen)) && (p.m.slot == q.m.slot)) && (p.m.gen == q.m.gen)) && (p.m.frame == q.m.frame)) && (p.m.code == q.m.code)) && (p.m.n == q.m.n)) && (p.m.of == q.m.of)) && (p.m.bits == q.m.bits)) && (p.m.sum == q.m.sum)) && (decide (p.m.ins = q.m.ins))) && (En.eqB p.m.log q.m.log)) == true)) (.slice q.ad q.m.data.length q.cd) := o.here
  clear H111
  clear o
  refine Slim.call_g (t := 113) (c := (true && ((((((((((((((((p.m.kind == q.m.kind) && (p.m.frm == q.m.frm)) && (p.m.serial == q.m.serial)) && (p.m.ack == q.m.ack)) && (p.m.seen == q.m.seen)) && (p.m.slot == q.m.slot)) && (p.m.gen == q.m.gen)) && (p.m.frame == q.m.frame)) && (p.m.code == q.m.code)) && (p.m.n == q.m.n)) && (p.m.of == q.m.of)) && (p.m.bits == q.m.bits)) && (p.m.sum == q.m.sum)) && (decide (p.m.ins = q.m.ins))) && (En.eqB p.m.log q.m.log)) == true))) (v := .bool (decide (p.m.data = q.m.data))) rfl (by rw [S]; decide) (Slim.wanted_g rfl rfl H108) (Slim.calls22_g rfl H110 H112 (fun h => h) (fun h => h) (by go_simp; first | done | rfl)) (fun _ => byteseq_any p.m.data q.m.data p.ad q.ad p.cd q.cd _ TP.out.data TQ.out.data ((LP.out.data.below KB.out).wider KB.out.size) ((LQ.out.data.below KB.out).wider KB.out.size)) fun a109 W3 o hb => ?_
  replace BX := Lib.hid (BX.out.below hb BX.out.lt); replace BY := Lib.hid (BY.out.below hb BY.out.lt); replace KB := Lib.hid (KB.out.trans (hb.mono KB.out.size)); clear hb
  replace S := o.size.trans S; replace D := o.defers.trans D
  replace H108 := Slim.stays o H108 (by decide)
  have H113 : Slim.Has a109 113 (true && ((((((((((((((((p.m.kind == q.m.kind) && (p.m.frm == q.m.frm)) && (p.m.serial == q.m.serial)) && (p.m.ack == q.m.ack)) && (p.m.seen == q.m.seen)) && (p.m.slot == q.m.slot)) && (p.m.gen == q.m.gen)) && (p.m.frame == q.m.frame)) && (p.m.code == q.m.code)) && (p.m.n == q.m.n)) && (p.m.of == q.m.of)) && (p.m.bits == q.m.bits)) && (p.m.sum == q.m.sum)) && (decide (p.m.ins = q.m.ins))) && (En.eqB p.m.log q.m.log)) == true)) (.bool (decide (p.m.data = q.m.data))) := o.here
  clear H110
  clear H112
  clear o
  refine Slim.val_g (t := 114) (c := true) (v := .bool ((((((((((((((((p.m.kind == q.m.kind) && (p.m.frm == q.m.frm)) && (p.m.serial == q.m.serial)) && (p.m.ack == q.m.ack)) && (p.m.seen == q.m.seen)) && (p.m.slot == q.m.slot)) && (p.m.gen == q.m.gen)) && (p.m.frame == q.m.frame)) && (p.m.code == q.m.code)) && (p.m.n == q.m.n)) && (p.m.of == q.m.of)) && (p.m.bits == q.m.bits)) && (p.m.sum == q.m.sum)) && (decide (p.m.ins = q.m.ins))) && (En.eqB p.m.log q.m.log)) && (decide (p.m.data = q.m.data)))) rfl (by rw [S]; decide) (Slim.wants_all rfl) (Slim.and_g rfl H108 H113 (fun h => h) (fun h1 h2 => Bool.and_eq_true_iff.2 ⟨h1, by rw [h2]; rfl⟩)) fun a110 o => ?_
  replace S := o.size.trans S; replace D := o.defers.trans D
  have H114 : Slim.Has a110 114 true (.bool ((((((((((((((((p.m.kind == q.m.kind) && (p.m.frm == q.m.frm)) && (p.m.serial == q.m.serial)) && (p.m.ack == q.m.ack)) && (p.m.seen == q.m.seen)) && (p.m.slot == q.m.slot)) && (p.m.gen == q.m.gen)) && (p.m.frame == q.m.frame)) && (p.m.code == q.m.code)) && (p.m.n == q.m.n)) && (p.m.of == q.m.of)) && (p.m.bits == q.m.bits)) && (p.m.sum == q.m.sum)) && (decide (p.m.ins = q.m.ins))) && (En.eqB p.m.log q.m.log)) && (decide (p.m.data = q.m.data)))) := o.here
  clear H108
  clear H113
  clear o
  refine Slim.val_g (t := 4) (c := true) (v := .bool ((((((((((((((((p.m.kind == q.m.kind) && (p.m.frm == q.m.frm)) && (p.m.serial == q.m.serial)) && (p.m.ack == q.m.ack)) && (p.m.seen == q.m.seen)) && (p.m.slot == q.m.slot)) && (p.m.gen == q.m.gen)) && (p.m.frame == q.m.frame)) && (p.m.code == q.m.code)) && (p.m.n == q.m.n)) && (p.m.of == q.m.of)) && (p.m.bits == q.m.bits)) && (p.m.sum == q.m.sum)) && (decide (p.m.ins = q.m.ins))) && (En.eqB p.m.log q.m.log)) && (decide (p.m.data = q.m.data)))) rfl (by rw [S]; decide) (Slim.wants_all rfl) (Slim.assign_g rfl H114 (fun h => h)) fun a111 o => ?_
  replace S := o.size.trans S; replace D := o.defers.trans D
  have H4 : Slim.Has a111 4 true (.bool ((((((((((((((((p.m.kind == q.m.kind) && (p.m.frm == q.m.frm)) && (p.m.serial == q.m.serial)) && (p.m.ack == q.m.ack)) && (p.m.seen == q.m.seen)) && (p.m.slot == q.m.slot)) && (p.m.gen == q.m.gen)) && (p.m.frame == q.m.frame)) && (p.m.code == q.m.code)) && (p.m.n == q.m.n)) && (p.m.of == q.m.of)) && (p.m.bits == q.m.bits)) && (p.m.sum == q.m.sum)) && (decide (p.m.ins = q.m.ins))) && (En.eqB p.m.log q.m.log)) && (decide (p.m.data = q.m.data)))) := o.here
  clear H114
  clear o
  refine wpList_nil ?_
  refine (by assumption : ∀ a w, Code.wp Try.prog _ _ a w → _) _ _ ?_
  refine wp_ret ?_
  (try simp only [Exit.inBlock, Exit.then])
  exact on_ret rfl D H4 ⟨by rw [← Ms.sameW_is]; rfl, KB.out⟩
end Go.Proofs.Ytgmlbimgcifenaa
