/-
Several texts in one: Yi Ep Yj Yk.
-/
import Derived.Test.YtgmlbimgcifenaaVz8
set_option maxRecDepth 100000
set_option maxHeartbeats 8000000
set_option linter.unusedVariables false
set_option linter.unusedSimpArgs false
namespace Ms
def differ (m n : M) : Bool := ((((((((((((((((m.kind != n.kind) || (m.frm != n.frm)) || (m.serial != n.serial)) || (m.ack != n.ack)) || (m.seen != n.seen)) || (m.slot != n.slot)) || (m.gen != n.gen)) || (m.frame != n.frame)) || (m.code != n.code)) || (m.n != n.n)) || (m.of != n.of)) || (m.bits != n.bits)) || (m.sum != n.sum)) || (!decide (m.data = n.data))) || ((m.ins.length : Int) != (n.ins.length : Int))) || ((m.log.length : Int) != (n.log.length : Int)))
structure Same (m n : M) : Prop where
  nums : differ m n = false
  ins : ∀ k (h : k < m.ins.length) (h' : k < n.ins.length), m.ins[k] = n.ins[k]
  log : En.frontB m.log n.log = true
noncomputable def sameB (m n : M) : Bool := @decide (Same m n) (Classical.propDecidable _)
theorem sameB_iff {m n : M} : sameB m n = true ↔ Same m n := by unfold sameB; exact @decide_eq_true_iff _ (Classical.propDecidable _)
theorem sameB_no {m n : M} (h : ¬ Same m n) : false = sameB m n := by
  cases hb : sameB m n
  · rfl
  · exact absurd (sameB_iff.1 hb) h
theorem sameB_log {m n : M} (h1 : differ m n = false) (h2 : ∀ k (h : k < m.ins.length) (h' : k < n.ins.length), m.ins[k] = n.ins[k]) : En.frontB m.log n.log = sameB m n := by
  cases h : En.frontB m.log n.log
  · exact sameB_no (fun s => by have := s.log; rw [h] at this; cases this)
  · exact (sameB_iff.2 ⟨h1, h2, h⟩).symm
theorem differ_len {m n : M} (h : differ m n = false) : m.ins.length = n.ins.length := by
  unfold differ at h
  simp only [Bool.or_eq_false_iff, bne_eq_false_iff_eq] at h
  have := h.1.2
  omega
end Ms
namespace Go.Proofs.Ytgmlbimgcifenaa
open Go.RowKit
instance : DecidableEq Gm.In := fun a b => by
  cases a; cases b
  simp only [Gm.In.mk.injEq]
  infer_instance
theorem str_neq {a b : List Int} {w : World} {ty : TypeId} {x y : Operand} (ha : Im.IsBytes a) (hb : Im.IsBytes b) : (do eqGuard .neq ty x y (.string (strOfNums a)) (.string (strOfNums b)); binOp .neq ty (.string (strOfNums a)) (.string (strOfNums b)) : Sem Value).run Try.prog w = .ok (.bool (!decide (a = b))) w := by
  have h := Sx.str_eq_iff ha hb
  rw [← h]
  generalize strOfNums a = s at *
  generalize strOfNums b = t at *
  clear h
  go_simp
theorem in_neq2 (p q : Gm.In) {w : World} {x y : Operand} : (do eqGuard .neq 50 x y (.agg #[.int .i8 p.x, .int .i8 p.y, .int .u8 p.b]) (.agg #[.int .i8 q.x, .int .i8 q.y, .int .u8 q.b]); binOp .neq 50 (.agg #[.int .i8 p.x, .int .i8 p.y, .int .u8 p.b]) (.agg #[.int .i8 q.x, .int .i8 q.y, .int .u8 q.b]) : Sem Value).run Try.prog w = .ok (.bool (!decide (p = q))) w := by
  obtain ⟨a, b, c⟩ := p
  obtain ⟨a', b', c'⟩ := q
  dsimp only
  have h : (Op.equalIn 10000 50 (.agg #[.int .i8 a, .int .i8 b, .int .u8 c]) (.agg #[.int .i8 a', .int .i8 b', .int .u8 c'])).run Try.prog w = .ok (decide ((⟨a, b, c⟩ : Gm.In) = ⟨a', b', c'⟩)) w := by
    by_cases h1 : a = a'
    · by_cases h2 : b = b'
      · by_cases h3 : c = c'
        · subst h1 h2 h3; go_simp <;> simp
        · have h4 : (c == c') = false := by simpa using h3
          subst h1 h2; go_simp <;> simp [h4, h3]
      · have h4 : (b == b') = false := by simpa using h2
        subst h1; go_simp <;> simp [h4, h2]
    · have h4 : (a == a') = false := by simpa using h1
      go_simp <;> simp [h4, h1]
  generalize decide ((⟨a, b, c⟩ : Gm.In) = ⟨a', b', c'⟩) = r at *
  have h1 : (eqGuard .neq 50 x y (.agg #[.int .i8 a, .int .i8 b, .int .u8 c]) (.agg #[.int .i8 a', .int .i8 b', .int .u8 c'])).run Try.prog w = .ok () w := by
    clear h
    go_simp
  have h2 : (binOp .neq 50 (.agg #[.int .i8 a, .int .i8 b, .int .u8 c]) (.agg #[.int .i8 a', .int .i8 b', .int .u8 c'])).run Try.prog w = .ok (.bool (!r)) w := by
    clear h1
    generalize #[Value.int .i8 a, .int .i8 b, .int .u8 c] = F at *
    generalize #[Value.int .i8 a', .int .i8 b', .int .u8 c'] = G at *
    go_simp
  rw [Sem.run_bind, h1, Result.andThen_ok]
  exact h2
theorem refsame12_any (p q : Ms.S) (w : World) (hTp : Ms.Ty p.m) (hTq : Ms.Ty q.m) (hP : LiesM w w.heap.size p) (hQ : LiesM w w.heap.size q) :
    Calls Try.prog 21 #[.agg p.cells, .agg q.cells] w fun e w' => e = .returned (.bool (Ms.sameB p.m q.m)) ∧ Below w.heap.size w w' := by
  have TP := qh hTp
  have TQ := qh hTq
  have LP := qh hP
  have LQ := qh hQ
  have pi := hP.fi
  have pl := hP.fl
  have qi := hQ.fi
  have ql := hQ.fl
  unfold maxLen at pi pl qi ql
  have KB := qh ((one_below w (.cells p.cells 29)).alloc (one_below w (.cells p.cells 29)).size (.cells q.cells 29))
  have BX := qh ((Box.made w 29 p.cells).alloc (.cells q.cells 29))
  have BY := qh (Box.made (w.alloc (.cells p.cells 29)) 29 q.cells)
  clear hTp hTq hP hQ
  go_enter Try.func21, Try.ntmps21
  go_upto_region 1 with fail
  generalize hW : (w.alloc (.cells p.cells 29)).alloc (.cells q.cells 29) = W0 at *
  generalize hB2 : (w.alloc (.cells p.cells 29)).heap.size = B at *
  obtain ⟨A, hA⟩ : ∃ A, A = w.heap.size := ⟨_, rfl⟩
  rw [← hA] at BX
  refine Slim.forget 145 rfl rfl fun a0 S D hf => ?_
  have H2 : Slim.Has a0 2 true (.pointer (some ⟨A, 0, none⟩)) := by rw [hA]; exact hf 2 _ rfl
  have H3 : Slim.Has a0 3 true (.pointer (some ⟨B, 0, none⟩)) := hf 3 _ (by rw [← hB2]; simp; first | done | rfl)
  clear hf hW hB2 hA
  refine wp_region_lit ?_
  refine Slim.va (v := .pointer (some ⟨A, 0, none⟩)) rfl rfl S D (Slim.field_g rfl H2 id (by go_simp; first | done | rfl)) fun a1 o S D H6 => ?_
  replace H2 := o.st H2
  replace H3 := o.st H3
  refine Slim.va (v := .int .i64 p.m.kind) rfl rfl S D (Slim.load_g rfl H6 id (by have k := BX.out.cell 0; go_simp; first | done | rfl)) fun a2 o S D H7 => ?_
  replace H2 := o.st H2
  replace H3 := o.st H3
  clear H6 o
  refine Slim.va (v := .pointer (some ⟨B, 0, none⟩)) rfl rfl S D (Slim.field_g rfl H3 id (by go_simp; first | done | rfl)) fun a3 o S D H8 => ?_
  replace H2 := o.st H2
  replace H3 := o.st H3
  replace H7 := o.st H7
  refine Slim.va (v := .int .i64 q.m.kind) rfl rfl S D (Slim.load_g rfl H8 id (by have k := BY.out.cell 0; go_simp; first | done | rfl)) fun a4 o S D H9 => ?_
  replace H2 := o.st H2
  replace H3 := o.st H3
  replace H7 := o.st H7
  clear H8 o
  refine Slim.va rfl rfl S D (Slim.bin2_g rfl H7 H9 id id (fun _ _ => Slim.cmp_neq)) fun a5 o S D H10 => ?_
  replace H2 := o.st H2
  replace H3 := o.st H3
  clear H7 H9 o
  refine Slim.va rfl rfl S D (Slim.move_g rfl H10 id) fun a6 o S D H11 => ?_
  replace H2 := o.st H2
  replace H3 := o.st H3
  clear H10 o
  refine Slim.vg (v := .pointer (some ⟨A, 1, none⟩)) rfl S D rfl rfl H11 (Slim.field_g rfl H2 (fun _ => rfl) (by go_simp; first | done | rfl)) fun a7 o S D H12 => ?_
  replace H2 := o.st H2
  replace H3 := o.st H3
  replace H11 := o.st H11
  refine Slim.vg (v := .int .i64 p.m.frm) rfl S D rfl rfl H11 (Slim.load_g rfl H12 id (by have k := BX.out.cell 1; go_simp; first | done | rfl)) fun a8 o S D H13 => ?_
  replace H2 := o.st H2
  replace H3 := o.st H3
  replace H11 := o.st H11
  clear H12 o
  refine Slim.vg (v := .pointer (some ⟨B, 1, none⟩)) rfl S D rfl rfl H11 (Slim.field_g rfl H3 (fun _ => rfl) (by go_simp; first | done | rfl)) fun a9 o S D H14 => ?_
  replace H2 := o.st H2
  replace H3 := o.st H3
  replace H11 := o.st H11
  replace H13 := o.st H13
  refine Slim.vg (v := .int .i64 q.m.frm) rfl S D rfl rfl H11 (Slim.load_g rfl H14 id (by have k := BY.out.cell 1; go_simp; first | done | rfl)) fun a10 o S D H15 => ?_
  replace H2 := o.st H2
  replace H3 := o.st H3
  replace H11 := o.st H11
  replace H13 := o.st H13
  clear H14 o
  refine Slim.vg rfl S D rfl rfl H11 (Slim.bin2_g rfl H13 H15 id id (fun _ _ => Slim.cmp_neq)) fun a11 o S D H16 => ?_
  replace H2 := o.st H2
  replace H3 := o.st H3
  replace H11 := o.st H11
  clear H13 H15 o
  refine Slim.va rfl rfl S D (Slim.or_g rfl H11 H16 id (fun h1 h2 => Bool.and_eq_true_iff.2 ⟨h1, by rw [h2]; rfl⟩)) fun a12 o S D H17 => ?_
  replace H2 := o.st H2
  replace H3 := o.st H3
  clear H11 H16 o
  refine Slim.va rfl rfl S D (Slim.move_g rfl H17 id) fun a13 o S D H18 => ?_
  replace H2 := o.st H2
  replace H3 := o.st H3
  clear H17 o
  refine Slim.vg (v := .pointer (some ⟨A, 2, none⟩)) rfl S D rfl rfl H18 (Slim.field_g rfl H2 (fun _ => rfl) (by go_simp; first | done | rfl)) fun a14 o S D H19 => ?_
  replace H2 := o.st H2
  replace H3 := o.st H3
  replace H18 := o.st H18
  refine Slim.vg (v := .int .u16 p.m.serial) rfl S D rfl rfl H18 (Slim.load_g rfl H19 id (by have k := BX.out.cell 2; go_simp; first | done | rfl)) fun a15 o S D H20 => ?_
  replace H2 := o.st H2
  replace H3 := o.st H3
  replace H18 := o.st H18
  clear H19 o
  refine Slim.vg (v := .pointer (some ⟨B, 2, none⟩)) rfl S D rfl rfl H18 (Slim.field_g rfl H3 (fun _ => rfl) (by go_simp; first | done | rfl)) fun a16 o S D H21 => ?_
  replace H2 := o.st H2
  replace H3 := o.st H3
  replace H18 := o.st H18
  replace H20 := o.st H20
  refine Slim.vg (v := .int .u16 q.m.serial) rfl S D rfl rfl H18 (Slim.load_g rfl H21 id (by have k := BY.out.cell 2; go_simp; first | done | rfl)) fun a17 o S D H22 => ?_
  replace H2 := o.st H2
  replace H3 := o.st H3
  replace H18 := o.st H18
  replace H20 := o.st H20
  clear H21 o
  refine Slim.vg rfl S D rfl rfl H18 (Slim.bin2_g rfl H20 H22 id id (fun _ _ => Slim.cmp_neq)) fun a18 o S D H23 => ?_
  replace H2 := o.st H2
  replace H3 := o.st H3
  replace H18 := o.st H18
  clear H20 H22 o
  refine Slim.va rfl rfl S D (Slim.or_g rfl H18 H23 id (fun h1 h2 => Bool.and_eq_true_iff.2 ⟨h1, by rw [h2]; rfl⟩)) fun a19 o S D H24 => ?_
  replace H2 := o.st H2
  replace H3 := o.st H3
  clear H18 H23 o
  refine Slim.va rfl rfl S D (Slim.move_g rfl H24 id) fun a20 o S D H25 => ?_
  replace H2 := o.st H2
  replace H3 := o.st H3
  clear H24 o
  refine Slim.vg (v := .pointer (some ⟨A, 3, none⟩)) rfl S D rfl rfl H25 (Slim.field_g rfl H2 (fun _ => rfl) (by go_simp; first | done | rfl)) fun a21 o S D H26 => ?_
  replace H2 := o.st H2
  replace H3 := o.st H3
  replace H25 := o.st H25
  refine Slim.vg (v := .int .u16 p.m.ack) rfl S D rfl rfl H25 (Slim.load_g rfl H26 id (by have k := BX.out.cell 3; go_simp; first | done | rfl)) fun a22 o S D H27 => ?_
  replace H2 := o.st H2
  replace H3 := o.st H3
  replace H25 := o.st H25
  clear H26 o
  refine Slim.vg (v := .pointer (some ⟨B, 3, none⟩)) rfl S D rfl rfl H25 (Slim.field_g rfl H3 (fun _ => rfl) (by go_simp; first | done | rfl)) fun a23 o S D H28 => ?_
  replace H2 := o.st H2
  replace H3 := o.st H3
  replace H25 := o.st H25
  replace H27 := o.st H27
  refine Slim.vg (v := .int .u16 q.m.ack) rfl S D rfl rfl H25 (Slim.load_g rfl H28 id (by have k := BY.out.cell 3; go_simp; first | done | rfl)) fun a24 o S D H29 => ?_
  replace H2 := o.st H2
  replace H3 := o.st H3
  replace H25 := o.st H25
  replace H27 := o.st H27
  clear H28 o
  refine Slim.vg rfl S D rfl rfl H25 (Slim.bin2_g rfl H27 H29 id id (fun _ _ => Slim.cmp_neq)) fun a25 o S D H30 => ?_
  replace H2 := o.st H2
  replace H3 := o.st H3
  replace H25 := o.st H25
  clear H27 H29 o
  refine Slim.va rfl rfl S D (Slim.or_g rfl H25 H30 id (fun h1 h2 => Bool.and_eq_true_iff.2 ⟨h1, by rw [h2]; rfl⟩)) fun a26 o S D H31 => ?_
  replace H2 := o.st H2
  replace H3 := o.st H3
  clear H25 H30 o
  refine Slim.va rfl rfl S D (Slim.move_g rfl H31 id) fun a27 o S D H32 => ?_
  replace H2 := o.st H2
  replace H3 := o.st H3
  clear H31 o
  refine Slim.vg (v := .pointer (some ⟨A, 4, none⟩)) rfl S D rfl rfl H32 (Slim.field_g rfl H2 (fun _ => rfl) (by go_simp; first | done | rfl)) fun a28 o S D H33 => ?_
  replace H2 := o.st H2
  replace H3 := o.st H3
  replace H32 := o.st H32
  refine Slim.vg (v := .int .u32 p.m.seen) rfl S D rfl rfl H32 (Slim.load_g rfl H33 id (by have k := BX.out.cell 4; go_simp; first | done | rfl)) fun a29 o S D H34 => ?_
  replace H2 := o.st H2
  replace H3 := o.st H3
  replace H32 := o.st H32
  clear H33 o
  refine Slim.vg (v := .pointer (some ⟨B, 4, none⟩)) rfl S D rfl rfl H32 (Slim.field_g rfl H3 (fun _ => rfl) (by go_simp; first | done | rfl)) fun a30 o S D H35 => ?_
  replace H2 := o.st H2
  replace H3 := o.st H3
  replace H32 := o.st H32
  replace H34 := o.st H34
  refine Slim.vg (v := .int .u32 q.m.seen) rfl S D rfl rfl H32 (Slim.load_g rfl H35 id (by have k := BY.out.cell 4; go_simp; first | done | rfl)) fun a31 o S D H36 => ?_
  replace H2 := o.st H2
  replace H3 := o.st H3
  replace H32 := o.st H32
  replace H34 := o.st H34
  clear H35 o
  refine Slim.vg rfl S D rfl rfl H32 (Slim.bin2_g rfl H34 H36 id id (fun _ _ => Slim.cmp_neq)) fun a32 o S D H37 => ?_
  replace H2 := o.st H2
  replace H3 := o.st H3
  replace H32 := o.st H32
  clear H34 H36 o
  refine Slim.va rfl rfl S D (Slim.or_g rfl H32 H37 id (fun h1 h2 => Bool.and_eq_true_iff.2 ⟨h1, by rw [h2]; rfl⟩)) fun a33 o S D H38 => ?_
  replace H2 := o.st H2
  replace H3 := o.st H3
  clear H32 H37 o
  refine Slim.va rfl rfl S D (Slim.move_g rfl H38 id) fun a34 o S D H39 => ?_
  replace H2 := o.st H2
  replace H3 := o.st H3
  clear H38 o
  refine Slim.vg (v := .pointer (some ⟨A, 5, none⟩)) rfl S D rfl rfl H39 (Slim.field_g rfl H2 (fun _ => rfl) (by go_simp; first | done | rfl)) fun a35 o S D H40 => ?_
  replace H2 := o.st H2
  replace H3 := o.st H3
  replace H39 := o.st H39
  refine Slim.vg (v := .int .i64 p.m.slot) rfl S D rfl rfl H39 (Slim.load_g rfl H40 id (by have k := BX.out.cell 5; go_simp; first | done | rfl)) fun a36 o S D H41 => ?_
  replace H2 := o.st H2
  replace H3 := o.st H3
  replace H39 := o.st H39
  clear H40 o
  refine Slim.vg (v := .pointer (some ⟨B, 5, none⟩)) rfl S D rfl rfl H39 (Slim.field_g rfl H3 (fun _ => rfl) (by go_simp; first | done | rfl)) fun a37 o S D H42 => ?_
  replace H2 := o.st H2
  replace H3 := o.st H3
  replace H39 := o.st H39
  replace H41 := o.st H41
  refine Slim.vg (v := .int .i64 q.m.slot) rfl S D rfl rfl H39 (Slim.load_g rfl H42 id (by have k := BY.out.cell 5; go_simp; first | done | rfl)) fun a38 o S D H43 => ?_
  replace H2 := o.st H2
  replace H3 := o.st H3
  replace H39 := o.st H39
  replace H41 := o.st H41
  clear H42 o
  refine Slim.vg rfl S D rfl rfl H39 (Slim.bin2_g rfl H41 H43 id id (fun _ _ => Slim.cmp_neq)) fun a39 o S D H44 => ?_
  replace H2 := o.st H2
  replace H3 := o.st H3
  replace H39 := o.st H39
  clear H41 H43 o
  refine Slim.va rfl rfl S D (Slim.or_g rfl H39 H44 id (fun h1 h2 => Bool.and_eq_true_iff.2 ⟨h1, by rw [h2]; rfl⟩)) fun a40 o S D H45 => ?_
  replace H2 := o.st H2
  replace H3 := o.st H3
  clear H39 H44 o
  refine Slim.va rfl rfl S D (Slim.move_g rfl H45 id) fun a41 o S D H46 => ?_
  replace H2 := o.st H2
  replace H3 := o.st H3
  clear H45 o
  refine Slim.vg (v := .pointer (some ⟨A, 6, none⟩)) rfl S D rfl rfl H46 (Slim.field_g rfl H2 (fun _ => rfl) (by go_simp; first | done | rfl)) fun a42 o S D H47 => ?_
  replace H2 := o.st H2
  replace H3 := o.st H3
  replace H46 := o.st H46
  refine Slim.vg (v := .int .i64 p.m.gen) rfl S D rfl rfl H46 (Slim.load_g rfl H47 id (by have k := BX.out.cell 6; go_simp; first | done | rfl)) fun a43 o S D H48 => ?_
  replace H2 := o.st H2
  replace H3 := o.st H3
  replace H46 := o.st H46
  clear H47 o
  refine Slim.vg (v := .pointer (some ⟨B, 6, none⟩)) rfl S D rfl rfl H46 (Slim.field_g rfl H3 (fun _ => rfl) (by go_simp; first | done | rfl)) fun a44 o S D H49 => ?_
  replace H2 := o.st H2
  replace H3 := o.st H3
  replace H46 := o.st H46
  replace H48 := o.st H48
  refine Slim.vg (v := .int .i64 q.m.gen) rfl S D rfl rfl H46 (Slim.load_g rfl H49 id (by have k := BY.out.cell 6; go_simp; first | done | rfl)) fun a45 o S D H50 => ?_
  replace H2 := o.st H2
  replace H3 := o.st H3
  replace H46 := o.st H46
  replace H48 := o.st H48
  clear H49 o
  refine Slim.vg rfl S D rfl rfl H46 (Slim.bin2_g rfl H48 H50 id id (fun _ _ => Slim.cmp_neq)) fun a46 o S D H51 => ?_
  replace H2 := o.st H2
  replace H3 := o.st H3
  replace H46 := o.st H46
  clear H48 H50 o
  refine Slim.va rfl rfl S D (Slim.or_g rfl H46 H51 id (fun h1 h2 => Bool.and_eq_true_iff.2 ⟨h1, by rw [h2]; rfl⟩)) fun a47 o S D H52 => ?_
  replace H2 := o.st H2
  replace H3 := o.st H3
  clear H46 H51 o
  refine Slim.va rfl rfl S D (Slim.move_g rfl H52 id) fun a48 o S D H53 => ?_
  replace H2 := o.st H2
  replace H3 := o.st H3
  clear H52 o
  refine Slim.vg (v := .pointer (some ⟨A, 7, none⟩)) rfl S D rfl rfl H53 (Slim.field_g rfl H2 (fun _ => rfl) (by go_simp; first | done | rfl)) fun a49 o S D H54 => ?_
  replace H2 := o.st H2
  replace H3 := o.st H3
  replace H53 := o.st H53
  refine Slim.vg (v := .int .i64 p.m.frame) rfl S D rfl rfl H53 (Slim.load_g rfl H54 id (by have k := BX.out.cell 7; go_simp; first | done | rfl)) fun a50 o S D H55 => ?_
  replace H2 := o.st H2
  replace H3 := o.st H3
  replace H53 := o.st H53
  clear H54 o
  refine Slim.vg (v := .pointer (some ⟨B, 7, none⟩)) rfl S D rfl rfl H53 (Slim.field_g rfl H3 (fun _ => rfl) (by go_simp; first | done | rfl)) fun a51 o S D H56 => ?_
  replace H2 := o.st H2
  replace H3 := o.st H3
  replace H53 := o.st H53
  replace H55 := o.st H55
  refine Slim.vg (v := .int .i64 q.m.frame) rfl S D rfl rfl H53 (Slim.load_g rfl H56 id (by have k := BY.out.cell 7; go_simp; first | done | rfl)) fun a52 o S D H57 => ?_
  replace H2 := o.st H2
  replace H3 := o.st H3
  replace H53 := o.st H53
  replace H55 := o.st H55
  clear H56 o
  refine Slim.vg rfl S D rfl rfl H53 (Slim.bin2_g rfl H55 H57 id id (fun _ _ => Slim.cmp_neq)) fun a53 o S D H58 => ?_
  replace H2 := o.st H2
  replace H3 := o.st H3
  replace H53 := o.st H53
  clear H55 H57 o
  refine Slim.va rfl rfl S D (Slim.or_g rfl H53 H58 id (fun h1 h2 => Bool.and_eq_true_iff.2 ⟨h1, by rw [h2]; rfl⟩)) fun a54 o S D H59 => ?_
  replace H2 := o.st H2
  replace H3 := o.st H3
  clear H53 H58 o
  refine Slim.va rfl rfl S D (Slim.move_g rfl H59 id) fun a55 o S D H60 => ?_
  replace H2 := o.st H2
  replace H3 := o.st H3
  clear H59 o
  refine Slim.vg (v := .pointer (some ⟨A, 8, none⟩)) rfl S D rfl rfl H60 (Slim.field_g rfl H2 (fun _ => rfl) (by go_simp; first | done | rfl)) fun a56 o S D H61 => ?_
  replace H2 := o.st H2
  replace H3 := o.st H3
  replace H60 := o.st H60
  refine Slim.vg (v := .int .i64 p.m.code) rfl S D rfl rfl H60 (Slim.load_g rfl H61 id (by have k := BX.out.cell 8; go_simp; first | done | rfl)) fun a57 o S D H62 => ?_
  replace H2 := o.st H2
  replace H3 := o.st H3
  replace H60 := o.st H60
  clear H61 o
  refine Slim.vg (v := .pointer (some ⟨B, 8, none⟩)) rfl S D rfl rfl H60 (Slim.field_g rfl H3 (fun _ => rfl) (by go_simp; first | done | rfl)) fun a58 o S D H63 => ?_
  replace H2 := o.st H2
  replace H3 := o.st H3
  replace H60 := o.st H60
  replace H62 := o.st H62
  refine Slim.vg (v := .int .i64 q.m.code) rfl S D rfl rfl H60 (Slim.load_g rfl H63 id (by have k := BY.out.cell 8; go_simp; first | done | rfl)) fun a59 o S D H64 => ?_
  replace H2 := o.st H2
  replace H3 := o.st H3
  replace H60 := o.st H60
  replace H62 := o.st H62
  clear H63 o
  refine Slim.vg rfl S D rfl rfl H60 (Slim.bin2_g rfl H62 H64 id id (fun _ _ => Slim.cmp_neq)) fun a60 o S D H65 => ?_
  replace H2 := o.st H2
  replace H3 := o.st H3
  replace H60 := o.st H60
  clear H62 H64 o
  refine Slim.va rfl rfl S D (Slim.or_g rfl H60 H65 id (fun h1 h2 => Bool.and_eq_true_iff.2 ⟨h1, by rw [h2]; rfl⟩)) fun a61 o S D H66 => ?_
  replace H2 := o.st H2
  replace H3 := o.st H3
  clear H60 H65 o
  refine Slim.va rfl rfl S D (Slim.move_g rfl H66 id) fun a62 o S D H67 => ?_
  replace H2 := o.st H2
  replace H3 := o.st H3
  clear H66 o
  refine Slim.vg (v := .pointer (some ⟨A, 9, none⟩)) rfl S D rfl rfl H67 (Slim.field_g rfl H2 (fun _ => rfl) (by go_simp; first | done | rfl)) fun a63 o S D H68 => ?_
  replace H2 := o.st H2
  replace H3 := o.st H3
  replace H67 := o.st H67
  refine Slim.vg (v := .int .i64 p.m.n) rfl S D rfl rfl H67 (Slim.load_g rfl H68 id (by have k := BX.out.cell 9; go_simp; first | done | rfl)) fun a64 o S D H69 => ?_
  replace H2 := o.st H2
  replace H3 := o.st H3
  replace H67 := o.st H67
  clear H68 o
  refine Slim.vg (v := .pointer (some ⟨B, 9, none⟩)) rfl S D rfl rfl H67 (Slim.field_g rfl H3 (fun _ => rfl) (by go_simp; first | done | rfl)) fun a65 o S D H70 => ?_
  replace H2 := o.st H2
  replace H3 := o.st H3
  replace H67 := o.st H67
  replace H69 := o.st H69
  refine Slim.vg (v := .int .i64 q.m.n) rfl S D rfl rfl H67 (Slim.load_g rfl H70 id (by have k := BY.out.cell 9; go_simp; first | done | rfl)) fun a66 o S D H71 => ?_
  replace H2 := o.st H2
  replace H3 := o.st H3
  replace H67 := o.st H67
  replace H69 := o.st H69
  clear H70 o
  refine Slim.vg rfl S D rfl rfl H67 (Slim.bin2_g rfl H69 H71 id id (fun _ _ => Slim.cmp_neq)) fun a67 o S D H72 => ?_
  replace H2 := o.st H2
  replace H3 := o.st H3
  replace H67 := o.st H67
  clear H69 H71 o
  refine Slim.va rfl rfl S D (Slim.or_g rfl H67 H72 id (fun h1 h2 => Bool.and_eq_true_iff.2 ⟨h1, by rw [h2]; rfl⟩)) fun a68 o S D H73 => ?_
  replace H2 := o.st H2
  replace H3 := o.st H3
  clear H67 H72 o
  refine Slim.va rfl rfl S D (Slim.move_g rfl H73 id) fun a69 o S D H74 => ?_
  replace H2 := o.st H2
  replace H3 := o.st H3
  clear H73 o
  refine Slim.vg (v := .pointer (some ⟨A, 10, none⟩)) rfl S D rfl rfl H74 (Slim.field_g rfl H2 (fun _ => rfl) (by go_simp; first | done | rfl)) fun a70 o S D H75 => ?_
  replace H2 := o.st H2
  replace H3 := o.st H3
  replace H74 := o.st H74
  refine Slim.vg (v := .int .i64 p.m.of) rfl S D rfl rfl H74 (Slim.load_g rfl H75 id (by have k := BX.out.cell 10; go_simp; first | done | rfl)) fun a71 o S D H76 => ?_
  replace H2 := o.st H2
  replace H3 := o.st H3
  replace H74 := o.st H74
  clear H75 o
  refine Slim.vg (v := .pointer (some ⟨B, 10, none⟩)) rfl S D rfl rfl H74 (Slim.field_g rfl H3 (fun _ => rfl) (by go_simp; first | done | rfl)) fun a72 o S D H77 => ?_
  replace H2 := o.st H2
  replace H3 := o.st H3
  replace H74 := o.st H74
  replace H76 := o.st H76
  refine Slim.vg (v := .int .i64 q.m.of) rfl S D rfl rfl H74 (Slim.load_g rfl H77 id (by have k := BY.out.cell 10; go_simp; first | done | rfl)) fun a73 o S D H78 => ?_
  replace H2 := o.st H2
  replace H3 := o.st H3
  replace H74 := o.st H74
  replace H76 := o.st H76
  clear H77 o
  refine Slim.vg rfl S D rfl rfl H74 (Slim.bin2_g rfl H76 H78 id id (fun _ _ => Slim.cmp_neq)) fun a74 o S D H79 => ?_
  replace H2 := o.st H2
  replace H3 := o.st H3
  replace H74 := o.st H74
  clear H76 H78 o
  refine Slim.va rfl rfl S D (Slim.or_g rfl H74 H79 id (fun h1 h2 => Bool.and_eq_true_iff.2 ⟨h1, by rw [h2]; rfl⟩)) fun a75 o S D H80 => ?_
  replace H2 := o.st H2
  replace H3 := o.st H3
  clear H74 H79 o
  refine Slim.va rfl rfl S D (Slim.move_g rfl H80 id) fun a76 o S D H81 => ?_
  replace H2 := o.st H2
  replace H3 := o.st H3
  clear H80 o
  refine Slim.vg (v := .pointer (some ⟨A, 11, none⟩)) rfl S D rfl rfl H81 (Slim.field_g rfl H2 (fun _ => rfl) (by go_simp; first | done | rfl)) fun a77 o S D H82 => ?_
  replace H2 := o.st H2
  replace H3 := o.st H3
  replace H81 := o.st H81
  refine Slim.vg (v := .int .u32 p.m.bits) rfl S D rfl rfl H81 (Slim.load_g rfl H82 id (by have k := BX.out.cell 11; go_simp; first | done | rfl)) fun a78 o S D H83 => ?_
  replace H2 := o.st H2
  replace H3 := o.st H3
  replace H81 := o.st H81
  clear H82 o
  refine Slim.vg (v := .pointer (some ⟨B, 11, none⟩)) rfl S D rfl rfl H81 (Slim.field_g rfl H3 (fun _ => rfl) (by go_simp; first | done | rfl)) fun a79 o S D H84 => ?_
  replace H2 := o.st H2
  replace H3 := o.st H3
  replace H81 := o.st H81
  replace H83 := o.st H83
  refine Slim.vg (v := .int .u32 q.m.bits) rfl S D rfl rfl H81 (Slim.load_g rfl H84 id (by have k := BY.out.cell 11; go_simp; first | done | rfl)) fun a80 o S D H85 => ?_
  replace H2 := o.st H2
  replace H3 := o.st H3
  replace H81 := o.st H81
  replace H83 := o.st H83
  clear H84 o
  refine Slim.vg rfl S D rfl rfl H81 (Slim.bin2_g rfl H83 H85 id id (fun _ _ => Slim.cmp_neq)) fun a81 o S D H86 => ?_
  replace H2 := o.st H2
  replace H3 := o.st H3
  replace H81 := o.st H81
  clear H83 H85 o
  refine Slim.va rfl rfl S D (Slim.or_g rfl H81 H86 id (fun h1 h2 => Bool.and_eq_true_iff.2 ⟨h1, by rw [h2]; rfl⟩)) fun a82 o S D H87 => ?_
  replace H2 := o.st H2
  replace H3 := o.st H3
  clear H81 H86 o
  refine Slim.va rfl rfl S D (Slim.move_g rfl H87 id) fun a83 o S D H88 => ?_
  replace H2 := o.st H2
  replace H3 := o.st H3
  clear H87 o
  refine Slim.vg (v := .pointer (some ⟨A, 12, none⟩)) rfl S D rfl rfl H88 (Slim.field_g rfl H2 (fun _ => rfl) (by go_simp; first | done | rfl)) fun a84 o S D H89 => ?_
  replace H2 := o.st H2
  replace H3 := o.st H3
  replace H88 := o.st H88
  refine Slim.vg (v := .int .u64 p.m.sum) rfl S D rfl rfl H88 (Slim.load_g rfl H89 id (by have k := BX.out.cell 12; go_simp; first | done | rfl)) fun a85 o S D H90 => ?_
  replace H2 := o.st H2
  replace H3 := o.st H3
  replace H88 := o.st H88
  clear H89 o
  refine Slim.vg (v := .pointer (some ⟨B, 12, none⟩)) rfl S D rfl rfl H88 (Slim.field_g rfl H3 (fun _ => rfl) (by go_simp; first | done | rfl)) fun a86 o S D H91 => ?_
  replace H2 := o.st H2
  replace H3 := o.st H3
  replace H88 := o.st H88
  replace H90 := o.st H90
  refine Slim.vg (v := .int .u64 q.m.sum) rfl S D rfl rfl H88 (Slim.load_g rfl H91 id (by have k := BY.out.cell 12; go_simp; first | done | rfl)) fun a87 o S D H92 => ?_
  replace H2 := o.st H2
  replace H3 := o.st H3
  replace H88 := o.st H88
  replace H90 := o.st H90
  clear H91 o
  refine Slim.vg rfl S D rfl rfl H88 (Slim.bin2_g rfl H90 H92 id id (fun _ _ => Slim.cmp_neq)) fun a88 o S D H93 => ?_
  replace H2 := o.st H2
  replace H3 := o.st H3
  replace H88 := o.st H88
  clear H90 H92 o
  refine Slim.va rfl rfl S D (Slim.or_g rfl H88 H93 id (fun h1 h2 => Bool.and_eq_true_iff.2 ⟨h1, by rw [h2]; rfl⟩)) fun a89 o S D H94 => ?_
  replace H2 := o.st H2
  replace H3 := o.st H3
  clear H88 H93 o
  refine Slim.va rfl rfl S D (Slim.move_g rfl H94 id) fun a90 o S D H95 => ?_
  replace H2 := o.st H2
  replace H3 := o.st H3
  clear H94 o
  refine Slim.vg (v := .pointer (some ⟨A, 15, none⟩)) rfl S D rfl rfl H95 (Slim.field_g rfl H2 (fun _ => rfl) (by go_simp; first | done | rfl)) fun a91 o S D H96 => ?_
  replace H2 := o.st H2
  replace H3 := o.st H3
  replace H95 := o.st H95
  refine Slim.vg (v := .slice p.ad p.m.data.length p.cd) rfl S D rfl rfl H95 (Slim.load_g rfl H96 id (by have k := BX.out.cell 15; go_simp; first | done | rfl)) fun a92 o S D H97 => ?_
  replace H2 := o.st H2
  replace H3 := o.st H3
  replace H95 := o.st H95
  clear H96 o
  refine Slim.vg (v := .string (strOfNums p.m.data)) rfl S D rfl rfl H95 (Slim.convert_g rfl H97 id (conv_bytes p.m.data _ p.ad p.cd _ w.heap.size rfl (LP.out.data.below KB.out))) fun a93 o S D H98 => ?_
  replace H2 := o.st H2
  replace H3 := o.st H3
  replace H95 := o.st H95
  clear H97 o
  refine Slim.vg (v := .pointer (some ⟨B, 15, none⟩)) rfl S D rfl rfl H95 (Slim.field_g rfl H3 (fun _ => rfl) (by go_simp; first | done | rfl)) fun a94 o S D H99 => ?_
  replace H2 := o.st H2
  replace H3 := o.st H3
  replace H95 := o.st H95
  replace H98 := o.st H98
  refine Slim.vg (v := .slice q.ad q.m.data.length q.cd) rfl S D rfl rfl H95 (Slim.load_g rfl H99 id (by have k := BY.out.cell 15; go_simp; first | done | rfl)) fun a95 o S D H100 => ?_
  replace H2 := o.st H2
  replace H3 := o.st H3
  replace H95 := o.st H95
  replace H98 := o.st H98
  clear H99 o
  refine Slim.vg (v := .string (strOfNums q.m.data)) rfl S D rfl rfl H95 (Slim.convert_g rfl H100 id (conv_bytes q.m.data _ q.ad q.cd _ w.heap.size rfl (LQ.out.data.below KB.out))) fun a96 o S D H101 => ?_
  replace H2 := o.st H2
  replace H3 := o.st H3
  replace H95 := o.st H95
  replace H98 := o.st H98
  clear H100 o
  refine Slim.vg (v := .bool (!decide (p.m.data = q.m.data))) rfl S D rfl rfl H95 (Slim.bin2_g rfl H98 H101 id id (fun _ _ => str_neq TP.out.data TQ.out.data)) fun a97 o S D H102 => ?_
  replace H2 := o.st H2
  replace H3 := o.st H3
  replace H95 := o.st H95
  clear H98 H101 o
  refine Slim.va rfl rfl S D (Slim.or_g rfl H95 H102 id (fun h1 h2 => Bool.and_eq_true_iff.2 ⟨h1, by rw [h2]; rfl⟩)) fun a98 o S D H103 => ?_
  replace H2 := o.st H2
  replace H3 := o.st H3
  clear H95 H102 o
  refine Slim.va rfl rfl S D (Slim.move_g rfl H103 id) fun a99 o S D H104 => ?_
  replace H2 := o.st H2
  replace H3 := o.st H3
  clear H103 o
  refine Slim.vg (v := .pointer (some ⟨A, 13, none⟩)) rfl S D rfl rfl H104 (Slim.field_g rfl H2 (fun _ => rfl) (by go_simp; first | done | rfl)) fun a100 o S D H105 => ?_
  replace H2 := o.st H2
  replace H3 := o.st H3
  replace H104 := o.st H104
  refine Slim.vg (v := .slice p.ai p.m.ins.length p.ci) rfl S D rfl rfl H104 (Slim.load_g rfl H105 id (by have k := BX.out.cell 13; go_simp; first | done | rfl)) fun a101 o S D H106 => ?_
  replace H2 := o.st H2
  replace H3 := o.st H3
  replace H104 := o.st H104
  clear H105 o
  refine Slim.vg (v := .int .i64 (p.m.ins.length : Int)) rfl S D rfl rfl H104 (Slim.len_g rfl H106 id (by go_simp; first | done | rfl)) fun a102 o S D H107 => ?_
  replace H2 := o.st H2
  replace H3 := o.st H3
  replace H104 := o.st H104
  clear H106 o
  refine Slim.vg (v := .pointer (some ⟨B, 13, none⟩)) rfl S D rfl rfl H104 (Slim.field_g rfl H3 (fun _ => rfl) (by go_simp; first | done | rfl)) fun a103 o S D H108 => ?_
  replace H2 := o.st H2
  replace H3 := o.st H3
  replace H104 := o.st H104
  replace H107 := o.st H107
  refine Slim.vg (v := .slice q.ai q.m.ins.length q.ci) rfl S D rfl rfl H104 (Slim.load_g rfl H108 id (by have k := BY.out.cell 13; go_simp; first | done | rfl)) fun a104 o S D H109 => ?_
  replace H2 := o.st H2
  replace H3 := o.st H3
  replace H104 := o.st H104
  replace H107 := o.st H107
  clear H108 o
  refine Slim.vg (v := .int .i64 (q.m.ins.length : Int)) rfl S D rfl rfl H104 (Slim.len_g rfl H109 id (by go_simp; first | done | rfl)) fun a105 o S D H110 => ?_
  replace H2 := o.st H2
  replace H3 := o.st H3
  replace H104 := o.st H104
  replace H107 := o.st H107
  clear H109 o
  refine Slim.vg rfl S D rfl rfl H104 (Slim.bin2_g rfl H107 H110 id id (fun _ _ => Slim.cmp_neq)) fun a106 o S D H111 => ?_
  replace H2 := o.st H2
  replace H3 := o.st H3
  replace H104 := o.st H104
  clear H107 H110 o
  refine Slim.va rfl rfl S D (Slim.or_g rfl H104 H111 id (fun h1 h2 => Bool.and_eq_true_iff.2 ⟨h1, by rw [h2]; rfl⟩)) fun a107 o S D H112 => ?_
  replace H2 := o.st H2
  replace H3 := o.st H3
  clear H104 H111 o
  refine Slim.va rfl rfl S D (Slim.move_g rfl H112 id) fun a108 o S D H113 => ?_
  replace H2 := o.st H2
  replace H3 := o.st H3
  clear H112 o
  refine Slim.vg (v := .pointer (some ⟨A, 14, none⟩)) rfl S D rfl rfl H113 (Slim.field_g rfl H2 (fun _ => rfl) (by go_simp; first | done | rfl)) fun a109 o S D H114 => ?_
  replace H2 := o.st H2
  replace H3 := o.st H3
  replace H113 := o.st H113
  refine Slim.vg (v := .slice p.al p.m.log.length p.cl) rfl S D rfl rfl H113 (Slim.load_g rfl H114 id (by have k := BX.out.cell 14; go_simp; first | done | rfl)) fun a110 o S D H115 => ?_
  replace H2 := o.st H2
  replace H3 := o.st H3
  replace H113 := o.st H113
  clear H114 o
  refine Slim.vg (v := .int .i64 (p.m.log.length : Int)) rfl S D rfl rfl H113 (Slim.len_g rfl H115 id (by go_simp; first | done | rfl)) fun a111 o S D H116 => ?_
  replace H2 := o.st H2
  replace H3 := o.st H3
  replace H113 := o.st H113
  clear H115 o
  refine Slim.vg (v := .pointer (some ⟨B, 14, none⟩)) rfl S D rfl rfl H113 (Slim.field_g rfl H3 (fun _ => rfl) (by go_simp; first | done | rfl)) fun a112 o S D H117 => ?_
  replace H2 := o.st H2
  replace H3 := o.st H3
  replace H113 := o.st H113
  replace H116 := o.st H116
  refine Slim.vg (v := .slice q.al q.m.log.length q.cl) rfl S D rfl rfl H113 (Slim.load_g rfl H117 id (by have k := BY.out.cell 14; go_simp; first | done | rfl)) fun a113 o S D H118 => ?_
  replace H2 := o.st H2
  replace H3 := o.st H3
  replace H113 := o.st H113
  replace H116 := o.st H116
  clear H117 o
  refine Slim.vg (v := .int .i64 (q.m.log.length : Int)) rfl S D rfl rfl H113 (Slim.len_g rfl H118 id (by go_simp; first | done | rfl)) fun a114 o S D H119 => ?_
  replace H2 := o.st H2
  replace H3 := o.st H3
  replace H113 := o.st H113
  replace H116 := o.st H116
  clear H118 o
  refine Slim.vg rfl S D rfl rfl H113 (Slim.bin2_g rfl H116 H119 id id (fun _ _ => Slim.cmp_neq)) fun a115 o S D H120 => ?_
  replace H2 := o.st H2
  replace H3 := o.st H3
  replace H113 := o.st H113
  clear H116 H119 o
  refine Slim.va rfl rfl S D (Slim.or_g rfl H113 H120 id (fun h1 h2 => Bool.and_eq_true_iff.2 ⟨h1, by rw [h2]; rfl⟩)) fun a116 o S D H121 => ?_
  replace H2 := o.st H2
  replace H3 := o.st H3
  clear H113 H120 o
  refine wpList_nil ?_
  refine (by assumption : ∀ a w, Code.wp Try.prog (Code.cond _ _ _) _ a w → _) _ _ ?_
  refine wp_cond_split (Slim.pres H121 rfl) (fun e121 => ?_) (fun e121 => ?_)
  · exact Slim.ret_const (t := 4) rfl rfl (by rw [S]; decide) fun a' o => by
      (try simp only [Exit.inBlock, Exit.then])
      exact on_ret rfl (o.defers.trans D) o.here ⟨ret_bool (Ms.sameB_no fun h => absurd h.nums (by rw [show Ms.differ p.m q.m = true from e121]; decide)), KB.out⟩
  have N1 := qh (show Ms.differ p.m q.m = false from e121)
  clear e121 H121
  refine wp_skip ?_
  refine (by assumption : ∀ a w, Code.wp Try.prog _ _ a w → _) _ _ ?_
  apply wp_seq_k; intro K1 hK1
  apply wp_seq_k; intro K2 hK2
  refine wp_region_lit ?_
  refine Slim.va rfl rfl S D (Slim.constc_g rfl) fun a117 o S D H5 => ?_
  replace H2 := o.st H2
  replace H3 := o.st H3
  clear o
  refine wpList_nil ?_
  refine hK2 _ _ ?_
  refine wp_block ?_
  refine wp_loop (fun b V => ∃ k : Nat, b.tmps.size = 145 ∧ b.defers = [] ∧ Slim.Has b 2 true (.pointer (some ⟨A, 0, none⟩)) ∧ Slim.Has b 3 true (.pointer (some ⟨B, 0, none⟩)) ∧ Slim.Has b 5 true (.int .i64 (k : Int)) ∧ k ≤ p.m.ins.length ∧ (∀ j (h : j < p.m.ins.length) (h' : j < q.m.ins.length), j < k → p.m.ins[j] = q.m.ins[j]) ∧ Box V A 29 p.cells ∧ Box V B 29 q.cells ∧ Below w.heap.size w V) (fun b _ => p.m.ins.length - (intOf (b.tmps.getD 5 undef)).toNat) ⟨0, S, D, H2, H3, H5, Nat.zero_le _, fun j h h' h0 => absurd h0 (by omega), BX.out, BY.out, KB.out⟩ ?_
  intro a0 V hI
  clear S D H2 H3 H5 KB BX BY
  obtain ⟨k, S, D, H2, H3, H5, hk, hall, hbx, hby, hkb⟩ := hI
  have KB := qh hkb
  have BX := qh hbx
  have BY := qh hby
  have HA := qh hall
  have MU := qh (show p.m.ins.length - (intOf (a0.tmps.getD 5 undef)).toNat = p.m.ins.length - k from by rw [show a0.tmps.getD 5 undef = .int .i64 (k : Int) from Slim.pres H5 rfl]; simp [intOf])
  have HLN := qh (Ms.differ_len N1.out)
  clear hkb hall hbx hby
  apply wp_seq_k; intro K3 hK3
  apply wp_seq_k; intro K4 hK4
  refine wp_region_lit ?_
  refine Slim.va rfl rfl S D (Slim.move_g rfl H5 id) fun a1 o S D H122 => ?_
  replace H2 := o.st H2
  replace H3 := o.st H3
  replace H5 := o.st H5
  refine Slim.va (v := .pointer (some ⟨A, 13, none⟩)) rfl rfl S D (Slim.field_g rfl H2 id (by go_simp; first | done | rfl)) fun a2 o S D H123 => ?_
  replace H2 := o.st H2
  replace H3 := o.st H3
  replace H5 := o.st H5
  replace H122 := o.st H122
  refine Slim.va (v := .slice p.ai p.m.ins.length p.ci) rfl rfl S D (Slim.load_g rfl H123 id (by have k := BX.out.cell 13; go_simp; first | done | rfl)) fun a3 o S D H124 => ?_
  replace H2 := o.st H2
  replace H3 := o.st H3
  replace H5 := o.st H5
  replace H122 := o.st H122
  clear H123 o
  refine Slim.va (v := .int .i64 (p.m.ins.length : Int)) rfl rfl S D (Slim.len_g rfl H124 id (by go_simp; first | done | rfl)) fun a4 o S D H125 => ?_
  replace H2 := o.st H2
  replace H3 := o.st H3
  replace H5 := o.st H5
  replace H122 := o.st H122
  clear H124 o
  refine Slim.va rfl rfl S D (Slim.bin2_g rfl H122 H125 id id (fun _ _ => Slim.cmp_lss)) fun a5 o S D H126 => ?_
  replace H2 := o.st H2
  replace H3 := o.st H3
  replace H5 := o.st H5
  clear H122 H125 o
  refine wpList_nil ?_
  refine hK4 _ _ ?_
  refine wp_cond_split (Slim.pres H126 rfl) (fun e126 => ?_) (fun e126 => ?_)
  · have hkn : k < p.m.ins.length := by have := of_decide_eq_true e126; omega
    have hkm : k < q.m.ins.length := by have := HLN.out; omega
    have hkn' : (k : Int) < p.m.ins.length := by omega
    have hkm' : (k : Int) < q.m.ins.length := by omega
    clear e126 H126
    refine wp_skip ?_
    refine hK3 _ _ ?_
    apply wp_seq_k; intro K5 hK5
    refine wp_block ?_
    apply wp_seq_k; intro K6 hK6
    have LA := LP.out.ins.below KB.out
    have LB := LQ.out.ins.below KB.out
    have hBV : w.heap.size ≤ V.heap.size := KB.out.size
    obtain ⟨pa, hA, hpa⟩ := LA.start (by omega)
    obtain ⟨pb, hB, hpb⟩ := LB.start (by omega)
    obtain ⟨x, hx⟩ : ∃ x, x = p.m.ins[k] := ⟨_, rfl⟩
    obtain ⟨y, hy⟩ : ∃ y, y = q.m.ins[k] := ⟨_, rfl⟩
    have hc1 : ∀ j v, x.cells[j]? = some v → V.cell? ((pa.add (k * 3)).add j) = some v := fun j v hv => by
      have hj : j < 3 := (List.getElem?_eq_some_iff.1 hv).1
      rw [add_twice]
      exact LA.cell pa hA (by omega) _ v (by rw [Gm.inCells_at _ k j hkn hj, ← hx]; exact hv)
    have hc2 : ∀ j v, y.cells[j]? = some v → V.cell? ((pb.add (k * 3)).add j) = some v := fun j v hv => by
      have hj : j < 3 := (List.getElem?_eq_some_iff.1 hv).1
      rw [add_twice]
      exact LB.cell pb hB (by omega) _ v (by rw [Gm.inCells_at _ k j hkm hj, ← hy]; exact hv)
    have hca := qh (show ∀ w' : World, (∃ q : Ext V.heap.size V, w' = q.w) → ∀ j v, x.cells[j]? = some v → w'.cell? ((pa.add (k * 3)).add j) = some v from by
      rintro _ ⟨q, rfl⟩ j v hv
      refine (q.h.cell (p := (pa.add (k * 3)).add j) ?_).trans (hc1 j v hv)
      rw [add_block, add_block]; omega)
    have hcb := qh (show ∀ w' : World, (∃ q : Ext V.heap.size V, w' = q.w) → ∀ j v, y.cells[j]? = some v → w'.cell? ((pb.add (k * 3)).add j) = some v from by
      rintro _ ⟨q, rfl⟩ j v hv
      refine (q.h.cell (p := (pb.add (k * 3)).add j) ?_).trans (hc2 j v hv)
      rw [add_block, add_block]; omega)
    have ZA := qh (show ∀ w' : World, (∃ z : Ext V.heap.size V, w' = z.w) → Box w' A 29 p.cells from by
      rintro _ ⟨z, rfl⟩
      exact BX.out.below z.h BX.out.lt)
    have ZB := qh (show ∀ w' : World, (∃ z : Ext V.heap.size V, w' = z.w) → Box w' B 29 q.cells from by
      rintro _ ⟨z, rfl⟩
      exact BY.out.below z.h BY.out.lt)
    have hxk := qh hx
    have HAd := qh hA
    have HBd := qh hB
    have hyk := qh hy
    clear LA LB hc1 hc2 hx hy hA hB
    refine wp_region_ext V.heap.size V (by kernel_rfl) (by kernel_rfl) (Below.refl _ _) ?_
    refine Slim.qa (v := .pointer (some ⟨A, 13, none⟩)) rfl rfl S D (fun h0 w hw => (Slim.field_g rfl H2 id (by go_simp; first | done | rfl)) h0) fun a6 o S D H129 => ?_
    replace H2 := o.st H2
    replace H3 := o.st H3
    replace H5 := o.st H5
    refine Slim.qa (v := .slice p.ai p.m.ins.length p.ci) rfl rfl S D (fun h0 w hw => (Slim.load_g rfl H129 id (by have k := (ZA.out w hw).cell 13; go_simp; first | done | rfl)) h0) fun a7 o S D H130 => ?_
    replace H2 := o.st H2
    replace H3 := o.st H3
    replace H5 := o.st H5
    clear H129 o
    refine Slim.qa rfl rfl S D (fun h0 w hw => (Slim.move_g rfl H5 id) h0) fun a8 o S D H131 => ?_
    replace H2 := o.st H2
    replace H3 := o.st H3
    replace H5 := o.st H5
    replace H130 := o.st H130
    refine Slim.qa (v := .pointer (some (pa.add (k * 3)))) rfl rfl S D (fun h0 w hw => (Slim.index_g rfl H130 H131 id id (by rw [HAd.out]; go_simp; first | done | rfl)) h0) fun a9 o S D H132 => ?_
    replace H2 := o.st H2
    replace H3 := o.st H3
    replace H5 := o.st H5
    clear H130 H131 o
    refine Slim.qa (v := .agg #[.int .i8 x.x, .int .i8 x.y, .int .u8 x.b]) rfl rfl S D (fun h0 w hw => (Slim.load_g rfl H132 id (Slim.load_any (cs := x.cells) (hca.out w hw) Try.underlying50 rfl in3_info)) h0) fun a10 o S D H133 => ?_
    replace H2 := o.st H2
    replace H3 := o.st H3
    replace H5 := o.st H5
    clear H132 o
    refine Slim.qa (v := .pointer (some ⟨B, 13, none⟩)) rfl rfl S D (fun h0 w hw => (Slim.field_g rfl H3 id (by go_simp; first | done | rfl)) h0) fun a11 o S D H134 => ?_
    replace H2 := o.st H2
    replace H3 := o.st H3
    replace H5 := o.st H5
    replace H133 := o.st H133
    refine Slim.qa (v := .slice q.ai q.m.ins.length q.ci) rfl rfl S D (fun h0 w hw => (Slim.load_g rfl H134 id (by have k := (ZB.out w hw).cell 13; go_simp; first | done | rfl)) h0) fun a12 o S D H135 => ?_
    replace H2 := o.st H2
    replace H3 := o.st H3
    replace H5 := o.st H5
    replace H133 := o.st H133
    clear H134 o
    refine Slim.qa rfl rfl S D (fun h0 w hw => (Slim.move_g rfl H5 id) h0) fun a13 o S D H136 => ?_
    replace H2 := o.st H2
    replace H3 := o.st H3
    replace H5 := o.st H5
    replace H133 := o.st H133
    replace H135 := o.st H135
    refine Slim.qa (v := .pointer (some (pb.add (k * 3)))) rfl rfl S D (fun h0 w hw => (Slim.index_g rfl H135 H136 id id (by rw [HBd.out]; go_simp; first | done | rfl)) h0) fun a14 o S D H137 => ?_
    replace H2 := o.st H2
    replace H3 := o.st H3
    replace H5 := o.st H5
    replace H133 := o.st H133
    clear H135 H136 o
    refine Slim.qa (v := .agg #[.int .i8 y.x, .int .i8 y.y, .int .u8 y.b]) rfl rfl S D (fun h0 w hw => (Slim.load_g rfl H137 id (Slim.load_any (cs := y.cells) (hcb.out w hw) Try.underlying50 rfl in3_info)) h0) fun a15 o S D H138 => ?_
    replace H2 := o.st H2
    replace H3 := o.st H3
    replace H5 := o.st H5
    replace H133 := o.st H133
    clear H137 o
    refine Slim.qa (v := .bool (!decide (x = y))) rfl rfl S D (fun h0 w hw => (Slim.bin2_g rfl H133 H138 id id (fun _ _ => in_neq2 x y)) h0) fun a16 o S D H139 => ?_
    replace H2 := o.st H2
    replace H3 := o.st H3
    replace H5 := o.st H5
    clear H133 H138 o
    refine wpQuiet_nil ?_
    rintro _ ⟨q', rfl⟩
    replace BX := qh (ZA.out _ ⟨q', rfl⟩)
    replace BY := qh (ZB.out _ ⟨q', rfl⟩)
    replace KB := qh (KB.out.trans (q'.h.mono hBV))
    refine hK6 _ _ ?_
    refine wp_cond_split (Slim.pres H139 rfl) (fun e139 => ?_) (fun e139 => ?_)
    · exact Slim.ret_const (t := 4) rfl rfl (by rw [S]; decide) fun a' o => by
        (try simp only [Exit.inBlock, Exit.then])
        exact on_ret rfl (o.defers.trans D) o.here ⟨ret_bool (Ms.sameB_no (fun h => by have h1 := h.ins k hkn hkm; rw [← hxk.out, ← hyk.out] at h1; rw [decide_eq_true h1] at e139; cases e139)), KB.out⟩
    · refine wp_skip ?_
      simp only [Exit.inBlock, Exit.then]
      refine hK5 _ _ ?_
      refine wp_region_lit ?_
      refine Slim.va rfl rfl S D (Slim.move_g rfl H5 id) fun a17 o S D H127 => ?_
      replace H2 := o.st H2
      replace H3 := o.st H3
      clear H5 o
      refine Slim.va (v := .int .i64 ((k + 1 : Nat) : Int)) rfl rfl S D (Slim.bin_g rfl H127 id (fun _ _ => add_one k (by omega))) fun a18 o S D H128 => ?_
      replace H2 := o.st H2
      replace H3 := o.st H3
      clear H127 o
      refine Slim.va rfl rfl S D (Slim.assign_g rfl H128 id) fun a19 o S D H5 => ?_
      replace H2 := o.st H2
      replace H3 := o.st H3
      clear H128 o
      refine wpList_nil ?_
      refine ⟨⟨k + 1, S, D, H2, H3, H5, hkn, fun t h h' ht => ?_, BX.out, BY.out, KB.out⟩, ?_⟩
      · by_cases et : t = k
        · subst et
          rw [← hxk.out, ← hyk.out]
          by_cases hxy : x = y
          · exact hxy
          · rw [decide_eq_false hxy] at e139; cases e139
        · exact HA.out t h h' (by omega)
      · have hm := MU.out
        show _ - (intOf (_ : Value)).toNat < _
        rw [hm, show (_ : Act).tmps.getD 5 undef = .int .i64 ((k + 1 : Nat) : Int) from Slim.pres H5 rfl]
        simp [intOf]; omega
  · have hkn : ¬ k < p.m.ins.length := by have := of_decide_eq_false e126; omega
    have IA := qh (show ∀ j (h : j < p.m.ins.length) (h' : j < q.m.ins.length), p.m.ins[j] = q.m.ins[j] from fun j h h' => HA.out j h h' (by omega))
    refine wp_exit ?_
    simp only [Exit.inBlock, Exit.then, if_true]
    refine hK1 _ _ ?_
    apply wp_seq_k; intro K7 hK7
    refine wp_region_lit ?_
    refine Slim.va (v := .pointer (some ⟨A, 14, none⟩)) rfl rfl S D (Slim.field_g rfl H2 id (by go_simp; first | done | rfl)) fun a6 o S D H140 => ?_
    replace H3 := o.st H3
    clear H2 o
    refine Slim.va (v := .slice p.al p.m.log.length p.cl) rfl rfl S D (Slim.load_g rfl H140 id (by have k := BX.out.cell 14; go_simp; first | done | rfl)) fun a7 o S D H141 => ?_
    replace H3 := o.st H3
    clear H140 o
    refine Slim.va (v := .pointer (some ⟨B, 14, none⟩)) rfl rfl S D (Slim.field_g rfl H3 id (by go_simp; first | done | rfl)) fun a8 o S D H142 => ?_
    replace H141 := o.st H141
    clear H3 o
    refine Slim.va (v := .slice q.al q.m.log.length q.cl) rfl rfl S D (Slim.load_g rfl H142 id (by have k := BY.out.cell 14; go_simp; first | done | rfl)) fun a9 o S D H143 => ?_
    replace H141 := o.st H141
    clear H142 o
    refine Slim.call_g (t := 144) (c := true) (v := .bool (En.frontB p.m.log q.m.log)) rfl (by rw [S]; decide) (Slim.wants_all rfl) (Slim.calls22_g rfl H141 H143 id id (by go_simp; first | done | rfl)) (fun _ => reffront_any p.m.log q.m.log p.al q.al _ _ p.cl q.cl _ LP.out.fl LQ.out.fl ((LP.out.log.below KB.out).wider KB.out.size) ((LQ.out.log.below KB.out).wider KB.out.size)) fun a10 W1 o hb => ?_
    replace KB := qh (KB.out.trans (hb.mono KB.out.size)); clear hb
    replace S := o.size.trans S; replace D := o.defers.trans D
    have H144 : Slim.Has a10 144 true (.bool (En.frontB p.m.log q.m.log)) := o.here
    clear H141
    clear H143
    refine Slim.va rfl rfl S D (Slim.assign_g rfl H144 id) fun a11 o S D H4 => ?_
    clear H144 o
    refine wpList_nil ?_
    refine hK7 _ _ ?_
    refine wp_ret ?_
    (try simp only [Exit.inBlock, Exit.then])
    exact on_ret rfl D H4 ⟨ret_bool (Ms.sameB_log N1.out IA.out), KB.out⟩
end Go.Proofs.Ytgmlbimgcifenaa
namespace Go.Proofs.Ytgmlbimgcifenaa
open Go.RowKit Go.Shelf
theorem u8_fill3 (a b c : Int) : Instr.fill (fun i => some (i * 1, 1)) ((Array.range (3 * 1)).map ((Value.int .u8 0).cells[· % (Value.int .u8 0).cells.size]!)) [(0, .int .u8 a), (1, .int .u8 b), (2, .int .u8 c)] = some #[.int .u8 a, .int .u8 b, .int .u8 c] := by kernel_rfl
theorem u8_slice3 (a b c : Int) (W : World) : (Instr.buildSlice 27 3 #[(0, .int .u8 a), (1, .int .u8 b), (2, .int .u8 c)]).run Try.prog W = .ok (.slice (some ⟨W.heap.size, 0, none⟩) 3 3) (W.alloc (.cells #[.int .u8 a, .int .u8 b, .int .u8 c] 5)) := by
  obtain ⟨i, hq, hz, hs, _⟩ := u8_parts
  exact run_buildSlice W _ _ 3 _ _ i (.int .u8 0) Try.underlying27 hq hz (by rw [hs]; decide) (by rw [hs]; decide) (by rw [hs]; exact u8_fill3 a b c)
theorem refputin_any (p : Gm.In) (w : World) (hty : Gm.tyIn p) :
    Calls Try.prog 58 #[.agg p.cells.toArray] w fun e w' => e = .returned (.string (strOfNums (En.inBytes p))) ∧ Below w.heap.size w w' := by
  obtain ⟨x, y, b⟩ := p
  obtain ⟨t1, t2, t3⟩ := hty
  dsimp only at t1 t2 t3
  simp only [Gm.In.cells]
  have e0 : En.inBytes ⟨x, y, b⟩ = [x % 256, y % 256, b] := by
    unfold En.inBytes Im.bytesOf Im.bytesOf
    simp
    omega
  rw [e0]
  have hw1 : IntKind.u8.wrap x = x % 256 := by rw [IntKind.wrap_u8]
  have hw2 : IntKind.u8.wrap y = y % 256 := by rw [IntKind.wrap_u8]
  have hsl := fun a b c W => u8_slice3 a b c W
  have hcv := conv_bytes [x % 256, y % 256, b] 3 (some ⟨w.heap.size + 1, 0, none⟩) 3 ((w.alloc (.cells #[.int .i8 x, .int .i8 y, .int .u8 b] 50)).alloc (.cells #[.int .u8 (x % 256), .int .u8 (y % 256), .int .u8 b] 5)) _ rfl (Lies.boxed (xs := Im.u8s [x % 256, y % 256, b]) (n := 3) (size := 1) (Box.made_at (n := w.heap.size + 1) (w.alloc (.cells #[.int .i8 x, .int .i8 y, .int .u8 b] 50)) 5 (Im.u8s [x % 256, y % 256, b]).toArray (by simp)) rfl)
  have K := qh (two_below' w (.cells #[.int .i8 x, .int .i8 y, .int .u8 b] 50) (.cells #[.int .u8 (x % 256), .int .u8 (y % 256), .int .u8 b] 5))
  go_enter Try.func58, Try.ntmps58
  go_wp2
  go_ret
  exact ⟨rfl, K.out⟩
theorem str_sum {a b c : List Int} {x y : ByteArray} (hx : x = strOfNums a) (hy : y = strOfNums b) (hc : a ++ b = c) (hl : a.length + b.length ≤ 1000000) : ∃ u : ByteArray, u = strOfNums c ∧ x ++ y = u ∧ ¬ 9223372036854775807 < x.size + y.size := by
  subst hx hy hc
  exact ⟨_, rfl, (Sx.str_append a b).symm, by rw [strOfNums_size, strOfNums_size]; omega⟩
theorem refputen_any (e : En.E) (A : Option Addr) (n c : Nat) (w : World) (hok : En.Ok e) (hty : ∀ i, i < 8 → Gm.tyIn (e.inp i)) (hn : n = e.evs.length) (hL : Lies w w.heap.size 4 A n (En.evCells e.evs)) :
    Calls Try.prog 59 #[.agg (En.cells e (.slice A n c))] w fun r w' => r = .returned (.string (strOfNums (En.put e))) ∧ Below w.heap.size w w' := by
  have hn16 := hok.count
  rw [← hn] at hn16
  have HN := qh hn
  have P0 := qh (Box.made w 53 (En.cells e (.slice A n c)))
  have K0 := qh (one_below w (.cells (En.cells e (.slice A n c)) 53))
  have hr0 := qh ((hL.below K0.out).wider K0.out.size)
  have hfr := hok.frame
  have hwf : IntKind.u64.wrap e.frame = e.frame := by rw [IntKind.wrap_u64]; omega
  have hwn : IntKind.u64.wrap (n : Int) = n := by rw [IntKind.wrap_u64]; omega
  have hf2 : e.frame ≤ 18446744073709551615 := by omega
  have hrm := En.row_mem _ _ hok.row
  have HP := qh (show En.put e = Im.bytesOf 4 e.frame ++ ((Im.bytesOf 1 e.evs.length ++ En.evsBytes e.evs) ++ (Im.bytesOf 1 (En.mask e.inp 8) ++ En.insBytes e.inp 8)) from rfl)
  rw [← HN.out] at HP
  have HRM := qh hrm
  clear hL hn hok hrm
  go_enter Try.func59, Try.ntmps59
  go_upto_region 1 with fail
  generalize hW0 : w.alloc (.cells (En.cells e (.slice A n c)) 53) = W0 at *
  clear hW0
  have z0 : ∀ q : Ext W0.heap.size W0, q.w.cell? ⟨w.heap.size, 0, none⟩ = some (.int .i64 e.frame) := fun q => q.cell P0.out.lt ((P0.out.cell 0).trans (En.cells_0 _ _))
  have z1 : ∀ q : Ext W0.heap.size W0, q.w.cell? ⟨w.heap.size, 1, none⟩ = some (.slice A n c) := fun q => q.cell P0.out.lt ((P0.out.cell 1).trans (En.cells_1 _ _))
  obtain ⟨s1, hs1⟩ : ∃ s, s = strOfNums (Im.bytesOf 4 e.frame) := ⟨_, rfl⟩
  obtain ⟨s2, hs2⟩ : ∃ s, s = strOfNums (Im.bytesOf 1 (n : Int)) := ⟨_, rfl⟩
  obtain ⟨s3, hs3, ha3, hc3⟩ := str_sum hs1 hs2 rfl (by rw [Im.bytesOf_len, Im.bytesOf_len]; omega)
  have cn1 := fun X => qh (refput_num 4 4 e.frame rfl X (by decide) ⟨hfr.1, hf2⟩)
  have cn2 := fun X => qh (refput_num 1 1 (n : Int) rfl X (by decide) ⟨by omega, by omega⟩)
  rw [← hs1] at cn1
  rw [← hs2] at cn2
  have HS3 := qh hs3
  clear hs1 hs2 hs3
  refine wp_region_ext W0.heap.size W0 (by kernel_rfl) (by kernel_rfl) (Below.refl _ _) ?_
  repeat (first | go_big_quiet_step ((go_at_call 17; first | with_reducible exact Calls.ext_of (Nat.le_refl _) (cn1 _).out | with_reducible exact Calls.ext_of (Nat.le_refl _) (cn2 _).out)))
  refine wpQuiet_nil ?_
  intro _ hw'
  obtain ⟨q0, hw''⟩ := hw'
  subst hw''
  have K1 := qh q0.h
  clear z0 z1 cn1 cn2
  go_wp2
  go_loopw [3, 4] (fun sv i wr => ∃ k : Nat, k ≤ n ∧ i = .int .i64 k ∧ sv = .string (strOfNums (Im.bytesOf 4 e.frame ++ Im.bytesOf 1 (n : Int) ++ En.evsBytes (e.evs.take k))) ∧ Below W0.heap.size W0 wr) (fun _ i _ => n - (intOf i).toNat)
  case atStart => exact ⟨0, by omega, rfl, by rw [HS3.out]; simp [En.evsBytes], K1.out⟩
  case round =>
    obtain ⟨k, hk, rfl, rfl, hb⟩ := hrel
    have p1 := ((P0.out.below hb P0.out.lt).cell 1).trans (En.cells_1 _ _)
    have HB := qh hb
    have KB := qh (K0.out.trans (hb.mono K0.out.size))
    by_cases hlt : k < n
    · have hk8 : (k : Int) < n := by omega
      have hkl : k < e.evs.length := by have := HN.out; omega
      obtain ⟨ad, rfl, hbl, e0, e1, e2, e3⟩ := evs_at (hr0.out.below hb) HN.out k hkl
      have hsn := En.evsBytes_snoc e.evs k hkl
      have hev := HRM.out e.evs[k] (List.getElem_mem hkl)
      generalize hv : e.evs[k] = v at e0 e1 e2 e3 hsn hev
      obtain ⟨vk, vs, vg, vp⟩ := v
      obtain ⟨o1, o2, o3, o4⟩ := hev
      dsimp only at e0 e1 e2 e3 o1 o2 o3 o4
      have sz := hb.size
      have ltA : ad.block < wr.heap.size := Nat.lt_of_lt_of_le hbl hb.size
      have ltP := (P0.out.below hb P0.out.lt).lt
      have hlen : (Im.bytesOf 4 e.frame ++ Im.bytesOf 1 (n : Int) ++ En.evsBytes (e.evs.take k)).length = 5 + 5 * k := by
        rw [List.length_append, List.length_append, Im.bytesOf_len, Im.bytesOf_len, En.evsBytes_len, List.length_take]; omega
      have HPRE := qh (show Im.bytesOf 4 e.frame ++ Im.bytesOf 1 (n : Int) ++ En.evsBytes (e.evs.take (k + 1)) = Im.bytesOf 4 e.frame ++ Im.bytesOf 1 (n : Int) ++ En.evsBytes (e.evs.take k) ++ Im.bytesOf 1 vk ++ Im.bytesOf 1 vs ++ Im.bytesOf 2 vg ++ Im.bytesOf 1 vp by rw [hsn]; unfold En.evBytes; simp only [List.append_assoc])
      generalize Im.bytesOf 4 e.frame ++ Im.bytesOf 1 (n : Int) ++ En.evsBytes (e.evs.take k) = pre at *
      obtain ⟨s0, hs0⟩ : ∃ s, s = strOfNums pre := ⟨_, rfl⟩
      obtain ⟨sa, hsa⟩ : ∃ s, s = strOfNums (Im.bytesOf 1 vk) := ⟨_, rfl⟩
      obtain ⟨sb, hsb⟩ : ∃ s, s = strOfNums (Im.bytesOf 1 vs) := ⟨_, rfl⟩
      obtain ⟨sc, hsc⟩ : ∃ s, s = strOfNums (Im.bytesOf 2 vg) := ⟨_, rfl⟩
      obtain ⟨sd, hsd⟩ : ∃ s, s = strOfNums (Im.bytesOf 1 vp) := ⟨_, rfl⟩
      obtain ⟨t1, ht1, ha1, hc1⟩ := str_sum hs0 hsa rfl (by rw [Im.bytesOf_len]; omega)
      obtain ⟨t2, ht2, ha2, hc2⟩ := str_sum ht1 hsb rfl (by rw [List.length_append, Im.bytesOf_len, Im.bytesOf_len]; omega)
      obtain ⟨t3, ht3, ha3', hc3'⟩ := str_sum ht2 hsc rfl (by rw [List.length_append, List.length_append, Im.bytesOf_len, Im.bytesOf_len, Im.bytesOf_len]; omega)
      obtain ⟨t4, ht4, ha4, hc4⟩ := str_sum ht3 hsd rfl (by rw [List.length_append, List.length_append, List.length_append, Im.bytesOf_len, Im.bytesOf_len, Im.bytesOf_len, Im.bytesOf_len]; omega)
      have cka := fun X => qh (refput_num 1 1 vk rfl X (by decide) ⟨by omega, by omega⟩)
      have cks := fun X => qh (refput_num 1 1 vs rfl X (by decide) ⟨by omega, by omega⟩)
      have ckg := fun X => qh (refput_num 2 2 vg rfl X (by decide) ⟨by omega, by omega⟩)
      have ckp := fun X => qh (refput_num 1 1 vp rfl X (by decide) ⟨by omega, by omega⟩)
      have hw1 : IntKind.u64.wrap vk = vk := by rw [IntKind.wrap_u64]; omega
      have hw2 : IntKind.u64.wrap vs = vs := by rw [IntKind.wrap_u64]; omega
      have hw3 : IntKind.u64.wrap vg = vg := by rw [IntKind.wrap_u64]; omega
      have hw4 : IntKind.u64.wrap vp = vp := by rw [IntKind.wrap_u64]; omega
      rw [← hs0]
      rw [← hsa] at cka
      rw [← hsb] at cks
      rw [← hsc] at ckg
      rw [← hsd] at ckp
      have HT4 := qh ht4
      clear hs0 hsa hsb hsc hsd ht1 ht2 ht3 ht4 hsn hb hv
      go_upto_region 6 with fail
      have Q1 := qh (Box.made wr 59 #[.int .i64 vk, .int .i64 vs, .int .i64 vg, .int .i64 vp])
      have K2 := qh (HB.out.alloc HB.out.size (.cells #[.int .i64 vk, .int .i64 vs, .int .i64 vg, .int .i64 vp] 59))
      generalize hW1 : wr.alloc (.cells #[.int .i64 vk, .int .i64 vs, .int .i64 vg, .int .i64 vp] 59) = W1 at *
      clear hW1 p1 e0 e1 e2 e3
      have z0 : ∀ q : Ext W1.heap.size W1, q.w.cell? ⟨wr.heap.size, 0, none⟩ = some (.int .i64 vk) := fun q => q.cell Q1.out.lt (Q1.out.cell 0)
      have z1 : ∀ q : Ext W1.heap.size W1, q.w.cell? ⟨wr.heap.size, 1, none⟩ = some (.int .i64 vs) := fun q => q.cell Q1.out.lt (Q1.out.cell 1)
      have z2 : ∀ q : Ext W1.heap.size W1, q.w.cell? ⟨wr.heap.size, 2, none⟩ = some (.int .i64 vg) := fun q => q.cell Q1.out.lt (Q1.out.cell 2)
      have z3 : ∀ q : Ext W1.heap.size W1, q.w.cell? ⟨wr.heap.size, 3, none⟩ = some (.int .i64 vp) := fun q => q.cell Q1.out.lt (Q1.out.cell 3)
      refine wp_region_ext W1.heap.size W1 (by kernel_rfl) (by kernel_rfl) (Below.refl _ _) ?_
      repeat (first | go_big_quiet_step ((go_at_call 17; first | with_reducible exact Calls.ext_of (Nat.le_refl _) (cka _).out | with_reducible exact Calls.ext_of (Nat.le_refl _) (cks _).out | with_reducible exact Calls.ext_of (Nat.le_refl _) (ckg _).out | with_reducible exact Calls.ext_of (Nat.le_refl _) (ckp _).out)))
      refine wpQuiet_nil ?_
      intro _ hw'
      obtain ⟨q1, hw''⟩ := hw'
      subst hw''
      have K3 := qh (K2.out.trans (q1.h.mono K2.out.size))
      clear z0 z1 z2 z3 cka cks ckg ckp
      go_wp2
      go_roundw
      case rel => exact ⟨k + 1, by omega, by go_num, by rw [HPRE.out, HT4.out], K3.out⟩
      case measure => simp [intOf]; omega
    · have hk8 : ¬ (k : Int) < n := by omega
      obtain rfl : k = n := by omega
      have htk : e.evs.take k = e.evs := List.take_of_length_le (by have := HN.out; omega)
      rw [htk]
      have hlen : (Im.bytesOf 4 e.frame ++ Im.bytesOf 1 (k : Int) ++ En.evsBytes e.evs).length = 5 + 5 * k := by
        rw [List.length_append, List.length_append, Im.bytesOf_len, Im.bytesOf_len, En.evsBytes_len]; have := HN.out; omega
      have HPUT := qh (show En.put e = Im.bytesOf 4 e.frame ++ Im.bytesOf 1 (k : Int) ++ En.evsBytes e.evs ++ Im.bytesOf 1 (En.mask e.inp 8) ++ En.insBytes e.inp 8 by rw [HP.out]; simp only [List.append_assoc])
      generalize Im.bytesOf 4 e.frame ++ Im.bytesOf 1 (k : Int) ++ En.evsBytes e.evs = pre at *
      obtain ⟨s0, hs0⟩ : ∃ s, s = strOfNums pre := ⟨_, rfl⟩
      rw [← hs0]
      have HS0 := qh hs0
      clear hs0 htk
      have PB := qh (P0.out.below hb P0.out.lt)
      clear hb
      go_wp2
      go_loopw [6, 7, 8] (fun mv sv i wq => ∃ j : Nat, j ≤ 8 ∧ i = .int .i64 j ∧ mv = .int .i64 (En.mask e.inp j : Nat) ∧ sv = .string (strOfNums (En.insBytes e.inp j)) ∧ Below wr.heap.size wr wq) (fun _ _ i _ => 8 - (intOf i).toNat)
      case atStart => exact ⟨0, by omega, rfl, rfl, rfl, Below.refl _ _⟩
      case round =>
        obtain ⟨j, hj, rfl, rfl, rfl, hb⟩ := hrel
        have PQ := qh (PB.out.below hb PB.out.lt)
        have HQ := qh hb
        by_cases hlt8 : j < 8
        · have hj8 : (j : Int) < 8 := by omega
          have e0 := (PQ.out.cell (2 + j * 3)).trans (En.cells_in e _ j 0 hlt8 (by omega))
          have e1 := (PQ.out.cell (2 + j * 3 + 1)).trans (En.cells_in e _ j 1 hlt8 (by omega))
          have e2 := (PQ.out.cell (2 + j * 3 + 2)).trans (En.cells_in e _ j 2 hlt8 (by omega))
          have hml := En.mask_lt e.inp j
          have hp8 : 2 ^ j < 2 ^ 8 := Nat.pow_lt_pow_right (by decide) hlt8
          have hms : En.mask e.inp (j + 1) = En.mask e.inp j + (if En.zero (e.inp j) = true then 0 else 2 ^ j) := rfl
          have his : En.insBytes e.inp (j + 1) = En.insBytes e.inp j ++ (if En.zero (e.inp j) then [] else En.inBytes (e.inp j)) := rfl
          have hil := En.insBytes_le e.inp j
          have hti := hty j hlt8
          obtain ⟨p, hp⟩ : ∃ p, p = e.inp j := ⟨_, rfl⟩
          rw [← hp] at e0 e1 e2 hms his hti
          obtain ⟨x, y, u⟩ := p
          have cpi := fun X => qh (refputin_any ⟨x, y, u⟩ X hti)
          simp only [Gm.In.cells, List.getElem?_cons_zero, List.getElem?_cons_succ, Nat.add_zero] at e0 e1 e2 cpi
          have hneq := fun W => in_neq x y u W
          obtain ⟨m, hm⟩ : ∃ m, m = En.mask e.inp j := ⟨_, rfl⟩
          rw [← hm] at hml hms ⊢
          have hor := En.or_bit ⟨m, by omega⟩ ⟨j, hlt8⟩ hml
          dsimp only at hor
          rw [IntWalk.i64_left] at hor
          obtain ⟨s1, hs1⟩ : ∃ s, s = strOfNums (En.insBytes e.inp j) := ⟨_, rfl⟩
          rw [← hs1]
          obtain ⟨s2, hs2⟩ : ∃ s, s = strOfNums (En.inBytes ⟨x, y, u⟩) := ⟨_, rfl⟩
          obtain ⟨s4, hs4, ha4, hc4⟩ := str_sum hs1 hs2 rfl (by rw [En.inBytes_len]; omega)
          rw [← hs2] at cpi
          have ltQ := PQ.out.lt
          have hwj : IntKind.u64.wrap (j : Int) = j := by rw [IntKind.wrap_u64]; omega
          cases hz : En.zero ⟨x, y, u⟩
          · rw [hz] at hms his hneq
            simp only [Bool.false_eq_true, if_false] at hms his
            have HMS := qh hms
            have HIS := qh his
            have HS4 := qh hs4
            clear hms his hz hs1 hs2 hs4 hp hm hb hil hml
            go_wp2_with (go_at_call 58; ((with_reducible refine ((cpi _).out).mono ?_); rintro r w3 ⟨rfl, hb⟩; have K5 := qh (HQ.out.trans (hb.mono HQ.out.size)); clear hb))
            go_roundw
            case rel => exact ⟨j + 1, by omega, by go_num, by rw [HMS.out]; push_cast; rfl, by rw [HIS.out, HS4.out], K5.out⟩
            case measure => simp [intOf]; omega
          · rw [hz] at hms his hneq
            simp only [if_true, Nat.add_zero, List.append_nil] at hms his
            have HMS := qh hms
            have HIS := qh his
            have HS1 := qh hs1
            clear hms his hz hs1 hs2 hs4 hp hm hb hil hml
            go_wp2
            go_roundw
            case rel => exact ⟨j + 1, by omega, by go_num, by rw [HMS.out], by rw [HIS.out, HS1.out], HQ.out⟩
            case measure => simp [intOf]; omega
        · have hj8 : ¬ (j : Int) < 8 := by omega
          obtain rfl : j = 8 := by omega
          have hml := En.mask_lt e.inp 8
          have hil := En.insBytes_le e.inp 8
          generalize En.mask e.inp 8 = m at *
          generalize En.insBytes e.inp 8 = ib at *
          have cnm := fun X => qh (refput_num 1 1 (m : Int) rfl X (by decide) ⟨by omega, by omega⟩)
          have hwm : IntKind.u64.wrap (m : Int) = m := by rw [IntKind.wrap_u64]; omega
          obtain ⟨s1, hs1⟩ : ∃ s, s = strOfNums (Im.bytesOf 1 (m : Int)) := ⟨_, rfl⟩
          obtain ⟨s2, hs2⟩ : ∃ s, s = strOfNums ib := ⟨_, rfl⟩
          obtain ⟨s4, hs4, ha4, hc4⟩ := str_sum HS0.out hs1 rfl (by rw [Im.bytesOf_len]; omega)
          obtain ⟨s5, hs5, ha5, hc5⟩ := str_sum hs4 hs2 rfl (by rw [List.length_append, Im.bytesOf_len]; omega)
          rw [← hs1] at cnm
          rw [← hs2]
          have HS5 := qh hs5
          clear hs1 hs2 hs4 hs5 hb
          have KZ := qh (KB.out.trans (HQ.out.mono KB.out.size))
          go_wp2_with (go_at_call 17; ((with_reducible refine ((cnm _).out).mono ?_); rintro r w3 ⟨rfl, hb⟩; have K5 := qh (KZ.out.trans (hb.mono KZ.out.size)); clear hb))
          go_ret
          exact ⟨by rw [HPUT.out, ← HS5.out]; rfl, K5.out⟩
end Go.Proofs.Ytgmlbimgcifenaa
namespace Go.Proofs.Ytgmlbimgcifenaa
open Go.RowKit
theorem part_slot (q : Ms.S) (w : World) (hv : 0 ≤ q.m.slot ∧ q.m.slot ≤ 18446744073709551615) :
    Calls Try.prog 39 #[.agg q.cells, .int .u8 115] w fun e w' => e = .returned (.string (strOfNums (Im.bytesOf 1 q.m.slot))) ∧ Below w.heap.size w w' := by
  have KB := qh (one_below w (.cells q.cells 29))
  have BX := qh (Box.made w 29 q.cells)
  have k0 : (w.alloc (.cells q.cells 29)).cell? ⟨w.heap.size, 5, none⟩ = some (.int .i64 q.m.slot) := BX.out.cell 5
  have cn := fun X => qh (refput_num 1 1 q.m.slot rfl X (by decide) hv)
  have hw : IntKind.u64.wrap q.m.slot = q.m.slot := by rw [IntKind.wrap_u64]; omega
  generalize strOfNums (Im.bytesOf 1 q.m.slot) = s at *
  generalize q.m.slot = v at *
  generalize hA : q.cells = CS at *
  clear hA BX
  go_enter Try.func39, Try.ntmps39
  go_wp2_with ((go_at_call 17; ((with_reducible refine (cn _).out.mono ?_); rintro e w2 ⟨rfl, hb⟩; have HB := qh hb; clear hb)))
  go_ret
  exact ⟨rfl, KB.out.trans (HB.out.mono KB.out.size)⟩
theorem part_gen (q : Ms.S) (w : World) (hv : 0 ≤ q.m.gen ∧ q.m.gen ≤ 18446744073709551615) :
    Calls Try.prog 39 #[.agg q.cells, .int .u8 103] w fun e w' => e = .returned (.string (strOfNums (Im.bytesOf 2 q.m.gen))) ∧ Below w.heap.size w w' := by
  have KB := qh (one_below w (.cells q.cells 29))
  have BX := qh (Box.made w 29 q.cells)
  have k0 : (w.alloc (.cells q.cells 29)).cell? ⟨w.heap.size, 6, none⟩ = some (.int .i64 q.m.gen) := BX.out.cell 6
  have cn := fun X => qh (refput_num 2 2 q.m.gen rfl X (by decide) hv)
  have hw : IntKind.u64.wrap q.m.gen = q.m.gen := by rw [IntKind.wrap_u64]; omega
  generalize strOfNums (Im.bytesOf 2 q.m.gen) = s at *
  generalize q.m.gen = v at *
  generalize hA : q.cells = CS at *
  clear hA BX
  go_enter Try.func39, Try.ntmps39
  go_wp2_with ((go_at_call 17; ((with_reducible refine (cn _).out.mono ?_); rintro e w2 ⟨rfl, hb⟩; have HB := qh hb; clear hb)))
  go_ret
  exact ⟨rfl, KB.out.trans (HB.out.mono KB.out.size)⟩
theorem part_frame (q : Ms.S) (w : World) (hv : 0 ≤ q.m.frame ∧ q.m.frame ≤ 18446744073709551615) :
    Calls Try.prog 39 #[.agg q.cells, .int .u8 102] w fun e w' => e = .returned (.string (strOfNums (Im.bytesOf 4 q.m.frame))) ∧ Below w.heap.size w w' := by
  have KB := qh (one_below w (.cells q.cells 29))
  have BX := qh (Box.made w 29 q.cells)
  have k0 : (w.alloc (.cells q.cells 29)).cell? ⟨w.heap.size, 7, none⟩ = some (.int .i64 q.m.frame) := BX.out.cell 7
  have cn := fun X => qh (refput_num 4 4 q.m.frame rfl X (by decide) hv)
  have hw : IntKind.u64.wrap q.m.frame = q.m.frame := by rw [IntKind.wrap_u64]; omega
  generalize strOfNums (Im.bytesOf 4 q.m.frame) = s at *
  generalize q.m.frame = v at *
  generalize hA : q.cells = CS at *
  clear hA BX
  go_enter Try.func39, Try.ntmps39
  go_wp2_with ((go_at_call 17; ((with_reducible refine (cn _).out.mono ?_); rintro e w2 ⟨rfl, hb⟩; have HB := qh hb; clear hb)))
  go_ret
  exact ⟨rfl, KB.out.trans (HB.out.mono KB.out.size)⟩
theorem part_code (q : Ms.S) (w : World) (hv : 0 ≤ q.m.code ∧ q.m.code ≤ 18446744073709551615) :
    Calls Try.prog 39 #[.agg q.cells, .int .u8 99] w fun e w' => e = .returned (.string (strOfNums (Im.bytesOf 1 q.m.code))) ∧ Below w.heap.size w w' := by
  have KB := qh (one_below w (.cells q.cells 29))
  have BX := qh (Box.made w 29 q.cells)
  have k0 : (w.alloc (.cells q.cells 29)).cell? ⟨w.heap.size, 8, none⟩ = some (.int .i64 q.m.code) := BX.out.cell 8
  have cn := fun X => qh (refput_num 1 1 q.m.code rfl X (by decide) hv)
  have hw : IntKind.u64.wrap q.m.code = q.m.code := by rw [IntKind.wrap_u64]; omega
  generalize strOfNums (Im.bytesOf 1 q.m.code) = s at *
  generalize q.m.code = v at *
  generalize hA : q.cells = CS at *
  clear hA BX
  go_enter Try.func39, Try.ntmps39
  go_wp2_with ((go_at_call 17; ((with_reducible refine (cn _).out.mono ?_); rintro e w2 ⟨rfl, hb⟩; have HB := qh hb; clear hb)))
  go_ret
  exact ⟨rfl, KB.out.trans (HB.out.mono KB.out.size)⟩
theorem part_n (q : Ms.S) (w : World) (hv : 0 ≤ q.m.n ∧ q.m.n ≤ 18446744073709551615) :
    Calls Try.prog 39 #[.agg q.cells, .int .u8 110] w fun e w' => e = .returned (.string (strOfNums (Im.bytesOf 2 q.m.n))) ∧ Below w.heap.size w w' := by
  have KB := qh (one_below w (.cells q.cells 29))
  have BX := qh (Box.made w 29 q.cells)
  have k0 : (w.alloc (.cells q.cells 29)).cell? ⟨w.heap.size, 9, none⟩ = some (.int .i64 q.m.n) := BX.out.cell 9
  have cn := fun X => qh (refput_num 2 2 q.m.n rfl X (by decide) hv)
  have hw : IntKind.u64.wrap q.m.n = q.m.n := by rw [IntKind.wrap_u64]; omega
  generalize strOfNums (Im.bytesOf 2 q.m.n) = s at *
  generalize q.m.n = v at *
  generalize hA : q.cells = CS at *
  clear hA BX
  go_enter Try.func39, Try.ntmps39
  go_wp2_with ((go_at_call 17; ((with_reducible refine (cn _).out.mono ?_); rintro e w2 ⟨rfl, hb⟩; have HB := qh hb; clear hb)))
  go_ret
  exact ⟨rfl, KB.out.trans (HB.out.mono KB.out.size)⟩
theorem part_of (q : Ms.S) (w : World) (hv : 0 ≤ q.m.of ∧ q.m.of ≤ 18446744073709551615) :
    Calls Try.prog 39 #[.agg q.cells, .int .u8 111] w fun e w' => e = .returned (.string (strOfNums (Im.bytesOf 2 q.m.of))) ∧ Below w.heap.size w w' := by
  have KB := qh (one_below w (.cells q.cells 29))
  have BX := qh (Box.made w 29 q.cells)
  have k0 : (w.alloc (.cells q.cells 29)).cell? ⟨w.heap.size, 10, none⟩ = some (.int .i64 q.m.of) := BX.out.cell 10
  have cn := fun X => qh (refput_num 2 2 q.m.of rfl X (by decide) hv)
  have hw : IntKind.u64.wrap q.m.of = q.m.of := by rw [IntKind.wrap_u64]; omega
  generalize strOfNums (Im.bytesOf 2 q.m.of) = s at *
  generalize q.m.of = v at *
  generalize hA : q.cells = CS at *
  clear hA BX
  go_enter Try.func39, Try.ntmps39
  go_wp2_with ((go_at_call 17; ((with_reducible refine (cn _).out.mono ?_); rintro e w2 ⟨rfl, hb⟩; have HB := qh hb; clear hb)))
  go_ret
  exact ⟨rfl, KB.out.trans (HB.out.mono KB.out.size)⟩
theorem part_bits (q : Ms.S) (w : World) (hv : 0 ≤ q.m.bits ∧ q.m.bits ≤ 18446744073709551615) :
    Calls Try.prog 39 #[.agg q.cells, .int .u8 98] w fun e w' => e = .returned (.string (strOfNums (Im.bytesOf 4 q.m.bits))) ∧ Below w.heap.size w w' := by
  have KB := qh (one_below w (.cells q.cells 29))
  have BX := qh (Box.made w 29 q.cells)
  have k0 : (w.alloc (.cells q.cells 29)).cell? ⟨w.heap.size, 11, none⟩ = some (.int .u32 q.m.bits) := BX.out.cell 11
  have cn := fun X => qh (refput_num 4 4 q.m.bits rfl X (by decide) hv)
  have hw : IntKind.u64.wrap q.m.bits = q.m.bits := by rw [IntKind.wrap_u64]; omega
  generalize strOfNums (Im.bytesOf 4 q.m.bits) = s at *
  generalize q.m.bits = v at *
  generalize hA : q.cells = CS at *
  clear hA BX
  go_enter Try.func39, Try.ntmps39
  go_wp2_with ((go_at_call 17; ((with_reducible refine (cn _).out.mono ?_); rintro e w2 ⟨rfl, hb⟩; have HB := qh hb; clear hb)))
  go_ret
  exact ⟨rfl, KB.out.trans (HB.out.mono KB.out.size)⟩
theorem part_sum (q : Ms.S) (w : World) (hv : 0 ≤ q.m.sum ∧ q.m.sum ≤ 18446744073709551615) :
    Calls Try.prog 39 #[.agg q.cells, .int .u8 109] w fun e w' => e = .returned (.string (strOfNums (Im.bytesOf 8 q.m.sum))) ∧ Below w.heap.size w w' := by
  have KB := qh (one_below w (.cells q.cells 29))
  have BX := qh (Box.made w 29 q.cells)
  have k0 : (w.alloc (.cells q.cells 29)).cell? ⟨w.heap.size, 12, none⟩ = some (.int .u64 q.m.sum) := BX.out.cell 12
  have cn := fun X => qh (refput_num 8 8 q.m.sum rfl X (by decide) hv)
  have hw : IntKind.u64.wrap q.m.sum = q.m.sum := by rw [IntKind.wrap_u64]; omega
  generalize strOfNums (Im.bytesOf 8 q.m.sum) = s at *
  generalize q.m.sum = v at *
  generalize hA : q.cells = CS at *
  clear hA BX
  go_enter Try.func39, Try.ntmps39
  go_wp2_with ((go_at_call 17; ((with_reducible refine (cn _).out.mono ?_); rintro e w2 ⟨rfl, hb⟩; have HB := qh hb; clear hb)))
  go_ret
  exact ⟨rfl, KB.out.trans (HB.out.mono KB.out.size)⟩
end Go.Proofs.Ytgmlbimgcifenaa
namespace Go.Proofs.Ytgmlbimgcifenaa
open Go.RowKit
theorem conv_u64 {n : Int} {w : World} (h1 : 0 ≤ n) (h2 : n ≤ 9223372036854775807) : (convert 3 24 (.int .i64 n)).run Try.prog w = .ok (.int .u64 n) w := by
  have hw : IntKind.u64.wrap n = n := by rw [IntKind.wrap_u64]; omega
  go_simp
theorem str_add {a b : List Int} {w : World} {ty : TypeId} {x y : Operand} (hl : a.length + b.length ≤ 1000000) : (do eqGuard .add ty x y (.string (strOfNums a)) (.string (strOfNums b)); binOp .add ty (.string (strOfNums a)) (.string (strOfNums b)) : Sem Value).run Try.prog w = .ok (.string (strOfNums (a ++ b))) w := by
  obtain ⟨u, hu, h1, h2⟩ := str_sum (a := a) (b := b) (c := a ++ b) rfl rfl rfl hl
  rw [← hu]
  generalize strOfNums a = s at *
  generalize strOfNums b = r at *
  clear hu
  go_simp
theorem part_ins (q : Ms.S) (w : World) (hT : Ms.Ty q.m) (hL : LiesM w w.heap.size q) (h16 : q.m.ins.length ≤ 16) :
    Calls Try.prog 39 #[.agg q.cells, .int .u8 105] w fun e w' => e = .returned (.string (strOfNums (Im.bytesOf 1 (q.m.ins.length : Int) ++ q.m.ins.flatMap En.inBytes))) ∧ Below w.heap.size w w' := by
  have TI := qh hT.ins
  have LI := qh hL.ins
  have KB := qh (one_below w (.cells q.cells 29))
  have BX := qh (Box.made w 29 q.cells)
  clear hT hL
  generalize hA : q.cells = CS
  go_enter Try.func39, Try.ntmps39
  go_upto_region 19 with fail
  subst hA
  obtain ⟨B, hB⟩ : ∃ B, B = w.heap.size := ⟨_, rfl⟩
  rw [← hB] at BX
  refine Slim.forget 119 rfl rfl fun a0 S D hf => ?_
  have H2 : Slim.Has a0 2 true (.pointer (some ⟨B, 0, none⟩)) := by rw [hB]; exact hf 2 _ rfl
  clear hf hB
  generalize w.alloc (.cells q.cells 29) = W0 at *
  refine wp_region_lit ?_
  refine Slim.val_g (t := 60) (c := true) (v := .pointer (some ⟨B, 13, none⟩)) rfl (by rw [S]; decide) (Slim.wants_all rfl) (Slim.field_g rfl H2 id (by go_simp; first | done | rfl)) fun a1 o => ?_
  replace S := o.size.trans S; replace D := o.defers.trans D
  replace H2 := Slim.stays o H2 (by decide)
  have H60 : Slim.Has a1 60 true (.pointer (some ⟨B, 13, none⟩)) := o.here
  clear o
  refine Slim.val_g (t := 61) (c := true) (v := .slice q.ai q.m.ins.length q.ci) rfl (by rw [S]; decide) (Slim.wants_all rfl) (Slim.load_g rfl H60 id (by have k := BX.out.cell 13; go_simp; first | done | rfl)) fun a2 o => ?_
  replace S := o.size.trans S; replace D := o.defers.trans D
  replace H2 := Slim.stays o H2 (by decide)
  have H61 : Slim.Has a2 61 true (.slice q.ai q.m.ins.length q.ci) := o.here
  clear H60
  clear o
  refine Slim.val_g (t := 62) (c := true) (v := .int .i64 (q.m.ins.length : Int)) rfl (by rw [S]; decide) (Slim.wants_all rfl) (Slim.len_g rfl H61 id (by go_simp; first | done | rfl)) fun a3 o => ?_
  replace S := o.size.trans S; replace D := o.defers.trans D
  replace H2 := Slim.stays o H2 (by decide)
  have H62 : Slim.Has a3 62 true (.int .i64 (q.m.ins.length : Int)) := o.here
  clear H61
  clear o
  refine Slim.val_g (t := 63) (c := true) (v := .int .u64 (q.m.ins.length : Int)) rfl (by rw [S]; decide) (Slim.wants_all rfl) (Slim.convert_g rfl H62 id (conv_u64 (by omega) (by omega))) fun a4 o => ?_
  replace S := o.size.trans S; replace D := o.defers.trans D
  replace H2 := Slim.stays o H2 (by decide)
  have H63 : Slim.Has a4 63 true (.int .u64 (q.m.ins.length : Int)) := o.here
  clear H62
  clear o
  refine Slim.call_g (t := 64) (c := true) (v := .string (strOfNums (Im.bytesOf 1 (q.m.ins.length : Int)))) rfl (by rw [S]; decide) (Slim.wants_all rfl) (Slim.calls2_g rfl H63 id (by go_simp; first | done | rfl)) (fun _ => refput_num 1 1 (q.m.ins.length : Int) rfl _ (by decide) (by omega)) fun a5 W1 o hb => ?_
  replace BX := qh (BX.out.below hb BX.out.lt); replace KB := qh (KB.out.trans (hb.mono KB.out.size)); clear hb
  replace S := o.size.trans S; replace D := o.defers.trans D
  replace H2 := Slim.stays o H2 (by decide)
  have H64 : Slim.Has a5 64 true (.string (strOfNums (Im.bytesOf 1 (q.m.ins.length : Int)))) := o.here
  clear H63
  clear o
  refine Slim.val_g (t := 5) (c := true) (v := .string (strOfNums (Im.bytesOf 1 (q.m.ins.length : Int)))) rfl (by rw [S]; decide) (Slim.wants_all rfl) (Slim.assign_g rfl H64 id) fun a6 o => ?_
  replace S := o.size.trans S; replace D := o.defers.trans D
  replace H2 := Slim.stays o H2 (by decide)
  have H5 : Slim.Has a6 5 true (.string (strOfNums (Im.bytesOf 1 (q.m.ins.length : Int)))) := o.here
  clear H64
  clear o
  refine wpList_nil ?_
  refine (by assumption : ∀ a w, Code.wp Try.prog _ _ a w → _) _ _ ?_
  apply wp_seq_k; intro K1 hK1
  apply wp_seq_k; intro K2 hK2
  refine wp_region_lit ?_
  refine Slim.val_g (t := 6) (c := true) (v := .int .i64 0) rfl (by rw [S]; decide) (Slim.wants_all rfl) (Slim.constc_g rfl) fun a7 o => ?_
  replace S := o.size.trans S; replace D := o.defers.trans D
  replace H2 := Slim.stays o H2 (by decide)
  replace H5 := Slim.stays o H5 (by decide)
  have H6 : Slim.Has a7 6 true (.int .i64 0) := o.here
  clear o
  refine wpList_nil ?_
  refine hK2 _ _ ?_
  refine wp_block ?_
  refine wp_loop (fun b V => ∃ k : Nat, b.tmps.size = 119 ∧ b.defers = [] ∧ Slim.Has b 2 true (.pointer (some ⟨B, 0, none⟩)) ∧ Slim.Has b 5 true (.string (strOfNums (Im.bytesOf 1 (q.m.ins.length : Int) ++ (q.m.ins.take k).flatMap En.inBytes))) ∧ Slim.Has b 6 true (.int .i64 (k : Int)) ∧ k ≤ q.m.ins.length ∧ Box V B 29 q.cells ∧ Below w.heap.size w V) (fun b _ => q.m.ins.length - (intOf (b.tmps.getD 6 undef)).toNat) ⟨0, S, D, H2, by simpa using H5, H6, Nat.zero_le _, BX.out, KB.out⟩ ?_
  intro a0 V hI
  clear S D H2 H5 H6 KB BX
  obtain ⟨k, S, D, H2, H5, H6, hk, hbx, hkb⟩ := hI
  have KB := qh hkb
  have BX := qh hbx
  have MU := qh (show q.m.ins.length - (intOf (a0.tmps.getD 6 undef)).toNat = q.m.ins.length - k from by rw [show a0.tmps.getD 6 undef = .int .i64 (k : Int) from Slim.pres H6 rfl]; simp [intOf])
  clear hkb hbx
  apply wp_seq_k; intro K3 hK3
  apply wp_seq_k; intro K4 hK4
  refine wp_region_lit ?_
  refine Slim.val_g (t := 65) (c := true) (v := .int .i64 (k : Int)) rfl (by rw [S]; decide) (Slim.wants_all rfl) (Slim.move_g rfl H6 id) fun a1 o => ?_
  replace S := o.size.trans S; replace D := o.defers.trans D
  replace H2 := Slim.stays o H2 (by decide)
  replace H5 := Slim.stays o H5 (by decide)
  replace H6 := Slim.stays o H6 (by decide)
  have H65 : Slim.Has a1 65 true (.int .i64 (k : Int)) := o.here
  clear o
  refine Slim.val_g (t := 66) (c := true) (v := .pointer (some ⟨B, 13, none⟩)) rfl (by rw [S]; decide) (Slim.wants_all rfl) (Slim.field_g rfl H2 id (by go_simp; first | done | rfl)) fun a2 o => ?_
  replace S := o.size.trans S; replace D := o.defers.trans D
  replace H2 := Slim.stays o H2 (by decide)
  replace H5 := Slim.stays o H5 (by decide)
  replace H6 := Slim.stays o H6 (by decide)
  replace H65 := Slim.stays o H65 (by decide)
  have H66 : Slim.Has a2 66 true (.pointer (some ⟨B, 13, none⟩)) := o.here
  clear o
  refine Slim.val_g (t := 67) (c := true) (v := .slice q.ai q.m.ins.length q.ci) rfl (by rw [S]; decide) (Slim.wants_all rfl) (Slim.load_g rfl H66 id (by have k := BX.out.cell 13; go_simp; first | done | rfl)) fun a3 o => ?_
  replace S := o.size.trans S; replace D := o.defers.trans D
  replace H2 := Slim.stays o H2 (by decide)
  replace H5 := Slim.stays o H5 (by decide)
  replace H6 := Slim.stays o H6 (by decide)
  replace H65 := Slim.stays o H65 (by decide)
  have H67 : Slim.Has a3 67 true (.slice q.ai q.m.ins.length q.ci) := o.here
  clear H66
  clear o
  refine Slim.val_g (t := 68) (c := true) (v := .int .i64 (q.m.ins.length : Int)) rfl (by rw [S]; decide) (Slim.wants_all rfl) (Slim.len_g rfl H67 id (by go_simp; first | done | rfl)) fun a4 o => ?_
  replace S := o.size.trans S; replace D := o.defers.trans D
  replace H2 := Slim.stays o H2 (by decide)
  replace H5 := Slim.stays o H5 (by decide)
  replace H6 := Slim.stays o H6 (by decide)
  replace H65 := Slim.stays o H65 (by decide)
  have H68 : Slim.Has a4 68 true (.int .i64 (q.m.ins.length : Int)) := o.here
  clear H67
  clear o
  refine Slim.val_g (t := 69) (c := true) (v := .bool (decide ((k : Int) < (q.m.ins.length : Int)))) rfl (by rw [S]; decide) (Slim.wants_all rfl) (Slim.bin2_g rfl H65 H68 id id (fun _ _ => Slim.cmp_lss)) fun a5 o => ?_
  replace S := o.size.trans S; replace D := o.defers.trans D
  replace H2 := Slim.stays o H2 (by decide)
  replace H5 := Slim.stays o H5 (by decide)
  replace H6 := Slim.stays o H6 (by decide)
  have H69 : Slim.Has a5 69 true (.bool (decide ((k : Int) < (q.m.ins.length : Int)))) := o.here
  clear H65
  clear H68
  clear o
  refine wpList_nil ?_
  refine hK4 _ _ ?_
  refine wp_cond_split (Slim.pres H69 rfl) (fun e69 => ?_) (fun e69 => ?_)
  · have hkn : k < q.m.ins.length := by have := of_decide_eq_true e69; omega
    have hkn' : (k : Int) < q.m.ins.length := by omega
    clear e69 H69
    refine wp_skip ?_
    refine hK3 _ _ ?_
    apply wp_seq_k; intro K5 hK5
    refine wp_block ?_
    refine wp_region_lit ?_
    have LA := LI.out.below KB.out
    obtain ⟨pa, hA, hpa⟩ := LA.start (by omega)
    obtain ⟨x, hx⟩ : ∃ x, x = q.m.ins[k] := ⟨_, rfl⟩
    have hcell := qh (show ∀ j v, x.cells[j]? = some v → V.cell? ((pa.add (k * 3)).add j) = some v from fun j v hv => by
      have hj : j < 3 := (List.getElem?_eq_some_iff.1 hv).1
      rw [add_twice]
      exact LA.cell pa hA (by omega) _ v (by rw [Gm.inCells_at _ k j hkn hj, ← hx]; exact hv))
    have hty := qh (TI.out x (by rw [hx]; exact List.getElem_mem hkn))
    have hpre : (Im.bytesOf 1 (q.m.ins.length : Int) ++ (q.m.ins.take k).flatMap En.inBytes).length ≤ 100 := by
      rw [List.length_append, Im.bytesOf_len]
      have : ∀ l : List Gm.In, (l.flatMap En.inBytes).length = 3 * l.length := fun l => by
        induction l with
        | nil => rfl
        | cons a l ih => rw [List.flatMap_cons, List.length_append, ih, En.inBytes_len, List.length_cons]; omega
      rw [this, List.length_take]; omega
    have HAd := qh hA
    have HNX := qh (show Im.bytesOf 1 (q.m.ins.length : Int) ++ (q.m.ins.take (k + 1)).flatMap En.inBytes = Im.bytesOf 1 (q.m.ins.length : Int) ++ (q.m.ins.take k).flatMap En.inBytes ++ En.inBytes x from by
      rw [List.take_succ_eq_append_getElem hkn, List.flatMap_append, ← hx, List.append_assoc]; simp)
    clear LA hA hx
    refine Slim.val_g (t := 72) (c := true) (v := .string (strOfNums (Im.bytesOf 1 (q.m.ins.length : Int) ++ (q.m.ins.take k).flatMap En.inBytes))) rfl (by rw [S]; decide) (Slim.wants_all rfl) (Slim.move_g rfl H5 id) fun a6 o => ?_
    replace S := o.size.trans S; replace D := o.defers.trans D
    replace H2 := Slim.stays o H2 (by decide)
    replace H6 := Slim.stays o H6 (by decide)
    have H72 : Slim.Has a6 72 true (.string (strOfNums (Im.bytesOf 1 (q.m.ins.length : Int) ++ (q.m.ins.take k).flatMap En.inBytes))) := o.here
    clear H5
    clear o
    refine Slim.val_g (t := 73) (c := true) (v := .pointer (some ⟨B, 13, none⟩)) rfl (by rw [S]; decide) (Slim.wants_all rfl) (Slim.field_g rfl H2 id (by go_simp; first | done | rfl)) fun a7 o => ?_
    replace S := o.size.trans S; replace D := o.defers.trans D
    replace H2 := Slim.stays o H2 (by decide)
    replace H6 := Slim.stays o H6 (by decide)
    replace H72 := Slim.stays o H72 (by decide)
    have H73 : Slim.Has a7 73 true (.pointer (some ⟨B, 13, none⟩)) := o.here
    clear o
    refine Slim.val_g (t := 74) (c := true) (v := .slice q.ai q.m.ins.length q.ci) rfl (by rw [S]; decide) (Slim.wants_all rfl) (Slim.load_g rfl H73 id (by have k := BX.out.cell 13; go_simp; first | done | rfl)) fun a8 o => ?_
    replace S := o.size.trans S; replace D := o.defers.trans D
    replace H2 := Slim.stays o H2 (by decide)
    replace H6 := Slim.stays o H6 (by decide)
    replace H72 := Slim.stays o H72 (by decide)
    have H74 : Slim.Has a8 74 true (.slice q.ai q.m.ins.length q.ci) := o.here
    clear H73
    clear o
    refine Slim.val_g (t := 75) (c := true) (v := .int .i64 (k : Int)) rfl (by rw [S]; decide) (Slim.wants_all rfl) (Slim.move_g rfl H6 id) fun a9 o => ?_
    replace S := o.size.trans S; replace D := o.defers.trans D
    replace H2 := Slim.stays o H2 (by decide)
    replace H6 := Slim.stays o H6 (by decide)
    replace H72 := Slim.stays o H72 (by decide)
    replace H74 := Slim.stays o H74 (by decide)
    have H75 : Slim.Has a9 75 true (.int .i64 (k : Int)) := o.here
    clear o
    refine Slim.val_g (t := 76) (c := true) (v := .pointer (some (pa.add (k * 3)))) rfl (by rw [S]; decide) (Slim.wants_all rfl) (Slim.index_g rfl H74 H75 id id (by rw [HAd.out]; go_simp; first | done | rfl)) fun a10 o => ?_
    replace S := o.size.trans S; replace D := o.defers.trans D
    replace H2 := Slim.stays o H2 (by decide)
    replace H6 := Slim.stays o H6 (by decide)
    replace H72 := Slim.stays o H72 (by decide)
    have H76 : Slim.Has a10 76 true (.pointer (some (pa.add (k * 3)))) := o.here
    clear H74
    clear H75
    clear o
    refine Slim.val_g (t := 77) (c := true) (v := .agg #[.int .i8 x.x, .int .i8 x.y, .int .u8 x.b]) rfl (by rw [S]; decide) (Slim.wants_all rfl) (Slim.load_g rfl H76 id (Slim.load_any (cs := x.cells) hcell.out Try.underlying50 rfl in3_info)) fun a11 o => ?_
    replace S := o.size.trans S; replace D := o.defers.trans D
    replace H2 := Slim.stays o H2 (by decide)
    replace H6 := Slim.stays o H6 (by decide)
    replace H72 := Slim.stays o H72 (by decide)
    have H77 : Slim.Has a11 77 true (.agg #[.int .i8 x.x, .int .i8 x.y, .int .u8 x.b]) := o.here
    clear H76
    clear o
    refine Slim.call_g (t := 78) (c := true) (v := .string (strOfNums (En.inBytes x))) rfl (by rw [S]; decide) (Slim.wants_all rfl) (Slim.calls1_g rfl H77 id (by go_simp; first | done | rfl)) (fun _ => refputin_any x _ hty.out) fun a12 W1 o hb => ?_
    replace BX := qh (BX.out.below hb BX.out.lt); replace KB := qh (KB.out.trans (hb.mono KB.out.size)); clear hb
    replace S := o.size.trans S; replace D := o.defers.trans D
    replace H2 := Slim.stays o H2 (by decide)
    replace H6 := Slim.stays o H6 (by decide)
    replace H72 := Slim.stays o H72 (by decide)
    have H78 : Slim.Has a12 78 true (.string (strOfNums (En.inBytes x))) := o.here
    clear H77
    clear o
    refine Slim.val_g (t := 79) (c := true) (v := .string (strOfNums (Im.bytesOf 1 (q.m.ins.length : Int) ++ (q.m.ins.take k).flatMap En.inBytes ++ En.inBytes x))) rfl (by rw [S]; decide) (Slim.wants_all rfl) (Slim.bin2_g rfl H72 H78 id id (fun _ _ => str_add (by rw [En.inBytes_len]; have := hpre; omega))) fun a13 o => ?_
    replace S := o.size.trans S; replace D := o.defers.trans D
    replace H2 := Slim.stays o H2 (by decide)
    replace H6 := Slim.stays o H6 (by decide)
    have H79 : Slim.Has a13 79 true (.string (strOfNums (Im.bytesOf 1 (q.m.ins.length : Int) ++ (q.m.ins.take k).flatMap En.inBytes ++ En.inBytes x))) := o.here
    clear H72
    clear H78
    clear o
    refine Slim.val_g (t := 5) (c := true) (v := .string (strOfNums (Im.bytesOf 1 (q.m.ins.length : Int) ++ (q.m.ins.take k).flatMap En.inBytes ++ En.inBytes x))) rfl (by rw [S]; decide) (Slim.wants_all rfl) (Slim.assign_g rfl H79 id) fun a14 o => ?_
    replace S := o.size.trans S; replace D := o.defers.trans D
    replace H2 := Slim.stays o H2 (by decide)
    replace H6 := Slim.stays o H6 (by decide)
    have H5 : Slim.Has a14 5 true (.string (strOfNums (Im.bytesOf 1 (q.m.ins.length : Int) ++ (q.m.ins.take k).flatMap En.inBytes ++ En.inBytes x))) := o.here
    clear H79
    clear o
    refine wpList_nil ?_
    simp only [Exit.inBlock, Exit.then]
    refine hK5 _ _ ?_
    refine wp_region_lit ?_
    refine Slim.val_g (t := 70) (c := true) (v := .int .i64 (k : Int)) rfl (by rw [S]; decide) (Slim.wants_all rfl) (Slim.move_g rfl H6 id) fun a15 o => ?_
    replace S := o.size.trans S; replace D := o.defers.trans D
    replace H2 := Slim.stays o H2 (by decide)
    replace H5 := Slim.stays o H5 (by decide)
    have H70 : Slim.Has a15 70 true (.int .i64 (k : Int)) := o.here
    clear H6
    clear o
    refine Slim.val_g (t := 71) (c := true) (v := .int .i64 ((k + 1 : Nat) : Int)) rfl (by rw [S]; decide) (Slim.wants_all rfl) (Slim.bin_g rfl H70 id (fun _ _ => add_one k (by omega))) fun a16 o => ?_
    replace S := o.size.trans S; replace D := o.defers.trans D
    replace H2 := Slim.stays o H2 (by decide)
    replace H5 := Slim.stays o H5 (by decide)
    have H71 : Slim.Has a16 71 true (.int .i64 ((k + 1 : Nat) : Int)) := o.here
    clear H70
    clear o
    refine Slim.val_g (t := 6) (c := true) (v := .int .i64 ((k + 1 : Nat) : Int)) rfl (by rw [S]; decide) (Slim.wants_all rfl) (Slim.assign_g rfl H71 id) fun a17 o => ?_
    replace S := o.size.trans S; replace D := o.defers.trans D
    replace H2 := Slim.stays o H2 (by decide)
    replace H5 := Slim.stays o H5 (by decide)
    have H6 : Slim.Has a17 6 true (.int .i64 ((k + 1 : Nat) : Int)) := o.here
    clear H71
    clear o
    refine wpList_nil ?_
    refine ⟨⟨k + 1, S, D, H2, by rw [HNX.out]; exact H5, H6, hkn, BX.out, KB.out⟩, ?_⟩
    have hm := MU.out
    show _ - (intOf (_ : Value)).toNat < _
    rw [hm, show (_ : Act).tmps.getD 6 undef = .int .i64 ((k + 1 : Nat) : Int) from Slim.pres H6 rfl]
    simp [intOf]; omega
  · have hkn : k = q.m.ins.length := by have := of_decide_eq_false e69; omega
    rw [hkn, List.take_length] at H5
    refine wp_exit ?_
    simp only [Exit.inBlock, Exit.then, if_true]
    refine hK1 _ _ ?_
    apply wp_seq_k; intro K7 hK7
    refine wp_region_lit ?_
    refine Slim.val_g (t := 80) (c := true) (v := .string (strOfNums (Im.bytesOf 1 (q.m.ins.length : Int) ++ q.m.ins.flatMap En.inBytes))) rfl (by rw [S]; decide) (Slim.wants_all rfl) (Slim.move_g rfl H5 id) fun a6 o => ?_
    replace S := o.size.trans S; replace D := o.defers.trans D
    have H80 : Slim.Has a6 80 true (.string (strOfNums (Im.bytesOf 1 (q.m.ins.length : Int) ++ q.m.ins.flatMap En.inBytes))) := o.here
    clear H2
    clear H5
    clear o
    refine Slim.val_g (t := 4) (c := true) (v := .string (strOfNums (Im.bytesOf 1 (q.m.ins.length : Int) ++ q.m.ins.flatMap En.inBytes))) rfl (by rw [S]; decide) (Slim.wants_all rfl) (Slim.assign_g rfl H80 id) fun a7 o => ?_
    replace S := o.size.trans S; replace D := o.defers.trans D
    have H4 : Slim.Has a7 4 true (.string (strOfNums (Im.bytesOf 1 (q.m.ins.length : Int) ++ q.m.ins.flatMap En.inBytes))) := o.here
    clear H80
    clear o
    refine wpList_nil ?_
    refine hK7 _ _ ?_
    refine wp_ret ?_
    (try simp only [Exit.inBlock, Exit.then])
    exact on_ret rfl D H4 ⟨rfl, KB.out⟩
end Go.Proofs.Ytgmlbimgcifenaa