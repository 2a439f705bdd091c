/-
Several texts in one: Sk I3 I4 I5 Sl Hh Eo Tu.
-/
import Derived.Test.YtiahpncglpfjeaaGreatFp9
namespace Go.Proofs.YtiahpncglpfjeaaGreat
open Go.RowKit Go.Shelf
set_option linter.unusedVariables false
set_option linter.unusedSimpArgs false


section
variable {ops : Array Oper} {Q : Exit → Act → World → Prop} {o : Oper} {rest : List Oper} {a : Act} {w : World} {x y : Operand}
theorem im_load_state_g (hw : Region.wanted o (yielded ops a.tmps) = true) (ho : o.op = .load 35 x) (h : LoadIm ops Q rest o.dst (a.eval x) 0 (fun g s r => Im.cells g s r) a w) : wpList Tryz.prog ops Q (o :: rest) a w := by
  obtain ⟨B, g, s, r, hx, hB, h⟩ := h
  refine wpList_load_part_g hw ho hx hB (Im.cells g s r).toList (fun j v hv => ?_) Tryz.underlying35 rfl (by rw [Array.length_toList, Im.cells_size]; exact state_info) (by rw [Array.toArray_toList]; exact h)
  rw [Nat.zero_add]
  simpa using hv
end
theorem en_built_evs (A : Option Addr) (n c : Nat) (evs : List En.Ev) : Tryz.prog.built 42 [(1, .slice A n c)] = some (En.cells ⟨0, evs, Fd.in0⟩ (.slice A n c)) := by kernel_rfl
theorem en_built_fre (f : Int) (A : Option Addr) (n c : Nat) (evs : List En.Ev) : Tryz.prog.built 42 [(0, .int .i64 f), (1, .slice A n c)] = some (En.cells ⟨f, evs, Fd.in0⟩ (.slice A n c)) := by kernel_rfl
theorem en_built_none : Tryz.prog.built 42 [] = some (En.cells ⟨0, [], Fd.in0⟩ (.slice none 0 0)) := by kernel_rfl
theorem en_built_fr (f : Int) : Tryz.prog.built 42 [(0, .int .i64 f)] = some (En.cells ⟨f, [], Fd.in0⟩ (.slice none 0 0)) := by kernel_rfl
theorem Lies.boxed4 {W : World} {S n size : Nat} {t : TypeId} {xs : List Value} (h : Box W S t xs.toArray) (hl : xs.length = n * size) : Lies W W.heap.size size (some ⟨S, 0, none⟩) n xs :=
  ⟨hl, fun _ => ⟨_, rfl, h.lt⟩, fun ad e _ j u hj => by
    injection e with e
    subst e
    rw [show (⟨S, 0, none⟩ : Addr).add j = ⟨S, j, none⟩ by unfold Addr.add; split <;> simp_all, h.cell]
    simpa using hj⟩
theorem Lies.none_ {W : World} {B size : Nat} {A : Option Addr} : Lies W B size A 0 [] := ⟨by simp, fun h => absurd rfl h, fun _ _ h => absurd rfl h⟩
/-- A literal slice of two entries. -/
theorem en_fill2 (e f : En.E) (A B : Option Addr) (n m c d : Nat) : Instr.fill (fun i => some (i * 26, 26)) ((Array.range (2 * 26)).map ((Value.agg En.zeroC).cells[· % (Value.agg En.zeroC).cells.size]!)) [(0, .agg (En.cells e (.slice A n c))), (1, .agg (En.cells f (.slice B m d)))] = some (En.cells e (.slice A n c) ++ En.cells f (.slice B m d)) := by kernel_rfl
theorem en_two (q r : En.S) : En.cells q.e q.sl ++ En.cells r.e r.sl = (En.sCells [q, r]).toArray := by
  unfold En.sCells
  rw [List.flatMap_cons, List.flatMap_cons, List.flatMap_nil, List.append_nil, ← En.S.cells_arr, ← En.S.cells_arr, List.append_toArray]
section
variable {ops : Array Oper} {rest : List Oper} {o : Oper} {a : Act} {w : World} {Q : Exit → Act → World → Prop} {x y : Operand} {dst : Option Tmp} {v u : Value}
def BuildEn2 (ops : Array Oper) (Q : Exit → Act → World → Prop) (rest : List Oper) (dst : Option Tmp) (v u : Value) (a : Act) (w : World) : Prop :=
  ∃ (q r : En.S), v = .agg (En.cells q.e q.sl) ∧ u = .agg (En.cells r.e r.sl) ∧ wpList Tryz.prog ops Q rest (a.put dst (.slice (some ⟨w.heap.size, 0, none⟩) 2 2)) (w.alloc (.cells (En.sCells [q, r]).toArray 42))
theorem BuildEn2.mk {q r : En.S} (hv : v = .agg (En.cells q.e q.sl)) (hu : u = .agg (En.cells r.e r.sl)) (h : wpList Tryz.prog ops Q rest (a.put dst (.slice (some ⟨w.heap.size, 0, none⟩) 2 2)) (w.alloc (.cells (En.sCells [q, r]).toArray 42))) : BuildEn2 ops Q rest dst v u a w := ⟨q, r, hv, hu, h⟩
theorem en_build2 (hgd : o.guard = none) (ho : o.op = .buildSlice 52 2 #[(0, x), (1, y)]) (h : BuildEn2 ops Q rest o.dst (a.eval x) (a.eval y) a w) : wpList Tryz.prog ops Q (o :: rest) a w := by
  obtain ⟨q, r, hv, hu, h⟩ := h
  refine wpList_plain hgd fun _ hK => ?_
  have hr : (Instr.buildSlice 52 2 #[(0, .agg (En.cells q.e q.sl)), (1, .agg (En.cells r.e r.sl))]).run Tryz.prog w = .ok (.slice (some ⟨w.heap.size, 0, none⟩) 2 2) (w.alloc (.cells (En.sCells [q, r]).toArray 42)) := by
    have h1 := en_info
    have h2 := en_zero
    cases hq : Tryz.prog.info? 42 with
    | none => rw [hq] at h1; cases h1
    | some ie =>
      rw [hq] at h1 h2
      have hs : ie.size = 26 := by simpa using h1
      have hz : ie.zero = some (.agg En.zeroC) := by simpa using h2
      exact run_buildSlice w _ _ 2 _ _ ie (.agg En.zeroC) Tryz.underlying52 hq hz (by rw [hs]; decide) (by rw [hs]; decide) (by rw [hs, ← en_two]; exact en_fill2 q.e r.e q.adr r.adr q.e.evs.length r.e.evs.length q.cap r.cap)
  unfold Oper.wp execOp
  simp only [ho, List.map_toArray, List.map_cons, List.map_nil, hv, hu, Sem.run_bind, hr, Result.andThen_ok, Sem.run_pure]
  exact hK _ _ h
end

def Fd.eJ (k : Nat) (p : Int) (ps : Nat → Gm.In) : En.E := ⟨0, [Fd.evJ k p], ps⟩
def Fd.eI (f : Int) : En.E := ⟨f, [], Fd.in0⟩
theorem en_built_J (A : Option Addr) (n c k : Nat) (p : Int) : Tryz.prog.built 42 [(1, .slice A n c)] = some (En.cells (Fd.eJ k p Fd.in0) (.slice A n c)) := en_built_evs A n c [Fd.evJ k p]
theorem en_built_I (f : Int) : Tryz.prog.built 42 [(0, .int .i64 f)] = some (En.cells (Fd.eI f) (.slice none 0 0)) := en_built_fr f
theorem en_built_I0 : Tryz.prog.built 42 [] = some (En.cells (Fd.eI 0) (.slice none 0 0)) := en_built_none
theorem told_set (s : Value) : (En.cells (Fd.eJ 0 2 Fd.in0) s).setIfInBounds 16 (.int .u8 1) = En.cells (Fd.eJ 0 2 (En.upd Fd.in0 4 ⟨0, 0, 1⟩)) s := rfl
theorem told_16 (s : Value) : (En.cells (Fd.eJ 0 2 Fd.in0) s)[16]? = some (.int .u8 0) := rfl
theorem in0_tyin : ∀ i, i < 8 → Gm.tyIn (Fd.in0 i) := fun i _ => by unfold Gm.tyIn Fd.in0; dsimp only; omega
theorem upd_tyin (j : Nat) (p : Gm.In) (hp : Gm.tyIn p) : ∀ i, i < 8 → Gm.tyIn (En.upd Fd.in0 j p i) := fun i hi => by
  unfold En.upd; split
  · exact hp
  · exact in0_tyin i hi
theorem start_new (d : Int) (hd : 0 ≤ d ∧ d ≤ 18446744073709551615) : Gm.ty (Gm.new d) := (Fd.start_fine hd).ty
set_option maxRecDepth 100000 in
set_option maxHeartbeats 4000000 in
theorem told10_any (w : World) :
    Calls Tryz.prog 11 #[] w fun e w' => e = .returned (.bool true) ∧ Below w.heap.size w w' := by
  have cs := fun X => Lib.hid (foldstart_any ⟨#[97]⟩ X (by decide))
  have hd := Dn.seed_bd (ByteArray.mk #[97]).data.toList
  generalize Dn.seed (ByteArray.mk #[97]).data.toList = d at cs hd
  have HD := Lib.hid hd
  have ty0 := Lib.hid (start_new d hd)
  clear hd
  go_enter Tryz.func11, Tryz.ntmps11
  go_upto_region 2 with (first | (go_at_call 20; ((with_reducible refine ((cs _).out).mono ?_); rintro x w1 ⟨rfl, hb⟩; have S1 := Lib.hid (Box.made w1 35 (Im.cells (Gm.new d) (.slice none 0 0) Ros.new)); have K1 := Lib.hid (hb.alloc hb.size (.cells (Im.cells (Gm.new d) (.slice none 0 0) Ros.new) 35)); clear hb)) | (with_reducible refine alloc_state rfl rfl ?_) | (with_reducible refine im_store_new rfl rfl rfl rfl Im.zero_size rfl ?_))
  generalize hW1 : w1.alloc (.cells (Im.cells (Gm.new d) (.slice none 0 0) Ros.new) 35) = W1 at S1 K1 ⊢
  generalize w1.heap.size = b1 at S1 ⊢
  have V2 := Lib.hid ((Box.made W1 61 #[.int .i64 1, .int .i64 0, .int .i64 1, .int .i64 2]).alloc (.cells (En.cells (Fd.eJ 0 2 Fd.in0) (.slice (some ⟨W1.heap.size, 0, none⟩) 1 1)) 42))
  have E2 := Lib.hid (Box.made_at (n := W1.heap.size + 1) (W1.alloc (.cells #[.int .i64 1, .int .i64 0, .int .i64 1, .int .i64 2] 61)) 42 (En.cells (Fd.eJ 0 2 Fd.in0) (.slice (some ⟨W1.heap.size, 0, none⟩) 1 1)) (by simp))
  have D2 := two_below' W1 (.cells #[.int .i64 1, .int .i64 0, .int .i64 1, .int .i64 2] 61) (.cells (En.cells (Fd.eJ 0 2 Fd.in0) (.slice (some ⟨W1.heap.size, 0, none⟩) 1 1)) 42)
  have S2 := Lib.hid (S1.out.below D2 S1.out.lt)
  have K2 := Lib.hid (K1.out.trans (D2.mono K1.out.size))
  have l2 := S1.out.lt
  have HB1 := Lib.hid K1.out.size
  clear D2 S1 K1 hW1
  go_upto_region 3 with (first | (refine wpList_build_is rfl (t := 42) (vs := [(1, .slice (some ⟨W1.heap.size, 0, none⟩) 1 1)]) rfl rfl (en_built_J _ _ _ 0 2) ?_) | (with_reducible refine alloc_en rfl rfl ?_) | (with_reducible refine en_store_new rfl rfl rfl rfl En.zeroC_size rfl ?_))
  simp only [World.size_alloc]
  generalize hW2 : (W1.alloc (.cells #[.int .i64 1, .int .i64 0, .int .i64 1, .int .i64 2] 61)).alloc (.cells (En.cells (Fd.eJ 0 2 Fd.in0) (.slice (some ⟨W1.heap.size, 0, none⟩) 1 1)) 42) = W2 at V2 E2 S2 K2 ⊢
  have HBE := Lib.hid (show w.heap.size ≤ W1.heap.size + 1 from Nat.le_succ_of_le HB1.out)
  generalize W1.heap.size + 1 = be at E2 HBE ⊢
  generalize W1.heap.size = bv at V2 E2 ⊢
  clear hW2 l2 HB1
  have T0 := Lib.hid (Fd.joined_fine (d := d) (k := 0) (p := 2) (ps := Fd.in0) HD.out (by decide) (by decide))
  have T0p := Lib.hid (Fd.joined_peer (d := d) (k := 0) (p := 2) (ps := Fd.in0))
  have ca1 := fun X (hV : Box X bv 61 #[.int .i64 1, .int .i64 0, .int .i64 1, .int .i64 2]) => Lib.hid (show Calls Tryz.prog 12 #[.agg (Im.cells (Gm.new d) (.slice none 0 0) Ros.new), .agg (En.cells (Fd.eJ 0 2 Fd.in0) (.slice (some ⟨bv, 0, none⟩) 1 1))] X (SOut (Fd.joined d 0 2 Fd.in0).g (Fd.joined d 0 2 Fd.in0).r 0 X) from
    foldapply_some (Fd.joined d 0 2 Fd.in0) (Fd.start d) (Fd.eJ 0 2 Fd.in0) none (some ⟨bv, 0, none⟩) 0 0 1 1 X ty0.out (by decide) rfl Lies.none_ rfl (by decide) (Lies.boxed4 (n := 1) hV rfl) in0_tyin (Fd.join_one HD.out (by decide) (by decide) (fun i hi => Fd.zero_ok rfl) (fun i hi _ => rfl)))
  have ca2 := fun X A c (hV : Box X bv 61 #[.int .i64 1, .int .i64 0, .int .i64 1, .int .i64 2]) hL => Lib.hid (show Calls Tryz.prog 12 #[.agg (Im.cells (Fd.joined d 0 2 Fd.in0).g (.slice A (Fd.joined d 0 2 Fd.in0).g.shots.length c) (Fd.joined d 0 2 Fd.in0).r), .agg (En.cells (Fd.eJ 0 2 Fd.in0) (.slice (some ⟨bv, 0, none⟩) 1 1))] X (SOut (Fd.joined d 0 2 Fd.in0).g (Fd.joined d 0 2 Fd.in0).r 1 X) from
    foldapply_none (Fd.joined d 0 2 Fd.in0) (Fd.eJ 0 2 Fd.in0) A (some ⟨bv, 0, none⟩) _ c 1 1 X T0.out.1.ty T0.out.1.few rfl hL rfl (by decide) (Lies.boxed4 (n := 1) hV rfl) in0_tyin (Fd.joined_late HD.out (by decide) (by decide) rfl))
  have ca3 := fun X (hV : Box X bv 61 #[.int .i64 1, .int .i64 0, .int .i64 1, .int .i64 2]) => Lib.hid (show Calls Tryz.prog 12 #[.agg (Im.cells (Gm.new d) (.slice none 0 0) Ros.new), .agg (En.cells (Fd.eJ 0 2 (En.upd Fd.in0 4 ⟨0, 0, 1⟩)) (.slice (some ⟨bv, 0, none⟩) 1 1))] X (SOut (Gm.new d) Ros.new 1 X) from
    foldapply_none (Fd.start d) (Fd.eJ 0 2 (En.upd Fd.in0 4 ⟨0, 0, 1⟩)) none (some ⟨bv, 0, none⟩) 0 0 1 1 X ty0.out (by decide) rfl Lies.none_ rfl (by decide) (Lies.boxed4 (n := 1) hV rfl) (upd_tyin 4 _ (by unfold Gm.tyIn; dsimp only; omega)) (Fd.join_busy (j := 4) (by decide) (by decide) (by decide) (by decide) rfl))
  have t_on : Hid (∀ s, (Im.cells (Fd.joined d 0 2 Fd.in0).g s (Fd.joined d 0 2 Fd.in0).r)[2]? = some (.bool true)) := Lib.hid fun s => (Im.cells_ship _ s _ 0 0 (by decide) (by decide)).trans (by show some (Value.bool ((Fd.joined d 0 2 Fd.in0).g.ship 0).on) = _; rw [T0.out.2.2])
  have t_fr : Hid (∀ s, (Im.cells (Fd.joined d 0 2 Fd.in0).g s (Fd.joined d 0 2 Fd.in0).r)[0]? = some (.int .i64 1)) := Lib.hid fun s => ((Im.cells_g _ s _ 0 (by decide)).trans (Gm.cells_0 _ s)).trans (by rw [T0.out.2.1])
  have t_pe : Hid (∀ s, (Im.cells (Fd.joined d 0 2 Fd.in0).g s (Fd.joined d 0 2 Fd.in0).r)[60]? = some (.int .i64 2)) := Lib.hid fun s => (Im.cells_peer _ s _ 0 (by decide)).trans (by rw [T0p.out])
  generalize Fd.joined d 0 2 Fd.in0 = T at ca1 ca2 t_on t_fr t_pe
  clear T0 T0p
  go_upto_region 4 with (first | ((with_reducible refine im_load_state rfl rfl ?_); apply LoadIm.mk rfl; (focus first | (with_reducible exact S2.out)); dsimp only) | ((with_reducible refine en_load rfl rfl ?_); apply LoadEn.mk rfl; (focus first | (with_reducible exact E2.out)); dsimp only) | (go_at_call 12; ((with_reducible refine ((ca1 _ V2.out).out).mono ?_); rintro x w3 ⟨A3, cA3, rfl, hL, hb⟩; have S3 := Lib.hid ((S2.out.below hb S2.out.lt).alloc (.cells (Im.cells T.g (.slice A3 T.g.shots.length cA3) T.r) 35)); have E3 := Lib.hid ((E2.out.below hb E2.out.lt).alloc (.cells (Im.cells T.g (.slice A3 T.g.shots.length cA3) T.r) 35)); have V3 := Lib.hid ((V2.out.below hb V2.out.lt).alloc (.cells (Im.cells T.g (.slice A3 T.g.shots.length cA3) T.r) 35)); have K3 := Lib.hid ((K2.out.trans (hb.mono K2.out.size)).alloc (Nat.le_trans K2.out.size hb.size) (.cells (Im.cells T.g (.slice A3 T.g.shots.length cA3) T.r) 35)); have B3 := Lib.hid (Box.made w3 35 (Im.cells T.g (.slice A3 T.g.shots.length cA3) T.r)); have L3 := Lib.hid (hL.call (one_below w3 (.cells (Im.cells T.g (.slice A3 T.g.shots.length cA3) T.r) 35))); clear hb hL)) | (with_reducible refine alloc_state rfl rfl ?_) | (with_reducible refine im_store_new rfl rfl rfl rfl Im.zero_size rfl ?_))
  generalize hWn : w3.alloc (.cells (Im.cells T.g (.slice A3 T.g.shots.length cA3) T.r) 35) = W3 at S3 E3 V3 L3 B3 K3 ⊢
  generalize w3.heap.size = b3 at B3 ⊢
  clear hWn
  clear S2 E2 V2 K2 ca1
  go_upto_region 5 with (first | ((with_reducible refine im_load_state rfl rfl ?_); apply LoadIm.mk rfl; (focus first | (with_reducible exact B3.out)); dsimp only) | ((with_reducible refine en_load rfl rfl ?_); apply LoadEn.mk rfl; (focus first | (with_reducible exact E3.out)); dsimp only) | (go_at_call 12; ((with_reducible refine ((ca2 _ _ _ V3.out L3.out).out).mono ?_); rintro x w3 ⟨A4, cA4, rfl, hL, hb⟩; have S4 := Lib.hid ((S3.out.below hb S3.out.lt).alloc (.cells (Im.cells T.g (.slice A4 T.g.shots.length cA4) T.r) 35)); have E4 := Lib.hid ((E3.out.below hb E3.out.lt).alloc (.cells (Im.cells T.g (.slice A4 T.g.shots.length cA4) T.r) 35)); have V4 := Lib.hid ((V3.out.below hb V3.out.lt).alloc (.cells (Im.cells T.g (.slice A4 T.g.shots.length cA4) T.r) 35)); have T4 := Lib.hid ((B3.out.below hb B3.out.lt).alloc (.cells (Im.cells T.g (.slice A4 T.g.shots.length cA4) T.r) 35)); have K4 := Lib.hid ((K3.out.trans (hb.mono K3.out.size)).alloc (Nat.le_trans K3.out.size hb.size) (.cells (Im.cells T.g (.slice A4 T.g.shots.length cA4) T.r) 35)); have B4 := Lib.hid (Box.made w3 35 (Im.cells T.g (.slice A4 T.g.shots.length cA4) T.r)); have L4 := Lib.hid (hL.call (one_below w3 (.cells (Im.cells T.g (.slice A4 T.g.shots.length cA4) T.r) 35))); clear hb hL)) | (with_reducible refine alloc_state rfl rfl ?_) | (with_reducible refine im_store_new rfl rfl rfl rfl Im.zero_size rfl ?_))
  generalize hWn : w3.alloc (.cells (Im.cells T.g (.slice A4 T.g.shots.length cA4) T.r) 35) = W4 at S4 E4 V4 T4 L4 B4 K4 ⊢
  generalize w3.heap.size = b4 at B4 ⊢
  clear hWn
  clear S3 E3 V3 K3 ca2 B3 L3 L4 B4
  have e4 := (E4.out.cell 16).trans (told_16 _)
  have f4 := E4.out.free 16
  have E5 := Lib.hid (show Box (W4.setCell ⟨be, 16, none⟩ (.int .u8 1)) be 42 (En.cells (Fd.eJ 0 2 (En.upd Fd.in0 4 ⟨0, 0, 1⟩)) (.slice (some ⟨bv, 0, none⟩) 1 1)) from told_set (.slice (some ⟨bv, 0, none⟩) 1 1) ▸ E4.out.put 16 (.int .u8 1))
  have S5 := Lib.hid (S4.out.far (p := ⟨be, 16, none⟩) (Box.apart S4.out E4.out (by decide)) (.int .u8 1))
  have V5 := Lib.hid (V4.out.far (p := ⟨be, 16, none⟩) (Box.apart V4.out E4.out (by decide)) (.int .u8 1))
  have T5 := Lib.hid (T4.out.far (p := ⟨be, 16, none⟩) (Box.apart T4.out E4.out (by decide)) (.int .u8 1))
  have hbe : Hid (w.heap.size ≤ be) := HBE
  have K5 := Lib.hid (K4.out.setCell (p := ⟨be, 16, none⟩) hbe.out (.int .u8 1))
  go_upto_region 6 with fail
  generalize hW5 : W4.setCell ⟨be, 16, none⟩ (.int .u8 1) = W5 at E5 S5 V5 T5 K5 ⊢
  clear hW5 e4 f4 E4 S4 V4 T4 K4
  go_upto_region 7 with (first | ((with_reducible refine im_load_state rfl rfl ?_); apply LoadIm.mk rfl; (focus first | (with_reducible exact S5.out)); dsimp only) | ((with_reducible refine en_load rfl rfl ?_); apply LoadEn.mk rfl; (focus first | (with_reducible exact E5.out)); dsimp only) | (go_at_call 12; ((with_reducible refine ((ca3 _ V5.out).out).mono ?_); rintro x w3 ⟨A6, cA6, rfl, hL, hb⟩; have S6 := Lib.hid ((S5.out.below hb S5.out.lt).alloc (.cells (Im.cells (Gm.new d) (.slice A6 (Gm.new d).shots.length cA6) Ros.new) 35)); have T6 := Lib.hid ((T5.out.below hb T5.out.lt).alloc (.cells (Im.cells (Gm.new d) (.slice A6 (Gm.new d).shots.length cA6) Ros.new) 35)); have K6 := Lib.hid ((K5.out.trans (hb.mono K5.out.size)).alloc (Nat.le_trans K5.out.size hb.size) (.cells (Im.cells (Gm.new d) (.slice A6 (Gm.new d).shots.length cA6) Ros.new) 35)); have B6 := Lib.hid (Box.made w3 35 (Im.cells (Gm.new d) (.slice A6 (Gm.new d).shots.length cA6) Ros.new)); have L6 := Lib.hid (hL.call (one_below w3 (.cells (Im.cells (Gm.new d) (.slice A6 (Gm.new d).shots.length cA6) Ros.new) 35))); clear hb hL)) | (with_reducible refine alloc_state rfl rfl ?_) | (with_reducible refine im_store_new rfl rfl rfl rfl Im.zero_size rfl ?_))
  generalize hWn : w3.alloc (.cells (Im.cells (Gm.new d) (.slice A6 (Gm.new d).shots.length cA6) Ros.new) 35) = W6 at S6 T6 L6 B6 K6 ⊢
  generalize w3.heap.size = b6 at B6 ⊢
  clear hWn
  clear S5 V5 T5 K5 E5 ca3
  have hrun := Fd.idle_run HD.out
  have cr := fun X (hB : Box X W6.heap.size 42 (En.sCells [⟨Fd.eI 0, none, 0⟩, ⟨Fd.eI 1, none, 0⟩]).toArray) => Lib.hid (show Calls Tryz.prog 19 #[.agg (Im.cells (Gm.new d) (.slice none 0 0) Ros.new), .slice (some ⟨W6.heap.size, 0, none⟩) 2 2] X (SOut (Fd.idle2 d).g (Fd.idle2 d).r 0 X) from
    foldrun_some (Fd.idle2 d) (Fd.start d) [⟨Fd.eI 0, none, 0⟩, ⟨Fd.eI 1, none, 0⟩] none (some ⟨W6.heap.size, 0, none⟩) 0 0 2 2 X (Fd.start_fine HD.out) rfl Lies.none_ (by decide) ⟨Lies.boxed4 (n := 2) hB rfl, fun q hq => (by rcases List.mem_cons.1 hq with rfl | hq; exact Lies.none_; rcases List.mem_cons.1 hq with rfl | hq; exact Lies.none_; cases hq), fun q hq => (by rcases List.mem_cons.1 hq with rfl | hq; exact Nat.zero_le _; rcases List.mem_cons.1 hq with rfl | hq; exact Nat.zero_le _; cases hq)⟩ (fun q hq => (by rcases List.mem_cons.1 hq with rfl | hq; exact in0_tyin; rcases List.mem_cons.1 hq with rfl | hq; exact in0_tyin; cases hq)) hrun.1)
  have v_fr : Hid (∀ s, (Im.cells (Fd.idle2 d).g s (Fd.idle2 d).r)[0]? = some (.int .i64 2)) := Lib.hid fun s => ((Im.cells_g _ s _ 0 (by decide)).trans (Gm.cells_0 _ s)).trans (by rw [hrun.2])
  have M7 := Lib.hid (Box.made W6 42 (En.sCells [⟨Fd.eI 0, none, 0⟩, ⟨Fd.eI 1, none, 0⟩]).toArray)
  have D7 := one_below W6 (.cells (En.sCells [⟨Fd.eI 0, none, 0⟩, ⟨Fd.eI 1, none, 0⟩]).toArray 42)
  have S7 := Lib.hid (S6.out.alloc (.cells (En.sCells [⟨Fd.eI 0, none, 0⟩, ⟨Fd.eI 1, none, 0⟩]).toArray 42))
  have T7 := Lib.hid (T6.out.alloc (.cells (En.sCells [⟨Fd.eI 0, none, 0⟩, ⟨Fd.eI 1, none, 0⟩]).toArray 42))
  have U7 := Lib.hid (B6.out.alloc (.cells (En.sCells [⟨Fd.eI 0, none, 0⟩, ⟨Fd.eI 1, none, 0⟩]).toArray 42))
  have K7 := Lib.hid (K6.out.trans (D7.mono K6.out.size))
  generalize Fd.idle2 d = V at cr v_fr
  clear hrun D7 K6
  go_upto_region 8 with (first | ((with_reducible refine im_load_state rfl rfl ?_); apply LoadIm.mk rfl; (focus first | (with_reducible exact S6.out) | (with_reducible exact S7.out)); dsimp only) | (refine wpList_build_is rfl (t := 42) (vs := []) rfl rfl (en_built_I0) ?_) | (refine wpList_build_is rfl (t := 42) (vs := [(0, .int .i64 1)]) rfl rfl (en_built_I 1) ?_) | ((with_reducible refine en_build2 rfl rfl ?_); (refine BuildEn2.mk (q := ⟨Fd.eI 0, none, 0⟩) (r := ⟨Fd.eI 1, none, 0⟩) rfl rfl ?_)) | (go_at_call 19; ((with_reducible refine ((cr _ M7.out).out).mono ?_); rintro x w3 ⟨A8, cA8, rfl, hL, hb⟩; have S8 := Lib.hid ((S7.out.below hb S7.out.lt).alloc (.cells (Im.cells V.g (.slice A8 V.g.shots.length cA8) V.r) 35)); have T8 := Lib.hid ((T7.out.below hb T7.out.lt).alloc (.cells (Im.cells V.g (.slice A8 V.g.shots.length cA8) V.r) 35)); have U8 := Lib.hid ((U7.out.below hb U7.out.lt).alloc (.cells (Im.cells V.g (.slice A8 V.g.shots.length cA8) V.r) 35)); have K8 := Lib.hid ((K7.out.trans (hb.mono K7.out.size)).alloc (Nat.le_trans K7.out.size hb.size) (.cells (Im.cells V.g (.slice A8 V.g.shots.length cA8) V.r) 35)); have B8 := Lib.hid (Box.made w3 35 (Im.cells V.g (.slice A8 V.g.shots.length cA8) V.r)); have L8 := Lib.hid (hL.call (one_below w3 (.cells (Im.cells V.g (.slice A8 V.g.shots.length cA8) V.r) 35))); clear hb hL)) | (with_reducible refine alloc_state rfl rfl ?_) | (with_reducible refine im_store_new rfl rfl rfl rfl Im.zero_size rfl ?_))
  generalize hWn : w3.alloc (.cells (Im.cells V.g (.slice A8 V.g.shots.length cA8) V.r) 35) = W8 at S8 T8 U8 L8 B8 K8 ⊢
  generalize w3.heap.size = b8 at B8 ⊢
  clear hWn
  clear S7 T7 U7 K7 M7 cr L8
  have t1 := (T8.out.cell 2).trans (t_on.out _)
  have t2 := (T8.out.cell 0).trans (t_fr.out _)
  have t3 := (T8.out.cell 60).trans (t_pe.out _)
  have v1 := fun X (h : Below W8.heap.size W8 X) => ((B8.out.below h B8.out.lt).cell 0).trans (v_fr.out _)
  have csm := fun X A c n (hn : n = (Gm.new d).shots.length) => Lib.hid (foldsame_any (Gm.new d) (Gm.new d) Ros.new Ros.new A none n 0 c 0 X hn rfl (by subst hn; exact Lies.none_) Lies.none_ (by subst hn; exact Nat.zero_le _) (Nat.zero_le _))
  have cmy := fun X => Lib.hid (foldmay_any (Gm.new d) Ros.new none 0 0 X ty0.out (Nat.zero_le _) rfl Lies.none_)
  have OK := Lib.hid (Fd.start_fine HD.out).ok
  go_wp2_with (first | ((with_reducible refine im_load_state_g ?_ rfl ?_); (focus first | rfl | kernel_rfl | simp [Region.wanted, yielded]); apply LoadIm.mk rfl; (focus first | (with_reducible exact S8.out) | (with_reducible exact U8.out) | (with_reducible exact S9.out)); dsimp only) | (go_at_call 17; ((with_reducible refine ((csm _ _ _ _ rfl).out).mono ?_); rintro x w9 ⟨⟨v, rfl, hv⟩, hb⟩; obtain rfl : v = true := hv.2 ⟨Gm.Eq.refl _, rfl, fun _ _ => ⟨rfl, rfl⟩⟩; have S9 := Lib.hid (S8.out.below hb S8.out.lt); have v9 := v1 _ hb; have K9 := Lib.hid (K8.out.trans (hb.mono K8.out.size)); clear hb hv)) | (go_at_call 14; ((with_reducible refine ((cmy _).out).mono ?_); rintro x w10 ⟨⟨v, rfl, hv⟩, hb⟩; obtain rfl : v = true := hv.2 OK.out; have K10 := Lib.hid (K9.out.trans (hb.mono K9.out.size)); clear hb hv)))
  go_ret
  exact ⟨rfl, K10.out⟩
end Go.Proofs.YtiahpncglpfjeaaGreat
namespace Go.Proofs.YtiahpncglpfjeaaGreat
open Go.RowKit
set_option linter.unusedVariables false
set_option linter.unusedSimpArgs false

theorem ship_neq (s t : Gm.Ship) (w : World) : (binOp .neq 24 (.agg s.cells.toArray) (.agg t.cells.toArray)).run Tryz.prog w = .ok (.bool (!s.eqB t)) w := by
  simp only [binOp]
  simp [Op.equal, Op.maxDepth, ship_eq']

set_option maxRecDepth 100000 in
set_option maxHeartbeats 16000000 in
theorem refmay_any (g : Gm.G) (A : Option Addr) (n c : Nat) (w : World) (hty : Gm.ty g) (hn : n = g.shots.length) (hn63 : n ≤ maxLen) (hr : Lies w w.heap.size 6 A n (Gm.shotCells g.shots)) :
    Calls Tryz.prog 36 #[.agg (Gm.cells g (.slice A n c))] w fun e w' => (∃ v, e = .returned (.bool v) ∧ (v = true ↔ Gm.ok g)) ∧ Below w.heap.size w w' := by
  have hN : Hid (n = g.shots.length) := Lib.hid hn
  have n63 : (n : Int) ≤ 9223372036854775807 := by unfold maxLen at hn63; omega
  have hc : ∀ W : World, ∀ j, (W.alloc (.cells (Gm.cells g (.slice A n c)) 28)).cell? ⟨W.heap.size, j, none⟩ = (Gm.cells g (.slice A n c))[j]? := fun W j => (Box.made W _ _).cell j
  have h0 := Gm.cells_0 g (.slice A n c)
  have h58 := Gm.cells_58 g (.slice A n c)
  clear hn hn63
  by_cases hf : g.frame < 0
  · have d1 : decide (g.frame < 0) = true := decide_eq_true hf
    have hno := Lib.hid (show ¬ Gm.ok g from fun h => by have := h.1; omega)
    clear hr hf hty
    go_enter Tryz.func36, Tryz.ntmps36
    go_wp2
    go_ret
    exact ⟨by first | exact ⟨false, rfl, by simp; exact hno.out⟩ | exact .inl ⟨rfl, hno.out⟩, one_below _ _⟩
  have d1 : decide (g.frame < 0) = false := decide_eq_false hf
  by_cases hf2 : 1048576 < g.frame
  · have d2 : decide (1048576 < g.frame) = true := decide_eq_true hf2
    have hno := Lib.hid (show ¬ Gm.ok g from fun h => by have := h.2.1; omega)
    clear hr hf hf2 hty
    go_enter Tryz.func36, Tryz.ntmps36
    go_wp2
    go_ret
    exact ⟨by first | exact ⟨false, rfl, by simp; exact hno.out⟩ | exact .inl ⟨rfl, hno.out⟩, one_below _ _⟩
  have d2 : decide (1048576 < g.frame) = false := decide_eq_false hf2
  by_cases hf3 : 32 < (n : Int)
  · have d3 : decide (32 < (n : Int)) = true := decide_eq_true hf3
    have hno := Lib.hid (show ¬ Gm.ok g from fun h => by have := h.2.2.1; have := hN.out; omega)
    clear hr hf hf2 hf3 hty
    go_enter Tryz.func36, Tryz.ntmps36
    go_wp2
    go_ret
    exact ⟨by first | exact ⟨false, rfl, by simp; exact hno.out⟩ | exact .inl ⟨rfl, hno.out⟩, one_below _ _⟩
  have d3 : decide (32 < (n : Int)) = false := decide_eq_false hf3
  have HF := Lib.hid (show 0 ≤ g.frame ∧ g.frame ≤ 1048576 ∧ g.shots.length ≤ 32 from ⟨by omega, by omega, by have := hN.out; omega⟩)
  obtain ⟨_, _, hships, hshots⟩ := hty
  clear hf hf2 hf3
  go_enter Tryz.func36, Tryz.ntmps36
  go_wp2
  go_loopw [3] (fun i wr => ∃ k : Nat, k ≤ 8 ∧ i = .int .i64 k ∧ Box wr w.heap.size 28 (Gm.cells g (.slice A n c)) ∧ Below w.heap.size w wr ∧ ∀ j, j < k → Gm.okShip (g.ship j)) (fun i _ => 8 - (intOf i).toNat)
  case atStart => exact ⟨0, by omega, rfl, Box.made _ _ _, one_below _ _, fun j hj => absurd hj (Nat.not_lt_zero j)⟩
  case round =>
    obtain ⟨k, hk, rfl, hB, hb, hall⟩ := hrel
    have HALL := Lib.hid hall
    clear hall
    by_cases hlt : k < 8
    · have hcr := hB.cell
      have hlB := hB.lt
      have e0 := cells_at hcr hlt 0 (by omega)
      have e1 := cells_at hcr hlt 1 (by omega)
      have e2 := cells_at hcr hlt 2 (by omega)
      have e3 := cells_at hcr hlt 3 (by omega)
      have e4 := cells_at hcr hlt 4 (by omega)
      have e5 := cells_at hcr hlt 5 (by omega)
      have e6 := cells_at hcr hlt 6 (by omega)
      have ty := hships k hlt
      have HS := Lib.hid (show Gm.ok g → Gm.okShip (g.ship k) from fun h => h.2.2.2.1 k hlt)
      have HZ := Lib.hid (show Gm.okShip (g.ship k) → ∀ j, j < k + 1 → Gm.okShip (g.ship j) from fun h j hj => by
        by_cases e : j = k
        · rw [e]; exact h
        · exact HALL.out j (by omega))
      generalize g.ship k = s at e0 e1 e2 e3 e4 e5 e6 ty HS HZ
      obtain ⟨on, x, y, vx, vy, cool, score⟩ := s
      simp only [Gm.Ship.cells, List.getElem?_cons_zero, List.getElem?_cons_succ, Nat.add_zero] at e0 e1 e2 e3 e4 e5 e6
      obtain ⟨tx, ty, tvx, tvy, tc, ts⟩ := ty
      unfold Gm.i32 Gm.i64 at *
      dsimp only at tx ty tvx tvy tc ts
      have hk8 : (k : Int) < 8 := by omega
      have HB := Lib.hid hB
      have HBB := Lib.hid hb
      clear hc hcr hships hshots h0 h58 d1 d2 d3 hB hb
      cases on
      · by_cases hz : (⟨false, x, y, vx, vy, cool, score⟩ : Gm.Ship) = Gm.Ship.none
        · have ho := Lib.hid (HZ.out (by rw [hz]; refine ⟨.inr rfl, ?_, ?_, ?_, ?_, ?_, ?_, ?_, ?_⟩ <;> simp [Gm.Ship.none, Gm.inF, Gm.slow]))
          injection hz with z1 z2 z3 z4 z5 z6 z7
          subst z2 z3 z4 z5 z6 z7
          clear HS HZ tx ty tvx tvy tc ts
          go_wp2
          go_roundw
          case rel => exact ⟨k + 1, by omega, by go_num, HB.out.alloc _, HBB.out.alloc (Nat.le_of_lt hlB) _, ho.out⟩
          case measure => simp [intOf]; omega
        · have he := fun W => ship_neq ⟨false, x, y, vx, vy, cool, score⟩ Gm.Ship.none W
          rw [show (⟨false, x, y, vx, vy, cool, score⟩ : Gm.Ship).eqB Gm.Ship.none = false by
            cases hq : (⟨false, x, y, vx, vy, cool, score⟩ : Gm.Ship).eqB Gm.Ship.none
            · rfl
            · exact absurd (Gm.Ship.eqB_iff.1 hq) hz] at he
          simp only [Gm.Ship.cells, Gm.Ship.none, Bool.not_false] at he
          have hno := Lib.hid (show ¬ Gm.ok g from fun h => (HS.out h).1.elim (fun hh => absurd hh (by simp)) hz)
          clear HS HZ hz tx ty tvx tvy tc ts
          go_wp2
          go_ret
          exact ⟨by first | exact ⟨false, rfl, by simp; exact hno.out⟩ | exact .inl ⟨rfl, hno.out⟩, HBB.out.alloc (Nat.le_of_lt hlB) _⟩
      · skip
        have cx := fun X => Lib.hid (refin_any x tx X)
        have cy := fun X => Lib.hid (refin_any y ty X)
        have cvx := fun X => Lib.hid (refslow_any vx 524288 tvx (by omega) X)
        have cvy := fun X => Lib.hid (refslow_any vy 524288 tvy (by omega) X)
        obtain ⟨bx, hx⟩ : ∃ b, b = (decide (0 ≤ x) && decide (x < 16777216)) := ⟨_, rfl⟩
        obtain ⟨b_y, hy⟩ : ∃ b, b = (decide (0 ≤ y) && decide (y < 16777216)) := ⟨_, rfl⟩
        obtain ⟨bvx, hvx⟩ : ∃ b, b = (decide (-524288 ≤ vx) && decide (vx ≤ 524288)) := ⟨_, rfl⟩
        obtain ⟨bvy, hvy⟩ : ∃ b, b = (decide (-524288 ≤ vy) && decide (vy ≤ 524288)) := ⟨_, rfl⟩
        rw [← hx] at cx; rw [← hy] at cy; rw [← hvx] at cvx; rw [← hvy] at cvy
        have HX := Lib.hid (show bx = true ↔ Gm.inF x by rw [hx]; unfold Gm.inF; simp)
        have HY := Lib.hid (show b_y = true ↔ Gm.inF y by rw [hy]; unfold Gm.inF; simp)
        have HVX := Lib.hid (show bvx = true ↔ Gm.slow vx 524288 by rw [hvx]; unfold Gm.slow; simp)
        have HVY := Lib.hid (show bvy = true ↔ Gm.slow vy 524288 by rw [hvy]; unfold Gm.slow; simp)
        have HO := Lib.hid (show Gm.ok g → bx = true ∧ b_y = true ∧ bvx = true ∧ bvy = true ∧ 0 ≤ cool ∧ cool ≤ 10 ∧ 0 ≤ score ∧ score ≤ 1073741824 from fun h => by obtain ⟨_, h1, h2, h3, h4, h5, h6, h7, h8⟩ := HS.out h; exact ⟨HX.out.2 h1, HY.out.2 h2, HVX.out.2 h3, HVY.out.2 h4, h5, h6, h7, h8⟩)
        have HQ := Lib.hid (show (bx = true ∧ b_y = true ∧ bvx = true ∧ bvy = true ∧ 0 ≤ cool ∧ cool ≤ 10 ∧ 0 ≤ score ∧ score ≤ 1073741824) → ∀ j, j < k + 1 → Gm.okShip (g.ship j) from fun ⟨h1, h2, h3, h4, h5, h6, h7, h8⟩ => HZ.out ⟨.inl rfl, HX.out.1 h1, HY.out.1 h2, HVX.out.1 h3, HVY.out.1 h4, h5, h6, h7, h8⟩)
        clear hx hy hvx hvy HX HY HVX HVY HS HZ tx ty tvx tvy tc ts
        cases bx
        · have hno := Lib.hid (show ¬ Gm.ok g from fun h => by have := (HO.out h).1; simp at this)
          clear HO HQ
          go_wp2_with (first | (go_at_call 76; first | ((with_reducible refine ((cx _).out).mono ?_); rintro e v1 ⟨rfl, rfl⟩) | ((with_reducible refine ((cy _).out).mono ?_); rintro e v1 ⟨rfl, rfl⟩)) | (go_at_call 77; first | ((with_reducible refine ((cvx _).out).mono ?_); rintro e v1 ⟨rfl, rfl⟩) | ((with_reducible refine ((cvy _).out).mono ?_); rintro e v1 ⟨rfl, rfl⟩)))
          go_ret
          exact ⟨by first | exact ⟨false, rfl, by simp; exact hno.out⟩ | exact .inl ⟨rfl, hno.out⟩, HBB.out.alloc (Nat.le_of_lt hlB) _⟩
        cases b_y
        · have hno := Lib.hid (show ¬ Gm.ok g from fun h => by have := (HO.out h).2.1; simp at this)
          clear HO HQ
          go_wp2_with (first | (go_at_call 76; first | ((with_reducible refine ((cx _).out).mono ?_); rintro e v1 ⟨rfl, rfl⟩) | ((with_reducible refine ((cy _).out).mono ?_); rintro e v1 ⟨rfl, rfl⟩)) | (go_at_call 77; first | ((with_reducible refine ((cvx _).out).mono ?_); rintro e v1 ⟨rfl, rfl⟩) | ((with_reducible refine ((cvy _).out).mono ?_); rintro e v1 ⟨rfl, rfl⟩)))
          go_ret
          exact ⟨by first | exact ⟨false, rfl, by simp; exact hno.out⟩ | exact .inl ⟨rfl, hno.out⟩, HBB.out.alloc (Nat.le_of_lt hlB) _⟩
        cases bvx
        · have hno := Lib.hid (show ¬ Gm.ok g from fun h => by have := (HO.out h).2.2.1; simp at this)
          clear HO HQ
          go_wp2_with (first | (go_at_call 76; first | ((with_reducible refine ((cx _).out).mono ?_); rintro e v1 ⟨rfl, rfl⟩) | ((with_reducible refine ((cy _).out).mono ?_); rintro e v1 ⟨rfl, rfl⟩)) | (go_at_call 77; first | ((with_reducible refine ((cvx _).out).mono ?_); rintro e v1 ⟨rfl, rfl⟩) | ((with_reducible refine ((cvy _).out).mono ?_); rintro e v1 ⟨rfl, rfl⟩)))
          go_ret
          exact ⟨by first | exact ⟨false, rfl, by simp; exact hno.out⟩ | exact .inl ⟨rfl, hno.out⟩, HBB.out.alloc (Nat.le_of_lt hlB) _⟩
        cases bvy
        · have hno := Lib.hid (show ¬ Gm.ok g from fun h => by have := (HO.out h).2.2.2.1; simp at this)
          clear HO HQ
          go_wp2_with (first | (go_at_call 76; first | ((with_reducible refine ((cx _).out).mono ?_); rintro e v1 ⟨rfl, rfl⟩) | ((with_reducible refine ((cy _).out).mono ?_); rintro e v1 ⟨rfl, rfl⟩)) | (go_at_call 77; first | ((with_reducible refine ((cvx _).out).mono ?_); rintro e v1 ⟨rfl, rfl⟩) | ((with_reducible refine ((cvy _).out).mono ?_); rintro e v1 ⟨rfl, rfl⟩)))
          go_ret
          exact ⟨by first | exact ⟨false, rfl, by simp; exact hno.out⟩ | exact .inl ⟨rfl, hno.out⟩, HBB.out.alloc (Nat.le_of_lt hlB) _⟩
        by_cases q0 : cool < 0
        · have f0 : decide (cool < 0) = true := decide_eq_true q0
          have hno := Lib.hid (show ¬ Gm.ok g from fun h => by have := (HO.out h).2.2.2.2.1; omega)
          clear HO HQ q0
          go_wp2_with (first | (go_at_call 76; first | ((with_reducible refine ((cx _).out).mono ?_); rintro e v1 ⟨rfl, rfl⟩) | ((with_reducible refine ((cy _).out).mono ?_); rintro e v1 ⟨rfl, rfl⟩)) | (go_at_call 77; first | ((with_reducible refine ((cvx _).out).mono ?_); rintro e v1 ⟨rfl, rfl⟩) | ((with_reducible refine ((cvy _).out).mono ?_); rintro e v1 ⟨rfl, rfl⟩)))
          go_ret
          exact ⟨by first | exact ⟨false, rfl, by simp; exact hno.out⟩ | exact .inl ⟨rfl, hno.out⟩, HBB.out.alloc (Nat.le_of_lt hlB) _⟩
        have f0 : decide (cool < 0) = false := decide_eq_false q0
        by_cases q1 : 10 < cool
        · have f1 : decide (10 < cool) = true := decide_eq_true q1
          have hno := Lib.hid (show ¬ Gm.ok g from fun h => by have := (HO.out h).2.2.2.2.2.1; omega)
          clear HO HQ q0 q1
          go_wp2_with (first | (go_at_call 76; first | ((with_reducible refine ((cx _).out).mono ?_); rintro e v1 ⟨rfl, rfl⟩) | ((with_reducible refine ((cy _).out).mono ?_); rintro e v1 ⟨rfl, rfl⟩)) | (go_at_call 77; first | ((with_reducible refine ((cvx _).out).mono ?_); rintro e v1 ⟨rfl, rfl⟩) | ((with_reducible refine ((cvy _).out).mono ?_); rintro e v1 ⟨rfl, rfl⟩)))
          go_ret
          exact ⟨by first | exact ⟨false, rfl, by simp; exact hno.out⟩ | exact .inl ⟨rfl, hno.out⟩, HBB.out.alloc (Nat.le_of_lt hlB) _⟩
        have f1 : decide (10 < cool) = false := decide_eq_false q1
        by_cases q2 : score < 0
        · have f2 : decide (score < 0) = true := decide_eq_true q2
          have hno := Lib.hid (show ¬ Gm.ok g from fun h => by have := (HO.out h).2.2.2.2.2.2.1; omega)
          clear HO HQ q0 q1 q2
          go_wp2_with (first | (go_at_call 76; first | ((with_reducible refine ((cx _).out).mono ?_); rintro e v1 ⟨rfl, rfl⟩) | ((with_reducible refine ((cy _).out).mono ?_); rintro e v1 ⟨rfl, rfl⟩)) | (go_at_call 77; first | ((with_reducible refine ((cvx _).out).mono ?_); rintro e v1 ⟨rfl, rfl⟩) | ((with_reducible refine ((cvy _).out).mono ?_); rintro e v1 ⟨rfl, rfl⟩)))
          go_ret
          exact ⟨by first | exact ⟨false, rfl, by simp; exact hno.out⟩ | exact .inl ⟨rfl, hno.out⟩, HBB.out.alloc (Nat.le_of_lt hlB) _⟩
        have f2 : decide (score < 0) = false := decide_eq_false q2
        by_cases q3 : 1073741824 < score
        · have f3 : decide (1073741824 < score) = true := decide_eq_true q3
          have hno := Lib.hid (show ¬ Gm.ok g from fun h => by have := (HO.out h).2.2.2.2.2.2.2; omega)
          clear HO HQ q0 q1 q2 q3
          go_wp2_with (first | (go_at_call 76; first | ((with_reducible refine ((cx _).out).mono ?_); rintro e v1 ⟨rfl, rfl⟩) | ((with_reducible refine ((cy _).out).mono ?_); rintro e v1 ⟨rfl, rfl⟩)) | (go_at_call 77; first | ((with_reducible refine ((cvx _).out).mono ?_); rintro e v1 ⟨rfl, rfl⟩) | ((with_reducible refine ((cvy _).out).mono ?_); rintro e v1 ⟨rfl, rfl⟩)))
          go_ret
          exact ⟨by first | exact ⟨false, rfl, by simp; exact hno.out⟩ | exact .inl ⟨rfl, hno.out⟩, HBB.out.alloc (Nat.le_of_lt hlB) _⟩
        have f3 : decide (1073741824 < score) = false := decide_eq_false q3
        have ho := Lib.hid (HQ.out ⟨rfl, rfl, rfl, rfl, by omega, by omega, by omega, by omega⟩)
        clear HO HQ q0 q1 q2 q3
        go_wp2_with (first | (go_at_call 76; first | ((with_reducible refine ((cx _).out).mono ?_); rintro e v1 ⟨rfl, rfl⟩) | ((with_reducible refine ((cy _).out).mono ?_); rintro e v1 ⟨rfl, rfl⟩)) | (go_at_call 77; first | ((with_reducible refine ((cvx _).out).mono ?_); rintro e v1 ⟨rfl, rfl⟩) | ((with_reducible refine ((cvy _).out).mono ?_); rintro e v1 ⟨rfl, rfl⟩)))
        go_roundw
        case rel => exact ⟨k + 1, by omega, by go_num, HB.out.alloc _, HBB.out.alloc (Nat.le_of_lt hlB) _, ho.out⟩
        case measure => simp [intOf]; omega
    · have hk8 : ¬ (k : Int) < 8 := by omega
      have HA8 := Lib.hid (show ∀ j, j < 8 → Gm.okShip (g.ship j) from fun j hj => HALL.out j (by omega))
      have hcr := hB.cell
      have hlB := hB.lt
      clear hc hships h0 d1 d2 d3 HALL
      go_wp2
      go_loopw [5] (fun i wr => ∃ k : Nat, k ≤ n ∧ i = .int .i64 k ∧ Box wr w.heap.size 28 (Gm.cells g (.slice A n c)) ∧ Below w.heap.size w wr ∧ ∀ j (hj : j < g.shots.length), j < k → Gm.okShot (g.shots[j]'hj)) (fun i _ => n - (intOf i).toNat)
      case atStart => exact ⟨0, by omega, rfl, hB, hb, fun j _ hj => absurd hj (Nat.not_lt_zero j)⟩
      case round =>
        obtain ⟨m, hm, rfl, hB, hb, hall⟩ := hrel
        have HALL := Lib.hid hall
        clear hcr hlB hall
        have hcr := hB.cell
        have hlB := hB.lt
        by_cases hlt : m < n
        · have hml : m < g.shots.length := by have := hN.out; omega
          obtain ⟨ad, rfl, hbl, e0, e1, e2, e3, e4, e5⟩ := shots_at (hr.below hb) hN.out m hml
          have ty := hshots m hml
          have HS := Lib.hid (show Gm.ok g → Gm.okShot (g.shots[m]'hml) from fun h => h.2.2.2.2 m hml)
          have HZ := Lib.hid (show Gm.okShot (g.shots[m]'hml) → ∀ j (hj : j < g.shots.length), j < m + 1 → Gm.okShot (g.shots[j]'hj) from fun h j hjl hj => by
            by_cases e : j = m
            · subst e; exact h
            · exact HALL.out j hjl (by omega))
          generalize g.shots[m]'hml = s at e0 e1 e2 e3 e4 e5 ty HS HZ
          obtain ⟨owner, x, y, vx, vy, left⟩ := s
          dsimp only at e0 e1 e2 e3 e4 e5
          obtain ⟨to_, tx, ty, tvx, tvy, tl⟩ := ty
          unfold Gm.i32 Gm.i64 at *
          dsimp only at to_ tx ty tvx tvy tl
          have hmn : (m : Int) < n := by omega
          have HB := Lib.hid hB
          have HBB := Lib.hid hb
          clear hr hshots hb hB
          have cx := fun X => Lib.hid (refin_any x tx X)
          have cy := fun X => Lib.hid (refin_any y ty X)
          have cvx := fun X => Lib.hid (refslow_any vx 393216 tvx (by omega) X)
          have cvy := fun X => Lib.hid (refslow_any vy 393216 tvy (by omega) X)
          obtain ⟨bx, hx⟩ : ∃ b, b = (decide (0 ≤ x) && decide (x < 16777216)) := ⟨_, rfl⟩
          obtain ⟨b_y, hy⟩ : ∃ b, b = (decide (0 ≤ y) && decide (y < 16777216)) := ⟨_, rfl⟩
          obtain ⟨bvx, hvx⟩ : ∃ b, b = (decide (-393216 ≤ vx) && decide (vx ≤ 393216)) := ⟨_, rfl⟩
          obtain ⟨bvy, hvy⟩ : ∃ b, b = (decide (-393216 ≤ vy) && decide (vy ≤ 393216)) := ⟨_, rfl⟩
          rw [← hx] at cx; rw [← hy] at cy; rw [← hvx] at cvx; rw [← hvy] at cvy
          have HX := Lib.hid (show bx = true ↔ Gm.inF x by rw [hx]; unfold Gm.inF; simp)
          have HY := Lib.hid (show b_y = true ↔ Gm.inF y by rw [hy]; unfold Gm.inF; simp)
          have HVX := Lib.hid (show bvx = true ↔ Gm.slow vx 393216 by rw [hvx]; unfold Gm.slow; simp)
          have HVY := Lib.hid (show bvy = true ↔ Gm.slow vy 393216 by rw [hvy]; unfold Gm.slow; simp)
          have HO := Lib.hid (show Gm.ok g → bx = true ∧ b_y = true ∧ bvx = true ∧ bvy = true ∧ 0 ≤ owner ∧ owner < 8 ∧ 1 ≤ left ∧ left ≤ 24 from fun h => by obtain ⟨h5, h6, h1, h2, h3, h4, h7, h8⟩ := HS.out h; exact ⟨HX.out.2 h1, HY.out.2 h2, HVX.out.2 h3, HVY.out.2 h4, h5, h6, h7, h8⟩)
          have HQ := Lib.hid (show (bx = true ∧ b_y = true ∧ bvx = true ∧ bvy = true ∧ 0 ≤ owner ∧ owner < 8 ∧ 1 ≤ left ∧ left ≤ 24) → ∀ j (hj : j < g.shots.length), j < m + 1 → Gm.okShot (g.shots[j]'hj) from fun ⟨h1, h2, h3, h4, h5, h6, h7, h8⟩ => HZ.out ⟨h5, h6, HX.out.1 h1, HY.out.1 h2, HVX.out.1 h3, HVY.out.1 h4, h7, h8⟩)
          clear hx hy hvx hvy HX HY HVX HVY HS HZ tx ty tvx tvy to_ tl
          by_cases q0 : owner < 0
          · have f0 : decide (owner < 0) = true := decide_eq_true q0
            have hno := Lib.hid (show ¬ Gm.ok g from fun h => by have := (HO.out h).2.2.2.2.1; omega)
            clear HO HQ q0
            go_wp2_with (first | (go_at_call 76; first | ((with_reducible refine ((cx _).out).mono ?_); rintro e v1 ⟨rfl, rfl⟩) | ((with_reducible refine ((cy _).out).mono ?_); rintro e v1 ⟨rfl, rfl⟩)) | (go_at_call 77; first | ((with_reducible refine ((cvx _).out).mono ?_); rintro e v1 ⟨rfl, rfl⟩) | ((with_reducible refine ((cvy _).out).mono ?_); rintro e v1 ⟨rfl, rfl⟩)))
            go_ret
            exact ⟨by first | exact ⟨false, rfl, by simp; exact hno.out⟩ | exact .inl ⟨rfl, hno.out⟩, HBB.out.alloc (Nat.le_of_lt hlB) _⟩
          have f0 : decide (owner < 0) = false := decide_eq_false q0
          by_cases q1 : 8 ≤ owner
          · have f1 : decide (8 ≤ owner) = true := decide_eq_true q1
            have hno := Lib.hid (show ¬ Gm.ok g from fun h => by have := (HO.out h).2.2.2.2.2.1; omega)
            clear HO HQ q0 q1
            go_wp2_with (first | (go_at_call 76; first | ((with_reducible refine ((cx _).out).mono ?_); rintro e v1 ⟨rfl, rfl⟩) | ((with_reducible refine ((cy _).out).mono ?_); rintro e v1 ⟨rfl, rfl⟩)) | (go_at_call 77; first | ((with_reducible refine ((cvx _).out).mono ?_); rintro e v1 ⟨rfl, rfl⟩) | ((with_reducible refine ((cvy _).out).mono ?_); rintro e v1 ⟨rfl, rfl⟩)))
            go_ret
            exact ⟨by first | exact ⟨false, rfl, by simp; exact hno.out⟩ | exact .inl ⟨rfl, hno.out⟩, HBB.out.alloc (Nat.le_of_lt hlB) _⟩
          have f1 : decide (8 ≤ owner) = false := decide_eq_false q1
          cases bx
          · have hno := Lib.hid (show ¬ Gm.ok g from fun h => by have := (HO.out h).1; simp at this)
            clear HO HQ q0 q1
            go_wp2_with (first | (go_at_call 76; first | ((with_reducible refine ((cx _).out).mono ?_); rintro e v1 ⟨rfl, rfl⟩) | ((with_reducible refine ((cy _).out).mono ?_); rintro e v1 ⟨rfl, rfl⟩)) | (go_at_call 77; first | ((with_reducible refine ((cvx _).out).mono ?_); rintro e v1 ⟨rfl, rfl⟩) | ((with_reducible refine ((cvy _).out).mono ?_); rintro e v1 ⟨rfl, rfl⟩)))
            go_ret
            exact ⟨by first | exact ⟨false, rfl, by simp; exact hno.out⟩ | exact .inl ⟨rfl, hno.out⟩, HBB.out.alloc (Nat.le_of_lt hlB) _⟩
          cases b_y
          · have hno := Lib.hid (show ¬ Gm.ok g from fun h => by have := (HO.out h).2.1; simp at this)
            clear HO HQ q0 q1
            go_wp2_with (first | (go_at_call 76; first | ((with_reducible refine ((cx _).out).mono ?_); rintro e v1 ⟨rfl, rfl⟩) | ((with_reducible refine ((cy _).out).mono ?_); rintro e v1 ⟨rfl, rfl⟩)) | (go_at_call 77; first | ((with_reducible refine ((cvx _).out).mono ?_); rintro e v1 ⟨rfl, rfl⟩) | ((with_reducible refine ((cvy _).out).mono ?_); rintro e v1 ⟨rfl, rfl⟩)))
            go_ret
            exact ⟨by first | exact ⟨false, rfl, by simp; exact hno.out⟩ | exact .inl ⟨rfl, hno.out⟩, HBB.out.alloc (Nat.le_of_lt hlB) _⟩
          cases bvx
          · have hno := Lib.hid (show ¬ Gm.ok g from fun h => by have := (HO.out h).2.2.1; simp at this)
            clear HO HQ q0 q1
            go_wp2_with (first | (go_at_call 76; first | ((with_reducible refine ((cx _).out).mono ?_); rintro e v1 ⟨rfl, rfl⟩) | ((with_reducible refine ((cy _).out).mono ?_); rintro e v1 ⟨rfl, rfl⟩)) | (go_at_call 77; first | ((with_reducible refine ((cvx _).out).mono ?_); rintro e v1 ⟨rfl, rfl⟩) | ((with_reducible refine ((cvy _).out).mono ?_); rintro e v1 ⟨rfl, rfl⟩)))
            go_ret
            exact ⟨by first | exact ⟨false, rfl, by simp; exact hno.out⟩ | exact .inl ⟨rfl, hno.out⟩, HBB.out.alloc (Nat.le_of_lt hlB) _⟩
          cases bvy
          · have hno := Lib.hid (show ¬ Gm.ok g from fun h => by have := (HO.out h).2.2.2.1; simp at this)
            clear HO HQ q0 q1
            go_wp2_with (first | (go_at_call 76; first | ((with_reducible refine ((cx _).out).mono ?_); rintro e v1 ⟨rfl, rfl⟩) | ((with_reducible refine ((cy _).out).mono ?_); rintro e v1 ⟨rfl, rfl⟩)) | (go_at_call 77; first | ((with_reducible refine ((cvx _).out).mono ?_); rintro e v1 ⟨rfl, rfl⟩) | ((with_reducible refine ((cvy _).out).mono ?_); rintro e v1 ⟨rfl, rfl⟩)))
            go_ret
            exact ⟨by first | exact ⟨false, rfl, by simp; exact hno.out⟩ | exact .inl ⟨rfl, hno.out⟩, HBB.out.alloc (Nat.le_of_lt hlB) _⟩
          by_cases q2 : left < 1
          · have f2 : decide (left < 1) = true := decide_eq_true q2
            have hno := Lib.hid (show ¬ Gm.ok g from fun h => by have := (HO.out h).2.2.2.2.2.2.1; omega)
            clear HO HQ q0 q1 q2
            go_wp2_with (first | (go_at_call 76; first | ((with_reducible refine ((cx _).out).mono ?_); rintro e v1 ⟨rfl, rfl⟩) | ((with_reducible refine ((cy _).out).mono ?_); rintro e v1 ⟨rfl, rfl⟩)) | (go_at_call 77; first | ((with_reducible refine ((cvx _).out).mono ?_); rintro e v1 ⟨rfl, rfl⟩) | ((with_reducible refine ((cvy _).out).mono ?_); rintro e v1 ⟨rfl, rfl⟩)))
            go_ret
            exact ⟨by first | exact ⟨false, rfl, by simp; exact hno.out⟩ | exact .inl ⟨rfl, hno.out⟩, HBB.out.alloc (Nat.le_of_lt hlB) _⟩
          have f2 : decide (left < 1) = false := decide_eq_false q2
          by_cases q3 : 24 < left
          · have f3 : decide (24 < left) = true := decide_eq_true q3
            have hno := Lib.hid (show ¬ Gm.ok g from fun h => by have := (HO.out h).2.2.2.2.2.2.2; omega)
            clear HO HQ q0 q1 q2 q3
            go_wp2_with (first | (go_at_call 76; first | ((with_reducible refine ((cx _).out).mono ?_); rintro e v1 ⟨rfl, rfl⟩) | ((with_reducible refine ((cy _).out).mono ?_); rintro e v1 ⟨rfl, rfl⟩)) | (go_at_call 77; first | ((with_reducible refine ((cvx _).out).mono ?_); rintro e v1 ⟨rfl, rfl⟩) | ((with_reducible refine ((cvy _).out).mono ?_); rintro e v1 ⟨rfl, rfl⟩)))
            go_ret
            exact ⟨by first | exact ⟨false, rfl, by simp; exact hno.out⟩ | exact .inl ⟨rfl, hno.out⟩, HBB.out.alloc (Nat.le_of_lt hlB) _⟩
          have f3 : decide (24 < left) = false := decide_eq_false q3
          have ho := Lib.hid (HQ.out ⟨rfl, rfl, rfl, rfl, by omega, by omega, by omega, by omega⟩)
          clear HO HQ q0 q1 q2 q3
          go_wp2_with (first | (go_at_call 76; first | ((with_reducible refine ((cx _).out).mono ?_); rintro e v1 ⟨rfl, rfl⟩) | ((with_reducible refine ((cy _).out).mono ?_); rintro e v1 ⟨rfl, rfl⟩)) | (go_at_call 77; first | ((with_reducible refine ((cvx _).out).mono ?_); rintro e v1 ⟨rfl, rfl⟩) | ((with_reducible refine ((cvy _).out).mono ?_); rintro e v1 ⟨rfl, rfl⟩)))
          go_roundw
          case rel => exact ⟨m + 1, by omega, by go_num, HB.out.alloc _, HBB.out.alloc (Nat.le_of_lt hlB) _, ho.out⟩
          case measure => simp [intOf]; omega
        · have hmn : ¬ (m : Int) < n := by omega
          have hyes := Lib.hid (show Gm.ok g from ⟨HF.out.1, HF.out.2.1, HF.out.2.2, HA8.out, fun j hj => HALL.out j hj (by have := hN.out; omega)⟩)
          have HBB := Lib.hid hb
          clear hr hshots hb hB HALL
          go_wp2
          go_ret
          exact ⟨by first | exact ⟨true, rfl, by simp; exact hyes.out⟩ | exact .inr ⟨rfl, hyes.out⟩, HBB.out⟩
end Go.Proofs.YtiahpncglpfjeaaGreat
namespace Go.Proofs.YtiahpncglpfjeaaGreat
open Go.RowKit Go.Shelf
set_option linter.unusedVariables false
set_option linter.unusedSimpArgs false

set_option maxRecDepth 100000 in
set_option maxHeartbeats 8000000 in
theorem refros_may (r : Ros.R) (w : World) :
    Calls Tryz.prog 37 #[.agg (Ros.cells r)] w fun e w' => (∃ v, e = .returned (.bool v) ∧ (v = true ↔ Ros.Ok r)) ∧ Below w.heap.size w w' := by
  have hc : ∀ W : World, ∀ j, (W.alloc (.cells (Ros.cells r) 33)).cell? ⟨W.heap.size, j, none⟩ = (Ros.cells r)[j]? := fun W j => (Box.made W _ _).cell j
  have h0 := Ros.cells_0 r
  by_cases hv1 : r.version < 0
  · have d1 : decide (r.version < 0) = true := decide_eq_true hv1
    have hno := Lib.hid (show ¬ Ros.Ok r from fun h => by have := h.1; omega)
    clear hv1
    go_enter Tryz.func37, Tryz.ntmps37
    go_wp2
    go_ret
    exact ⟨by first | exact ⟨false, rfl, by simp; exact hno.out⟩ | exact .inl ⟨rfl, hno.out⟩, one_below _ _⟩
  have d1 : decide (r.version < 0) = false := decide_eq_false hv1
  by_cases hv2 : 1073741824 < r.version
  · have d2 : decide (1073741824 < r.version) = true := decide_eq_true hv2
    have hno := Lib.hid (show ¬ Ros.Ok r from fun h => by have := h.1; omega)
    clear hv1 hv2
    go_enter Tryz.func37, Tryz.ntmps37
    go_wp2
    go_ret
    exact ⟨by first | exact ⟨false, rfl, by simp; exact hno.out⟩ | exact .inl ⟨rfl, hno.out⟩, one_below _ _⟩
  have d2 : decide (1073741824 < r.version) = false := decide_eq_false hv2
  have HV := Lib.hid (show 0 ≤ r.version ∧ r.version ≤ 1073741824 from ⟨by omega, by omega⟩)
  clear hv1 hv2
  go_enter Tryz.func37, Tryz.ntmps37
  go_wp2
  go_loopw [3] (fun i wr => ∃ k : Nat, k ≤ 8 ∧ i = .int .i64 k ∧ Box wr w.heap.size 33 (Ros.cells r) ∧ Below w.heap.size w wr ∧ (∀ j, j < k → Ros.OkSeat r j) ∧ ∀ j i, j < i → i < k → r.peer j = -1 ∨ r.peer j ≠ r.peer i) (fun i _ => 8 - (intOf i).toNat)
  case atStart => exact ⟨0, by omega, rfl, Box.made _ _ _, one_below _ _, fun j hj => absurd hj (Nat.not_lt_zero j), fun j i _ hi => absurd hi (Nat.not_lt_zero i)⟩
  case round =>
    obtain ⟨k, hk, rfl, hB, hb, hall, hp⟩ := hrel
    have HALL := Lib.hid hall
    have HP := Lib.hid hp
    clear hall hp d1 d2 h0 hc
    by_cases hlt : k < 8
    · have hk8 : (k : Int) < 8 := by omega
      have rc := hB.cell
      have hlB := hB.lt
      have rp := Ros.cells_peer r k hlt
      have rg := Ros.cells_gen r k hlt
      have HS := Lib.hid (show Ros.Ok r → (0 ≤ r.gen k ∧ r.gen k ≤ 60000) ∧ (r.peer k = -1 ∨ ((0 ≤ r.peer k ∧ r.peer k < 12) ∧ 0 < r.gen k)) from fun h => h.seat k hlt)
      have HZ := Lib.hid (show (0 ≤ r.gen k ∧ r.gen k ≤ 60000) ∧ (r.peer k = -1 ∨ ((0 ≤ r.peer k ∧ r.peer k < 12) ∧ 0 < r.gen k)) → ∀ j, j < k + 1 → Ros.OkSeat r j from fun h j hj => by
        by_cases e : j = k
        · rw [e]; exact h
        · exact HALL.out j (by omega))
      obtain ⟨p, hpk⟩ : ∃ p, p = r.peer k := ⟨_, rfl⟩
      obtain ⟨g, hgk⟩ : ∃ g, g = r.gen k := ⟨_, rfl⟩
      rw [← hpk] at rp HS HZ
      rw [← hgk] at rg HS HZ
      have HPK := Lib.hid hpk
      have HB := Lib.hid hB
      have HBB := Lib.hid hb
      clear hpk hgk hB hb HALL
      by_cases q0 : p < -1
      · have f0 : decide (p < -1) = true := decide_eq_true q0
        have hno := Lib.hid (show ¬ Ros.Ok r from fun h => by have := HS.out h; omega)
        clear HS HZ q0
        go_wp2
        go_ret
        exact ⟨by first | exact ⟨false, rfl, by simp; exact hno.out⟩ | exact .inl ⟨rfl, hno.out⟩, HBB.out.alloc (Nat.le_of_lt hlB) _⟩
      have f0 : decide (p < -1) = false := decide_eq_false q0
      by_cases q1 : 12 ≤ p
      · have f1 : decide (12 ≤ p) = true := decide_eq_true q1
        have hno := Lib.hid (show ¬ Ros.Ok r from fun h => by have := HS.out h; omega)
        clear HS HZ q0 q1
        go_wp2
        go_ret
        exact ⟨by first | exact ⟨false, rfl, by simp; exact hno.out⟩ | exact .inl ⟨rfl, hno.out⟩, HBB.out.alloc (Nat.le_of_lt hlB) _⟩
      have f1 : decide (12 ≤ p) = false := decide_eq_false q1
      by_cases q2 : g < 0
      · have f2 : decide (g < 0) = true := decide_eq_true q2
        have hno := Lib.hid (show ¬ Ros.Ok r from fun h => by have := HS.out h; omega)
        clear HS HZ q0 q1 q2
        go_wp2
        go_ret
        exact ⟨by first | exact ⟨false, rfl, by simp; exact hno.out⟩ | exact .inl ⟨rfl, hno.out⟩, HBB.out.alloc (Nat.le_of_lt hlB) _⟩
      have f2 : decide (g < 0) = false := decide_eq_false q2
      by_cases q3 : 60000 < g
      · have f3 : decide (60000 < g) = true := decide_eq_true q3
        have hno := Lib.hid (show ¬ Ros.Ok r from fun h => by have := HS.out h; omega)
        clear HS HZ q0 q1 q2 q3
        go_wp2
        go_ret
        exact ⟨by first | exact ⟨false, rfl, by simp; exact hno.out⟩ | exact .inl ⟨rfl, hno.out⟩, HBB.out.alloc (Nat.le_of_lt hlB) _⟩
      have f3 : decide (60000 < g) = false := decide_eq_false q3
      by_cases q4 : 0 ≤ p
      · have f4 : decide (0 ≤ p) = true := decide_eq_true q4
        by_cases q5 : g < 1
        · have f5 : decide (g < 1) = true := decide_eq_true q5
          have hno := Lib.hid (show ¬ Ros.Ok r from fun h => by have := HS.out h; omega)
          clear HS HZ q0 q1 q2 q3 q4 q5
          go_wp2
          go_ret
          exact ⟨by first | exact ⟨false, rfl, by simp; exact hno.out⟩ | exact .inl ⟨rfl, hno.out⟩, HBB.out.alloc (Nat.le_of_lt hlB) _⟩
        have f5 : decide (g < 1) = false := decide_eq_false q5
        have hnew := Lib.hid (HZ.out (by omega))
        clear HS HZ q0 q1 q2 q3 q5
        go_wp2
        go_loopw [5] (fun i wr2 => ∃ m : Nat, m ≤ k ∧ i = .int .i64 m ∧ Box wr2 w.heap.size 33 (Ros.cells r) ∧ Box wr2 wr.heap.size 30 #[.int .i64 p, .int .i64 g] ∧ Below w.heap.size w wr2 ∧ ∀ j, j < m → r.peer j = -1 ∨ r.peer j ≠ p) (fun i _ => k - (intOf i).toNat)
        case atStart => exact ⟨0, by omega, rfl, HB.out.alloc _, Box.made _ _ _, HBB.out.alloc (Nat.le_of_lt hlB) _, fun j hj => absurd hj (Nat.not_lt_zero j)⟩
        case round =>
          obtain ⟨m, hm, rfl, hB2, hS2, hb2, hall2⟩ := hrel
          have HALL2 := Lib.hid hall2
          clear hall2 rc rp rg
          by_cases hmk : m < k
          · have hm8 : m < 8 := by omega
            have hm8' : (m : Int) < 8 := by omega
            have hmk' : (m : Int) < k := by omega
            have rc := hB2.cell
            have sc := hS2.cell
            have rp := Ros.cells_peer r m hm8
            have s0 : (#[.int .i64 p, .int .i64 g] : Array Value)[0]? = some (.int .i64 p) := rfl
            obtain ⟨q, hq⟩ : ∃ q, q = r.peer m := ⟨_, rfl⟩
            rw [← hq] at rp
            have HB2 := Lib.hid hB2
            have HS2 := Lib.hid hS2
            have HBB2 := Lib.hid hb2
            by_cases hqp : q = p
            · have hqe : (q == p) = true := by simpa using hqp
              have hno := Lib.hid (show ¬ Ros.Ok r from fun h => by
                have := (Ros.ok_iff.1 h).2.2 m k hmk hlt
                rw [← hq, ← HPK.out] at this
                omega)
              clear hq hqp hB2 hS2 hb2 q4
              go_upto_region 12 with fail
              go_quiet (fail)
              go_wp2
              go_ret
              exact ⟨by first | exact ⟨false, rfl, by simp; exact hno.out⟩ | exact .inl ⟨rfl, hno.out⟩, draws_below HBB2.out _⟩
            have hqe : (q == p) = false := by simpa using hqp
            have hn2 := Lib.hid (show ∀ j, j < m + 1 → r.peer j = -1 ∨ r.peer j ≠ p from fun j hj => by
              by_cases e : j = m
              · rw [e, ← hq]; exact .inr hqp
              · exact HALL2.out j (by omega))
            clear hq hB2 hS2 hb2 hqp q4
            go_upto_region 12 with fail
            go_quiet (fail)
            go_wp2
            go_roundw
            case rel => exact ⟨m + 1, by omega, by go_num, HB2.out.draws _, HS2.out.draws _, draws_below HBB2.out _, hn2.out⟩
            case measure => simp [intOf]; omega
          · have hmk' : ¬ (m : Int) < k := by omega
            have HB2 := Lib.hid hB2
            have HBB2 := Lib.hid hb2
            have hall3 := Lib.hid (show ∀ j i, j < i → i < k + 1 → r.peer j = -1 ∨ r.peer j ≠ r.peer i from fun j i hji hi => by
              by_cases e : i = k
              · rw [e, ← HPK.out]; exact HALL2.out j (by omega)
              · exact HP.out j i hji (by omega))
            clear hB2 hS2 hb2
            go_wp2
            go_roundw
            case rel => exact ⟨k + 1, by omega, by go_num, HB2.out, HBB2.out, hnew.out, hall3.out⟩
            case measure => simp [intOf]; omega
      · have f4 : decide (0 ≤ p) = false := decide_eq_false q4
        have hpm := Lib.hid (show p = -1 by omega)
        have hnew := Lib.hid (HZ.out (by omega))
        clear HS HZ q0 q1 q2 q3 
        go_wp2
        go_loopw [5] (fun i wr2 => ∃ m : Nat, m ≤ k ∧ i = .int .i64 m ∧ Box wr2 w.heap.size 33 (Ros.cells r) ∧ Box wr2 wr.heap.size 30 #[.int .i64 p, .int .i64 g] ∧ Below w.heap.size w wr2 ∧ ∀ j, j < m → r.peer j = -1 ∨ r.peer j ≠ p) (fun i _ => k - (intOf i).toNat)
        case atStart => exact ⟨0, by omega, rfl, HB.out.alloc _, Box.made _ _ _, HBB.out.alloc (Nat.le_of_lt hlB) _, fun j hj => absurd hj (Nat.not_lt_zero j)⟩
        case round =>
          obtain ⟨m, hm, rfl, hB2, hS2, hb2, hall2⟩ := hrel
          have HALL2 := Lib.hid hall2
          clear hall2 rc rp rg
          by_cases hmk : m < k
          · have hm8 : m < 8 := by omega
            have hm8' : (m : Int) < 8 := by omega
            have hmk' : (m : Int) < k := by omega
            have rc := hB2.cell
            have sc := hS2.cell
            have rp := Ros.cells_peer r m hm8
            have s0 : (#[.int .i64 p, .int .i64 g] : Array Value)[0]? = some (.int .i64 p) := rfl
            obtain ⟨q, hq⟩ : ∃ q, q = r.peer m := ⟨_, rfl⟩
            rw [← hq] at rp
            have HB2 := Lib.hid hB2
            have HS2 := Lib.hid hS2
            have HBB2 := Lib.hid hb2
            have hn2 := Lib.hid (show ∀ j, j < m + 1 → r.peer j = -1 ∨ r.peer j ≠ p from fun j hj => by
              by_cases e : j = m
              · rw [e, ← hq]; first | (by_cases e2 : q = -1; exact .inl e2; exact .inr (fun e3 => e2 (by have := hpm.out; omega)))
              · exact HALL2.out j (by omega))
            clear hq hB2 hS2 hb2 q4
            go_upto_region 12 with fail
            go_quiet (fail)
            go_wp2
            go_roundw
            case rel => exact ⟨m + 1, by omega, by go_num, HB2.out.draws _, HS2.out.draws _, draws_below HBB2.out _, hn2.out⟩
            case measure => simp [intOf]; omega
          · have hmk' : ¬ (m : Int) < k := by omega
            have HB2 := Lib.hid hB2
            have HBB2 := Lib.hid hb2
            have hall3 := Lib.hid (show ∀ j i, j < i → i < k + 1 → r.peer j = -1 ∨ r.peer j ≠ r.peer i from fun j i hji hi => by
              by_cases e : i = k
              · rw [e, ← HPK.out]; exact HALL2.out j (by omega)
              · exact HP.out j i hji (by omega))
            clear hB2 hS2 hb2
            go_wp2
            go_roundw
            case rel => exact ⟨k + 1, by omega, by go_num, HB2.out, HBB2.out, hnew.out, hall3.out⟩
            case measure => simp [intOf]; omega
    · have hk8 : ¬ (k : Int) < 8 := by omega
      have hyes := Lib.hid (show Ros.Ok r from Ros.ok_iff.2 ⟨HV.out, fun j hj => HALL.out j (by omega), fun j i hji hi => HP.out j i hji (by omega)⟩)
      have HBB := Lib.hid hb
      clear hB hb
      go_wp2
      go_ret
      exact ⟨by first | exact ⟨true, rfl, by simp; exact hyes.out⟩ | exact .inr ⟨rfl, hyes.out⟩, HBB.out⟩
end Go.Proofs.YtiahpncglpfjeaaGreat
namespace Go.Proofs.YtiahpncglpfjeaaGreat
open Go.RowKit Go.Shelf
set_option linter.unusedVariables false
set_option linter.unusedSimpArgs false

set_option maxRecDepth 100000 in
set_option maxHeartbeats 4000000 in
theorem refstate_any (g : Gm.G) (r : Ros.R) (A : Option Addr) (n c : Nat) (w : World) (hty : Gm.ty g) (hn : n = g.shots.length) (hn63 : n ≤ maxLen) (hr : Lies w w.heap.size 6 A n (Gm.shotCells g.shots)) :
    Calls Tryz.prog 15 #[.agg (Im.cells g (.slice A n c) r)] w fun e w' => (∃ v, e = .returned (.bool v) ∧ (v = true ↔ Im.Ok g r)) ∧ Below w.heap.size w w' := by
  have P0 := Lib.hid (Box.made w 35 (Im.cells g (.slice A n c) r))
  have K0 := Lib.hid (one_below w (.cells (Im.cells g (.slice A n c) r) 35))
  have HQ := Lib.hid ((hr.below K0.out).wider K0.out.size)
  have cg := fun X hX => Lib.hid (refmay_any g A n c X hty hn hn63 hX)
  have cr := fun X => Lib.hid (refros_may r X)
  clear hr hn hty hn63
  by_cases hg : Gm.ok g
  · have HG := Lib.hid hg
    by_cases hok : Ros.Ok r
    · have HR := Lib.hid hok
      clear hg hok
      go_enter Tryz.func15, Tryz.ntmps15
      go_wp2_with (first | ((with_reducible refine im_load_game rfl rfl ?_); apply LoadIm.mk rfl; (focus (with_reducible exact P0.out)); dsimp only) | ((with_reducible refine im_load_ros_g ?_ rfl ?_); (focus first | rfl | kernel_rfl | simp [Region.wanted, yielded]); apply LoadIm.mk rfl; (focus (with_reducible exact P1.out)); dsimp only) | (go_at_call 36; ((with_reducible refine ((cg _ HQ.out).out).mono ?_); rintro e w1 ⟨⟨v1, rfl, hv1⟩, hb⟩; obtain rfl : v1 = true := hv1.2 HG.out; have P1 := Lib.hid (P0.out.below hb P0.out.lt); have K1 := Lib.hid (K0.out.trans (hb.mono K0.out.size)); clear hb hv1)) | (go_at_call 37; ((with_reducible refine ((cr _).out).mono ?_); rintro e w2 ⟨⟨v2, rfl, hv2⟩, hb⟩; obtain rfl : v2 = true := hv2.2 HR.out; have P2 := Lib.hid (P1.out.below hb P1.out.lt); have K2 := Lib.hid (K1.out.trans (hb.mono K1.out.size)); clear hb hv2)))
      go_loopw [3] (fun i wr => ∃ k : Nat, k ≤ 8 ∧ i = .int .i64 k ∧ Box wr w.heap.size 35 (Im.cells g (.slice A n c) r) ∧ Below w.heap.size w wr ∧ ∀ j, j < k → (g.ship j).on = decide (0 ≤ r.peer j)) (fun i _ => 8 - (intOf i).toNat)
      case atStart => exact ⟨0, by omega, rfl, P2.out, K2.out, fun j hj => absurd hj (Nat.not_lt_zero j)⟩
      case round =>
        obtain ⟨k, hk, rfl, hB, hb, hall⟩ := hrel
        clear P0 K0 P1 K1 P2 K2 HQ cg cr
        by_cases hlt : k < 8
        · have hk8 : (k : Int) < 8 := by omega
          have e0 : wr.cell? ⟨w.heap.size, 2 + k * 7, none⟩ = some (.bool (g.ship k).on) := (hB.cell _).trans ((Im.cells_ship g _ r k 0 hlt (by omega)).trans rfl)
          have e1 : wr.cell? ⟨w.heap.size, 60 + k * 2, none⟩ = some (.int .i64 (r.peer k)) := (hB.cell _).trans (by
            have := Im.cells_r g (.slice A n c) r (1 + k * 2)
            rw [show 60 + k * 2 = 59 + (1 + k * 2) by omega]
            exact this.trans (Ros.cells_peer r k hlt))
          obtain ⟨on, hon⟩ : ∃ on, on = (g.ship k).on := ⟨_, rfl⟩
          obtain ⟨pk, hpk⟩ : ∃ pk, pk = r.peer k := ⟨_, rfl⟩
          rw [← hon] at e0
          rw [← hpk] at e1
          have HON := Lib.hid hon
          have HPK := Lib.hid hpk
          have HALL := Lib.hid hall
          have HB := Lib.hid hB
          have HBB := Lib.hid hb
          clear hon hpk hall hB hb
          by_cases hm : on = decide (0 ≤ pk)
          · have hnew := Lib.hid (show ∀ j, j < k + 1 → (g.ship j).on = decide (0 ≤ r.peer j) from fun j hj => by
              by_cases e : j = k
              · rw [e, ← HON.out, ← HPK.out]; exact hm
              · exact HALL.out j (by omega))
            cases hd : decide (0 ≤ pk)
            · rw [hd] at hm
              subst hm
              go_upto_region 6 with fail
              go_quiet (fail)
              go_wp2
              go_roundw
              case rel => exact ⟨k + 1, by omega, by go_num, HB.out.draws _, draws_below HBB.out _, hnew.out⟩
              case measure => simp [intOf]; omega
            · rw [hd] at hm
              subst hm
              go_upto_region 6 with fail
              go_quiet (fail)
              go_wp2
              go_roundw
              case rel => exact ⟨k + 1, by omega, by go_num, HB.out.draws _, draws_below HBB.out _, hnew.out⟩
              case measure => simp [intOf]; omega
          · have hno := Lib.hid (show ¬ Im.Ok g r from fun h => hm (by rw [HON.out, HPK.out]; exact h.2.2 k hlt))
            cases hd : decide (0 ≤ pk)
            · obtain rfl : on = true := by
                cases on
                · exact absurd hd.symm hm
                · rfl
              clear hm
              go_upto_region 6 with fail
              go_quiet (fail)
              go_wp2
              go_ret
              exact ⟨by first | exact ⟨false, rfl, by simp; exact hno.out⟩ | exact .inl ⟨rfl, hno.out⟩, draws_below HBB.out _⟩
            · obtain rfl : on = false := by
                cases on
                · rfl
                · exact absurd hd.symm hm
              clear hm
              go_upto_region 6 with fail
              go_quiet (fail)
              go_wp2
              go_ret
              exact ⟨by first | exact ⟨false, rfl, by simp; exact hno.out⟩ | exact .inl ⟨rfl, hno.out⟩, draws_below HBB.out _⟩
        · have hk8 : ¬ (k : Int) < 8 := by omega
          have hyes := Lib.hid (show Im.Ok g r from ⟨HG.out, HR.out, fun j hj => hall j (by omega)⟩)
          have HBB := Lib.hid hb
          clear hall hB hb
          go_wp2
          go_ret
          exact ⟨by first | exact ⟨true, rfl, by simp; exact hyes.out⟩ | exact .inr ⟨rfl, hyes.out⟩, HBB.out⟩
    · have HR := Lib.hid hok
      have hno := Lib.hid (show ¬ Im.Ok g r from fun h => hok h.2.1)
      clear hg hok
      go_enter Tryz.func15, Tryz.ntmps15
      go_wp2_with (first | ((with_reducible refine im_load_game rfl rfl ?_); apply LoadIm.mk rfl; (focus (with_reducible exact P0.out)); dsimp only) | ((with_reducible refine im_load_ros_g ?_ rfl ?_); (focus first | rfl | kernel_rfl | simp [Region.wanted, yielded]); apply LoadIm.mk rfl; (focus (with_reducible exact P1.out)); dsimp only) | (go_at_call 36; ((with_reducible refine ((cg _ HQ.out).out).mono ?_); rintro e w1 ⟨⟨v1, rfl, hv1⟩, hb⟩; obtain rfl : v1 = true := hv1.2 HG.out; have P1 := Lib.hid (P0.out.below hb P0.out.lt); have K1 := Lib.hid (K0.out.trans (hb.mono K0.out.size)); clear hb hv1)) | (go_at_call 37; ((with_reducible refine ((cr _).out).mono ?_); rintro e w2 ⟨⟨v2, rfl, hv2⟩, hb⟩; obtain rfl : v2 = false := (by cases v2 <;> first | rfl | exact absurd (hv2.1 rfl) HR.out); have P2 := Lib.hid (P1.out.below hb P1.out.lt); have K2 := Lib.hid (K1.out.trans (hb.mono K1.out.size)); clear hb hv2)))
      go_ret
      exact ⟨by first | exact ⟨false, rfl, by simp; exact hno.out⟩ | exact .inl ⟨rfl, hno.out⟩, K2.out⟩
  · have HG := Lib.hid hg
    have hno := Lib.hid (show ¬ Im.Ok g r from fun h => hg h.1)
    have HR := Lib.hid True.intro
    clear hg
    go_enter Tryz.func15, Tryz.ntmps15
    go_wp2_with (first | ((with_reducible refine im_load_game rfl rfl ?_); apply LoadIm.mk rfl; (focus (with_reducible exact P0.out)); dsimp only) | ((with_reducible refine im_load_ros_g ?_ rfl ?_); (focus first | rfl | kernel_rfl | simp [Region.wanted, yielded]); apply LoadIm.mk rfl; (focus (with_reducible exact P1.out)); dsimp only) | (go_at_call 36; ((with_reducible refine ((cg _ HQ.out).out).mono ?_); rintro e w1 ⟨⟨v1, rfl, hv1⟩, hb⟩; obtain rfl : v1 = false := (by cases v1 <;> first | rfl | exact absurd (hv1.1 rfl) HG.out); have P1 := Lib.hid (P0.out.below hb P0.out.lt); have K1 := Lib.hid (K0.out.trans (hb.mono K0.out.size)); clear hb hv1)) | (go_at_call 37; ((with_reducible refine ((cr _).out).mono ?_); rintro e w2 ⟨⟨v2, rfl, hv2⟩, hb⟩; obtain rfl : v2 = false := (by cases v2 <;> first | rfl | exact absurd (hv2.1 rfl) HR.out); have P2 := Lib.hid (P1.out.below hb P1.out.lt); have K2 := Lib.hid (K1.out.trans (hb.mono K1.out.size)); clear hb hv2)))
    go_ret
    exact ⟨by first | exact ⟨false, rfl, by simp; exact hno.out⟩ | exact .inl ⟨rfl, hno.out⟩, K1.out⟩

end Go.Proofs.YtiahpncglpfjeaaGreat
namespace Go.Proofs.YtiahpncglpfjeaaGreat
open Go.RowKit Go.Shelf
set_option linter.unusedVariables false
set_option linter.unusedSimpArgs false


section
variable {ops : Array Oper} {rest : List Oper} {o : Oper} {a : Act} {w : World} {Q : Exit → Act → World → Prop} {x y : Operand} {dst : Option Tmp} {p v : Value}
/-- What the store of an entry's input wants. -/
def StoreIn (ops : Array Oper) (Q : Exit → Act → World → Prop) (rest : List Oper) (dst : Option Tmp) (p v : Value) (a : Act) (w : World) : Prop :=
  ∃ (B i : Nat) (e : En.E) (s : Value) (u : Gm.In), p = .pointer (some ⟨B, 2 + i * 3, none⟩) ∧ v = .agg #[.int .i8 u.x, .int .i8 u.y, .int .u8 u.b] ∧ i < 8 ∧ Box w B 42 (En.cells e s) ∧ wpList Tryz.prog ops Q rest (a.put dst undef) (w.setRow B (En.cells { e with inp := En.upd e.inp i u } s))
theorem StoreIn.mk {B i : Nat} {e : En.E} {s : Value} {u : Gm.In} (hp : p = .pointer (some ⟨B, 2 + i * 3, none⟩)) (hv : v = .agg #[.int .i8 u.x, .int .i8 u.y, .int .u8 u.b]) (hi : i < 8) (hB : Box w B 42 (En.cells e s)) (h : wpList Tryz.prog ops Q rest (a.put dst undef) (w.setRow B (En.cells { e with inp := En.upd e.inp i u } s))) : StoreIn ops Q rest dst p v a w := ⟨B, i, e, s, u, hp, hv, hi, hB, h⟩
theorem en_no32 (e : En.E) (A' : Option Addr) (m' c' j : Nat) (x : Int) : (En.cells e (.slice A' m' c'))[j + 1]? ≠ some (.int .i32 x) := by
  intro h
  match j with
  | 0 => simp [En.cells] at h
  | j + 1 =>
    have h2 : (Gm.insCells e.inp)[j]? = some (.int .i32 x) := by
      have : (En.cells e (.slice A' m' c'))[2 + j]? = (Gm.insCells e.inp)[j]? := by
        unfold En.cells
        rw [List.getElem?_toArray, List.getElem?_append_right (by simp)]
        simp
      rw [← this, ← h]; congr 1; omega
    have hm := List.mem_of_getElem? h2
    simp only [Gm.insCells, Gm.In.cells, List.mem_append, List.mem_cons, List.not_mem_nil, or_false] at hm
    rcases hm with hv | hv | hv | hv | hv | hv | hv | hv <;> (rcases hv with hv | hv | hv <;> cases hv)
/-- A list of shots lies in no block that holds an entry. -/
theorem Lies.off_row {w : World} {n B BE : Nat} {A : Option Addr} {l : List Gm.Shot} {e : En.E} {A' : Option Addr} {m' c' : Nat} (h : Lies w B 6 A n (Gm.shotCells l)) (hn : n = l.length) (hE : Box w BE 42 (En.cells e (.slice A' m' c'))) (cs : Array Value) : Lies (w.setRow BE cs) B 6 A n (Gm.shotCells l) := by
  refine ⟨h.len, h.start, fun ad e0 h0 j u hu => ?_⟩
  have hne : ad.block ≠ BE := fun eb => by
    subst hn
    have hlt : 0 < l.length := by omega
    have hc := h.cell ad e0 h0
    have e1 := hc 1 (.int .i32 l[0].x) (by have := Gm.shotCells_at l 0 1 hlt (by omega); simpa [Gm.Shot.cells] using this)
    rw [show ad.add 1 = ⟨ad.block, ad.off + 1, none⟩ from rfl, eb, hE.cell] at e1
    exact absurd e1 (en_no32 e _ _ _ _ _)
  rw [World.cell?_of_block (w := w) (by rw [add_block]; exact setRow_other w BE _ cs hne)]
  exact h.cell ad e0 h0 j u hu
theorem en_splice (e : En.E) (s : Value) (i : Nat) (hi : i < 8) (u : Gm.In) : splice (En.cells e s) (2 + i * 3) [.int .i8 u.x, .int .i8 u.y, .int .u8 u.b] = En.cells { e with inp := En.upd e.inp i u } s := by
  match i, hi with
  | 0, _ | 1, _ | 2, _ | 3, _ | 4, _ | 5, _ | 6, _ | 7, _ => rfl
theorem en_store_in (hgd : o.guard = none) (ho : o.op = .store 39 x y) (h : StoreIn ops Q rest o.dst (a.eval x) (a.eval y) a w) : wpList Tryz.prog ops Q (o :: rest) a w := by
  obtain ⟨B, i, e, s, u, hx, hy, hi, hB, h⟩ := h
  refine wpList_store_mid hgd 39 x y ho B (2 + i * 3) #[.int .i8 u.x, .int .i8 u.y, .int .u8 u.b] hx hy (hB.there _ _ (by rw [En.cells_size]; show 2 + i * 3 + 3 ≤ 26; omega)) in_info (by simp [Value.oneCell']) ?_
  rw [setCells_row B 42 _ (2 + i * 3) (En.cells e s) w hB.is (by rw [En.cells_size]; show 2 + i * 3 + 3 ≤ 26; omega), en_splice e s i hi u]
  exact h
end

theorem seat_eql' (a b c d : Int) (w : World) : (binOp .eql 30 (.agg #[.int .i64 a, .int .i64 b]) (.agg #[.int .i64 c, .int .i64 d])).run Tryz.prog w = .ok (.bool (decide (a = c ∧ b = d))) w := seat_eql a b c d w
set_option maxRecDepth 100000 in
set_option maxHeartbeats 4000000 in
theorem inputs10_told (seed : ByteArray) (slot x y b : Int) (w : World) (hq : 20 < seed.size ∨ (En.zero ⟨x, y, b⟩ = true ∨ (x = -128 ∨ y = -128))) (hsz : seed.size ≤ maxLen) :
    Calls Tryz.prog 7 #[.string seed, .int .i64 slot, .agg #[.int .i8 x, .int .i8 y, .int .u8 b]] w fun e w' => e = .returned (.bool true) ∧ Below w.heap.size w w' := by
  have P0 := Lib.hid (Box.made w 39 #[.int .i8 x, .int .i8 y, .int .u8 b])
  have K0 := Lib.hid (one_below w (.cells #[.int .i8 x, .int .i8 y, .int .u8 b] 39))
  have ct := fun X => Lib.hid (told10_any X)
  have hz := fun W => in_eql x y b W
  have k0 := P0.out.cell 0
  have k1 := P0.out.cell 1
  have k2 := P0.out.cell 2
  simp only [List.getElem?_toArray, List.getElem?_cons_zero, List.getElem?_cons_succ] at k0 k1 k2
  by_cases h20 : seed.size ≤ 20
  · have hs : (seed.size : Int) ≤ 20 := by omega
    have hq1 := hq.resolve_left (by omega)
    clear hq hsz
    cases hzz : En.zero ⟨x, y, b⟩
    · rw [hzz] at hz hq1
      have hq2 := hq1.resolve_left (by simp)
      clear hq1
      by_cases hx : x = -128
      · subst hx
        clear hq2 hzz
        go_enter Tryz.func7, Tryz.ntmps7
        go_wp2_with (go_at_call 11; ((with_reducible refine ((ct _).out).mono ?_); rintro e w1 ⟨rfl, hb⟩; have K1 := Lib.hid (K0.out.trans (hb.mono K0.out.size)); clear hb))
        go_ret
        exact ⟨rfl, K1.out⟩
      · have hx' : (x == -128) = false := by simpa using hx
        obtain rfl : y = -128 := hq2.resolve_left hx
        clear hq2 hzz
        go_enter Tryz.func7, Tryz.ntmps7
        go_wp2_with (go_at_call 11; ((with_reducible refine ((ct _).out).mono ?_); rintro e w1 ⟨rfl, hb⟩; have K1 := Lib.hid (K0.out.trans (hb.mono K0.out.size)); clear hb))
        go_ret
        exact ⟨rfl, K1.out⟩
    · rw [hzz] at hz
      clear hq1 hzz
      go_enter Tryz.func7, Tryz.ntmps7
      go_wp2_with (go_at_call 11; ((with_reducible refine ((ct _).out).mono ?_); rintro e w1 ⟨rfl, hb⟩; have K1 := Lib.hid (K0.out.trans (hb.mono K0.out.size)); clear hb))
      go_ret
      exact ⟨rfl, K1.out⟩
  · have hs : (20 : Int) < seed.size := by omega
    clear hq hsz hz
    go_enter Tryz.func7, Tryz.ntmps7
    go_wp2_with (go_at_call 11; ((with_reducible refine ((ct _).out).mono ?_); rintro e w1 ⟨rfl, hb⟩; have K1 := Lib.hid (K0.out.trans (hb.mono K0.out.size)); clear hb))
    go_ret
    exact ⟨rfl, K1.out⟩

set_option maxRecDepth 100000 in
set_option maxHeartbeats 8000000 in
theorem inputs10_main (seed : ByteArray) (slot x y b : Int) (w : World) (hsz : seed.size ≤ 20) (hz : En.zero ⟨x, y, b⟩ = false) (hx : x ≠ -128) (hy : y ≠ -128) (ws : -9223372036854775808 ≤ slot ∧ slot ≤ 9223372036854775807) (wx : -128 ≤ x ∧ x ≤ 127) (wy : -128 ≤ y ∧ y ≤ 127) (wb : 0 ≤ b ∧ b ≤ 255) :
    Calls Tryz.prog 7 #[.string seed, .int .i64 slot, .agg #[.int .i8 x, .int .i8 y, .int .u8 b]] w fun e w' => e = .returned (.bool true) ∧ Below w.heap.size w w' := by
  have P0 := Lib.hid (Box.made w 39 #[.int .i8 x, .int .i8 y, .int .u8 b])
  have K0 := Lib.hid (one_below w (.cells #[.int .i8 x, .int .i8 y, .int .u8 b] 39))
  have ct := fun X => Lib.hid (told10_any X)
  have hze := fun W => in_eql x y b W
  rw [hz] at hze
  have hs : (seed.size : Int) ≤ 20 := by omega
  have hx' : (x == -128) = false := by simpa using hx
  have hy' : (y == -128) = false := by simpa using hy
  have cst := fun X => Lib.hid (foldstart_any seed X (by unfold maxLen; omega))
  have hd := Dn.seed_bd seed.data.toList
  generalize Dn.seed seed.data.toList = d at cst hd
  have HD := Lib.hid hd
  have ty0 := Lib.hid (start_new d hd)
  obtain ⟨k, hk8, hkk⟩ : ∃ k : Nat, k < 8 ∧ (k : Int) = slot % 8 := ⟨(slot % 8).toNat, by omega, by omega⟩
  have hq : wrap64 ((IntKind.u64.wrap slot).tmod 8) = (k : Int) := by
    rw [wrap_u64', Int.tmod_eq_emod_of_nonneg (by omega), IntWalk.wrap64_in _ (by omega)]
    omega
  have k8' : (k : Int) < 8 := by omega
  have ty1 : Gm.tyIn ⟨x, y, b⟩ := by unfold Gm.tyIn; dsimp only; omega
  have ok1 : En.inOk ⟨x, y, b⟩ := by unfold En.inOk; dsimp only; omega
  have TYU := Lib.hid (upd_tyin k ⟨x, y, b⟩ ty1)
  have OKU := Lib.hid (show ∀ i, i < 8 → En.inOk ((En.upd Fd.in0 k ⟨x, y, b⟩) i) from fun i hi => by
    unfold En.upd; split
    · exact ok1
    · exact Fd.zero_ok rfl)
  have ZU := Lib.hid (show En.zero ((En.upd Fd.in0 k ⟨x, y, b⟩) k) = false from by rw [En.upd_same]; exact hz)
  have ZO := Lib.hid (show ∀ i, i < 8 → i ≠ k → En.zero ((En.upd Fd.in0 k ⟨x, y, b⟩) i) = true from fun i hi hne => by rw [En.upd_other _ _ hne]; rfl)
  have HK := Lib.hid hk8
  clear hkk hsz hz hx hy hd ty1 ok1 ws wx wy wb
  go_enter Tryz.func7, Tryz.ntmps7
  go_upto_region 5 with (first | (go_at_call 20; ((with_reducible refine ((cst _).out).mono ?_); rintro x9 w1 ⟨rfl, hb⟩; have S1 := Lib.hid (Box.made w1 35 (Im.cells (Gm.new d) (.slice none 0 0) Ros.new)); have P1 := Lib.hid ((P0.out.below hb P0.out.lt).alloc (.cells (Im.cells (Gm.new d) (.slice none 0 0) Ros.new) 35)); have K1 := Lib.hid ((K0.out.trans (hb.mono K0.out.size)).alloc (Nat.le_trans K0.out.size hb.size) (.cells (Im.cells (Gm.new d) (.slice none 0 0) Ros.new) 35)); clear hb)) | (with_reducible refine alloc_state rfl rfl ?_) | (with_reducible refine im_store_new rfl rfl rfl rfl Im.zero_size rfl ?_))
  generalize hW1 : w1.alloc (.cells (Im.cells (Gm.new d) (.slice none 0 0) Ros.new) 35) = W1 at S1 P1 K1 ⊢
  generalize w1.heap.size = b1 at S1 ⊢
  have E2 := Lib.hid (Box.made W1 42 (En.cells (⟨0, [], Fd.in0⟩ : En.E) (.slice none 0 0)))
  have D2 := one_below W1 (.cells (En.cells (⟨0, [], Fd.in0⟩ : En.E) (.slice none 0 0)) 42)
  have S2 := Lib.hid (S1.out.below D2 S1.out.lt)
  have P2 := Lib.hid (P1.out.below D2 P1.out.lt)
  have K2 := Lib.hid (K1.out.trans (D2.mono K1.out.size))
  have HBE := Lib.hid K1.out.size
  clear D2 S1 P1 K1 hW1 P0 K0
  go_upto_region 6 with (first | (refine wpList_build_is rfl (t := 42) (vs := []) rfl rfl (en_built_none) ?_) | (with_reducible refine alloc_en rfl rfl ?_) | (with_reducible refine en_store_new rfl rfl rfl rfl En.zeroC_size rfl ?_))
  try simp only [World.size_alloc]
  generalize hW2 : W1.alloc (.cells (En.cells (⟨0, [], Fd.in0⟩ : En.E) (.slice none 0 0)) 42) = W2 at E2 S2 P2 K2 ⊢
  generalize W1.heap.size = be at E2 HBE ⊢
  have p0 := P2.out.cell 0
  have p1 := P2.out.cell 1
  have p2 := P2.out.cell 2
  simp only [List.getElem?_toArray, List.getElem?_cons_zero, List.getElem?_cons_succ] at p0 p1 p2
  have E3 := Lib.hid (E2.out.row (En.cells (⟨0, [], (En.upd Fd.in0 k ⟨x, y, b⟩)⟩ : En.E) (.slice none 0 0)))
  have S3 := Lib.hid (S2.out.row_far (Box.apart S2.out E2.out (by decide)) (En.cells (⟨0, [], (En.upd Fd.in0 k ⟨x, y, b⟩)⟩ : En.E) (.slice none 0 0)))
  have P3 := Lib.hid (P2.out.row_far (Box.apart P2.out E2.out (by decide)) (En.cells (⟨0, [], (En.upd Fd.in0 k ⟨x, y, b⟩)⟩ : En.E) (.slice none 0 0)))
  have K3 := Lib.hid (Below.setRow' K2.out HBE.out (En.cells (⟨0, [], (En.upd Fd.in0 k ⟨x, y, b⟩)⟩ : En.E) (.slice none 0 0)))
  go_upto_region 7 with ((with_reducible refine en_store_in rfl rfl ?_); apply StoreIn.mk (u := ⟨x, y, b⟩) rfl rfl HK.out; (focus (with_reducible exact E2.out)); dsimp only)
  generalize hW3 : W2.setRow be (En.cells (⟨0, [], (En.upd Fd.in0 k ⟨x, y, b⟩)⟩ : En.E) (.slice none 0 0)) = W3 at E3 S3 P3 K3
  clear E2 S2 P2 K2 hW3 hW2 p0 p1 p2
  have ca1 := fun X => Lib.hid (show Calls Tryz.prog 12 #[.agg (Im.cells (Gm.new d) (.slice none 0 0) Ros.new), .agg (En.cells (⟨0, [], (En.upd Fd.in0 k ⟨x, y, b⟩)⟩ : En.E) (.slice none 0 0))] X (SOut (Gm.new d) Ros.new 1 X) from
    foldapply_none (Fd.start d) (⟨0, [], (En.upd Fd.in0 k ⟨x, y, b⟩)⟩ : En.E) none none 0 0 0 0 X ty0.out (by decide) rfl Lies.none_ rfl (by decide) Lies.none_ TYU.out (Fd.start_busy HK.out ZU.out 0 [] rfl))
  go_upto_region 8 with (first | ((with_reducible refine im_load_state rfl rfl ?_); apply LoadIm.mk rfl; (focus first | (with_reducible exact S3.out)); dsimp only) | ((with_reducible refine en_load rfl rfl ?_); apply LoadEn.mk rfl; (focus first | (with_reducible exact E3.out)); dsimp only) | (go_at_call 12; ((with_reducible refine ((ca1 _).out).mono ?_); rintro x9 w3 ⟨A4, cA4, rfl, hL, hb⟩; have S4 := Lib.hid ((S3.out.below hb S3.out.lt).alloc (.cells (Im.cells (Gm.new d) (.slice A4 (Gm.new d).shots.length cA4) Ros.new) 35)); have E4 := Lib.hid ((E3.out.below hb E3.out.lt).alloc (.cells (Im.cells (Gm.new d) (.slice A4 (Gm.new d).shots.length cA4) Ros.new) 35)); have P4 := Lib.hid ((P3.out.below hb P3.out.lt).alloc (.cells (Im.cells (Gm.new d) (.slice A4 (Gm.new d).shots.length cA4) Ros.new) 35)); have K4 := Lib.hid ((K3.out.trans (hb.mono K3.out.size)).alloc (Nat.le_trans K3.out.size hb.size) (.cells (Im.cells (Gm.new d) (.slice A4 (Gm.new d).shots.length cA4) Ros.new) 35)); have B4 := Lib.hid (Box.made w3 35 (Im.cells (Gm.new d) (.slice A4 (Gm.new d).shots.length cA4) Ros.new)); have L4 := Lib.hid (hL.call (one_below w3 (.cells (Im.cells (Gm.new d) (.slice A4 (Gm.new d).shots.length cA4) Ros.new) 35))); clear hb hL)) | (with_reducible refine alloc_state rfl rfl ?_) | (with_reducible refine im_store_new rfl rfl rfl rfl Im.zero_size rfl ?_))
  generalize hWn : w3.alloc (.cells (Im.cells (Gm.new d) (.slice A4 (Gm.new d).shots.length cA4) Ros.new) 35) = W4 at S4 E4 P4 L4 B4 K4 ⊢
  generalize w3.heap.size = b4 at B4 ⊢
  clear hWn
  clear S3 E3 P3 K3 ca1 B4 L4
  obtain ⟨bv, hbv⟩ : ∃ bv, bv = W4.heap.size := ⟨_, rfl⟩
  have E5 := E4.out.alloc (.cells #[.int .i64 1, .int .i64 (k : Int), .int .i64 1, .int .i64 5] 61)
  have e1 := (E5.cell 1).trans (En.cells_1 _ _)
  have f1 := E5.free 1
  have E6 := Lib.hid (show Box ((W4.alloc (.cells #[.int .i64 1, .int .i64 (k : Int), .int .i64 1, .int .i64 5] 61)).setCell ⟨be, 1, none⟩ (.slice (some ⟨bv, 0, none⟩) 1 1)) be 42 (En.cells (Fd.eJ k 5 (En.upd Fd.in0 k ⟨x, y, b⟩)) (.slice (some ⟨bv, 0, none⟩) 1 1)) from En.cells_evs (⟨0, [], (En.upd Fd.in0 k ⟨x, y, b⟩)⟩ : En.E) (.slice none 0 0) (.slice (some ⟨bv, 0, none⟩) 1 1) ▸ E5.put 1 (.slice (some ⟨bv, 0, none⟩) 1 1))
  have S6 := Lib.hid ((S4.out.alloc (.cells #[.int .i64 1, .int .i64 (k : Int), .int .i64 1, .int .i64 5] 61)).far (p := ⟨be, 1, none⟩) (Box.apart S4.out E4.out (by decide)) (.slice (some ⟨bv, 0, none⟩) 1 1))
  have P6 := Lib.hid ((P4.out.alloc (.cells #[.int .i64 1, .int .i64 (k : Int), .int .i64 1, .int .i64 5] 61)).far (p := ⟨be, 1, none⟩) (Box.apart P4.out E4.out (by decide)) (.slice (some ⟨bv, 0, none⟩) 1 1))
  have V6 := Lib.hid ((Box.made_at (n := bv) W4 61 #[.int .i64 1, .int .i64 (k : Int), .int .i64 1, .int .i64 5] hbv).far (p := ⟨be, 1, none⟩) (show bv ≠ be from fun e => by have := E4.out.lt; omega) (.slice (some ⟨bv, 0, none⟩) 1 1))
  have K6 := Lib.hid ((K4.out.alloc K4.out.size (.cells #[.int .i64 1, .int .i64 (k : Int), .int .i64 1, .int .i64 5] 61)).setCell (p := ⟨be, 1, none⟩) HBE.out (.slice (some ⟨bv, 0, none⟩) 1 1))
  have HBV := Lib.hid hbv
  rw [hbv] at E6 S6 P6 V6 K6
  clear hbv
  go_upto_region 9 with fail
  generalize hW6 : (W4.alloc (.cells #[.int .i64 1, .int .i64 (k : Int), .int .i64 1, .int .i64 5] 61)).setCell ⟨be, 1, none⟩ (.slice (some ⟨W4.heap.size, 0, none⟩) 1 1) = W6 at E6 S6 P6 V6 K6 ⊢
  rw [← HBV.out] at E6 V6
  try rw [← HBV.out]
  clear E5 e1 f1 E4 S4 P4 K4 hW6
  have ca2 := fun X (hV : Box X bv 61 #[.int .i64 1, .int .i64 (k : Int), .int .i64 1, .int .i64 5]) => Lib.hid (show Calls Tryz.prog 12 #[.agg (Im.cells (Gm.new d) (.slice none 0 0) Ros.new), .agg (En.cells (Fd.eJ k 5 (En.upd Fd.in0 k ⟨x, y, b⟩)) (.slice (some ⟨bv, 0, none⟩) 1 1))] X (SOut (Fd.joined d k 5 (En.upd Fd.in0 k ⟨x, y, b⟩)).g (Fd.joined d k 5 (En.upd Fd.in0 k ⟨x, y, b⟩)).r 0 X) from
    foldapply_some (Fd.joined d k 5 (En.upd Fd.in0 k ⟨x, y, b⟩)) (Fd.start d) (Fd.eJ k 5 (En.upd Fd.in0 k ⟨x, y, b⟩)) none (some ⟨bv, 0, none⟩) 0 0 1 1 X ty0.out (by decide) rfl Lies.none_ rfl (by decide) (Lies.boxed4 (n := 1) hV rfl) TYU.out (Fd.join_one HD.out HK.out (by decide) OKU.out ZO.out))
  have T0 := Lib.hid (Fd.joined_fine (d := d) (k := k) (p := 5) (ps := (En.upd Fd.in0 k ⟨x, y, b⟩)) HD.out HK.out (by decide))
  have U0 := Lib.hid (Fd.left_fine (d := d) (k := k) (p := 5) (ps := (En.upd Fd.in0 k ⟨x, y, b⟩)) HD.out HK.out (by decide))
  have J1 := Lib.hid (Fd.leave_one (d := d) (k := k) (p := 5) (ps := (En.upd Fd.in0 k ⟨x, y, b⟩)) HD.out HK.out (by decide))
  have J2 := Lib.hid (Fd.leave_busy (d := d) (k := k) (p := 5) (ps := (En.upd Fd.in0 k ⟨x, y, b⟩)) HD.out HK.out (by decide) (qs := (En.upd Fd.in0 k ⟨x, y, b⟩)) HK.out ZU.out)
  generalize Fd.joined d k 5 (En.upd Fd.in0 k ⟨x, y, b⟩) = T at ca2 T0 J1 J2
  generalize Fd.left d k 5 (En.upd Fd.in0 k ⟨x, y, b⟩) = V at U0 J1
  go_upto_region 10 with (first | ((with_reducible refine im_load_state rfl rfl ?_); apply LoadIm.mk rfl; (focus first | (with_reducible exact S6.out)); dsimp only) | ((with_reducible refine en_load rfl rfl ?_); apply LoadEn.mk rfl; (focus first | (with_reducible exact E6.out)); dsimp only) | (go_at_call 12; ((with_reducible refine ((ca2 _ V6.out).out).mono ?_); rintro x9 w3 ⟨A9, cA9, rfl, hL, hb⟩; have P9 := Lib.hid ((P6.out.below hb P6.out.lt).alloc (.cells (Im.cells T.g (.slice A9 T.g.shots.length cA9) T.r) 35)); have K9 := Lib.hid ((K6.out.trans (hb.mono K6.out.size)).alloc (Nat.le_trans K6.out.size hb.size) (.cells (Im.cells T.g (.slice A9 T.g.shots.length cA9) T.r) 35)); have B9 := Lib.hid (Box.made w3 35 (Im.cells T.g (.slice A9 T.g.shots.length cA9) T.r)); have L9 := Lib.hid (hL.call (one_below w3 (.cells (Im.cells T.g (.slice A9 T.g.shots.length cA9) T.r) 35))); clear hb hL)) | (with_reducible refine alloc_state rfl rfl ?_) | (with_reducible refine im_store_new rfl rfl rfl rfl Im.zero_size rfl ?_))
  generalize hWn : w3.alloc (.cells (Im.cells T.g (.slice A9 T.g.shots.length cA9) T.r) 35) = W9 at P9 L9 B9 K9 ⊢
  generalize w3.heap.size = b9 at B9 ⊢
  clear hWn
  clear S6 E6 P6 V6 K6 ca2
  have HW9 := Lib.hid K9.out.size
  obtain ⟨bx, hbx⟩ : ∃ bx, bx = W9.heap.size := ⟨_, rfl⟩
  obtain ⟨bf, hbf⟩ : ∃ bf, bf = W9.heap.size + 1 := ⟨_, rfl⟩
  have D10 := two_below' W9 (.cells #[.int .i64 2, .int .i64 (k : Int), .int .i64 1, .int .i64 5] 61) (.cells (En.cells (⟨1, [Fd.evL k 5], Fd.in0⟩ : En.E) (.slice (some ⟨bx, 0, none⟩) 1 1)) 42)
  have X10 := Lib.hid ((Box.made_at (n := bx) W9 61 #[.int .i64 2, .int .i64 (k : Int), .int .i64 1, .int .i64 5] hbx).alloc (.cells (En.cells (⟨1, [Fd.evL k 5], Fd.in0⟩ : En.E) (.slice (some ⟨bx, 0, none⟩) 1 1)) 42))
  have F10 := Lib.hid (Box.made_at (n := bf) (W9.alloc (.cells #[.int .i64 2, .int .i64 (k : Int), .int .i64 1, .int .i64 5] 61)) 42 (En.cells (⟨1, [Fd.evL k 5], Fd.in0⟩ : En.E) (.slice (some ⟨bx, 0, none⟩) 1 1)) (by rw [World.size_alloc]; exact hbf))
  have T10 := Lib.hid (B9.out.below D10 B9.out.lt)
  have P10 := Lib.hid (P9.out.below D10 P9.out.lt)
  have K10 := Lib.hid (K9.out.trans (D10.mono K9.out.size))
  have Q10 := Lib.hid D10
  have HBX := Lib.hid hbx
  have HBF := Lib.hid hbf
  rw [hbx] at X10 F10 T10 P10 K10 Q10
  clear D10 B9 P9 K9 hbx hbf
  go_upto_region 11 with (first | (refine wpList_build_is rfl (t := 42) (vs := [(0, .int .i64 1), (1, .slice (some ⟨W9.heap.size, 0, none⟩) 1 1)]) rfl rfl (en_built_fre 1 _ _ _ [Fd.evL k 5]) ?_) | (with_reducible refine alloc_en rfl rfl ?_) | (with_reducible refine en_store_new rfl rfl rfl rfl En.zeroC_size rfl ?_))
  try simp only [World.size_alloc]
  generalize hW10 : (W9.alloc (.cells #[.int .i64 2, .int .i64 (k : Int), .int .i64 1, .int .i64 5] 61)).alloc (.cells (En.cells (⟨1, [Fd.evL k 5], Fd.in0⟩ : En.E) (.slice (some ⟨W9.heap.size, 0, none⟩) 1 1)) 42) = W10 at X10 F10 T10 P10 K10 Q10 ⊢
  rw [← HBX.out] at X10 F10
  try rw [← HBF.out]
  try rw [← HBX.out]
  clear hW10
  have ca3 := fun X A c (hV : Box X bx 61 #[.int .i64 2, .int .i64 (k : Int), .int .i64 1, .int .i64 5]) hL => Lib.hid (show Calls Tryz.prog 12 #[.agg (Im.cells T.g (.slice A T.g.shots.length c) T.r), .agg (En.cells (⟨1, [Fd.evL k 5], Fd.in0⟩ : En.E) (.slice (some ⟨bx, 0, none⟩) 1 1))] X (SOut V.g V.r 0 X) from
    foldapply_some V T (⟨1, [Fd.evL k 5], Fd.in0⟩ : En.E) A (some ⟨bx, 0, none⟩) _ c 1 1 X T0.out.1.ty T0.out.1.few rfl hL rfl (by decide) (Lies.boxed4 (n := 1) hV rfl) in0_tyin J1.out)
  have ca4 := fun X A c (hV : Box X bx 61 #[.int .i64 2, .int .i64 (k : Int), .int .i64 1, .int .i64 5]) hL => Lib.hid (show Calls Tryz.prog 12 #[.agg (Im.cells T.g (.slice A T.g.shots.length c) T.r), .agg (En.cells (⟨1, [Fd.evL k 5], (En.upd Fd.in0 k ⟨x, y, b⟩)⟩ : En.E) (.slice (some ⟨bx, 0, none⟩) 1 1))] X (SOut T.g T.r 1 X) from
    foldapply_none T (⟨1, [Fd.evL k 5], (En.upd Fd.in0 k ⟨x, y, b⟩)⟩ : En.E) A (some ⟨bx, 0, none⟩) _ c 1 1 X T0.out.1.ty T0.out.1.few rfl hL rfl (by decide) (Lies.boxed4 (n := 1) hV rfl) TYU.out J2.out)
  go_upto_region 12 with (first | ((with_reducible refine im_load_state rfl rfl ?_); apply LoadIm.mk rfl; (focus first | (with_reducible exact T10.out)); dsimp only) | ((with_reducible refine en_load rfl rfl ?_); apply LoadEn.mk rfl; (focus first | (with_reducible exact F10.out)); dsimp only) | (go_at_call 12; ((with_reducible refine ((ca3 _ _ _ X10.out ((L9.out.below Q10.out).wider Q10.out.size)).out).mono ?_); rintro x9 w3 ⟨A11, cA11, rfl, hL, hb⟩; have X11 := Lib.hid ((X10.out.below hb X10.out.lt).alloc (.cells (Im.cells V.g (.slice A11 V.g.shots.length cA11) V.r) 35)); have F11 := Lib.hid ((F10.out.below hb F10.out.lt).alloc (.cells (Im.cells V.g (.slice A11 V.g.shots.length cA11) V.r) 35)); have T11 := Lib.hid ((T10.out.below hb T10.out.lt).alloc (.cells (Im.cells V.g (.slice A11 V.g.shots.length cA11) V.r) 35)); have P11 := Lib.hid ((P10.out.below hb P10.out.lt).alloc (.cells (Im.cells V.g (.slice A11 V.g.shots.length cA11) V.r) 35)); have K11 := Lib.hid ((K10.out.trans (hb.mono K10.out.size)).alloc (Nat.le_trans K10.out.size hb.size) (.cells (Im.cells V.g (.slice A11 V.g.shots.length cA11) V.r) 35)); have B11 := Lib.hid (Box.made w3 35 (Im.cells V.g (.slice A11 V.g.shots.length cA11) V.r)); have L11 := Lib.hid (hL.call (one_below w3 (.cells (Im.cells V.g (.slice A11 V.g.shots.length cA11) V.r) 35))); have Q11 := Lib.hid ((Q10.out.trans (hb.mono Q10.out.size)).alloc (Nat.le_trans Q10.out.size hb.size) (.cells (Im.cells V.g (.slice A11 V.g.shots.length cA11) V.r) 35)); clear hb hL)) | (with_reducible refine alloc_state rfl rfl ?_) | (with_reducible refine im_store_new rfl rfl rfl rfl Im.zero_size rfl ?_))
  generalize hWn : w3.alloc (.cells (Im.cells V.g (.slice A11 V.g.shots.length cA11) V.r) 35) = W11 at X11 F11 T11 P11 Q11 L11 B11 K11 ⊢
  generalize w3.heap.size = b11 at B11 ⊢
  clear hWn
  clear X10 F10 T10 P10 K10 Q10 ca3
  obtain ⟨n11, hn11⟩ : ∃ n, n = W11.heap.size := ⟨_, rfl⟩
  have HN11 := Lib.hid hn11
  rw [← hn11] at L11
  clear hn11
  have p0 := P11.out.cell 0
  have p1 := P11.out.cell 1
  have p2 := P11.out.cell 2
  simp only [List.getElem?_toArray, List.getElem?_cons_zero, List.getElem?_cons_succ] at p0 p1 p2
  have HB9 := Lib.hid (show W9.heap.size ≤ bf from by have := HBF.out; omega)
  have F12 := Lib.hid (F11.out.row (En.cells (⟨1, [Fd.evL k 5], (En.upd Fd.in0 k ⟨x, y, b⟩)⟩ : En.E) (.slice (some ⟨bx, 0, none⟩) 1 1)))
  have X12 := Lib.hid (X11.out.row_far (Box.apart X11.out F11.out (by decide)) (En.cells (⟨1, [Fd.evL k 5], (En.upd Fd.in0 k ⟨x, y, b⟩)⟩ : En.E) (.slice (some ⟨bx, 0, none⟩) 1 1)))
  have T12 := Lib.hid (T11.out.row_far (Box.apart T11.out F11.out (by decide)) (En.cells (⟨1, [Fd.evL k 5], (En.upd Fd.in0 k ⟨x, y, b⟩)⟩ : En.E) (.slice (some ⟨bx, 0, none⟩) 1 1)))
  have U12 := Lib.hid (B11.out.row_far (Box.apart B11.out F11.out (by decide)) (En.cells (⟨1, [Fd.evL k 5], (En.upd Fd.in0 k ⟨x, y, b⟩)⟩ : En.E) (.slice (some ⟨bx, 0, none⟩) 1 1)))
  have K12 := Lib.hid (Below.setRow' K11.out (Nat.le_trans (show w.heap.size ≤ W9.heap.size from HW9.out) HB9.out) (En.cells (⟨1, [Fd.evL k 5], (En.upd Fd.in0 k ⟨x, y, b⟩)⟩ : En.E) (.slice (some ⟨bx, 0, none⟩) 1 1)))
  have Q12 := Lib.hid (Below.setRow' Q11.out HB9.out (En.cells (⟨1, [Fd.evL k 5], (En.upd Fd.in0 k ⟨x, y, b⟩)⟩ : En.E) (.slice (some ⟨bx, 0, none⟩) 1 1)))
  have M12 := Lib.hid (show Lies (W11.setRow bf (En.cells (⟨1, [Fd.evL k 5], (En.upd Fd.in0 k ⟨x, y, b⟩)⟩ : En.E) (.slice (some ⟨bx, 0, none⟩) 1 1))) n11 6 A11 V.g.shots.length (Gm.shotCells V.g.shots) from L11.out.off_row rfl F11.out _)
  go_upto_region 13 with ((with_reducible refine en_store_in rfl rfl ?_); apply StoreIn.mk (u := ⟨x, y, b⟩) rfl rfl HK.out; (focus (with_reducible exact F11.out)); dsimp only)
  generalize hW12 : W11.setRow bf (En.cells (⟨1, [Fd.evL k 5], (En.upd Fd.in0 k ⟨x, y, b⟩)⟩ : En.E) (.slice (some ⟨bx, 0, none⟩) 1 1)) = W12 at F12 X12 T12 U12 K12 Q12 M12 ⊢
  have HN12 := Lib.hid (show n11 ≤ W12.heap.size from by rw [← hW12, setRow_size]; have := HN11.out; omega)
  clear F11 X11 T11 P11 B11 K11 Q11 p0 p1 p2 hW12
  go_upto_region 14 with (first | ((with_reducible refine im_load_state rfl rfl ?_); apply LoadIm.mk rfl; (focus first | (with_reducible exact T12.out)); dsimp only) | ((with_reducible refine en_load rfl rfl ?_); apply LoadEn.mk rfl; (focus first | (with_reducible exact F12.out)); dsimp only) | (go_at_call 12; ((with_reducible refine ((ca4 _ _ _ X12.out ((L9.out.below Q12.out).wider Q12.out.size)).out).mono ?_); rintro x9 w3 ⟨A13, cA13, rfl, hL, hb⟩; have T13 := Lib.hid ((T12.out.below hb T12.out.lt).alloc (.cells (Im.cells T.g (.slice A13 T.g.shots.length cA13) T.r) 35)); have U13 := Lib.hid ((U12.out.below hb U12.out.lt).alloc (.cells (Im.cells T.g (.slice A13 T.g.shots.length cA13) T.r) 35)); have K13 := Lib.hid ((K12.out.trans (hb.mono K12.out.size)).alloc (Nat.le_trans K12.out.size hb.size) (.cells (Im.cells T.g (.slice A13 T.g.shots.length cA13) T.r) 35)); have B13 := Lib.hid (Box.made w3 35 (Im.cells T.g (.slice A13 T.g.shots.length cA13) T.r)); have L13 := Lib.hid (hL.call (one_below w3 (.cells (Im.cells T.g (.slice A13 T.g.shots.length cA13) T.r) 35))); have L13u := Lib.hid ((((M12.out.wider (show n11 ≤ W12.heap.size from HN12.out)).call hb)).call (one_below w3 (.cells (Im.cells T.g (.slice A13 T.g.shots.length cA13) T.r) 35))); clear hb hL)) | (with_reducible refine alloc_state rfl rfl ?_) | (with_reducible refine im_store_new rfl rfl rfl rfl Im.zero_size rfl ?_))
  generalize hWn : w3.alloc (.cells (Im.cells T.g (.slice A13 T.g.shots.length cA13) T.r) 35) = W13 at T13 U13 L13u L13 B13 K13 ⊢
  generalize w3.heap.size = b13 at B13 ⊢
  clear hWn
  clear F12 X12 T12 U12 K12 ca4 L13 B13
  have hso := fun X (h : Below W13.heap.size W13 X) => (((T13.out.below h T13.out.lt).cell (2 + k * 7)).trans (Im.cells_ship T.g _ T.r k 0 HK.out (by decide))).trans (show some (Value.bool (T.g.ship k).on) = some (.bool true) by rw [T0.out.2.2])
  have huo := fun X (h : Below W13.heap.size W13 X) => (((U13.out.below h U13.out.lt).cell (2 + k * 7)).trans (Im.cells_ship V.g _ V.r k 0 HK.out (by decide))).trans (show some (Value.bool (V.g.ship k).on) = some (.bool false) by rw [U0.out.2.1])
  have hup := fun X (h : Below W13.heap.size W13 X) => ((U13.out.below h U13.out.lt).cell (60 + k * 2)).trans ((Im.cells_peer V.g _ V.r k HK.out).trans (by rw [U0.out.2.2.1]))
  have hug := fun X (h : Below W13.heap.size W13 X) => ((U13.out.below h U13.out.lt).cell (60 + k * 2 + 1)).trans ((Im.cells_gen V.g _ V.r k HK.out).trans (by rw [U0.out.2.2.2]))
  have hse := fun W => seat_eql' (-1) 1 (-1) 1 W
  have cms := fun X hX => Lib.hid (refstate_any V.g V.r A11 _ cA11 X U0.out.1.ty rfl (by have := U0.out.1.few; unfold maxLen; omega) hX)
  have OK := Lib.hid U0.out.1.ok
  go_wp2_with (first | (go_at_call 11; ((with_reducible refine ((ct _).out).mono ?_); rintro x9 w14 ⟨rfl, hb⟩; have q1 := hso _ hb; have q2 := huo _ hb; have q3 := hup _ hb; have q4 := hug _ hb; have U14 := Lib.hid (U13.out.below hb U13.out.lt); have K14 := Lib.hid (K13.out.trans (hb.mono K13.out.size)); have M14 := Lib.hid (L13u.out.call hb); clear hb)) | ((with_reducible refine im_load_state_g ?_ rfl ?_); (focus first | rfl | kernel_rfl | simp [Region.wanted, yielded]); apply LoadIm.mk rfl; (focus first | (with_reducible exact U14.out)); dsimp only) | (go_at_call 15; ((with_reducible refine ((cms _ M14.out).out).mono ?_); rintro x9 w15 ⟨⟨v, rfl, hv⟩, hb⟩; obtain rfl : v = true := hv.2 OK.out; have K15 := Lib.hid (K14.out.trans (hb.mono K14.out.size)); clear hb hv)))
  go_ret
  exact ⟨rfl, K15.out⟩
theorem inputs10_law (seed : ByteArray) (slot x y b : Int) (w : World) (hsz : seed.size ≤ maxLen) (ws : -9223372036854775808 ≤ slot ∧ slot ≤ 9223372036854775807) (wx : -128 ≤ x ∧ x ≤ 127) (wy : -128 ≤ y ∧ y ≤ 127) (wb : 0 ≤ b ∧ b ≤ 255) :
    Calls Tryz.prog 7 #[.string seed, .int .i64 slot, .agg #[.int .i8 x, .int .i8 y, .int .u8 b]] w fun e w' => e = .returned (.bool true) ∧ Below w.heap.size w w' := by
  by_cases h20 : 20 < seed.size
  · exact inputs10_told seed slot x y b w (.inl h20) hsz
  cases hz : En.zero ⟨x, y, b⟩
  · by_cases hx : x = -128
    · exact inputs10_told seed slot x y b w (.inr (.inr (.inl hx))) hsz
    by_cases hy : y = -128
    · exact inputs10_told seed slot x y b w (.inr (.inr (.inr hy))) hsz
    exact inputs10_main seed slot x y b w (by omega) hz hx hy ws wx wy wb
  · exact inputs10_told seed slot x y b w (.inr (.inl hz)) hsz
end Go.Proofs.YtiahpncglpfjeaaGreat
namespace Go.Proofs.YtiahpncglpfjeaaGreat
open Go.ChangeShapes Go.WideShapes Go.ChangeAt Go.RowKit Go.Joins Go.ChangeMaps Go.Deep
set_option linter.unusedVariables false

section
variable {H : Type} {enc : TypeId × Value → H} {w : World} {base : Nat} {spare : Nat → Bool} {held : Bool}
theorem trod_in {fuel : Nat} {a b c : Value} {y : DataW H × List MemPlace} (h : DataW.trod enc Tryz.prog w base spare held fuel 39 [a, b, c] = some y) : ∃ q : Gm.In, [a, b, c] = q.cells ∧ Gm.tyIn q ∧ y.2 = [] := by
  obtain ⟨y0, y1, y2, n, hx, _, h0, h1, h2⟩ := trod_struct3 Tryz.underlying39 h
  obtain ⟨x0, e0, rfl, w0⟩ := DataW.trod_int Tryz.underlying37 h0
  obtain ⟨x1, e1, rfl, w1⟩ := DataW.trod_int Tryz.underlying37 h1
  obtain ⟨x2, e2, rfl, w2⟩ := DataW.trod_int Tryz.underlying5 h2
  have c8 : Tryz.prog.cellsOf 37 = 1 := by kernel_rfl
  have cu : Tryz.prog.cellsOf 5 = 1 := by kernel_rfl
  simp [c8, cu] at e0 e1 e2
  subst e0 e1 e2
  exact ⟨⟨x0, x1, x2⟩, rfl, ⟨Bd.i8 w0, Bd.i8 w1, Bd.u8 w2⟩, by rw [hx]; rfl⟩
end
end Go.Proofs.YtiahpncglpfjeaaGreat
namespace Go.Proofs.YtiahpncglpfjeaaGreat
open Go.ChangeShapes Go.WideShapes Go.ChangeAt Go.RowKit Go.Joins Go.ChangeMaps Go.Deep
set_option linter.unusedVariables false

section
variable {H : Type} {enc : TypeId × Value → H} {w : World} {base : Nat} {spare : Nat → Bool} {held : Bool}
set_option maxRecDepth 100000 in
theorem agg_of {b0 : Nat} {v : Value} {t : TypeId} {d : TypeDesc} (hu : Tryz.prog.underlying t = some d) (hd : d.isRow = true) (hv : Value.okWide Tryz.prog w .any b0 t v) : ∃ cs, v = .agg cs ∧ cs.size = Tryz.prog.cellsOf t := by
  cases d <;> first | (cases hd; done) | (obtain ⟨cs, h1, h2, _⟩ : ∃ cs, v = .agg cs ∧ cs.size = Tryz.prog.cellsOf t ∧ Row.okWide Tryz.prog w .any b0 t cs := (by simpa [Value.okWide, hu] using hv); exact ⟨cs, h1, h2⟩)
end
end Go.Proofs.YtiahpncglpfjeaaGreat
namespace Fd
open Go
/-- A turn: who comes or goes, what all do. -/
structure Turn where
  peer : Int
  inp : Nat → Gm.In
def Turn.cells (q : Turn) : List Value := [Value.int .i64 q.peer] ++ Gm.insCells q.inp
theorem Turn.cells_len (q : Turn) : q.cells.length = 25 := rfl
def Turn.ty (q : Turn) : Prop := (-9223372036854775808 ≤ q.peer ∧ q.peer ≤ 9223372036854775807) ∧ ∀ i, i < 8 → Gm.tyIn (q.inp i)
end Fd
namespace Go.Proofs.YtiahpncglpfjeaaGreat
open Go.ChangeShapes Go.WideShapes Go.ChangeAt Go.RowKit Go.Joins Go.ChangeMaps Go.Deep
set_option linter.unusedVariables false
section
variable {H : Type} {enc : TypeId × Value → H} {w : World} {base : Nat} {spare : Nat → Bool} {held : Bool}
set_option maxRecDepth 100000 in
theorem open_input {b0 : Nat} {v : Value} {d : DataW H} {p : List MemPlace} (hv : Value.okWide Tryz.prog w .any b0 39 v) (h : DataW.Trod enc Tryz.prog w base spare held 39 v d p) :
    ∃ q : Gm.In, v = .agg #[.int .i8 q.x, .int .i8 q.y, .int .u8 q.b] ∧ Gm.tyIn q := by
  obtain ⟨cs, rfl, hsz⟩ := agg_of Tryz.underlying39 rfl hv
  rw [show Tryz.prog.cellsOf 39 = 3 from by kernel_rfl] at hsz
  obtain ⟨l⟩ := cs
  obtain ⟨fuel, hf⟩ := h
  have hf' : DataW.trod enc Tryz.prog w base spare held fuel 39 l = some (d, p) := hf
  have hl : l.length = 3 := by simpa using hsz
  match l, hl with
  | [a, b, c], _ =>
    obtain ⟨q, h1, h2, _⟩ := trod_in hf'
    refine ⟨q, ?_, h2⟩
    rw [h1]; rfl
end
end Go.Proofs.YtiahpncglpfjeaaGreat
