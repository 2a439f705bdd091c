/-
The statements' own question of entries.
-/
import Derived.Test.YtbihnmingedgfaaEh
import Derived.Test.YtbihnmingedgfaaOc
import Derived.Great.BuildSlice
namespace Go.Proofs.Ytbihnmingedgfaa
open Go.RowKit Go.Shelf
set_option linter.unusedVariables false
set_option linter.unusedSimpArgs false

theorem en_fill (e : En.E) (s : Value) : Instr.fill (fun i => some (i * 26, 26)) ((Array.range (1 * 26)).map ((Value.agg En.zeroC).cells[· % (Value.agg En.zeroC).cells.size]!)) [(0, .agg (En.cells e s))] = some (En.cells e s) := by kernel_rfl
theorem en_slice (e : En.E) (s : Value) (W : World) : (Instr.buildSlice 85 1 #[(0, .agg (En.cells e s))]).run Try.prog W = .ok (.slice (some ⟨W.heap.size, 0, none⟩) 1 1) (W.alloc (.cells (En.cells e s) 72)) := by
  have h1 := en_info
  have h2 := en_zero
  cases hq : Try.prog.info? 72 with
  | none => rw [hq] at h1; cases h1
  | some ie =>
    rw [hq] at h1 h2
    have hs : ie.size = 26 := by simpa using h1
    have hz : ie.zero = some (.agg En.zeroC) := by simpa using h2
    exact run_buildSlice W _ _ 1 _ _ ie (.agg En.zeroC) Try.underlying85 hq hz (by rw [hs]; decide) (by rw [hs]; decide) (by rw [hs]; exact en_fill e s)
section
variable {ops : Array Oper} {rest : List Oper} {o : Oper} {a : Act} {w : World} {Q : Exit → Act → World → Prop} {x : Operand} {dst : Option Tmp} {v : Value}
/-- What a list of one entry wants. -/
def BuildEn (ops : Array Oper) (Q : Exit → Act → World → Prop) (rest : List Oper) (dst : Option Tmp) (v : Value) (a : Act) (w : World) : Prop :=
  ∃ (e : En.E) (s : Value), v = .agg (En.cells e s) ∧ wpList Try.prog ops Q rest (a.put dst (.slice (some ⟨w.heap.size, 0, none⟩) 1 1)) (w.alloc (.cells (En.cells e s) 72))
theorem BuildEn.mk {e : En.E} {s : Value} (hv : v = .agg (En.cells e s)) (h : wpList Try.prog ops Q rest (a.put dst (.slice (some ⟨w.heap.size, 0, none⟩) 1 1)) (w.alloc (.cells (En.cells e s) 72))) : BuildEn ops Q rest dst v a w := ⟨e, s, hv, h⟩
theorem en_build_g (hw : Region.wanted o (yielded ops a.tmps) = true) (ho : o.op = .buildSlice 85 1 #[(0, x)]) (h : BuildEn ops Q rest o.dst (a.eval x) a w) : wpList Try.prog ops Q (o :: rest) a w := by
  obtain ⟨e, s, hv, h⟩ := h
  refine wpList_step fun K hK => ?_
  rw [if_pos hw]
  have hr := en_slice e s w
  unfold Oper.wp execOp
  simp only [ho, List.map_toArray, List.map_cons, List.map_nil, hv, Sem.run_bind, hr, Result.andThen_ok, Sem.run_pure]
  exact hK _ _ h
theorem en_build (hgd : o.guard = none) (ho : o.op = .buildSlice 85 1 #[(0, x)]) (h : BuildEn ops Q rest o.dst (a.eval x) a w) : wpList Try.prog ops Q (o :: rest) a w := by
  obtain ⟨e, s, hv, h⟩ := h
  refine wpList_plain hgd fun _ hK => ?_
  have hr := en_slice e s w
  unfold Oper.wp execOp
  simp only [ho, List.map_toArray, List.map_cons, List.map_nil, hv, Sem.run_bind, hr, Result.andThen_ok, Sem.run_pure]
  exact hK _ _ h
end
theorem LiesS.one {W : World} {S : Nat} {e : En.E} {A : Option Addr} {c : Nat} (h : Box W S 72 (En.cells e (.slice A e.evs.length c))) (hL : Lies W W.heap.size 4 A e.evs.length (En.evCells e.evs)) (hf : e.evs.length ≤ maxLen) : LiesS W W.heap.size (some ⟨S, 0, none⟩) 1 [⟨e, A, c⟩] := by
  refine ⟨Lies.boxed (t := 72) ?_ rfl, fun q hq => ?_, fun q hq => ?_⟩
  · have e1 : (En.sCells [⟨e, A, c⟩]).toArray = En.cells e (.slice A e.evs.length c) := by unfold En.sCells; rw [List.flatMap_cons, List.flatMap_nil, List.append_nil]; exact En.S.cells_arr _
    rw [e1]; exact h
  · obtain rfl := List.mem_singleton.1 hq; exact hL
  · obtain rfl := List.mem_singleton.1 hq; exact hf

theorem enget_yes (e : En.E) (hok : En.Ok e) (hty : En.Ty e) (A : Option Addr) (n c : Nat) (w : World) (hn : n = (En.put e).length) (hc : n ≤ c) (hL : Lies w w.heap.size 1 A n (Im.u8s (En.put e))) :
    Calls Try.prog 45 #[.slice A n c] w fun r w' => ∃ e' S, En.Like e e' ∧ En.get (En.put e) = some e' ∧ r = .returned (.tuple #[.agg (En.cells e' (.slice (some ⟨S, 0, none⟩) e'.evs.length e'.evs.length)), .int .i64 0]) ∧ Box w' S 83 (En.evCells e'.evs).toArray ∧ Below w.heap.size w w' := by
  refine (enget_any (En.put e) A n c w hn hc (En.put_bytes e) hL).mono fun r w' h => ?_
  obtain ⟨e', h1, h2⟩ := En.get_put hok hty
  rcases h with ⟨e'', S, hg, h3⟩ | ⟨hg, _⟩
  · rw [h1] at hg
    injection hg with hg
    subst hg
    exact ⟨e', S, h2, h1, h3⟩
  · rw [h1] at hg; cases hg
theorem enget_no (bs : List Int) (hg : En.get bs = none) (A : Option Addr) (n c : Nat) (w : World) (hn : n = bs.length) (hc : n ≤ c) (hBy : Im.IsBytes bs) (hL : Lies w w.heap.size 1 A n (Im.u8s bs)) :
    Calls Try.prog 45 #[.slice A n c] w fun r w' => r = .returned (.tuple #[.agg En.zeroC, .int .i64 2]) ∧ Below w.heap.size w w' := by
  refine (enget_any bs A n c w hn hc hBy hL).mono fun r w' h => ?_
  rcases h with ⟨e'', S, h1, h3⟩ | ⟨_, h3⟩
  · rw [hg] at h1; cases h1
  · exact h3

namespace En
def e7 : En.E := ⟨7, [], En.in0⟩
def e9 : En.E := ⟨7, [], En.upd En.in0 3 ⟨0, 0, 9⟩⟩
def em : En.E := ⟨-1, [], En.in0⟩
theorem in0_ty : ∀ i, i < 8 → Gm.tyIn (En.in0 i) := fun i _ => by unfold Gm.tyIn En.in0; dsimp only; omega
theorem e7_ok : En.Ok e7 := by decide +kernel
theorem e9_ok : En.Ok e9 := by decide +kernel
theorem em_no : ¬ En.Ok em := by decide +kernel
theorem e7_ty : En.Ty e7 := ⟨by unfold En.i64 e7; dsimp only; omega, fun v h => (by cases h), in0_ty⟩
theorem e7_put : En.put e7 = [7, 0, 0, 0, 0, 0] := by decide +kernel
theorem nil_get : En.get [] = none := rfl
theorem e79 {e : En.E} (h : En.Like e7 e) : ¬ En.Like e e9 := fun k => by
  have := (h.trans k).2.2 3 (by omega)
  have e : (e9.inp 3).b = 9 := rfl
  rw [← this] at e
  cases e
end En
theorem en_built7 (f : Int) : Try.prog.built 72 [(0, .int .i64 f)] = some (En.cells ⟨f, [], En.in0⟩ (.slice none 0 0)) := by kernel_rfl
theorem e9_cells (s : Value) : (En.cells En.e7 s).setIfInBounds 13 (.int .u8 9) = En.cells En.e9 s := rfl
theorem e7_13 (s : Value) : (En.cells En.e7 s)[13]? = some (.int .u8 0) := rfl
theorem str7 : strOfNums [7, 0, 0, 0, 0, 0] = ⟨#[7, 0, 0, 0, 0, 0]⟩ := rfl

set_option maxRecDepth 100000 in
set_option maxHeartbeats 4000000 in
theorem told9_any (w : World) :
    Calls Try.prog 40 #[] w fun e w' => e = .returned (.bool true) ∧ Below w.heap.size w w' := by
  have cpt := fun X => Lib.hid (enput_yes En.e7 none 0 0 X En.e7_ok En.e7_ty.ins rfl ⟨rfl, fun h => absurd rfl h, fun _ _ h => absurd rfl h⟩)
  rw [En.e7_put] at cpt
  have cgt := fun A c X hc hL => Lib.hid (enget_yes En.e7 En.e7_ok En.e7_ty A 6 c X (by rw [En.e7_put]; rfl) hc hL)
  rw [En.e7_put] at cgt
  have cgn : ∀ X, Hid (Calls Try.prog 45 #[.slice none 0 0] X fun e w' => e = .returned (.tuple #[.agg En.zeroC, .int .i64 2]) ∧ Below X.heap.size X w') := fun X => Lib.hid (enget_no [] En.nil_get none 0 0 X rfl (Nat.le_refl _) Im.IsBytes.nil ⟨rfl, fun h => absurd rfl h, fun _ _ h => absurd rfl h⟩)
  have cpn := fun X => Lib.hid (enput_no En.em none 0 0 X En.em_no rfl (Nat.zero_le _) ⟨rfl, fun h => absurd rfl h, fun _ _ h => absurd rfl h⟩)
  have csm := fun e S X (hl : En.Like En.e7 e) (hB : Box X S 83 (En.evCells e.evs).toArray) => Lib.hid (show Calls Try.prog 48 #[.agg (En.cells e (.slice (some ⟨S, 0, none⟩) e.evs.length e.evs.length)), .agg (En.cells En.e9 (.slice none 0 0))] X fun r w' => r = .returned (.bool false) ∧ Below X.heap.size X w' by
    have h0 : e.evs = [] := hl.2.1.symm
    have := ensame_any ⟨e, some ⟨S, 0, none⟩, e.evs.length⟩ ⟨En.e9, none, 0⟩ X (by rw [h0]; exact Nat.zero_le _) (Nat.zero_le _) (Lies.boxed hB (En.evCells_len _)) ⟨rfl, fun h => absurd rfl h, fun _ _ h => absurd rfl h⟩
    rw [En.likeB_no (En.e79 hl)] at this
    exact this)
  have L9 := fun X S (hB : Box X S 72 (En.cells En.e9 (.slice none 0 0))) => (LiesS.one (e := En.e9) (A := none) (c := 0) hB ⟨rfl, fun h => absurd rfl h, fun _ _ h => absurd rfl h⟩ (Nat.zero_le _))
  have cf1 := fun S X hB => Lib.hid (front_any [] [⟨En.e9, none, 0⟩] none (some ⟨S, 0, none⟩) 0 1 0 1 X (Nat.zero_le _) (by decide) (Nat.le_refl _) LiesS.nil (L9 X S hB))
  rw [En.frontB_yes ⟨by decide, fun j h _ => absurd h (Nat.not_lt_zero _)⟩] at cf1
  have cf2 := fun S X hB => Lib.hid (front_any [⟨En.e9, none, 0⟩] [] (some ⟨S, 0, none⟩) none 1 0 1 0 X (by decide) (Nat.zero_le _) (Nat.le_refl _) (L9 X S hB) LiesS.nil)
  rw [En.frontB_no fun h => absurd h.1 (by decide)] at cf2
  have cm := fun X => Lib.hid (enmay_any En.e9 none 0 0 X rfl (Nat.zero_le _) ⟨rfl, fun h => absurd rfl h, fun _ _ h => absurd rfl h⟩)
  rw [decide_eq_true En.e9_ok] at cm
  have hbs := fun W => en_slice En.e9 (.slice none 0 0) W
  have hcv := fun A c W B hL => conv_bytes [7, 0, 0, 0, 0, 0] 6 A c W B rfl hL
  rw [str7] at hcv
  have h9 := e9_cells (.slice none 0 0)
  have h13 := e7_13 (.slice none 0 0)
  have f7 : ∀ e s, En.Like En.e7 e → (En.cells e s)[0]? = some (.int .i64 7) := fun e s h => by rw [En.cells_0, ← h.1]; rfl
  have b7 : Try.prog.built 72 [(0, .int .i64 7)] = some (En.cells En.e7 (.slice none 0 0)) := en_built7 7
  have bm : Try.prog.built 72 [(0, .int .i64 (-1))] = some (En.cells En.em (.slice none 0 0)) := en_built7 (-1)
  have H9 := Lib.hid h9
  have H13 := Lib.hid h13
  have F7 := Lib.hid f7
  have HCV := Lib.hid hcv
  generalize En.e7 = e7 at *
  generalize En.e9 = e9 at *
  generalize En.em = em at *
  clear h9 h13 f7 hcv L9
  go_enter Try.func40, Try.ntmps40
  go_wp2_with (first | ((with_reducible refine en_load rfl rfl ?_); apply LoadEn.mk rfl; (focus first | (with_reducible exact T1.out) | (with_reducible exact T6.out)); dsimp only) | (with_reducible refine alloc_en rfl rfl ?_) | ((with_reducible refine en_store_new rfl rfl rfl rfl En.zeroC_size rfl ?_)) | (refine wpList_build_is rfl (t := 72) (vs := [(0, .int .i64 7)]) rfl rfl b7 ?_; have T1 := Lib.hid (Box.made w 72 (En.cells e7 (.slice none 0 0))); have K1 := Lib.hid (one_below w (.cells (En.cells e7 (.slice none 0 0)) 72))) | (refine wpList_build_is rfl (t := 72) (vs := [(0, .int .i64 (-1))]) rfl rfl bm ?_) | (go_at_call 42; ((with_reducible refine ((cpt _).out).mono ?_); rintro r w2 ⟨A2, c2, rfl, hc2, hL2, hO2, hb⟩; have O2 := Lib.hid hO2; have T2 := Lib.hid (T1.out.below hb T1.out.lt); have K2 := Lib.hid (K1.out.trans (hb.mono K1.out.size)); have L2 := Lib.hid hL2; have C2 := Lib.hid hc2; have cg := cgt A2 c2 _ C2.out L2.out; clear hc2 hL2 hO2 hb cpt)) | (go_at_call 45; ((with_reducible refine (cg.out).mono ?_); rintro r w3 ⟨e', S, hlk, hgt, rfl, hE, hb⟩; have T3 := Lib.hid ((T2.out.below hb T2.out.lt).alloc (.cells (En.cells e' (.slice (some ⟨S, 0, none⟩) e'.evs.length e'.evs.length)) 72)); have K3 := Lib.hid ((K2.out.trans (hb.mono K2.out.size)).alloc (Nat.le_trans K2.out.size hb.size) (.cells (En.cells e' (.slice (some ⟨S, 0, none⟩) e'.evs.length e'.evs.length)) 72)); have G3 := Lib.hid (Box.made w3 72 (En.cells e' (.slice (some ⟨S, 0, none⟩) e'.evs.length e'.evs.length))); have E3 := Lib.hid (hE.alloc (.cells (En.cells e' (.slice (some ⟨S, 0, none⟩) e'.evs.length e'.evs.length)) 72)); have l3 := Nat.lt_of_lt_of_le T2.out.lt hb.size; have O3 := Lib.hid ((own_below O2.out hb (Nat.le_refl _)).alloc (.cells (En.cells e' (.slice (some ⟨S, 0, none⟩) e'.evs.length e'.evs.length)) 72)); have sz3 := hb.size; have HLK := Lib.hid hlk; clear hb cg hE hgt hlk)) | (go_at_call 45; ((with_reducible refine ((cgn _).out).mono ?_); rintro r w4 ⟨rfl, hb⟩; have T4 := Lib.hid ((T3.out.below hb T3.out.lt).alloc (.cells En.zeroC 72)); have K4 := Lib.hid ((K3.out.trans (hb.mono K3.out.size)).alloc (Nat.le_trans K3.out.size hb.size) (.cells En.zeroC 72)); have G4 := Lib.hid ((G3.out.below hb G3.out.lt).alloc (.cells En.zeroC 72)); have E4 := Lib.hid ((E3.out.below hb E3.out.lt).alloc (.cells En.zeroC 72)); have O4 := Lib.hid ((own_below O3.out hb (Nat.le_refl _)).alloc (.cells En.zeroC 72)); clear hb cgn)) | (go_at_call 42; ((with_reducible refine ((cpn _).out).mono ?_); rintro r w5 ⟨rfl, hb⟩; have T5 := T4.out.below hb T4.out.lt; have t5 := (T5.cell 13).trans H13.out; have u5 := T5.free 13; have G5 := G4.out.below hb G4.out.lt; have E5 := E4.out.below hb E4.out.lt; have T6 := Lib.hid (show Box _ w.heap.size 72 (En.cells e9 (.slice none 0 0)) by (have h := T5.put 13 (.int .u8 9); rw [H9.out] at h; exact h)); have K6 := Lib.hid ((K4.out.trans (hb.mono K4.out.size)).setCell (p := ⟨w.heap.size, 13, none⟩) (Nat.le_refl _) (.int .u8 9)); have G6 := Lib.hid (G5.far (p := ⟨w.heap.size, 13, none⟩) (show w3.heap.size ≠ w.heap.size by omega) (.int .u8 9)); have E6 := Lib.hid (E5.far (p := ⟨w.heap.size, 13, none⟩) (Box.apart E5 T5 (by decide)) (.int .u8 9)); have hst := HCV.out _ c2 _ _ (Lies.owned (ownsRow_setCell_other (a := ⟨w.heap.size, 13, none⟩) (own_below O4.out hb (Nat.le_refl _)) (T5.unowned (own_below O4.out hb (Nat.le_refl _)) (by decide)) (.int .u8 9))); have g6 := (G6.out.cell 0).trans (F7.out _ _ HLK.out); clear hb G5 E5)) | ((with_reducible refine en_load_g ?_ rfl ?_); (focus first | rfl | kernel_rfl | simp [Region.wanted, yielded]); apply LoadEn.mk rfl; (focus first | (with_reducible exact T9.out) | (with_reducible exact T8.out) | (with_reducible exact T7.out) | (with_reducible exact T6.out) | (with_reducible exact G6.out)); dsimp only) | ((with_reducible refine en_build_g ?_ rfl ?_); (focus first | rfl | kernel_rfl | simp [Region.wanted, yielded]); apply BuildEn.mk rfl) | (go_at_call 48; ((with_reducible refine ((csm _ _ _ HLK.out E6.out).out).mono ?_); rintro r w7 ⟨rfl, hb⟩; have T7 := Lib.hid (T6.out.below hb T6.out.lt); have K7 := Lib.hid (K6.out.trans (hb.mono K6.out.size)); clear hb)) | (go_at_call 49; first | ((with_reducible refine ((cf1 _ _ (Box.made _ _ _)).out).mono ?_); rintro r w8 ⟨rfl, hb⟩; have T8 := Lib.hid ((T7.out.alloc _).below hb (T7.out.alloc _).lt); have K8 := Lib.hid ((K7.out.alloc K7.out.size _).trans (hb.mono (K7.out.alloc K7.out.size _).size)); clear hb) | ((with_reducible refine ((cf2 _ _ (Box.made _ _ _)).out).mono ?_); rintro r w9 ⟨rfl, hb⟩; have T9 := Lib.hid ((T8.out.alloc _).below hb (T8.out.alloc _).lt); have K9 := Lib.hid ((K8.out.alloc K8.out.size _).trans (hb.mono (K8.out.alloc K8.out.size _).size)); clear hb)) | (go_at_call 43; ((with_reducible refine ((cm _).out).mono ?_); rintro r w10 ⟨rfl, hb⟩; have K10 := Lib.hid (K9.out.trans (hb.mono K9.out.size)); clear hb)))
  go_ret
  exact ⟨rfl, K10.out⟩
end Go.Proofs.Ytbihnmingedgfaa
