/-
The statements' own question of images.
-/
import Derived.Test.YtbihnmingedgfaaIu
import Derived.Test.YtbihnmingedgfaaQx
namespace Go.Proofs.Ytbihnmingedgfaa
open Go.RowKit Go.Shelf
set_option linter.unusedVariables false
set_option linter.unusedSimpArgs false

section
variable {ops : Array Oper} {Q : Exit → Act → World → Prop} {o : Oper} {rest : List Oper} {a : Act} {w : World} {x y : Operand}
theorem im_load_state_g (hw : Region.wanted o (yielded ops a.tmps) = true) (ho : o.op = .load 53 x) (h : LoadIm ops Q rest o.dst (a.eval x) 0 (fun g s r => Im.cells g s r) a w) : wpList Try.prog ops Q (o :: rest) a w := by
  obtain ⟨B, g, s, r, hx, hB, h⟩ := h
  refine wpList_load_part_g hw ho hx hB (Im.cells g s r).toList (fun j v hv => ?_) Try.underlying53 rfl (by rw [Array.length_toList, Im.cells_size]; exact state_info) (by rw [Array.toArray_toList]; exact h)
  rw [Nat.zero_add]
  simpa using hv
theorem state_store_new {v : World} {old : Array Value} {g : Gm.G} {s : Value} {r : Ros.R} (hgd : o.guard = none) (ho : o.op = .store 53 x y) (hx : a.eval x = .pointer (some ⟨v.heap.size, 0, none⟩)) (hy : a.eval y = .agg (Im.cells g s r))
    (hold : old.size = 76) (hs : s.oneCell' = true) (h : wpList Try.prog ops Q rest (a.put o.dst undef) (v.alloc (.cells (Im.cells g s r) 53))) : wpList Try.prog ops Q (o :: rest) a (v.alloc (.cells old 53)) :=
  wpList_store_new hgd ho hx hy rfl rfl (by rw [Im.cells_size]; exact state_info) (by rw [Im.cells_size]; exact hold) (im_cells_one _ _ _ hs) h
theorem state_store_zero {v : World} {old : Array Value} (hgd : o.guard = none) (ho : o.op = .store 53 x y) (hx : a.eval x = .pointer (some ⟨v.heap.size, 0, none⟩)) (hy : a.eval y = .agg Im.zero)
    (hold : old.size = 76) (h : wpList Try.prog ops Q rest (a.put o.dst undef) (v.alloc (.cells Im.zero 53))) : wpList Try.prog ops Q (o :: rest) a (v.alloc (.cells old 53)) :=
  wpList_store_new hgd ho hx hy rfl rfl (by rw [Im.zero_size]; exact state_info) (by rw [Im.zero_size]; exact hold) zero_one h
end

theorem quiet_state {B0 : Nat} {W : World} {o : Oper} {a : Act} {K : Act → Prop} {B : Nat} {g : Gm.G} {s : Value} {r : Ros.R} {x : Operand} (ho : o.op = .load 53 x) (hx : a.eval x = .pointer (some ⟨B, 0, none⟩)) (hB : ∀ q : Ext B0 W, Box q.w B 53 (Im.cells g s r)) (h : K (a.put o.dst (.agg (Im.cells g s r)))) :
    o.quiet Try.prog a (fun w' => ∃ q : Ext B0 W, w' = q.w) K :=
  ⟨_, fun w hw => by obtain ⟨q, e⟩ := hw; subst e; unfold Oper.quietAt; rw [exec_load_blk ho hx (hB q) Try.underlying53 rfl (by rw [Im.cells_size]; exact state_info)]; exact ⟨rfl, rfl⟩, h⟩

theorem im_okShip_none : Gm.okShip Gm.Ship.none := ⟨.inr rfl, by unfold Gm.inF Gm.Ship.none; decide, by unfold Gm.inF Gm.Ship.none; decide, by unfold Gm.slow Gm.Ship.none; decide, by unfold Gm.slow Gm.Ship.none; decide, by decide, by decide, by decide, by decide⟩
def Im.bad (d : Int) : Gm.G := { Im.bare 0 d with ship := Gm.upd (fun _ => Gm.Ship.none) 0 { Gm.Ship.none with on := true } }
theorem Im.bad_cells (d : Int) (s : Value) (r : Ros.R) : (Im.cells (Im.bare 0 d) s r).setIfInBounds 2 (.bool true) = Im.cells (Im.bad d) s r := by
  rw [Im.cells_set_g _ _ _ _ (by omega)]
  rfl
theorem Im.bad_no (d : Int) : ¬ Im.Ok (Im.bad d) Ros.new := fun h => absurd (h.2.2 0 (by omega)) (by show ¬ (true = decide ((0 : Int) ≤ -1)); decide)
theorem Im.bad_ty (d : Int) (hd : 0 ≤ d ∧ d ≤ 18446744073709551615) : Gm.ty (Im.bad d) := ⟨by show Gm.i64 0; unfold Gm.i64; omega, hd, fun i hi => by
  show Gm.tyShip (Gm.upd (fun _ => Gm.Ship.none) 0 { Gm.Ship.none with on := true } i)
  unfold Gm.upd
  by_cases e : i = 0
  · rw [if_pos e]; unfold Gm.tyShip Gm.i32 Gm.i64; decide
  · rw [if_neg e]; show Gm.tyShip Gm.Ship.none; unfold Gm.tyShip Gm.i32 Gm.i64; decide, fun i hi => absurd hi (Nat.not_lt_zero _)⟩
theorem Im.fresh_ok (d : Int) : Im.Ok (Im.bare 0 d) Ros.new := ⟨⟨by show (0 : Int) ≤ 0; decide, by show (0 : Int) ≤ 1048576; decide, by show 0 ≤ 32; decide, fun _ _ => im_okShip_none, fun i h => absurd h (Nat.not_lt_zero _)⟩, by decide +kernel, fun k _ => rfl⟩
theorem Im.fresh_len (d : Int) : (Im.put (Im.bare 0 d) Ros.new).length = 49 := by rfl

set_option maxRecDepth 100000 in
set_option maxHeartbeats 400000 in
theorem told7_any (w : World) :
    Calls Try.prog 28 #[] w fun e w' => e = .returned (.bool true) ∧ Below w.heap.size w w' := by
  have hd : 0 ≤ Dn.seed [97] ∧ Dn.seed [97] ≤ 18446744073709551615 := Dn.seed_bd _
  have cst := fun X => Lib.hid (start_any ⟨#[97]⟩ X (by decide))
  have csd := fun X => Lib.hid (refseed_any ⟨#[97]⟩ X (by decide))
  generalize Dn.seed [97] = d at hd cst csd
  rw [show Gm.new d = Im.bare 0 d from rfl] at cst
  have hok := Im.fresh_ok d
  have cpt := fun X => Lib.hid (put_made (Im.bare 0 d) Ros.new none 0 0 X hok hd rfl Lies.empty)
  have cget := fun A c X hc hL => Lib.hid (get_bare 0 d Ros.new A 49 c X (by decide) hd hok (Im.fresh_len d).symm hc hL)
  rw [Im.fresh_len] at cpt
  have cgn : ∀ X, Hid (Calls Try.prog 32 #[.slice none 0 0] X fun e w' => e = .returned (.tuple #[.agg (Im.cells Im.G0 (.slice none 0 0) Im.R0), .int .i64 2]) ∧ Below X.heap.size X w') := fun X => Lib.hid (get_nil X)
  generalize Im.G0 = z0 at cgn
  generalize Im.R0 = zr at cgn
  have cpn := fun X => Lib.hid (put_no (Im.bad d) Ros.new none 0 0 X (Im.bad_no d) (Im.bad_ty d hd) rfl (Nat.zero_le _) Lies.empty)
  have cof := fun X => Lib.hid (of_no (Im.bad d) Ros.new none 0 0 X (Im.bad_no d) (Im.bad_ty d hd) rfl (Nat.zero_le _) Lies.empty)
  have csm := fun X => Lib.hid (sum_nil X)
  have hset := Im.bad_cells d (.slice none 0 0) Ros.new
  have zon : ∀ s r, (Im.cells (Im.bare 0 d) s r)[2]? = some (.bool false) := fun s r => (Im.cells_ship (Im.bare 0 d) s r 0 0 (by omega) (by omega)).trans rfl
  have zdice : ∀ s r, (Im.cells (Im.bare 0 d) s r)[1]? = some (.int .u64 d) := fun s r => (Im.cells_g (Im.bare 0 d) s r 1 (by omega)).trans (Gm.cells_1 _ _)
  have zpeer : ∀ (s : Value) (_ : Unit), (Im.cells (Im.bare 0 d) s Ros.new)[66]? = some (.int .i64 (-1)) := fun s _ => (Im.cells_peer (Im.bare 0 d) s Ros.new 3 (by omega)).trans rfl
  have HS := Lib.hid hset
  generalize Im.bad d = g1 at *
  generalize Im.put (Im.bare 0 d) Ros.new = bs at *
  generalize Im.bare 0 d = g0 at *
  generalize Ros.new = r0 at *
  clear hd hok hset
  go_enter Try.func28, Try.ntmps28
  go_wp2_with (first | ((with_reducible refine im_load_state rfl rfl ?_); apply LoadIm.mk rfl; (focus (with_reducible exact T1.out)); dsimp only) | ((with_reducible refine im_load_state rfl rfl ?_); apply LoadIm.mk rfl; (focus (with_reducible exact T5.out)); dsimp only) | (with_reducible refine alloc_state rfl rfl ?_) | ((with_reducible refine state_store_new rfl rfl rfl rfl Im.zero_size rfl ?_)) | (go_at_call 74; ((with_reducible refine ((cst _).out).mono ?_); rintro e w1 ⟨rfl, hb⟩; have T1 := Lib.hid (Box.made w1 53 (Im.cells g0 (.slice none 0 0) r0)); have K1 := Lib.hid (hb.alloc hb.size (.cells (Im.cells g0 (.slice none 0 0) r0) 53)); have K1w := Lib.hid hb.size; clear hb)) | (go_at_call 29; ((with_reducible refine ((cpt _).out).mono ?_); rintro e w2 ⟨A2, c2, rfl, hc2, hL2, hb⟩; have T2 := Lib.hid (T1.out.below hb T1.out.lt); have K2 := Lib.hid (K1.out.trans (hb.mono K1.out.size)); have L2 := Lib.hid hL2; have C2 := Lib.hid hc2; have cg := cget A2 c2 _ C2.out L2.out; clear hc2 hL2 hb)) | (go_at_call 32; ((with_reducible refine (cg.out).mono ?_); rintro e w3 ⟨⟨S, rfl⟩, hb⟩; have T3 := Lib.hid ((T2.out.below hb T2.out.lt).alloc (.cells (Im.cells g0 (.slice (some ⟨S, 0, none⟩) 0 0) r0) 53)); have K3 := Lib.hid ((K2.out.trans (hb.mono K2.out.size)).alloc (Nat.le_trans K2.out.size hb.size) (.cells (Im.cells g0 (.slice (some ⟨S, 0, none⟩) 0 0) r0) 53)); have G3 := Lib.hid (Box.made w3 53 (Im.cells g0 (.slice (some ⟨S, 0, none⟩) 0 0) r0)); have l3 := Nat.lt_of_lt_of_le T2.out.lt hb.size; clear hb cg)) | (go_at_call 32; ((with_reducible refine ((cgn _).out).mono ?_); rintro e w4 ⟨rfl, hb⟩; have T4 := Lib.hid ((T3.out.below hb T3.out.lt).alloc (.cells (Im.cells z0 (.slice none 0 0) zr) 53)); have K4 := Lib.hid ((K3.out.trans (hb.mono K3.out.size)).alloc (Nat.le_trans K3.out.size hb.size) (.cells (Im.cells z0 (.slice none 0 0) zr) 53)); have G4 := Lib.hid ((G3.out.below hb G3.out.lt).alloc (.cells (Im.cells z0 (.slice none 0 0) zr) 53)); have t4 := (T4.out.cell 2).trans (zon _ _); have f4 := T4.out.free 2; have T5 := Lib.hid (show Box _ w1.heap.size 53 (Im.cells g1 (.slice none 0 0) r0) by (have h5 := T4.out.put 2 (.bool true)); rw [HS.out] at h5; exact h5); have K5 := Lib.hid (K4.out.setCell (p := ⟨w1.heap.size, 2, none⟩) (K1w.out) (.bool true)); have G5 := Lib.hid (G4.out.far (p := ⟨w1.heap.size, 2, none⟩) (show w3.heap.size ≠ w1.heap.size by omega) (.bool true)); clear hb)) | (go_at_call 29; ((with_reducible refine ((cpn _).out).mono ?_); rintro e w6 ⟨rfl, hb⟩; have T6 := Lib.hid (T5.out.below hb T5.out.lt); have G6 := Lib.hid (G5.out.below hb G5.out.lt); have K6 := Lib.hid (K5.out.trans (hb.mono K5.out.size)); have g6 := (G6.out.cell 1).trans (zdice _ _); have h6 := (G6.out.cell 66).trans (zpeer _ ()); clear hb)) | (go_at_call 36; ((with_reducible refine ((csd _).out).mono ?_); rintro e ws ⟨rfl, rfl⟩; skip)) | ((with_reducible refine im_load_state_g ?_ rfl ?_); (focus first | rfl | kernel_rfl | simp [Region.wanted, yielded]); apply LoadIm.mk rfl; (focus (with_reducible exact T6.out)); dsimp only) | (go_at_call 37; ((with_reducible refine ((cof _).out).mono ?_); rintro e w7 ⟨rfl, hb⟩; have K7 := Lib.hid (K6.out.trans (hb.mono K6.out.size)); clear hb)) | (go_at_call 35; ((with_reducible refine ((csm _).out).mono ?_); rintro e w8 ⟨rfl, hb⟩; have K8 := Lib.hid (K7.out.trans (hb.mono K7.out.size)); clear hb)))
  have z1 : ∀ q : Ext w6.heap.size w6, q.w.cell? ⟨w3.heap.size, 1, none⟩ = some (.int .u64 d) := fun q => q.cell G6.out.lt g6
  have z2 : ∀ q : Ext w6.heap.size w6, q.w.cell? ⟨w3.heap.size, 66, none⟩ = some (.int .i64 (-1)) := fun q => q.cell G6.out.lt h6
  have ZT := Lib.hid (fun q : Ext w6.heap.size w6 => T6.out.below q.h T6.out.lt)
  clear g6 h6 T5 K5 G5 T1 T2 T3 T4 K1 K2 K3 K4 G3 G4 L2 C2 t4 f4 l3 K1w cst cpt cget cgn cpn HS zon zdice zpeer
  refine wp_region_ext w6.heap.size w6 (by kernel_rfl) (by kernel_rfl) (Below.refl _ _) ?_
  repeat (first | (go_big_quiet_want; refine quiet_state rfl rfl ZT.out ?_; simp only [Act.put, List.setIfInBounds_toArray, List.set_cons_succ, List.set_cons_zero]; go_big_quiet_on) | go_big_quiet_step ((first | (go_at_call 36; with_reducible exact Calls.ext_same (csd _).out) | (go_at_call 37; with_reducible exact Calls.ext_of (Nat.le_refl _) (cof _).out) | (go_at_call 35; with_reducible exact Calls.ext_of (Nat.le_refl _) (csm _).out))))
  refine wpQuiet_nil ?_
  intro _ hw'
  obtain ⟨q, hw''⟩ := hw'
  subst hw''
  have KQ := Lib.hid (K6.out.trans (q.h.mono K6.out.size))
  go_wp2
  go_ret
  exact ⟨rfl, KQ.out⟩
end Go.Proofs.Ytbihnmingedgfaa
