/-
Several texts in one: It Qk Ix Ql Qg Ol Oz Qh Qm Bd Op Tj Iw Ob.
-/
import Derived.Test.YtbihnmingedgfaaMc
import Derived.Test.YtbihnmingedgfaaIu
import Derived.Test.YtbihnmingedgfaaQx
import Derived.Test.YtbihnmingedgfaaGr
import Derived.Test.YtbihnmingedgfaaEq
import Derived.Test.YtbihnmingedgfaaTk
import Derived.Test.YtbihnmingedgfaaIj
import Derived.BigQuiet
import Derived.Test.YtbihnmingedgfaaOw
import Derived.Deep.MidRow
import GoSem.Claim
import Derived.RowKit
import Derived.ChangeShapes
import Derived.Test.YtbihnmingedgfaaMw
import Derived.ProofKit
import Derived.OpenShut
import Derived.Carry
import Derived.Lib.SmallJoins
import Derived.ChangeOld
import Derived.ChangeArms
import Derived.Test.YtbihnmingedgfaaTa
import Derived.Test.YtbihnmingedgfaaTd
import Derived.Test.YtbihnmingedgfaaIg
import Derived.Test.YtbihnmingedgfaaIa
/-
The statements' own question of images.
-/


namespace Go.Proofs.Ytbihnmingedgfaa
open Go.RowKit Go.Shelf
set_option linter.unusedVariables false
set_option linter.unusedSimpArgs false

section
variable {ops : Array Oper} {Q : Exit → Act → World → Prop} {o : Oper} {rest : List Oper} {a : Act} {w : World} {x y : Operand}
theorem im_load_state_g (hw : Region.wanted o (yielded ops a.tmps) = true) (ho : o.op = .load 53 x) (h : LoadIm ops Q rest o.dst (a.eval x) 0 (fun g s r => Im.cells g s r) a w) : wpList Try.prog ops Q (o :: rest) a w := by
  obtain ⟨B, g, s, r, hx, hB, h⟩ := h
  refine wpList_load_part_g hw ho hx hB (Im.cells g s r).toList (fun j v hv => ?_) Try.underlying53 rfl (by rw [Array.length_toList, Im.cells_size]; exact state_info) (by rw [Array.toArray_toList]; exact h)
  rw [Nat.zero_add]
  simpa using hv
theorem state_store_new {v : World} {old : Array Value} {g : Gm.G} {s : Value} {r : Ros.R} (hgd : o.guard = none) (ho : o.op = .store 53 x y) (hx : a.eval x = .pointer (some ⟨v.heap.size, 0, none⟩)) (hy : a.eval y = .agg (Im.cells g s r))
    (hold : old.size = 76) (hs : s.oneCell' = true) (h : wpList Try.prog ops Q rest (a.put o.dst undef) (v.alloc (.cells (Im.cells g s r) 53))) : wpList Try.prog ops Q (o :: rest) a (v.alloc (.cells old 53)) :=
  wpList_store_new hgd ho hx hy rfl rfl (by rw [Im.cells_size]; exact state_info) (by rw [Im.cells_size]; exact hold) (im_cells_one _ _ _ hs) h
theorem state_store_zero {v : World} {old : Array Value} (hgd : o.guard = none) (ho : o.op = .store 53 x y) (hx : a.eval x = .pointer (some ⟨v.heap.size, 0, none⟩)) (hy : a.eval y = .agg Im.zero)
    (hold : old.size = 76) (h : wpList Try.prog ops Q rest (a.put o.dst undef) (v.alloc (.cells Im.zero 53))) : wpList Try.prog ops Q (o :: rest) a (v.alloc (.cells old 53)) :=
  wpList_store_new hgd ho hx hy rfl rfl (by rw [Im.zero_size]; exact state_info) (by rw [Im.zero_size]; exact hold) zero_one h
end

theorem quiet_state {B0 : Nat} {W : World} {o : Oper} {a : Act} {K : Act → Prop} {B : Nat} {g : Gm.G} {s : Value} {r : Ros.R} {x : Operand} (ho : o.op = .load 53 x) (hx : a.eval x = .pointer (some ⟨B, 0, none⟩)) (hB : ∀ q : Ext B0 W, Box q.w B 53 (Im.cells g s r)) (h : K (a.put o.dst (.agg (Im.cells g s r)))) :
    o.quiet Try.prog a (fun w' => ∃ q : Ext B0 W, w' = q.w) K :=
  ⟨_, fun w hw => by obtain ⟨q, e⟩ := hw; subst e; unfold Oper.quietAt; rw [exec_load_blk ho hx (hB q) Try.underlying53 rfl (by rw [Im.cells_size]; exact state_info)]; exact ⟨rfl, rfl⟩, h⟩

theorem im_okShip_none : Gm.okShip Gm.Ship.none := ⟨.inr rfl, by unfold Gm.inF Gm.Ship.none; decide, by unfold Gm.inF Gm.Ship.none; decide, by unfold Gm.slow Gm.Ship.none; decide, by unfold Gm.slow Gm.Ship.none; decide, by decide, by decide, by decide, by decide⟩
def Im.bad (d : Int) : Gm.G := { Im.bare 0 d with ship := Gm.upd (fun _ => Gm.Ship.none) 0 { Gm.Ship.none with on := true } }
theorem Im.bad_cells (d : Int) (s : Value) (r : Ros.R) : (Im.cells (Im.bare 0 d) s r).setIfInBounds 2 (.bool true) = Im.cells (Im.bad d) s r := by
  rw [Im.cells_set_g _ _ _ _ (by omega)]
  rfl
theorem Im.bad_no (d : Int) : ¬ Im.Ok (Im.bad d) Ros.new := fun h => absurd (h.2.2 0 (by omega)) (by show ¬ (true = decide ((0 : Int) ≤ -1)); decide)
theorem Im.bad_ty (d : Int) (hd : 0 ≤ d ∧ d ≤ 18446744073709551615) : Gm.ty (Im.bad d) := ⟨by show Gm.i64 0; unfold Gm.i64; omega, hd, fun i hi => by
  show Gm.tyShip (Gm.upd (fun _ => Gm.Ship.none) 0 { Gm.Ship.none with on := true } i)
  unfold Gm.upd
  by_cases e : i = 0
  · rw [if_pos e]; unfold Gm.tyShip Gm.i32 Gm.i64; decide
  · rw [if_neg e]; show Gm.tyShip Gm.Ship.none; unfold Gm.tyShip Gm.i32 Gm.i64; decide, fun i hi => absurd hi (Nat.not_lt_zero _)⟩
theorem Im.fresh_ok (d : Int) : Im.Ok (Im.bare 0 d) Ros.new := ⟨⟨by show (0 : Int) ≤ 0; decide, by show (0 : Int) ≤ 1048576; decide, by show 0 ≤ 32; decide, fun _ _ => im_okShip_none, fun i h => absurd h (Nat.not_lt_zero _)⟩, by decide +kernel, fun k _ => rfl⟩
theorem Im.fresh_len (d : Int) : (Im.put (Im.bare 0 d) Ros.new).length = 49 := by rfl

set_option maxRecDepth 100000 in
set_option maxHeartbeats 400000 in
theorem told7_any (w : World) :
    Calls Try.prog 28 #[] w fun e w' => e = .returned (.bool true) ∧ Below w.heap.size w w' := by
  have hd : 0 ≤ Dn.seed [97] ∧ Dn.seed [97] ≤ 18446744073709551615 := Dn.seed_bd _
  have cst := fun X => Lib.hid (start_any ⟨#[97]⟩ X (by decide))
  have csd := fun X => Lib.hid (refseed_any ⟨#[97]⟩ X (by decide))
  generalize Dn.seed [97] = d at hd cst csd
  rw [show Gm.new d = Im.bare 0 d from rfl] at cst
  have hok := Im.fresh_ok d
  have cpt := fun X => Lib.hid (put_made (Im.bare 0 d) Ros.new none 0 0 X hok hd rfl Lies.empty)
  have cget := fun A c X hc hL => Lib.hid (get_bare 0 d Ros.new A 49 c X (by decide) hd hok (Im.fresh_len d).symm hc hL)
  rw [Im.fresh_len] at cpt
  have cgn : ∀ X, Hid (Calls Try.prog 32 #[.slice none 0 0] X fun e w' => e = .returned (.tuple #[.agg (Im.cells Im.G0 (.slice none 0 0) Im.R0), .int .i64 2]) ∧ Below X.heap.size X w') := fun X => Lib.hid (get_nil X)
  generalize Im.G0 = z0 at cgn
  generalize Im.R0 = zr at cgn
  have cpn := fun X => Lib.hid (put_no (Im.bad d) Ros.new none 0 0 X (Im.bad_no d) (Im.bad_ty d hd) rfl (Nat.zero_le _) Lies.empty)
  have cof := fun X => Lib.hid (of_no (Im.bad d) Ros.new none 0 0 X (Im.bad_no d) (Im.bad_ty d hd) rfl (Nat.zero_le _) Lies.empty)
  have csm := fun X => Lib.hid (sum_nil X)
  have hset := Im.bad_cells d (.slice none 0 0) Ros.new
  have zon : ∀ s r, (Im.cells (Im.bare 0 d) s r)[2]? = some (.bool false) := fun s r => (Im.cells_ship (Im.bare 0 d) s r 0 0 (by omega) (by omega)).trans rfl
  have zdice : ∀ s r, (Im.cells (Im.bare 0 d) s r)[1]? = some (.int .u64 d) := fun s r => (Im.cells_g (Im.bare 0 d) s r 1 (by omega)).trans (Gm.cells_1 _ _)
  have zpeer : ∀ (s : Value) (_ : Unit), (Im.cells (Im.bare 0 d) s Ros.new)[66]? = some (.int .i64 (-1)) := fun s _ => (Im.cells_peer (Im.bare 0 d) s Ros.new 3 (by omega)).trans rfl
  have HS := Lib.hid hset
  generalize Im.bad d = g1 at *
  generalize Im.put (Im.bare 0 d) Ros.new = bs at *
  generalize Im.bare 0 d = g0 at *
  generalize Ros.new = r0 at *
  clear hd hok hset
  go_enter Try.func28, Try.ntmps28
  go_wp2_with (first | ((with_reducible refine im_load_state rfl rfl ?_); apply LoadIm.mk rfl; (focus (with_reducible exact T1.out)); dsimp only) | ((with_reducible refine im_load_state rfl rfl ?_); apply LoadIm.mk rfl; (focus (with_reducible exact T5.out)); dsimp only) | (with_reducible refine alloc_state rfl rfl ?_) | ((with_reducible refine state_store_new rfl rfl rfl rfl Im.zero_size rfl ?_)) | (go_at_call 74; ((with_reducible refine ((cst _).out).mono ?_); rintro e w1 ⟨rfl, hb⟩; have T1 := Lib.hid (Box.made w1 53 (Im.cells g0 (.slice none 0 0) r0)); have K1 := Lib.hid (hb.alloc hb.size (.cells (Im.cells g0 (.slice none 0 0) r0) 53)); have K1w := Lib.hid hb.size; clear hb)) | (go_at_call 29; ((with_reducible refine ((cpt _).out).mono ?_); rintro e w2 ⟨A2, c2, rfl, hc2, hL2, hb⟩; have T2 := Lib.hid (T1.out.below hb T1.out.lt); have K2 := Lib.hid (K1.out.trans (hb.mono K1.out.size)); have L2 := Lib.hid hL2; have C2 := Lib.hid hc2; have cg := cget A2 c2 _ C2.out L2.out; clear hc2 hL2 hb)) | (go_at_call 32; ((with_reducible refine (cg.out).mono ?_); rintro e w3 ⟨⟨S, rfl⟩, hb⟩; have T3 := Lib.hid ((T2.out.below hb T2.out.lt).alloc (.cells (Im.cells g0 (.slice (some ⟨S, 0, none⟩) 0 0) r0) 53)); have K3 := Lib.hid ((K2.out.trans (hb.mono K2.out.size)).alloc (Nat.le_trans K2.out.size hb.size) (.cells (Im.cells g0 (.slice (some ⟨S, 0, none⟩) 0 0) r0) 53)); have G3 := Lib.hid (Box.made w3 53 (Im.cells g0 (.slice (some ⟨S, 0, none⟩) 0 0) r0)); have l3 := Nat.lt_of_lt_of_le T2.out.lt hb.size; clear hb cg)) | (go_at_call 32; ((with_reducible refine ((cgn _).out).mono ?_); rintro e w4 ⟨rfl, hb⟩; have T4 := Lib.hid ((T3.out.below hb T3.out.lt).alloc (.cells (Im.cells z0 (.slice none 0 0) zr) 53)); have K4 := Lib.hid ((K3.out.trans (hb.mono K3.out.size)).alloc (Nat.le_trans K3.out.size hb.size) (.cells (Im.cells z0 (.slice none 0 0) zr) 53)); have G4 := Lib.hid ((G3.out.below hb G3.out.lt).alloc (.cells (Im.cells z0 (.slice none 0 0) zr) 53)); have t4 := (T4.out.cell 2).trans (zon _ _); have f4 := T4.out.free 2; have T5 := Lib.hid (show Box _ w1.heap.size 53 (Im.cells g1 (.slice none 0 0) r0) by (have h5 := T4.out.put 2 (.bool true)); rw [HS.out] at h5; exact h5); have K5 := Lib.hid (K4.out.setCell (p := ⟨w1.heap.size, 2, none⟩) (K1w.out) (.bool true)); have G5 := Lib.hid (G4.out.far (p := ⟨w1.heap.size, 2, none⟩) (show w3.heap.size ≠ w1.heap.size by omega) (.bool true)); clear hb)) | (go_at_call 29; ((with_reducible refine ((cpn _).out).mono ?_); rintro e w6 ⟨rfl, hb⟩; have T6 := Lib.hid (T5.out.below hb T5.out.lt); have G6 := Lib.hid (G5.out.below hb G5.out.lt); have K6 := Lib.hid (K5.out.trans (hb.mono K5.out.size)); have g6 := (G6.out.cell 1).trans (zdice _ _); have h6 := (G6.out.cell 66).trans (zpeer _ ()); clear hb)) | (go_at_call 36; ((with_reducible refine ((csd _).out).mono ?_); rintro e ws ⟨rfl, rfl⟩; skip)) | ((with_reducible refine im_load_state_g ?_ rfl ?_); (focus first | rfl | kernel_rfl | simp [Region.wanted, yielded]); apply LoadIm.mk rfl; (focus (with_reducible exact T6.out)); dsimp only) | (go_at_call 37; ((with_reducible refine ((cof _).out).mono ?_); rintro e w7 ⟨rfl, hb⟩; have K7 := Lib.hid (K6.out.trans (hb.mono K6.out.size)); clear hb)) | (go_at_call 35; ((with_reducible refine ((csm _).out).mono ?_); rintro e w8 ⟨rfl, hb⟩; have K8 := Lib.hid (K7.out.trans (hb.mono K7.out.size)); clear hb)))
  have z1 : ∀ q : Ext w6.heap.size w6, q.w.cell? ⟨w3.heap.size, 1, none⟩ = some (.int .u64 d) := fun q => q.cell G6.out.lt g6
  have z2 : ∀ q : Ext w6.heap.size w6, q.w.cell? ⟨w3.heap.size, 66, none⟩ = some (.int .i64 (-1)) := fun q => q.cell G6.out.lt h6
  have ZT := Lib.hid (fun q : Ext w6.heap.size w6 => T6.out.below q.h T6.out.lt)
  clear g6 h6 T5 K5 G5 T1 T2 T3 T4 K1 K2 K3 K4 G3 G4 L2 C2 t4 f4 l3 K1w cst cpt cget cgn cpn HS zon zdice zpeer
  refine wp_region_ext w6.heap.size w6 (by kernel_rfl) (by kernel_rfl) (Below.refl _ _) ?_
  repeat (first | (go_big_quiet_want; refine quiet_state rfl rfl ZT.out ?_; simp only [Act.put, List.setIfInBounds_toArray, List.set_cons_succ, List.set_cons_zero]; go_big_quiet_on) | go_big_quiet_step ((first | (go_at_call 36; with_reducible exact Calls.ext_same (csd _).out) | (go_at_call 37; with_reducible exact Calls.ext_of (Nat.le_refl _) (cof _).out) | (go_at_call 35; with_reducible exact Calls.ext_of (Nat.le_refl _) (csm _).out))))
  refine wpQuiet_nil ?_
  intro _ hw'
  obtain ⟨q, hw''⟩ := hw'
  subst hw''
  have KQ := Lib.hid (K6.out.trans (q.h.mono K6.out.size))
  go_wp2
  go_ret
  exact ⟨rfl, KQ.out⟩
end Go.Proofs.Ytbihnmingedgfaa

/-
The document's image: Get of a string.
-/


namespace Go.Proofs.Ytbihnmingedgfaa
open Go.RowKit Go.Shelf
set_option linter.unusedVariables false
set_option linter.unusedSimpArgs false

theorem tyShip_of {a b c d e f : Int} (he : 0 ≤ e ∧ e < 2 ^ (8 * 1)) (hf : 0 ≤ f ∧ f < 2 ^ (8 * 4)) : Gm.tyShip ⟨true, IntKind.i32.wrap a, IntKind.i32.wrap b, IntKind.i32.wrap c, IntKind.i32.wrap d, e, f⟩ := by
  unfold Gm.tyShip Gm.i32 Gm.i64
  dsimp only
  rw [IntKind.wrap_i32, IntKind.wrap_i32, IntKind.wrap_i32, IntKind.wrap_i32]
  omega
theorem tyShot_of {o a b c d e : Int} (ho : 0 ≤ o ∧ o < 2 ^ (8 * 1)) (he : 0 ≤ e ∧ e < 2 ^ (8 * 1)) : Gm.tyShot ⟨o, IntKind.i32.wrap a, IntKind.i32.wrap b, IntKind.i32.wrap c, IntKind.i32.wrap d, e⟩ := by
  unfold Gm.tyShot Gm.i32 Gm.i64
  dsimp only
  rw [IntKind.wrap_i32, IntKind.wrap_i32, IntKind.wrap_i32, IntKind.wrap_i32]
  omega

theorem Im.set_peer (g : Gm.G) (s : Value) (q : Ros.R) (k : Nat) (hk : k < 8) (p : Int) : (Im.cells g s q).setIfInBounds (60 + k * 2) (.int .i64 p) = Im.cells g s { q with peer := Ros.upd q.peer k p } := by
  rw [show 60 + k * 2 = 59 + (1 + k * 2) by omega, Im.cells_set_r, Ros.cells_setp _ k hk]
  rfl
theorem Im.set_gen (g : Gm.G) (s : Value) (q : Ros.R) (k : Nat) (hk : k < 8) (p n : Int) : (Im.cells g s { q with peer := Ros.upd q.peer k p }).setIfInBounds (60 + k * 2 + 1) (.int .i64 n) = Im.cells g s (Im.setSeat q k p n) := by
  rw [show 60 + k * 2 + 1 = 59 + (1 + k * 2 + 1) by omega, Im.cells_set_r, Ros.cells_setg _ k hk]
  rfl

set_option maxRecDepth 100000 in
set_option maxHeartbeats 8000000 in
theorem refgetst_any (l : List Int) (w : World) (hB : Im.IsBytes l) :
    Calls Try.prog 33 #[.string (strOfNums l)] w fun r w' =>
      (∃ g q A c, Im.get l = some (g, q) ∧ r = .returned (.tuple #[.agg (Im.cells g (.slice A g.shots.length c) q), .int .i64 0]) ∧ Lies w' w'.heap.size 6 A g.shots.length (Gm.shotCells g.shots) ∧ Below w.heap.size w w') ∨
      (Im.get l = none ∧ r = .returned (.tuple #[.agg Im.zero, .int .i64 2]) ∧ Below w.heap.size w w') := by
  have hr0 : ∀ m, some l = some m → Im.IsBytes m := fun m hm => by injection hm with hm; subst hm; exact hB
  have ST0 : Im.Sn (Im.dec l) (fun r => (Im.rdn 4 r).bind fun f => (Im.rdn 8 f.2).bind fun d => Im.fShips f.1 d.1 0 Im.ships0 d.2) (some l) := Im.dec_is l
  have ST1 := ST0.num (g := fun a r => (Im.rdn 8 r).bind fun d => Im.fShips a d.1 0 Im.ships0 d.2) 4 (fun r => rfl)
  have ST2 := ST1.num (g := fun a r => Im.fShips (Sx.num 4 (some l)) a 0 Im.ships0 r) 8 (fun r => rfl)
  have hB1 := Sx.rest_bytes (n := 4) hr0
  have hB2 := Sx.rest_bytes (n := 8) hB1
  have hn1 := Sx.num_lt (n := 4) hr0
  have hn2 := Sx.num_lt (n := 8) hB1
  have c1 := fun X hX => Lib.hid (rint_any 4 4 rfl (some l) (w.heap.size + 1) X (by decide) hr0 hX)
  have c2 := fun X hX => Lib.hid (rnum_any 8 8 rfl (Sx.rest 4 (some l)) (w.heap.size + 1) X (by decide) hB1 hX)
  generalize Sx.rest 8 (Sx.rest 4 (some l)) = o2 at *
  generalize Sx.num 8 (Sx.rest 4 (some l)) = dd at *
  generalize Sx.rest 4 (some l) = o1 at *
  generalize Sx.num 4 (some l) = fr at *
  have HST2 := Lib.hid ST2
  have HB1 := Lib.hid hB1
  have HB2 := Lib.hid hB2
  have HTF := Lib.hid (show Gm.i64 fr ∧ (0 ≤ dd ∧ dd ≤ 18446744073709551615) by unfold Gm.i64; omega)
  obtain ⟨zc, hzc⟩ : ∃ zc, zc = Im.zero := ⟨_, rfl⟩
  have Z0 := Lib.hid (((Box.made w 53 Im.zero).alloc (.cells #[.string (strOfNums l), .bool false] 127)).alloc (.cells Im.zero 53))
  have R0 := Lib.hid (show RIs (((w.alloc (.cells Im.zero 53)).alloc (.cells #[.string (strOfNums l), .bool false] 127)).alloc (.cells Im.zero 53)) (w.heap.size + 1) (some l) from (Box.made_at (n := w.heap.size + 1) (w.alloc (.cells Im.zero 53)) 127 #[.string (strOfNums l), .bool false] (by simp)).alloc _)
  have E0 := Lib.hid (Box.made_at (n := w.heap.size + 1 + 1) ((w.alloc (.cells Im.zero 53)).alloc (.cells #[.string (strOfNums l), .bool false] 127)) 53 (Im.cells Im.G0 (.slice none 0 0) Im.R0) (by simp))
  have K0 := Lib.hid (((one_below w (.cells Im.zero 53)).alloc (by simp) (.cells #[.string (strOfNums l), .bool false] 127)).alloc (by simp <;> omega) (.cells Im.zero 53))
  have G0 := Lib.hid (show GS w Im.G0 Im.R0 (some l) none (((w.alloc (.cells Im.zero 53)).alloc (.cells #[.string (strOfNums l), .bool false] 127)).alloc (.cells Im.zero 53)) from ⟨hr0, Z0.out, R0.out, ⟨none, 0, E0.out, ⟨rfl, .inl ⟨rfl, rfl⟩⟩, fun b hb => (by cases hb)⟩, K0.out⟩)
  generalize strOfNums l = sl at *
  clear ST0 ST1 ST2 hB1 hB2 hr0 Z0 R0 E0 K0 hn1 hn2
  go_enter Try.func33, Try.ntmps33
  go_upto_region 3 with (with_reducible refine alloc_state rfl rfl ?_)
  generalize ((w.alloc (.cells Im.zero 53)).alloc (.cells #[.string sl, .bool false] 127)).alloc (.cells Im.zero 53) = W0 at *
  go_upto_region 4 with (go_at_call 85; ((with_reducible refine ((c1 _ G0.out.rd).out).mono ?_); rintro e w1 ⟨rfl, h1, h2⟩; have GX := Lib.hid (G0.out.sol h2 h1 HB1.out); obtain ⟨Ax, cx, hBx, _, _⟩ := GX.out.ent; have bx := (hBx.cell 0).trans ((Im.cells_g _ _ _ 0 (by omega)).trans (Gm.cells_0 _ _)); have fx := hBx.free 0; have lx := hBx.lt; clear h1 h2 c1 hBx G0))
  have GA := Lib.hid (GX.out.set 0 (.int .i64 fr) (g' := { Im.G0 with frame := fr }) (q' := Im.R0) (fun sl => Im.cells_frame _ _ _ _) rfl)
  generalize w1.setCell ⟨w.heap.size + 1 + 1, 0, none⟩ (.int .i64 fr) = W1 at *
  clear bx fx lx GX
  go_upto_region 5 with (go_at_call 86; ((with_reducible refine ((c2 _ GA.out.rd).out).mono ?_); rintro e w2 ⟨rfl, h1, h2⟩; have GX := Lib.hid (GA.out.sol h2 h1 HB2.out); obtain ⟨Ax, cx, hBx, _, _⟩ := GX.out.ent; have bx := (hBx.cell 1).trans ((Im.cells_g _ _ _ 1 (by omega)).trans (Gm.cells_1 _ _)); have fx := hBx.free 1; have lx := hBx.lt; clear h1 h2 c2 hBx GA))
  have GA := Lib.hid (GX.out.set 1 (.int .u64 dd) (g' := (⟨fr, dd, Im.ships0, []⟩ : Gm.G)) (q' := Im.R0) (fun sl => Im.cells_dice _ _ _ _) rfl)
  generalize w2.setCell ⟨w.heap.size + 1 + 1, 1, none⟩ (.int .u64 dd) = W2 at *
  clear bx fx lx GX
  go_wp2
  go_loopw [6] (fun i wr => ∃ (k : Nat) (s : Nat → Gm.Ship) (o : Option (List Int)), k ≤ 8 ∧ i = .int .i64 k ∧ (∀ j, k ≤ j → s j = Gm.Ship.none) ∧ (∀ j, Gm.tyShip (s j)) ∧ Im.Sn (Im.dec l) (Im.fShips fr dd k s) o ∧ GS w ⟨fr, dd, s, []⟩ Im.R0 o none wr) (fun i _ => 8 - (intOf i).toNat)
  case atStart => exact ⟨0, Im.ships0, o2, by omega, rfl, fun _ _ => rfl, fun _ => by show Gm.tyShip Gm.Ship.none; unfold Gm.tyShip Gm.i32 Gm.i64 Gm.Ship.none; dsimp only; omega, HST2.out, GA.out⟩
  case round =>
    obtain ⟨k, s, o, hk, rfl, hz, hty, hst, hgs⟩ := hrel
    have GG := Lib.hid hgs
    have HZ := Lib.hid hz
    have HTY := Lib.hid hty
    clear hgs hz hty GA HST2
    by_cases hlt : k < 8
    · have hk8 : (k : Int) < 8 := by omega
      have hr0 := GG.out.bytes
      have st1 := hst.num (g := fun on r => if on = 0 then Im.fShips fr dd (k + 1) (Gm.upd s k Gm.Ship.none) r else if on = 1 then (Im.rdn 4 r).bind fun a => (Im.rdn 4 a.2).bind fun b => (Im.rdn 4 b.2).bind fun c => (Im.rdn 4 c.2).bind fun e => (Im.rdn 1 e.2).bind fun h => (Im.rdn 4 h.2).bind fun t =>
        Im.fShips fr dd (k + 1) (Gm.upd s k ⟨true, IntKind.i32.wrap a.1, IntKind.i32.wrap b.1, IntKind.i32.wrap c.1, IntKind.i32.wrap e.1, h.1, t.1⟩) t.2 else none) 1 (fun r => Im.fShips_step fr dd k hlt s r)
      have ca := fun X hX => Lib.hid (rint_any 1 1 rfl o (w.heap.size + 1) X (by decide) hr0 hX)
      have hrA := Sx.rest_bytes (n := 1) hr0
      have hbA := Sx.num_lt (n := 1) hr0
      generalize Sx.rest 1 o = oA at *
      generalize Sx.num 1 o = on at *
      have HRA := Lib.hid hrA
      clear hst hr0
      go_upto_region 9 with (go_at_call 85; ((with_reducible refine ((ca _ GG.out.rd).out).mono ?_); rintro e w3 ⟨rfl, h1, h2⟩; have G3 := Lib.hid (GG.out.sol h2 h1 HRA.out); clear h1 h2 ca GG))
      by_cases hon : 1 < on
      · have d1 : decide (1 < on) = true := decide_eq_true hon
        have hne : (on != 1) = true := by simp; omega
        have HS2 := Lib.hid (show Im.Sn (Im.dec l) (Im.fShips fr dd (k + 1) s) none from st1.bad (fun r => by rw [if_neg (by omega), if_neg (by omega)]))
        obtain ⟨str, bb, hs⟩ := G3.out.rd.box
        have r0 := hs.cell 1
        have r1 : w3.cell? ⟨w.heap.size + 1, 1, none⟩ = some (.bool bb) := r0
        have r2 := hs.free 1
        have G6 := Lib.hid (G3.out.setrd (.bool true) G3.out.rd.bad (fun m hm => (by cases hm)))
        clear hs st1 hon r0
        cases bb
        all_goals
          go_wp2
          go_roundw
          case rel => exact ⟨k + 1, s, none, by omega, by go_num, fun j hj => HZ.out j (by omega), HTY.out, HS2.out, G6.out⟩
          case measure => simp [intOf]; omega
      have d1 : decide (1 < on) = false := decide_eq_false hon
      have G4 := Lib.hid (show ∀ bb, w3.cell? ⟨w.heap.size + 1, 1, none⟩ = some (.bool bb) → GS w ⟨fr, dd, s, []⟩ Im.R0 oA none (w3.setCell ⟨w.heap.size + 1, 1, none⟩ (.bool bb)) from fun bb hbb => by
        refine G3.out.setrd (.bool bb) ?_ G3.out.bytes
        cases oA with
        | none =>
          obtain ⟨str, hs⟩ := G3.out.rd
          have := (hs.cell 1).symm.trans hbb
          simp at this
          subst this
          exact ⟨str, hs.put 1 (.bool true)⟩
        | some r =>
          have hs : Box w3 (w.heap.size + 1) 127 #[.string (strOfNums r), .bool false] := G3.out.rd
          have := (hs.cell 1).symm.trans hbb
          simp at this
          subst this
          exact hs.put 1 (.bool false))
      obtain ⟨str, bb, hs⟩ := G3.out.rd.box
      have r1 : w3.cell? ⟨w.heap.size + 1, 1, none⟩ = some (.bool bb) := hs.cell 1
      have r2 := hs.free 1
      have r3 := hs.lt
      have G5 := Lib.hid (G4.out bb r1)
      clear hs G4
      by_cases hon0 : on = 0
      · subst hon0
        have HS2 := Lib.hid (show Im.Sn (Im.dec l) (Im.fShips fr dd (k + 1) s) oA from st1.to (fun r => by
          rw [if_pos rfl]
          have e : Gm.upd s k Gm.Ship.none = s := by have := Gm.upd_self s k; rwa [HZ.out k (Nat.le_refl _)] at this
          rw [e]))
        clear st1 hon
        cases bb
        all_goals
          go_wp2
          go_roundw
          case rel => exact ⟨k + 1, s, oA, by omega, by go_num, fun j hj => HZ.out j (by omega), HTY.out, HS2.out, G5.out⟩
          case measure => simp [intOf]; omega
      obtain rfl : on = 1 := by omega
      have st2 := st1.to (f' := fun r => (Im.rdn 4 r).bind fun a => (Im.rdn 4 a.2).bind fun b => (Im.rdn 4 b.2).bind fun c => (Im.rdn 4 c.2).bind fun e => (Im.rdn 1 e.2).bind fun h => (Im.rdn 4 h.2).bind fun t =>
        Im.fShips fr dd (k + 1) (Gm.upd s k ⟨true, IntKind.i32.wrap a.1, IntKind.i32.wrap b.1, IntKind.i32.wrap c.1, IntKind.i32.wrap e.1, h.1, t.1⟩) t.2) (fun r => by rw [if_neg (by omega), if_pos rfl])
      have hr0 := HRA.out
      clear st1 hon hon0
      have st3 := st2.num (g := fun a r => (Im.rdn 4 r).bind fun b2 => (Im.rdn 4 b2.2).bind fun b3 => (Im.rdn 4 b3.2).bind fun b4 => (Im.rdn 1 b4.2).bind fun b5 => (Im.rdn 4 b5.2).bind fun b6 => Im.fShips fr dd (k + 1) (Gm.upd s k ⟨true, (IntKind.i32.wrap a), (IntKind.i32.wrap b2.1), (IntKind.i32.wrap b3.1), (IntKind.i32.wrap b4.1), b5.1, b6.1⟩) b6.2) 4 (fun r => rfl)
      have ca1 := fun X hX => Lib.hid (rfour_any oA (w.heap.size + 1) X hr0 hX)
      have hr1 := Sx.rest_bytes (n := 4) hr0
      have hb1 := Sx.num_lt (n := 4) hr0
      generalize Sx.rest 4 oA = oB at *
      generalize Sx.num 4 oA = v1 at *
      have H1 := Lib.hid hr1
      have st4 := st3.num (g := fun a r => (Im.rdn 4 r).bind fun b3 => (Im.rdn 4 b3.2).bind fun b4 => (Im.rdn 1 b4.2).bind fun b5 => (Im.rdn 4 b5.2).bind fun b6 => Im.fShips fr dd (k + 1) (Gm.upd s k ⟨true, (IntKind.i32.wrap v1), (IntKind.i32.wrap a), (IntKind.i32.wrap b3.1), (IntKind.i32.wrap b4.1), b5.1, b6.1⟩) b6.2) 4 (fun r => rfl)
      have ca2 := fun X hX => Lib.hid (rfour_any oB (w.heap.size + 1) X hr1 hX)
      have hr2 := Sx.rest_bytes (n := 4) hr1
      have hb2 := Sx.num_lt (n := 4) hr1
      generalize Sx.rest 4 oB = oC at *
      generalize Sx.num 4 oB = v2 at *
      have H2 := Lib.hid hr2
      have st5 := st4.num (g := fun a r => (Im.rdn 4 r).bind fun b4 => (Im.rdn 1 b4.2).bind fun b5 => (Im.rdn 4 b5.2).bind fun b6 => Im.fShips fr dd (k + 1) (Gm.upd s k ⟨true, (IntKind.i32.wrap v1), (IntKind.i32.wrap v2), (IntKind.i32.wrap a), (IntKind.i32.wrap b4.1), b5.1, b6.1⟩) b6.2) 4 (fun r => rfl)
      have ca3 := fun X hX => Lib.hid (rfour_any oC (w.heap.size + 1) X hr2 hX)
      have hr3 := Sx.rest_bytes (n := 4) hr2
      have hb3 := Sx.num_lt (n := 4) hr2
      generalize Sx.rest 4 oC = oD at *
      generalize Sx.num 4 oC = v3 at *
      have H3 := Lib.hid hr3
      have st6 := st5.num (g := fun a r => (Im.rdn 1 r).bind fun b5 => (Im.rdn 4 b5.2).bind fun b6 => Im.fShips fr dd (k + 1) (Gm.upd s k ⟨true, (IntKind.i32.wrap v1), (IntKind.i32.wrap v2), (IntKind.i32.wrap v3), (IntKind.i32.wrap a), b5.1, b6.1⟩) b6.2) 4 (fun r => rfl)
      have ca4 := fun X hX => Lib.hid (rfour_any oD (w.heap.size + 1) X hr3 hX)
      have hr4 := Sx.rest_bytes (n := 4) hr3
      have hb4 := Sx.num_lt (n := 4) hr3
      generalize Sx.rest 4 oD = oE at *
      generalize Sx.num 4 oD = v4 at *
      have H4 := Lib.hid hr4
      have st7 := st6.num (g := fun a r => (Im.rdn 4 r).bind fun b6 => Im.fShips fr dd (k + 1) (Gm.upd s k ⟨true, (IntKind.i32.wrap v1), (IntKind.i32.wrap v2), (IntKind.i32.wrap v3), (IntKind.i32.wrap v4), a, b6.1⟩) b6.2) 1 (fun r => rfl)
      have ca5 := fun X hX => Lib.hid (rint_any 1 1 rfl oE (w.heap.size + 1) X (by decide) hr4 hX)
      have hr5 := Sx.rest_bytes (n := 1) hr4
      have hb5 := Sx.num_lt (n := 1) hr4
      generalize Sx.rest 1 oE = oF at *
      generalize Sx.num 1 oE = v5 at *
      have H5 := Lib.hid hr5
      have st8 := st7.num (g := fun a r => Im.fShips fr dd (k + 1) (Gm.upd s k ⟨true, (IntKind.i32.wrap v1), (IntKind.i32.wrap v2), (IntKind.i32.wrap v3), (IntKind.i32.wrap v4), v5, a⟩) r) 4 (fun r => rfl)
      have ca6 := fun X hX => Lib.hid (rint_any 4 4 rfl oF (w.heap.size + 1) X (by decide) hr5 hX)
      have hr6 := Sx.rest_bytes (n := 4) hr5
      have hb6 := Sx.num_lt (n := 4) hr5
      generalize Sx.rest 4 oF = oG at *
      generalize Sx.num 4 oF = v6 at *
      have H6 := Lib.hid hr6
      have HS2 := Lib.hid st8
      have HTS := Lib.hid (show Gm.tyShip ⟨true, IntKind.i32.wrap v1, IntKind.i32.wrap v2, IntKind.i32.wrap v3, IntKind.i32.wrap v4, v5, v6⟩ from tyShip_of hb5 hb6)
      generalize IntKind.i32.wrap v1 = x1 at *
      generalize IntKind.i32.wrap v2 = x2 at *
      generalize IntKind.i32.wrap v3 = x3 at *
      generalize IntKind.i32.wrap v4 = x4 at *
      clear st2 st3 st4 st5 st6 st7 st8 hr1 hb1 hr2 hb2 hr3 hb3 hr4 hb4 hr5 hb5 hr6 hb6 hr0
      cases bb
      all_goals
        go_upto_region 11 with fail
        generalize w3.setCell ⟨w.heap.size + 1, 1, none⟩ (.bool _) = W4 at *
        clear G3 r1 r2 r3
        go_upto_region 12 with (first | (refine wpList_build_is rfl (t := 26) (vs := [(0, .bool true), (1, .int .i32 x1)]) rfl rfl (ship_built1 x1) ?_) | (go_at_call 87; ((with_reducible refine ((ca1 _ G5.out.rd).out).mono ?_); rintro e w4 ⟨rfl, h1, h2⟩; have G6 := Lib.hid (G5.out.sol h2 h1 H1.out); clear h1 h2 ca1 G5)))
        have GA := Lib.hid (G6.out.mark (.cells #[.bool true, .int .i32 x1, .int .i32 0, .int .i32 0, .int .i32 0, .int .i64 0, .int .i64 0] 26))
        have QA := Lib.hid (Box.made w4 26 #[.bool true, .int .i32 x1, .int .i32 0, .int .i32 0, .int .i32 0, .int .i64 0, .int .i64 0])
        have bq1 : w.heap.size + 1 + 1 < w4.heap.size := by obtain ⟨_, _, hx, _, _⟩ := G6.out.ent; exact hx.lt
        have bq2 : w4.heap.size ≠ w.heap.size + 1 := by omega
        generalize w4.alloc (.cells #[.bool true, .int .i32 x1, .int .i32 0, .int .i32 0, .int .i32 0, .int .i64 0, .int .i64 0] 26) = W5 at *
        generalize w4.heap.size = BQ at *
        clear G6
        go_upto_region 13 with (go_at_call 87; ((with_reducible refine ((ca2 _ GA.out.rd).out).mono ?_); rintro e w6 ⟨rfl, h1, h2⟩; have GX := Lib.hid (GA.out.sol h2 h1 H2.out); have QX := Lib.hid (QA.out.sol h2 bq2); have qx := QX.out.cell; have fx := QX.out.free; have lx := QX.out.lt; clear h1 h2 ca2 GA QA))
        have GA := Lib.hid (GX.out.off QX.out (by decide) (by decide) (by omega) 2 (.int .i32 x2))
        have QA := Lib.hid (QX.out.put 2 (.int .i32 x2))
        generalize w6.setCell ⟨BQ, 2, none⟩ (.int .i32 x2) = W6 at *
        clear qx fx lx GX QX
        go_upto_region 14 with (go_at_call 87; ((with_reducible refine ((ca3 _ GA.out.rd).out).mono ?_); rintro e w7 ⟨rfl, h1, h2⟩; have GX := Lib.hid (GA.out.sol h2 h1 H3.out); have QX := Lib.hid (QA.out.sol h2 bq2); have qx := QX.out.cell; have fx := QX.out.free; have lx := QX.out.lt; clear h1 h2 ca3 GA QA))
        have GA := Lib.hid (GX.out.off QX.out (by decide) (by decide) (by omega) 3 (.int .i32 x3))
        have QA := Lib.hid (QX.out.put 3 (.int .i32 x3))
        generalize w7.setCell ⟨BQ, 3, none⟩ (.int .i32 x3) = W7 at *
        clear qx fx lx GX QX
        go_upto_region 15 with (go_at_call 87; ((with_reducible refine ((ca4 _ GA.out.rd).out).mono ?_); rintro e w8 ⟨rfl, h1, h2⟩; have GX := Lib.hid (GA.out.sol h2 h1 H4.out); have QX := Lib.hid (QA.out.sol h2 bq2); have qx := QX.out.cell; have fx := QX.out.free; have lx := QX.out.lt; clear h1 h2 ca4 GA QA))
        have GA := Lib.hid (GX.out.off QX.out (by decide) (by decide) (by omega) 4 (.int .i32 x4))
        have QA := Lib.hid (QX.out.put 4 (.int .i32 x4))
        generalize w8.setCell ⟨BQ, 4, none⟩ (.int .i32 x4) = W8 at *
        clear qx fx lx GX QX
        go_upto_region 16 with (go_at_call 85; ((with_reducible refine ((ca5 _ GA.out.rd).out).mono ?_); rintro e w9 ⟨rfl, h1, h2⟩; have GX := Lib.hid (GA.out.sol h2 h1 H5.out); have QX := Lib.hid (QA.out.sol h2 bq2); have qx := QX.out.cell; have fx := QX.out.free; have lx := QX.out.lt; clear h1 h2 ca5 GA QA))
        have GA := Lib.hid (GX.out.off QX.out (by decide) (by decide) (by omega) 5 (.int .i64 v5))
        have QA := Lib.hid (QX.out.put 5 (.int .i64 v5))
        generalize w9.setCell ⟨BQ, 5, none⟩ (.int .i64 v5) = W9 at *
        clear qx fx lx GX QX
        go_upto_region 17 with (go_at_call 85; ((with_reducible refine ((ca6 _ GA.out.rd).out).mono ?_); rintro e w10 ⟨rfl, h1, h2⟩; have GX := Lib.hid (GA.out.sol h2 h1 H6.out); have QX := Lib.hid (QA.out.sol h2 bq2); have qx := QX.out.cell; have fx := QX.out.free; have lx := QX.out.lt; clear h1 h2 ca6 GA QA))
        have GA := Lib.hid (GX.out.off QX.out (by decide) (by decide) (by omega) 6 (.int .i64 v6))
        have QA := Lib.hid (QX.out.put 6 (.int .i64 v6))
        generalize w10.setCell ⟨BQ, 6, none⟩ (.int .i64 v6) = W10 at *
        clear qx fx lx GX QX
        have QE := Lib.hid (show Box W10 BQ 26 #[.bool true, .int .i32 x1, .int .i32 x2, .int .i32 x3, .int .i32 x4, .int .i64 v5, .int .i64 v6] from QA.out)
        obtain ⟨Ax, cx, hBx, _, _⟩ := GA.out.ent
        obtain ⟨C, hC⟩ : ∃ C, C = Im.cells ⟨fr, dd, s, []⟩ (.slice Ax (Gm.G.shots ⟨fr, dd, s, []⟩).length cx) Im.R0 := ⟨_, rfl⟩
        rw [← hC] at hBx
        have qe := QE.out.cell
        have bc := hBx.cell
        have bf := hBx.free
        have bl := hBx.lt
        have ql := QE.out.lt
        have qs := HZ.out k (Nat.le_refl _)
        have q0 : C[2 + k * 7]? = some (.bool false) := by rw [hC]; exact (Im.cells_ship _ _ _ k 0 hlt (by omega)).trans (by show (s k).cells[0]? = _; rw [qs]; rfl)
        have q1 : C[2 + k * 7 + 1]? = some (.int .i32 0) := by rw [hC]; exact (Im.cells_ship _ _ _ k 1 hlt (by omega)).trans (by show (s k).cells[1]? = _; rw [qs]; rfl)
        have q2 : C[2 + k * 7 + 2]? = some (.int .i32 0) := by rw [hC]; exact (Im.cells_ship _ _ _ k 2 hlt (by omega)).trans (by show (s k).cells[2]? = _; rw [qs]; rfl)
        have q3 : C[2 + k * 7 + 3]? = some (.int .i32 0) := by rw [hC]; exact (Im.cells_ship _ _ _ k 3 hlt (by omega)).trans (by show (s k).cells[3]? = _; rw [qs]; rfl)
        have q4 : C[2 + k * 7 + 4]? = some (.int .i32 0) := by rw [hC]; exact (Im.cells_ship _ _ _ k 4 hlt (by omega)).trans (by show (s k).cells[4]? = _; rw [qs]; rfl)
        have q5 : C[2 + k * 7 + 5]? = some (.int .i64 0) := by rw [hC]; exact (Im.cells_ship _ _ _ k 5 hlt (by omega)).trans (by show (s k).cells[5]? = _; rw [qs]; rfl)
        have q6 : C[2 + k * 7 + 6]? = some (.int .i64 0) := by rw [hC]; exact (Im.cells_ship _ _ _ k 6 hlt (by omega)).trans (by show (s k).cells[6]? = _; rw [qs]; rfl)
        clear hC qs
        obtain ⟨V, hV⟩ : ∃ V, V = stored W10 (w.heap.size + 1 + 1) k ⟨true, x1, x2, x3, x4, v5, v6⟩ := ⟨_, rfl⟩
        have GV := Lib.hid (show GS w ⟨fr, dd, Gm.upd s k ⟨true, x1, x2, x3, x4, v5, v6⟩, []⟩ Im.R0 oG none V from by rw [hV]; exact (GA.out.setship hlt ⟨true, x1, x2, x3, x4, v5, v6⟩).unmark)
        simp only [stored] at hV
        have HV := Lib.hid hV
        clear hV hBx QA QE GA
        go_upto_region 7 with fail
        rw [← HV.out]
        clear HV bc bf bl qe ql q0 q1 q2 q3 q4 q5 q6
        go_wp2
        go_roundw
        case rel => exact ⟨k + 1, _, oG, by omega, by go_num, fun j hj => by rw [Gm.upd_other _ _ (by omega)]; exact HZ.out j (by omega), fun j => by (by_cases e : j = k); (rw [e, Gm.upd_same]; exact HTS.out); (rw [Gm.upd_other _ _ e]; exact HTY.out j), HS2.out, GV.out⟩
        case measure => simp [intOf]; omega
    · have hk8 : ¬ (k : Int) < 8 := by omega
      obtain rfl : k = 8 := by omega
      have hbo := GG.out.bytes
      have st1 := hst.to (fun r => Im.fShips_end fr dd s r)
      have st2 := st1.num (g := fun a r => Im.fShots fr dd s a.toNat 0 [] r) 1 (fun r => rfl)
      have cn := fun X hX => Lib.hid (rint_any 1 1 rfl o (w.heap.size + 1) X (by decide) hbo hX)
      have hb1 := Sx.rest_bytes (n := 1) hbo
      have hn := Sx.num_lt (n := 1) hbo
      generalize Sx.rest 1 o = o3 at *
      generalize Sx.num 1 o = nn at *
      obtain ⟨N, rfl⟩ := Int.eq_ofNat_of_zero_le hn.1
      rw [Int.toNat_natCast] at st2
      have hN : N < 256 := by have := hn.2; omega
      have HST3 := Lib.hid st2
      have HB3 := Lib.hid hb1
      clear st1 st2 hb1 hn hbo hst HZ
      go_wp2_with (go_at_call 85; ((with_reducible refine ((cn _ GG.out.rd).out).mono ?_); rintro e w3 ⟨rfl, h1, h2⟩; have G3 := Lib.hid (GG.out.sol h2 h1 HB3.out); clear h1 h2 cn))
      go_loopw [10] (fun i wr => ∃ (k : Nat) (acc : List Gm.Shot) (o : Option (List Int)), k ≤ N ∧ i = .int .i64 k ∧ acc.length = k ∧ (∀ x ∈ acc, Gm.tyShot x) ∧ Im.Sn (Im.dec l) (Im.fShots fr dd s N k acc) o ∧ GS w ⟨fr, dd, s, acc⟩ Im.R0 o none wr) (fun i _ => N - (intOf i).toNat)
      case atStart => exact ⟨0, [], o3, Nat.zero_le _, rfl, rfl, (fun _ h => (by cases h)), HST3.out, G3.out⟩
      case round =>
        obtain ⟨k, acc, o, hk, rfl, hacc, hat, hst, hgi⟩ := hrel
        have GG := Lib.hid hgi
        have HST := Lib.hid hst
        have HAT := Lib.hid hat
        clear hgi hst G3 HST3 hat
        go_upto_region 20 with fail
        go_cut [77] from 68 to 77 (fun b wx => b = .bool (decide (k < N ∧ o.isSome = true)) ∧ wx = wr)
        case first =>
          by_cases hlt : k < N
          · have hk8 : (k : Int) < N := by omega
            cases o with
            | none =>
              obtain ⟨s, hs⟩ := GG.out.rd
              have r1 := hs.cell 1
              have r3 := hs.lt
              go_wp2_with fail
              go_meet
              exact ⟨by simp, rfl⟩
            | some r =>
              have hs : Box wr (w.heap.size + 1) 127 #[.string (strOfNums r), .bool false] := GG.out.rd
              have r1 := hs.cell 1
              have r3 := hs.lt
              go_wp2_with fail
              go_meet
              exact ⟨by simp [hlt], rfl⟩
          · have hk8 : ¬ (k : Int) < N := by omega
            go_wp2_with fail
            go_meet
            exact ⟨by simp [hlt], rfl⟩
        case rest =>
        obtain ⟨rfl, rfl⟩ := hcut
        by_cases hgo : k < N ∧ o.isSome = true
        · rw [decide_eq_true hgo]
          obtain ⟨hlt, hso⟩ := hgo
          obtain ⟨r, rfl⟩ := Option.isSome_iff_exists.1 hso
          have hr0 := GG.out.bytes
          have st2 := HST.out.to (fun r => Im.fShots_step fr dd s N k hlt acc r)
          generalize ho0 : some r = oA at *
          have st3 := st2.num (g := fun a r => (Im.rdn 4 r).bind fun b2 => (Im.rdn 4 b2.2).bind fun b3 => (Im.rdn 4 b3.2).bind fun b4 => (Im.rdn 4 b4.2).bind fun b5 => (Im.rdn 1 b5.2).bind fun b6 => Im.fShots fr dd s N (k + 1) (acc ++ [⟨a, (IntKind.i32.wrap b2.1), (IntKind.i32.wrap b3.1), (IntKind.i32.wrap b4.1), (IntKind.i32.wrap b5.1), b6.1⟩]) b6.2) 1 (fun r => rfl)
          have ca1 := fun X hX => Lib.hid (rint_any 1 1 rfl oA (w.heap.size + 1) X (by decide) hr0 hX)
          have hr1 := Sx.rest_bytes (n := 1) hr0
          have hb1 := Sx.num_lt (n := 1) hr0
          generalize Sx.rest 1 oA = oB at *
          generalize Sx.num 1 oA = v1 at *
          have H1 := Lib.hid hr1
          have st4 := st3.num (g := fun a r => (Im.rdn 4 r).bind fun b3 => (Im.rdn 4 b3.2).bind fun b4 => (Im.rdn 4 b4.2).bind fun b5 => (Im.rdn 1 b5.2).bind fun b6 => Im.fShots fr dd s N (k + 1) (acc ++ [⟨v1, (IntKind.i32.wrap a), (IntKind.i32.wrap b3.1), (IntKind.i32.wrap b4.1), (IntKind.i32.wrap b5.1), b6.1⟩]) b6.2) 4 (fun r => rfl)
          have ca2 := fun X hX => Lib.hid (rfour_any oB (w.heap.size + 1) X hr1 hX)
          have hr2 := Sx.rest_bytes (n := 4) hr1
          have hb2 := Sx.num_lt (n := 4) hr1
          generalize Sx.rest 4 oB = oC at *
          generalize Sx.num 4 oB = v2 at *
          have H2 := Lib.hid hr2
          have st5 := st4.num (g := fun a r => (Im.rdn 4 r).bind fun b4 => (Im.rdn 4 b4.2).bind fun b5 => (Im.rdn 1 b5.2).bind fun b6 => Im.fShots fr dd s N (k + 1) (acc ++ [⟨v1, (IntKind.i32.wrap v2), (IntKind.i32.wrap a), (IntKind.i32.wrap b4.1), (IntKind.i32.wrap b5.1), b6.1⟩]) b6.2) 4 (fun r => rfl)
          have ca3 := fun X hX => Lib.hid (rfour_any oC (w.heap.size + 1) X hr2 hX)
          have hr3 := Sx.rest_bytes (n := 4) hr2
          have hb3 := Sx.num_lt (n := 4) hr2
          generalize Sx.rest 4 oC = oD at *
          generalize Sx.num 4 oC = v3 at *
          have H3 := Lib.hid hr3
          have st6 := st5.num (g := fun a r => (Im.rdn 4 r).bind fun b5 => (Im.rdn 1 b5.2).bind fun b6 => Im.fShots fr dd s N (k + 1) (acc ++ [⟨v1, (IntKind.i32.wrap v2), (IntKind.i32.wrap v3), (IntKind.i32.wrap a), (IntKind.i32.wrap b5.1), b6.1⟩]) b6.2) 4 (fun r => rfl)
          have ca4 := fun X hX => Lib.hid (rfour_any oD (w.heap.size + 1) X hr3 hX)
          have hr4 := Sx.rest_bytes (n := 4) hr3
          have hb4 := Sx.num_lt (n := 4) hr3
          generalize Sx.rest 4 oD = oE at *
          generalize Sx.num 4 oD = v4 at *
          have H4 := Lib.hid hr4
          have st7 := st6.num (g := fun a r => (Im.rdn 1 r).bind fun b6 => Im.fShots fr dd s N (k + 1) (acc ++ [⟨v1, (IntKind.i32.wrap v2), (IntKind.i32.wrap v3), (IntKind.i32.wrap v4), (IntKind.i32.wrap a), b6.1⟩]) b6.2) 4 (fun r => rfl)
          have ca5 := fun X hX => Lib.hid (rfour_any oE (w.heap.size + 1) X hr4 hX)
          have hr5 := Sx.rest_bytes (n := 4) hr4
          have hb5 := Sx.num_lt (n := 4) hr4
          generalize Sx.rest 4 oE = oF at *
          generalize Sx.num 4 oE = v5 at *
          have H5 := Lib.hid hr5
          have st8 := st7.num (g := fun a r => Im.fShots fr dd s N (k + 1) (acc ++ [⟨v1, (IntKind.i32.wrap v2), (IntKind.i32.wrap v3), (IntKind.i32.wrap v4), (IntKind.i32.wrap v5), a⟩]) r) 1 (fun r => rfl)
          have ca6 := fun X hX => Lib.hid (rint_any 1 1 rfl oF (w.heap.size + 1) X (by decide) hr5 hX)
          have hr6 := Sx.rest_bytes (n := 1) hr5
          have hb6 := Sx.num_lt (n := 1) hr5
          generalize Sx.rest 1 oF = oG at *
          generalize Sx.num 1 oF = v6 at *
          have H6 := Lib.hid hr6
          have HS2 := Lib.hid st8
          have HTS := Lib.hid (show Gm.tyShot ⟨v1, IntKind.i32.wrap v2, IntKind.i32.wrap v3, IntKind.i32.wrap v4, IntKind.i32.wrap v5, v6⟩ from tyShot_of hb1 hb6)
          generalize IntKind.i32.wrap v2 = x2 at *
          generalize IntKind.i32.wrap v3 = x3 at *
          generalize IntKind.i32.wrap v4 = x4 at *
          generalize IntKind.i32.wrap v5 = x5 at *
          clear st2 st3 st4 st5 st6 st7 st8 hr1 hb1 hr2 hb2 hr3 hb3 hr4 hb4 hr5 hb5 hr6 hb6 hr0 HST ho0 hso
          go_upto_region 23 with (first | (refine wpList_build_is rfl (t := 108) (vs := [(0, .int .i64 v1)]) rfl rfl (shot_built1 v1) ?_) | (go_at_call 85; ((with_reducible refine ((ca1 _ GG.out.rd).out).mono ?_); rintro e w4 ⟨rfl, h1, h2⟩; have G6 := Lib.hid (GG.out.sol h2 h1 H1.out); clear h1 h2 ca1 GG)))
          have GA := Lib.hid (G6.out.mark (.cells #[.int .i64 v1, .int .i32 0, .int .i32 0, .int .i32 0, .int .i32 0, .int .i64 0] 108))
          have QA := Lib.hid (Box.made w4 108 #[.int .i64 v1, .int .i32 0, .int .i32 0, .int .i32 0, .int .i32 0, .int .i64 0])
          have bq1 : w.heap.size + 1 + 1 < w4.heap.size := by obtain ⟨_, _, hx, _, _⟩ := G6.out.ent; exact hx.lt
          have bq2 : w4.heap.size ≠ w.heap.size + 1 := by omega
          generalize w4.alloc (.cells #[.int .i64 v1, .int .i32 0, .int .i32 0, .int .i32 0, .int .i32 0, .int .i64 0] 108) = W5 at *
          generalize w4.heap.size = BQ at *
          clear G6
          go_upto_region 24 with (go_at_call 87; ((with_reducible refine ((ca2 _ GA.out.rd).out).mono ?_); rintro e w6 ⟨rfl, h1, h2⟩; have GX := Lib.hid (GA.out.sol h2 h1 H2.out); have QX := Lib.hid (QA.out.sol h2 bq2); have qx := QX.out.cell; have fx := QX.out.free; have lx := QX.out.lt; clear h1 h2 ca2 GA QA))
          have GA := Lib.hid (GX.out.off QX.out (by decide) (by decide) (by omega) 1 (.int .i32 x2))
          have QA := Lib.hid (QX.out.put 1 (.int .i32 x2))
          generalize w6.setCell ⟨BQ, 1, none⟩ (.int .i32 x2) = W6 at *
          clear qx fx lx GX QX
          go_upto_region 25 with (go_at_call 87; ((with_reducible refine ((ca3 _ GA.out.rd).out).mono ?_); rintro e w7 ⟨rfl, h1, h2⟩; have GX := Lib.hid (GA.out.sol h2 h1 H3.out); have QX := Lib.hid (QA.out.sol h2 bq2); have qx := QX.out.cell; have fx := QX.out.free; have lx := QX.out.lt; clear h1 h2 ca3 GA QA))
          have GA := Lib.hid (GX.out.off QX.out (by decide) (by decide) (by omega) 2 (.int .i32 x3))
          have QA := Lib.hid (QX.out.put 2 (.int .i32 x3))
          generalize w7.setCell ⟨BQ, 2, none⟩ (.int .i32 x3) = W7 at *
          clear qx fx lx GX QX
          go_upto_region 26 with (go_at_call 87; ((with_reducible refine ((ca4 _ GA.out.rd).out).mono ?_); rintro e w8 ⟨rfl, h1, h2⟩; have GX := Lib.hid (GA.out.sol h2 h1 H4.out); have QX := Lib.hid (QA.out.sol h2 bq2); have qx := QX.out.cell; have fx := QX.out.free; have lx := QX.out.lt; clear h1 h2 ca4 GA QA))
          have GA := Lib.hid (GX.out.off QX.out (by decide) (by decide) (by omega) 3 (.int .i32 x4))
          have QA := Lib.hid (QX.out.put 3 (.int .i32 x4))
          generalize w8.setCell ⟨BQ, 3, none⟩ (.int .i32 x4) = W8 at *
          clear qx fx lx GX QX
          go_upto_region 27 with (go_at_call 87; ((with_reducible refine ((ca5 _ GA.out.rd).out).mono ?_); rintro e w9 ⟨rfl, h1, h2⟩; have GX := Lib.hid (GA.out.sol h2 h1 H5.out); have QX := Lib.hid (QA.out.sol h2 bq2); have qx := QX.out.cell; have fx := QX.out.free; have lx := QX.out.lt; clear h1 h2 ca5 GA QA))
          have GA := Lib.hid (GX.out.off QX.out (by decide) (by decide) (by omega) 4 (.int .i32 x5))
          have QA := Lib.hid (QX.out.put 4 (.int .i32 x5))
          generalize w9.setCell ⟨BQ, 4, none⟩ (.int .i32 x5) = W9 at *
          clear qx fx lx GX QX
          go_upto_region 28 with (go_at_call 85; ((with_reducible refine ((ca6 _ GA.out.rd).out).mono ?_); rintro e w10 ⟨rfl, h1, h2⟩; have GX := Lib.hid (GA.out.sol h2 h1 H6.out); have QX := Lib.hid (QA.out.sol h2 bq2); have qx := QX.out.cell; have fx := QX.out.free; have lx := QX.out.lt; clear h1 h2 ca6 GA QA))
          have GA := Lib.hid (GX.out.off QX.out (by decide) (by decide) (by omega) 5 (.int .i64 v6))
          have QA := Lib.hid (QX.out.put 5 (.int .i64 v6))
          generalize w10.setCell ⟨BQ, 5, none⟩ (.int .i64 v6) = W10 at *
          clear qx fx lx GX QX
          have QE := Lib.hid (show Box W10 BQ 108 #[.int .i64 v1, .int .i32 x2, .int .i32 x3, .int .i32 x4, .int .i32 x5, .int .i64 v6] from QA.out)
          obtain ⟨A, c, hBE, hO, _⟩ := GA.out.ent
          dsimp only at hBE hO
          rw [hacc] at hBE hO
          have n1 := (hBE.cell 58).trans ((Im.cells_g _ _ _ 58 (by omega)).trans (Gm.cells_58 _ _))
          have qe := QE.out.cell
          have ql := QE.out.lt
          have HBE := Lib.hid hBE
          have bl := hBE.lt
          have HOW := Lib.hid hO
          have sl1 := shots1 v1 x2 x3 x4 x5 v6
          obtain ⟨i0, hi0, hz0, hz1, hz2⟩ := shot_parts
          have hI := Lib.hid hi0
          have hZ := Lib.hid hz0
          have hS := Lib.hid hz1
          have hY := Lib.hid hz2
          have kB := GA.out.keep.size
          clear hBE hO hi0 hz0 hz1 hz2 QA
          go_upto_region 21 with ((with_reducible refine append_gate (t := 28) (e := 108) (size := 6) (bytes := 32) rfl rfl Try.underlying28 hI.out hZ.out hS.out hY.out rfl (by decide) ?_); refine Appends.mk (base := w.heap.size) (n := k) (xs := Gm.shotCells acc) rfl (HOW.out.alloc _) (lies_boxed (n := 1) (size := 6) (xs := [Value.int .i64 v1, .int .i32 x2, .int .i32 x3, .int .i32 x4, .int .i32 x5, .int .i64 v6]) (Box.made W10 108 #[.int .i64 v1, .int .i32 x2, .int .i32 x3, .int .i32 x4, .int .i32 x5, .int .i64 v6]) rfl) (by intro u hu; simp at hu; rcases hu with rfl | rfl | rfl | rfl | rfl | rfl <;> rfl) (by unfold maxLen; omega) (by omega) (by simp; omega) ?_; intro A7 c7 w7 own7 hg7; have OW7 := Lib.hid own7; have HG7 := Lib.hid hg7; have B7 := Lib.hid (grown_box HBE.out HOW.out (by decide) hg7); have b7 := (B7.out.cell 58).trans ((Im.cells_g _ _ _ 58 (by omega)).trans (Gm.cells_58 _ _)); have f7 := B7.out.free 58; have l7 := B7.out.lt; clear own7 hg7)
          have hlen : (acc ++ [(⟨v1, x2, x3, x4, x5, v6⟩ : Gm.Shot)]).length = k + 1 := by rw [List.length_append, hacc]; rfl
          have hcel : Gm.shotCells (acc ++ [(⟨v1, x2, x3, x4, x5, v6⟩ : Gm.Shot)]) = Gm.shotCells acc ++ [Value.int .i64 v1, .int .i32 x2, .int .i32 x3, .int .i32 x4, .int .i32 x5, .int .i64 v6] := by rw [shotCells_app]; rfl
          have G8 := Lib.hid (show GS w ⟨fr, dd, s, acc ++ [(⟨v1, x2, x3, x4, x5, v6⟩ : Gm.Shot)]⟩ Im.R0 oG none (w7.setCell ⟨w.heap.size + 1 + 1, 58, none⟩ (.slice A7 (k + 1) c7)) from by
            obtain ⟨s', b, hb⟩ := GA.out.rd.box
            refine ⟨GA.out.bytes, (grown_box GA.out.res HOW.out (by decide) HG7.out).far (p := ⟨w.heap.size + 1 + 1, 58, none⟩) (by show w.heap.size ≠ w.heap.size + 1 + 1; omega) _, (GA.out.rd.stays ((grown_box hb HOW.out (by decide) HG7.out).is.trans hb.is.symm)).off (p := ⟨w.heap.size + 1 + 1, 58, none⟩) B7.out (by decide) _, ⟨A7, c7, ?_, ?_, fun b h => (by cases h)⟩, (below_gone (GA.out.keep.alloc kB _) HG7.out (own_at HOW.out) (Nat.le_refl _)).setCell (p := ⟨w.heap.size + 1 + 1, 58, none⟩) (by show w.heap.size ≤ w.heap.size + 1 + 1; omega) _⟩
            · dsimp only
              rw [hlen]
              have := B7.out.put 58 (.slice A7 (k + 1) c7)
              rw [Im.cells_shots'] at this
              exact this
            · dsimp only
              rw [hlen, hcel]
              exact ownsRow_setCell_other (a := ⟨w.heap.size + 1 + 1, 58, none⟩) OW7.out (B7.out.unowned OW7.out (by decide)) _)
          clear n1 qe b7 f7 l7 ql bl
          go_wp2
          go_roundw
          case rel => exact ⟨k + 1, _, oG, by omega, by go_num, hlen, fun x hx => by (rcases List.mem_append.1 hx with hx | hx); (exact HAT.out x hx); (obtain rfl := List.mem_singleton.1 hx; exact HTS.out), HS2.out, G8.out⟩
          case measure => simp [intOf]; omega
        · rw [decide_eq_false hgo]
          have st3 : Im.Sn (Im.dec l) (Im.tail2 ⟨fr, dd, s, acc⟩) o := by
            cases o with
            | none => exact HST.out
            | some r =>
              obtain rfl : k = N := by
                refine Classical.byContradiction fun hne => hgo ⟨by omega, rfl⟩
              exact HST.out.to (fun r => Im.fShots_end fr dd s k acc r)
          have hbo := GG.out.bytes
          have HTG := Lib.hid (show Gm.ty ⟨fr, dd, s, acc⟩ from ⟨HTF.out.1, HTF.out.2, fun i _ => HTY.out i, fun i hi => HAT.out _ (List.getElem_mem hi)⟩)
          have H255 := Lib.hid (show acc.length ≤ 255 by omega)
          obtain ⟨g, hg⟩ : ∃ g : Gm.G, g = ⟨fr, dd, s, acc⟩ := ⟨_, rfl⟩
          have HSH := Lib.hid (show g.shots.length ≤ 255 by rw [hg]; exact H255.out)
          rw [← hg] at HTG GG st3
          have cv := fun X hX => Lib.hid (rint_any 4 4 rfl o (w.heap.size + 1) X (by decide) hbo hX)
          have st4 := st3.num (g := fun v r => Im.tail3 g 0 { Im.R0 with version := v } r) 4 (fun r => rfl)
          have hb4 := Sx.rest_bytes (n := 4) hbo
          generalize Sx.rest 4 o = p0 at *
          generalize Sx.num 4 o = vv at *
          have HB4 := Lib.hid hb4
          have HST4 := Lib.hid st4
          clear st3 st4 hb4 hbo HST hgo hg HAT HTY HTF H255 hacc
          go_upto_region 30 with (go_at_call 85; ((with_reducible refine ((cv _ GG.out.rd).out).mono ?_); rintro e w4 ⟨rfl, h1, h2⟩; have GX := Lib.hid (GG.out.sol h2 h1 HB4.out); obtain ⟨Ax, cx, hBx, _, _⟩ := GX.out.ent; have bx := (hBx.cell 59).trans ((Im.cells_r _ _ _ 0).trans (Ros.cells_0 _)); have fx := hBx.free 59; have lx := hBx.lt; clear h1 h2 cv hBx GG))
          have GA := Lib.hid (GX.out.set 59 (.int .i64 vv) (g' := g) (q' := { Im.R0 with version := vv }) (fun sl => Im.cells_version _ _ _ _) rfl)
          generalize w4.setCell ⟨w.heap.size + 1 + 1, 59, none⟩ (.int .i64 vv) = W4 at *
          clear bx fx lx GX
          go_wp2
          go_loopw [12] (fun i wx => ∃ (k : Nat) (q : Ros.R) (o : Option (List Int)), k ≤ 8 ∧ i = .int .i64 k ∧ Im.Sn (Im.dec l) (Im.tail3 g k q) o ∧ GS w g q o none wx) (fun i _ => 8 - (intOf i).toNat)
          case atStart => exact ⟨0, _, p0, Nat.zero_le _, rfl, HST4.out, GA.out⟩
          case round =>
            obtain ⟨k, q, o, hk, rfl, hst, hgs⟩ := hrel
            have GG := Lib.hid hgs
            clear hgs GA HST4
            by_cases hlt : k < 8
            · have hk8 : (k : Int) < 8 := by omega
              have hr0 := GG.out.bytes
              have st2 := hst.to (fun r => Im.tail3_step g k hlt q r)
              have st3 := st2.num (g := fun a r => (Im.rdn 2 r).bind fun b => Im.tail3 g (k + 1) (Im.setSeat q k (a - 1) b.1) b.2) 1 (fun r => rfl)
              have ca1 := fun X hX => Lib.hid (rint_any 1 1 rfl o (w.heap.size + 1) X (by decide) hr0 hX)
              have hr1 := Sx.rest_bytes (n := 1) hr0
              have hb1 := Sx.num_lt (n := 1) hr0
              generalize Sx.rest 1 o = oB at *
              generalize Sx.num 1 o = v1 at *
              have st4 := st3.num (g := fun b r => Im.tail3 g (k + 1) (Im.setSeat q k (v1 - 1) b) r) 2 (fun r => rfl)
              have ca2 := fun X hX => Lib.hid (rint_any 2 2 rfl oB (w.heap.size + 1) X (by decide) hr1 hX)
              have hr2 := Sx.rest_bytes (n := 2) hr1
              generalize Sx.rest 2 oB = oC at *
              generalize Sx.num 2 oB = v2 at *
              have H1 := Lib.hid hr1
              have H2 := Lib.hid hr2
              have HS2 := Lib.hid st4
              have hwp : IntKind.i64.wrap (v1 - 1) = v1 - 1 := by rw [IntKind.wrap_i64]; omega
              clear st2 st3 st4 hr0 hr1 hr2 hst hb1
              go_upto_region 34 with (go_at_call 85; ((with_reducible refine ((ca1 _ GG.out.rd).out).mono ?_); rintro e w5 ⟨rfl, h1, h2⟩; have GX := Lib.hid (GG.out.sol h2 h1 H1.out); obtain ⟨Ax, cx, hBx, _, _⟩ := GX.out.ent; have bx := (hBx.cell (60 + k * 2)).trans (Im.cells_peer _ _ _ k hlt); have fx := hBx.free (60 + k * 2); have lx := hBx.lt; clear h1 h2 ca1 hBx GG))
              have GA := Lib.hid (GX.out.set (60 + k * 2) (.int .i64 (v1 - 1)) (g' := g) (q' := { q with peer := Ros.upd q.peer k (v1 - 1) }) (fun sl => Im.set_peer g sl q k hlt _) rfl)
              try rw [hwp]
              generalize w5.setCell ⟨w.heap.size + 1 + 1, 60 + k * 2, none⟩ (.int .i64 (v1 - 1)) = W5 at *
              clear bx fx lx GX
              go_upto_region 32 with (go_at_call 85; ((with_reducible refine ((ca2 _ GA.out.rd).out).mono ?_); rintro e w6 ⟨rfl, h1, h2⟩; have GX := Lib.hid (GA.out.sol h2 h1 H2.out); obtain ⟨Ax, cx, hBx, _, _⟩ := GX.out.ent; have bx := (hBx.cell (60 + k * 2 + 1)).trans (Im.cells_gen _ _ _ k hlt); have fx := hBx.free (60 + k * 2 + 1); have lx := hBx.lt; clear h1 h2 ca2 hBx GA))
              have GB := Lib.hid (GX.out.set (60 + k * 2 + 1) (.int .i64 v2) (g' := g) (q' := Im.setSeat q k (v1 - 1) v2) (fun sl => Im.set_gen g sl q k hlt _ _) rfl)
              generalize w6.setCell ⟨w.heap.size + 1 + 1, 60 + k * 2 + 1, none⟩ (.int .i64 v2) = W6 at *
              clear bx fx lx GX
              go_wp2
              go_roundw
              case rel => exact ⟨k + 1, _, oC, by omega, by go_num, HS2.out, GB.out⟩
              case measure => simp [intOf]; omega
            · have hk8 : ¬ (k : Int) < 8 := by omega
              obtain rfl : k = 8 := by omega
              have hst2 : Im.Sn (Im.dec l) (fun r => some ((g, q), r)) o := hst.to (fun r => rfl)
              have hbo := GG.out.bytes
              have ce := fun X hX => Lib.hid (rend_any o (w.heap.size + 1) X hbo hX)
              obtain ⟨A, c, hBE, hO, _⟩ := GG.out.ent
              have BB := Lib.hid hBE
              have OO := Lib.hid hO
              have ZZ := Lib.hid GG.out.res
              have KK := Lib.hid GG.out.keep
              have RR := Lib.hid GG.out.rd
              have cmy := fun X hX => Lib.hid (refstate_any g q A g.shots.length c X HTG.out rfl (by have := HSH.out; unfold maxLen; omega) hX)
              have hL0 := Lib.hid (Lies.owned hO)
              clear hst hBE hO hbo GG
              obtain ⟨n, hnn⟩ : ∃ n, n = g.shots.length := ⟨_, rfl⟩
              rw [← hnn] at BB OO cmy hL0
              have HNN := Lib.hid hnn
              clear hnn
              by_cases hend : Sx.ended o = true
              · rw [hend] at ce
                have ho : o = some [] := by
                  unfold Sx.ended at hend
                  split at hend
                  · rfl
                  · cases hend
                subst ho
                have hdec : Im.dec l = some ((g, q), []) := hst2
                by_cases hok : Im.Ok g q
                · have HG := Lib.hid (Im.get_all hdec ⟨rfl, hok⟩)
                  have HOK := Lib.hid hok
                  clear hst2 hdec hok hend
                  go_wp2_with (first | ((with_reducible refine im_load_state_g ?_ rfl ?_); (focus first | rfl | kernel_rfl | simp [Region.wanted, yielded]); apply LoadIm.mk rfl; (focus (with_reducible exact BB.out)); dsimp only) | ((with_reducible refine im_load_state rfl rfl ?_); apply LoadIm.mk rfl; (focus (with_reducible exact B2.out)); dsimp only) | ((with_reducible refine blk_gate (t := 53) (size := 76) rfl rfl state_info ?_); refine StoreBlk.mk (B := w.heap.size) rfl rfl Z2.out (im_cells_one _ _ _ rfl) (Im.cells_size _ _ _) Im.zero_size ?_) | (go_at_call 88; ((with_reducible refine ((ce _ RR.out).out).mono ?_); rintro e w4 ⟨rfl, rfl⟩)) | (go_at_call 30; ((with_reducible refine ((cmy _ hL0.out).out).mono ?_); rintro e w5 ⟨⟨b, rfl, hv⟩, hb⟩; obtain rfl : b = true := hv.2 HOK.out; have B2 := Lib.hid (BB.out.below hb BB.out.lt); have Z2 := Lib.hid (ZZ.out.below hb ZZ.out.lt); have O2 := Lib.hid (own_below OO.out hb (Nat.le_refl _)); have K2 := Lib.hid (KK.out.trans (hb.mono KK.out.size)); clear hb hv)))
                  exact bodyPost_ret (results_cell_tmp rfl _ _ w.heap.size 53 _ _ rfl (Z2.out.row (Im.cells g (.slice A n c) q)) Try.underlying53 rfl (by rw [Im.cells_size]; exact state_info)) rfl (.inl ⟨g, q, A, c, HG.out, HNN.out ▸ rfl, HNN.out ▸ Lies.owned (own_setRow O2.out (Z2.out.unowned O2.out (by decide)) _), Below.setRow' K2.out (Nat.le_refl _) _⟩)
                · have HG := Lib.hid (Im.get_left hdec (fun h => hok h.2))
                  have HNO := Lib.hid hok
                  clear hst2 hdec hok hend
                  go_wp2_with (first | ((with_reducible refine im_load_state_g ?_ rfl ?_); (focus first | rfl | kernel_rfl | simp [Region.wanted, yielded]); apply LoadIm.mk rfl; (focus (with_reducible exact BB.out)); dsimp only) | (refine wpList_build_is rfl (t := 53) (vs := []) rfl rfl state_built ?_) | ((with_reducible refine blk_gate (t := 53) (size := 76) rfl rfl state_info ?_); refine StoreBlk.mk (B := w.heap.size) rfl rfl Z2.out zero_one Im.zero_size Im.zero_size ?_) | (go_at_call 88; ((with_reducible refine ((ce _ RR.out).out).mono ?_); rintro e w4 ⟨rfl, rfl⟩)) | (go_at_call 30; ((with_reducible refine ((cmy _ hL0.out).out).mono ?_); rintro e w5 ⟨⟨b, rfl, hv⟩, hb⟩; obtain rfl : b = false := (by cases b <;> first | rfl | exact absurd (hv.1 rfl) HNO.out); have B2 := Lib.hid (BB.out.below hb BB.out.lt); have Z2 := Lib.hid (ZZ.out.below hb ZZ.out.lt); have O2 := Lib.hid (own_below OO.out hb (Nat.le_refl _)); have K2 := Lib.hid (KK.out.trans (hb.mono KK.out.size)); clear hb hv)))
                  exact bodyPost_ret (results_cell_tmp rfl _ _ w.heap.size 53 _ _ rfl (Z2.out.row Im.zero) Try.underlying53 rfl (by rw [Im.zero_size]; exact state_info)) rfl (.inr ⟨HG.out, rfl, Below.setRow' K2.out (Nat.le_refl _) _⟩)
              · have hef : Sx.ended o = false := by simpa using hend
                rw [hef] at ce
                have HG := Lib.hid (show Im.get l = none from by
                  match o, hef with
                  | none, _ => exact Im.get_no hst2
                  | some (x :: r), _ => exact Im.get_left (show Im.dec l = some ((g, q), x :: r) from hst2) (fun h => by cases h.1)
                  | some [], h => cases h)
                clear hst2 hend hef
                go_wp2_with (first | (refine wpList_build_is rfl (t := 53) (vs := []) rfl rfl state_built ?_) | ((with_reducible refine blk_gate (t := 53) (size := 76) rfl rfl state_info ?_); refine StoreBlk.mk (B := w.heap.size) rfl rfl ZZ.out zero_one Im.zero_size Im.zero_size ?_) | (go_at_call 88; ((with_reducible refine ((ce _ RR.out).out).mono ?_); rintro e w4 ⟨rfl, rfl⟩)))
                exact bodyPost_ret (results_cell_tmp rfl _ _ w.heap.size 53 _ _ rfl (ZZ.out.row Im.zero) Try.underlying53 rfl (by rw [Im.zero_size]; exact state_info)) rfl (.inr ⟨HG.out, rfl, Below.setRow' KK.out (Nat.le_refl _) _⟩)
end Go.Proofs.Ytbihnmingedgfaa

/-
Sums of images.
-/


namespace Go.Proofs.Ytbihnmingedgfaa
open Go.RowKit Go.Shelf
set_option linter.unusedVariables false
set_option linter.unusedSimpArgs false

/-- The number that stands for bytes. -/
def Im.sum (l : List Int) : Int := Dn.seed (strOfNums l).data.toList

theorem sum_any (l : List Int) (m : Nat) (A : Option Addr) (c : Nat) (w : World) (hm : l.length = m) (hmx : m ≤ maxLen) (hL : Lies w w.heap.size 1 A m (Im.u8s l)) :
    Calls Try.prog 35 #[.slice A m c] w fun e w' => e = .returned (.int .u64 (Im.sum l)) ∧ Below w.heap.size w w' := by
  have hcv := conv_bytes l m A c w _ hm hL
  have cs := fun X => Lib.hid (seed_any (strOfNums l) X (by rw [strOfNums_size]; omega))
  rw [show Dn.seed (strOfNums l).data.toList = Im.sum l from rfl] at cs
  generalize Im.sum l = q at *
  generalize strOfNums l = st at *
  clear hL hm
  go_enter Try.func35, Try.ntmps35
  go_wp2_with (go_at_call 52; ((with_reducible refine ((cs _).out).mono ?_); rintro e w1 ⟨rfl, hb⟩))
  go_ret
  exact ⟨rfl, hb⟩

theorem of_yes (g : Gm.G) (r : Ros.R) (A : Option Addr) (n c : Nat) (w : World) (hok : Im.Ok g r) (hd : 0 ≤ g.dice ∧ g.dice ≤ 18446744073709551615) (hn : n = g.shots.length) (hr : Lies w w.heap.size 6 A n (Gm.shotCells g.shots)) :
    Calls Try.prog 37 #[.agg (Im.cells g (.slice A n c) r)] w fun e w' => e = .returned (.int .u64 (Im.sum (Im.put g r))) ∧ Below w.heap.size w w' := by
  have P0 := Lib.hid (Box.made w 53 (Im.cells g (.slice A n c) r))
  have K0 := Lib.hid (one_below w (.cells (Im.cells g (.slice A n c) r) 53))
  have hlen := Im.put_le g r hok.1.2.2.1
  have cp := Lib.hid (put_yes g r A n c _ hok hd hn ((hr.below K0.out).wider K0.out.size))
  have cs := fun A' c' X hX => Lib.hid (sum_any (Im.put g r) (Im.put g r).length A' c' X rfl (by unfold maxLen; omega) hX)
  generalize (Im.put g r).length = m at *
  generalize Im.sum (Im.put g r) = q at *
  generalize Im.put g r = bs at *
  clear hr hn hok hd hlen
  go_enter Try.func37, Try.ntmps37
  go_wp2_with (first | ((with_reducible refine im_load_state rfl rfl ?_); apply LoadIm.mk rfl; (focus (with_reducible exact P0.out)); dsimp only) | (go_at_call 29; ((with_reducible refine (cp.out).mono ?_); rintro e w1 ⟨A1, c1, rfl, hL, hb⟩; have K1 := Lib.hid (K0.out.trans (hb.mono K0.out.size)); have cs1 := cs A1 c1 w1 hL; clear hb cs hL)) | (go_at_call 35; ((with_reducible refine (cs1.out).mono ?_); rintro e w2 ⟨rfl, hb⟩; have K2 := Lib.hid (K1.out.trans (hb.mono K1.out.size)); clear hb)))
  go_ret
  exact ⟨rfl, K2.out⟩
end Go.Proofs.Ytbihnmingedgfaa

/-
The number that stands for a state: the program's, the document's.
-/



namespace Go.Proofs.Ytbihnmingedgfaa
open Go.RowKit Go.Shelf
set_option linter.unusedVariables false
set_option linter.unusedSimpArgs false

open Classical in
/-- The number of a state, nought if it may not be. -/
noncomputable def Im.num (g : Gm.G) (r : Ros.R) : Int := if Im.Ok g r then Im.sum (Im.put g r) else 0

theorem of_any (g : Gm.G) (r : Ros.R) (A : Option Addr) (n c : Nat) (w : World) (hty : Gm.ty g) (hn : n = g.shots.length) (hn63 : n ≤ maxLen) (hr : Lies w w.heap.size 6 A n (Gm.shotCells g.shots)) :
    Calls Try.prog 37 #[.agg (Im.cells g (.slice A n c) r)] w fun e w' => e = .returned (.int .u64 (Im.num g r)) ∧ Below w.heap.size w w' := by
  unfold Im.num
  by_cases hok : Im.Ok g r
  · rw [if_pos hok]; exact of_yes g r A n c w hok hty.2.1 hn hr
  · rw [if_neg hok]; exact of_no g r A n c w hok hty hn hn63 hr

set_option maxRecDepth 100000 in
set_option maxHeartbeats 2000000 in
theorem refsumst_any (g : Gm.G) (r : Ros.R) (A : Option Addr) (n c : Nat) (w : World) (hty : Gm.ty g) (hn : n = g.shots.length) (hn63 : n ≤ maxLen) (hr : Lies w w.heap.size 6 A n (Gm.shotCells g.shots)) :
    Calls Try.prog 38 #[.agg (Im.cells g (.slice A n c) r)] w fun e w' => e = .returned (.int .u64 (Im.num g r)) ∧ Below w.heap.size w w' := by
  have P0 := Lib.hid (Box.made w 53 (Im.cells g (.slice A n c) r))
  have K0 := Lib.hid (one_below w (.cells (Im.cells g (.slice A n c) r) 53))
  have H0 := Lib.hid (hr.below K0.out)
  have cm := Lib.hid (refstate_any g r A n c _ hty hn hn63 (H0.out.wider K0.out.size))
  by_cases hok : Im.Ok g r
  · have hv : Im.num g r = Im.sum (Im.put g r) := by unfold Im.num; rw [if_pos hok]
    have cp := fun X hX => Lib.hid (refputst_yes g r A n c X hok hty.2.1 hn hX)
    have cs := fun X => Lib.hid (refseed_any (strOfNums (Im.put g r)) X (by rw [strOfNums_size]; have := Im.put_le g r hok.1.2.2.1; unfold maxLen; omega))
    rw [show Dn.seed (strOfNums (Im.put g r)).data.toList = Im.sum (Im.put g r) from rfl, ← hv] at cs
    have HOK := Lib.hid hok
    generalize Im.num g r = v at *
    generalize strOfNums (Im.put g r) = s at *
    clear hr hn hty hok hv
    go_enter Try.func38, Try.ntmps38
    go_wp2_with (first | ((with_reducible refine im_load_state rfl rfl ?_); apply LoadIm.mk rfl; (focus (with_reducible exact P0.out)); dsimp only) | ((with_reducible refine im_load_state rfl rfl ?_); apply LoadIm.mk rfl; (focus (with_reducible exact P1.out)); dsimp only) | (go_at_call 30; ((with_reducible refine (cm.out).mono ?_); rintro e w1 ⟨⟨b, rfl, hb2⟩, hb⟩; obtain rfl : b = true := hb2.2 HOK.out; have P1 := Lib.hid (P0.out.below hb P0.out.lt); have K1 := Lib.hid (K0.out.trans (hb.mono K0.out.size)); have H1 := Lib.hid (H0.out.below (hb.mono K0.out.size)); clear hb hb2)) | (go_at_call 31; ((with_reducible refine ((cp _ (H1.out.wider K1.out.size)).out).mono ?_); rintro e w2 ⟨rfl, hb⟩; have K2 := Lib.hid (K1.out.trans (hb.mono K1.out.size)); clear hb)) | (go_at_call 36; ((with_reducible refine ((cs _).out).mono ?_); rintro e w3 ⟨rfl, rfl⟩)))
    go_ret
    exact ⟨rfl, K2.out⟩
  · have hv : Im.num g r = 0 := by unfold Im.num; rw [if_neg hok]
    rw [hv]
    have HNO := Lib.hid hok
    clear hr hn hty hok hv
    go_enter Try.func38, Try.ntmps38
    go_wp2_with (first | ((with_reducible refine im_load_state rfl rfl ?_); apply LoadIm.mk rfl; (focus (with_reducible exact P0.out)); dsimp only) | (go_at_call 30; ((with_reducible refine (cm.out).mono ?_); rintro e w1 ⟨⟨b, rfl, hb2⟩, hb⟩; obtain rfl : b = false := (by cases b <;> first | rfl | exact absurd (hb2.1 rfl) HNO.out); have K1 := Lib.hid (K0.out.trans (hb.mono K0.out.size)); clear hb hb2)))
    go_ret
    exact ⟨rfl, K1.out⟩
end Go.Proofs.Ytbihnmingedgfaa

/-
The document's answer: two games, two states in all parts.
-/





namespace Go.Proofs.Ytbihnmingedgfaa
open Go.RowKit Go.Shelf
set_option linter.unusedVariables false
set_option linter.unusedSimpArgs false

set_option maxHeartbeats 1000000 in
theorem shot_eq' (s t : Gm.Shot) (w : World) : (Op.equalIn 10000 108 (.agg s.cells.toArray) (.agg t.cells.toArray)).run Try.prog w = .ok (s.eqB t) w := by
  obtain ⟨a1, a2, a3, a4, a5, a6⟩ := s
  obtain ⟨b1, b2, b3, b4, b5, b6⟩ := t
  have h := ifs7 w (a1 == b1) (a2 == b2) (a3 == b3) (a4 == b4) (a5 == b5) (a6 == b6) true
  simp only [beq_iff_eq, Bool.and_true] at h
  simp only [Gm.Shot.cells]
  go_simp
  have e : (if True then Result.ok true w else Result.ok false w) = (Result.ok true w : Result Bool) := if_pos trivial
  rw [e] at h
  exact h
theorem shot_neq (s t : Gm.Shot) (w : World) : (binOp .neq 108 (.agg s.cells.toArray) (.agg t.cells.toArray)).run Try.prog w = .ok (.bool (!s.eqB t)) w := by
  simp only [binOp]
  simp [Op.equal, Op.maxDepth, shot_eq']
theorem ships_info' : (Try.prog.info? 27).map (·.size) = some 56 := by kernel_rfl
theorem ships_lie' (g : Gm.G) (v : Value) : ∀ j u, (Gm.shipCells g.ship)[j]? = some u → (Gm.cells g v)[2 + j]? = some u := fun j u hu => by
  have hj : j < 56 := by have := (List.getElem?_eq_some_iff.1 hu).1; rwa [Gm.shipCells_len] at this
  rw [Gm.cells_shipj _ _ _ hj]; exact hu

/-! Rosters. -/
def Ros.seatsEq (r q : Ros.R) : Bool := (List.range 8).all fun i => (r.peer i == q.peer i && r.gen i == q.gen i)
theorem Ros.seatsEq_iff {r q : Ros.R} : Ros.seatsEq r q = true ↔ ∀ k, k < 8 → r.peer k = q.peer k ∧ r.gen k = q.gen k := by
  unfold Ros.seatsEq; rw [List.all_eq_true]
  exact ⟨fun h i hi => by simpa using h i (by simpa using hi), fun h i hi => by simpa using h i (by simpa using hi)⟩
theorem seats_in2 (r q : Ros.R) (w : World) : (Op.equalIn 9999 49 (.agg (Ros.seatCells r).toArray) (.agg (Ros.seatCells q).toArray)).run Try.prog w = .ok (Ros.seatsEq r q) w := by
  cases hq : Try.prog.info? 48 with
  | none => have := seat2_info; simp [hq] at this
  | some j =>
    have hs : Try.prog.cellsOf 48 = 2 := by kernel_rfl
    rw [run_equalIn_array w 9998 _ _ Try.underlying49 hq, hs]
    rw [run_eqItems_all w 9998 _ 2 _ _ (fun i => .agg (Ros.pair r i).toArray) (fun i => .agg (Ros.pair q i).toArray) (fun i => (r.peer i == q.peer i && r.gen i == q.gen i)) (List.range 8)
      (fun i hi => ⟨seat_part r i (by simpa using hi) w, seat_part q i (by simpa using hi) w, by rw [show (Ros.pair r i).toArray = #[.int .i64 (r.peer i), .int .i64 (r.gen i)] from rfl, show (Ros.pair q i).toArray = #[.int .i64 (q.peer i), .int .i64 (q.gen i)] from rfl, seat_in]⟩)]
    rfl
set_option maxRecDepth 100000 in
set_option maxHeartbeats 4000000 in
theorem ros_eql (r q : Ros.R) (w : World) : (binOp .eql 51 (.agg (Ros.cells r)) (.agg (Ros.cells q))).run Try.prog w = .ok (.bool (r.version == q.version && Ros.seatsEq r q)) w := by
  have hs := seats_in2 r q
  generalize Ros.seatsEq r q = B at *
  simp only [Ros.cells, Ros.seatCells, Ros.pair, List.cons_append, List.nil_append] at hs ⊢
  generalize r.version = v
  generalize q.version = u
  generalize r.peer 0 = rp0 at *
  generalize r.peer 1 = rp1 at *
  generalize r.peer 2 = rp2 at *
  generalize r.peer 3 = rp3 at *
  generalize r.peer 4 = rp4 at *
  generalize r.peer 5 = rp5 at *
  generalize r.peer 6 = rp6 at *
  generalize r.peer 7 = rp7 at *
  generalize r.gen 0 = rg0 at *
  generalize r.gen 1 = rg1 at *
  generalize r.gen 2 = rg2 at *
  generalize r.gen 3 = rg3 at *
  generalize r.gen 4 = rg4 at *
  generalize r.gen 5 = rg5 at *
  generalize r.gen 6 = rg6 at *
  generalize r.gen 7 = rg7 at *
  generalize q.peer 0 = qp0 at *
  generalize q.peer 1 = qp1 at *
  generalize q.peer 2 = qp2 at *
  generalize q.peer 3 = qp3 at *
  generalize q.peer 4 = qp4 at *
  generalize q.peer 5 = qp5 at *
  generalize q.peer 6 = qp6 at *
  generalize q.peer 7 = qp7 at *
  generalize q.gen 0 = qg0 at *
  generalize q.gen 1 = qg1 at *
  generalize q.gen 2 = qg2 at *
  generalize q.gen 3 = qg3 at *
  generalize q.gen 4 = qg4 at *
  generalize q.gen 5 = qg5 at *
  generalize q.gen 6 = qg6 at *
  generalize q.gen 7 = qg7 at *
  by_cases e : v = u
  · subst e
    go_simp
    all_goals (cases B <;> simp)
  · have e2 : (v == u) = false := by simpa using e
    go_simp
    all_goals simp [e, e2]

/-! Games. -/
set_option maxRecDepth 100000 in
set_option maxHeartbeats 8000000 in
theorem refsame_any (g h : Gm.G) (A B : Option Addr) (n m c d : Nat) (w : World) (hn : n = g.shots.length) (hm : m = h.shots.length) (hr : Lies w w.heap.size 6 A n (Gm.shotCells g.shots)) (hq : Lies w w.heap.size 6 B m (Gm.shotCells h.shots))
    (n63 : n ≤ maxLen) (m63 : m ≤ maxLen) :
    Calls Try.prog 21 #[.agg (Gm.cells g (.slice A n c)), .agg (Gm.cells h (.slice B m d))] w fun e w' => (∃ v, e = .returned (.bool v) ∧ (v = true ↔ Gm.Eq g h)) ∧ Below w.heap.size w w' := by
  have n64 : (n : Int) ≤ 9223372036854775807 := by unfold maxLen at n63; omega
  have m64 : (m : Int) ≤ 9223372036854775807 := by unfold maxLen at m63; omega
  have hN : Hid (n = g.shots.length) := Lib.hid hn
  have hM : Hid (m = h.shots.length) := Lib.hid hm
  have b1 : Box ((w.alloc (.cells (Gm.cells g (.slice A n c)) 30)).alloc (.cells (Gm.cells h (.slice B m d)) 30)) w.heap.size 30 (Gm.cells g (.slice A n c)) := (Box.made _ _ _).alloc _
  have b2 : Box ((w.alloc (.cells (Gm.cells g (.slice A n c)) 30)).alloc (.cells (Gm.cells h (.slice B m d)) 30)) (w.heap.size + 1) 30 (Gm.cells h (.slice B m d)) := Box.made_at _ _ _ (by simp)
  have ne : ∀ W, (binOp .neq 27 (.agg (Gm.shipCells g.ship).toArray) (.agg (Gm.shipCells h.ship).toArray)).run Try.prog W = .ok (.bool (!Gm.shipsEq g.ship h.ship)) W := fun W => ships_neq _ _ W
  have g0 := Gm.cells_0 g (.slice A n c)
  have g1 := Gm.cells_1 g (.slice A n c)
  have g58 := Gm.cells_58 g (.slice A n c)
  have h0 := Gm.cells_0 h (.slice B m d)
  have h1 := Gm.cells_1 h (.slice B m d)
  have h58 := Gm.cells_58 h (.slice B m d)
  have hB1 := Lib.hid b1
  have hB2 := Lib.hid b2
  have HE := Lib.hid (show Gm.Eq g h → g.frame = h.frame ∧ g.dice = h.dice ∧ Gm.shipsEq g.ship h.ship = true ∧ g.shots = h.shots from fun e => ⟨e.1, e.2.1, Gm.shipsEq_iff.2 e.2.2.1, e.2.2.2⟩)
  have HI := Lib.hid (show g.frame = h.frame ∧ g.dice = h.dice ∧ Gm.shipsEq g.ship h.ship = true ∧ g.shots = h.shots → Gm.Eq g h from fun e => ⟨e.1, e.2.1, Gm.shipsEq_iff.1 e.2.2.1, e.2.2.2⟩)
  generalize Gm.shipsEq g.ship h.ship = SE at *
  clear b1 b2 hn hm n63 m63
  by_cases e1 : g.frame = h.frame
  rotate_left
  · have x1 : (g.frame != h.frame) = true := by simpa using e1
    have hno := Lib.hid (show ¬ Gm.Eq g h from fun e => e1 (HE.out e).1)
    clear e1 hr hq
    have k1 := hB1.out.cell
    have k2 := hB2.out.cell
    go_enter Try.func21, Try.ntmps21
    go_wp2_with (first | (refine wpList_load_part_g (by first | rfl | kernel_rfl | simp [Region.wanted, yielded]) (ty := 27) rfl rfl hB1.out _ (ships_lie' _ _) Try.underlying27 rfl ships_info' ?_) | (refine wpList_load_part_g (by first | rfl | kernel_rfl | simp [Region.wanted, yielded]) (ty := 27) rfl rfl hB2.out _ (ships_lie' _ _) Try.underlying27 rfl ships_info' ?_))
    go_ret
    exact ⟨by first | exact ⟨false, rfl, by simp; exact hno.out⟩ | exact .inl ⟨rfl, hno.out⟩, two_below' _ _ _⟩
  have x1 : (g.frame != h.frame) = false := by simpa using e1
  by_cases e2 : g.dice = h.dice
  rotate_left
  · have x2 : (g.dice != h.dice) = true := by simpa using e2
    have hno := Lib.hid (show ¬ Gm.Eq g h from fun e => e2 (HE.out e).2.1)
    clear e1 e2 hr hq
    have k1 := hB1.out.cell
    have k2 := hB2.out.cell
    go_enter Try.func21, Try.ntmps21
    go_wp2_with (first | (refine wpList_load_part_g (by first | rfl | kernel_rfl | simp [Region.wanted, yielded]) (ty := 27) rfl rfl hB1.out _ (ships_lie' _ _) Try.underlying27 rfl ships_info' ?_) | (refine wpList_load_part_g (by first | rfl | kernel_rfl | simp [Region.wanted, yielded]) (ty := 27) rfl rfl hB2.out _ (ships_lie' _ _) Try.underlying27 rfl ships_info' ?_))
    go_ret
    exact ⟨by first | exact ⟨false, rfl, by simp; exact hno.out⟩ | exact .inl ⟨rfl, hno.out⟩, two_below' _ _ _⟩
  have x2 : (g.dice != h.dice) = false := by simpa using e2
  cases SE
  · have hno := Lib.hid (show ¬ Gm.Eq g h from fun e => by have := (HE.out e).2.2.1; cases this)
    clear e1 e2 hr hq
    have k1 := hB1.out.cell
    have k2 := hB2.out.cell
    go_enter Try.func21, Try.ntmps21
    go_wp2_with (first | (refine wpList_load_part_g (by first | rfl | kernel_rfl | simp [Region.wanted, yielded]) (ty := 27) rfl rfl hB1.out _ (ships_lie' _ _) Try.underlying27 rfl ships_info' ?_) | (refine wpList_load_part_g (by first | rfl | kernel_rfl | simp [Region.wanted, yielded]) (ty := 27) rfl rfl hB2.out _ (ships_lie' _ _) Try.underlying27 rfl ships_info' ?_))
    go_ret
    exact ⟨by first | exact ⟨false, rfl, by simp; exact hno.out⟩ | exact .inl ⟨rfl, hno.out⟩, two_below' _ _ _⟩
  by_cases e3 : n = m
  rotate_left
  · have x3 : ((n : Int) != (m : Int)) = true := by simp; omega
    have hno := Lib.hid (show ¬ Gm.Eq g h from fun e => by have h4 := (HE.out e).2.2.2; have := hN.out; have := hM.out; rw [h4] at *; omega)
    clear e1 e2 e3 hr hq
    have k1 := hB1.out.cell
    have k2 := hB2.out.cell
    go_enter Try.func21, Try.ntmps21
    go_wp2_with (first | (refine wpList_load_part_g (by first | rfl | kernel_rfl | simp [Region.wanted, yielded]) (ty := 27) rfl rfl hB1.out _ (ships_lie' _ _) Try.underlying27 rfl ships_info' ?_) | (refine wpList_load_part_g (by first | rfl | kernel_rfl | simp [Region.wanted, yielded]) (ty := 27) rfl rfl hB2.out _ (ships_lie' _ _) Try.underlying27 rfl ships_info' ?_))
    go_ret
    exact ⟨by first | exact ⟨false, rfl, by simp; exact hno.out⟩ | exact .inl ⟨rfl, hno.out⟩, two_below' _ _ _⟩
  subst e3
  have HF := Lib.hid (And.intro e1 e2)
  clear e1 e2
  have k1 := hB1.out.cell
  have k2 := hB2.out.cell
  go_enter Try.func21, Try.ntmps21
  go_wp2_with (first | (refine wpList_load_part_g (by first | rfl | kernel_rfl | simp [Region.wanted, yielded]) (ty := 27) rfl rfl hB1.out _ (ships_lie' _ _) Try.underlying27 rfl ships_info' ?_) | (refine wpList_load_part_g (by first | rfl | kernel_rfl | simp [Region.wanted, yielded]) (ty := 27) rfl rfl hB2.out _ (ships_lie' _ _) Try.underlying27 rfl ships_info' ?_))
  go_loopw [5] (fun i wr => ∃ k : Nat, k ≤ n ∧ i = .int .i64 k ∧ Box wr w.heap.size 30 (Gm.cells g (.slice A n c)) ∧ Box wr (w.heap.size + 1) 30 (Gm.cells h (.slice B n d)) ∧ Below w.heap.size w wr ∧ ∀ j, j < k → g.shots[j]? = h.shots[j]?) (fun i _ => n - (intOf i).toNat)
  case atStart => exact ⟨0, by omega, rfl, hB1.out, hB2.out, two_below' _ _ _, fun j hj => absurd hj (Nat.not_lt_zero j)⟩
  case round =>
    obtain ⟨k, hk, rfl, hB, hC, hb, hall⟩ := hrel
    have HALL := Lib.hid hall
    have hcr := hB.cell
    have hds := hC.cell
    clear hall
    by_cases hlt : k < n
    · have hkg : k < g.shots.length := by have := hN.out; omega
      have hkh : k < h.shots.length := by have := hM.out; omega
      obtain ⟨ad, rfl, hbl, a0, a1, a2, a3, a4, a5⟩ := shots_at (hr.below hb) hN.out k hkg
      obtain ⟨bd, rfl, hbm, c0, c1, c2, c3, c4, c5⟩ := shots_at (hq.below hb) hM.out k hkh
      have HS := Lib.hid (show Gm.Eq g h → g.shots[k]'hkg = h.shots[k]'hkh from fun e => by
        have h4 := (HE.out e).2.2.2
        simp only [h4])
      have HT := Lib.hid (show g.shots[k]'hkg = h.shots[k]'hkh → ∀ j, j < k + 1 → g.shots[j]? = h.shots[j]? from fun e j hj => by
        by_cases ej : j = k
        · subst ej
          rw [List.getElem?_eq_getElem hkg, List.getElem?_eq_getElem hkh, e]
        · exact HALL.out j (by omega))
      have hsn := fun W => shot_neq (g.shots[k]'hkg) (h.shots[k]'hkh) W
      have hiff := @Gm.Shot.eqB_iff (g.shots[k]'hkg) (h.shots[k]'hkh)
      generalize g.shots[k]'hkg = s at a0 a1 a2 a3 a4 a5 HS HT hsn hiff
      generalize h.shots[k]'hkh = t at c0 c1 c2 c3 c4 c5 HS HT hsn hiff
      obtain ⟨owner, x, y, vx, vy, left⟩ := s
      obtain ⟨owner2, p, q, vp, vq, left2⟩ := t
      dsimp only at a0 a1 a2 a3 a4 a5 c0 c1 c2 c3 c4 c5
      simp only [Gm.Shot.cells] at hsn
      have hk8 : (k : Int) < n := by omega
      have HB := Lib.hid hB
      have HC := Lib.hid hC
      have HBB := Lib.hid hb
      clear hr hq ne hB1 hB2 g0 g1 h0 h1 x1 x2 hB hC hb
      cases hse : Gm.Shot.eqB ⟨owner, x, y, vx, vy, left⟩ ⟨owner2, p, q, vp, vq, left2⟩
      · rw [hse] at hsn hiff
        have hno := Lib.hid (show ¬ Gm.Eq g h from fun e => by have := hiff.2 (HS.out e); cases this)
        clear hse hiff
        go_upto_region 6 with fail
        go_quiet (fail)
        go_wp2
        go_ret
        exact ⟨by first | exact ⟨false, rfl, by simp; exact hno.out⟩ | exact .inl ⟨rfl, hno.out⟩, draws_below HBB.out _⟩
      · rw [hse] at hsn hiff
        have hn2 := Lib.hid (HT.out (hiff.1 rfl))
        clear hse hiff
        go_upto_region 6 with fail
        go_quiet (fail)
        go_wp2
        go_roundw
        case rel => exact ⟨k + 1, by omega, by go_num, HB.out.draws _, HC.out.draws _, draws_below HBB.out _, hn2.out⟩
        case measure => simp [intOf]; omega
    · have hk8 : ¬ (k : Int) < n := by omega
      have hyes := Lib.hid (show Gm.Eq g h from HI.out ⟨HF.out.1, HF.out.2, trivial, List.ext_getElem? fun j => by
        by_cases hj : j < n
        · exact HALL.out j (by omega)
        · rw [List.getElem?_eq_none (by have := hN.out; omega), List.getElem?_eq_none (by have := hM.out; omega)]⟩)
      have HBB := Lib.hid hb
      clear hr hq ne hB1 hB2 g0 g1 h0 h1 x1 x2 hB hC hb
      go_wp2
      go_ret
      exact ⟨by first | exact ⟨true, rfl, by simp; exact hyes.out⟩ | exact .inr ⟨rfl, hyes.out⟩, HBB.out⟩

set_option maxRecDepth 100000 in
set_option maxHeartbeats 4000000 in
theorem refsamest_any (g h : Gm.G) (r q : Ros.R) (A B : Option Addr) (n m c d : Nat) (w : World) (hn : n = g.shots.length) (hm : m = h.shots.length) (hr : Lies w w.heap.size 6 A n (Gm.shotCells g.shots)) (hq : Lies w w.heap.size 6 B m (Gm.shotCells h.shots))
    (n63 : n ≤ maxLen) (m63 : m ≤ maxLen) :
    Calls Try.prog 34 #[.agg (Im.cells g (.slice A n c) r), .agg (Im.cells h (.slice B m d) q)] w fun e w' => (∃ v, e = .returned (.bool v) ∧ (v = true ↔ (Gm.Eq g h ∧ r.version = q.version ∧ ∀ k, k < 8 → r.peer k = q.peer k ∧ r.gen k = q.gen k))) ∧ Below w.heap.size w w' := by
  have P0 := Lib.hid ((Box.made w 53 (Im.cells g (.slice A n c) r)).alloc (.cells (Im.cells h (.slice B m d) q) 53))
  have Q0 := Lib.hid (Box.made_at (n := w.heap.size + 1) (w.alloc (.cells (Im.cells g (.slice A n c) r) 53)) 53 (Im.cells h (.slice B m d) q) (by simp))
  have K0 := Lib.hid (two_below' w (.cells (Im.cells g (.slice A n c) r) 53) (.cells (Im.cells h (.slice B m d) q) 53))
  have cg := Lib.hid (refsame_any g h A B n m c d _ hn hm ((hr.below K0.out).wider K0.out.size) ((hq.below K0.out).wider K0.out.size) n63 m63)
  have he := fun W => ros_eql r q W
  have HI := Lib.hid (show (r.version == q.version && Ros.seatsEq r q) = true ↔ (r.version = q.version ∧ ∀ k, k < 8 → r.peer k = q.peer k ∧ r.gen k = q.gen k) by rw [Bool.and_eq_true, Ros.seatsEq_iff]; simp)
  generalize (r.version == q.version && Ros.seatsEq r q) = E at he HI
  clear hr hq hn hm
  go_enter Try.func34, Try.ntmps34
  go_wp2_with (first | ((with_reducible refine im_load_game rfl rfl ?_); apply LoadIm.mk rfl; (focus first | (with_reducible exact P0.out) | (with_reducible exact Q0.out)); dsimp only) | ((with_reducible refine im_load_ros_g ?_ rfl ?_); (focus first | rfl | kernel_rfl | simp [Region.wanted, yielded]); apply LoadIm.mk rfl; (focus first | (with_reducible exact P1.out) | (with_reducible exact Q1.out)); dsimp only) | (go_at_call 21; ((with_reducible refine (cg.out).mono ?_); rintro e w1 ⟨⟨v, rfl, hv⟩, hb⟩; have P1 := Lib.hid (P0.out.below hb P0.out.lt); have Q1 := Lib.hid (Q0.out.below hb Q0.out.lt); have K1 := Lib.hid (K0.out.trans (hb.mono K0.out.size)); have HV := Lib.hid hv; clear hb hv; cases v)))
  all_goals
    go_ret
    first
      | exact ⟨⟨false, rfl, by simp only [Bool.false_eq_true, false_iff]; exact fun x => by have := HV.out.2 x.1; simp at this⟩, K1.out⟩
      | exact ⟨⟨E, rfl, HI.out.trans ⟨fun x => ⟨HV.out.1 (by first | trivial | rfl), x⟩, fun x => x.2⟩⟩, K1.out⟩
      | exact ⟨by simp; exact fun x => absurd (HV.out.2 x) (by simp), K1.out⟩
      | exact ⟨by simp; exact HI.out.trans ⟨fun x => ⟨HV.out.1 (by first | trivial | rfl), x⟩, fun x => x.2⟩, K1.out⟩
      | trace_state
end Go.Proofs.Ytbihnmingedgfaa

/-
A struct that lies anywhere is loaded whole.
-/


namespace Go.Proofs.Ytbihnmingedgfaa
open Go.RowKit
set_option linter.unusedVariables false

section
variable {P : Program} {ops : Array Oper} {rest : List Oper} {o : Oper} {a : Act} {w : World} {Q : Exit → Act → World → Prop}
theorem run_loadVar_any (w : World) (ad : Addr) (ty : TypeId) (cs : List Value) (d : TypeDesc) (hc : ∀ j v, cs[j]? = some v → w.cell? (ad.add j) = some v)
    (hu : P.underlying ty = some d) (hd : d.isRow = true) (hi : (P.info? ty).map (·.size) = some cs.length) :
    (loadVar ty ad).run P w = .ok (.agg cs.toArray) w := by
  have hl : (loadCells ad cs.length).run P w = .ok cs.toArray w := run_loadCells_list (P := P) w ad cs hc
  cases hq : P.info? ty with
  | none => simp [hq] at hi
  | some i =>
    have hs : i.size = cs.length := by simpa [hq] using hi
    have hagg : (isAgg ty).run P w = .ok true w := by
      unfold isAgg
      rw [Sem.run_bind, run_underlying hu w]
      cases d <;> simp_all
    simp [loadVar, Sem.run_bind, hagg, sizeOf, typeInfo, hq, hs, hl]
/-- What the load of a struct at an address wants. -/
def LoadAt (P : Program) (ops : Array Oper) (Q : Exit → Act → World → Prop) (rest : List Oper) (dst : Option Tmp) (p : Value) (size : Nat) (a : Act) (w : World) : Prop :=
  ∃ (ad : Addr) (cs : List Value), p = .pointer (some ad) ∧ (∀ j v, cs[j]? = some v → w.cell? (ad.add j) = some v) ∧ cs.length = size ∧ wpList P ops Q rest (a.put dst (.agg cs.toArray)) w
theorem LoadAt.mk {dst : Option Tmp} {p : Value} {size : Nat} {ad : Addr} {cs : List Value} (hp : p = .pointer (some ad)) (hc : ∀ j v, cs[j]? = some v → w.cell? (ad.add j) = some v) (hs : cs.length = size) (h : wpList P ops Q rest (a.put dst (.agg cs.toArray)) w) : LoadAt P ops Q rest dst p size a w := ⟨ad, cs, hp, hc, hs, h⟩
theorem load_at_gate {ty : TypeId} {x : Operand} {size : Nat} {d : TypeDesc} (hgd : o.guard = none) (ho : o.op = .load ty x) (hu : P.underlying ty = some d) (hd : d.isRow = true) (hi : (P.info? ty).map (·.size) = some size) (h : LoadAt P ops Q rest o.dst (a.eval x) size a w) : wpList P ops Q (o :: rest) a w := by
  obtain ⟨ad, cs, hx, hc, hs, h⟩ := h
  refine wpList_plain hgd fun _ hK => ?_
  unfold Oper.wp execOp
  simp only [ho, hx, Instr.loadAt, Instr.sureAddr, Sem.run_bind, Sem.run_pure, Result.andThen_ok, run_loadVar_any w ad ty cs d hc hu hd (by rw [hi, hs])]
  exact hK _ _ h
theorem load_at_gate_g {ty : TypeId} {x : Operand} {size : Nat} {d : TypeDesc} (hw : Region.wanted o (yielded ops a.tmps) = true) (ho : o.op = .load ty x) (hu : P.underlying ty = some d) (hd : d.isRow = true) (hi : (P.info? ty).map (·.size) = some size) (h : LoadAt P ops Q rest o.dst (a.eval x) size a w) : wpList P ops Q (o :: rest) a w := by
  obtain ⟨ad, cs, hx, hc, hs, h⟩ := h
  refine wpList_step fun K hK => ?_
  rw [if_pos hw]
  unfold Oper.wp execOp
  simp only [ho, hx, Instr.loadAt, Instr.sureAddr, Sem.run_bind, Sem.run_pure, Result.andThen_ok, run_loadVar_any w ad ty cs d hc hu hd (by rw [hi, hs])]
  exact hK _ _ h
theorem exec_load_any {x : Operand} {ty : TypeId} {ad : Addr} {cs : List Value} {d : TypeDesc} (ho : o.op = .load ty x) (hx : a.eval x = .pointer (some ad)) (hc : ∀ j v, cs[j]? = some v → w.cell? (ad.add j) = some v) (hu : P.underlying ty = some d) (hd : d.isRow = true) (hi : (P.info? ty).map (·.size) = some cs.length) :
    (execOp a.eval o).run P w = .ok (.value (.agg cs.toArray)) w := by
  unfold execOp
  simp only [ho, hx, Instr.loadAt, Instr.sureAddr, Sem.run_bind, Sem.run_pure, Result.andThen_ok, run_loadVar_any w ad ty cs d hc hu hd hi]
end
/-- The first n of a slice. -/
theorem run_slice_to {P : Program} {t e : TypeId} {sz : Nat} (a : Option Addr) (len cap n : Nat) (hu : P.underlying t = some (.slice e)) (hs : (P.info? e).map (·.size) = some sz) (h : n ≤ cap) (w : World) :
    (Instr.slice t (.slice a len cap) none (some (.int .i64 (n : Int))) none).run P w = .ok (.slice a n cap) w := by
  have h0 : (0 : Int) ≤ n := by omega
  have h1 : (n : Int) ≤ cap := by omega
  cases hq : P.info? e with
  | none => simp [hq] at hs
  | some i =>
    have ea : (if cap = 0 then a else a.map fun x => x.add 0) = a := by
      split
      · rfl
      · cases a
        · rfl
        · simp [Addr.add]
    simp [Instr.slice, run_underlying hu, Instr.sliceBounds, Instr.sliceBound, asIntOf, sizeOf, typeInfo, hq, h, Addr.add]
end Go.Proofs.Ytbihnmingedgfaa

/-
Bytes turned, rows of bytes that are owned.
-/



namespace By
open Go
theorem xor_nat (a b : Nat) (ha : a < 256) (hb : b < 256) : bits .xor .u8 (a : Int) (b : Int) = ((a ^^^ b : Nat) : Int) := by
  have hx : a ^^^ b < 2 ^ 8 := Nat.xor_lt_two_pow (by omega) (by omega)
  show IntKind.u8.wrap ((BitVec.ofInt 8 (a : Int) ^^^ BitVec.ofInt 8 (b : Int)).toNat : Int) = _
  rw [BitVec.toNat_xor, BitVec.toNat_ofInt, BitVec.toNat_ofInt, IntKind.wrap_u8]
  rw [show ((a : Int) % ((2 ^ 8 : Nat) : Int)).toNat = a from by omega, show ((b : Int) % ((2 ^ 8 : Nat) : Int)).toNat = b from by omega]
  omega
theorem xor_turn {x c : Int} (hx : 0 ≤ x ∧ x ≤ 255) (hc : 0 ≤ c ∧ c ≤ 255) : ∃ v : Int, bits .xor .u8 x c = v ∧ (0 ≤ v ∧ v ≤ 255) ∧ (v = x ↔ c = 0) := by
  obtain ⟨a, rfl⟩ := Int.eq_ofNat_of_zero_le hx.1
  obtain ⟨b, rfl⟩ := Int.eq_ofNat_of_zero_le hc.1
  have h := xor_nat a b (by omega) (by omega)
  have hlt : a ^^^ b < 2 ^ 8 := Nat.xor_lt_two_pow (by omega) (by omega)
  refine ⟨_, h, by omega, ⟨fun e => ?_, fun e => ?_⟩⟩
  · have e' : a ^^^ b = a := by exact_mod_cast e
    have e2 : a ^^^ (a ^^^ b) = a ^^^ a := by rw [e']
    rw [← Nat.xor_assoc, Nat.xor_self, Nat.zero_xor] at e2
    omega
  · have : b = 0 := by omega
    subst this
    rw [Nat.xor_zero]
theorem set_bytes {l : List Int} (h : Im.IsBytes l) (k : Nat) {v : Int} (hv : 0 ≤ v ∧ v ≤ 255) : Im.IsBytes (l.set k v) := fun x hx => by
  rcases List.mem_or_eq_of_mem_set hx with hx | rfl
  · exact h x hx
  · exact hv
theorem set_same_iff {l : List Int} {k : Nat} (hk : k < l.length) (v : Int) : l.set k v = l ↔ v = l[k] := by
  constructor
  · intro h
    have := congrArg (fun m => m[k]?) h
    simp [hk] at this
    exact this
  · rintro rfl
    exact List.set_getElem_self hk
end By
namespace Go.Proofs.Ytbihnmingedgfaa
open Go.RowKit Go.Shelf
set_option linter.unusedVariables false
set_option linter.unusedSimpArgs false

theorem u8_size : (Try.prog.info? 5).map (·.size) = some 1 := by kernel_rfl
theorem below_grown {B : Nat} {w0 w w' : World} {row : Option Nat} (h : Below B w0 w) (hg : w.grownBy w' row) (hr : ∀ r, row = some r → B ≤ r) (hB : B ≤ w0.heap.size) : Below B w0 w' :=
  ⟨hg.os.trans h.os, hg.tape.trans h.tape, hg.output.trans h.output, Nat.le_trans h.size hg.size, fun i hi => (hg.block i (Nat.lt_of_lt_of_le hi (Nat.le_trans hB h.size)) (fun e => by have := hr i e.symm; omega)).trans (h.block i hi)⟩
theorem Lies.grown {w w' : World} {B size n : Nat} {A : Option Addr} {xs : List Value} {row : Option Nat} (h : Lies w B size A n xs) (hg : w.grownBy w' row) (hr : ∀ r, row = some r → B ≤ r) (hB : B ≤ w.heap.size) : Lies w' B size A n xs :=
  h.stays fun b hb => hg.block b (Nat.lt_of_lt_of_le hb hB) (fun e => by have := hr b e.symm; omega)

theorem Lies.take1 {w : World} {B n : Nat} {A : Option Addr} {bs : List Int} (h : Lies w B 1 A n (Im.u8s bs)) (k : Nat) (hk : k ≤ n) : Lies w B 1 A k (Im.u8s (bs.take k)) := by
  have hl := h.len
  rw [Im.u8s_len] at hl
  refine ⟨by rw [Im.u8s_len, List.length_take]; omega, fun h0 => h.start (by omega), fun ad e h0 j u hu => h.cell ad e (by omega) j u ?_⟩
  have e1 : Im.u8s (bs.take k) = (Im.u8s bs).take k := by unfold Im.u8s; rw [List.map_take]
  rw [e1, List.getElem?_take] at hu
  split at hu
  · exact hu
  · cases hu
theorem own_box {w : World} {base m c : Nat} {A : Option Addr} {bs : List Int} (h : w.ownsRow base 5 1 (.slice A m c) m (Im.u8s bs)) (hm : m ≠ 0) : ∃ g cur, A = some ⟨g, 0, none⟩ ∧ base ≤ g ∧ m ≤ c ∧ Box w g 5 cur ∧ ∀ (j : Nat) (x : Int), bs[j]? = some x → cur[j]? = some (Value.int .u8 x) := by
  obtain ⟨hl, ⟨_, h0⟩ | ⟨g, cap, cur, hv, hbg, hg, hnc, _, _, htake⟩⟩ := h
  · exact absurd h0 hm
  · injection hv with hA _ hc
    subst hc
    refine ⟨g, cur, hA, hbg, hnc, ⟨hg⟩, fun j x hj => ?_⟩
    have hlt : j < bs.length := (List.getElem?_eq_some_iff.1 hj).1
    have h1 : (Im.u8s bs)[j]? = some (Value.int .u8 x) := by unfold Im.u8s; rw [List.getElem?_map, hj]; rfl
    rw [← htake, List.getElem?_take] at h1
    split at h1
    · simpa using h1
    · cases h1
theorem Box.lies {w : World} {g m : Nat} {cur : Array Value} {bs : List Int} (h : Box w g 5 cur) (hm : bs.length = m) (hc : ∀ (j : Nat) (x : Int), bs[j]? = some x → cur[j]? = some (Value.int .u8 x)) : Lies w w.heap.size 1 (some ⟨g, 0, none⟩) m (Im.u8s bs) := by
  refine ⟨by rw [Im.u8s_len]; omega, fun _ => ⟨_, rfl, h.lt⟩, fun ad e h0 j u hu => ?_⟩
  injection e with e
  subst e
  have hadd : (⟨g, 0, none⟩ : Addr).add j = ⟨g, j, none⟩ := by unfold Addr.add; split <;> simp_all
  unfold Im.u8s at hu
  rw [List.getElem?_map] at hu
  cases hj : bs[j]? with
  | none => rw [hj] at hu; cases hu
  | some x =>
    rw [hj] at hu
    injection hu with hu
    subst hu
    rw [hadd, h.cell j]
    exact hc j x hj
theorem own_ge {w : World} {base : Nat} {e : TypeId} {size n : Nat} {v : Value} {xs : List Value} (h : w.ownsRow base e size v n xs) : ∀ r, v.ownBlock = some r → base ≤ r := fun r hr => by
  obtain ⟨_, ⟨rfl, _⟩ | ⟨g, cap, cur, rfl, hbg, _⟩⟩ := h
  · cases hr
  · have e' : g = r := by injection hr
    omega
theorem Box.over {w w' : World} {g B : Nat} {t : TypeId} {cs : Array Value} {row : Option Nat} (h : Box w g t cs) (hg : w.grownBy w' row) (hr : ∀ r, row = some r → B ≤ r) (hlt : g < B) : Box w' g t cs :=
  h.grown hg (fun e => by have := hr g e; omega)
end Go.Proofs.Ytbihnmingedgfaa

/-
ImageBack: a state comes back from its bytes; cut off, or with a byte behind, or turned.
-/




namespace Go.Proofs.Ytbihnmingedgfaa
open Go.RowKit Go.Shelf
set_option linter.unusedVariables false
set_option linter.unusedSimpArgs false

/-- What is got out of other bytes is another state. -/
theorem Im.other {g y : Gm.G} {r yr : Ros.R} (hok : Im.Ok g r) (hd : 0 ≤ g.dice ∧ g.dice ≤ 18446744073709551615) {t : List Int} (hB : Im.IsBytes t) (h : Im.get t = some (y, yr)) : Im.Like g r y yr ↔ t = Im.put g r := by
  obtain ⟨h1, h2, h3⟩ := Im.get_some hB h
  constructor
  · intro hl; rw [← h3]; exact (Im.put_like hl).symm
  · intro ht
    obtain ⟨g', r', h4, h5⟩ := Im.get_put hok hd
    rw [← ht, h] at h4
    injection h4 with h4
    injection h4 with e1 e2
    subst e1 e2
    exact h5
theorem imget_yes (g : Gm.G) (r : Ros.R) (hok : Im.Ok g r) (hd : 0 ≤ g.dice ∧ g.dice ≤ 18446744073709551615) (A : Option Addr) (n c : Nat) (w : World) (hn : n = (Im.put g r).length) (hc : n ≤ c) (hL : Lies w w.heap.size 1 A n (Im.u8s (Im.put g r))) :
    Calls Try.prog 32 #[.slice A n c] w fun r' w' => ∃ g1 r1 S, Im.Like g r g1 r1 ∧ Im.get (Im.put g r) = some (g1, r1) ∧ r' = .returned (.tuple #[.agg (Im.cells g1 (.slice (some ⟨S, 0, none⟩) g1.shots.length g1.shots.length) r1), .int .i64 0]) ∧ Box w' S 108 (Gm.shotCells g1.shots).toArray ∧ Below w.heap.size w w' := by
  refine (imget_any (Im.put g r) A n c w hn hc (Im.put_bytes g r) hL).mono fun r' w' h => ?_
  obtain ⟨g1, r1, h1, h2⟩ := Im.get_put hok hd
  rcases h with ⟨g2, r2, S, hg, h3⟩ | ⟨hg, _⟩
  · rw [h1] at hg
    injection hg with hg
    injection hg with e1 e2
    subst e1 e2
    exact ⟨g1, r1, S, h2, h1, h3⟩
  · rw [h1] at hg; cases hg
theorem imget_no (z0 : Gm.G) (zr : Ros.R) (hz : Im.zero = Im.cells z0 (.slice none 0 0) zr) (bs : List Int) (hg : Im.get bs = none) (A : Option Addr) (n c : Nat) (w : World) (hn : n = bs.length) (hc : n ≤ c) (hBy : Im.IsBytes bs) (hL : Lies w w.heap.size 1 A n (Im.u8s bs)) :
    Calls Try.prog 32 #[.slice A n c] w fun r w' => r = .returned (.tuple #[.agg (Im.cells z0 (.slice none 0 0) zr), .int .i64 2]) ∧ Below w.heap.size w w' := by
  refine (imget_any bs A n c w hn hc hBy hL).mono fun r w' h => ?_
  rcases h with ⟨g1, r1, S, h1, h3⟩ | ⟨_, h3⟩
  · rw [hg] at h1; cases h1
  · rw [← hz]; exact h3
theorem imget_say (z0 : Gm.G) (zr : Ros.R) (hz : Im.zero = Im.cells z0 (.slice none 0 0) zr) (bs : List Int) (A : Option Addr) (n c : Nat) (w : World) (hn : n = bs.length) (hc : n ≤ c) (hBy : Im.IsBytes bs) (hL : Lies w w.heap.size 1 A n (Im.u8s bs)) :
    Calls Try.prog 32 #[.slice A n c] w fun r' w' => (∃ y yr S2, Im.get bs = some (y, yr) ∧ r' = .returned (.tuple #[.agg (Im.cells y (.slice (some ⟨S2, 0, none⟩) y.shots.length y.shots.length) yr), .int .i64 0]) ∧ Box w' S2 108 (Gm.shotCells y.shots).toArray ∧ Below w.heap.size w w') ∨ (Im.get bs = none ∧ r' = .returned (.tuple #[.agg (Im.cells z0 (.slice none 0 0) zr), .int .i64 2]) ∧ Below w.heap.size w w') := by
  refine (imget_any bs A n c w hn hc hBy hL).mono fun r w' h => ?_
  rcases h with h | h
  · exact .inl h
  · rw [← hz]; exact .inr h

set_option maxRecDepth 100000 in
set_option maxHeartbeats 8000000 in
theorem back7_law (g : Gm.G) (r : Ros.R) (A : Option Addr) (n c : Nat) (at0 cb : Int) (w : World) (hty : Gm.ty g) (hn : n = g.shots.length) (hn63 : n ≤ maxLen) (hr : Lies w w.heap.size 6 A n (Gm.shotCells g.shots)) (hat : -9223372036854775808 ≤ at0 ∧ at0 ≤ 9223372036854775807) (hcb : 0 ≤ cb ∧ cb ≤ 255) :
    Calls Try.prog 6 #[.agg (Im.cells g (.slice A n c) r), .int .i64 at0, .int .u8 cb] w fun e w' => e = .returned (.bool true) ∧ Below w.heap.size w w' := by
  have P0 := Lib.hid (Box.made w 53 (Im.cells g (.slice A n c) r))
  have K0 := Lib.hid (one_below w (.cells (Im.cells g (.slice A n c) r) 53))
  have hr0 := (hr.below K0.out).wider K0.out.size
  have ct := fun X => Lib.hid (told7_any X)
  by_cases hok : Im.Ok g r
  rotate_left
  · have cp := Lib.hid (put_no g r A n c _ hok hty hn hn63 hr0)
    clear hr hr0 hty hok hn
    go_enter Try.func6, Try.ntmps6
    go_wp2_with (first | ((with_reducible refine im_load_state rfl rfl ?_); apply LoadIm.mk rfl; (focus (with_reducible exact P0.out)); dsimp only) | (go_at_call 29; ((with_reducible refine (cp.out).mono ?_); rintro r' w1 ⟨rfl, hb⟩; have K1 := Lib.hid (K0.out.trans (hb.mono K0.out.size)); clear hb)) | (go_at_call 28; ((with_reducible refine ((ct _).out).mono ?_); rintro r' w2 ⟨rfl, hb⟩; have K2 := Lib.hid (K1.out.trans (hb.mono K1.out.size)); clear hb)))
    go_ret
    exact ⟨rfl, K2.out⟩
  have hd := hty.2.1
  obtain ⟨z0, zr, hz⟩ : ∃ z0 zr, Im.zero = Im.cells z0 (.slice none 0 0) zr := ⟨Im.G0, Im.R0, rfl⟩
  have cp := Lib.hid (put_made g r A n c _ hok hd hn hr0)
  have cg0 := fun A' c' X hc hL => Lib.hid (imget_yes g r hok hd A' (Im.put g r).length c' X rfl hc hL)
  have cg1 := fun A' c' X hc hL => Lib.hid (imget_no z0 zr hz (Im.put g r ++ [cb]) (Im.get_app hok hd (by simp)) A' ((Im.put g r).length + 1) c' X (by simp) hc ((Im.put_bytes g r).app fun x hx => by obtain rfl := List.mem_singleton.1 hx; exact hcb) hL)
  have cg2 := fun k (hk : k < (Im.put g r).length) A' c' X hc hL => Lib.hid (imget_no z0 zr hz ((Im.put g r).take k) (Im.get_cut hok hd hk) A' k c' X (by rw [List.length_take]; omega) hc ((Im.put_bytes g r).take k) hL)
  have hle := Im.put_le g r hok.1.2.2.1
  have hoth := fun t y yr (hB : Im.IsBytes t) h => Im.other hok hd (t := t) (y := y) (yr := yr) hB h
  have hyes := Im.get_put hok hd
  have hby := Im.put_bytes g r
  have h4 : 4 ≤ (Im.put g r).length := by
    have e : (Im.put g r).length = 4 + (Im.put g r).length - 4 := by
      unfold Im.put; rw [List.length_append, Im.bytesOf_len]; omega
    unfold Im.put at *; rw [List.length_append, Im.bytesOf_len]; omega
  have H0 := Lib.hid hr
  have HZ := Lib.hid hz
  have HNN := Lib.hid hn
  have N63 := Lib.hid hn63
  generalize Im.put g r = bs at *
  obtain ⟨m, hm⟩ : ∃ m, m = bs.length := ⟨_, rfl⟩
  rw [← hm] at cp cg0 cg1 cg2 hle h4
  have HM := Lib.hid hm
  have HOTH := Lib.hid hoth
  have HYES := Lib.hid hyes
  have HBY := Lib.hid hby
  have HD := Lib.hid hd
  clear hr hr0 hty hok hn63 hm hoth hyes hby hz hn hd
  go_enter Try.func6, Try.ntmps6
  go_upto_region 5 with (first | ((with_reducible refine im_load_state rfl rfl ?_); apply LoadIm.mk rfl; (focus (with_reducible exact P0.out)); dsimp only) | (with_reducible refine alloc_state rfl rfl ?_) | (with_reducible refine state_store_new rfl rfl rfl rfl Im.zero_size rfl ?_) | (go_at_call 29; ((with_reducible refine (cp.out).mono ?_); rintro r' w1 ⟨A1, c1, rfl, hc1, hL1, hb⟩; have P1 := Lib.hid (P0.out.below hb P0.out.lt); have K1 := Lib.hid (K0.out.trans (hb.mono K0.out.size)); have L1 := Lib.hid hL1; have C1 := Lib.hid hc1; have g0 := cg0 A1 c1 _ hc1 hL1; clear hb cp cg0 hc1 hL1)) | (go_at_call 32; ((with_reducible refine (g0.out).mono ?_); rintro r' w2 ⟨g1, r1, S1, hlk, hgt, rfl, hE, hb⟩; have P2 := Lib.hid ((P1.out.below hb P1.out.lt).alloc (.cells (Im.cells g1 (.slice (some ⟨S1, 0, none⟩) g1.shots.length g1.shots.length) r1) 53)); have K2 := Lib.hid ((K1.out.trans (hb.mono K1.out.size)).alloc (Nat.le_trans K1.out.size hb.size) (.cells (Im.cells g1 (.slice (some ⟨S1, 0, none⟩) g1.shots.length g1.shots.length) r1) 53)); have G2 := Lib.hid (Box.made w2 53 (Im.cells g1 (.slice (some ⟨S1, 0, none⟩) g1.shots.length g1.shots.length) r1)); have E2 := Lib.hid (hE.alloc (.cells (Im.cells g1 (.slice (some ⟨S1, 0, none⟩) g1.shots.length g1.shots.length) r1) 53)); have L2 := Lib.hid (((L1.out.below hb).wider hb.size).below (one_below w2 (.cells (Im.cells g1 (.slice (some ⟨S1, 0, none⟩) g1.shots.length g1.shots.length) r1) 53))); have l2 := Nat.lt_of_lt_of_le P1.out.lt hb.size; have s2 := hE.lt; have HLK := Lib.hid hlk; have F1 := Lib.hid (show g1.shots.length ≤ maxLen by (have e4 := hlk.1.2.2.2); rw [← e4, ← HNN.out]; exact N63.out); clear hb g0 hE hgt hlk)))
  generalize hV2 : w2.alloc (.cells (Im.cells g1 (.slice (some ⟨S1, 0, none⟩) g1.shots.length g1.shots.length) r1) 53) = V2 at *
  have VS := Lib.hid (show V2.heap.size = w2.heap.size + 1 by rw [← hV2]; simp)
  obtain ⟨i0, hi0, hz0, hz1, hz2⟩ := u8_parts
  have hI := Lib.hid hi0
  have hZ := Lib.hid hz0
  have hS := Lib.hid hz1
  have hY := Lib.hid hz2
  have own0 := Lib.hid (World.ownsRow_lit (base := V2.heap.size) (e := 5) (size := 1) V2 #[] 0 (Nat.le_refl _) (Nat.zero_le _) rfl)
  have M2 := Lib.hid ((L2.out.below ((one_below V2 (.cells #[] 5)).mono (by have := VS.out; omega))).wider (show w2.heap.size ≤ (V2.alloc (.cells #[] 5)).heap.size by have := VS.out; simp; omega))
  have csm := fun X hX1 hX2 => Lib.hid (show Calls Try.prog 34 #[.agg (Im.cells g (.slice A n c) r), .agg (Im.cells g1 (.slice (some ⟨S1, 0, none⟩) g1.shots.length g1.shots.length) r1)] X fun r' w' => r' = .returned (.bool true) ∧ Below X.heap.size X w' from
    (refsamest_any g g1 r r1 A (some ⟨S1, 0, none⟩) n g1.shots.length c g1.shots.length X HNN.out rfl hX1 hX2 N63.out F1.out).mono fun r' w' ⟨⟨v, h1, h2⟩, h3⟩ => by
      obtain rfl : v = true := h2.2 HLK.out
      exact ⟨h1, h3⟩)
  have hwn : IntKind.i64.wrap ((m : Int) + 1) = m + 1 := by rw [IntKind.wrap_i64]; omega
  have hwm : IntKind.u64.wrap ((m : Int) + 1) = m + 1 := by rw [IntKind.wrap_u64]; omega
  have u0 : 0 ≤ IntKind.u64.wrap at0 := by rw [IntKind.wrap_u64]; omega
  have u1 : IntKind.u64.wrap at0 ≤ 18446744073709551615 := by rw [IntKind.wrap_u64]; omega
  clear hi0 hz0 hz1 hz2 hV2
  go_upto_region 6 with fail
  obtain ⟨kk, hkk, hkm⟩ : ∃ kk : Nat, RowKit.wrap64 (IntKind.u64.wrap at0 % ((m : Int) + 1)) = kk ∧ kk < m + 1 := by
    have h0 : 0 ≤ IntKind.u64.wrap at0 % ((m : Int) + 1) := Int.emod_nonneg _ (by omega)
    have h1 : IntKind.u64.wrap at0 % ((m : Int) + 1) < m + 1 := Int.emod_lt_of_pos _ (by omega)
    refine ⟨(IntKind.u64.wrap at0 % ((m : Int) + 1)).toNat, ?_, by omega⟩
    rw [IntWalk.wrap64_in _ (by omega)]; omega
  rw [hkk]
  clear hkk hwn hwm u0 u1
  go_upto_region 7 with (first | ((with_reducible refine append_gate (x := .tmp 43) (y := .tmp 44) (t := 54) (e := 5) (size := 1) (bytes := 1) rfl rfl Try.underlying54 hI.out hZ.out hS.out hY.out rfl (by decide) ?_); refine Appends.mk (base := V2.heap.size) (n := 0) (xs := []) rfl own0.out M2.out (Im.u8s_one _) (by unfold maxLen; omega) (by have := VS.out; omega) (by simp) ?_; intro A3 c3 w3 own3 hg3; simp only [Nat.zero_add, List.nil_append] at own3 ⊢; have OW3 := Lib.hid own3; have P3 := Lib.hid ((P2.out.alloc _).over hg3 (B := V2.heap.size) (own_ge own0.out) (by have := VS.out; omega)); have G3 := Lib.hid ((G2.out.alloc _).over hg3 (B := V2.heap.size) (own_ge own0.out) (by have := VS.out; omega)); have E3 := Lib.hid ((E2.out.alloc _).over hg3 (B := V2.heap.size) (own_ge own0.out) (by have := VS.out; omega)); have L3 := Lib.hid ((L2.out.below ((one_below V2 (.cells #[] 5)).mono (by have := VS.out; omega))).grown hg3 (fun r hr => Nat.le_trans (by have := VS.out; omega) (own_ge own0.out r hr)) (by have := VS.out; simp; omega)); have K3 := Lib.hid (below_grown (K2.out.alloc K2.out.size _) hg3 (fun r hr => Nat.le_trans (by have := VS.out; omega) (own_ge own0.out r hr)) (Nat.le_refl _)); have sz3 : V2.heap.size ≤ w3.heap.size := Nat.le_trans (by simp) hg3.size; clear own3 hg3) | ((with_reducible refine append_gate (x := .tmp 45) (y := .tmp 47) (t := 54) (e := 5) (size := 1) (bytes := 1) rfl rfl Try.underlying54 hI.out hZ.out hS.out hY.out rfl (by decide) ?_); refine Appends.mk (base := V2.heap.size) (n := m) (xs := Im.u8s bs) (m := 1) (news := Im.u8s [cb]) rfl (OW3.out.alloc _) (lies_byte w3 cb) (Im.u8s_one _) (by unfold maxLen; omega) (by have := VS.out; omega) (by have := VS.out; simp; omega) ?_; intro A4 c4 w4 own4 hg4; rw [← Im.u8s_append] at own4; have P4 := Lib.hid ((P3.out.alloc _).over hg4 (B := V2.heap.size) (own_ge OW3.out) (by have := VS.out; omega)); have G4 := Lib.hid ((G3.out.alloc _).over hg4 (B := V2.heap.size) (own_ge OW3.out) (by have := VS.out; omega)); have E4 := Lib.hid ((E3.out.alloc _).over hg4 (B := V2.heap.size) (own_ge OW3.out) (by have := VS.out; omega)); have L4 := Lib.hid ((L3.out.below ((one_below w3 _).mono (by have := VS.out; omega))).grown hg4 (fun r hr => Nat.le_trans (by have := VS.out; omega) (own_ge OW3.out r hr)) (by have := VS.out; simp; omega)); have K4 := Lib.hid (below_grown (K3.out.alloc K3.out.size _) hg4 (fun r hr => Nat.le_trans (by have := VS.out; omega) (own_ge OW3.out r hr)) (Nat.le_refl _)); have sz4 : w3.heap.size ≤ w4.heap.size := Nat.le_trans (by simp) hg4.size; have g4 := cg1 A4 c4 w4 (own_cap own4) (Lies.owned own4); clear own4 hg4) | (with_reducible refine alloc_state rfl rfl ?_) | (with_reducible refine state_store_new rfl rfl rfl rfl Im.zero_size rfl ?_) | (go_at_call 32; ((with_reducible refine (g4.out).mono ?_); rintro r' w5 ⟨rfl, hb⟩; have P5 := Lib.hid ((P4.out.below hb P4.out.lt).alloc (.cells (Im.cells z0 (.slice none 0 0) zr) 53)); have K5 := Lib.hid ((K4.out.trans (hb.mono K4.out.size)).alloc (Nat.le_trans K4.out.size hb.size) (.cells (Im.cells z0 (.slice none 0 0) zr) 53)); have G5 := Lib.hid ((G4.out.below hb G4.out.lt).alloc (.cells (Im.cells z0 (.slice none 0 0) zr) 53)); have E5 := Lib.hid ((E4.out.below hb E4.out.lt).alloc (.cells (Im.cells z0 (.slice none 0 0) zr) 53)); have L5 := Lib.hid (L4.out.below ((hb.mono (by have := VS.out; omega)).trans ((one_below w5 (.cells (Im.cells z0 (.slice none 0 0) zr) 53)).mono (Nat.le_trans (by have := VS.out; omega) hb.size)))); have sz5 := hb.size; clear hb g4)))
  have c5 := csm _ ((H0.out.below K5.out).wider K5.out.size) (lies_boxed E5.out (Gm.shotCells_len _))
  go_upto_region 9 with (first | ((with_reducible refine im_load_state_g ?_ rfl ?_); (focus first | rfl | kernel_rfl | simp [Region.wanted, yielded]); apply LoadIm.mk rfl; (focus first | (with_reducible exact G5.out) | (with_reducible exact P5.out)); dsimp only) | (go_at_call 34; ((with_reducible refine (c5.out).mono ?_); rintro r' w6 ⟨rfl, hb⟩; have P6 := Lib.hid (P5.out.below hb P5.out.lt); have K6 := Lib.hid (K5.out.trans (hb.mono K5.out.size)); have sz6 := hb.size; have L6 := Lib.hid (L5.out.below (hb.mono (by have := VS.out; simp at sz5 ⊢; omega))); clear hb c5)))
  by_cases hkq : kk = m
  · subst hkq
    clear hkm
    go_wp2_with (go_at_call 28; ((with_reducible refine ((ct _).out).mono ?_); rintro r' w7 ⟨rfl, hb⟩; have K7 := Lib.hid (K6.out.trans (hb.mono K6.out.size)); clear hb))
    go_ret
    exact ⟨rfl, K7.out⟩
  have hkm2 : kk < m := by omega
  have hkne : ((kk : Int) == (m : Int)) = false := by simp; omega
  have hsl := fun W => run_slice_to (P := Try.prog) (t := 54) A1 m c1 kk Try.underlying54 u8_size (by have := C1.out; omega) W
  have g6 := cg2 kk hkm2 A1 c1 w6 (by have := C1.out; omega) ((L6.out.take1 kk (by omega)).wider (by have := VS.out; simp at sz6 sz5 ⊢; omega))
  have hkl : kk < bs.length := by have := HM.out; omega
  have hbk := HBY.out bs[kk] (List.getElem_mem hkl)
  have hset := fun v => By.set_same_iff hkl v
  have hat' : bs[kk]? = some bs[kk] := List.getElem?_eq_getElem hkl
  generalize bs[kk] = xk at hbk hset hat'
  obtain ⟨v, hxor, hv, hvc⟩ := By.xor_turn hbk hcb
  have HVC := Lib.hid ((hset v).trans hvc)
  have HAT := Lib.hid hat'
  have HTB := Lib.hid (By.set_bytes HBY.out kk hv)
  have HTL := Lib.hid (show (bs.set kk v).length = m by rw [List.length_set]; exact HM.out.symm)
  clear hvc hset hat' hbk hkq hkm
  go_upto_region 12 with (first | (with_reducible refine alloc_state rfl rfl ?_) | (with_reducible refine state_store_new rfl rfl rfl rfl Im.zero_size rfl ?_) | (go_at_call 32; ((with_reducible refine (g6.out).mono ?_); rintro r' w7 ⟨rfl, hb⟩; have P7 := Lib.hid ((P6.out.below hb P6.out.lt).alloc (.cells (Im.cells z0 (.slice none 0 0) zr) 53)); have K7 := Lib.hid ((K6.out.trans (hb.mono K6.out.size)).alloc (Nat.le_trans K6.out.size hb.size) (.cells (Im.cells z0 (.slice none 0 0) zr) 53)); have sz7 := hb.size; have L7 := Lib.hid ((L6.out.below (hb.mono (by have := VS.out; simp at sz6 sz5 ⊢; omega))).below ((one_below w7 (.cells (Im.cells z0 (.slice none 0 0) zr) 53)).mono (by have := VS.out; simp at sz6 sz5 ⊢; omega))); clear hb g6)))
  generalize hV7 : w7.alloc (.cells (Im.cells z0 (.slice none 0 0) zr) 53) = V7 at *
  have VS7 := Lib.hid (show V7.heap.size = w7.heap.size + 1 by rw [← hV7]; simp)
  have own7 := Lib.hid (World.ownsRow_lit (base := V7.heap.size) (e := 5) (size := 1) V7 #[] 0 (Nat.le_refl _) (Nat.zero_le _) rfl)
  have BIG := Lib.hid (show w2.heap.size ≤ V7.heap.size by have := VS.out; have := VS7.out; simp at sz6; omega)
  have M7 := Lib.hid ((L7.out.below ((one_below V7 (.cells #[] 5)).mono BIG.out)).wider (show w2.heap.size ≤ (V7.alloc (.cells #[] 5)).heap.size by have := BIG.out; simp; omega))
  clear hV7
  go_upto_region 14 with ((with_reducible refine append_gate (x := .tmp 76) (y := .tmp 77) (t := 54) (e := 5) (size := 1) (bytes := 1) rfl rfl Try.underlying54 hI.out hZ.out hS.out hY.out rfl (by decide) ?_); refine Appends.mk (base := V7.heap.size) (n := 0) (xs := []) rfl own7.out M7.out (Im.u8s_one _) (by unfold maxLen; omega) (by omega) (by simp) ?_; intro A8 c8 w8 own8 hg8; simp only [Nat.zero_add, List.nil_append] at own8 ⊢; have P8 := Lib.hid ((P7.out.alloc _).over hg8 (B := V7.heap.size) (own_ge own7.out) (by have := BIG.out; omega)); have K8 := Lib.hid (below_grown (K7.out.alloc K7.out.size _) hg8 (fun r hr => Nat.le_trans (by have := BIG.out; omega) (own_ge own7.out r hr)) (Nat.le_refl _)); obtain ⟨gg, cur, hA8, hgb, hmc, hB8, hcur⟩ := own_box own8 (by omega); subst hA8; have T8 := Lib.hid hB8; have HCUR := Lib.hid hcur; have t8 := (hB8.cell kk).trans (hcur kk _ HAT.out); have f8 := hB8.free kk; clear own8 hg8 hB8 hcur)
  have hgw : w.heap.size < gg := by have := BIG.out; omega
  have P9 := Lib.hid (P8.out.far (p := ⟨gg, kk, none⟩) (show w.heap.size ≠ gg by omega) (.int .u8 v))
  have K9 := Lib.hid (K8.out.setCell (p := ⟨gg, kk, none⟩) (show w.heap.size ≤ gg by omega) (.int .u8 v))
  have T9 := Lib.hid (T8.out.put kk (.int .u8 v))
  have HC9 := Lib.hid (show ∀ (j : Nat) (x : Int), (bs.set kk v)[j]? = some x → (cur.setIfInBounds kk (.int .u8 v))[j]? = some (Value.int .u8 x) from fun j x hj => by
    by_cases e : kk = j
    · subst e
      have hlt : kk < cur.size := (Array.getElem?_eq_some_iff.1 (HCUR.out kk _ HAT.out)).1
      rw [List.getElem?_set_self (by have := HM.out; omega)] at hj
      injection hj with hj
      subst hj
      rw [Array.getElem?_setIfInBounds_self, if_pos hlt]
    · rw [List.getElem?_set_ne e] at hj
      rw [Array.getElem?_setIfInBounds_ne e]
      exact HCUR.out j x hj)
  have g9 := Lib.hid (imget_say z0 zr HZ.out (bs.set kk v) (some ⟨gg, 0, none⟩) m c8 _ HTL.out.symm hmc HTB.out (T9.out.lies HTL.out HC9.out))
  clear t8 f8 P8 K8 T8 HCUR
  generalize hW9 : w8.setCell ⟨gg, kk, none⟩ (.int .u8 v) = W9 at *
  clear hW9
  go_upto_region 15 with (first | (with_reducible refine alloc_state rfl rfl ?_) | (with_reducible refine state_store_new rfl rfl rfl rfl Im.zero_size rfl ?_) | (go_at_call 32; ((with_reducible refine (g9.out).mono ?_); rintro r' w10 (⟨y, yr, S2, hgt, rfl, hE, hb⟩ | ⟨hgt, rfl, hb⟩); (all_goals first | (have G10 := Lib.hid (Box.made w10 53 (Im.cells y (.slice (some ⟨S2, 0, none⟩) y.shots.length y.shots.length) yr)); have E10 := Lib.hid (hE.alloc (.cells (Im.cells y (.slice (some ⟨S2, 0, none⟩) y.shots.length y.shots.length) yr) 53)); have P10 := Lib.hid ((P9.out.below hb P9.out.lt).alloc (.cells (Im.cells y (.slice (some ⟨S2, 0, none⟩) y.shots.length y.shots.length) yr) 53)); have T10 := Lib.hid ((T9.out.below hb T9.out.lt).alloc (.cells (Im.cells y (.slice (some ⟨S2, 0, none⟩) y.shots.length y.shots.length) yr) 53)); have K10 := Lib.hid ((K9.out.trans (hb.mono K9.out.size)).alloc (Nat.le_trans K9.out.size hb.size) (.cells (Im.cells y (.slice (some ⟨S2, 0, none⟩) y.shots.length y.shots.length) yr) 53)); have HG := Lib.hid hgt; clear hb hE hgt g9) | (have K10 := Lib.hid ((K9.out.trans (hb.mono K9.out.size)).alloc (Nat.le_trans K9.out.size hb.size) (.cells (Im.cells z0 (.slice none 0 0) zr) 53)); have HG := Lib.hid hgt; clear hb hgt g9)))))
  · obtain ⟨yok, yty, yput⟩ := Im.get_some HTB.out HG.out
    have yf := yok.1.2.2.1
    have hlk := (HOTH.out (bs.set kk v) y yr HTB.out HG.out).trans HVC.out
    have cp2 := fun X hX => Lib.hid (put_made y yr (some ⟨S2, 0, none⟩) y.shots.length y.shots.length X yok yty.2.1 rfl hX)
    rw [yput, HTL.out] at cp2
    have csm2 := fun X h1 h2 => Lib.hid (refsamest_any g y r yr A (some ⟨S2, 0, none⟩) n y.shots.length c y.shots.length X HNN.out rfl h1 h2 N63.out (by unfold maxLen; omega))
    have hcv := Lib.hid (fun A' c' X B hL => conv_bytes (bs.set kk v) m A' c' X B HTL.out hL)
    have c10 := cp2 _ (lies_boxed E10.out (Gm.shotCells_len _))
    have HLK2 := Lib.hid hlk
    clear cp2 yok yty yput hlk cg1 cg2 csm own7 M7 P9 K9 T9 P7 K7 L7 hxor
    go_upto_region 20 with (first | ((with_reducible refine im_load_state rfl rfl ?_); apply LoadIm.mk rfl; (focus (with_reducible exact G10.out)); dsimp only) | (go_at_call 29; ((with_reducible refine (c10.out).mono ?_); rintro r' w11 ⟨A11, c11, rfl, _, hL11, hb⟩; have L11 := Lib.hid hL11; have G11 := Lib.hid (G10.out.below hb G10.out.lt); have P11 := Lib.hid (P10.out.below hb P10.out.lt); have T11 := Lib.hid (T10.out.below hb T10.out.lt); have E11 := Lib.hid (E10.out.below hb E10.out.lt); have K11 := Lib.hid (K10.out.trans (hb.mono K10.out.size)); clear hb hL11 c10)))
    by_cases hzc : cb = 0
    · have hlb := Lib.hid (HLK2.out.2 hzc)
      subst hzc
      go_wp2_with (first | (go_at_call 28; ((with_reducible refine ((ct _).out).mono ?_); rintro r' w12 ⟨rfl, hb⟩; have v1 := hcv.out A11 c11 w12 _ (L11.out.below hb); have T12 := T11.out.below hb T11.out.lt; have v2 := hcv.out (some ⟨gg, 0, none⟩) c8 w12 _ (T12.lies HTL.out HC9.out); have G12 := Lib.hid (G11.out.below hb G11.out.lt); have P12 := Lib.hid (P11.out.below hb P11.out.lt); have E12 := Lib.hid (E11.out.below hb E11.out.lt); have K12 := Lib.hid (K11.out.trans (hb.mono K11.out.size)); have s12 := csm2 w12 ((H0.out.below K12.out).wider K12.out.size) (lies_boxed E12.out (Gm.shotCells_len _)); clear hb T12)) | ((with_reducible refine im_load_state_g ?_ rfl ?_); (focus first | rfl | kernel_rfl | simp [Region.wanted, yielded]); apply LoadIm.mk rfl; (focus first | (with_reducible exact G12.out) | (with_reducible exact P12.out)); dsimp only) | (go_at_call 34; ((with_reducible refine (s12.out).mono ?_); rintro r' w13 ⟨⟨vv, rfl, hvv⟩, hb⟩; obtain rfl : vv = true := hvv.2 hlb.out; have K13 := Lib.hid (K12.out.trans (hb.mono K12.out.size)); clear hb hvv)))
      go_ret
      exact ⟨rfl, K13.out⟩
    · have hlb := Lib.hid (show ¬ Im.Like g r y yr from fun h => hzc (HLK2.out.1 h))
      have hcz : (cb == 0) = false := by simpa using hzc
      clear hzc
      go_wp2_with (first | (go_at_call 28; ((with_reducible refine ((ct _).out).mono ?_); rintro r' w12 ⟨rfl, hb⟩; have v1 := hcv.out A11 c11 w12 _ (L11.out.below hb); have T12 := T11.out.below hb T11.out.lt; have v2 := hcv.out (some ⟨gg, 0, none⟩) c8 w12 _ (T12.lies HTL.out HC9.out); have G12 := Lib.hid (G11.out.below hb G11.out.lt); have P12 := Lib.hid (P11.out.below hb P11.out.lt); have E12 := Lib.hid (E11.out.below hb E11.out.lt); have K12 := Lib.hid (K11.out.trans (hb.mono K11.out.size)); have s12 := csm2 w12 ((H0.out.below K12.out).wider K12.out.size) (lies_boxed E12.out (Gm.shotCells_len _)); clear hb T12)) | ((with_reducible refine im_load_state_g ?_ rfl ?_); (focus first | rfl | kernel_rfl | simp [Region.wanted, yielded]); apply LoadIm.mk rfl; (focus first | (with_reducible exact G12.out) | (with_reducible exact P12.out)); dsimp only) | (go_at_call 34; ((with_reducible refine (s12.out).mono ?_); rintro r' w13 ⟨⟨vv, rfl, hvv⟩, hb⟩; obtain rfl : vv = false := (by cases vv <;> first | rfl | exact absurd (hvv.1 rfl) hlb.out); have K13 := Lib.hid (K12.out.trans (hb.mono K12.out.size)); clear hb hvv)))
      go_ret
      exact ⟨rfl, K13.out⟩
  · have hcne : (cb != 0) = true := by
      have hne : cb ≠ 0 := fun e => by
        obtain ⟨g', r', h1, _⟩ := HYES.out
        have := HG.out
        rw [HVC.out.2 e, h1] at this
        cases this
      simpa using hne
    go_wp2_with (go_at_call 28; ((with_reducible refine ((ct _).out).mono ?_); rintro r' w11 ⟨rfl, hb⟩; have K11 := Lib.hid (K10.out.trans (hb.mono K10.out.size)); clear hb))
    go_ret
    exact ⟨rfl, K11.out⟩
end Go.Proofs.Ytbihnmingedgfaa

/-
ImageAsks: a state's bytes, what bytes are, and their sum, is what the document says.
-/



namespace Go.Proofs.Ytbihnmingedgfaa
open Go.RowKit Go.Shelf
set_option linter.unusedVariables false
set_option linter.unusedSimpArgs false

set_option maxRecDepth 100000 in
set_option maxHeartbeats 8000000 in
theorem asks7_law (g : Gm.G) (r : Ros.R) (A : Option Addr) (n c : Nat) (bs : List Int) (B : Option Addr) (cb : Nat) (w : World) (hty : Gm.ty g) (hn : n = g.shots.length) (hn63 : n ≤ maxLen) (hr : Lies w w.heap.size 6 A n (Gm.shotCells g.shots)) (hBy : Im.IsBytes bs) (hbc : bs.length ≤ cb) (hb63 : bs.length ≤ maxLen) (hLb : Lies w w.heap.size 1 B bs.length (Im.u8s bs)) :
    Calls Try.prog 5 #[.agg (Im.cells g (.slice A n c) r), .slice B bs.length cb] w fun e w' => e = .returned (.bool true) ∧ Below w.heap.size w w' := by
  have P0 := Lib.hid (Box.made w 53 (Im.cells g (.slice A n c) r))
  have K0 := Lib.hid (one_below w (.cells (Im.cells g (.slice A n c) r) 53))
  have LG := Lib.hid (fun X (k : Below w.heap.size w X) => (hr.below k).wider k.size)
  have LB := Lib.hid (fun X (k : Below w.heap.size w X) => (hLb.below k).wider k.size)
  have HCV := Lib.hid (fun X k => conv_bytes bs bs.length B cb X _ rfl (LB.out X k))
  have HBY := Lib.hid hBy
  have ct := fun X => Lib.hid (told7_any X)
  have cf := fun X => Lib.hid (few_any g A n c X hn63)
  have cm := fun X k => Lib.hid (refstate_any g r A n c X hty hn hn63 (LG.out X k))
  have csum := fun X k => Lib.hid (sum_any bs bs.length B cb X rfl hb63 (LB.out X k))
  have csd := fun X => Lib.hid (show Calls Try.prog 36 #[.string (strOfNums bs)] X (fun e w' => e = .returned (.int .u64 (Im.sum bs)) ∧ X = w') from refseed_any (strOfNums bs) X (by rw [strOfNums_size]; exact hb63))
  have cof := fun X k => Lib.hid (of_any g r A n c X hty hn hn63 (LG.out X k))
  have crs := fun X k => Lib.hid (refsumst_any g r A n c X hty hn hn63 (LG.out X k))
  have b63 : (bs.length : Int) ≤ 9223372036854775807 := by unfold maxLen at hb63; omega
  obtain ⟨z0, zr, hz, hz0⟩ : ∃ z0 zr, Im.zero = Im.cells z0 (.slice none 0 0) zr ∧ z0.shots = [] := ⟨Im.G0, Im.R0, rfl, rfl⟩
  have HZ := Lib.hid hz
  have HZ0 := Lib.hid hz0
  clear hr hLb hz hz0 hb63 hBy
  by_cases hfew : n ≤ 60
  rotate_left
  · rw [show decide (n ≤ 60) = false from decide_eq_false hfew] at cf
    clear hn hty cm hfew csum csd cof crs
    go_enter Try.func5, Try.ntmps5
    go_wp2_with (first | ((with_reducible refine im_load_game rfl rfl ?_); apply LoadIm.mk rfl; (focus (with_reducible exact P0.out)); dsimp only) | (go_at_call 27; ((with_reducible refine ((cf _).out).mono ?_); rintro r' w1 ⟨rfl, hb⟩; have P1 := Lib.hid (P0.out.below hb P0.out.lt); have K1 := Lib.hid (K0.out.trans (hb.mono K0.out.size)); clear hb)) | (go_at_call 28; ((with_reducible refine ((ct _).out).mono ?_); rintro r' w9 ⟨rfl, hb⟩; have K2 := Lib.hid (K1.out.trans (hb.mono K1.out.size)); clear hb)))
    go_ret
    exact ⟨rfl, K2.out⟩
  rw [show decide (n ≤ 60) = true from decide_eq_true hfew] at cf
  by_cases h9 : 900 < (bs.length : Int)
  · have d9 : decide (900 < (bs.length : Int)) = true := decide_eq_true h9
    clear hn hty cm hfew csum csd cof crs h9
    go_enter Try.func5, Try.ntmps5
    go_wp2_with (first | ((with_reducible refine im_load_game rfl rfl ?_); apply LoadIm.mk rfl; (focus (with_reducible exact P0.out)); dsimp only) | (go_at_call 27; ((with_reducible refine ((cf _).out).mono ?_); rintro r' w1 ⟨rfl, hb⟩; have P1 := Lib.hid (P0.out.below hb P0.out.lt); have K1 := Lib.hid (K0.out.trans (hb.mono K0.out.size)); clear hb)) | (go_at_call 28; ((with_reducible refine ((ct _).out).mono ?_); rintro r' w9 ⟨rfl, hb⟩; have K2 := Lib.hid (K1.out.trans (hb.mono K1.out.size)); clear hb)))
    go_ret
    exact ⟨rfl, K2.out⟩
  have d9 : decide (900 < (bs.length : Int)) = false := decide_eq_false h9
  by_cases hok : Im.Ok g r
  · have cp := fun X k => Lib.hid (put_yes g r A n c X hok hty.2.1 hn (LG.out X k))
    have cpr := fun X k => Lib.hid (refputst_yes g r A n c X hok hty.2.1 hn (LG.out X k))
    have HOK := Lib.hid hok
    clear hn hty hok hfew h9
    go_enter Try.func5, Try.ntmps5
    go_upto_region 5 with (first | ((with_reducible refine im_load_game rfl rfl ?_); apply LoadIm.mk rfl; (focus (with_reducible exact P0.out)); dsimp only) | (go_at_call 27; ((with_reducible refine ((cf _).out).mono ?_); rintro r' w1 ⟨rfl, hb⟩; have P1 := Lib.hid (P0.out.below hb P0.out.lt); have K1 := Lib.hid (K0.out.trans (hb.mono K0.out.size)); clear hb)) | ((with_reducible refine im_load_state rfl rfl ?_); apply LoadIm.mk rfl; (focus first | (with_reducible exact P2.out) | (with_reducible exact P1.out)); dsimp only) | (go_at_call 29; ((with_reducible refine ((cp _ K1.out).out).mono ?_); rintro r' w2 ⟨A2, c2, rfl, hL, hb⟩; have P2 := Lib.hid (P1.out.below hb P1.out.lt); have K2 := Lib.hid (K1.out.trans (hb.mono K1.out.size)); have L2 := Lib.hid hL; clear hb hL)) | (go_at_call 30; ((with_reducible refine ((cm _ K2.out).out).mono ?_); rintro r' w4 ⟨⟨b, rfl, hb2⟩, hb⟩; obtain rfl : b = true := hb2.2 HOK.out; have P4 := Lib.hid (P2.out.below hb P2.out.lt); have K4 := Lib.hid (K2.out.trans (hb.mono K2.out.size)); have L4 := Lib.hid ((L2.out.below hb).wider hb.size); clear hb hb2)))
    have CPR := Lib.hid (fun q : Ext w4.heap.size w4 => (cpr q.w (K4.out.trans (q.h.mono K4.out.size))).out)
    have ZP := Lib.hid (fun q : Ext w4.heap.size w4 => P4.out.below q.h P4.out.lt)
    have zcv : ∀ q : Ext w4.heap.size w4, (convert 54 9 (.slice A2 (Im.put g r).length c2)).run Try.prog q.w = .ok (.string (strOfNums (Im.put g r))) q.w := fun q => conv_bytes (Im.put g r) (Im.put g r).length A2 c2 q.w _ rfl (L4.out.below q.h)
    generalize strOfNums (Im.put g r) = sp at *
    generalize (Im.put g r).length = np at *
    refine wp_region_ext w4.heap.size w4 (by kernel_rfl) (by kernel_rfl) (Below.refl _ _) ?_
    repeat (first | (go_big_quiet_want; (first | (refine quiet_state rfl rfl ZP.out ?_)); simp only [Act.put, List.setIfInBounds_toArray, List.set_cons_succ, List.set_cons_zero]; go_big_quiet_on) | go_big_quiet_step ((first | (go_at_call 31; with_reducible exact Calls.ext_of (Nat.le_refl _) (CPR.out _)))))
    refine wpQuiet_nil ?_
    intro _ hw'
    obtain ⟨q5, hw''⟩ := hw'
    subst hw''
    have P5 := Lib.hid (ZP.out q5)
    have K5 := Lib.hid (K4.out.trans (q5.h.mono K4.out.size))
    clear CPR ZP zcv cpr L4 cp cm
    have cg := Lib.hid (imget_say z0 zr HZ.out bs B bs.length cb _ rfl hbc HBY.out (LB.out _ K5.out))
    go_upto_region 10 with (first | (with_reducible refine alloc_state rfl rfl ?_) | (with_reducible refine state_store_new rfl rfl rfl rfl Im.zero_size rfl ?_) | (go_at_call 32; ((with_reducible refine (cg.out).mono ?_); rintro r' w6 (⟨y, yr, S2, hgt, rfl, hE, hb⟩ | ⟨hgt, rfl, hb⟩); (all_goals first | (have Y6 := Lib.hid (Box.made w6 53 (Im.cells y (.slice (some ⟨S2, 0, none⟩) y.shots.length y.shots.length) yr)); have E6 := Lib.hid (hE.alloc (.cells (Im.cells y (.slice (some ⟨S2, 0, none⟩) y.shots.length y.shots.length) yr) 53)); have P6 := Lib.hid ((P5.out.below hb P5.out.lt).alloc (.cells (Im.cells y (.slice (some ⟨S2, 0, none⟩) y.shots.length y.shots.length) yr) 53)); have K6 := Lib.hid ((K5.out.trans (hb.mono K5.out.size)).alloc (Nat.le_trans K5.out.size hb.size) (.cells (Im.cells y (.slice (some ⟨S2, 0, none⟩) y.shots.length y.shots.length) yr) 53)); have HG := Lib.hid hgt; clear hb hE hgt cg) | (have Y6 := Lib.hid (Box.made w6 53 (Im.cells z0 (.slice none 0 0) zr)); have P6 := Lib.hid ((P5.out.below hb P5.out.lt).alloc (.cells (Im.cells z0 (.slice none 0 0) zr) 53)); have K6 := Lib.hid ((K5.out.trans (hb.mono K5.out.size)).alloc (Nat.le_trans K5.out.size hb.size) (.cells (Im.cells z0 (.slice none 0 0) zr) 53)); have HG := Lib.hid hgt; clear hb hgt cg)))))
    · skip
      have y32 := (Im.get_some HBY.out HG.out).1.1.2.2.1
      have y63 : y.shots.length ≤ maxLen := by unfold maxLen; omega
      have hcv := HCV.out _ K6.out
      have crg := fun X => Lib.hid (show Calls Try.prog 33 #[.string (strOfNums bs)] X (fun r' w' => ∃ A8 c8, r' = .returned (.tuple #[.agg (Im.cells y (.slice A8 y.shots.length c8) yr), .int .i64 0]) ∧ Lies w' w'.heap.size 6 A8 y.shots.length (Gm.shotCells y.shots) ∧ Below X.heap.size X w') from (refgetst_any bs X HBY.out).mono (fun r' w' h => by
        rcases h with ⟨g', q', A8, c8, h1, h2⟩ | ⟨h1, _⟩
        · rw [HG.out] at h1; injection h1 with h1; injection h1 with e1 e2; subst e1 e2; exact ⟨A8, c8, h2⟩
        · rw [HG.out] at h1; cases h1))
      obtain ⟨sb, hsb⟩ : ∃ sb, sb = strOfNums bs := ⟨_, rfl⟩
      rw [← hsb] at hcv
      simp only [← hsb] at crg
      have HSB := Lib.hid hsb
      clear hsb
      go_upto_region 11 with (first | (with_reducible refine alloc_state rfl rfl ?_) | (with_reducible refine state_store_new rfl rfl rfl rfl Im.zero_size rfl ?_) | (go_at_call 33; ((with_reducible refine ((crg _).out).mono ?_); rintro r' w8 ⟨A8, c8, rfl, hL8, hb⟩; have Y8 := Lib.hid ((Y6.out.below hb Y6.out.lt).alloc (.cells (Im.cells y (.slice A8 y.shots.length c8) yr) 53)); have E8 := Lib.hid ((E6.out.below hb E6.out.lt).alloc (.cells (Im.cells y (.slice A8 y.shots.length c8) yr) 53)); have Z8 := Lib.hid (Box.made w8 53 (Im.cells y (.slice A8 y.shots.length c8) yr)); have L8 := Lib.hid ((hL8.below (one_below w8 (.cells (Im.cells y (.slice A8 y.shots.length c8) yr) 53))).wider (one_below w8 (.cells (Im.cells y (.slice A8 y.shots.length c8) yr) 53)).size); have P8 := Lib.hid ((P6.out.below hb P6.out.lt).alloc (.cells (Im.cells y (.slice A8 y.shots.length c8) yr) 53)); have K8 := Lib.hid ((K6.out.trans (hb.mono K6.out.size)).alloc (Nat.le_trans K6.out.size hb.size) (.cells (Im.cells y (.slice A8 y.shots.length c8) yr) 53)); clear hb hL8 crg)))
      generalize w8.alloc (.cells (Im.cells y (.slice A8 y.shots.length c8) yr) 53) = W8 at *
      have SM := Lib.hid (fun q : Ext W8.heap.size W8 => (refsamest_any y y yr yr (some ⟨S2, 0, none⟩) A8 y.shots.length y.shots.length y.shots.length c8 q.w rfl rfl (lies_boxed (E8.out.below q.h E8.out.lt) (Gm.shotCells_len _)) ((L8.out.below q.h).wider q.h.size) y63 y63).mono (fun r' w' h => show r' = .returned (.bool true) ∧ Below q.w.heap.size q.w w' by obtain ⟨⟨v, h1, h2⟩, h3⟩ := h; obtain rfl : v = true := h2.2 ⟨Gm.Eq.refl y, rfl, fun _ _ => ⟨rfl, rfl⟩⟩; exact ⟨h1, h3⟩))
      have SU := Lib.hid (fun q : Ext W8.heap.size W8 => (csum q.w (K8.out.trans (q.h.mono K8.out.size))).out)
      have SD := Lib.hid (fun q : Ext W8.heap.size W8 => show Calls Try.prog 36 #[.string sb] q.w (fun e w' => e = .returned (.int .u64 (Im.sum bs)) ∧ q.w = w') by rw [HSB.out]; exact (csd q.w).out)
      have SO := Lib.hid (fun q : Ext W8.heap.size W8 => (cof q.w (K8.out.trans (q.h.mono K8.out.size))).out)
      have SR := Lib.hid (fun q : Ext W8.heap.size W8 => (crs q.w (K8.out.trans (q.h.mono K8.out.size))).out)
      generalize Im.sum bs = sm at *
      generalize Im.num g r = nm at *
      have ZP := Lib.hid (fun q : Ext W8.heap.size W8 => P8.out.below q.h P8.out.lt)
      have ZY := Lib.hid (fun q : Ext W8.heap.size W8 => Y8.out.below q.h Y8.out.lt)
      have ZW := Lib.hid (fun q : Ext W8.heap.size W8 => Z8.out.below q.h Z8.out.lt)
      have zcv : ∀ q : Ext W8.heap.size W8, (convert 54 9 (.slice B bs.length cb)).run Try.prog q.w = .ok (.string sb) q.w := fun q => by rw [HSB.out]; exact HCV.out q.w (K8.out.trans (q.h.mono K8.out.size))
      clear hcv csum csd cof crs
      refine wp_region_ext W8.heap.size W8 (by kernel_rfl) (by kernel_rfl) (Below.refl _ _) ?_
      repeat (first | (go_big_quiet_want; (first | (refine quiet_state rfl rfl ZP.out ?_) | (refine quiet_state rfl rfl ZY.out ?_) | (refine quiet_state rfl rfl ZW.out ?_)); simp only [Act.put, List.setIfInBounds_toArray, List.set_cons_succ, List.set_cons_zero]; go_big_quiet_on) | go_big_quiet_step ((first | (go_at_call 28; with_reducible exact Calls.ext_of (Nat.le_refl _) ((ct _).out)) | (go_at_call 34; with_reducible exact Calls.ext_of (Nat.le_refl _) (SM.out _)) | (go_at_call 35; with_reducible exact Calls.ext_of (Nat.le_refl _) (SU.out _)) | (go_at_call 36; with_reducible exact Calls.ext_same (SD.out _)) | (go_at_call 37; with_reducible exact Calls.ext_of (Nat.le_refl _) (SO.out _)) | (go_at_call 38; with_reducible exact Calls.ext_of (Nat.le_refl _) (SR.out _)))))
      refine wpQuiet_nil ?_
      intro _ hw'
      obtain ⟨q5, hw''⟩ := hw'
      subst hw''
      have K9 := Lib.hid (K8.out.trans (q5.h.mono K8.out.size))
      clear SM SU SD SO SR ZP ZY ZW zcv
      go_wp2
      go_ret
      exact ⟨ret_bool (by simp), K9.out⟩
    · skip
      have hcv := HCV.out _ K6.out
      have crg := fun X => Lib.hid (show Calls Try.prog 33 #[.string (strOfNums bs)] X (fun r' w' => r' = .returned (.tuple #[.agg (Im.cells z0 (.slice none 0 0) zr), .int .i64 2]) ∧ Below X.heap.size X w') from (refgetst_any bs X HBY.out).mono (fun r' w' h => by
        rcases h with ⟨g', q', A8, c8, h1, h2⟩ | ⟨_, h1⟩
        · rw [HG.out] at h1; cases h1
        · rw [← HZ.out]; exact h1))
      obtain ⟨sb, hsb⟩ : ∃ sb, sb = strOfNums bs := ⟨_, rfl⟩
      rw [← hsb] at hcv
      simp only [← hsb] at crg
      have HSB := Lib.hid hsb
      clear hsb
      go_upto_region 11 with (first | (with_reducible refine alloc_state rfl rfl ?_) | (with_reducible refine state_store_new rfl rfl rfl rfl Im.zero_size rfl ?_) | (go_at_call 33; ((with_reducible refine ((crg _).out).mono ?_); rintro r' w8 ⟨rfl, hb⟩; have Y8 := Lib.hid ((Y6.out.below hb Y6.out.lt).alloc (.cells (Im.cells z0 (.slice none 0 0) zr) 53)); have Z8 := Lib.hid (Box.made w8 53 (Im.cells z0 (.slice none 0 0) zr)); have P8 := Lib.hid ((P6.out.below hb P6.out.lt).alloc (.cells (Im.cells z0 (.slice none 0 0) zr) 53)); have K8 := Lib.hid ((K6.out.trans (hb.mono K6.out.size)).alloc (Nat.le_trans K6.out.size hb.size) (.cells (Im.cells z0 (.slice none 0 0) zr) 53)); clear hb crg)))
      generalize w8.alloc (.cells (Im.cells z0 (.slice none 0 0) zr) 53) = W8 at *
      have SM := Lib.hid (fun q : Ext W8.heap.size W8 => (refsamest_any z0 z0 zr zr none none 0 0 0 0 q.w (by rw [HZ0.out]; rfl) (by rw [HZ0.out]; rfl) (by rw [HZ0.out]; exact Lies.empty) (by rw [HZ0.out]; exact Lies.empty) (Nat.zero_le _) (Nat.zero_le _)).mono (fun r' w' h => show r' = .returned (.bool true) ∧ Below q.w.heap.size q.w w' by obtain ⟨⟨v, h1, h2⟩, h3⟩ := h; obtain rfl : v = true := h2.2 ⟨Gm.Eq.refl z0, rfl, fun _ _ => ⟨rfl, rfl⟩⟩; exact ⟨h1, h3⟩))
      have SU := Lib.hid (fun q : Ext W8.heap.size W8 => (csum q.w (K8.out.trans (q.h.mono K8.out.size))).out)
      have SD := Lib.hid (fun q : Ext W8.heap.size W8 => show Calls Try.prog 36 #[.string sb] q.w (fun e w' => e = .returned (.int .u64 (Im.sum bs)) ∧ q.w = w') by rw [HSB.out]; exact (csd q.w).out)
      have SO := Lib.hid (fun q : Ext W8.heap.size W8 => (cof q.w (K8.out.trans (q.h.mono K8.out.size))).out)
      have SR := Lib.hid (fun q : Ext W8.heap.size W8 => (crs q.w (K8.out.trans (q.h.mono K8.out.size))).out)
      generalize Im.sum bs = sm at *
      generalize Im.num g r = nm at *
      have ZP := Lib.hid (fun q : Ext W8.heap.size W8 => P8.out.below q.h P8.out.lt)
      have ZY := Lib.hid (fun q : Ext W8.heap.size W8 => Y8.out.below q.h Y8.out.lt)
      have ZW := Lib.hid (fun q : Ext W8.heap.size W8 => Z8.out.below q.h Z8.out.lt)
      have zcv : ∀ q : Ext W8.heap.size W8, (convert 54 9 (.slice B bs.length cb)).run Try.prog q.w = .ok (.string sb) q.w := fun q => by rw [HSB.out]; exact HCV.out q.w (K8.out.trans (q.h.mono K8.out.size))
      clear hcv csum csd cof crs
      refine wp_region_ext W8.heap.size W8 (by kernel_rfl) (by kernel_rfl) (Below.refl _ _) ?_
      repeat (first | (go_big_quiet_want; (first | (refine quiet_state rfl rfl ZP.out ?_) | (refine quiet_state rfl rfl ZY.out ?_) | (refine quiet_state rfl rfl ZW.out ?_)); simp only [Act.put, List.setIfInBounds_toArray, List.set_cons_succ, List.set_cons_zero]; go_big_quiet_on) | go_big_quiet_step ((first | (go_at_call 28; with_reducible exact Calls.ext_of (Nat.le_refl _) ((ct _).out)) | (go_at_call 34; with_reducible exact Calls.ext_of (Nat.le_refl _) (SM.out _)) | (go_at_call 35; with_reducible exact Calls.ext_of (Nat.le_refl _) (SU.out _)) | (go_at_call 36; with_reducible exact Calls.ext_same (SD.out _)) | (go_at_call 37; with_reducible exact Calls.ext_of (Nat.le_refl _) (SO.out _)) | (go_at_call 38; with_reducible exact Calls.ext_of (Nat.le_refl _) (SR.out _)))))
      refine wpQuiet_nil ?_
      intro _ hw'
      obtain ⟨q5, hw''⟩ := hw'
      subst hw''
      have K9 := Lib.hid (K8.out.trans (q5.h.mono K8.out.size))
      clear SM SU SD SO SR ZP ZY ZW zcv
      go_wp2
      go_ret
      exact ⟨ret_bool (by simp), K9.out⟩
  · have cp := fun X k => Lib.hid (put_no g r A n c X hok hty hn hn63 (LG.out X k))
    have HNO := Lib.hid hok
    clear hn hty hok hfew h9
    go_enter Try.func5, Try.ntmps5
    go_upto_region 9 with (first | ((with_reducible refine im_load_game rfl rfl ?_); apply LoadIm.mk rfl; (focus (with_reducible exact P0.out)); dsimp only) | (go_at_call 27; ((with_reducible refine ((cf _).out).mono ?_); rintro r' w1 ⟨rfl, hb⟩; have P1 := Lib.hid (P0.out.below hb P0.out.lt); have K1 := Lib.hid (K0.out.trans (hb.mono K0.out.size)); clear hb)) | ((with_reducible refine im_load_state rfl rfl ?_); apply LoadIm.mk rfl; (focus first | (with_reducible exact P2.out) | (with_reducible exact P1.out)); dsimp only) | (go_at_call 29; ((with_reducible refine ((cp _ K1.out).out).mono ?_); rintro r' w2 ⟨rfl, hb⟩; have P2 := Lib.hid (P1.out.below hb P1.out.lt); have K2 := Lib.hid (K1.out.trans (hb.mono K1.out.size)); clear hb)) | (go_at_call 30; ((with_reducible refine ((cm _ K2.out).out).mono ?_); rintro r' w4 ⟨⟨b, rfl, hb2⟩, hb⟩; obtain rfl : b = false := (by cases b <;> first | rfl | exact absurd (hb2.1 rfl) HNO.out); have P4 := Lib.hid (P2.out.below hb P2.out.lt); have K4 := Lib.hid (K2.out.trans (hb.mono K2.out.size)); clear hb hb2)))
    clear cp cm
    have cg := Lib.hid (imget_say z0 zr HZ.out bs B bs.length cb _ rfl hbc HBY.out (LB.out _ K4.out))
    go_upto_region 10 with (first | (with_reducible refine alloc_state rfl rfl ?_) | (with_reducible refine state_store_new rfl rfl rfl rfl Im.zero_size rfl ?_) | (go_at_call 32; ((with_reducible refine (cg.out).mono ?_); rintro r' w6 (⟨y, yr, S2, hgt, rfl, hE, hb⟩ | ⟨hgt, rfl, hb⟩); (all_goals first | (have Y6 := Lib.hid (Box.made w6 53 (Im.cells y (.slice (some ⟨S2, 0, none⟩) y.shots.length y.shots.length) yr)); have E6 := Lib.hid (hE.alloc (.cells (Im.cells y (.slice (some ⟨S2, 0, none⟩) y.shots.length y.shots.length) yr) 53)); have P6 := Lib.hid ((P4.out.below hb P4.out.lt).alloc (.cells (Im.cells y (.slice (some ⟨S2, 0, none⟩) y.shots.length y.shots.length) yr) 53)); have K6 := Lib.hid ((K4.out.trans (hb.mono K4.out.size)).alloc (Nat.le_trans K4.out.size hb.size) (.cells (Im.cells y (.slice (some ⟨S2, 0, none⟩) y.shots.length y.shots.length) yr) 53)); have HG := Lib.hid hgt; clear hb hE hgt cg) | (have Y6 := Lib.hid (Box.made w6 53 (Im.cells z0 (.slice none 0 0) zr)); have P6 := Lib.hid ((P4.out.below hb P4.out.lt).alloc (.cells (Im.cells z0 (.slice none 0 0) zr) 53)); have K6 := Lib.hid ((K4.out.trans (hb.mono K4.out.size)).alloc (Nat.le_trans K4.out.size hb.size) (.cells (Im.cells z0 (.slice none 0 0) zr) 53)); have HG := Lib.hid hgt; clear hb hgt cg)))))
    · skip
      have y32 := (Im.get_some HBY.out HG.out).1.1.2.2.1
      have y63 : y.shots.length ≤ maxLen := by unfold maxLen; omega
      have hcv := HCV.out _ K6.out
      have crg := fun X => Lib.hid (show Calls Try.prog 33 #[.string (strOfNums bs)] X (fun r' w' => ∃ A8 c8, r' = .returned (.tuple #[.agg (Im.cells y (.slice A8 y.shots.length c8) yr), .int .i64 0]) ∧ Lies w' w'.heap.size 6 A8 y.shots.length (Gm.shotCells y.shots) ∧ Below X.heap.size X w') from (refgetst_any bs X HBY.out).mono (fun r' w' h => by
        rcases h with ⟨g', q', A8, c8, h1, h2⟩ | ⟨h1, _⟩
        · rw [HG.out] at h1; injection h1 with h1; injection h1 with e1 e2; subst e1 e2; exact ⟨A8, c8, h2⟩
        · rw [HG.out] at h1; cases h1))
      obtain ⟨sb, hsb⟩ : ∃ sb, sb = strOfNums bs := ⟨_, rfl⟩
      rw [← hsb] at hcv
      simp only [← hsb] at crg
      have HSB := Lib.hid hsb
      clear hsb
      go_upto_region 11 with (first | (with_reducible refine alloc_state rfl rfl ?_) | (with_reducible refine state_store_new rfl rfl rfl rfl Im.zero_size rfl ?_) | (go_at_call 33; ((with_reducible refine ((crg _).out).mono ?_); rintro r' w8 ⟨A8, c8, rfl, hL8, hb⟩; have Y8 := Lib.hid ((Y6.out.below hb Y6.out.lt).alloc (.cells (Im.cells y (.slice A8 y.shots.length c8) yr) 53)); have E8 := Lib.hid ((E6.out.below hb E6.out.lt).alloc (.cells (Im.cells y (.slice A8 y.shots.length c8) yr) 53)); have Z8 := Lib.hid (Box.made w8 53 (Im.cells y (.slice A8 y.shots.length c8) yr)); have L8 := Lib.hid ((hL8.below (one_below w8 (.cells (Im.cells y (.slice A8 y.shots.length c8) yr) 53))).wider (one_below w8 (.cells (Im.cells y (.slice A8 y.shots.length c8) yr) 53)).size); have P8 := Lib.hid ((P6.out.below hb P6.out.lt).alloc (.cells (Im.cells y (.slice A8 y.shots.length c8) yr) 53)); have K8 := Lib.hid ((K6.out.trans (hb.mono K6.out.size)).alloc (Nat.le_trans K6.out.size hb.size) (.cells (Im.cells y (.slice A8 y.shots.length c8) yr) 53)); clear hb hL8 crg)))
      generalize w8.alloc (.cells (Im.cells y (.slice A8 y.shots.length c8) yr) 53) = W8 at *
      have SM := Lib.hid (fun q : Ext W8.heap.size W8 => (refsamest_any y y yr yr (some ⟨S2, 0, none⟩) A8 y.shots.length y.shots.length y.shots.length c8 q.w rfl rfl (lies_boxed (E8.out.below q.h E8.out.lt) (Gm.shotCells_len _)) ((L8.out.below q.h).wider q.h.size) y63 y63).mono (fun r' w' h => show r' = .returned (.bool true) ∧ Below q.w.heap.size q.w w' by obtain ⟨⟨v, h1, h2⟩, h3⟩ := h; obtain rfl : v = true := h2.2 ⟨Gm.Eq.refl y, rfl, fun _ _ => ⟨rfl, rfl⟩⟩; exact ⟨h1, h3⟩))
      have SU := Lib.hid (fun q : Ext W8.heap.size W8 => (csum q.w (K8.out.trans (q.h.mono K8.out.size))).out)
      have SD := Lib.hid (fun q : Ext W8.heap.size W8 => show Calls Try.prog 36 #[.string sb] q.w (fun e w' => e = .returned (.int .u64 (Im.sum bs)) ∧ q.w = w') by rw [HSB.out]; exact (csd q.w).out)
      have SO := Lib.hid (fun q : Ext W8.heap.size W8 => (cof q.w (K8.out.trans (q.h.mono K8.out.size))).out)
      have SR := Lib.hid (fun q : Ext W8.heap.size W8 => (crs q.w (K8.out.trans (q.h.mono K8.out.size))).out)
      generalize Im.sum bs = sm at *
      generalize Im.num g r = nm at *
      have ZP := Lib.hid (fun q : Ext W8.heap.size W8 => P8.out.below q.h P8.out.lt)
      have ZY := Lib.hid (fun q : Ext W8.heap.size W8 => Y8.out.below q.h Y8.out.lt)
      have ZW := Lib.hid (fun q : Ext W8.heap.size W8 => Z8.out.below q.h Z8.out.lt)
      have zcv : ∀ q : Ext W8.heap.size W8, (convert 54 9 (.slice B bs.length cb)).run Try.prog q.w = .ok (.string sb) q.w := fun q => by rw [HSB.out]; exact HCV.out q.w (K8.out.trans (q.h.mono K8.out.size))
      clear hcv csum csd cof crs
      refine wp_region_ext W8.heap.size W8 (by kernel_rfl) (by kernel_rfl) (Below.refl _ _) ?_
      repeat (first | (go_big_quiet_want; (first | (refine quiet_state rfl rfl ZP.out ?_) | (refine quiet_state rfl rfl ZY.out ?_) | (refine quiet_state rfl rfl ZW.out ?_)); simp only [Act.put, List.setIfInBounds_toArray, List.set_cons_succ, List.set_cons_zero]; go_big_quiet_on) | go_big_quiet_step ((first | (go_at_call 28; with_reducible exact Calls.ext_of (Nat.le_refl _) ((ct _).out)) | (go_at_call 34; with_reducible exact Calls.ext_of (Nat.le_refl _) (SM.out _)) | (go_at_call 35; with_reducible exact Calls.ext_of (Nat.le_refl _) (SU.out _)) | (go_at_call 36; with_reducible exact Calls.ext_same (SD.out _)) | (go_at_call 37; with_reducible exact Calls.ext_of (Nat.le_refl _) (SO.out _)) | (go_at_call 38; with_reducible exact Calls.ext_of (Nat.le_refl _) (SR.out _)))))
      refine wpQuiet_nil ?_
      intro _ hw'
      obtain ⟨q5, hw''⟩ := hw'
      subst hw''
      have K9 := Lib.hid (K8.out.trans (q5.h.mono K8.out.size))
      clear SM SU SD SO SR ZP ZY ZW zcv
      go_wp2
      go_ret
      exact ⟨ret_bool (by simp), K9.out⟩
    · skip
      have hcv := HCV.out _ K6.out
      have crg := fun X => Lib.hid (show Calls Try.prog 33 #[.string (strOfNums bs)] X (fun r' w' => r' = .returned (.tuple #[.agg (Im.cells z0 (.slice none 0 0) zr), .int .i64 2]) ∧ Below X.heap.size X w') from (refgetst_any bs X HBY.out).mono (fun r' w' h => by
        rcases h with ⟨g', q', A8, c8, h1, h2⟩ | ⟨_, h1⟩
        · rw [HG.out] at h1; cases h1
        · rw [← HZ.out]; exact h1))
      obtain ⟨sb, hsb⟩ : ∃ sb, sb = strOfNums bs := ⟨_, rfl⟩
      rw [← hsb] at hcv
      simp only [← hsb] at crg
      have HSB := Lib.hid hsb
      clear hsb
      go_upto_region 11 with (first | (with_reducible refine alloc_state rfl rfl ?_) | (with_reducible refine state_store_new rfl rfl rfl rfl Im.zero_size rfl ?_) | (go_at_call 33; ((with_reducible refine ((crg _).out).mono ?_); rintro r' w8 ⟨rfl, hb⟩; have Y8 := Lib.hid ((Y6.out.below hb Y6.out.lt).alloc (.cells (Im.cells z0 (.slice none 0 0) zr) 53)); have Z8 := Lib.hid (Box.made w8 53 (Im.cells z0 (.slice none 0 0) zr)); have P8 := Lib.hid ((P6.out.below hb P6.out.lt).alloc (.cells (Im.cells z0 (.slice none 0 0) zr) 53)); have K8 := Lib.hid ((K6.out.trans (hb.mono K6.out.size)).alloc (Nat.le_trans K6.out.size hb.size) (.cells (Im.cells z0 (.slice none 0 0) zr) 53)); clear hb crg)))
      generalize w8.alloc (.cells (Im.cells z0 (.slice none 0 0) zr) 53) = W8 at *
      have SM := Lib.hid (fun q : Ext W8.heap.size W8 => (refsamest_any z0 z0 zr zr none none 0 0 0 0 q.w (by rw [HZ0.out]; rfl) (by rw [HZ0.out]; rfl) (by rw [HZ0.out]; exact Lies.empty) (by rw [HZ0.out]; exact Lies.empty) (Nat.zero_le _) (Nat.zero_le _)).mono (fun r' w' h => show r' = .returned (.bool true) ∧ Below q.w.heap.size q.w w' by obtain ⟨⟨v, h1, h2⟩, h3⟩ := h; obtain rfl : v = true := h2.2 ⟨Gm.Eq.refl z0, rfl, fun _ _ => ⟨rfl, rfl⟩⟩; exact ⟨h1, h3⟩))
      have SU := Lib.hid (fun q : Ext W8.heap.size W8 => (csum q.w (K8.out.trans (q.h.mono K8.out.size))).out)
      have SD := Lib.hid (fun q : Ext W8.heap.size W8 => show Calls Try.prog 36 #[.string sb] q.w (fun e w' => e = .returned (.int .u64 (Im.sum bs)) ∧ q.w = w') by rw [HSB.out]; exact (csd q.w).out)
      have SO := Lib.hid (fun q : Ext W8.heap.size W8 => (cof q.w (K8.out.trans (q.h.mono K8.out.size))).out)
      have SR := Lib.hid (fun q : Ext W8.heap.size W8 => (crs q.w (K8.out.trans (q.h.mono K8.out.size))).out)
      generalize Im.sum bs = sm at *
      generalize Im.num g r = nm at *
      have ZP := Lib.hid (fun q : Ext W8.heap.size W8 => P8.out.below q.h P8.out.lt)
      have ZY := Lib.hid (fun q : Ext W8.heap.size W8 => Y8.out.below q.h Y8.out.lt)
      have ZW := Lib.hid (fun q : Ext W8.heap.size W8 => Z8.out.below q.h Z8.out.lt)
      have zcv : ∀ q : Ext W8.heap.size W8, (convert 54 9 (.slice B bs.length cb)).run Try.prog q.w = .ok (.string sb) q.w := fun q => by rw [HSB.out]; exact HCV.out q.w (K8.out.trans (q.h.mono K8.out.size))
      clear hcv csum csd cof crs
      refine wp_region_ext W8.heap.size W8 (by kernel_rfl) (by kernel_rfl) (Below.refl _ _) ?_
      repeat (first | (go_big_quiet_want; (first | (refine quiet_state rfl rfl ZP.out ?_) | (refine quiet_state rfl rfl ZY.out ?_) | (refine quiet_state rfl rfl ZW.out ?_)); simp only [Act.put, List.setIfInBounds_toArray, List.set_cons_succ, List.set_cons_zero]; go_big_quiet_on) | go_big_quiet_step ((first | (go_at_call 28; with_reducible exact Calls.ext_of (Nat.le_refl _) ((ct _).out)) | (go_at_call 34; with_reducible exact Calls.ext_of (Nat.le_refl _) (SM.out _)) | (go_at_call 35; with_reducible exact Calls.ext_of (Nat.le_refl _) (SU.out _)) | (go_at_call 36; with_reducible exact Calls.ext_same (SD.out _)) | (go_at_call 37; with_reducible exact Calls.ext_of (Nat.le_refl _) (SO.out _)) | (go_at_call 38; with_reducible exact Calls.ext_of (Nat.le_refl _) (SR.out _)))))
      refine wpQuiet_nil ?_
      intro _ hw'
      obtain ⟨q5, hw''⟩ := hw'
      subst hw''
      have K9 := Lib.hid (K8.out.trans (q5.h.mono K8.out.size))
      clear SM SU SD SO SR ZP ZY ZW zcv
      go_wp2
      go_ret
      exact ⟨ret_bool (by simp), K9.out⟩
end Go.Proofs.Ytbihnmingedgfaa

/-
What a literal's fitting its kind says of the number; a field of an integer kind read as data.
-/



namespace Bd
open Go
theorem i8 {a : Int} (h : (Lit.int .i8 a).wf = true) : -128 ≤ a ∧ a ≤ 127 := by
  simpa [Lit.wf, IntKind.min, IntKind.max, IntKind.signed, IntKind.bits] using h
theorem i16 {a : Int} (h : (Lit.int .i16 a).wf = true) : -32768 ≤ a ∧ a ≤ 32767 := by
  simpa [Lit.wf, IntKind.min, IntKind.max, IntKind.signed, IntKind.bits] using h
theorem i32 {a : Int} (h : (Lit.int .i32 a).wf = true) : -2147483648 ≤ a ∧ a ≤ 2147483647 := by
  simpa [Lit.wf, IntKind.min, IntKind.max, IntKind.signed, IntKind.bits] using h
theorem i64 {a : Int} (h : (Lit.int .i64 a).wf = true) : -9223372036854775808 ≤ a ∧ a ≤ 9223372036854775807 := by
  simpa [Lit.wf, IntKind.min, IntKind.max, IntKind.signed, IntKind.bits] using h
theorem u8 {a : Int} (h : (Lit.int .u8 a).wf = true) : 0 ≤ a ∧ a ≤ 255 := by
  simpa [Lit.wf, IntKind.min, IntKind.max, IntKind.signed, IntKind.bits] using h
theorem u16 {a : Int} (h : (Lit.int .u16 a).wf = true) : 0 ≤ a ∧ a ≤ 65535 := by
  simpa [Lit.wf, IntKind.min, IntKind.max, IntKind.signed, IntKind.bits] using h
theorem u32 {a : Int} (h : (Lit.int .u32 a).wf = true) : 0 ≤ a ∧ a ≤ 4294967295 := by
  simpa [Lit.wf, IntKind.min, IntKind.max, IntKind.signed, IntKind.bits] using h
theorem u64 {a : Int} (h : (Lit.int .u64 a).wf = true) : 0 ≤ a ∧ a ≤ 18446744073709551615 := by
  simpa [Lit.wf, IntKind.min, IntKind.max, IntKind.signed, IntKind.bits] using h
theorem f64 {b : Nat} (h : (Lit.float .f64 b).wf = true) : b < 2 ^ 64 := by
  simpa [Lit.wf] using h
theorem fld {H : Type} {enc : TypeId × Value → H} {P : Program} {w : World} {base : Nat} {spare : Nat → Bool} {held : Bool} {t : TypeId} {k : IntKind} {n : Int} (ht : P.underlying t = some (.int k)) (hw : (Lit.int k n).wf = true) :
    ∃ m, DataW.trod enc P w base spare held m t [.int k n] = some (.lit (.int k n), []) := ⟨1, by simp [DataW.trod, ht, hw]⟩
end Bd

/-
What came in, opened: a list of whatever lies in so many cells each.
-/








namespace Go.Proofs.Ytbihnmingedgfaa
open Go.ChangeShapes Go.WideShapes Go.ChangeAt Go.RowKit Go.Joins Go.ChangeMaps Go.Deep
set_option linter.unusedVariables false

theorem cells?_cell' {w : World} {base : Nat} {a : Addr} {n : Nat} {cs : List Value} (h : w.cells? base a n = some cs) : cs.length = n ∧ ∀ j, j < n → w.cell? (a.add j) = cs[j]? := by
  unfold World.cells? at h
  split at h
  · have hl := mapM_some_length h
    refine ⟨by simpa using hl, fun j hj => ?_⟩
    have := mapM_some_get h j j (by simp [hj])
    rw [this]
  · cases h
theorem cells_one_of' {v x : Value} (h : ∀ cs, v ≠ .agg cs) (hv : v.cells.toList = [x]) : v = x := by
  cases v <;> first | exact absurd rfl (h _) | simpa [Value.cells] using hv
section
variable {α : Type} {cells : α → List Value} {c : Nat}
theorem flat_len (hc : ∀ a, (cells a).length = c) (l : List α) : (l.flatMap cells).length = l.length * c := by
  induction l with
  | nil => simp
  | cons s l ih => rw [List.flatMap_cons, List.length_append, ih, List.length_cons, hc, Nat.succ_mul]; omega
theorem flat_at (hc : ∀ a, (cells a).length = c) (l : List α) (k j : Nat) (hk : k < l.length) (hj : j < c) : (l.flatMap cells)[k * c + j]? = (cells l[k])[j]? := by
  induction l generalizing k with
  | nil => simp at hk
  | cons s l ih =>
    rw [List.flatMap_cons]
    match k with
    | 0 => rw [List.getElem?_append_left (by rw [hc]; omega)]; simp
    | k + 1 =>
      rw [List.getElem?_append_right (by rw [hc, Nat.succ_mul]; omega)]
      have := ih k (by simpa using hk)
      rw [show (k + 1) * c + j - (cells s).length = k * c + j from by rw [hc, Nat.succ_mul]; omega, this]
      simp
end
section
variable {H : Type} {enc : TypeId × Value → H} {w : World} {base : Nat} {spare : Nat → Bool} {held : Bool}
set_option maxRecDepth 100000 in
theorem open_slice_c {α : Type} {t e : TypeId} (cells : α → List Value) (c : Nat) (ty : α → Prop) (z : α) (hu : Try.prog.underlying t = some (.slice e)) (hce : Try.prog.cellsOf e = c) (hc0 : 0 < c) (hlen : ∀ a, (cells a).length = c)
    (hel : ∀ {base : Nat} {spare : Nat → Bool} {held : Bool} {fuel : Nat} {l : List Value} {y : DataW H × List MemPlace}, l.length = c → DataW.trod enc Try.prog w base spare held fuel e l = some y → ∃ q : α, l = cells q ∧ ty q)
    {v : Value} {d : DataW H} {p : List MemPlace} (hag : ∀ cs, v ≠ .agg cs) (h : DataW.Trod enc Try.prog w base spare held t v d p) : ∃ (A : Option Addr) (cc : Nat) (l : List α), v = .slice A l.length cc ∧ (∀ x ∈ l, ty x) ∧ l.length ≤ maxLen ∧ Lies w w.heap.size c A l.length (l.flatMap cells) ∧ l.length ≤ cc := by
  obtain ⟨fuel, hf⟩ := h
  rcases DataW.trod_slice hu hf with ⟨hv, _⟩ | ⟨a, len, cap, elems, rest, n, rfl, hv, _, _, hlc, hcm, hlen', hel', _, _⟩
  · have ev : v = .slice none 0 0 := cells_one_of' hag hv
    exact ⟨none, 0, [], ev, fun x hx => (by cases hx), Nat.zero_le _, Lies.empty, Nat.le_refl _⟩
  · have ev : v = .slice (some a) len cap := cells_one_of' hag hv
    simp only [hce] at hel'
    have key : ∀ i, i < len → ∃ q : α, w.cells? base (a.add (i * c)) c = some (cells q) ∧ ty q := by
      intro i hi
      obtain ⟨y, hy⟩ : ∃ y, elems[i]? = some y := ⟨elems[i]'(by omega), List.getElem?_eq_getElem (by omega)⟩
      have h := hel' i hi
      rw [hy, Option.bind_eq_some_iff] at h
      obtain ⟨cs, hcs, ht⟩ := h
      have hl := (cells?_cell' hcs).1
      obtain ⟨q, h1, h2⟩ := hel hl ht
      exact ⟨q, by rw [hcs, h1], h2⟩
    have hch : ∃ ps : Nat → α, ∀ i, i < len → (w.cells? base (a.add (i * c)) c = some (cells (ps i)) ∧ ty (ps i)) :=
      ⟨fun i => if h : i < len then (key i h).choose else z, fun i hi => by dsimp only; rw [dif_pos hi]; exact (key i hi).choose_spec⟩
    obtain ⟨ps, hps⟩ := hch
    have ll : ((List.range len).map ps).length = len := by simp
    have lf : (((List.range len).map ps).flatMap cells).length = len * c := by rw [flat_len hlen, ll]
    refine ⟨some a, cap, (List.range len).map ps, by rw [ll]; exact ev, fun x hx => ?_, by rw [ll]; omega, ⟨?_, fun h0 => ?_, fun ad e h0 j u hu => ?_⟩, by rw [ll]; exact hlc⟩
    · obtain ⟨i, hi, rfl⟩ := List.mem_map.1 hx
      exact (hps i (by simpa using hi)).2
    · rw [lf, ll]
    · rw [ll] at h0
      exact ⟨a, rfl, by have := World.cells?_block (hps 0 (by omega)).1 hc0; simpa [Addr.add] using this⟩
    · injection e with e
      subst e
      have hjl : j < len * c := by have := (List.getElem?_eq_some_iff.1 hu).1; rwa [lf] at this
      have hjc : j / c < len := (Nat.div_lt_iff_lt_mul hc0).2 hjl
      have hjm : j % c < c := Nat.mod_lt _ hc0
      have hjj : j / c * c + j % c = j := by rw [Nat.mul_comm]; exact Nat.div_add_mod j c
      have hq := (cells?_cell' (hps (j / c) hjc).1).2 (j % c) hjm
      rw [add_twice, hjj] at hq
      rw [hq, ← hu]
      have := flat_at hlen ((List.range len).map ps) (j / c) (j % c) (by rw [ll]; exact hjc) hjm
      rw [hjj] at this
      rw [this]
      simp
/-- A list of whole numbers. -/
theorem open_slice {α : Type} {t e : TypeId} (cells : α → List Value) (c : Nat) (ty : α → Prop) (z : α) (hu : Try.prog.underlying t = some (.slice e)) (hce : Try.prog.cellsOf e = c) (hc0 : 0 < c) (hlen : ∀ a, (cells a).length = c)
    (hel : ∀ {base : Nat} {spare : Nat → Bool} {held : Bool} {fuel : Nat} {l : List Value} {y : DataW H × List MemPlace}, l.length = c → DataW.trod enc Try.prog w base spare held fuel e l = some y → ∃ q : α, l = cells q ∧ ty q)
    {v : Value} {d : DataW H} {p : List MemPlace} (hag : ∀ cs, v ≠ .agg cs) (h : DataW.Trod enc Try.prog w base spare held t v d p) : ∃ (A : Option Addr) (cc : Nat) (l : List α), v = .slice A l.length cc ∧ (∀ x ∈ l, ty x) ∧ l.length ≤ maxLen ∧ Lies w w.heap.size c A l.length (l.flatMap cells) := by
  obtain ⟨A, cc, l, h1, h2, h3, h4, _⟩ := open_slice_c cells c ty z hu hce hc0 hlen hel hag h
  exact ⟨A, cc, l, h1, h2, h3, h4⟩

theorem open_list {t e : TypeId} {k : IntKind} (hu : Try.prog.underlying t = some (.slice e)) (he : Try.prog.underlying e = some (.int k)) (hce : Try.prog.cellsOf e = 1) {v : Value} {d : DataW H} {p : List MemPlace} (hag : ∀ cs, v ≠ .agg cs) (h : DataW.Trod enc Try.prog w base spare held t v d p) :
    ∃ (A : Option Addr) (cc : Nat) (l : List Int), v = .slice A l.length cc ∧ (∀ x ∈ l, (Lit.int k x).wf = true) ∧ l.length ≤ maxLen ∧ Lies w w.heap.size 1 A l.length (l.flatMap fun x => [.int k x]) :=
  open_slice (fun x : Int => [Value.int k x]) 1 (fun x => (Lit.int k x).wf = true) 0 hu hce (by decide) (fun _ => rfl) (fun hl ht => by
    obtain ⟨x, e, _, w⟩ := DataW.trod_int he ht
    exact ⟨x, e, w⟩) hag h
end
end Go.Proofs.Ytbihnmingedgfaa

/-
A roster that came in: opened.
-/



namespace Go.Proofs.Ytbihnmingedgfaa
open Go.ChangeShapes Go.WideShapes Go.ChangeAt Go.RowKit Go.Joins Go.ChangeMaps Go.Deep
set_option linter.unusedVariables false

def Ros.ty (r : Ros.R) : Prop := (-9223372036854775808 ≤ r.version ∧ r.version ≤ 9223372036854775807) ∧ ∀ k, k < 8 → (-9223372036854775808 ≤ r.peer k ∧ r.peer k ≤ 9223372036854775807) ∧ (-9223372036854775808 ≤ r.gen k ∧ r.gen k ≤ 9223372036854775807)
theorem cut16 {α : Type} (l : List α) (h : l.length = 16) : l = (l.drop (0 * 2)).take 2 ++ ((l.drop (1 * 2)).take 2 ++ ((l.drop (2 * 2)).take 2 ++ ((l.drop (3 * 2)).take 2 ++ ((l.drop (4 * 2)).take 2 ++ ((l.drop (5 * 2)).take 2 ++ ((l.drop (6 * 2)).take 2 ++ ((l.drop (7 * 2)).take 2))))))) := by
  match l, h with
  | [a0, a1, a2, a3, a4, a5, a6, a7, a8, a9, a10, a11, a12, a13, a14, a15], _ => rfl
section
variable {H : Type} {enc : TypeId × Value → H} {w : World} {base : Nat} {spare : Nat → Bool} {held : Bool}
theorem trod_seat {fuel : Nat} {a b : Value} {y : DataW H × List MemPlace} (h : DataW.trod enc Try.prog w base spare held fuel 48 [a, b] = some y) : ∃ p g : Int, [a, b] = [.int .i64 p, .int .i64 g] ∧ ((-9223372036854775808 ≤ p ∧ p ≤ 9223372036854775807) ∧ (-9223372036854775808 ≤ g ∧ g ≤ 9223372036854775807)) ∧ y.2 = [] := by
  obtain ⟨y0, y1, n, hx, _, h0, h1⟩ := trod_struct2 Try.underlying48 h
  obtain ⟨x0, e0, rfl, w0⟩ := DataW.trod_int Try.underlying3 h0
  obtain ⟨x1, e1, rfl, w1⟩ := DataW.trod_int Try.underlying3 h1
  have c8 : Try.prog.cellsOf 3 = 1 := by kernel_rfl
  simp [c8] at e0 e1
  subst e0 e1
  exact ⟨x0, x1, rfl, ⟨Bd.i64 w0, Bd.i64 w1⟩, by rw [hx]; rfl⟩
set_option maxRecDepth 100000 in
theorem trod_seats {fuel : Nat} {l : List Value} {y : DataW H × List MemPlace} (hl : l.length = 16) (h : DataW.trod enc Try.prog w base spare held fuel 49 l = some y) :
    ∃ f g : Nat → Int, (∀ v, l = Ros.seatCells ⟨v, f, g⟩) ∧ (∀ k, k < 8 → (-9223372036854775808 ≤ f k ∧ f k ≤ 9223372036854775807) ∧ (-9223372036854775808 ≤ g k ∧ g k ≤ 9223372036854775807)) ∧ y.2 = [] := by
  obtain ⟨xs, m, rfl, hx, _, hn, he⟩ := DataW.trod_array Try.underlying49 h
  have c2 : Try.prog.cellsOf 48 = 2 := by kernel_rfl
  simp only [c2] at he
  have key : ∀ i, i < 8 → ∃ q : Int × Int, (l.drop (i * 2)).take 2 = [.int .i64 q.1, .int .i64 q.2] ∧ ((-9223372036854775808 ≤ q.1 ∧ q.1 ≤ 9223372036854775807) ∧ (-9223372036854775808 ≤ q.2 ∧ q.2 ≤ 9223372036854775807)) ∧ ∀ y, xs[i]? = some y → y.2 = [] := by
    intro i hi
    have hlen : ((l.drop (i * 2)).take 2).length = 2 := by simp; omega
    obtain ⟨y, hy⟩ : ∃ y, xs[i]? = some y := ⟨xs[i]'(by omega), List.getElem?_eq_getElem (by omega)⟩
    have h : DataW.trod enc Try.prog w base spare held m 48 ((l.drop (i * 2)).take 2) = xs[i]? := he i hi
    rw [hy] at h
    match hq : (l.drop (i * 2)).take 2, hlen with
    | [a, b], _ =>
      rw [hq] at h
      obtain ⟨p, g, h1, h2, h3⟩ := trod_seat h
      exact ⟨(p, g), h1, h2, fun z hz => by rw [hy] at hz; cases hz; exact h3⟩
  have hch : ∃ ps : Nat → Int × Int, ∀ i, i < 8 → ((l.drop (i * 2)).take 2 = [.int .i64 (ps i).1, .int .i64 (ps i).2] ∧ ((-9223372036854775808 ≤ (ps i).1 ∧ (ps i).1 ≤ 9223372036854775807) ∧ (-9223372036854775808 ≤ (ps i).2 ∧ (ps i).2 ≤ 9223372036854775807)) ∧ ∀ y, xs[i]? = some y → y.2 = []) :=
    ⟨fun i => if h : i < 8 then (key i h).choose else (0, 0), fun i hi => by dsimp only; rw [dif_pos hi]; exact (key i hi).choose_spec⟩
  obtain ⟨ps, hps⟩ := hch
  refine ⟨fun k => (ps k).1, fun k => (ps k).2, fun v => ?_, fun i hi => (hps i hi).2.1, ?_⟩
  · rw [cut16 l hl]
    unfold Ros.seatCells Ros.pair
    rw [(hps 0 (by decide)).1, (hps 1 (by decide)).1, (hps 2 (by decide)).1, (hps 3 (by decide)).1, (hps 4 (by decide)).1, (hps 5 (by decide)).1, (hps 6 (by decide)).1, (hps 7 (by decide)).1]
  · rw [hx]
    apply List.flatMap_eq_nil_iff.2
    intro y hy
    obtain ⟨i, hi, rfl⟩ := List.getElem_of_mem hy
    exact (hps i (by omega)).2.2 _ (List.getElem?_eq_getElem hi)
set_option maxRecDepth 100000 in
theorem trod_ros {fuel : Nat} {l : List Value} {y : DataW H × List MemPlace} (hl : l.length = 17) (h : DataW.trod enc Try.prog w base spare held fuel 51 l = some y) : ∃ r : Ros.R, l.toArray = Ros.cells r ∧ Ros.ty r ∧ y.2 = [] := by
  obtain ⟨y0, y1, n, hx, _, h0, h1⟩ := trod_struct2 Try.underlying51 h
  obtain ⟨x0, e0, rfl, w0⟩ := DataW.trod_int Try.underlying3 h0
  have c8 : Try.prog.cellsOf 3 = 1 := by kernel_rfl
  have c16 : Try.prog.cellsOf 49 = 16 := by kernel_rfl
  simp only [c16] at h1
  obtain ⟨f, g, h2, h3, h4⟩ := trod_seats (by simp; omega) h1
  simp only [c8] at e0
  refine ⟨⟨x0, f, g⟩, ?_, ⟨Bd.i64 w0, h3⟩, by rw [hx, h4]; rfl⟩
  match l, hl with
  | a :: t, hl =>
    have ht : t = Ros.seatCells ⟨x0, f, g⟩ := by
      rw [← h2 x0]
      have : t.length = 16 := by simpa using hl
      simp [List.take_of_length_le, this]
    simp at e0
    subst e0
    rw [ht]; rfl
set_option maxRecDepth 100000 in
theorem open_ros {b0 : Nat} {v : Value} {d : DataW H} {p : List MemPlace} (hv : Value.okWide Try.prog w .any b0 51 v) (h : DataW.Trod enc Try.prog w base spare held 51 v d p) : ∃ r : Ros.R, v = .agg (Ros.cells r) ∧ Ros.ty r ∧ p = [] := by
  obtain ⟨cs, rfl, hsz, _⟩ : ∃ cs, v = .agg cs ∧ cs.size = Try.prog.cellsOf 51 ∧ Row.okWide Try.prog w .any b0 51 cs := by
    simpa [Value.okWide, Try.underlying51] using hv
  rw [show Try.prog.cellsOf 51 = 17 from by kernel_rfl] at hsz
  obtain ⟨l⟩ := cs
  obtain ⟨fuel, hf⟩ := h
  have hf' : DataW.trod enc Try.prog w base spare held fuel 51 l = some (d, p) := hf
  obtain ⟨r, h1, h2, h3⟩ := trod_ros (by simpa using hsz) hf'
  exact ⟨r, by rw [← h1], h2, h3⟩
end
end Go.Proofs.Ytbihnmingedgfaa

/-
A State that came in: opened.
-/



namespace Go.Proofs.Ytbihnmingedgfaa
open Go.ChangeShapes Go.WideShapes Go.ChangeAt Go.RowKit Go.Joins Go.ChangeMaps Go.Deep
set_option linter.unusedVariables false

theorem cut_at {α : Type} (l : List α) (a b : Nat) : l.drop a = (l.drop a).take b ++ l.drop (a + b) := by
  have := (List.take_append_drop b (l.drop a)).symm
  rwa [List.drop_drop] at this
theorem cut_end {α : Type} (l : List α) (a b : Nat) (h : l.length = a + b) : l.drop a = (l.drop a).take b := by
  rw [List.take_of_length_le (by simp; omega)]
section
variable {H : Type} {enc : TypeId × Value → H} {w : World} {base : Nat} {spare : Nat → Bool} {held : Bool}
set_option maxRecDepth 100000 in
theorem trod_ship {fuel : Nat} {l : List Value} {y : DataW H × List MemPlace} (hl : l.length = 7) (h : DataW.trod enc Try.prog w base spare held fuel 26 l = some y) : ∃ s : Gm.Ship, l = s.cells ∧ Gm.tyShip s := by
  obtain ⟨xs, n, _, _, _, hlen, hf⟩ := DataW.trod_struct Try.underlying26 h
  have cb : Try.prog.cellsOf 4 = 1 := by kernel_rfl
  have c32 : Try.prog.cellsOf 21 = 1 := by kernel_rfl
  have ci : Try.prog.cellsOf 3 = 1 := by kernel_rfl
  match l, hl, xs, hlen with
  | [a0, a1, a2, a3, a4, a5, a6], _, [y0, y1, y2, y3, y4, y5, y6], _ =>
    obtain ⟨x0, e0, _⟩ := DataW.trod_bool Try.underlying4 (hf 0 _ rfl)
    obtain ⟨x1, e1, _, w1⟩ := DataW.trod_int Try.underlying21 (hf 1 _ rfl)
    obtain ⟨x2, e2, _, w2⟩ := DataW.trod_int Try.underlying21 (hf 2 _ rfl)
    obtain ⟨x3, e3, _, w3⟩ := DataW.trod_int Try.underlying21 (hf 3 _ rfl)
    obtain ⟨x4, e4, _, w4⟩ := DataW.trod_int Try.underlying21 (hf 4 _ rfl)
    obtain ⟨x5, e5, _, w5⟩ := DataW.trod_int Try.underlying3 (hf 5 _ rfl)
    obtain ⟨x6, e6, _, w6⟩ := DataW.trod_int Try.underlying3 (hf 6 _ rfl)
    simp [cb, c32, ci] at e0 e1 e2 e3 e4 e5 e6
    subst e0 e1 e2 e3 e4 e5 e6
    exact ⟨⟨x0, x1, x2, x3, x4, x5, x6⟩, rfl, Bd.i32 w1, Bd.i32 w2, Bd.i32 w3, Bd.i32 w4, Bd.i64 w5, Bd.i64 w6⟩
set_option maxRecDepth 100000 in
theorem trod_shot {base : Nat} {spare : Nat → Bool} {held : Bool} {fuel : Nat} {l : List Value} {y : DataW H × List MemPlace} (hl : l.length = 6) (h : DataW.trod enc Try.prog w base spare held fuel 108 l = some y) : ∃ s : Gm.Shot, l = s.cells ∧ Gm.tyShot s := by
  obtain ⟨xs, n, _, _, _, hlen, hf⟩ := DataW.trod_struct Try.underlying108 h
  have c32 : Try.prog.cellsOf 21 = 1 := by kernel_rfl
  have ci : Try.prog.cellsOf 3 = 1 := by kernel_rfl
  match l, hl, xs, hlen with
  | [a0, a1, a2, a3, a4, a5], _, [y0, y1, y2, y3, y4, y5], _ =>
    obtain ⟨x0, e0, _, w0⟩ := DataW.trod_int Try.underlying3 (hf 0 _ rfl)
    obtain ⟨x1, e1, _, w1⟩ := DataW.trod_int Try.underlying21 (hf 1 _ rfl)
    obtain ⟨x2, e2, _, w2⟩ := DataW.trod_int Try.underlying21 (hf 2 _ rfl)
    obtain ⟨x3, e3, _, w3⟩ := DataW.trod_int Try.underlying21 (hf 3 _ rfl)
    obtain ⟨x4, e4, _, w4⟩ := DataW.trod_int Try.underlying21 (hf 4 _ rfl)
    obtain ⟨x5, e5, _, w5⟩ := DataW.trod_int Try.underlying3 (hf 5 _ rfl)
    simp [c32, ci] at e0 e1 e2 e3 e4 e5
    subst e0 e1 e2 e3 e4 e5
    exact ⟨⟨x0, x1, x2, x3, x4, x5⟩, rfl, Bd.i64 w0, Bd.i32 w1, Bd.i32 w2, Bd.i32 w3, Bd.i32 w4, Bd.i64 w5⟩
set_option maxRecDepth 100000 in
theorem trod_ships {fuel : Nat} {l : List Value} {y : DataW H × List MemPlace} (hl : l.length = 56) (h : DataW.trod enc Try.prog w base spare held fuel 27 l = some y) :
    ∃ f : Nat → Gm.Ship, l = Gm.shipCells f ∧ ∀ k, k < 8 → Gm.tyShip (f k) := by
  obtain ⟨xs, m, _, _, _, hn, he⟩ := DataW.trod_array Try.underlying27 h
  have c7 : Try.prog.cellsOf 26 = 7 := by kernel_rfl
  simp only [c7] at he
  have key : ∀ i, i < 8 → ∃ s : Gm.Ship, (l.drop (i * 7)).take 7 = s.cells ∧ Gm.tyShip s := by
    intro i hi
    have hlen : ((l.drop (i * 7)).take 7).length = 7 := by simp; omega
    obtain ⟨y, hy⟩ : ∃ y, xs[i]? = some y := ⟨xs[i]'(by omega), List.getElem?_eq_getElem (by omega)⟩
    have h := he i hi
    rw [hy] at h
    exact trod_ship hlen h
  have hch : ∃ ps : Nat → Gm.Ship, ∀ i, i < 8 → ((l.drop (i * 7)).take 7 = (ps i).cells ∧ Gm.tyShip (ps i)) :=
    ⟨fun i => if h : i < 8 then (key i h).choose else Gm.Ship.none, fun i hi => by dsimp only; rw [dif_pos hi]; exact (key i hi).choose_spec⟩
  obtain ⟨ps, hps⟩ := hch
  refine ⟨ps, ?_, fun i hi => (hps i hi).2⟩
  have q7 : l.drop (7 * 7) = (ps 7).cells := (cut_end l (7 * 7) 7 (by omega)).trans (hps 7 (by omega)).1
  have q6 : l.drop (6 * 7) = (ps 6).cells ++ (ps 7).cells := by rw [← q7, ← (hps 6 (by omega)).1]; exact cut_at l (6 * 7) 7
  have q5 : l.drop (5 * 7) = (ps 5).cells ++ ((ps 6).cells ++ (ps 7).cells) := by rw [← q6, ← (hps 5 (by omega)).1]; exact cut_at l (5 * 7) 7
  have q4 : l.drop (4 * 7) = (ps 4).cells ++ ((ps 5).cells ++ ((ps 6).cells ++ (ps 7).cells)) := by rw [← q5, ← (hps 4 (by omega)).1]; exact cut_at l (4 * 7) 7
  have q3 : l.drop (3 * 7) = (ps 3).cells ++ ((ps 4).cells ++ ((ps 5).cells ++ ((ps 6).cells ++ (ps 7).cells))) := by rw [← q4, ← (hps 3 (by omega)).1]; exact cut_at l (3 * 7) 7
  have q2 : l.drop (2 * 7) = (ps 2).cells ++ ((ps 3).cells ++ ((ps 4).cells ++ ((ps 5).cells ++ ((ps 6).cells ++ (ps 7).cells)))) := by rw [← q3, ← (hps 2 (by omega)).1]; exact cut_at l (2 * 7) 7
  have q1 : l.drop (1 * 7) = (ps 1).cells ++ ((ps 2).cells ++ ((ps 3).cells ++ ((ps 4).cells ++ ((ps 5).cells ++ ((ps 6).cells ++ (ps 7).cells))))) := by rw [← q2, ← (hps 1 (by omega)).1]; exact cut_at l (1 * 7) 7
  have q0 : l.drop (0 * 7) = (ps 0).cells ++ ((ps 1).cells ++ ((ps 2).cells ++ ((ps 3).cells ++ ((ps 4).cells ++ ((ps 5).cells ++ ((ps 6).cells ++ (ps 7).cells)))))) := by rw [← q1, ← (hps 0 (by omega)).1]; exact cut_at l (0 * 7) 7
  exact q0
set_option maxRecDepth 100000 in
theorem trod_game {fuel : Nat} {l : List Value} {y : DataW H × List MemPlace} (hl : l.length = 59) (h : DataW.trod enc Try.prog w base spare held fuel 30 l = some y) :
    ∃ (g : Gm.G) (A : Option Addr) (c : Nat), l.toArray = Gm.cells g (.slice A g.shots.length c) ∧ Gm.ty g ∧ g.shots.length ≤ maxLen ∧ Lies w w.heap.size 6 A g.shots.length (Gm.shotCells g.shots) := by
  obtain ⟨y0, y1, y2, y3, n, _, _, h0, h1, h2, h3⟩ := trod_struct4 Try.underlying30 h
  have ci : Try.prog.cellsOf 3 = 1 := by kernel_rfl
  have cu : Try.prog.cellsOf 24 = 1 := by kernel_rfl
  have cs8 : Try.prog.cellsOf 27 = 56 := by kernel_rfl
  have csl : Try.prog.cellsOf 28 = 1 := by kernel_rfl
  have c6 : Try.prog.cellsOf 108 = 6 := by kernel_rfl
  obtain ⟨x0, e0, _, w0⟩ := DataW.trod_int Try.underlying3 h0
  obtain ⟨x1, e1, _, w1⟩ := DataW.trod_int Try.underlying24 h1
  simp only [cs8] at h2
  obtain ⟨f, e2, hty⟩ := trod_ships (by simp; omega) h2
  simp only [csl] at h3
  have hlen3 : ((l.drop 58).take 1).length = 1 := by simp; omega
  obtain ⟨u, hu⟩ : ∃ u, (l.drop 58).take 1 = [u] := by
    match hq : (l.drop 58).take 1, hlen3 with
    | [u], _ => exact ⟨u, rfl⟩
  have h3' : DataW.trod enc Try.prog w base spare held n 28 [u] = some y3 := by rw [← hu]; exact h3
  have hsl : ∃ a m k, u = .slice a m k := by
    rcases DataW.trod_slice Try.underlying28 h3' with ⟨hv, _⟩ | ⟨a, len, cap, elems, rest, k, _, hv, _⟩
    · injection hv with hv; exact ⟨_, _, _, hv⟩
    · injection hv with hv; exact ⟨_, _, _, hv⟩
  obtain ⟨a, m, k, rfl⟩ := hsl
  obtain ⟨A, c, shots, ev, ht, hm, hL⟩ := open_slice (enc := enc) (w := w) (base := base) (spare := spare) (held := held) Gm.Shot.cells 6 Gm.tyShot ⟨0, 0, 0, 0, 0, 0⟩ Try.underlying28 c6 (by decide) (fun _ => rfl) (fun hl ht => trod_shot hl ht) (v := .slice a m k) (d := y3.1) (p := y3.2) (fun cs e => by cases e) ⟨n, h3'⟩
  refine ⟨⟨x0, x1, f, shots⟩, A, c, ?_, ⟨Bd.i64 w0, by have := Bd.u64 w1; omega, hty, fun i hi => ht _ (List.getElem_mem hi)⟩, hm, hL⟩
  have e0' : (l.drop 0).take 1 = [Value.int .i64 x0] := by rw [← e0, ci]
  have e1' : (l.drop 1).take 1 = [Value.int .u64 x1] := by rw [← e1, cu]
  have e2' : (l.drop 2).take 56 = Gm.shipCells f := e2
  have q3 : l.drop 58 = [Value.slice A shots.length c] := by rw [← ev, ← hu]; exact cut_end l 58 1 (by omega)
  have q2 : l.drop 2 = Gm.shipCells f ++ [Value.slice A shots.length c] := by rw [← q3, ← e2']; exact cut_at l 2 56
  have q1 : l.drop 1 = [Value.int .u64 x1] ++ (Gm.shipCells f ++ [Value.slice A shots.length c]) := by rw [← q2, ← e1']; exact cut_at l 1 1
  have q0 : l.drop 0 = [Value.int .i64 x0] ++ ([Value.int .u64 x1] ++ (Gm.shipCells f ++ [Value.slice A shots.length c])) := by rw [← q1, ← e0']; exact cut_at l 0 1
  have ql : l = [Value.int .i64 x0] ++ ([Value.int .u64 x1] ++ (Gm.shipCells f ++ [Value.slice A shots.length c])) := q0
  rw [ql]
  rfl
set_option maxRecDepth 100000 in
theorem open_state {b0 : Nat} {v : Value} {d : DataW H} {p : List MemPlace} (hv : Value.okWide Try.prog w .any b0 53 v) (h : DataW.Trod enc Try.prog w base spare held 53 v d p) :
    ∃ (A : Option Addr) (c : Nat) (g : Gm.G) (r : Ros.R), v = .agg (Im.cells g (.slice A g.shots.length c) r) ∧ Gm.ty g ∧ g.shots.length ≤ maxLen ∧ Lies w w.heap.size 6 A g.shots.length (Gm.shotCells g.shots) := by
  obtain ⟨cs, rfl, hsz, _⟩ : ∃ cs, v = .agg cs ∧ cs.size = Try.prog.cellsOf 53 ∧ Row.okWide Try.prog w .any b0 53 cs := by
    simpa [Value.okWide, Try.underlying53] using hv
  rw [show Try.prog.cellsOf 53 = 76 from by kernel_rfl] at hsz
  obtain ⟨l⟩ := cs
  have hl : l.length = 76 := by simpa using hsz
  obtain ⟨fuel, hf⟩ := h
  have hf' : DataW.trod enc Try.prog w base spare held fuel 53 l = some (d, p) := hf
  obtain ⟨y0, y1, n, _, _, h0, h1⟩ := trod_struct2 Try.underlying53 hf'
  have cg : Try.prog.cellsOf 30 = 59 := by kernel_rfl
  have cr : Try.prog.cellsOf 51 = 17 := by kernel_rfl
  simp only [cg] at h0
  simp only [cr] at h1
  obtain ⟨g, A, c, e0, hg, hm, hL⟩ := trod_game (by simp; omega) h0
  obtain ⟨r, e1, _, _⟩ := trod_ros (by simp; omega) h1
  refine ⟨A, c, g, r, ?_, hg, hm, hL⟩
  have q1 : l.drop 59 = (l.drop 59).take 17 := cut_end l 59 17 (by omega)
  have q0 : l.drop 0 = (l.drop 0).take 59 ++ l.drop 59 := cut_at l 0 59
  have e0' : ((l.drop 0).take 59).toArray = Gm.cells g (.slice A g.shots.length c) := e0
  have e1' : ((l.drop 59).take 17).toArray = Ros.cells r := e1
  have ql : l.toArray = Im.cells g (.slice A g.shots.length c) r := by
    unfold Im.cells
    rw [← e0', ← e1', ← q1]
    have := congrArg List.toArray q0
    simp at this ⊢
  exact congrArg Value.agg ql
end
end Go.Proofs.Ytbihnmingedgfaa

/-
A []byte that came in: opened.
-/




namespace Go.Proofs.Ytbihnmingedgfaa
open Go.ChangeShapes Go.WideShapes Go.ChangeAt Go.RowKit Go.Joins Go.ChangeMaps Go.Deep
set_option linter.unusedVariables false

section
variable {H : Type} {enc : TypeId × Value → H} {w : World} {base : Nat} {spare : Nat → Bool} {held : Bool}
set_option maxRecDepth 100000 in
theorem open_bytes {b0 : Nat} {v : Value} {d : DataW H} {p : List MemPlace} (hv : Value.okWide Try.prog w .any b0 54 v) (h : DataW.Trod enc Try.prog w base spare held 54 v d p) :
    ∃ (A : Option Addr) (c : Nat) (l : List Int), v = .slice A l.length c ∧ Im.IsBytes l ∧ l.length ≤ maxLen ∧ l.length ≤ c ∧ Lies w w.heap.size 1 A l.length (Im.u8s l) := by
  have hag : ∀ cs, v ≠ .agg cs := fun cs e => by subst e; simp [Value.okWide, Try.underlying54, Cell.okWide, Cell.ok] at hv
  obtain ⟨A, c, l, h1, h2, h3, h4, h5⟩ := open_slice_c (enc := enc) (w := w) (base := base) (spare := spare) (held := held) (fun x : Int => [Value.int .u8 x]) 1 (fun x => 0 ≤ x ∧ x ≤ 255) 0 Try.underlying54 (by kernel_rfl) (by decide) (fun _ => rfl) (fun hl ht => by
    obtain ⟨x, e, _, w⟩ := DataW.trod_int Try.underlying5 ht
    exact ⟨x, e, Bd.u8 w⟩) hag h
  refine ⟨A, c, l, h1, h2, h3, h5, ?_⟩
  have e : ∀ l : List Int, (l.flatMap fun x => [Value.int .u8 x]) = Im.u8s l := fun l => by
    unfold Im.u8s
    induction l with
    | nil => rfl
    | cons a l ih => rw [List.flatMap_cons, ih]; rfl
  rw [← e]
  exact h4
end
end Go.Proofs.Ytbihnmingedgfaa
