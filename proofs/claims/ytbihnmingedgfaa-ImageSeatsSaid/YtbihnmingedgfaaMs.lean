/-
Several texts in one: Oc Ix It I6 Bd Op Tj Iw.
-/
import Derived.Test.YtbihnmingedgfaaIa
import Derived.Laws.BytesArg
import Derived.Test.YtbihnmingedgfaaIu
import Derived.Test.YtbihnmingedgfaaQx
import Derived.Test.YtbihnmingedgfaaI5
import GoSem.Claim
import Derived.RowKit
import Derived.ChangeShapes
import Derived.Test.YtbihnmingedgfaaMw
import Derived.ProofKit
import Derived.OpenShut
import Derived.Carry
import Derived.Lib.SmallJoins
import Derived.ChangeOld
import Derived.ChangeArms
import Derived.Test.YtbihnmingedgfaaTa
import Derived.Test.YtbihnmingedgfaaTd
import Derived.Test.YtbihnmingedgfaaIg
/-
Bytes turned into a string.
-/


namespace Go.Proofs.Ytbihnmingedgfaa
open Go.RowKit Go.Shelf
set_option linter.unusedVariables false
set_option linter.unusedSimpArgs false

theorem conv_bytes (l : List Int) (m : Nat) (A : Option Addr) (c : Nat) (w : World) (B : Nat) (hm : l.length = m) (hL : Lies w B 1 A m (Im.u8s l)) :
    (convert 54 9 (.slice A m c)).run Try.prog w = .ok (.string (strOfNums l)) w := by
  cases A with
  | none =>
    have hm0 : m = 0 := by
      by_cases h0 : m = 0
      · exact h0
      · obtain ⟨ad, e, _⟩ := hL.start h0
        cases e
    have hl0 : l = [] := List.eq_nil_of_length_eq_zero (by omega)
    subst hl0
    exact run_convert_bytes_nil (P := Try.prog) (w := w) 54 5 Try.underlying54 Try.underlying5 m c 9 Try.underlying9
  | some ad =>
    have hl : (loadCells ad m).run Try.prog w = .ok (l.map (Value.int .u8)).toArray w := by
      have := run_loadCells_list (P := Try.prog) w ad (l.map (Value.int .u8)) (fun j v hj => hL.cell ad rfl (fun h0 => by
        have := (List.getElem?_eq_some_iff.1 hj).1
        rw [List.length_map] at this
        omega) j v hj)
      simpa [hm] using this
    rw [run_convert_bytes_string w 54 9 5 _ m c Try.underlying54 Try.underlying5 Try.underlying9, run_bytesToString w _ m c l hl, foldl_push_bytes]
    simp [strOfNums, ByteArray.empty, ByteArray.emptyWithCapacity]
    rfl

end Go.Proofs.Ytbihnmingedgfaa

/-
Sums of images.
-/


namespace Go.Proofs.Ytbihnmingedgfaa
open Go.RowKit Go.Shelf
set_option linter.unusedVariables false
set_option linter.unusedSimpArgs false

/-- The number that stands for bytes. -/
def Im.sum (l : List Int) : Int := Dn.seed (strOfNums l).data.toList

theorem sum_any (l : List Int) (m : Nat) (A : Option Addr) (c : Nat) (w : World) (hm : l.length = m) (hmx : m ≤ maxLen) (hL : Lies w w.heap.size 1 A m (Im.u8s l)) :
    Calls Try.prog 35 #[.slice A m c] w fun e w' => e = .returned (.int .u64 (Im.sum l)) ∧ Below w.heap.size w w' := by
  have hcv := conv_bytes l m A c w _ hm hL
  have cs := fun X => Lib.hid (seed_any (strOfNums l) X (by rw [strOfNums_size]; omega))
  rw [show Dn.seed (strOfNums l).data.toList = Im.sum l from rfl] at cs
  generalize Im.sum l = q at *
  generalize strOfNums l = st at *
  clear hL hm
  go_enter Try.func35, Try.ntmps35
  go_wp2_with (go_at_call 52; ((with_reducible refine ((cs _).out).mono ?_); rintro e w1 ⟨rfl, hb⟩))
  go_ret
  exact ⟨rfl, hb⟩

theorem of_yes (g : Gm.G) (r : Ros.R) (A : Option Addr) (n c : Nat) (w : World) (hok : Im.Ok g r) (hd : 0 ≤ g.dice ∧ g.dice ≤ 18446744073709551615) (hn : n = g.shots.length) (hr : Lies w w.heap.size 6 A n (Gm.shotCells g.shots)) :
    Calls Try.prog 37 #[.agg (Im.cells g (.slice A n c) r)] w fun e w' => e = .returned (.int .u64 (Im.sum (Im.put g r))) ∧ Below w.heap.size w w' := by
  have P0 := Lib.hid (Box.made w 53 (Im.cells g (.slice A n c) r))
  have K0 := Lib.hid (one_below w (.cells (Im.cells g (.slice A n c) r) 53))
  have hlen := Im.put_le g r hok.1.2.2.1
  have cp := Lib.hid (put_yes g r A n c _ hok hd hn ((hr.below K0.out).wider K0.out.size))
  have cs := fun A' c' X hX => Lib.hid (sum_any (Im.put g r) (Im.put g r).length A' c' X rfl (by unfold maxLen; omega) hX)
  generalize (Im.put g r).length = m at *
  generalize Im.sum (Im.put g r) = q at *
  generalize Im.put g r = bs at *
  clear hr hn hok hd hlen
  go_enter Try.func37, Try.ntmps37
  go_wp2_with (first | ((with_reducible refine im_load_state rfl rfl ?_); apply LoadIm.mk rfl; (focus (with_reducible exact P0.out)); dsimp only) | (go_at_call 29; ((with_reducible refine (cp.out).mono ?_); rintro e w1 ⟨A1, c1, rfl, hL, hb⟩; have K1 := Lib.hid (K0.out.trans (hb.mono K0.out.size)); have cs1 := cs A1 c1 w1 hL; clear hb cs hL)) | (go_at_call 35; ((with_reducible refine (cs1.out).mono ?_); rintro e w2 ⟨rfl, hb⟩; have K2 := Lib.hid (K1.out.trans (hb.mono K1.out.size)); clear hb)))
  go_ret
  exact ⟨rfl, K2.out⟩
end Go.Proofs.Ytbihnmingedgfaa

/-
The statements' own question of images.
-/


namespace Go.Proofs.Ytbihnmingedgfaa
open Go.RowKit Go.Shelf
set_option linter.unusedVariables false
set_option linter.unusedSimpArgs false

section
variable {ops : Array Oper} {Q : Exit → Act → World → Prop} {o : Oper} {rest : List Oper} {a : Act} {w : World} {x y : Operand}
theorem im_load_state_g (hw : Region.wanted o (yielded ops a.tmps) = true) (ho : o.op = .load 53 x) (h : LoadIm ops Q rest o.dst (a.eval x) 0 (fun g s r => Im.cells g s r) a w) : wpList Try.prog ops Q (o :: rest) a w := by
  obtain ⟨B, g, s, r, hx, hB, h⟩ := h
  refine wpList_load_part_g hw ho hx hB (Im.cells g s r).toList (fun j v hv => ?_) Try.underlying53 rfl (by rw [Array.length_toList, Im.cells_size]; exact state_info) (by rw [Array.toArray_toList]; exact h)
  rw [Nat.zero_add]
  simpa using hv
theorem state_store_new {v : World} {old : Array Value} {g : Gm.G} {s : Value} {r : Ros.R} (hgd : o.guard = none) (ho : o.op = .store 53 x y) (hx : a.eval x = .pointer (some ⟨v.heap.size, 0, none⟩)) (hy : a.eval y = .agg (Im.cells g s r))
    (hold : old.size = 76) (hs : s.oneCell' = true) (h : wpList Try.prog ops Q rest (a.put o.dst undef) (v.alloc (.cells (Im.cells g s r) 53))) : wpList Try.prog ops Q (o :: rest) a (v.alloc (.cells old 53)) :=
  wpList_store_new hgd ho hx hy rfl rfl (by rw [Im.cells_size]; exact state_info) (by rw [Im.cells_size]; exact hold) (im_cells_one _ _ _ hs) h
theorem state_store_zero {v : World} {old : Array Value} (hgd : o.guard = none) (ho : o.op = .store 53 x y) (hx : a.eval x = .pointer (some ⟨v.heap.size, 0, none⟩)) (hy : a.eval y = .agg Im.zero)
    (hold : old.size = 76) (h : wpList Try.prog ops Q rest (a.put o.dst undef) (v.alloc (.cells Im.zero 53))) : wpList Try.prog ops Q (o :: rest) a (v.alloc (.cells old 53)) :=
  wpList_store_new hgd ho hx hy rfl rfl (by rw [Im.zero_size]; exact state_info) (by rw [Im.zero_size]; exact hold) zero_one h
end

theorem quiet_state {B0 : Nat} {W : World} {o : Oper} {a : Act} {K : Act → Prop} {B : Nat} {g : Gm.G} {s : Value} {r : Ros.R} {x : Operand} (ho : o.op = .load 53 x) (hx : a.eval x = .pointer (some ⟨B, 0, none⟩)) (hB : ∀ q : Ext B0 W, Box q.w B 53 (Im.cells g s r)) (h : K (a.put o.dst (.agg (Im.cells g s r)))) :
    o.quiet Try.prog a (fun w' => ∃ q : Ext B0 W, w' = q.w) K :=
  ⟨_, fun w hw => by obtain ⟨q, e⟩ := hw; subst e; unfold Oper.quietAt; rw [exec_load_blk ho hx (hB q) Try.underlying53 rfl (by rw [Im.cells_size]; exact state_info)]; exact ⟨rfl, rfl⟩, h⟩

theorem im_okShip_none : Gm.okShip Gm.Ship.none := ⟨.inr rfl, by unfold Gm.inF Gm.Ship.none; decide, by unfold Gm.inF Gm.Ship.none; decide, by unfold Gm.slow Gm.Ship.none; decide, by unfold Gm.slow Gm.Ship.none; decide, by decide, by decide, by decide, by decide⟩
def Im.bad (d : Int) : Gm.G := { Im.bare 0 d with ship := Gm.upd (fun _ => Gm.Ship.none) 0 { Gm.Ship.none with on := true } }
theorem Im.bad_cells (d : Int) (s : Value) (r : Ros.R) : (Im.cells (Im.bare 0 d) s r).setIfInBounds 2 (.bool true) = Im.cells (Im.bad d) s r := by
  rw [Im.cells_set_g _ _ _ _ (by omega)]
  rfl
theorem Im.bad_no (d : Int) : ¬ Im.Ok (Im.bad d) Ros.new := fun h => absurd (h.2.2 0 (by omega)) (by show ¬ (true = decide ((0 : Int) ≤ -1)); decide)
theorem Im.bad_ty (d : Int) (hd : 0 ≤ d ∧ d ≤ 18446744073709551615) : Gm.ty (Im.bad d) := ⟨by show Gm.i64 0; unfold Gm.i64; omega, hd, fun i hi => by
  show Gm.tyShip (Gm.upd (fun _ => Gm.Ship.none) 0 { Gm.Ship.none with on := true } i)
  unfold Gm.upd
  by_cases e : i = 0
  · rw [if_pos e]; unfold Gm.tyShip Gm.i32 Gm.i64; decide
  · rw [if_neg e]; show Gm.tyShip Gm.Ship.none; unfold Gm.tyShip Gm.i32 Gm.i64; decide, fun i hi => absurd hi (Nat.not_lt_zero _)⟩
theorem Im.fresh_ok (d : Int) : Im.Ok (Im.bare 0 d) Ros.new := ⟨⟨by show (0 : Int) ≤ 0; decide, by show (0 : Int) ≤ 1048576; decide, by show 0 ≤ 32; decide, fun _ _ => im_okShip_none, fun i h => absurd h (Nat.not_lt_zero _)⟩, by decide +kernel, fun k _ => rfl⟩
theorem Im.fresh_len (d : Int) : (Im.put (Im.bare 0 d) Ros.new).length = 49 := by rfl

set_option maxRecDepth 100000 in
set_option maxHeartbeats 400000 in
theorem told7_any (w : World) :
    Calls Try.prog 28 #[] w fun e w' => e = .returned (.bool true) ∧ Below w.heap.size w w' := by
  have hd : 0 ≤ Dn.seed [97] ∧ Dn.seed [97] ≤ 18446744073709551615 := Dn.seed_bd _
  have cst := fun X => Lib.hid (start_any ⟨#[97]⟩ X (by decide))
  have csd := fun X => Lib.hid (refseed_any ⟨#[97]⟩ X (by decide))
  generalize Dn.seed [97] = d at hd cst csd
  rw [show Gm.new d = Im.bare 0 d from rfl] at cst
  have hok := Im.fresh_ok d
  have cpt := fun X => Lib.hid (put_made (Im.bare 0 d) Ros.new none 0 0 X hok hd rfl Lies.empty)
  have cget := fun A c X hc hL => Lib.hid (get_bare 0 d Ros.new A 49 c X (by decide) hd hok (Im.fresh_len d).symm hc hL)
  rw [Im.fresh_len] at cpt
  have cgn : ∀ X, Hid (Calls Try.prog 32 #[.slice none 0 0] X fun e w' => e = .returned (.tuple #[.agg (Im.cells Im.G0 (.slice none 0 0) Im.R0), .int .i64 2]) ∧ Below X.heap.size X w') := fun X => Lib.hid (get_nil X)
  generalize Im.G0 = z0 at cgn
  generalize Im.R0 = zr at cgn
  have cpn := fun X => Lib.hid (put_no (Im.bad d) Ros.new none 0 0 X (Im.bad_no d) (Im.bad_ty d hd) rfl (Nat.zero_le _) Lies.empty)
  have cof := fun X => Lib.hid (of_no (Im.bad d) Ros.new none 0 0 X (Im.bad_no d) (Im.bad_ty d hd) rfl (Nat.zero_le _) Lies.empty)
  have csm := fun X => Lib.hid (sum_nil X)
  have hset := Im.bad_cells d (.slice none 0 0) Ros.new
  have zon : ∀ s r, (Im.cells (Im.bare 0 d) s r)[2]? = some (.bool false) := fun s r => (Im.cells_ship (Im.bare 0 d) s r 0 0 (by omega) (by omega)).trans rfl
  have zdice : ∀ s r, (Im.cells (Im.bare 0 d) s r)[1]? = some (.int .u64 d) := fun s r => (Im.cells_g (Im.bare 0 d) s r 1 (by omega)).trans (Gm.cells_1 _ _)
  have zpeer : ∀ (s : Value) (_ : Unit), (Im.cells (Im.bare 0 d) s Ros.new)[66]? = some (.int .i64 (-1)) := fun s _ => (Im.cells_peer (Im.bare 0 d) s Ros.new 3 (by omega)).trans rfl
  have HS := Lib.hid hset
  generalize Im.bad d = g1 at *
  generalize Im.put (Im.bare 0 d) Ros.new = bs at *
  generalize Im.bare 0 d = g0 at *
  generalize Ros.new = r0 at *
  clear hd hok hset
  go_enter Try.func28, Try.ntmps28
  go_wp2_with (first | ((with_reducible refine im_load_state rfl rfl ?_); apply LoadIm.mk rfl; (focus (with_reducible exact T1.out)); dsimp only) | ((with_reducible refine im_load_state rfl rfl ?_); apply LoadIm.mk rfl; (focus (with_reducible exact T5.out)); dsimp only) | (with_reducible refine alloc_state rfl rfl ?_) | ((with_reducible refine state_store_new rfl rfl rfl rfl Im.zero_size rfl ?_)) | (go_at_call 74; ((with_reducible refine ((cst _).out).mono ?_); rintro e w1 ⟨rfl, hb⟩; have T1 := Lib.hid (Box.made w1 53 (Im.cells g0 (.slice none 0 0) r0)); have K1 := Lib.hid (hb.alloc hb.size (.cells (Im.cells g0 (.slice none 0 0) r0) 53)); have K1w := Lib.hid hb.size; clear hb)) | (go_at_call 29; ((with_reducible refine ((cpt _).out).mono ?_); rintro e w2 ⟨A2, c2, rfl, hc2, hL2, hb⟩; have T2 := Lib.hid (T1.out.below hb T1.out.lt); have K2 := Lib.hid (K1.out.trans (hb.mono K1.out.size)); have L2 := Lib.hid hL2; have C2 := Lib.hid hc2; have cg := cget A2 c2 _ C2.out L2.out; clear hc2 hL2 hb)) | (go_at_call 32; ((with_reducible refine (cg.out).mono ?_); rintro e w3 ⟨⟨S, rfl⟩, hb⟩; have T3 := Lib.hid ((T2.out.below hb T2.out.lt).alloc (.cells (Im.cells g0 (.slice (some ⟨S, 0, none⟩) 0 0) r0) 53)); have K3 := Lib.hid ((K2.out.trans (hb.mono K2.out.size)).alloc (Nat.le_trans K2.out.size hb.size) (.cells (Im.cells g0 (.slice (some ⟨S, 0, none⟩) 0 0) r0) 53)); have G3 := Lib.hid (Box.made w3 53 (Im.cells g0 (.slice (some ⟨S, 0, none⟩) 0 0) r0)); have l3 := Nat.lt_of_lt_of_le T2.out.lt hb.size; clear hb cg)) | (go_at_call 32; ((with_reducible refine ((cgn _).out).mono ?_); rintro e w4 ⟨rfl, hb⟩; have T4 := Lib.hid ((T3.out.below hb T3.out.lt).alloc (.cells (Im.cells z0 (.slice none 0 0) zr) 53)); have K4 := Lib.hid ((K3.out.trans (hb.mono K3.out.size)).alloc (Nat.le_trans K3.out.size hb.size) (.cells (Im.cells z0 (.slice none 0 0) zr) 53)); have G4 := Lib.hid ((G3.out.below hb G3.out.lt).alloc (.cells (Im.cells z0 (.slice none 0 0) zr) 53)); have t4 := (T4.out.cell 2).trans (zon _ _); have f4 := T4.out.free 2; have T5 := Lib.hid (show Box _ w1.heap.size 53 (Im.cells g1 (.slice none 0 0) r0) by (have h5 := T4.out.put 2 (.bool true)); rw [HS.out] at h5; exact h5); have K5 := Lib.hid (K4.out.setCell (p := ⟨w1.heap.size, 2, none⟩) (K1w.out) (.bool true)); have G5 := Lib.hid (G4.out.far (p := ⟨w1.heap.size, 2, none⟩) (show w3.heap.size ≠ w1.heap.size by omega) (.bool true)); clear hb)) | (go_at_call 29; ((with_reducible refine ((cpn _).out).mono ?_); rintro e w6 ⟨rfl, hb⟩; have T6 := Lib.hid (T5.out.below hb T5.out.lt); have G6 := Lib.hid (G5.out.below hb G5.out.lt); have K6 := Lib.hid (K5.out.trans (hb.mono K5.out.size)); have g6 := (G6.out.cell 1).trans (zdice _ _); have h6 := (G6.out.cell 66).trans (zpeer _ ()); clear hb)) | (go_at_call 36; ((with_reducible refine ((csd _).out).mono ?_); rintro e ws ⟨rfl, rfl⟩; skip)) | ((with_reducible refine im_load_state_g ?_ rfl ?_); (focus first | rfl | kernel_rfl | simp [Region.wanted, yielded]); apply LoadIm.mk rfl; (focus (with_reducible exact T6.out)); dsimp only) | (go_at_call 37; ((with_reducible refine ((cof _).out).mono ?_); rintro e w7 ⟨rfl, hb⟩; have K7 := Lib.hid (K6.out.trans (hb.mono K6.out.size)); clear hb)) | (go_at_call 35; ((with_reducible refine ((csm _).out).mono ?_); rintro e w8 ⟨rfl, hb⟩; have K8 := Lib.hid (K7.out.trans (hb.mono K7.out.size)); clear hb)))
  have z1 : ∀ q : Ext w6.heap.size w6, q.w.cell? ⟨w3.heap.size, 1, none⟩ = some (.int .u64 d) := fun q => q.cell G6.out.lt g6
  have z2 : ∀ q : Ext w6.heap.size w6, q.w.cell? ⟨w3.heap.size, 66, none⟩ = some (.int .i64 (-1)) := fun q => q.cell G6.out.lt h6
  have ZT := Lib.hid (fun q : Ext w6.heap.size w6 => T6.out.below q.h T6.out.lt)
  clear g6 h6 T5 K5 G5 T1 T2 T3 T4 K1 K2 K3 K4 G3 G4 L2 C2 t4 f4 l3 K1w cst cpt cget cgn cpn HS zon zdice zpeer
  refine wp_region_ext w6.heap.size w6 (by kernel_rfl) (by kernel_rfl) (Below.refl _ _) ?_
  repeat (first | (go_big_quiet_want; refine quiet_state rfl rfl ZT.out ?_; simp only [Act.put, List.setIfInBounds_toArray, List.set_cons_succ, List.set_cons_zero]; go_big_quiet_on) | go_big_quiet_step ((first | (go_at_call 36; with_reducible exact Calls.ext_same (csd _).out) | (go_at_call 37; with_reducible exact Calls.ext_of (Nat.le_refl _) (cof _).out) | (go_at_call 35; with_reducible exact Calls.ext_of (Nat.le_refl _) (csm _).out))))
  refine wpQuiet_nil ?_
  intro _ hw'
  obtain ⟨q, hw''⟩ := hw'
  subst hw''
  have KQ := Lib.hid (K6.out.trans (q.h.mono K6.out.size))
  go_wp2
  go_ret
  exact ⟨rfl, KQ.out⟩
end Go.Proofs.Ytbihnmingedgfaa

/-
ImageSeats: ships and seats go together.
-/



namespace Go.Proofs.Ytbihnmingedgfaa
open Go.RowKit Go.Shelf
set_option linter.unusedVariables false
set_option linter.unusedSimpArgs false

theorem Im.cells_upd (g : Gm.G) (s : Value) (r : Ros.R) (k : Nat) (hk : k < 8) (t : Gm.Ship) (W : World) (B : Nat) (hB : Box W B 53 (Im.cells g s r)) : Box (stored W B k t) B 53 (Im.cells { g with ship := Gm.upd g.ship k t } s r) := by
  have h := ((((((hB.put (2 + k * 7) (.bool t.on)).put (2 + k * 7 + 1) (.int .i32 t.x)).put (2 + k * 7 + 2) (.int .i32 t.y)).put (2 + k * 7 + 3) (.int .i32 t.vx)).put (2 + k * 7 + 4) (.int .i32 t.vy)).put (2 + k * 7 + 5) (.int .i64 t.cool)).put (2 + k * 7 + 6) (.int .i64 t.score)
  have e : ∀ (cs : Array Value) (i : Nat) (v : Value), i < 59 → cs.size = 59 → (cs ++ Ros.cells r).setIfInBounds i v = cs.setIfInBounds i v ++ Ros.cells r := fun cs i v hi hc => by rw [Array.setIfInBounds_append, if_pos (by omega)]
  unfold Im.cells at h ⊢
  rw [e _ _ _ (by omega) (by simp [Gm.cells_size]), e _ _ _ (by omega) (by simp [Gm.cells_size]), e _ _ _ (by omega) (by simp [Gm.cells_size]), e _ _ _ (by omega) (by simp [Gm.cells_size]), e _ _ _ (by omega) (by simp [Gm.cells_size]), e _ _ _ (by omega) (by simp [Gm.cells_size]), e _ _ _ (by omega) (by simp [Gm.cells_size]), set7 g s k hk t] at h
  exact h
theorem Im.cells_on (g : Gm.G) (s : Value) (r : Ros.R) (k : Nat) (hk : k < 8) (t : Gm.Ship) (ht : t = g.ship k) : (Im.cells g s r).setIfInBounds (2 + k * 7) (.bool true) = Im.cells { g with ship := Gm.upd g.ship k { t with on := true } } s r := by
  subst ht
  unfold Im.cells
  rw [Array.setIfInBounds_append, if_pos (by rw [Gm.cells_size]; omega)]
  refine congrArg (· ++ Ros.cells r) ?_
  match k, hk with | 0, _ | 1, _ | 2, _ | 3, _ | 4, _ | 5, _ | 6, _ | 7, _ => rfl

set_option maxRecDepth 100000 in
set_option maxHeartbeats 4000000 in
theorem seats_law (g : Gm.G) (r : Ros.R) (A : Option Addr) (n c : Nat) (slot : Int) (w : World) (hs : -9223372036854775808 ≤ slot ∧ slot ≤ 9223372036854775807) (hty : Gm.ty g) (hn : n = g.shots.length) (hn63 : n ≤ maxLen) (hr : Lies w w.heap.size 6 A n (Gm.shotCells g.shots)) :
    Calls Try.prog 8 #[.agg (Im.cells g (.slice A n c) r), .int .i64 slot] w fun e w' => e = .returned (.bool true) ∧ Below w.heap.size w w' := by
  have P0 := Lib.hid (Box.made w 53 (Im.cells g (.slice A n c) r))
  have K0 := Lib.hid (one_below w (.cells (Im.cells g (.slice A n c) r) 53))
  have H0 := Lib.hid ((hr.below K0.out))
  have ct := fun X => Lib.hid (told7_any X)
  have cf := fun X => Lib.hid (few_any g A n c X hn63)
  have cm := fun X hX => Lib.hid (refstate_any g r A n c X hty hn hn63 hX)
  by_cases hfew : n ≤ 60
  rotate_left
  · rw [show decide (n ≤ 60) = false from decide_eq_false hfew] at cf
    clear hr hn hty cm hfew
    go_enter Try.func8, Try.ntmps8
    go_wp2_with (first | ((with_reducible refine im_load_game rfl rfl ?_); apply LoadIm.mk rfl; (focus (with_reducible exact P0.out)); dsimp only) | (go_at_call 27; ((with_reducible refine ((cf _).out).mono ?_); rintro e w1 ⟨rfl, hb⟩; have P1 := Lib.hid (P0.out.below hb P0.out.lt); have K1 := Lib.hid (K0.out.trans (hb.mono K0.out.size)); have H1 := Lib.hid (H0.out.below (hb.mono K0.out.size)); clear hb)) | (go_at_call 28; ((with_reducible refine ((ct _).out).mono ?_); rintro e w9 ⟨rfl, hb⟩; have K2 := Lib.hid (K1.out.trans (hb.mono K1.out.size)); clear hb)))
    go_ret
    exact ⟨rfl, K2.out⟩
  rw [show decide (n ≤ 60) = true from decide_eq_true hfew] at cf
  by_cases hok : Im.Ok g r
  rotate_left
  · have HNO := Lib.hid hok
    clear hr hn hty hfew hok
    go_enter Try.func8, Try.ntmps8
    go_wp2_with (first | ((with_reducible refine im_load_game rfl rfl ?_); apply LoadIm.mk rfl; (focus (with_reducible exact P0.out)); dsimp only) | (go_at_call 27; ((with_reducible refine ((cf _).out).mono ?_); rintro e w1 ⟨rfl, hb⟩; have P1 := Lib.hid (P0.out.below hb P0.out.lt); have K1 := Lib.hid (K0.out.trans (hb.mono K0.out.size)); have H1 := Lib.hid (H0.out.below (hb.mono K0.out.size)); clear hb)) | ((with_reducible refine im_load_state_g ?_ rfl ?_); (focus first | rfl | kernel_rfl | simp [Region.wanted, yielded]); apply LoadIm.mk rfl; (focus (with_reducible exact P1.out)); dsimp only) | (go_at_call 30; ((with_reducible refine ((cm _ (H1.out.wider K1.out.size)).out).mono ?_); rintro e w2 ⟨⟨v, rfl, hv⟩, hb⟩; obtain rfl : v = false := (by cases v <;> first | rfl | exact absurd (hv.1 rfl) HNO.out); have P2 := Lib.hid (P1.out.below hb P1.out.lt); have K2 := Lib.hid (K1.out.trans (hb.mono K1.out.size)); clear hb hv)) | (go_at_call 28; ((with_reducible refine ((ct _).out).mono ?_); rintro e w9 ⟨rfl, hb⟩; have K3 := Lib.hid (K2.out.trans (hb.mono K2.out.size)); clear hb)))
    go_ret
    exact ⟨rfl, K3.out⟩
  have HOK := Lib.hid hok
  have HD := Lib.hid hty.2.1
  have HTY := Lib.hid hty
  have HN := Lib.hid hn
  obtain ⟨k, hk8, hkk⟩ : ∃ k : Nat, k < 8 ∧ (k : Int) = slot % 8 := ⟨(slot % 8).toNat, by omega, by omega⟩
  have hq : wrap64 ((IntKind.u64.wrap slot).tmod 8) = (k : Int) := by
    rw [wrap_u64', Int.tmod_eq_emod_of_nonneg (by omega), IntWalk.wrap64_in _ (by omega)]
    omega
  have cp := fun X hX => Lib.hid (put_yes g r A n c X hok hty.2.1 hn hX)
  have co := fun X hX => Lib.hid (of_yes g r A n c X hok hty.2.1 hn hX)
  have cs := fun A' c' X hX => Lib.hid (sum_any (Im.put g r) (Im.put g r).length A' c' X rfl (by have := Im.put_le g r hok.1.2.2.1; unfold maxLen; omega) hX)
  have hon := hok.2.2 k hk8
  have hst := (hty.2.2.1 k hk8)
  obtain ⟨t, ht⟩ : ∃ t, t = g.ship k := ⟨_, rfl⟩
  rw [← ht] at hon hst
  have HT := Lib.hid ht
  have k8' : (k : Int) < 8 := by omega
  generalize (Im.put g r).length = m at *
  generalize Im.sum (Im.put g r) = q at *
  generalize Im.put g r = bs at *
  have HON := Lib.hid hon
  have HST := Lib.hid hst
  clear hr hn hty hfew hok hkk hs ht hon hst
  go_enter Try.func8, Try.ntmps8
  go_upto_region 5 with (first | ((with_reducible refine im_load_game rfl rfl ?_); apply LoadIm.mk rfl; (focus (with_reducible exact P0.out)); dsimp only) | (go_at_call 27; ((with_reducible refine ((cf _).out).mono ?_); rintro e w1 ⟨rfl, hb⟩; have P1 := Lib.hid (P0.out.below hb P0.out.lt); have K1 := Lib.hid (K0.out.trans (hb.mono K0.out.size)); have H1 := Lib.hid (H0.out.below (hb.mono K0.out.size)); clear hb)) | ((with_reducible refine im_load_state_g ?_ rfl ?_); (focus first | rfl | kernel_rfl | simp [Region.wanted, yielded]); apply LoadIm.mk rfl; (focus (with_reducible exact P1.out)); dsimp only) | (go_at_call 30; ((with_reducible refine ((cm _ (H1.out.wider K1.out.size)).out).mono ?_); rintro e w2 ⟨⟨v, rfl, hv⟩, hb⟩; obtain rfl : v = true := hv.2 HOK.out; have P2 := Lib.hid (P1.out.below hb P1.out.lt); have K2 := Lib.hid (K1.out.trans (hb.mono K1.out.size)); have H2 := Lib.hid (H1.out.below (hb.mono K1.out.size)); clear hb hv)) | ((with_reducible refine im_load_state rfl rfl ?_); apply LoadIm.mk rfl; (focus (with_reducible exact P2.out)); dsimp only) | (with_reducible refine alloc_state rfl rfl ?_) | ((with_reducible refine state_store_new rfl rfl rfl rfl Im.zero_size rfl ?_)))
  rw [hq]
  obtain ⟨W, hW⟩ : ∃ W, W = w2.alloc (.cells (Im.cells g (.slice A n c) r) 53) := ⟨_, rfl⟩
  obtain ⟨B, hBe⟩ : ∃ B, B = w2.heap.size := ⟨_, rfl⟩
  have T3 := Lib.hid (show Box W B 53 (Im.cells g (.slice A n c) r) by rw [hW, hBe]; exact Box.made _ _ _)
  have P3 := Lib.hid (show Box W w.heap.size 53 (Im.cells g (.slice A n c) r) by rw [hW]; exact P2.out.alloc _)
  have K3 := Lib.hid (show Below w.heap.size w W by rw [hW]; exact K2.out.alloc K2.out.size _)
  have H3 := Lib.hid (show Lies W w.heap.size 6 A n (Gm.shotCells g.shots) by rw [hW]; exact H2.out.below ((one_below _ _).mono K2.out.size))
  have hne := Lib.hid (show w.heap.size ≠ B ∧ w.heap.size ≤ B by have := P2.out.lt; omega)
  rw [← hBe, ← hW]
  have tc := T3.out.cell
  have tf := T3.out.free
  have q0 := (Im.cells_ship g (.slice A n c) r k 0 hk8 (by omega))
  have q1 := (Im.cells_ship g (.slice A n c) r k 1 hk8 (by omega))
  have q2 := (Im.cells_ship g (.slice A n c) r k 2 hk8 (by omega))
  have q3 := (Im.cells_ship g (.slice A n c) r k 3 hk8 (by omega))
  have q4 := (Im.cells_ship g (.slice A n c) r k 4 hk8 (by omega))
  have q5 := (Im.cells_ship g (.slice A n c) r k 5 hk8 (by omega))
  have q6 := (Im.cells_ship g (.slice A n c) r k 6 hk8 (by omega))
  rw [← HT.out] at q0 q1 q2 q3 q4 q5 q6
  have HTT := Lib.hid (show (⟨t.on, t.x, t.y, t.vx, t.vy, t.cool, t.score⟩ : Gm.Ship) = t from rfl)
  obtain ⟨on, x, y, vx, vy, cool, score⟩ := t
  simp only [Gm.Ship.cells, List.getElem?_cons_zero, List.getElem?_cons_succ, Nat.add_zero] at q0 q1 q2 q3 q4 q5 q6
  dsimp only at HON
  clear hW hBe P2 K2 H2 P1 K1 H1 P0 K0 H0 cf cm
  cases on
  · obtain ⟨u, hu⟩ : ∃ u : Gm.Ship, u = ⟨true, x, y, vx, vy, cool, score⟩ := ⟨_, rfl⟩
    have HU := Lib.hid (show (g.ship k).on ≠ u.on by rw [← HT.out, hu]; simp)
    have hut : Gm.tyShip u := by
      rw [hu]
      exact HST.out
    obtain ⟨g2, hg2⟩ : ∃ g2 : Gm.G, g2 = { g with ship := Gm.upd g.ship k u } := ⟨_, rfl⟩
    have HNO := Lib.hid (show ¬ Im.Ok g2 r from fun h => by
      have h1 := h.2.2 k hk8
      rw [hg2, show Gm.G.ship { g with ship := Gm.upd g.ship k u } k = u from Gm.upd_same _ _ _] at h1
      rw [← HT.out] at HU
      exact HU.out (HON.out.trans h1.symm))
    have HTY2 := Lib.hid (show Gm.ty g2 by
      rw [hg2]
      exact ⟨HTY.out.1, HTY.out.2.1, fun i hi => by
        show Gm.tyShip (Gm.upd g.ship k _ i)
        by_cases e : i = k
        · rw [e, Gm.upd_same]; exact hut
        · rw [Gm.upd_other _ _ e]; exact HTY.out.2.2.1 i hi, HTY.out.2.2.2⟩)
    have HS2 := Lib.hid (show g2.shots = g.shots by rw [hg2])
    obtain ⟨V, hV⟩ : ∃ V, V = W.setCell ⟨B, 2 + k * 7, none⟩ (.bool true) := ⟨_, rfl⟩
    have T4 := Lib.hid (show Box V B 53 (Im.cells g2 (.slice A n c) r) by
      rw [hV, hg2]
      have h5 := T3.out.put (2 + k * 7) (.bool true)
      rw [Im.cells_on g (.slice A n c) r k hk8 _ HT.out] at h5
      rw [hu]
      exact h5)
    have P4 := Lib.hid (show Box V w.heap.size 53 (Im.cells g (.slice A n c) r) by rw [hV]; exact P3.out.far (p := ⟨B, 2 + k * 7, none⟩) hne.out.1 (.bool true))
    have K4w := Lib.hid (show Below w.heap.size W V by rw [hV]; exact Below.setCell (Below.refl w.heap.size W) (p := ⟨B, 2 + k * 7, none⟩) hne.out.2 (.bool true))
    have K4 := Lib.hid (K3.out.trans K4w.out)
    have H4 := Lib.hid (H3.out.below K4w.out)
    try rw [hu] at hV
    skip
    have HV := Lib.hid hV
    have cn := fun X (hX : Lies X X.heap.size 6 A n (Gm.shotCells g.shots)) => Lib.hid (put_no g2 r A n c X HNO.out HTY2.out (by rw [HS2.out]; exact HN.out) hn63 (by rw [HS2.out]; exact hX))
    have cz := fun X (hX : Lies X X.heap.size 6 A n (Gm.shotCells g.shots)) => Lib.hid (of_no g2 r A n c X HNO.out HTY2.out (by rw [HS2.out]; exact HN.out) hn63 (by rw [HS2.out]; exact hX))
    clear hV hu hut hg2 hn63
    go_upto_region 8 with fail
    rw [← HV.out]
    clear tc tf q0 q1 q2 q3 q4 q5 q6 T3 P3 K3 H3
    go_wp2_with (first | ((with_reducible refine im_load_state rfl rfl ?_); apply LoadIm.mk rfl; (focus (with_reducible exact P4.out)); dsimp only) | ((with_reducible refine im_load_state rfl rfl ?_); apply LoadIm.mk rfl; (focus (with_reducible exact T5.out)); dsimp only) | (go_at_call 29; ((with_reducible refine ((cp _ (H4.out.wider K4.out.size)).out).mono ?_); rintro e w5 ⟨A5, c5, rfl, hL, hb⟩; have P5 := Lib.hid (P4.out.below hb P4.out.lt); have K5 := Lib.hid (K4.out.trans (hb.mono K4.out.size)); have T5 := Lib.hid (T4.out.below hb T4.out.lt); have H5 := Lib.hid (H4.out.below (hb.mono K4.out.size)); have L5 := Lib.hid hL; have M5 := Lib.hid (Nat.le_refl w5.heap.size); clear hb hL)) | (go_at_call 29; ((with_reducible refine ((cn _ (H5.out.wider K5.out.size)).out).mono ?_); rintro e w6 ⟨rfl, hb⟩; have P6 := Lib.hid (P5.out.below hb P5.out.lt); have K6 := Lib.hid (K5.out.trans (hb.mono K5.out.size)); have T6 := Lib.hid (T5.out.below hb T5.out.lt); have H6 := Lib.hid (H5.out.below (hb.mono K5.out.size)); have L6 := Lib.hid (L5.out.below (hb.mono (by first | exact Nat.le_refl _ | exact M5.out))); have M6 := Lib.hid hb.size; clear hb)) | (go_at_call 28; ((with_reducible refine ((ct _).out).mono ?_); rintro e w7 ⟨rfl, hb⟩; have P7 := Lib.hid (P6.out.below hb P6.out.lt); have K7 := Lib.hid (K6.out.trans (hb.mono K6.out.size)); have T7 := Lib.hid (T6.out.below hb T6.out.lt); have H7 := Lib.hid (H6.out.below (hb.mono K6.out.size)); have L7 := Lib.hid (L6.out.below (hb.mono (by first | exact Nat.le_refl _ | exact M6.out))); have M7 := Lib.hid (Nat.le_trans M6.out hb.size); clear hb)) | ((with_reducible refine im_load_state_g ?_ rfl ?_); (focus first | rfl | kernel_rfl | simp [Region.wanted, yielded]); apply LoadIm.mk rfl; (focus (with_reducible exact T7.out)); dsimp only) | (go_at_call 37; ((with_reducible refine ((cz _ (H7.out.wider K7.out.size)).out).mono ?_); rintro e w8 ⟨rfl, hb⟩; have P8 := Lib.hid (P7.out.below hb P7.out.lt); have K8 := Lib.hid (K7.out.trans (hb.mono K7.out.size)); have T8 := Lib.hid (T7.out.below hb T7.out.lt); have H8 := Lib.hid (H7.out.below (hb.mono K7.out.size)); have L8 := Lib.hid (L7.out.below (hb.mono (by first | exact Nat.le_refl _ | exact M7.out))); have M8 := Lib.hid (Nat.le_trans M7.out hb.size); clear hb)) | ((with_reducible refine im_load_state_g ?_ rfl ?_); (focus first | rfl | kernel_rfl | simp [Region.wanted, yielded]); apply LoadIm.mk rfl; (focus (with_reducible exact P8.out)); dsimp only) | (go_at_call 37; ((with_reducible refine ((co _ (H8.out.wider K8.out.size)).out).mono ?_); rintro e w9 ⟨rfl, hb⟩; have P9 := Lib.hid (P8.out.below hb P8.out.lt); have K9 := Lib.hid (K8.out.trans (hb.mono K8.out.size)); have T9 := Lib.hid (T8.out.below hb T8.out.lt); have H9 := Lib.hid (H8.out.below (hb.mono K8.out.size)); have L9 := Lib.hid (L8.out.below (hb.mono (by first | exact Nat.le_refl _ | exact M8.out))); have M9 := Lib.hid (Nat.le_trans M8.out hb.size); clear hb)) | (go_at_call 35; ((with_reducible refine ((cs A5 c5 _ (L9.out.wider M9.out)).out).mono ?_); rintro e w10 ⟨rfl, hb⟩; have K10 := Lib.hid (K9.out.trans (hb.mono K9.out.size)); clear hb)))
    go_ret
    exact ⟨ret_bool (by simp), K10.out⟩
  · obtain ⟨u, hu⟩ : ∃ u : Gm.Ship, u = ⟨false, 0, 0, 0, 0, 0, 0⟩ := ⟨_, rfl⟩
    have HU := Lib.hid (show (g.ship k).on ≠ u.on by rw [← HT.out, hu]; simp)
    have hut : Gm.tyShip u := by
      rw [hu]
      unfold Gm.tyShip Gm.i32 Gm.i64; dsimp only; omega
    obtain ⟨g2, hg2⟩ : ∃ g2 : Gm.G, g2 = { g with ship := Gm.upd g.ship k u } := ⟨_, rfl⟩
    have HNO := Lib.hid (show ¬ Im.Ok g2 r from fun h => by
      have h1 := h.2.2 k hk8
      rw [hg2, show Gm.G.ship { g with ship := Gm.upd g.ship k u } k = u from Gm.upd_same _ _ _] at h1
      rw [← HT.out] at HU
      exact HU.out (HON.out.trans h1.symm))
    have HTY2 := Lib.hid (show Gm.ty g2 by
      rw [hg2]
      exact ⟨HTY.out.1, HTY.out.2.1, fun i hi => by
        show Gm.tyShip (Gm.upd g.ship k _ i)
        by_cases e : i = k
        · rw [e, Gm.upd_same]; exact hut
        · rw [Gm.upd_other _ _ e]; exact HTY.out.2.2.1 i hi, HTY.out.2.2.2⟩)
    have HS2 := Lib.hid (show g2.shots = g.shots by rw [hg2])
    obtain ⟨V, hV⟩ : ∃ V, V = stored W B k u := ⟨_, rfl⟩
    have T4 := Lib.hid (show Box V B 53 (Im.cells g2 (.slice A n c) r) by
      rw [hV, hg2]
      exact Im.cells_upd g (.slice A n c) r k hk8 u W B T3.out)
    have P4 := Lib.hid (show Box V w.heap.size 53 (Im.cells g (.slice A n c) r) by rw [hV]; exact stored_far P3.out hne.out.1 u)
    have K4w := Lib.hid (show Below w.heap.size W V by rw [hV]; exact stored_below (Below.refl w.heap.size W) hne.out.2 u)
    have K4 := Lib.hid (K3.out.trans K4w.out)
    have H4 := Lib.hid (H3.out.below K4w.out)
    try rw [hu] at hV
    simp only [stored] at hV
    have HV := Lib.hid hV
    have cn := fun X (hX : Lies X X.heap.size 6 A n (Gm.shotCells g.shots)) => Lib.hid (put_no g2 r A n c X HNO.out HTY2.out (by rw [HS2.out]; exact HN.out) hn63 (by rw [HS2.out]; exact hX))
    have cz := fun X (hX : Lies X X.heap.size 6 A n (Gm.shotCells g.shots)) => Lib.hid (of_no g2 r A n c X HNO.out HTY2.out (by rw [HS2.out]; exact HN.out) hn63 (by rw [HS2.out]; exact hX))
    clear hV hu hut hg2 hn63
    go_upto_region 8 with fail
    rw [← HV.out]
    clear tc tf q0 q1 q2 q3 q4 q5 q6 T3 P3 K3 H3
    go_wp2_with (first | ((with_reducible refine im_load_state rfl rfl ?_); apply LoadIm.mk rfl; (focus (with_reducible exact P4.out)); dsimp only) | ((with_reducible refine im_load_state rfl rfl ?_); apply LoadIm.mk rfl; (focus (with_reducible exact T5.out)); dsimp only) | (go_at_call 29; ((with_reducible refine ((cp _ (H4.out.wider K4.out.size)).out).mono ?_); rintro e w5 ⟨A5, c5, rfl, hL, hb⟩; have P5 := Lib.hid (P4.out.below hb P4.out.lt); have K5 := Lib.hid (K4.out.trans (hb.mono K4.out.size)); have T5 := Lib.hid (T4.out.below hb T4.out.lt); have H5 := Lib.hid (H4.out.below (hb.mono K4.out.size)); have L5 := Lib.hid hL; have M5 := Lib.hid (Nat.le_refl w5.heap.size); clear hb hL)) | (go_at_call 29; ((with_reducible refine ((cn _ (H5.out.wider K5.out.size)).out).mono ?_); rintro e w6 ⟨rfl, hb⟩; have P6 := Lib.hid (P5.out.below hb P5.out.lt); have K6 := Lib.hid (K5.out.trans (hb.mono K5.out.size)); have T6 := Lib.hid (T5.out.below hb T5.out.lt); have H6 := Lib.hid (H5.out.below (hb.mono K5.out.size)); have L6 := Lib.hid (L5.out.below (hb.mono (by first | exact Nat.le_refl _ | exact M5.out))); have M6 := Lib.hid hb.size; clear hb)) | (go_at_call 28; ((with_reducible refine ((ct _).out).mono ?_); rintro e w7 ⟨rfl, hb⟩; have P7 := Lib.hid (P6.out.below hb P6.out.lt); have K7 := Lib.hid (K6.out.trans (hb.mono K6.out.size)); have T7 := Lib.hid (T6.out.below hb T6.out.lt); have H7 := Lib.hid (H6.out.below (hb.mono K6.out.size)); have L7 := Lib.hid (L6.out.below (hb.mono (by first | exact Nat.le_refl _ | exact M6.out))); have M7 := Lib.hid (Nat.le_trans M6.out hb.size); clear hb)) | ((with_reducible refine im_load_state_g ?_ rfl ?_); (focus first | rfl | kernel_rfl | simp [Region.wanted, yielded]); apply LoadIm.mk rfl; (focus (with_reducible exact T7.out)); dsimp only) | (go_at_call 37; ((with_reducible refine ((cz _ (H7.out.wider K7.out.size)).out).mono ?_); rintro e w8 ⟨rfl, hb⟩; have P8 := Lib.hid (P7.out.below hb P7.out.lt); have K8 := Lib.hid (K7.out.trans (hb.mono K7.out.size)); have T8 := Lib.hid (T7.out.below hb T7.out.lt); have H8 := Lib.hid (H7.out.below (hb.mono K7.out.size)); have L8 := Lib.hid (L7.out.below (hb.mono (by first | exact Nat.le_refl _ | exact M7.out))); have M8 := Lib.hid (Nat.le_trans M7.out hb.size); clear hb)) | ((with_reducible refine im_load_state_g ?_ rfl ?_); (focus first | rfl | kernel_rfl | simp [Region.wanted, yielded]); apply LoadIm.mk rfl; (focus (with_reducible exact P8.out)); dsimp only) | (go_at_call 37; ((with_reducible refine ((co _ (H8.out.wider K8.out.size)).out).mono ?_); rintro e w9 ⟨rfl, hb⟩; have P9 := Lib.hid (P8.out.below hb P8.out.lt); have K9 := Lib.hid (K8.out.trans (hb.mono K8.out.size)); have T9 := Lib.hid (T8.out.below hb T8.out.lt); have H9 := Lib.hid (H8.out.below (hb.mono K8.out.size)); have L9 := Lib.hid (L8.out.below (hb.mono (by first | exact Nat.le_refl _ | exact M8.out))); have M9 := Lib.hid (Nat.le_trans M8.out hb.size); clear hb)) | (go_at_call 35; ((with_reducible refine ((cs A5 c5 _ (L9.out.wider M9.out)).out).mono ?_); rintro e w10 ⟨rfl, hb⟩; have K10 := Lib.hid (K9.out.trans (hb.mono K9.out.size)); clear hb)))
    go_ret
    exact ⟨ret_bool (by simp), K10.out⟩
end Go.Proofs.Ytbihnmingedgfaa

/-
What a literal's fitting its kind says of the number; a field of an integer kind read as data.
-/



namespace Bd
open Go
theorem i8 {a : Int} (h : (Lit.int .i8 a).wf = true) : -128 ≤ a ∧ a ≤ 127 := by
  simpa [Lit.wf, IntKind.min, IntKind.max, IntKind.signed, IntKind.bits] using h
theorem i16 {a : Int} (h : (Lit.int .i16 a).wf = true) : -32768 ≤ a ∧ a ≤ 32767 := by
  simpa [Lit.wf, IntKind.min, IntKind.max, IntKind.signed, IntKind.bits] using h
theorem i32 {a : Int} (h : (Lit.int .i32 a).wf = true) : -2147483648 ≤ a ∧ a ≤ 2147483647 := by
  simpa [Lit.wf, IntKind.min, IntKind.max, IntKind.signed, IntKind.bits] using h
theorem i64 {a : Int} (h : (Lit.int .i64 a).wf = true) : -9223372036854775808 ≤ a ∧ a ≤ 9223372036854775807 := by
  simpa [Lit.wf, IntKind.min, IntKind.max, IntKind.signed, IntKind.bits] using h
theorem u8 {a : Int} (h : (Lit.int .u8 a).wf = true) : 0 ≤ a ∧ a ≤ 255 := by
  simpa [Lit.wf, IntKind.min, IntKind.max, IntKind.signed, IntKind.bits] using h
theorem u16 {a : Int} (h : (Lit.int .u16 a).wf = true) : 0 ≤ a ∧ a ≤ 65535 := by
  simpa [Lit.wf, IntKind.min, IntKind.max, IntKind.signed, IntKind.bits] using h
theorem u32 {a : Int} (h : (Lit.int .u32 a).wf = true) : 0 ≤ a ∧ a ≤ 4294967295 := by
  simpa [Lit.wf, IntKind.min, IntKind.max, IntKind.signed, IntKind.bits] using h
theorem u64 {a : Int} (h : (Lit.int .u64 a).wf = true) : 0 ≤ a ∧ a ≤ 18446744073709551615 := by
  simpa [Lit.wf, IntKind.min, IntKind.max, IntKind.signed, IntKind.bits] using h
theorem f64 {b : Nat} (h : (Lit.float .f64 b).wf = true) : b < 2 ^ 64 := by
  simpa [Lit.wf] using h
theorem fld {H : Type} {enc : TypeId × Value → H} {P : Program} {w : World} {base : Nat} {spare : Nat → Bool} {held : Bool} {t : TypeId} {k : IntKind} {n : Int} (ht : P.underlying t = some (.int k)) (hw : (Lit.int k n).wf = true) :
    ∃ m, DataW.trod enc P w base spare held m t [.int k n] = some (.lit (.int k n), []) := ⟨1, by simp [DataW.trod, ht, hw]⟩
end Bd

/-
What came in, opened: a list of whatever lies in so many cells each.
-/








namespace Go.Proofs.Ytbihnmingedgfaa
open Go.ChangeShapes Go.WideShapes Go.ChangeAt Go.RowKit Go.Joins Go.ChangeMaps Go.Deep
set_option linter.unusedVariables false

theorem cells?_cell' {w : World} {base : Nat} {a : Addr} {n : Nat} {cs : List Value} (h : w.cells? base a n = some cs) : cs.length = n ∧ ∀ j, j < n → w.cell? (a.add j) = cs[j]? := by
  unfold World.cells? at h
  split at h
  · have hl := mapM_some_length h
    refine ⟨by simpa using hl, fun j hj => ?_⟩
    have := mapM_some_get h j j (by simp [hj])
    rw [this]
  · cases h
theorem cells_one_of' {v x : Value} (h : ∀ cs, v ≠ .agg cs) (hv : v.cells.toList = [x]) : v = x := by
  cases v <;> first | exact absurd rfl (h _) | simpa [Value.cells] using hv
section
variable {α : Type} {cells : α → List Value} {c : Nat}
theorem flat_len (hc : ∀ a, (cells a).length = c) (l : List α) : (l.flatMap cells).length = l.length * c := by
  induction l with
  | nil => simp
  | cons s l ih => rw [List.flatMap_cons, List.length_append, ih, List.length_cons, hc, Nat.succ_mul]; omega
theorem flat_at (hc : ∀ a, (cells a).length = c) (l : List α) (k j : Nat) (hk : k < l.length) (hj : j < c) : (l.flatMap cells)[k * c + j]? = (cells l[k])[j]? := by
  induction l generalizing k with
  | nil => simp at hk
  | cons s l ih =>
    rw [List.flatMap_cons]
    match k with
    | 0 => rw [List.getElem?_append_left (by rw [hc]; omega)]; simp
    | k + 1 =>
      rw [List.getElem?_append_right (by rw [hc, Nat.succ_mul]; omega)]
      have := ih k (by simpa using hk)
      rw [show (k + 1) * c + j - (cells s).length = k * c + j from by rw [hc, Nat.succ_mul]; omega, this]
      simp
end
section
variable {H : Type} {enc : TypeId × Value → H} {w : World} {base : Nat} {spare : Nat → Bool} {held : Bool}
set_option maxRecDepth 100000 in
theorem open_slice_c {α : Type} {t e : TypeId} (cells : α → List Value) (c : Nat) (ty : α → Prop) (z : α) (hu : Try.prog.underlying t = some (.slice e)) (hce : Try.prog.cellsOf e = c) (hc0 : 0 < c) (hlen : ∀ a, (cells a).length = c)
    (hel : ∀ {base : Nat} {spare : Nat → Bool} {held : Bool} {fuel : Nat} {l : List Value} {y : DataW H × List MemPlace}, l.length = c → DataW.trod enc Try.prog w base spare held fuel e l = some y → ∃ q : α, l = cells q ∧ ty q)
    {v : Value} {d : DataW H} {p : List MemPlace} (hag : ∀ cs, v ≠ .agg cs) (h : DataW.Trod enc Try.prog w base spare held t v d p) : ∃ (A : Option Addr) (cc : Nat) (l : List α), v = .slice A l.length cc ∧ (∀ x ∈ l, ty x) ∧ l.length ≤ maxLen ∧ Lies w w.heap.size c A l.length (l.flatMap cells) ∧ l.length ≤ cc := by
  obtain ⟨fuel, hf⟩ := h
  rcases DataW.trod_slice hu hf with ⟨hv, _⟩ | ⟨a, len, cap, elems, rest, n, rfl, hv, _, _, hlc, hcm, hlen', hel', _, _⟩
  · have ev : v = .slice none 0 0 := cells_one_of' hag hv
    exact ⟨none, 0, [], ev, fun x hx => (by cases hx), Nat.zero_le _, Lies.empty, Nat.le_refl _⟩
  · have ev : v = .slice (some a) len cap := cells_one_of' hag hv
    simp only [hce] at hel'
    have key : ∀ i, i < len → ∃ q : α, w.cells? base (a.add (i * c)) c = some (cells q) ∧ ty q := by
      intro i hi
      obtain ⟨y, hy⟩ : ∃ y, elems[i]? = some y := ⟨elems[i]'(by omega), List.getElem?_eq_getElem (by omega)⟩
      have h := hel' i hi
      rw [hy, Option.bind_eq_some_iff] at h
      obtain ⟨cs, hcs, ht⟩ := h
      have hl := (cells?_cell' hcs).1
      obtain ⟨q, h1, h2⟩ := hel hl ht
      exact ⟨q, by rw [hcs, h1], h2⟩
    have hch : ∃ ps : Nat → α, ∀ i, i < len → (w.cells? base (a.add (i * c)) c = some (cells (ps i)) ∧ ty (ps i)) :=
      ⟨fun i => if h : i < len then (key i h).choose else z, fun i hi => by dsimp only; rw [dif_pos hi]; exact (key i hi).choose_spec⟩
    obtain ⟨ps, hps⟩ := hch
    have ll : ((List.range len).map ps).length = len := by simp
    have lf : (((List.range len).map ps).flatMap cells).length = len * c := by rw [flat_len hlen, ll]
    refine ⟨some a, cap, (List.range len).map ps, by rw [ll]; exact ev, fun x hx => ?_, by rw [ll]; omega, ⟨?_, fun h0 => ?_, fun ad e h0 j u hu => ?_⟩, by rw [ll]; exact hlc⟩
    · obtain ⟨i, hi, rfl⟩ := List.mem_map.1 hx
      exact (hps i (by simpa using hi)).2
    · rw [lf, ll]
    · rw [ll] at h0
      exact ⟨a, rfl, by have := World.cells?_block (hps 0 (by omega)).1 hc0; simpa [Addr.add] using this⟩
    · injection e with e
      subst e
      have hjl : j < len * c := by have := (List.getElem?_eq_some_iff.1 hu).1; rwa [lf] at this
      have hjc : j / c < len := (Nat.div_lt_iff_lt_mul hc0).2 hjl
      have hjm : j % c < c := Nat.mod_lt _ hc0
      have hjj : j / c * c + j % c = j := by rw [Nat.mul_comm]; exact Nat.div_add_mod j c
      have hq := (cells?_cell' (hps (j / c) hjc).1).2 (j % c) hjm
      rw [add_twice, hjj] at hq
      rw [hq, ← hu]
      have := flat_at hlen ((List.range len).map ps) (j / c) (j % c) (by rw [ll]; exact hjc) hjm
      rw [hjj] at this
      rw [this]
      simp
/-- A list of whole numbers. -/
theorem open_slice {α : Type} {t e : TypeId} (cells : α → List Value) (c : Nat) (ty : α → Prop) (z : α) (hu : Try.prog.underlying t = some (.slice e)) (hce : Try.prog.cellsOf e = c) (hc0 : 0 < c) (hlen : ∀ a, (cells a).length = c)
    (hel : ∀ {base : Nat} {spare : Nat → Bool} {held : Bool} {fuel : Nat} {l : List Value} {y : DataW H × List MemPlace}, l.length = c → DataW.trod enc Try.prog w base spare held fuel e l = some y → ∃ q : α, l = cells q ∧ ty q)
    {v : Value} {d : DataW H} {p : List MemPlace} (hag : ∀ cs, v ≠ .agg cs) (h : DataW.Trod enc Try.prog w base spare held t v d p) : ∃ (A : Option Addr) (cc : Nat) (l : List α), v = .slice A l.length cc ∧ (∀ x ∈ l, ty x) ∧ l.length ≤ maxLen ∧ Lies w w.heap.size c A l.length (l.flatMap cells) := by
  obtain ⟨A, cc, l, h1, h2, h3, h4, _⟩ := open_slice_c cells c ty z hu hce hc0 hlen hel hag h
  exact ⟨A, cc, l, h1, h2, h3, h4⟩

theorem open_list {t e : TypeId} {k : IntKind} (hu : Try.prog.underlying t = some (.slice e)) (he : Try.prog.underlying e = some (.int k)) (hce : Try.prog.cellsOf e = 1) {v : Value} {d : DataW H} {p : List MemPlace} (hag : ∀ cs, v ≠ .agg cs) (h : DataW.Trod enc Try.prog w base spare held t v d p) :
    ∃ (A : Option Addr) (cc : Nat) (l : List Int), v = .slice A l.length cc ∧ (∀ x ∈ l, (Lit.int k x).wf = true) ∧ l.length ≤ maxLen ∧ Lies w w.heap.size 1 A l.length (l.flatMap fun x => [.int k x]) :=
  open_slice (fun x : Int => [Value.int k x]) 1 (fun x => (Lit.int k x).wf = true) 0 hu hce (by decide) (fun _ => rfl) (fun hl ht => by
    obtain ⟨x, e, _, w⟩ := DataW.trod_int he ht
    exact ⟨x, e, w⟩) hag h
end
end Go.Proofs.Ytbihnmingedgfaa

/-
A roster that came in: opened.
-/



namespace Go.Proofs.Ytbihnmingedgfaa
open Go.ChangeShapes Go.WideShapes Go.ChangeAt Go.RowKit Go.Joins Go.ChangeMaps Go.Deep
set_option linter.unusedVariables false

def Ros.ty (r : Ros.R) : Prop := (-9223372036854775808 ≤ r.version ∧ r.version ≤ 9223372036854775807) ∧ ∀ k, k < 8 → (-9223372036854775808 ≤ r.peer k ∧ r.peer k ≤ 9223372036854775807) ∧ (-9223372036854775808 ≤ r.gen k ∧ r.gen k ≤ 9223372036854775807)
theorem cut16 {α : Type} (l : List α) (h : l.length = 16) : l = (l.drop (0 * 2)).take 2 ++ ((l.drop (1 * 2)).take 2 ++ ((l.drop (2 * 2)).take 2 ++ ((l.drop (3 * 2)).take 2 ++ ((l.drop (4 * 2)).take 2 ++ ((l.drop (5 * 2)).take 2 ++ ((l.drop (6 * 2)).take 2 ++ ((l.drop (7 * 2)).take 2))))))) := by
  match l, h with
  | [a0, a1, a2, a3, a4, a5, a6, a7, a8, a9, a10, a11, a12, a13, a14, a15], _ => rfl
section
variable {H : Type} {enc : TypeId × Value → H} {w : World} {base : Nat} {spare : Nat → Bool} {held : Bool}
theorem trod_seat {fuel : Nat} {a b : Value} {y : DataW H × List MemPlace} (h : DataW.trod enc Try.prog w base spare held fuel 48 [a, b] = some y) : ∃ p g : Int, [a, b] = [.int .i64 p, .int .i64 g] ∧ ((-9223372036854775808 ≤ p ∧ p ≤ 9223372036854775807) ∧ (-9223372036854775808 ≤ g ∧ g ≤ 9223372036854775807)) ∧ y.2 = [] := by
  obtain ⟨y0, y1, n, hx, _, h0, h1⟩ := trod_struct2 Try.underlying48 h
  obtain ⟨x0, e0, rfl, w0⟩ := DataW.trod_int Try.underlying3 h0
  obtain ⟨x1, e1, rfl, w1⟩ := DataW.trod_int Try.underlying3 h1
  have c8 : Try.prog.cellsOf 3 = 1 := by kernel_rfl
  simp [c8] at e0 e1
  subst e0 e1
  exact ⟨x0, x1, rfl, ⟨Bd.i64 w0, Bd.i64 w1⟩, by rw [hx]; rfl⟩
set_option maxRecDepth 100000 in
theorem trod_seats {fuel : Nat} {l : List Value} {y : DataW H × List MemPlace} (hl : l.length = 16) (h : DataW.trod enc Try.prog w base spare held fuel 49 l = some y) :
    ∃ f g : Nat → Int, (∀ v, l = Ros.seatCells ⟨v, f, g⟩) ∧ (∀ k, k < 8 → (-9223372036854775808 ≤ f k ∧ f k ≤ 9223372036854775807) ∧ (-9223372036854775808 ≤ g k ∧ g k ≤ 9223372036854775807)) ∧ y.2 = [] := by
  obtain ⟨xs, m, rfl, hx, _, hn, he⟩ := DataW.trod_array Try.underlying49 h
  have c2 : Try.prog.cellsOf 48 = 2 := by kernel_rfl
  simp only [c2] at he
  have key : ∀ i, i < 8 → ∃ q : Int × Int, (l.drop (i * 2)).take 2 = [.int .i64 q.1, .int .i64 q.2] ∧ ((-9223372036854775808 ≤ q.1 ∧ q.1 ≤ 9223372036854775807) ∧ (-9223372036854775808 ≤ q.2 ∧ q.2 ≤ 9223372036854775807)) ∧ ∀ y, xs[i]? = some y → y.2 = [] := by
    intro i hi
    have hlen : ((l.drop (i * 2)).take 2).length = 2 := by simp; omega
    obtain ⟨y, hy⟩ : ∃ y, xs[i]? = some y := ⟨xs[i]'(by omega), List.getElem?_eq_getElem (by omega)⟩
    have h : DataW.trod enc Try.prog w base spare held m 48 ((l.drop (i * 2)).take 2) = xs[i]? := he i hi
    rw [hy] at h
    match hq : (l.drop (i * 2)).take 2, hlen with
    | [a, b], _ =>
      rw [hq] at h
      obtain ⟨p, g, h1, h2, h3⟩ := trod_seat h
      exact ⟨(p, g), h1, h2, fun z hz => by rw [hy] at hz; cases hz; exact h3⟩
  have hch : ∃ ps : Nat → Int × Int, ∀ i, i < 8 → ((l.drop (i * 2)).take 2 = [.int .i64 (ps i).1, .int .i64 (ps i).2] ∧ ((-9223372036854775808 ≤ (ps i).1 ∧ (ps i).1 ≤ 9223372036854775807) ∧ (-9223372036854775808 ≤ (ps i).2 ∧ (ps i).2 ≤ 9223372036854775807)) ∧ ∀ y, xs[i]? = some y → y.2 = []) :=
    ⟨fun i => if h : i < 8 then (key i h).choose else (0, 0), fun i hi => by dsimp only; rw [dif_pos hi]; exact (key i hi).choose_spec⟩
  obtain ⟨ps, hps⟩ := hch
  refine ⟨fun k => (ps k).1, fun k => (ps k).2, fun v => ?_, fun i hi => (hps i hi).2.1, ?_⟩
  · rw [cut16 l hl]
    unfold Ros.seatCells Ros.pair
    rw [(hps 0 (by decide)).1, (hps 1 (by decide)).1, (hps 2 (by decide)).1, (hps 3 (by decide)).1, (hps 4 (by decide)).1, (hps 5 (by decide)).1, (hps 6 (by decide)).1, (hps 7 (by decide)).1]
  · rw [hx]
    apply List.flatMap_eq_nil_iff.2
    intro y hy
    obtain ⟨i, hi, rfl⟩ := List.getElem_of_mem hy
    exact (hps i (by omega)).2.2 _ (List.getElem?_eq_getElem hi)
set_option maxRecDepth 100000 in
theorem trod_ros {fuel : Nat} {l : List Value} {y : DataW H × List MemPlace} (hl : l.length = 17) (h : DataW.trod enc Try.prog w base spare held fuel 51 l = some y) : ∃ r : Ros.R, l.toArray = Ros.cells r ∧ Ros.ty r ∧ y.2 = [] := by
  obtain ⟨y0, y1, n, hx, _, h0, h1⟩ := trod_struct2 Try.underlying51 h
  obtain ⟨x0, e0, rfl, w0⟩ := DataW.trod_int Try.underlying3 h0
  have c8 : Try.prog.cellsOf 3 = 1 := by kernel_rfl
  have c16 : Try.prog.cellsOf 49 = 16 := by kernel_rfl
  simp only [c16] at h1
  obtain ⟨f, g, h2, h3, h4⟩ := trod_seats (by simp; omega) h1
  simp only [c8] at e0
  refine ⟨⟨x0, f, g⟩, ?_, ⟨Bd.i64 w0, h3⟩, by rw [hx, h4]; rfl⟩
  match l, hl with
  | a :: t, hl =>
    have ht : t = Ros.seatCells ⟨x0, f, g⟩ := by
      rw [← h2 x0]
      have : t.length = 16 := by simpa using hl
      simp [List.take_of_length_le, this]
    simp at e0
    subst e0
    rw [ht]; rfl
set_option maxRecDepth 100000 in
theorem open_ros {b0 : Nat} {v : Value} {d : DataW H} {p : List MemPlace} (hv : Value.okWide Try.prog w .any b0 51 v) (h : DataW.Trod enc Try.prog w base spare held 51 v d p) : ∃ r : Ros.R, v = .agg (Ros.cells r) ∧ Ros.ty r ∧ p = [] := by
  obtain ⟨cs, rfl, hsz, _⟩ : ∃ cs, v = .agg cs ∧ cs.size = Try.prog.cellsOf 51 ∧ Row.okWide Try.prog w .any b0 51 cs := by
    simpa [Value.okWide, Try.underlying51] using hv
  rw [show Try.prog.cellsOf 51 = 17 from by kernel_rfl] at hsz
  obtain ⟨l⟩ := cs
  obtain ⟨fuel, hf⟩ := h
  have hf' : DataW.trod enc Try.prog w base spare held fuel 51 l = some (d, p) := hf
  obtain ⟨r, h1, h2, h3⟩ := trod_ros (by simpa using hsz) hf'
  exact ⟨r, by rw [← h1], h2, h3⟩
end
end Go.Proofs.Ytbihnmingedgfaa

/-
A State that came in: opened.
-/



namespace Go.Proofs.Ytbihnmingedgfaa
open Go.ChangeShapes Go.WideShapes Go.ChangeAt Go.RowKit Go.Joins Go.ChangeMaps Go.Deep
set_option linter.unusedVariables false

theorem cut_at {α : Type} (l : List α) (a b : Nat) : l.drop a = (l.drop a).take b ++ l.drop (a + b) := by
  have := (List.take_append_drop b (l.drop a)).symm
  rwa [List.drop_drop] at this
theorem cut_end {α : Type} (l : List α) (a b : Nat) (h : l.length = a + b) : l.drop a = (l.drop a).take b := by
  rw [List.take_of_length_le (by simp; omega)]
section
variable {H : Type} {enc : TypeId × Value → H} {w : World} {base : Nat} {spare : Nat → Bool} {held : Bool}
set_option maxRecDepth 100000 in
theorem trod_ship {fuel : Nat} {l : List Value} {y : DataW H × List MemPlace} (hl : l.length = 7) (h : DataW.trod enc Try.prog w base spare held fuel 26 l = some y) : ∃ s : Gm.Ship, l = s.cells ∧ Gm.tyShip s := by
  obtain ⟨xs, n, _, _, _, hlen, hf⟩ := DataW.trod_struct Try.underlying26 h
  have cb : Try.prog.cellsOf 4 = 1 := by kernel_rfl
  have c32 : Try.prog.cellsOf 21 = 1 := by kernel_rfl
  have ci : Try.prog.cellsOf 3 = 1 := by kernel_rfl
  match l, hl, xs, hlen with
  | [a0, a1, a2, a3, a4, a5, a6], _, [y0, y1, y2, y3, y4, y5, y6], _ =>
    obtain ⟨x0, e0, _⟩ := DataW.trod_bool Try.underlying4 (hf 0 _ rfl)
    obtain ⟨x1, e1, _, w1⟩ := DataW.trod_int Try.underlying21 (hf 1 _ rfl)
    obtain ⟨x2, e2, _, w2⟩ := DataW.trod_int Try.underlying21 (hf 2 _ rfl)
    obtain ⟨x3, e3, _, w3⟩ := DataW.trod_int Try.underlying21 (hf 3 _ rfl)
    obtain ⟨x4, e4, _, w4⟩ := DataW.trod_int Try.underlying21 (hf 4 _ rfl)
    obtain ⟨x5, e5, _, w5⟩ := DataW.trod_int Try.underlying3 (hf 5 _ rfl)
    obtain ⟨x6, e6, _, w6⟩ := DataW.trod_int Try.underlying3 (hf 6 _ rfl)
    simp [cb, c32, ci] at e0 e1 e2 e3 e4 e5 e6
    subst e0 e1 e2 e3 e4 e5 e6
    exact ⟨⟨x0, x1, x2, x3, x4, x5, x6⟩, rfl, Bd.i32 w1, Bd.i32 w2, Bd.i32 w3, Bd.i32 w4, Bd.i64 w5, Bd.i64 w6⟩
set_option maxRecDepth 100000 in
theorem trod_shot {base : Nat} {spare : Nat → Bool} {held : Bool} {fuel : Nat} {l : List Value} {y : DataW H × List MemPlace} (hl : l.length = 6) (h : DataW.trod enc Try.prog w base spare held fuel 108 l = some y) : ∃ s : Gm.Shot, l = s.cells ∧ Gm.tyShot s := by
  obtain ⟨xs, n, _, _, _, hlen, hf⟩ := DataW.trod_struct Try.underlying108 h
  have c32 : Try.prog.cellsOf 21 = 1 := by kernel_rfl
  have ci : Try.prog.cellsOf 3 = 1 := by kernel_rfl
  match l, hl, xs, hlen with
  | [a0, a1, a2, a3, a4, a5], _, [y0, y1, y2, y3, y4, y5], _ =>
    obtain ⟨x0, e0, _, w0⟩ := DataW.trod_int Try.underlying3 (hf 0 _ rfl)
    obtain ⟨x1, e1, _, w1⟩ := DataW.trod_int Try.underlying21 (hf 1 _ rfl)
    obtain ⟨x2, e2, _, w2⟩ := DataW.trod_int Try.underlying21 (hf 2 _ rfl)
    obtain ⟨x3, e3, _, w3⟩ := DataW.trod_int Try.underlying21 (hf 3 _ rfl)
    obtain ⟨x4, e4, _, w4⟩ := DataW.trod_int Try.underlying21 (hf 4 _ rfl)
    obtain ⟨x5, e5, _, w5⟩ := DataW.trod_int Try.underlying3 (hf 5 _ rfl)
    simp [c32, ci] at e0 e1 e2 e3 e4 e5
    subst e0 e1 e2 e3 e4 e5
    exact ⟨⟨x0, x1, x2, x3, x4, x5⟩, rfl, Bd.i64 w0, Bd.i32 w1, Bd.i32 w2, Bd.i32 w3, Bd.i32 w4, Bd.i64 w5⟩
set_option maxRecDepth 100000 in
theorem trod_ships {fuel : Nat} {l : List Value} {y : DataW H × List MemPlace} (hl : l.length = 56) (h : DataW.trod enc Try.prog w base spare held fuel 27 l = some y) :
    ∃ f : Nat → Gm.Ship, l = Gm.shipCells f ∧ ∀ k, k < 8 → Gm.tyShip (f k) := by
  obtain ⟨xs, m, _, _, _, hn, he⟩ := DataW.trod_array Try.underlying27 h
  have c7 : Try.prog.cellsOf 26 = 7 := by kernel_rfl
  simp only [c7] at he
  have key : ∀ i, i < 8 → ∃ s : Gm.Ship, (l.drop (i * 7)).take 7 = s.cells ∧ Gm.tyShip s := by
    intro i hi
    have hlen : ((l.drop (i * 7)).take 7).length = 7 := by simp; omega
    obtain ⟨y, hy⟩ : ∃ y, xs[i]? = some y := ⟨xs[i]'(by omega), List.getElem?_eq_getElem (by omega)⟩
    have h := he i hi
    rw [hy] at h
    exact trod_ship hlen h
  have hch : ∃ ps : Nat → Gm.Ship, ∀ i, i < 8 → ((l.drop (i * 7)).take 7 = (ps i).cells ∧ Gm.tyShip (ps i)) :=
    ⟨fun i => if h : i < 8 then (key i h).choose else Gm.Ship.none, fun i hi => by dsimp only; rw [dif_pos hi]; exact (key i hi).choose_spec⟩
  obtain ⟨ps, hps⟩ := hch
  refine ⟨ps, ?_, fun i hi => (hps i hi).2⟩
  have q7 : l.drop (7 * 7) = (ps 7).cells := (cut_end l (7 * 7) 7 (by omega)).trans (hps 7 (by omega)).1
  have q6 : l.drop (6 * 7) = (ps 6).cells ++ (ps 7).cells := by rw [← q7, ← (hps 6 (by omega)).1]; exact cut_at l (6 * 7) 7
  have q5 : l.drop (5 * 7) = (ps 5).cells ++ ((ps 6).cells ++ (ps 7).cells) := by rw [← q6, ← (hps 5 (by omega)).1]; exact cut_at l (5 * 7) 7
  have q4 : l.drop (4 * 7) = (ps 4).cells ++ ((ps 5).cells ++ ((ps 6).cells ++ (ps 7).cells)) := by rw [← q5, ← (hps 4 (by omega)).1]; exact cut_at l (4 * 7) 7
  have q3 : l.drop (3 * 7) = (ps 3).cells ++ ((ps 4).cells ++ ((ps 5).cells ++ ((ps 6).cells ++ (ps 7).cells))) := by rw [← q4, ← (hps 3 (by omega)).1]; exact cut_at l (3 * 7) 7
  have q2 : l.drop (2 * 7) = (ps 2).cells ++ ((ps 3).cells ++ ((ps 4).cells ++ ((ps 5).cells ++ ((ps 6).cells ++ (ps 7).cells)))) := by rw [← q3, ← (hps 2 (by omega)).1]; exact cut_at l (2 * 7) 7
  have q1 : l.drop (1 * 7) = (ps 1).cells ++ ((ps 2).cells ++ ((ps 3).cells ++ ((ps 4).cells ++ ((ps 5).cells ++ ((ps 6).cells ++ (ps 7).cells))))) := by rw [← q2, ← (hps 1 (by omega)).1]; exact cut_at l (1 * 7) 7
  have q0 : l.drop (0 * 7) = (ps 0).cells ++ ((ps 1).cells ++ ((ps 2).cells ++ ((ps 3).cells ++ ((ps 4).cells ++ ((ps 5).cells ++ ((ps 6).cells ++ (ps 7).cells)))))) := by rw [← q1, ← (hps 0 (by omega)).1]; exact cut_at l (0 * 7) 7
  exact q0
set_option maxRecDepth 100000 in
theorem trod_game {fuel : Nat} {l : List Value} {y : DataW H × List MemPlace} (hl : l.length = 59) (h : DataW.trod enc Try.prog w base spare held fuel 30 l = some y) :
    ∃ (g : Gm.G) (A : Option Addr) (c : Nat), l.toArray = Gm.cells g (.slice A g.shots.length c) ∧ Gm.ty g ∧ g.shots.length ≤ maxLen ∧ Lies w w.heap.size 6 A g.shots.length (Gm.shotCells g.shots) := by
  obtain ⟨y0, y1, y2, y3, n, _, _, h0, h1, h2, h3⟩ := trod_struct4 Try.underlying30 h
  have ci : Try.prog.cellsOf 3 = 1 := by kernel_rfl
  have cu : Try.prog.cellsOf 24 = 1 := by kernel_rfl
  have cs8 : Try.prog.cellsOf 27 = 56 := by kernel_rfl
  have csl : Try.prog.cellsOf 28 = 1 := by kernel_rfl
  have c6 : Try.prog.cellsOf 108 = 6 := by kernel_rfl
  obtain ⟨x0, e0, _, w0⟩ := DataW.trod_int Try.underlying3 h0
  obtain ⟨x1, e1, _, w1⟩ := DataW.trod_int Try.underlying24 h1
  simp only [cs8] at h2
  obtain ⟨f, e2, hty⟩ := trod_ships (by simp; omega) h2
  simp only [csl] at h3
  have hlen3 : ((l.drop 58).take 1).length = 1 := by simp; omega
  obtain ⟨u, hu⟩ : ∃ u, (l.drop 58).take 1 = [u] := by
    match hq : (l.drop 58).take 1, hlen3 with
    | [u], _ => exact ⟨u, rfl⟩
  have h3' : DataW.trod enc Try.prog w base spare held n 28 [u] = some y3 := by rw [← hu]; exact h3
  have hsl : ∃ a m k, u = .slice a m k := by
    rcases DataW.trod_slice Try.underlying28 h3' with ⟨hv, _⟩ | ⟨a, len, cap, elems, rest, k, _, hv, _⟩
    · injection hv with hv; exact ⟨_, _, _, hv⟩
    · injection hv with hv; exact ⟨_, _, _, hv⟩
  obtain ⟨a, m, k, rfl⟩ := hsl
  obtain ⟨A, c, shots, ev, ht, hm, hL⟩ := open_slice (enc := enc) (w := w) (base := base) (spare := spare) (held := held) Gm.Shot.cells 6 Gm.tyShot ⟨0, 0, 0, 0, 0, 0⟩ Try.underlying28 c6 (by decide) (fun _ => rfl) (fun hl ht => trod_shot hl ht) (v := .slice a m k) (d := y3.1) (p := y3.2) (fun cs e => by cases e) ⟨n, h3'⟩
  refine ⟨⟨x0, x1, f, shots⟩, A, c, ?_, ⟨Bd.i64 w0, by have := Bd.u64 w1; omega, hty, fun i hi => ht _ (List.getElem_mem hi)⟩, hm, hL⟩
  have e0' : (l.drop 0).take 1 = [Value.int .i64 x0] := by rw [← e0, ci]
  have e1' : (l.drop 1).take 1 = [Value.int .u64 x1] := by rw [← e1, cu]
  have e2' : (l.drop 2).take 56 = Gm.shipCells f := e2
  have q3 : l.drop 58 = [Value.slice A shots.length c] := by rw [← ev, ← hu]; exact cut_end l 58 1 (by omega)
  have q2 : l.drop 2 = Gm.shipCells f ++ [Value.slice A shots.length c] := by rw [← q3, ← e2']; exact cut_at l 2 56
  have q1 : l.drop 1 = [Value.int .u64 x1] ++ (Gm.shipCells f ++ [Value.slice A shots.length c]) := by rw [← q2, ← e1']; exact cut_at l 1 1
  have q0 : l.drop 0 = [Value.int .i64 x0] ++ ([Value.int .u64 x1] ++ (Gm.shipCells f ++ [Value.slice A shots.length c])) := by rw [← q1, ← e0']; exact cut_at l 0 1
  have ql : l = [Value.int .i64 x0] ++ ([Value.int .u64 x1] ++ (Gm.shipCells f ++ [Value.slice A shots.length c])) := q0
  rw [ql]
  rfl
set_option maxRecDepth 100000 in
theorem open_state {b0 : Nat} {v : Value} {d : DataW H} {p : List MemPlace} (hv : Value.okWide Try.prog w .any b0 53 v) (h : DataW.Trod enc Try.prog w base spare held 53 v d p) :
    ∃ (A : Option Addr) (c : Nat) (g : Gm.G) (r : Ros.R), v = .agg (Im.cells g (.slice A g.shots.length c) r) ∧ Gm.ty g ∧ g.shots.length ≤ maxLen ∧ Lies w w.heap.size 6 A g.shots.length (Gm.shotCells g.shots) := by
  obtain ⟨cs, rfl, hsz, _⟩ : ∃ cs, v = .agg cs ∧ cs.size = Try.prog.cellsOf 53 ∧ Row.okWide Try.prog w .any b0 53 cs := by
    simpa [Value.okWide, Try.underlying53] using hv
  rw [show Try.prog.cellsOf 53 = 76 from by kernel_rfl] at hsz
  obtain ⟨l⟩ := cs
  have hl : l.length = 76 := by simpa using hsz
  obtain ⟨fuel, hf⟩ := h
  have hf' : DataW.trod enc Try.prog w base spare held fuel 53 l = some (d, p) := hf
  obtain ⟨y0, y1, n, _, _, h0, h1⟩ := trod_struct2 Try.underlying53 hf'
  have cg : Try.prog.cellsOf 30 = 59 := by kernel_rfl
  have cr : Try.prog.cellsOf 51 = 17 := by kernel_rfl
  simp only [cg] at h0
  simp only [cr] at h1
  obtain ⟨g, A, c, e0, hg, hm, hL⟩ := trod_game (by simp; omega) h0
  obtain ⟨r, e1, _, _⟩ := trod_ros (by simp; omega) h1
  refine ⟨A, c, g, r, ?_, hg, hm, hL⟩
  have q1 : l.drop 59 = (l.drop 59).take 17 := cut_end l 59 17 (by omega)
  have q0 : l.drop 0 = (l.drop 0).take 59 ++ l.drop 59 := cut_at l 0 59
  have e0' : ((l.drop 0).take 59).toArray = Gm.cells g (.slice A g.shots.length c) := e0
  have e1' : ((l.drop 59).take 17).toArray = Ros.cells r := e1
  have ql : l.toArray = Im.cells g (.slice A g.shots.length c) r := by
    unfold Im.cells
    rw [← e0', ← e1', ← q1]
    have := congrArg List.toArray q0
    simp at this ⊢
  exact congrArg Value.agg ql
end
end Go.Proofs.Ytbihnmingedgfaa
