/-
That told of layer 6 is true.
-/
import Derived.Test.YtbihnmingedgfaaHp
import Derived.Test.YtbihnmingedgfaaHx
import Derived.Test.YtbihnmingedgfaaHv
namespace Go.Proofs.Ytbihnmingedgfaa
open Go.RowKit Go.Shelf
set_option linter.unusedVariables false

def noIn : Nat → Gm.In := fun _ => ⟨0, 0, 0⟩
theorem noIn_ty : ∀ i, i < 8 → Gm.tyIn (noIn i) := fun _ _ => (show Gm.tyIn ⟨0, 0, 0⟩ from by unfold Gm.tyIn; dsimp only; omega)
theorem built_in0 : Try.prog.built 38 [] = some (Gm.insCells noIn).toArray := by kernel_rfl
theorem built_neg : Try.prog.built 30 [(0, .int .i64 (-1))] = some (Gm.cells { zeroG with frame := -1 } (.slice none 0 0)) := by kernel_rfl
theorem okShip_none : Gm.okShip Gm.Ship.none := ⟨.inr rfl, by unfold Gm.inF Gm.Ship.none; decide, by unfold Gm.inF Gm.Ship.none; decide, by unfold Gm.slow Gm.Ship.none; decide, by unfold Gm.slow Gm.Ship.none; decide, by decide, by decide, by decide, by decide⟩
theorem ok_new (d : Int) : Gm.ok (Gm.new d) := ⟨by show (0 : Int) ≤ 0; decide, by show (0 : Int) ≤ 1048576; decide, by show 0 ≤ 32; decide, fun _ _ => okShip_none, fun i h => by simp [Gm.new] at h⟩
theorem ok_spawn {g : Gm.G} (h : Gm.ok g) (i : Nat) : Gm.ok (Gm.spawn g i) := by
  refine ⟨h.1, h.2.1, h.2.2.1, fun j hj => ?_, h.2.2.2.2⟩
  show Gm.okShip (Gm.upd _ _ _ _)
  unfold Gm.upd
  split
  · have hp := Gm.place_bd g.dice
    exact ⟨.inl rfl, hp.1, hp.2.1, by unfold Gm.slow; dsimp only; omega, by unfold Gm.slow; dsimp only; omega, by dsimp only; omega, by dsimp only; omega, by dsimp only; omega, by dsimp only; omega⟩
  · exact h.2.2.2.1 j hj
theorem wpList_build_g {P : Program} {ops : Array Oper} {rest : List Oper} {o : Oper} {a : Act} {w : World} {Q : Exit → Act → World → Prop} (hw : Region.wanted o (yielded ops a.tmps) = true) {t : TypeId} {l : List (Nat × Operand)} (ho : o.op = .build t l.toArray) {vs : List (Nat × Value)} (hv : (l.map fun (i, x) => (i, a.eval x)) = vs) {cs : Array Value} (hb : P.built t vs = some cs)
    (h : wpList P ops Q rest (a.put o.dst (.agg cs)) w) : wpList P ops Q (o :: rest) a w := by
  have e : ((l.toArray.map fun (i, x) => (i, a.eval x)).toList) = vs := by rw [← hv]; simp
  exact wpList_step fun K hK => by
    rw [if_pos hw]
    exact wp_build t l.toArray ho (by rw [e, hb]; rfl) (by rw [e, hb]; exact hK _ _ h)
theorem wpList_load_blk_g {P : Program} {ops : Array Oper} {rest : List Oper} {o : Oper} {a : Act} {w : World} {Q : Exit → Act → World → Prop} (hw : Region.wanted o (yielded ops a.tmps) = true) {ty : TypeId} {x : Operand} (ho : o.op = .load ty x) {g : Nat} (hx : a.eval x = .pointer (some ⟨g, 0, none⟩)) {t : TypeId} {cs : Array Value} (hg : Box w g t cs)
    {d : TypeDesc} (hu : P.underlying ty = some d) (hd : d.isRow = true) (hi : (P.info? ty).map (·.size) = some cs.size) (h : wpList P ops Q rest (a.put o.dst (.agg cs)) w) : wpList P ops Q (o :: rest) a w := by
  obtain ⟨l⟩ := cs
  exact wpList_load_part_g hw ho (f := 0) hx hg l (fun j v hv => by rw [Nat.zero_add]; simpa using hv) hu hd (by simpa using hi) h
theorem load_gate_g {ops : Array Oper} {rest : List Oper} {o : Oper} {a : Act} {w : World} {Q : Exit → Act → World → Prop} {x : Operand} (hw : Region.wanted o (yielded ops a.tmps) = true) (ho : o.op = .load 30 x) (h : LoadGame ops Q rest o.dst (a.eval x) a w) : wpList Try.prog ops Q (o :: rest) a w := by
  obtain ⟨B, g, s, hx, hB, h⟩ := h
  exact wpList_load_blk_g hw ho hx hB Try.underlying30 rfl game_info h
theorem lies_zero (w : World) (A : Option Addr) (g : Gm.G) (h : g.shots = []) : Lies w w.heap.size 6 A g.shots.length (Gm.shotCells g.shots) := by rw [h]; exact Lies.empty

set_option maxRecDepth 100000 in
set_option maxHeartbeats 8000000 in
theorem told6_any (w : World) :
    Calls Try.prog 14 #[] w fun e w' => e = .returned (.bool true) ∧ Below w.heap.size w w' := by
  have hd : 0 ≤ Dn.seed [97] ∧ Dn.seed [97] ≤ 18446744073709551615 := Dn.seed_bd _
  have cn := fun X => Lib.hid (new_any ⟨#[97]⟩ X (by decide))
  generalize Dn.seed [97] = d at hd cn
  have okg := ok_new d
  have hs0 : (Gm.new d).shots = [] := rfl
  have hfr : (Gm.new d).frame = 0 := rfl
  have hon0 : ((Gm.new d).ship 3).on = false := rfl
  have hdd : (Gm.new d).dice = d := rfl
  rw [← hdd] at hd
  clear hdd
  generalize Gm.new d = g0 at *
  have cst := fun X => Lib.hid (step_yes noIn g0 none 0 0 X okg (by rw [hfr]; decide) hd noIn_ty (by rw [hs0]; rfl) (by rw [hs0]; exact Lies.empty))
  have h2f : (Gm.step noIn g0).frame = 1 := by show g0.frame + 1 = 1; rw [hfr]; rfl
  generalize Gm.step noIn g0 = G2 at cst h2f
  have csp := fun X => Lib.hid (spawn_yes g0 none 0 0 3 X okg hd (by rw [hs0]; rfl) (by rw [hs0]; exact Lies.empty) (by decide) hon0)
  have ok1 := ok_spawn okg 3
  have hs1 : (Gm.spawn g0 3).shots = [] := hs0
  have hon1 : ((Gm.spawn g0 3).ship 3).on = true := by unfold Gm.spawn; dsimp only; rw [Gm.upd_same]
  generalize Gm.spawn g0 3 = G1 at *
  have csn := fun A c X => Lib.hid (spawn_no G1 A G1.shots.length c 3 X ok1 rfl (lies_zero X A G1 hs1) (by decide) hon1)
  have crm := fun A c X => Lib.hid (remove_yes G1 A G1.shots.length c 3 X ok1 rfl (lies_zero X A G1 hs1) (by decide) hon1 hs1)
  have hon5 : (({ G1 with ship := Gm.upd G1.ship 3 Gm.Ship.none } : Gm.G).ship 3).on = false := by dsimp only; rw [Gm.upd_same]; rfl
  generalize ({ G1 with ship := Gm.upd G1.ship 3 Gm.Ship.none } : Gm.G) = G5 at crm hon5
  have crn := fun X => Lib.hid (remove_no g0 none 0 0 3 X okg (by rw [hs0]; rfl) (by rw [hs0]; exact Lies.empty) (by decide) hon0)
  have cmy := fun X => Lib.hid (may_yes g0 none 0 0 X okg (by rw [hs0]; rfl) (by rw [hs0]; exact Lies.empty))
  have cs1 := fun X => Lib.hid (same_yes g0 g0 none none 0 0 0 0 X (by rw [hs0]; rfl) (by rw [hs0]; rfl) (by rw [hs0]; exact Lies.empty) (by rw [hs0]; exact Lies.empty) (by decide) (Gm.Eq.refl g0))
  have cs2 := fun A c X => Lib.hid (same_no g0 G2 (.slice none 0 0) (.slice A G2.shots.length c) X (by rw [hfr, h2f]; decide))
  have cmn := fun X => Lib.hid (may_no { zeroG with frame := -1 } (.slice none 0 0) X (by decide))
  have c3 : ((3 : Nat) : Int) = 3 := rfl
  simp only [c3] at csp csn crm crn
  have z2 : ∀ s, (Gm.cells G2 s)[0]? = some (.int .i64 1) := fun s => by rw [← h2f]; exact Gm.cells_0 G2 s
  have z1 : ∀ s, (Gm.cells G1 s)[23]? = some (.bool true) := fun s => by rw [← hon1]; exact Gm.cells_ship G1 s 3 0 (by decide) (by decide)
  have z5 : ∀ s, (Gm.cells G5 s)[23]? = some (.bool false) := fun s => by rw [← hon5]; exact Gm.cells_ship G5 s 3 0 (by decide) (by decide)
  clear c3 okg hs0 hfr hon0 hd h2f ok1 hs1 hon1 hon5
  go_enter Try.func14, Try.ntmps14
  go_wp2_with (first | ((with_reducible refine load_gate rfl rfl ?_); apply LoadGame.mk rfl; (with_reducible exact P1.out)) | ((with_reducible refine load_gate rfl rfl ?_); apply LoadGame.mk rfl; (with_reducible exact P2.out)) | ((with_reducible refine load_gate rfl rfl ?_); apply LoadGame.mk rfl; (with_reducible exact Q2.out)) | ((with_reducible refine load_gate rfl rfl ?_); apply LoadGame.mk rfl; (with_reducible exact P3.out)) | ((with_reducible refine load_gate rfl rfl ?_); apply LoadGame.mk rfl; (with_reducible exact Q3.out)) | ((with_reducible refine load_gate rfl rfl ?_); apply LoadGame.mk rfl; (with_reducible exact R3.out)) | ((with_reducible refine load_gate rfl rfl ?_); apply LoadGame.mk rfl; (with_reducible exact P4.out)) | ((with_reducible refine load_gate rfl rfl ?_); apply LoadGame.mk rfl; (with_reducible exact Q4.out)) | ((with_reducible refine load_gate rfl rfl ?_); apply LoadGame.mk rfl; (with_reducible exact R4.out)) | ((with_reducible refine load_gate rfl rfl ?_); apply LoadGame.mk rfl; (with_reducible exact X4.out)) | ((with_reducible refine load_gate rfl rfl ?_); apply LoadGame.mk rfl; (with_reducible exact P5.out)) | ((with_reducible refine load_gate rfl rfl ?_); apply LoadGame.mk rfl; (with_reducible exact Q5.out)) | ((with_reducible refine load_gate rfl rfl ?_); apply LoadGame.mk rfl; (with_reducible exact R5.out)) | ((with_reducible refine load_gate rfl rfl ?_); apply LoadGame.mk rfl; (with_reducible exact Y5.out)) | ((with_reducible refine load_gate rfl rfl ?_); apply LoadGame.mk rfl; (with_reducible exact P6.out)) | ((with_reducible refine load_gate rfl rfl ?_); apply LoadGame.mk rfl; (with_reducible exact Q6.out)) | ((with_reducible refine load_gate rfl rfl ?_); apply LoadGame.mk rfl; (with_reducible exact P7.out)) | ((with_reducible refine load_gate rfl rfl ?_); apply LoadGame.mk rfl; (with_reducible exact Q7.out)) | ((with_reducible refine load_gate rfl rfl ?_); apply LoadGame.mk rfl; (with_reducible exact P8.out)) | ((with_reducible refine load_gate rfl rfl ?_); apply LoadGame.mk rfl; (with_reducible exact Q8.out)) | ((with_reducible refine load_gate rfl rfl ?_); apply LoadGame.mk rfl; (with_reducible exact P9.out)) | ((with_reducible refine load_gate rfl rfl ?_); apply LoadGame.mk rfl; (with_reducible exact Q9.out)) | ((with_reducible refine load_gate rfl rfl ?_); apply LoadGame.mk rfl; (with_reducible exact P10.out)) | ((with_reducible refine load_gate rfl rfl ?_); apply LoadGame.mk rfl; (with_reducible exact Q10.out)) | (refine wpList_alloc_game rfl rfl ?_) | (refine wpList_store_game_new rfl rfl rfl rfl rfl rfl ?_) | (refine wpList_build_is rfl (t := 38) (vs := []) rfl rfl built_in0 ?_) | (go_at_call 15; ((with_reducible refine ((cn _).out).mono ?_); rintro e w1 ⟨rfl, hb1⟩; have HB1 := Lib.hid (hb1.alloc hb1.size (.cells (Gm.cells g0 (.slice none 0 0)) 30)); have P1 := Lib.hid (Box.made w1 30 (Gm.cells g0 (.slice none 0 0))); clear hb1)) | (go_at_call 19; ((with_reducible refine ((cst _).out).mono ?_); rintro e w2 ⟨A2, c2, rfl, _, hb2⟩; have HB2 := Lib.hid ((HB1.out.trans (hb2.mono HB1.out.size)).alloc (Nat.le_trans HB1.out.size hb2.size) (.cells (Gm.cells G2 (.slice A2 G2.shots.length c2)) 30)); have P2 := Lib.hid ((P1.out.below hb2 P1.out.lt).alloc (.cells (Gm.cells G2 (.slice A2 G2.shots.length c2)) 30)); have Q2 := Lib.hid (Box.made w2 30 (Gm.cells G2 (.slice A2 G2.shots.length c2))); clear hb2)) | (go_at_call 17; ((with_reducible refine ((csp _).out).mono ?_); rintro e w3 ⟨A3, c3, rfl, _, hb3⟩; have HB3 := Lib.hid ((HB2.out.trans (hb3.mono HB2.out.size)).alloc (Nat.le_trans HB2.out.size hb3.size) (.cells (Gm.cells G1 (.slice A3 G1.shots.length c3)) 30)); have P3 := Lib.hid ((P2.out.below hb3 P2.out.lt).alloc (.cells (Gm.cells G1 (.slice A3 G1.shots.length c3)) 30)); have Q3 := Lib.hid ((Q2.out.below hb3 Q2.out.lt).alloc (.cells (Gm.cells G1 (.slice A3 G1.shots.length c3)) 30)); have R3 := Lib.hid (Box.made w3 30 (Gm.cells G1 (.slice A3 G1.shots.length c3))); clear hb3)) | (go_at_call 17; ((with_reducible refine ((csn A3 c3 _).out).mono ?_); rintro e w4 ⟨A4, c4, rfl, _, hb4⟩; have HB4 := Lib.hid ((HB3.out.trans (hb4.mono HB3.out.size)).alloc (Nat.le_trans HB3.out.size hb4.size) (.cells (Gm.cells G1 (.slice A4 G1.shots.length c4)) 30)); have P4 := Lib.hid ((P3.out.below hb4 P3.out.lt).alloc (.cells (Gm.cells G1 (.slice A4 G1.shots.length c4)) 30)); have Q4 := Lib.hid ((Q3.out.below hb4 Q3.out.lt).alloc (.cells (Gm.cells G1 (.slice A4 G1.shots.length c4)) 30)); have R4 := Lib.hid ((R3.out.below hb4 R3.out.lt).alloc (.cells (Gm.cells G1 (.slice A4 G1.shots.length c4)) 30)); have X4 := Lib.hid (Box.made w4 30 (Gm.cells G1 (.slice A4 G1.shots.length c4))); clear hb4)) | (go_at_call 50; ((with_reducible refine ((crm A3 c3 _).out).mono ?_); rintro e w5 ⟨A5, c5, rfl, _, hb5⟩; have HB5 := Lib.hid ((HB4.out.trans (hb5.mono HB4.out.size)).alloc (Nat.le_trans HB4.out.size hb5.size) (.cells (Gm.cells G5 (.slice A5 G5.shots.length c5)) 30)); have P5 := Lib.hid ((P4.out.below hb5 P4.out.lt).alloc (.cells (Gm.cells G5 (.slice A5 G5.shots.length c5)) 30)); have Q5 := Lib.hid ((Q4.out.below hb5 Q4.out.lt).alloc (.cells (Gm.cells G5 (.slice A5 G5.shots.length c5)) 30)); have R5 := Lib.hid ((R4.out.below hb5 R4.out.lt).alloc (.cells (Gm.cells G5 (.slice A5 G5.shots.length c5)) 30)); have Y5 := Lib.hid (Box.made w5 30 (Gm.cells G5 (.slice A5 G5.shots.length c5))); clear hb5)) | (go_at_call 50; ((with_reducible refine ((crn _).out).mono ?_); rintro e w6 ⟨A6, c6, rfl, _, hb6⟩; have HB6 := Lib.hid ((HB5.out.trans (hb6.mono HB5.out.size)).alloc (Nat.le_trans HB5.out.size hb6.size) (.cells (Gm.cells g0 (.slice A6 g0.shots.length c6)) 30)); have P6 := Lib.hid ((P5.out.below hb6 P5.out.lt).alloc (.cells (Gm.cells g0 (.slice A6 g0.shots.length c6)) 30)); have Q6 := Lib.hid ((Q5.out.below hb6 Q5.out.lt).alloc (.cells (Gm.cells g0 (.slice A6 g0.shots.length c6)) 30)); have R6 := Lib.hid ((R5.out.below hb6 R5.out.lt).alloc (.cells (Gm.cells g0 (.slice A6 g0.shots.length c6)) 30)); have Y6 := Lib.hid ((Y5.out.below hb6 Y5.out.lt).alloc (.cells (Gm.cells g0 (.slice A6 g0.shots.length c6)) 30)); have Qc := Q6.out.cell; have Rc := R6.out.cell; have Yc := Y6.out.cell; clear hb6)) | (go_at_call 51; ((with_reducible refine ((cmy _).out).mono ?_); rintro e w7 ⟨rfl, hb7⟩; have HB7 := Lib.hid (HB6.out.trans (hb7.mono HB6.out.size)); have P7 := Lib.hid (P6.out.below hb7 P6.out.lt); have Q7 := Lib.hid (Q6.out.below hb7 Q6.out.lt); clear hb7)) | (go_at_call 23; ((with_reducible refine ((cs1 _).out).mono ?_); rintro e w8 ⟨rfl, hb8⟩; have HB8 := Lib.hid (HB7.out.trans (hb8.mono HB7.out.size)); have P8 := Lib.hid (P7.out.below hb8 P7.out.lt); have Q8 := Lib.hid (Q7.out.below hb8 Q7.out.lt); clear hb8)) | (go_at_call 23; ((with_reducible refine ((cs2 A2 c2 _).out).mono ?_); rintro e w9 ⟨rfl, hb9⟩; have HB9 := Lib.hid (HB8.out.trans (hb9.mono HB8.out.size)); have P9 := Lib.hid (P8.out.below hb9 P8.out.lt); have Q9 := Lib.hid (Q8.out.below hb9 Q8.out.lt); clear hb9)) | (go_at_call 51; ((with_reducible refine ((cmn _).out).mono ?_); rintro e w10 ⟨rfl, hb10⟩; have HB10 := Lib.hid (HB9.out.trans (hb10.mono HB9.out.size)); have P10 := Lib.hid (P9.out.below hb10 P9.out.lt); have Q10 := Lib.hid (Q9.out.below hb10 Q9.out.lt); clear hb10)) | ((with_reducible refine load_gate_g ?_ rfl ?_); (focus first | rfl | kernel_rfl | simp [Region.wanted, yielded]); apply LoadGame.mk rfl; (with_reducible exact P6.out)) | ((with_reducible refine load_gate_g ?_ rfl ?_); (focus first | rfl | kernel_rfl | simp [Region.wanted, yielded]); apply LoadGame.mk rfl; (with_reducible exact Q6.out)) | ((with_reducible refine load_gate_g ?_ rfl ?_); (focus first | rfl | kernel_rfl | simp [Region.wanted, yielded]); apply LoadGame.mk rfl; (with_reducible exact P7.out)) | ((with_reducible refine load_gate_g ?_ rfl ?_); (focus first | rfl | kernel_rfl | simp [Region.wanted, yielded]); apply LoadGame.mk rfl; (with_reducible exact P8.out)) | ((with_reducible refine load_gate_g ?_ rfl ?_); (focus first | rfl | kernel_rfl | simp [Region.wanted, yielded]); apply LoadGame.mk rfl; (with_reducible exact Q8.out)) | ((with_reducible refine load_gate_g ?_ rfl ?_); (focus first | rfl | kernel_rfl | simp [Region.wanted, yielded]); apply LoadGame.mk rfl; (with_reducible exact Q7.out)) | ((with_reducible refine load_gate_g ?_ rfl ?_); (focus first | rfl | kernel_rfl | simp [Region.wanted, yielded]); apply LoadGame.mk rfl; (with_reducible exact P9.out)) | ((with_reducible refine load_gate_g ?_ rfl ?_); (focus first | rfl | kernel_rfl | simp [Region.wanted, yielded]); apply LoadGame.mk rfl; (with_reducible exact Q9.out)) | (refine wpList_build_g (by first | rfl | kernel_rfl | simp [Region.wanted, yielded]) (t := 30) (vs := [(0, .int .i64 (-1))]) rfl rfl built_neg ?_))
  go_ret
  exact ⟨rfl, HB10.out⟩
end Go.Proofs.Ytbihnmingedgfaa
