/-
GameHit's walk.
-/
import Derived.Test.YtldgajlonhgloaaHy
import Derived.Test.YtldgajlonhgloaaHz
import Derived.Test.YtldgajlonhgloaaEq

namespace Go.Proofs.Ytldgajlonhgloaa
open Go.RowKit Go.Shelf
set_option linter.unusedVariables false

theorem g_mod (n m : Int) (hm : 0 < m) : 0 ≤ (IntKind.u64.wrap n).tmod m ∧ (IntKind.u64.wrap n).tmod m < m := by
  have h : 0 ≤ IntKind.u64.wrap n := by simp only [IntKind.wrap_u64]; omega
  rw [Int.tmod_eq_emod_of_nonneg h]
  exact ⟨Int.emod_nonneg _ (by omega), Int.emod_lt_of_pos _ hm⟩
theorem g_slot (n : Int) : ∃ i : Nat, i < 8 ∧ (IntKind.u64.wrap n).tmod 8 = (i : Int) := by
  have h := g_mod n 8 (by decide)
  exact ⟨((IntKind.u64.wrap n).tmod 8).toNat, by omega, by omega⟩

set_option maxHeartbeats 1000000 in
theorem ship_eq' (s t : Gm.Ship) (w : World) : (Op.equalIn 10000 26 (.agg s.cells.toArray) (.agg t.cells.toArray)).run Try.prog w = .ok (s.eqB t) w := by
  obtain ⟨a1, a2, a3, a4, a5, a6, a7⟩ := s
  obtain ⟨b1, b2, b3, b4, b5, b6, b7⟩ := t
  have h := ifs7 w (a1 == b1) (a2 == b2) (a3 == b3) (a4 == b4) (a5 == b5) (a6 == b6) (a7 == b7)
  simp only [beq_iff_eq] at h
  simp only [Gm.Ship.cells]
  go_simp
  rfl
theorem ship_self (x y : Int) (w : World) : (binOp .eql 26 (.agg #[.bool true, .int .i32 x, .int .i32 y, .int .i32 0, .int .i32 0, .int .i64 0, .int .i64 7]) (.agg #[.bool true, .int .i32 x, .int .i32 y, .int .i32 0, .int .i32 0, .int .i64 0, .int .i64 7])).run Try.prog w = .ok (.bool true) w := by
  have h := ship_eq' ⟨true, x, y, 0, 0, 0, 7⟩ ⟨true, x, y, 0, 0, 0, 7⟩ w
  have e : (⟨true, x, y, 0, 0, 0, 7⟩ : Gm.Ship).eqB ⟨true, x, y, 0, 0, 0, 7⟩ = true := by simp [Gm.Ship.eqB]
  rw [e] at h
  simp only [Gm.Ship.cells] at h
  simp only [binOp]
  simp [Op.equal, Op.maxDepth, h]

set_option maxRecDepth 100000 in
set_option maxHeartbeats 8000000 in
theorem hit_same (a0 a1 a2 a3 a4 : Int) (i : Nat) (hi : i < 8) (hI : (IntKind.u64.wrap a2).tmod 8 = (i : Int)) (hK : (IntKind.u64.wrap a3).tmod 8 = (i : Int)) (w : World) :
    Calls Try.prog 7 #[.int .i32 a0, .int .i32 a1, .int .i64 a2, .int .i64 a3, .int .i64 a4] w fun e w' => e = .returned (.bool true) ∧ Kept w w' := by
  have hi8 : (i : Int) < 8 := by omega
  have hwi : IntKind.i64.wrap (i : Int) = (i : Int) := by rw [IntKind.wrap_i64]; omega
  have ct := fun X => Lib.hid (told6_any X)
  go_enter Try.func7, Try.ntmps7
  go_wp2_with (first | (go_at_call 10; ((with_reducible refine ((ct _).out).mono ?_); rintro e w1 ⟨rfl, hb⟩)))
  go_ret
  exact ⟨rfl, hb⟩

set_option maxRecDepth 100000 in
set_option maxHeartbeats 8000000 in
theorem hit_two (a0 a1 a2 a3 a4 n px py mx : Int) (i k : Nat) (wa0 : -2147483648 ≤ a0 ∧ a0 ≤ 2147483647) (wa1 : -2147483648 ≤ a1 ∧ a1 ≤ 2147483647) (hNi : i < 8) (hNk : k < 8) (hI : (IntKind.u64.wrap a2).tmod 8 = (i : Int)) (hK : (IntKind.u64.wrap a3).tmod 8 = (k : Int)) (hne : i ≠ k) (hn : (IntKind.u64.wrap a4).tmod 1073741825 = n) (n0 : 0 ≤ n) (n1 : n ≤ 1073741824)
    (hpx : Gf.wrap a0 = px) (hpy : Gf.wrap a1 = py) (hmx : Gf.move px 8388608 = mx) (w : World) :
    Calls Try.prog 7 #[.int .i32 a0, .int .i32 a1, .int .i64 a2, .int .i64 a3, .int .i64 a4] w fun e w' => e = .returned (.bool true) ∧ Kept w w' := by
  have bx := hpx ▸ Gf.wrap_bd a0
  have bY := hpy ▸ Gf.wrap_bd a1
  have cw0 := fun X => Lib.hid (fldwrap_any a0 wa0 X)
  have cw1 := fun X => Lib.hid (fldwrap_any a1 wa1 X)
  have cmv := fun X => Lib.hid (fldmove_any px 8388608 (by omega) (by decide) X)
  simp only [hpx, hpy] at cw0 cw1
  simp only [hmx] at cmv
  have hd : 0 ≤ Dn.seed [104] ∧ Dn.seed [104] ≤ 18446744073709551615 := Dn.seed_bd _
  have cn := fun X => Lib.hid (new_any ⟨#[104]⟩ X (by decide))
  generalize hdd : Dn.seed [104] = d at hd cn
  obtain ⟨g0, hg0⟩ : ∃ g, g = Gm.new d := ⟨_, rfl⟩
  simp only [← hg0] at cn
  have hi8 : (i : Int) < 8 := by omega
  have hk8 : (k : Int) < 8 := by omega
  have hwi : IntKind.i64.wrap (i : Int) = (i : Int) := by rw [IntKind.wrap_i64]; omega
  have hwk : IntKind.i64.wrap (k : Int) = (k : Int) := by rw [IntKind.wrap_i64]; omega
  have hwn : IntKind.i64.wrap n = n := by rw [IntKind.wrap_i64]; omega
  have hnei : ((i : Int) == (k : Int)) = false := by simp; omega
  have ct := fun X => Lib.hid (told6_any X)
  have HB0 := Lib.hid (Kept.refl w)
  have hne' := Lib.hid hne
  have hG0 := Lib.hid hg0
  have hMx := Lib.hid hmx
  have hD := Lib.hid hd
  obtain ⟨t, ht⟩ : ∃ t, t = g0.ship i := ⟨_, rfl⟩
  have t0 : ∀ s, (Gm.cells g0 s)[2 + i * 7]? = some (.bool t.on) := fun s => (Gm.cells_ship g0 s i 0 hNi (by omega)).trans (by rw [ht]; rfl)
  have t1 : ∀ s, (Gm.cells g0 s)[2 + i * 7 + 1]? = some (.int .i32 t.x) := fun s => (Gm.cells_ship g0 s i 1 hNi (by omega)).trans (by rw [ht]; rfl)
  have t2 : ∀ s, (Gm.cells g0 s)[2 + i * 7 + 2]? = some (.int .i32 t.y) := fun s => (Gm.cells_ship g0 s i 2 hNi (by omega)).trans (by rw [ht]; rfl)
  have t3 : ∀ s, (Gm.cells g0 s)[2 + i * 7 + 3]? = some (.int .i32 t.vx) := fun s => (Gm.cells_ship g0 s i 3 hNi (by omega)).trans (by rw [ht]; rfl)
  have t4 : ∀ s, (Gm.cells g0 s)[2 + i * 7 + 4]? = some (.int .i32 t.vy) := fun s => (Gm.cells_ship g0 s i 4 hNi (by omega)).trans (by rw [ht]; rfl)
  have t5 : ∀ s, (Gm.cells g0 s)[2 + i * 7 + 5]? = some (.int .i64 t.cool) := fun s => (Gm.cells_ship g0 s i 5 hNi (by omega)).trans (by rw [ht]; rfl)
  have t6 : ∀ s, (Gm.cells g0 s)[2 + i * 7 + 6]? = some (.int .i64 t.score) := fun s => (Gm.cells_ship g0 s i 6 hNi (by omega)).trans (by rw [ht]; rfl)
  clear ht
  clear hne hg0 hdd hpx hpy hmx hd wa0 wa1
  go_enter Try.func7, Try.ntmps7
  go_upto_region 7 with (first | ((with_reducible refine wpList_alloc_game rfl rfl ?_)) | ((with_reducible refine wpList_store_game_new rfl rfl rfl rfl rfl rfl ?_)) | (go_at_call 26; ((with_reducible refine ((cw0 _).out).mono ?_); rintro e w' ⟨rfl, hb⟩; have HB1 := Lib.hid (HB0.out.on hb); clear hb HB0)) | (go_at_call 26; ((with_reducible refine ((cw1 _).out).mono ?_); rintro e w' ⟨rfl, hb⟩; have HB2 := Lib.hid (HB1.out.on hb); clear hb HB1)) | (go_at_call 11; ((with_reducible refine ((cn _).out).mono ?_); rintro e w1 ⟨rfl, hb⟩; have HB3 := Lib.hid ((HB2.out.on hb).alloc (HB2.out.on hb).size (.cells (Gm.cells g0 (.slice none 0 0)) 30)); have P1 := Lib.hid (Box.made w1 30 (Gm.cells g0 (.slice none 0 0))); have sz1 := (HB2.out.on hb).size; clear hb HB2)))
  go_upto_region 8 with (first | (go_at_call 24; ((with_reducible refine ((cmv _).out).mono ?_); rintro e w2 ⟨rfl, hb⟩; have HB4 := Lib.hid (HB3.out.trans (hb.mono HB3.out.size)); have P2 := Lib.hid (P1.out.below hb P1.out.lt); have P2c := P2.out.cell; have P2f := P2.out.free; clear hb HB3 P1)))
  obtain ⟨W, hW⟩ : ∃ W, W = stored w2 w1.heap.size i ⟨true, mx, py, 0, 0, 0, n⟩ := ⟨_, rfl⟩
  obtain ⟨g1, hg1⟩ : ∃ g, g = ({ g0 with ship := Gm.upd g0.ship i ⟨true, mx, py, 0, 0, 0, n⟩ } : Gm.G) := ⟨_, rfl⟩
  have X1 : Box W w1.heap.size 30 (Gm.cells g1 (.slice none 0 0)) := by rw [hW, hg1]; exact blk_ship P2.out hNi _
  have Y1 : Below w.heap.size w W := by rw [hW]; exact stored_below HB4.out sz1 _
  simp only [stored] at hW
  rw [← hW]
  have hG1 := Lib.hid hg1
  clear hW hg1 P2c P2f P2 HB4
  have X1c := X1.cell
  have X1f := X1.free
  have HX1 := Lib.hid X1
  have HY1 := Lib.hid Y1
  obtain ⟨u, hu⟩ : ∃ t, t = g1.ship k := ⟨_, rfl⟩
  have u0 : ∀ s, (Gm.cells g1 s)[2 + k * 7]? = some (.bool u.on) := fun s => (Gm.cells_ship g1 s k 0 hNk (by omega)).trans (by rw [hu]; rfl)
  have u1 : ∀ s, (Gm.cells g1 s)[2 + k * 7 + 1]? = some (.int .i32 u.x) := fun s => (Gm.cells_ship g1 s k 1 hNk (by omega)).trans (by rw [hu]; rfl)
  have u2 : ∀ s, (Gm.cells g1 s)[2 + k * 7 + 2]? = some (.int .i32 u.y) := fun s => (Gm.cells_ship g1 s k 2 hNk (by omega)).trans (by rw [hu]; rfl)
  have u3 : ∀ s, (Gm.cells g1 s)[2 + k * 7 + 3]? = some (.int .i32 u.vx) := fun s => (Gm.cells_ship g1 s k 3 hNk (by omega)).trans (by rw [hu]; rfl)
  have u4 : ∀ s, (Gm.cells g1 s)[2 + k * 7 + 4]? = some (.int .i32 u.vy) := fun s => (Gm.cells_ship g1 s k 4 hNk (by omega)).trans (by rw [hu]; rfl)
  have u5 : ∀ s, (Gm.cells g1 s)[2 + k * 7 + 5]? = some (.int .i64 u.cool) := fun s => (Gm.cells_ship g1 s k 5 hNk (by omega)).trans (by rw [hu]; rfl)
  have u6 : ∀ s, (Gm.cells g1 s)[2 + k * 7 + 6]? = some (.int .i64 u.score) := fun s => (Gm.cells_ship g1 s k 6 hNk (by omega)).trans (by rw [hu]; rfl)
  clear hu
  clear X1 Y1 t0 t1 t2 t3 t4 t5 t6
  go_upto_region 9 with (first | fail)
  obtain ⟨V, hV⟩ : ∃ V, V = stored W w1.heap.size k ⟨true, px, py, 5, 0, 4, 7⟩ := ⟨_, rfl⟩
  obtain ⟨g2, hg2⟩ : ∃ g, g = ({ g1 with ship := Gm.upd g1.ship k ⟨true, px, py, 5, 0, 4, 7⟩ } : Gm.G) := ⟨_, rfl⟩
  have X2 : Box V w1.heap.size 30 (Gm.cells g2 (.slice none 0 0)) := by rw [hV, hg2]; exact blk_ship HX1.out hNk _
  have Y2 : Below w.heap.size w V := by rw [hV]; exact stored_below HY1.out sz1 _
  simp only [stored] at hV
  rw [← hV]
  have hG2 := Lib.hid hg2
  clear hV hg2 X1c X1f HX1 HY1
  have X2c := X2.cell
  have X2f := X2.free
  have X2l := X2.lt
  have HX2 := Lib.hid X2
  have HY2 := Lib.hid Y2
  have z58 : ∀ s, (Gm.cells g2 s)[58]? = some s := fun s => rfl
  clear X2 Y2 u0 u1 u2 u3 u4 u5 u6
  go_upto_region 10 with (first | fail)
  obtain ⟨U, hU⟩ : ∃ U, U = ((V.setCell ⟨w1.heap.size, 58, none⟩ (.slice (some ⟨V.heap.size, 0, none⟩) 1 1)).alloc (.cells #[.int .i64 i, .int .i32 px, .int .i32 py, .int .i32 65536, .int .i32 0, .int .i64 9] 56)) := ⟨_, rfl⟩
  obtain ⟨g3, hg3⟩ : ∃ g, g = ({ g2 with shots := [⟨i, px, py, 65536, 0, 9⟩] } : Gm.G) := ⟨_, rfl⟩
  have sV : (V.setCell ⟨w1.heap.size, 58, none⟩ (.slice (some ⟨V.heap.size, 0, none⟩) 1 1)).heap.size = V.heap.size := by simp
  have X3 : Box U w1.heap.size 30 (Gm.cells g3 (.slice (some ⟨V.heap.size, 0, none⟩) 1 1)) := by rw [hU, hg3]; exact (blk_shots HX2.out _).alloc _
  have Y3 : Below w.heap.size w U := by rw [hU]; exact (HY2.out.setCell sz1 _).alloc (HY2.out.setCell sz1 _).size _
  have hlen : g3.shots.length = 1 := by rw [hg3]; rfl
  have L3 : Lies U U.heap.size 6 (some ⟨V.heap.size, 0, none⟩) 1 (Gm.shotCells g3.shots) := by
    have B : Box U V.heap.size 56 #[.int .i64 i, .int .i32 px, .int .i32 py, .int .i32 65536, .int .i32 0, .int .i64 9] := by rw [hU]; exact Box.made_at _ _ _ sV.symm
    refine ⟨by rw [hg3]; rfl, fun _ => ⟨_, rfl, B.lt⟩, fun ad had _ j u hu => ?_⟩
    injection had with had
    subst had
    have e : (⟨V.heap.size, 0, none⟩ : Addr).add j = ⟨V.heap.size, j, none⟩ := by unfold Addr.add; split <;> simp_all
    rw [e, B.cell]
    rw [hg3] at hu
    rw [List.getElem?_toArray]
    exact hu
  rw [← hU]
  have hgg : g3 = hitGame d px py n i k := by
    rw [hg3, hG2.out, hG1.out, hG0.out]; unfold hitGame; rw [hMx.out]; rfl
  have okg : Gm.ok g3 := by rw [hgg]; exact hitGame_ok bx bY ⟨n0, n1⟩ hNi hNk
  have hst := hitGame_step (d := d) (px := px) (py := py) (n := n) (i := i) (k := k) bx bY hNi hNk hne'.out
  rw [← hgg] at hst
  have hfr : g3.frame = 0 := by rw [hgg]; rfl
  have hdc : g3.dice = d := by rw [hgg]; rfl
  obtain ⟨G, hG⟩ : ∃ G, G = Gm.step noIn g3 := ⟨_, rfl⟩
  have cst : Calls Try.prog 15 #[.agg (Gm.cells g3 (.slice (some ⟨V.heap.size, 0, none⟩) 1 1)), .agg (Gm.insCells noIn).toArray] U fun e w' => ∃ A c, e = .returned (.tuple #[.agg (Gm.cells G (.slice A 0 c)), .int .i64 0]) ∧ Below U.heap.size U w' := by
    refine (step_yes noIn g3 _ 1 1 U okg (by rw [hfr]; decide) (by rw [hdc]; exact hD.out) noIn_ty hlen.symm L3).mono ?_
    rintro e w' ⟨A, c, he, _, hb⟩
    refine ⟨A, c, ?_, hb⟩
    rw [he, hG, show (Gm.step noIn g3).shots.length = 0 from by rw [show (Gm.step noIn g3).shots = [] from hst.1]; rfl]
  have cmy := fun X (hX : Below U.heap.size U X) => Lib.hid (may_yes g3 (some ⟨V.heap.size, 0, none⟩) 1 1 X okg hlen.symm ((L3.below hX).wider hX.size))
  obtain ⟨x, hx⟩ : ∃ x, x = Gm.placeX d := ⟨_, rfl⟩
  obtain ⟨y, hy⟩ : ∃ y, y = Gm.placeY d := ⟨_, rfl⟩
  obtain ⟨d', hd'⟩ : ∃ y, y = Gm.placeD d := ⟨_, rfl⟩
  have cpl : ∀ X, Hid (Calls Try.prog 20 #[.int .u64 d] X fun e w' => e = .returned (.tuple #[.int .i32 x, .int .i32 y, .int .u64 d']) ∧ Below X.heap.size X w') := fun X => Lib.hid (by rw [hx, hy, hd']; exact place_any d hD.out X)
  obtain ⟨m, hm⟩ : ∃ m, m = min (n + 1) 1073741824 := ⟨_, rfl⟩
  have hse := fun W => ship_self x y W
  have z1 : ∀ s, (Gm.cells g3 s)[1]? = some (.int .u64 d) := fun s => by rw [← hdc]; exact Gm.cells_1 g3 s
  have y1 : ∀ s, (Gm.cells G s)[1]? = some (.int .u64 d') := fun s => by rw [hd', ← hst.2.1, hG]; exact Gm.cells_1 _ s
  have y58 : ∀ s, (Gm.cells G s)[58]? = some s := fun s => Gm.cells_58 G s
  have hGk : G.ship k = ⟨true, x, y, 0, 0, 0, 7⟩ := by rw [hG, hx, hy]; exact hst.2.2.1
  have hGi : (G.ship i).score = m := by rw [hG, hm]; exact hst.2.2.2
  have q6 : ∀ s, (Gm.cells G s)[2 + i * 7 + 6]? = some (.int .i64 m) := fun s => (Gm.cells_ship G s i 6 hNi (by omega)).trans (by show some (Value.int .i64 (G.ship i).score) = _; rw [hGi])
  have v0 : ∀ s, (Gm.cells G s)[2 + k * 7]? = some (.bool true) := fun s => (Gm.cells_ship G s k 0 hNk (by omega)).trans (by rw [hGk]; rfl)
  have v1 : ∀ s, (Gm.cells G s)[2 + k * 7 + 1]? = some (.int .i32 x) := fun s => (Gm.cells_ship G s k 1 hNk (by omega)).trans (by rw [hGk]; rfl)
  have v2 : ∀ s, (Gm.cells G s)[2 + k * 7 + 2]? = some (.int .i32 y) := fun s => (Gm.cells_ship G s k 2 hNk (by omega)).trans (by rw [hGk]; rfl)
  have v3 : ∀ s, (Gm.cells G s)[2 + k * 7 + 3]? = some (.int .i32 0) := fun s => (Gm.cells_ship G s k 3 hNk (by omega)).trans (by rw [hGk]; rfl)
  have v4 : ∀ s, (Gm.cells G s)[2 + k * 7 + 4]? = some (.int .i32 0) := fun s => (Gm.cells_ship G s k 4 hNk (by omega)).trans (by rw [hGk]; rfl)
  have v5 : ∀ s, (Gm.cells G s)[2 + k * 7 + 5]? = some (.int .i64 0) := fun s => (Gm.cells_ship G s k 5 hNk (by omega)).trans (by rw [hGk]; rfl)
  have v6 : ∀ s, (Gm.cells G s)[2 + k * 7 + 6]? = some (.int .i64 7) := fun s => (Gm.cells_ship G s k 6 hNk (by omega)).trans (by rw [hGk]; rfl)
  have HX3 := Lib.hid X3
  have HY3 := Lib.hid Y3
  have hM := Lib.hid hm
  have hcst := Lib.hid cst
  clear hU hg3 sV X3 Y3 hlen L3 hgg okg hst hfr hdc hG cst hx hy hd' hm hGk hGi X2c X2f X2l z58 HX2 HY2 hG2 hG1 hG0 hMx cw0 cw1 cmv cn
  go_upto_region 12 with (first | ((with_reducible refine load_gate rfl rfl ?_); apply LoadGame.mk rfl; (with_reducible exact HX3.out)) | ((with_reducible refine wpList_alloc_game rfl rfl ?_)) | ((with_reducible refine wpList_store_game_new rfl rfl rfl rfl rfl rfl ?_)) | (refine wpList_build_is rfl (t := 38) (vs := []) rfl rfl built_in0 ?_) | (go_at_call 15; ((with_reducible refine (hcst.out).mono ?_); rintro e w3 ⟨A2, c2, rfl, hb⟩; have K3 := Lib.hid (hb.alloc hb.size (.cells (Gm.cells G (.slice A2 0 c2)) 30)); have P3c := (HX3.out.below K3.out HX3.out.lt).cell; have Q3 := Lib.hid (Box.made w3 30 (Gm.cells G (.slice A2 0 c2))); clear hb)) | (go_at_call 20; ((with_reducible refine ((cpl _).out).mono ?_); rintro e w4 ⟨rfl, hb⟩; have K4 := Lib.hid (K3.out.trans (hb.mono K3.out.size)); have Q4 := Lib.hid (Q3.out.below hb Q3.out.lt); clear hb P3c)))
  go_wp2_with (first | (go_at_call 10; ((with_reducible refine ((ct _).out).mono ?_); rintro e w5 ⟨rfl, hb⟩; have K5 := Lib.hid (K4.out.trans (hb.mono K4.out.size)); have P5 := Lib.hid (HX3.out.below K5.out HX3.out.lt); have Q5 := Lib.hid (Q4.out.below hb Q4.out.lt); clear hb)) | ((with_reducible refine load_gate_g ?_ rfl ?_); (focus first | rfl | kernel_rfl | simp [Region.wanted, yielded]); apply LoadGame.mk rfl; (with_reducible exact P5.out)) | (go_at_call 19; ((with_reducible refine ((cmy _ K5.out).out).mono ?_); rintro e w6 ⟨rfl, hb⟩; have K6 := Lib.hid (K5.out.trans (hb.mono K5.out.size)); have Q6 := Lib.hid (Q5.out.below hb Q5.out.lt); have Q6c := Q6.out.cell; clear hb)))
  · have e : (m == 1073741824) = true := by have := hM.out; rw [beq_iff_eq]; omega
    rw [e]
    go_ret
    exact ⟨rfl, HY3.out.trans (K6.out.mono HY3.out.size)⟩
  · have e : (m == n + 1) = true := by have := hM.out; rw [beq_iff_eq]; omega
    rw [e]
    go_ret
    exact ⟨rfl, HY3.out.trans (K6.out.mono HY3.out.size)⟩

theorem hit_law (a0 a1 a2 a3 a4 : Int) (wa0 : -2147483648 ≤ a0 ∧ a0 ≤ 2147483647) (wa1 : -2147483648 ≤ a1 ∧ a1 ≤ 2147483647) (w : World) :
    Calls Try.prog 7 #[.int .i32 a0, .int .i32 a1, .int .i64 a2, .int .i64 a3, .int .i64 a4] w fun e w' => e = .returned (.bool true) ∧ Kept w w' := by
  obtain ⟨i, hi, hI⟩ := g_slot a2
  obtain ⟨k, hk, hK⟩ := g_slot a3
  by_cases h : i = k
  · subst h; exact hit_same a0 a1 a2 a3 a4 i hi hI hK w
  · have hn := g_mod a4 1073741825 (by decide)
    exact hit_two a0 a1 a2 a3 a4 _ _ _ _ i k wa0 wa1 hi hk hI hK h rfl hn.1 (by omega) rfl rfl rfl w
end Go.Proofs.Ytldgajlonhgloaa
