/-
GameShots' walk.
-/
import Derived.Test.YtpmdmpkoejaibaaHy
import Derived.Test.YtpmdmpkoejaibaaHj
import Derived.Test.YtpmdmpkoejaibaaHoff
import Derived.Outline
import Derived.Deep.CutRange
import Derived.Deep.CutBlock
import Derived.Deep.DeepCutAuto
import Derived.Deep.RegionWith
namespace Go.Proofs.Ytpmdmpkoejaibaa
open Go.RowKit Go.Shelf
set_option linter.unusedVariables false

theorem below3 (w : World) (o1 o2 o3 : Obj) : Below w.heap.size w (((w.alloc o1).alloc o2).alloc o3).drew := ((two_below' w o1 o2).alloc (by simp <;> omega) o3).drew
theorem box3a (w : World) (o1 o2 : Obj) (t : TypeId) (cs : Array Value) : Box (((w.alloc (.cells cs t)).alloc o1).alloc o2).drew w.heap.size t cs := (((Box.made w t cs).alloc _).alloc _).drew
theorem box3b (w : World) (o1 o2 : Obj) (t : TypeId) (cs : Array Value) : Box (((w.alloc o1).alloc (.cells cs t)).alloc o2).drew (w.heap.size + 1) t cs := ((Box.made_at (w.alloc o1) t cs (by simp)).alloc _).drew
theorem box3c (w : World) (o1 o2 : Obj) (t : TypeId) (cs : Array Value) : Box (((w.alloc o1).alloc o2).alloc (.cells cs t)).drew (w.heap.size + 1 + 1) t cs := (Box.made_at ((w.alloc o1).alloc o2) t cs (by simp)).drew
def wayX (w : Nat) : Int := [1, 1, 0, -1, -1, -1, 0, 1].getD w 0
def wayY (w : Nat) : Int := [0, 1, 1, 1, 0, -1, -1, -1].getD w 0
theorem way_in (w : Nat) : (-128 ≤ wayX w ∧ wayX w ≤ 127) ∧ (-128 ≤ wayY w ∧ wayY w ≤ 127) := by
  match w with
  | 0 | 1 | 2 | 3 | 4 | 5 | 6 | 7 => decide
  | w + 8 => unfold wayX wayY; simp
theorem wayX_at (w : Nat) (h : w < 8) : ([.int .i8 1, .int .i8 1, .int .i8 0, .int .i8 (-1), .int .i8 (-1), .int .i8 (-1), .int .i8 0, .int .i8 1] : List Value)[w]'h = .int .i8 (wayX w) := by
  match w, h with
  | 0, _ | 1, _ | 2, _ | 3, _ | 4, _ | 5, _ | 6, _ | 7, _ => rfl
theorem wayY_at (w : Nat) (h : w < 8) : ([.int .i8 0, .int .i8 1, .int .i8 1, .int .i8 1, .int .i8 0, .int .i8 (-1), .int .i8 (-1), .int .i8 (-1)] : List Value)[w]'h = .int .i8 (wayY w) := by
  match w, h with
  | 0, _ | 1, _ | 2, _ | 3, _ | 4, _ | 5, _ | 6, _ | 7, _ => rfl
theorem shot_eq' (s t : Gm.Shot) (w : World) : (Op.equalIn 10000 56 (.agg s.cells.toArray) (.agg t.cells.toArray)).run Try.prog w = .ok (s.eqB t) w := by
  obtain ⟨a1, a2, a3, a4, a5, a6⟩ := s
  obtain ⟨b1, b2, b3, b4, b5, b6⟩ := t
  have h := ifs7 w (a1 == b1) (a2 == b2) (a3 == b3) (a4 == b4) (a5 == b5) (a6 == b6) true
  simp only [beq_iff_eq, Bool.and_true] at h
  simp only [Gm.Shot.cells]
  go_simp
  have e : (if True then Result.ok true w else Result.ok false w) = (Result.ok true w : Result Bool) := if_pos trivial
  rw [e] at h
  exact h
theorem shot_self (o x y vx vy l : Int) (w : World) : (binOp .eql 56 (.agg #[.int .i64 o, .int .i32 x, .int .i32 y, .int .i32 vx, .int .i32 vy, .int .i64 l]) (.agg #[.int .i64 o, .int .i32 x, .int .i32 y, .int .i32 vx, .int .i32 vy, .int .i64 l])).run Try.prog w = .ok (.bool true) w := by
  have h := shot_eq' ⟨o, x, y, vx, vy, l⟩ ⟨o, x, y, vx, vy, l⟩ w
  have e : (⟨o, x, y, vx, vy, l⟩ : Gm.Shot).eqB ⟨o, x, y, vx, vy, l⟩ = true := by simp [Gm.Shot.eqB]
  rw [e] at h
  simp only [Gm.Shot.cells] at h
  simp only [binOp]
  simp [Op.equal, Op.maxDepth, h]

/-- What stays round by round. -/
structure ShotsAt (B : Nat) (w0 : World) (d x y vx vy : Int) (f : Nat) (w : World) : Prop where
  has : ∃ A c, Box w B 30 (Gm.cells (shotGame d x y vx vy f) (.slice A (shotGame d x y vx vy f).shots.length c)) ∧ Lies w w.heap.size 6 A (shotGame d x y vx vy f).shots.length (Gm.shotCells (shotGame d x y vx vy f).shots)
  below : Below w0.heap.size w0 w

set_option maxRecDepth 100000 in
set_option maxHeartbeats 8000000 in
theorem shots_a (a0 a1 a2 a3 : Int) (wa0 : -2147483648 ≤ a0 ∧ a0 ≤ 2147483647) (wa1 : -2147483648 ≤ a1 ∧ a1 ≤ 2147483647) (i k : Nat) (hi : i < 8) (hI : (IntKind.u64.wrap a2).tmod 8 = (i : Int)) (hk : k < 31) (hK : (IntKind.u64.wrap a3).tmod 31 = (k : Int)) (w : World) :
    Calls Try.prog 6 #[.int .i32 a0, .int .i32 a1, .int .i64 a2, .int .i64 a3] w fun e w' => e = .returned (.bool true) ∧ Kept w w' := by
  have hi8 : (i : Int) < 8 := by omega
  have hwi : IntKind.i64.wrap (i : Int) = (i : Int) := by rw [IntKind.wrap_i64]; omega
  have hk8 : (k : Int) < 31 := by omega
  have hwk : IntKind.i64.wrap (k : Int) = (k : Int) := by rw [IntKind.wrap_i64]; omega
  have wX := wayX_at i hi
  have wY := wayY_at i hi
  obtain ⟨bX, bY⟩ := way_in i
  generalize wayX i = X at wX bX
  generalize wayY i = Y at wY bY
  obtain ⟨px, hpx⟩ : ∃ x, x = Gf.wrap a0 := ⟨_, rfl⟩
  obtain ⟨py, hpy⟩ : ∃ x, x = Gf.wrap a1 := ⟨_, rfl⟩
  have bx := hpx ▸ Gf.wrap_bd a0
  have bY' := hpy ▸ Gf.wrap_bd a1
  have cw0 := fun W => Lib.hid (fldwrap_any a0 wa0 W)
  have cw1 := fun W => Lib.hid (fldwrap_any a1 wa1 W)
  simp only [← hpx, ← hpy] at cw0 cw1
  have ca := fun W => Lib.hid (fldaim_any X Y 0 bX bY (by decide) W)
  have vb1 := Gf.aimx_bd X Y
  have vb2 : Gm.slow (Gf.aimy Y) 393216 := Gf.way_bd _
  obtain ⟨vx, hvx⟩ : ∃ x, x = Gf.aimx X Y := ⟨_, rfl⟩
  obtain ⟨vy, hvy⟩ : ∃ x, x = Gf.aimy Y := ⟨_, rfl⟩
  simp only [← hvx, ← hvy] at ca vb1 vb2
  unfold Gm.slow at vb2
  have hd : 0 ≤ Dn.seed [115] ∧ Dn.seed [115] ≤ 18446744073709551615 := Dn.seed_bd _
  have cn := fun X => Lib.hid (new_any ⟨#[115]⟩ X (by decide))
  generalize hdd : Dn.seed [115] = d at hd cn
  obtain ⟨g0, hg0⟩ : ∃ g, g = Gm.new d := ⟨_, rfl⟩
  simp only [← hg0] at cn
  have z58 : ∀ s, (Gm.cells g0 s)[58]? = some s := fun s => rfl
  have ct := fun X => Lib.hid (told6_any X)
  have hG0 := Lib.hid hg0
  have hD := Lib.hid hd
  have VB := Lib.hid (And.intro vb1 vb2)
  have PB := Lib.hid (And.intro bx bY')
  clear hpx hpy hvx hvy hdd hg0 hd wa0 wa1 vb1 vb2 bx bY' bX bY
  go_enter Try.func6, Try.ntmps6
  go_upto_region 2 with fail
  go_cut [10] from 24 to 32 (fun p wx => ∃ B, p = .pointer (some ⟨B, 0, none⟩) ∧ Below w.heap.size w wx ∧ Box wx B 37 #[.int .i8 X, .int .i8 Y, .int .u8 0])
  case first =>
    go_region
    all_goals
      go_wp2_with fail
      go_meet
      exact ⟨_, rfl, below3 _ _ _ _, (by first | exact box3a _ _ _ _ _ | exact box3b _ _ _ _ _ | exact box3c _ _ _ _ _)⟩
  case rest =>
  obtain ⟨B, rfl, hbw, bx⟩ := hcut
  have bxc := bx.cell
  have HB0 := Lib.hid hbw
  clear hbw bx wX wY
  go_upto_region 6 with (first | ((with_reducible refine wpList_alloc_game rfl rfl ?_)) | ((with_reducible refine wpList_store_game_new rfl rfl rfl rfl rfl rfl ?_)) | (go_at_call 29; ((with_reducible refine ((ca _).out).mono ?_); rintro e w' ⟨rfl, hb⟩; have HB1 := Lib.hid (HB0.out.trans (hb.mono HB0.out.size)); clear hb HB0 bxc)) | (go_at_call 30; ((with_reducible refine ((cw0 _).out).mono ?_); rintro e w' ⟨rfl, hb⟩; have HB2 := Lib.hid (HB1.out.trans (hb.mono HB1.out.size)); clear hb HB1)) | (go_at_call 30; ((with_reducible refine ((cw1 _).out).mono ?_); rintro e w' ⟨rfl, hb⟩; have HB3 := Lib.hid (HB2.out.trans (hb.mono HB2.out.size)); clear hb HB2)) | (go_at_call 15; ((with_reducible refine ((cn _).out).mono ?_); rintro e w1 ⟨rfl, hb⟩; have HB4 := Lib.hid ((HB3.out.trans (hb.mono HB3.out.size)).alloc (HB3.out.trans (hb.mono HB3.out.size)).size (.cells (Gm.cells g0 (.slice none 0 0)) 30)); have P1 := Lib.hid (Box.made w1 30 (Gm.cells g0 (.slice none 0 0))); have sz1 := (HB3.out.trans (hb.mono HB3.out.size)).size; have P1c := P1.out.cell; have P1f := P1.out.free; have P1l := P1.out.lt; clear hb HB3)))
  generalize w1.alloc (.cells (Gm.cells g0 (.slice none 0 0)) 30) = V at *
  generalize w1.heap.size = BG at *
  go_upto_region 7 with (first | fail)
  obtain ⟨U, hU⟩ : ∃ U, U = (V.setCell ⟨BG, 58, none⟩ (.slice (some ⟨V.heap.size, 0, none⟩) 1 1)).alloc (.cells #[.int .i64 2, .int .i32 px, .int .i32 py, .int .i32 vx, .int .i32 vy, .int .i64 24] 56) := ⟨_, rfl⟩
  have sV : (V.setCell ⟨BG, 58, none⟩ (.slice (some ⟨V.heap.size, 0, none⟩) 1 1)).heap.size = V.heap.size := by simp
  have hgg : ({ g0 with shots := [⟨2, px, py, vx, vy, 24⟩] } : Gm.G) = shotGame d px py vx vy 0 := by rw [hG0.out]; rfl
  have X3 : Box U BG 30 (Gm.cells (shotGame d px py vx vy 0) (.slice (some ⟨V.heap.size, 0, none⟩) 1 1)) := by rw [hU, ← hgg]; exact (blk_shots P1.out _).alloc _
  have Y3 : Below w.heap.size w U := by rw [hU]; exact (HB4.out.setCell sz1 _).alloc (HB4.out.setCell sz1 _).size _
  have hlen : (shotGame d px py vx vy 0).shots.length = 1 := rfl
  have L3 : Lies U U.heap.size 6 (some ⟨V.heap.size, 0, none⟩) 1 (Gm.shotCells (shotGame d px py vx vy 0).shots) := by
    have B : Box U V.heap.size 56 #[.int .i64 2, .int .i32 px, .int .i32 py, .int .i32 vx, .int .i32 vy, .int .i64 24] := by rw [hU]; exact Box.made_at _ _ _ sV.symm
    refine ⟨rfl, fun _ => ⟨_, rfl, B.lt⟩, fun ad had _ j u hu => ?_⟩
    injection had with had
    subst had
    have e : (⟨V.heap.size, 0, none⟩ : Addr).add j = ⟨V.heap.size, j, none⟩ := by unfold Addr.add; split <;> simp_all
    rw [e, B.cell, List.getElem?_toArray]
    exact hu
  rw [← hU]
  have okg : Gm.ok (shotGame d px py vx vy 0) := shotGame_ok PB.out.1 PB.out.2 VB.out.1 VB.out.2 (by omega)
  have cmy := Lib.hid (may_yes (shotGame d px py vx vy 0) (some ⟨V.heap.size, 0, none⟩) 1 1 U okg hlen.symm L3)
  have HX3 := Lib.hid X3
  have HY3 := Lib.hid Y3
  have HL3 := Lib.hid L3
  generalize V.heap.size = BS at *
  clear hU sV hgg X3 Y3 L3 hlen okg P1 P1c P1f P1l HB4 z58 hG0 cw0 cw1 ca cn
  go_upto_region 10 with (first | ((with_reducible refine load_gate rfl rfl ?_); apply LoadGame.mk rfl; (with_reducible exact HX3.out)) | (go_at_call 23; ((with_reducible refine (cmy.out).mono ?_); rintro e w2 ⟨rfl, hb⟩; have HY4 := Lib.hid (HY3.out.trans (hb.mono HY3.out.size)); have L4 := Lib.hid ((HL3.out.below hb).wider hb.size); have X4 := Lib.hid (HX3.out.below hb HX3.out.lt); clear hb HY3 HL3 HX3 cmy)))
  go_wp2_with fail
  go_loopw [13, 14, 17, 18, 19] (fun px py i h e wr => ∃ f : Nat, f ≤ k ∧ i = .int .i64 f ∧ ∃ x y : Int, px = .int .i32 x ∧ py = .int .i32 y ∧ (0 ≤ x ∧ x < 16777216) ∧ (0 ≤ y ∧ y < 16777216) ∧ ShotsAt BG w d x y vx vy f wr) (fun _ _ i _ _ _ => k - (intOf i).toNat)
  case atStart => exact ⟨0, Nat.zero_le _, rfl, px, py, rfl, rfl, PB.out.1, PB.out.2, ⟨⟨_, _, X4.out, L4.out⟩, HY4.out⟩⟩
  case round =>
    obtain ⟨f, hf, rfl, x, y, rfl, rfl, hx, hy, hS⟩ := hrel
    clear X4 L4 HY4 PB
    obtain ⟨⟨A, c, HX, HL⟩, HY⟩ := hS
    by_cases hlt : f < k
    · have hff : (f : Int) < k := by omega
      have okg : Gm.ok (shotGame d x y vx vy f) := shotGame_ok hx hy VB.out.1 VB.out.2 (by omega)
      have hstep := shotGame_step d x y vx vy f
      have fr : (shotGame d x y vx vy f).frame < 1048576 := by show (f : Int) < 1048576; omega
      have cst := Lib.hid (step_yes noIn (shotGame d x y vx vy f) A _ c wr okg fr hD.out noIn_ty rfl HL)
      rw [show Gm.step noIn (shotGame d x y vx vy f) = shotGame d (Gf.move x vx) (Gf.move y vy) vx vy (f + 1) from hstep] at cst
      have cm1 := fun X => Lib.hid (fldmove_any x vx (by omega) (by have := VB.out; omega) X)
      have cm2 := fun X => Lib.hid (fldmove_any y vy (by omega) (by have := VB.out; omega) X)
      have bx' := Gf.move_bd x vx
      have by' := Gf.move_bd y vy
      have HXX := Lib.hid HX
      have HYY := Lib.hid HY
      have sz := HX.lt
      obtain ⟨x', hx'⟩ : ∃ t, t = Gf.move x vx := ⟨_, rfl⟩
      obtain ⟨y', hy'⟩ : ∃ t, t = Gf.move y vy := ⟨_, rfl⟩
      simp only [← hx', ← hy'] at cst cm1 cm2 bx' by'
      obtain ⟨g, hg⟩ : ∃ g, g = shotGame d x y vx vy f := ⟨_, rfl⟩
      obtain ⟨G, hG⟩ : ∃ g, g = shotGame d x' y' vx vy (f + 1) := ⟨_, rfl⟩
      simp only [← hg, ← hG] at cst HXX
      have hGG := Lib.hid hG
      have BB := Lib.hid (And.intro bx' by')
      clear hx' hy' HX HY HL okg hstep fr hg hG bx' by' ct hx hy
      go_upto_region 14 with (first | ((with_reducible refine load_gate rfl rfl ?_); apply LoadGame.mk rfl; (with_reducible exact HXX.out)) | ((with_reducible refine wpList_alloc_game rfl rfl ?_)) | ((with_reducible refine wpList_store_game_new rfl rfl rfl rfl rfl rfl ?_)) | (refine wpList_build_is rfl (t := 38) (vs := []) rfl rfl built_in0 ?_) | (go_at_call 19; ((with_reducible refine (cst.out).mono ?_); rintro e w3 ⟨A2, c2, rfl, hl, hb⟩; have K4 := Lib.hid ((HYY.out.trans (hb.mono HYY.out.size)).alloc (Nat.le_trans HYY.out.size hb.size) (.cells (Gm.cells G (.slice A2 G.shots.length c2)) 30)); have X4 := Lib.hid ((HXX.out.below hb HXX.out.lt).alloc (.cells (Gm.cells G (.slice A2 G.shots.length c2)) 30)); have Q4 := Lib.hid (Box.made w3 30 (Gm.cells G (.slice A2 G.shots.length c2))); have L4 := Lib.hid (hl.alloc (.cells (Gm.cells G (.slice A2 G.shots.length c2)) 30)); clear hb hl)))
      go_wp2_with (first | (go_at_call 28; ((with_reducible refine ((cm1 _).out).mono ?_); rintro e w5 ⟨rfl, hb⟩; have K5 := Lib.hid (K4.out.trans (hb.mono K4.out.size)); have X5 := Lib.hid (X4.out.below hb X4.out.lt); have Q5 := Lib.hid (Q4.out.below hb Q4.out.lt); have L5 := Lib.hid (L4.out.call hb); clear hb K4 X4 Q4 L4 cm1)) | (go_at_call 28; ((with_reducible refine ((cm2 _).out).mono ?_); rintro e w6 ⟨rfl, hb⟩; have K6 := Lib.hid (K5.out.trans (hb.mono K5.out.size)); have X6 := Lib.hid (X5.out.below hb X5.out.lt); have Q6 := Lib.hid (Q5.out.below hb Q5.out.lt); have L6 := Lib.hid (L5.out.call hb); clear hb K5 X5 Q5 L5 cm2)) | ((with_reducible refine load_gate rfl rfl ?_); apply LoadGame.mk rfl; (with_reducible exact Q6.out)) | ((with_reducible refine store_gate rfl rfl ?_); apply StoreGame.mk rfl rfl rfl; focus (with_reducible exact X6.out)))
      go_roundw
      case rel => exact ⟨f + 1, by omega, by go_num, x', y', rfl, rfl, BB.out.1, BB.out.2, ⟨⟨A2, c2, by rw [← hGG.out]; exact X6.out.row _, by rw [← hGG.out]; exact L6.out.game_row rfl X6.out _⟩, Below.setRow' K6.out sz1 _⟩⟩
      case measure => simp [intOf]; omega
    · have hfk : f = k := by omega
      subst hfk
      have hff : ¬ (f : Int) < f := by omega
      have HYY := Lib.hid HY
      by_cases h24 : f < 24
      · have hg : shotGame d x y vx vy f = ⟨f, d, fun _ => Gm.Ship.none, [⟨2, x, y, vx, vy, 24 - f⟩]⟩ := by unfold shotGame; rw [if_pos h24]
        rw [hg] at HX HL
        obtain ⟨ad, rfl, _⟩ := HL.start (by simp)
        have HX' : Box wr BG 30 (Gm.cells ⟨f, d, fun _ => Gm.Ship.none, [⟨2, x, y, vx, vy, 24 - f⟩]⟩ (.slice (some ad) 1 c)) := HX
        have HXX := Lib.hid HX'
        have HLL := Lib.hid HL
        have z58 := Gm.cells_58 ⟨f, d, fun _ => Gm.Ship.none, [⟨2, x, y, vx, vy, 24 - f⟩]⟩ (.slice (some ad) 1 c)
        have h24' : ¬ (24 : Int) ≤ f := by omega
        have hwf : IntKind.i64.wrap (24 - (f : Int)) = 24 - (f : Int) := by rw [IntKind.wrap_i64]; omega
        have hse := fun W => shot_self 2 x y vx vy (24 - f) W
        clear HX HX' HL HY hg
        go_wp2_with (first | (go_at_call 14; ((with_reducible refine ((ct _).out).mono ?_); rintro e w5 ⟨rfl, hb⟩; have K5 := Lib.hid (HYY.out.trans (hb.mono HYY.out.size)); have X5 := (HXX.out.below hb HXX.out.lt).cell; obtain ⟨ad', e', _, s0, s1, s2, s3, s4, s5⟩ := shots_at (HLL.out.call hb) rfl 0 (by simp); injection e' with e'; subst e'; (rw [show ad.add (0 * 6) = ad from rfl] at s0 s1 s2 s3 s4 s5); (simp only [List.getElem_cons_zero] at s0 s1 s2 s3 s4 s5); clear hb)))
        go_ret
        exact ⟨rfl, K5.out⟩
      · have hg : shotGame d x y vx vy f = ⟨f, d, fun _ => Gm.Ship.none, []⟩ := by unfold shotGame; rw [if_neg h24]
        rw [hg] at HX HL
        have HX' : Box wr BG 30 (Gm.cells ⟨f, d, fun _ => Gm.Ship.none, []⟩ (.slice A 0 c)) := HX
        have HXX := Lib.hid HX'
        have z58 := Gm.cells_58 ⟨f, d, fun _ => Gm.Ship.none, []⟩ (.slice A 0 c)
        have h24' : (24 : Int) ≤ f := by omega
        clear HX HX' HL HY hg
        go_wp2_with (first | (go_at_call 14; ((with_reducible refine ((ct _).out).mono ?_); rintro e w5 ⟨rfl, hb⟩; have K5 := Lib.hid (HYY.out.trans (hb.mono HYY.out.size)); have X5 := (HXX.out.below hb HXX.out.lt).cell; clear hb)))
        go_ret
        exact ⟨rfl, K5.out⟩

theorem shots_law (a0 a1 a2 a3 : Int) (wa0 : -2147483648 ≤ a0 ∧ a0 ≤ 2147483647) (wa1 : -2147483648 ≤ a1 ∧ a1 ≤ 2147483647) (w : World) :
    Calls Try.prog 6 #[.int .i32 a0, .int .i32 a1, .int .i64 a2, .int .i64 a3] w fun e w' => e = .returned (.bool true) ∧ Kept w w' := by
  have h2 : 0 ≤ (IntKind.u64.wrap a2).tmod 8 ∧ (IntKind.u64.wrap a2).tmod 8 < 8 := by
    rw [Int.tmod_eq_emod_of_nonneg (by simp only [IntKind.wrap_u64]; omega)]; exact ⟨Int.emod_nonneg _ (by omega), Int.emod_lt_of_pos _ (by omega)⟩
  have h3 : 0 ≤ (IntKind.u64.wrap a3).tmod 31 ∧ (IntKind.u64.wrap a3).tmod 31 < 31 := by
    rw [Int.tmod_eq_emod_of_nonneg (by simp only [IntKind.wrap_u64]; omega)]; exact ⟨Int.emod_nonneg _ (by omega), Int.emod_lt_of_pos _ (by omega)⟩
  exact shots_a a0 a1 a2 a3 wa0 wa1 ((IntKind.u64.wrap a2).tmod 8).toNat ((IntKind.u64.wrap a3).tmod 31).toNat (by omega) (by omega) (by omega) (by omega) w
end Go.Proofs.Ytpmdmpkoejaibaa
