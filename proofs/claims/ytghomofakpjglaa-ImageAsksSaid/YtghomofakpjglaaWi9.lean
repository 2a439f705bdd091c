/-
Several texts in one: Qk Ql Qm Ob.
-/
import Derived.Test.YtghomofakpjglaaWi8
namespace Go.Proofs.Ytghomofakpjglaa
open Go.RowKit Go.Shelf
set_option linter.unusedVariables false
set_option linter.unusedSimpArgs false

theorem tyShip_of {a b c d e f : Int} (he : 0 ≤ e ∧ e < 2 ^ (8 * 1)) (hf : 0 ≤ f ∧ f < 2 ^ (8 * 4)) : Gm.tyShip ⟨true, IntKind.i32.wrap a, IntKind.i32.wrap b, IntKind.i32.wrap c, IntKind.i32.wrap d, e, f⟩ := by
  unfold Gm.tyShip Gm.i32 Gm.i64
  dsimp only
  rw [IntKind.wrap_i32, IntKind.wrap_i32, IntKind.wrap_i32, IntKind.wrap_i32]
  omega
theorem tyShot_of {o a b c d e : Int} (ho : 0 ≤ o ∧ o < 2 ^ (8 * 1)) (he : 0 ≤ e ∧ e < 2 ^ (8 * 1)) : Gm.tyShot ⟨o, IntKind.i32.wrap a, IntKind.i32.wrap b, IntKind.i32.wrap c, IntKind.i32.wrap d, e⟩ := by
  unfold Gm.tyShot Gm.i32 Gm.i64
  dsimp only
  rw [IntKind.wrap_i32, IntKind.wrap_i32, IntKind.wrap_i32, IntKind.wrap_i32]
  omega

theorem Im.set_peer (g : Gm.G) (s : Value) (q : Ros.R) (k : Nat) (hk : k < 8) (p : Int) : (Im.cells g s q).setIfInBounds (60 + k * 2) (.int .i64 p) = Im.cells g s { q with peer := Ros.upd q.peer k p } := by
  rw [show 60 + k * 2 = 59 + (1 + k * 2) by omega, Im.cells_set_r, Ros.cells_setp _ k hk]
  rfl
theorem Im.set_gen (g : Gm.G) (s : Value) (q : Ros.R) (k : Nat) (hk : k < 8) (p n : Int) : (Im.cells g s { q with peer := Ros.upd q.peer k p }).setIfInBounds (60 + k * 2 + 1) (.int .i64 n) = Im.cells g s (Im.setSeat q k p n) := by
  rw [show 60 + k * 2 + 1 = 59 + (1 + k * 2 + 1) by omega, Im.cells_set_r, Ros.cells_setg _ k hk]
  rfl

set_option maxRecDepth 100000 in
set_option maxHeartbeats 8000000 in
theorem refgetst_any (l : List Int) (w : World) (hB : Im.IsBytes l) :
    Calls Try.prog 18 #[.string (strOfNums l)] w fun r w' =>
      (∃ g q A c, Im.get l = some (g, q) ∧ r = .returned (.tuple #[.agg (Im.cells g (.slice A g.shots.length c) q), .int .i64 0]) ∧ Lies w' w'.heap.size 6 A g.shots.length (Gm.shotCells g.shots) ∧ Below w.heap.size w w') ∨
      (Im.get l = none ∧ r = .returned (.tuple #[.agg Im.zero, .int .i64 2]) ∧ Below w.heap.size w w') := by
  have hr0 : ∀ m, some l = some m → Im.IsBytes m := fun m hm => by injection hm with hm; subst hm; exact hB
  have ST0 : Im.Sn (Im.dec l) (fun r => (Im.rdn 4 r).bind fun f => (Im.rdn 8 f.2).bind fun d => Im.fShips f.1 d.1 0 Im.ships0 d.2) (some l) := Im.dec_is l
  have ST1 := ST0.num (g := fun a r => (Im.rdn 8 r).bind fun d => Im.fShips a d.1 0 Im.ships0 d.2) 4 (fun r => rfl)
  have ST2 := ST1.num (g := fun a r => Im.fShips (Sx.num 4 (some l)) a 0 Im.ships0 r) 8 (fun r => rfl)
  have hB1 := Sx.rest_bytes (n := 4) hr0
  have hB2 := Sx.rest_bytes (n := 8) hB1
  have hn1 := Sx.num_lt (n := 4) hr0
  have hn2 := Sx.num_lt (n := 8) hB1
  have c1 := fun X hX => Lib.hid (rint_any 4 4 rfl (some l) (w.heap.size + 1) X (by decide) hr0 hX)
  have c2 := fun X hX => Lib.hid (rnum_any 8 8 rfl (Sx.rest 4 (some l)) (w.heap.size + 1) X (by decide) hB1 hX)
  generalize Sx.rest 8 (Sx.rest 4 (some l)) = o2 at *
  generalize Sx.num 8 (Sx.rest 4 (some l)) = dd at *
  generalize Sx.rest 4 (some l) = o1 at *
  generalize Sx.num 4 (some l) = fr at *
  have HST2 := Lib.hid ST2
  have HB1 := Lib.hid hB1
  have HB2 := Lib.hid hB2
  have HTF := Lib.hid (show Gm.i64 fr ∧ (0 ≤ dd ∧ dd ≤ 18446744073709551615) by unfold Gm.i64; omega)
  obtain ⟨zc, hzc⟩ : ∃ zc, zc = Im.zero := ⟨_, rfl⟩
  have Z0 := Lib.hid (((Box.made w 35 Im.zero).alloc (.cells #[.string (strOfNums l), .bool false] 91)).alloc (.cells Im.zero 35))
  have R0 := Lib.hid (show RIs (((w.alloc (.cells Im.zero 35)).alloc (.cells #[.string (strOfNums l), .bool false] 91)).alloc (.cells Im.zero 35)) (w.heap.size + 1) (some l) from (Box.made_at (n := w.heap.size + 1) (w.alloc (.cells Im.zero 35)) 91 #[.string (strOfNums l), .bool false] (by simp)).alloc _)
  have E0 := Lib.hid (Box.made_at (n := w.heap.size + 1 + 1) ((w.alloc (.cells Im.zero 35)).alloc (.cells #[.string (strOfNums l), .bool false] 91)) 35 (Im.cells Im.G0 (.slice none 0 0) Im.R0) (by simp))
  have K0 := Lib.hid (((one_below w (.cells Im.zero 35)).alloc (by simp) (.cells #[.string (strOfNums l), .bool false] 91)).alloc (by simp <;> omega) (.cells Im.zero 35))
  have G0 := Lib.hid (show GS w Im.G0 Im.R0 (some l) none (((w.alloc (.cells Im.zero 35)).alloc (.cells #[.string (strOfNums l), .bool false] 91)).alloc (.cells Im.zero 35)) from ⟨hr0, Z0.out, R0.out, ⟨none, 0, E0.out, ⟨rfl, .inl ⟨rfl, rfl⟩⟩, fun b hb => (by cases hb)⟩, K0.out⟩)
  generalize strOfNums l = sl at *
  clear ST0 ST1 ST2 hB1 hB2 hr0 Z0 R0 E0 K0 hn1 hn2
  go_enter Try.func18, Try.ntmps18
  go_upto_region 3 with (with_reducible refine alloc_state rfl rfl ?_)
  generalize ((w.alloc (.cells Im.zero 35)).alloc (.cells #[.string sl, .bool false] 91)).alloc (.cells Im.zero 35) = W0 at *
  go_upto_region 4 with (go_at_call 47; ((with_reducible refine ((c1 _ G0.out.rd).out).mono ?_); rintro e w1 ⟨rfl, h1, h2⟩; have GX := Lib.hid (G0.out.sol h2 h1 HB1.out); obtain ⟨Ax, cx, hBx, _, _⟩ := GX.out.ent; have bx := (hBx.cell 0).trans ((Im.cells_g _ _ _ 0 (by omega)).trans (Gm.cells_0 _ _)); have fx := hBx.free 0; have lx := hBx.lt; clear h1 h2 c1 hBx G0))
  have GA := Lib.hid (GX.out.set 0 (.int .i64 fr) (g' := { Im.G0 with frame := fr }) (q' := Im.R0) (fun sl => Im.cells_frame _ _ _ _) rfl)
  generalize w1.setCell ⟨w.heap.size + 1 + 1, 0, none⟩ (.int .i64 fr) = W1 at *
  clear bx fx lx GX
  go_upto_region 5 with (go_at_call 48; ((with_reducible refine ((c2 _ GA.out.rd).out).mono ?_); rintro e w2 ⟨rfl, h1, h2⟩; have GX := Lib.hid (GA.out.sol h2 h1 HB2.out); obtain ⟨Ax, cx, hBx, _, _⟩ := GX.out.ent; have bx := (hBx.cell 1).trans ((Im.cells_g _ _ _ 1 (by omega)).trans (Gm.cells_1 _ _)); have fx := hBx.free 1; have lx := hBx.lt; clear h1 h2 c2 hBx GA))
  have GA := Lib.hid (GX.out.set 1 (.int .u64 dd) (g' := (⟨fr, dd, Im.ships0, []⟩ : Gm.G)) (q' := Im.R0) (fun sl => Im.cells_dice _ _ _ _) rfl)
  generalize w2.setCell ⟨w.heap.size + 1 + 1, 1, none⟩ (.int .u64 dd) = W2 at *
  clear bx fx lx GX
  go_wp2
  go_loopw [6] (fun i wr => ∃ (k : Nat) (s : Nat → Gm.Ship) (o : Option (List Int)), k ≤ 8 ∧ i = .int .i64 k ∧ (∀ j, k ≤ j → s j = Gm.Ship.none) ∧ (∀ j, Gm.tyShip (s j)) ∧ Im.Sn (Im.dec l) (Im.fShips fr dd k s) o ∧ GS w ⟨fr, dd, s, []⟩ Im.R0 o none wr) (fun i _ => 8 - (intOf i).toNat)
  case atStart => exact ⟨0, Im.ships0, o2, by omega, rfl, fun _ _ => rfl, fun _ => by show Gm.tyShip Gm.Ship.none; unfold Gm.tyShip Gm.i32 Gm.i64 Gm.Ship.none; dsimp only; omega, HST2.out, GA.out⟩
  case round =>
    obtain ⟨k, s, o, hk, rfl, hz, hty, hst, hgs⟩ := hrel
    have GG := Lib.hid hgs
    have HZ := Lib.hid hz
    have HTY := Lib.hid hty
    clear hgs hz hty GA HST2
    by_cases hlt : k < 8
    · have hk8 : (k : Int) < 8 := by omega
      have hr0 := GG.out.bytes
      have st1 := hst.num (g := fun on r => if on = 0 then Im.fShips fr dd (k + 1) (Gm.upd s k Gm.Ship.none) r else if on = 1 then (Im.rdn 4 r).bind fun a => (Im.rdn 4 a.2).bind fun b => (Im.rdn 4 b.2).bind fun c => (Im.rdn 4 c.2).bind fun e => (Im.rdn 1 e.2).bind fun h => (Im.rdn 4 h.2).bind fun t =>
        Im.fShips fr dd (k + 1) (Gm.upd s k ⟨true, IntKind.i32.wrap a.1, IntKind.i32.wrap b.1, IntKind.i32.wrap c.1, IntKind.i32.wrap e.1, h.1, t.1⟩) t.2 else none) 1 (fun r => Im.fShips_step fr dd k hlt s r)
      have ca := fun X hX => Lib.hid (rint_any 1 1 rfl o (w.heap.size + 1) X (by decide) hr0 hX)
      have hrA := Sx.rest_bytes (n := 1) hr0
      have hbA := Sx.num_lt (n := 1) hr0
      generalize Sx.rest 1 o = oA at *
      generalize Sx.num 1 o = on at *
      have HRA := Lib.hid hrA
      clear hst hr0
      go_upto_region 9 with (go_at_call 47; ((with_reducible refine ((ca _ GG.out.rd).out).mono ?_); rintro e w3 ⟨rfl, h1, h2⟩; have G3 := Lib.hid (GG.out.sol h2 h1 HRA.out); clear h1 h2 ca GG))
      by_cases hon : 1 < on
      · have d1 : decide (1 < on) = true := decide_eq_true hon
        have hne : (on != 1) = true := by simp; omega
        have HS2 := Lib.hid (show Im.Sn (Im.dec l) (Im.fShips fr dd (k + 1) s) none from st1.bad (fun r => by rw [if_neg (by omega), if_neg (by omega)]))
        obtain ⟨str, bb, hs⟩ := G3.out.rd.box
        have r0 := hs.cell 1
        have r1 : w3.cell? ⟨w.heap.size + 1, 1, none⟩ = some (.bool bb) := r0
        have r2 := hs.free 1
        have G6 := Lib.hid (G3.out.setrd (.bool true) G3.out.rd.bad (fun m hm => (by cases hm)))
        clear hs st1 hon r0
        cases bb
        all_goals
          go_wp2
          go_roundw
          case rel => exact ⟨k + 1, s, none, by omega, by go_num, fun j hj => HZ.out j (by omega), HTY.out, HS2.out, G6.out⟩
          case measure => simp [intOf]; omega
      have d1 : decide (1 < on) = false := decide_eq_false hon
      have G4 := Lib.hid (show ∀ bb, w3.cell? ⟨w.heap.size + 1, 1, none⟩ = some (.bool bb) → GS w ⟨fr, dd, s, []⟩ Im.R0 oA none (w3.setCell ⟨w.heap.size + 1, 1, none⟩ (.bool bb)) from fun bb hbb => by
        refine G3.out.setrd (.bool bb) ?_ G3.out.bytes
        cases oA with
        | none =>
          obtain ⟨str, hs⟩ := G3.out.rd
          have := (hs.cell 1).symm.trans hbb
          simp at this
          subst this
          exact ⟨str, hs.put 1 (.bool true)⟩
        | some r =>
          have hs : Box w3 (w.heap.size + 1) 91 #[.string (strOfNums r), .bool false] := G3.out.rd
          have := (hs.cell 1).symm.trans hbb
          simp at this
          subst this
          exact hs.put 1 (.bool false))
      obtain ⟨str, bb, hs⟩ := G3.out.rd.box
      have r1 : w3.cell? ⟨w.heap.size + 1, 1, none⟩ = some (.bool bb) := hs.cell 1
      have r2 := hs.free 1
      have r3 := hs.lt
      have G5 := Lib.hid (G4.out bb r1)
      clear hs G4
      by_cases hon0 : on = 0
      · subst hon0
        have HS2 := Lib.hid (show Im.Sn (Im.dec l) (Im.fShips fr dd (k + 1) s) oA from st1.to (fun r => by
          rw [if_pos rfl]
          have e : Gm.upd s k Gm.Ship.none = s := by have := Gm.upd_self s k; rwa [HZ.out k (Nat.le_refl _)] at this
          rw [e]))
        clear st1 hon
        cases bb
        all_goals
          go_wp2
          go_roundw
          case rel => exact ⟨k + 1, s, oA, by omega, by go_num, fun j hj => HZ.out j (by omega), HTY.out, HS2.out, G5.out⟩
          case measure => simp [intOf]; omega
      obtain rfl : on = 1 := by omega
      have st2 := st1.to (f' := fun r => (Im.rdn 4 r).bind fun a => (Im.rdn 4 a.2).bind fun b => (Im.rdn 4 b.2).bind fun c => (Im.rdn 4 c.2).bind fun e => (Im.rdn 1 e.2).bind fun h => (Im.rdn 4 h.2).bind fun t =>
        Im.fShips fr dd (k + 1) (Gm.upd s k ⟨true, IntKind.i32.wrap a.1, IntKind.i32.wrap b.1, IntKind.i32.wrap c.1, IntKind.i32.wrap e.1, h.1, t.1⟩) t.2) (fun r => by rw [if_neg (by omega), if_pos rfl])
      have hr0 := HRA.out
      clear st1 hon hon0
      have st3 := st2.num (g := fun a r => (Im.rdn 4 r).bind fun b2 => (Im.rdn 4 b2.2).bind fun b3 => (Im.rdn 4 b3.2).bind fun b4 => (Im.rdn 1 b4.2).bind fun b5 => (Im.rdn 4 b5.2).bind fun b6 => Im.fShips fr dd (k + 1) (Gm.upd s k ⟨true, (IntKind.i32.wrap a), (IntKind.i32.wrap b2.1), (IntKind.i32.wrap b3.1), (IntKind.i32.wrap b4.1), b5.1, b6.1⟩) b6.2) 4 (fun r => rfl)
      have ca1 := fun X hX => Lib.hid (rfour_any oA (w.heap.size + 1) X hr0 hX)
      have hr1 := Sx.rest_bytes (n := 4) hr0
      have hb1 := Sx.num_lt (n := 4) hr0
      generalize Sx.rest 4 oA = oB at *
      generalize Sx.num 4 oA = v1 at *
      have H1 := Lib.hid hr1
      have st4 := st3.num (g := fun a r => (Im.rdn 4 r).bind fun b3 => (Im.rdn 4 b3.2).bind fun b4 => (Im.rdn 1 b4.2).bind fun b5 => (Im.rdn 4 b5.2).bind fun b6 => Im.fShips fr dd (k + 1) (Gm.upd s k ⟨true, (IntKind.i32.wrap v1), (IntKind.i32.wrap a), (IntKind.i32.wrap b3.1), (IntKind.i32.wrap b4.1), b5.1, b6.1⟩) b6.2) 4 (fun r => rfl)
      have ca2 := fun X hX => Lib.hid (rfour_any oB (w.heap.size + 1) X hr1 hX)
      have hr2 := Sx.rest_bytes (n := 4) hr1
      have hb2 := Sx.num_lt (n := 4) hr1
      generalize Sx.rest 4 oB = oC at *
      generalize Sx.num 4 oB = v2 at *
      have H2 := Lib.hid hr2
      have st5 := st4.num (g := fun a r => (Im.rdn 4 r).bind fun b4 => (Im.rdn 1 b4.2).bind fun b5 => (Im.rdn 4 b5.2).bind fun b6 => Im.fShips fr dd (k + 1) (Gm.upd s k ⟨true, (IntKind.i32.wrap v1), (IntKind.i32.wrap v2), (IntKind.i32.wrap a), (IntKind.i32.wrap b4.1), b5.1, b6.1⟩) b6.2) 4 (fun r => rfl)
      have ca3 := fun X hX => Lib.hid (rfour_any oC (w.heap.size + 1) X hr2 hX)
      have hr3 := Sx.rest_bytes (n := 4) hr2
      have hb3 := Sx.num_lt (n := 4) hr2
      generalize Sx.rest 4 oC = oD at *
      generalize Sx.num 4 oC = v3 at *
      have H3 := Lib.hid hr3
      have st6 := st5.num (g := fun a r => (Im.rdn 1 r).bind fun b5 => (Im.rdn 4 b5.2).bind fun b6 => Im.fShips fr dd (k + 1) (Gm.upd s k ⟨true, (IntKind.i32.wrap v1), (IntKind.i32.wrap v2), (IntKind.i32.wrap v3), (IntKind.i32.wrap a), b5.1, b6.1⟩) b6.2) 4 (fun r => rfl)
      have ca4 := fun X hX => Lib.hid (rfour_any oD (w.heap.size + 1) X hr3 hX)
      have hr4 := Sx.rest_bytes (n := 4) hr3
      have hb4 := Sx.num_lt (n := 4) hr3
      generalize Sx.rest 4 oD = oE at *
      generalize Sx.num 4 oD = v4 at *
      have H4 := Lib.hid hr4
      have st7 := st6.num (g := fun a r => (Im.rdn 4 r).bind fun b6 => Im.fShips fr dd (k + 1) (Gm.upd s k ⟨true, (IntKind.i32.wrap v1), (IntKind.i32.wrap v2), (IntKind.i32.wrap v3), (IntKind.i32.wrap v4), a, b6.1⟩) b6.2) 1 (fun r => rfl)
      have ca5 := fun X hX => Lib.hid (rint_any 1 1 rfl oE (w.heap.size + 1) X (by decide) hr4 hX)
      have hr5 := Sx.rest_bytes (n := 1) hr4
      have hb5 := Sx.num_lt (n := 1) hr4
      generalize Sx.rest 1 oE = oF at *
      generalize Sx.num 1 oE = v5 at *
      have H5 := Lib.hid hr5
      have st8 := st7.num (g := fun a r => Im.fShips fr dd (k + 1) (Gm.upd s k ⟨true, (IntKind.i32.wrap v1), (IntKind.i32.wrap v2), (IntKind.i32.wrap v3), (IntKind.i32.wrap v4), v5, a⟩) r) 4 (fun r => rfl)
      have ca6 := fun X hX => Lib.hid (rint_any 4 4 rfl oF (w.heap.size + 1) X (by decide) hr5 hX)
      have hr6 := Sx.rest_bytes (n := 4) hr5
      have hb6 := Sx.num_lt (n := 4) hr5
      generalize Sx.rest 4 oF = oG at *
      generalize Sx.num 4 oF = v6 at *
      have H6 := Lib.hid hr6
      have HS2 := Lib.hid st8
      have HTS := Lib.hid (show Gm.tyShip ⟨true, IntKind.i32.wrap v1, IntKind.i32.wrap v2, IntKind.i32.wrap v3, IntKind.i32.wrap v4, v5, v6⟩ from tyShip_of hb5 hb6)
      generalize IntKind.i32.wrap v1 = x1 at *
      generalize IntKind.i32.wrap v2 = x2 at *
      generalize IntKind.i32.wrap v3 = x3 at *
      generalize IntKind.i32.wrap v4 = x4 at *
      clear st2 st3 st4 st5 st6 st7 st8 hr1 hb1 hr2 hb2 hr3 hb3 hr4 hb4 hr5 hb5 hr6 hb6 hr0
      cases bb
      all_goals
        go_upto_region 11 with fail
        generalize w3.setCell ⟨w.heap.size + 1, 1, none⟩ (.bool _) = W4 at *
        clear G3 r1 r2 r3
        go_upto_region 12 with (first | (refine wpList_build_is rfl (t := 24) (vs := [(0, .bool true), (1, .int .i32 x1)]) rfl rfl (ship_built1 x1) ?_) | (go_at_call 49; ((with_reducible refine ((ca1 _ G5.out.rd).out).mono ?_); rintro e w4 ⟨rfl, h1, h2⟩; have G6 := Lib.hid (G5.out.sol h2 h1 H1.out); clear h1 h2 ca1 G5)))
        have GA := Lib.hid (G6.out.mark (.cells #[.bool true, .int .i32 x1, .int .i32 0, .int .i32 0, .int .i32 0, .int .i64 0, .int .i64 0] 24))
        have QA := Lib.hid (Box.made w4 24 #[.bool true, .int .i32 x1, .int .i32 0, .int .i32 0, .int .i32 0, .int .i64 0, .int .i64 0])
        have bq1 : w.heap.size + 1 + 1 < w4.heap.size := by obtain ⟨_, _, hx, _, _⟩ := G6.out.ent; exact hx.lt
        have bq2 : w4.heap.size ≠ w.heap.size + 1 := by omega
        generalize w4.alloc (.cells #[.bool true, .int .i32 x1, .int .i32 0, .int .i32 0, .int .i32 0, .int .i64 0, .int .i64 0] 24) = W5 at *
        generalize w4.heap.size = BQ at *
        clear G6
        go_upto_region 13 with (go_at_call 49; ((with_reducible refine ((ca2 _ GA.out.rd).out).mono ?_); rintro e w6 ⟨rfl, h1, h2⟩; have GX := Lib.hid (GA.out.sol h2 h1 H2.out); have QX := Lib.hid (QA.out.sol h2 bq2); have qx := QX.out.cell; have fx := QX.out.free; have lx := QX.out.lt; clear h1 h2 ca2 GA QA))
        have GA := Lib.hid (GX.out.off QX.out (by decide) (by decide) (by omega) 2 (.int .i32 x2))
        have QA := Lib.hid (QX.out.put 2 (.int .i32 x2))
        generalize w6.setCell ⟨BQ, 2, none⟩ (.int .i32 x2) = W6 at *
        clear qx fx lx GX QX
        go_upto_region 14 with (go_at_call 49; ((with_reducible refine ((ca3 _ GA.out.rd).out).mono ?_); rintro e w7 ⟨rfl, h1, h2⟩; have GX := Lib.hid (GA.out.sol h2 h1 H3.out); have QX := Lib.hid (QA.out.sol h2 bq2); have qx := QX.out.cell; have fx := QX.out.free; have lx := QX.out.lt; clear h1 h2 ca3 GA QA))
        have GA := Lib.hid (GX.out.off QX.out (by decide) (by decide) (by omega) 3 (.int .i32 x3))
        have QA := Lib.hid (QX.out.put 3 (.int .i32 x3))
        generalize w7.setCell ⟨BQ, 3, none⟩ (.int .i32 x3) = W7 at *
        clear qx fx lx GX QX
        go_upto_region 15 with (go_at_call 49; ((with_reducible refine ((ca4 _ GA.out.rd).out).mono ?_); rintro e w8 ⟨rfl, h1, h2⟩; have GX := Lib.hid (GA.out.sol h2 h1 H4.out); have QX := Lib.hid (QA.out.sol h2 bq2); have qx := QX.out.cell; have fx := QX.out.free; have lx := QX.out.lt; clear h1 h2 ca4 GA QA))
        have GA := Lib.hid (GX.out.off QX.out (by decide) (by decide) (by omega) 4 (.int .i32 x4))
        have QA := Lib.hid (QX.out.put 4 (.int .i32 x4))
        generalize w8.setCell ⟨BQ, 4, none⟩ (.int .i32 x4) = W8 at *
        clear qx fx lx GX QX
        go_upto_region 16 with (go_at_call 47; ((with_reducible refine ((ca5 _ GA.out.rd).out).mono ?_); rintro e w9 ⟨rfl, h1, h2⟩; have GX := Lib.hid (GA.out.sol h2 h1 H5.out); have QX := Lib.hid (QA.out.sol h2 bq2); have qx := QX.out.cell; have fx := QX.out.free; have lx := QX.out.lt; clear h1 h2 ca5 GA QA))
        have GA := Lib.hid (GX.out.off QX.out (by decide) (by decide) (by omega) 5 (.int .i64 v5))
        have QA := Lib.hid (QX.out.put 5 (.int .i64 v5))
        generalize w9.setCell ⟨BQ, 5, none⟩ (.int .i64 v5) = W9 at *
        clear qx fx lx GX QX
        go_upto_region 17 with (go_at_call 47; ((with_reducible refine ((ca6 _ GA.out.rd).out).mono ?_); rintro e w10 ⟨rfl, h1, h2⟩; have GX := Lib.hid (GA.out.sol h2 h1 H6.out); have QX := Lib.hid (QA.out.sol h2 bq2); have qx := QX.out.cell; have fx := QX.out.free; have lx := QX.out.lt; clear h1 h2 ca6 GA QA))
        have GA := Lib.hid (GX.out.off QX.out (by decide) (by decide) (by omega) 6 (.int .i64 v6))
        have QA := Lib.hid (QX.out.put 6 (.int .i64 v6))
        generalize w10.setCell ⟨BQ, 6, none⟩ (.int .i64 v6) = W10 at *
        clear qx fx lx GX QX
        have QE := Lib.hid (show Box W10 BQ 24 #[.bool true, .int .i32 x1, .int .i32 x2, .int .i32 x3, .int .i32 x4, .int .i64 v5, .int .i64 v6] from QA.out)
        obtain ⟨Ax, cx, hBx, _, _⟩ := GA.out.ent
        obtain ⟨C, hC⟩ : ∃ C, C = Im.cells ⟨fr, dd, s, []⟩ (.slice Ax (Gm.G.shots ⟨fr, dd, s, []⟩).length cx) Im.R0 := ⟨_, rfl⟩
        rw [← hC] at hBx
        have qe := QE.out.cell
        have bc := hBx.cell
        have bf := hBx.free
        have bl := hBx.lt
        have ql := QE.out.lt
        have qs := HZ.out k (Nat.le_refl _)
        have q0 : C[2 + k * 7]? = some (.bool false) := by rw [hC]; exact (Im.cells_ship _ _ _ k 0 hlt (by omega)).trans (by show (s k).cells[0]? = _; rw [qs]; rfl)
        have q1 : C[2 + k * 7 + 1]? = some (.int .i32 0) := by rw [hC]; exact (Im.cells_ship _ _ _ k 1 hlt (by omega)).trans (by show (s k).cells[1]? = _; rw [qs]; rfl)
        have q2 : C[2 + k * 7 + 2]? = some (.int .i32 0) := by rw [hC]; exact (Im.cells_ship _ _ _ k 2 hlt (by omega)).trans (by show (s k).cells[2]? = _; rw [qs]; rfl)
        have q3 : C[2 + k * 7 + 3]? = some (.int .i32 0) := by rw [hC]; exact (Im.cells_ship _ _ _ k 3 hlt (by omega)).trans (by show (s k).cells[3]? = _; rw [qs]; rfl)
        have q4 : C[2 + k * 7 + 4]? = some (.int .i32 0) := by rw [hC]; exact (Im.cells_ship _ _ _ k 4 hlt (by omega)).trans (by show (s k).cells[4]? = _; rw [qs]; rfl)
        have q5 : C[2 + k * 7 + 5]? = some (.int .i64 0) := by rw [hC]; exact (Im.cells_ship _ _ _ k 5 hlt (by omega)).trans (by show (s k).cells[5]? = _; rw [qs]; rfl)
        have q6 : C[2 + k * 7 + 6]? = some (.int .i64 0) := by rw [hC]; exact (Im.cells_ship _ _ _ k 6 hlt (by omega)).trans (by show (s k).cells[6]? = _; rw [qs]; rfl)
        clear hC qs
        obtain ⟨V, hV⟩ : ∃ V, V = stored W10 (w.heap.size + 1 + 1) k ⟨true, x1, x2, x3, x4, v5, v6⟩ := ⟨_, rfl⟩
        have GV := Lib.hid (show GS w ⟨fr, dd, Gm.upd s k ⟨true, x1, x2, x3, x4, v5, v6⟩, []⟩ Im.R0 oG none V from by rw [hV]; exact (GA.out.setship hlt ⟨true, x1, x2, x3, x4, v5, v6⟩).unmark)
        simp only [stored] at hV
        have HV := Lib.hid hV
        clear hV hBx QA QE GA
        go_upto_region 7 with fail
        rw [← HV.out]
        clear HV bc bf bl qe ql q0 q1 q2 q3 q4 q5 q6
        go_wp2
        go_roundw
        case rel => exact ⟨k + 1, _, oG, by omega, by go_num, fun j hj => by rw [Gm.upd_other _ _ (by omega)]; exact HZ.out j (by omega), fun j => by (by_cases e : j = k); (rw [e, Gm.upd_same]; exact HTS.out); (rw [Gm.upd_other _ _ e]; exact HTY.out j), HS2.out, GV.out⟩
        case measure => simp [intOf]; omega
    · have hk8 : ¬ (k : Int) < 8 := by omega
      obtain rfl : k = 8 := by omega
      have hbo := GG.out.bytes
      have st1 := hst.to (fun r => Im.fShips_end fr dd s r)
      have st2 := st1.num (g := fun a r => Im.fShots fr dd s a.toNat 0 [] r) 1 (fun r => rfl)
      have cn := fun X hX => Lib.hid (rint_any 1 1 rfl o (w.heap.size + 1) X (by decide) hbo hX)
      have hb1 := Sx.rest_bytes (n := 1) hbo
      have hn := Sx.num_lt (n := 1) hbo
      generalize Sx.rest 1 o = o3 at *
      generalize Sx.num 1 o = nn at *
      obtain ⟨N, rfl⟩ := Int.eq_ofNat_of_zero_le hn.1
      rw [Int.toNat_natCast] at st2
      have hN : N < 256 := by have := hn.2; omega
      have HST3 := Lib.hid st2
      have HB3 := Lib.hid hb1
      clear st1 st2 hb1 hn hbo hst HZ
      go_wp2_with (go_at_call 47; ((with_reducible refine ((cn _ GG.out.rd).out).mono ?_); rintro e w3 ⟨rfl, h1, h2⟩; have G3 := Lib.hid (GG.out.sol h2 h1 HB3.out); clear h1 h2 cn))
      go_loopw [10] (fun i wr => ∃ (k : Nat) (acc : List Gm.Shot) (o : Option (List Int)), k ≤ N ∧ i = .int .i64 k ∧ acc.length = k ∧ (∀ x ∈ acc, Gm.tyShot x) ∧ Im.Sn (Im.dec l) (Im.fShots fr dd s N k acc) o ∧ GS w ⟨fr, dd, s, acc⟩ Im.R0 o none wr) (fun i _ => N - (intOf i).toNat)
      case atStart => exact ⟨0, [], o3, Nat.zero_le _, rfl, rfl, (fun _ h => (by cases h)), HST3.out, G3.out⟩
      case round =>
        obtain ⟨k, acc, o, hk, rfl, hacc, hat, hst, hgi⟩ := hrel
        have GG := Lib.hid hgi
        have HST := Lib.hid hst
        have HAT := Lib.hid hat
        clear hgi hst G3 HST3 hat
        go_upto_region 20 with fail
        go_cut [77] from 68 to 77 (fun b wx => b = .bool (decide (k < N ∧ o.isSome = true)) ∧ wx = wr)
        case first =>
          by_cases hlt : k < N
          · have hk8 : (k : Int) < N := by omega
            cases o with
            | none =>
              obtain ⟨s, hs⟩ := GG.out.rd
              have r1 := hs.cell 1
              have r3 := hs.lt
              go_wp2_with fail
              go_meet
              exact ⟨by simp, rfl⟩
            | some r =>
              have hs : Box wr (w.heap.size + 1) 91 #[.string (strOfNums r), .bool false] := GG.out.rd
              have r1 := hs.cell 1
              have r3 := hs.lt
              go_wp2_with fail
              go_meet
              exact ⟨by simp [hlt], rfl⟩
          · have hk8 : ¬ (k : Int) < N := by omega
            go_wp2_with fail
            go_meet
            exact ⟨by simp [hlt], rfl⟩
        case rest =>
        obtain ⟨rfl, rfl⟩ := hcut
        by_cases hgo : k < N ∧ o.isSome = true
        · rw [decide_eq_true hgo]
          obtain ⟨hlt, hso⟩ := hgo
          obtain ⟨r, rfl⟩ := Option.isSome_iff_exists.1 hso
          have hr0 := GG.out.bytes
          have st2 := HST.out.to (fun r => Im.fShots_step fr dd s N k hlt acc r)
          generalize ho0 : some r = oA at *
          have st3 := st2.num (g := fun a r => (Im.rdn 4 r).bind fun b2 => (Im.rdn 4 b2.2).bind fun b3 => (Im.rdn 4 b3.2).bind fun b4 => (Im.rdn 4 b4.2).bind fun b5 => (Im.rdn 1 b5.2).bind fun b6 => Im.fShots fr dd s N (k + 1) (acc ++ [⟨a, (IntKind.i32.wrap b2.1), (IntKind.i32.wrap b3.1), (IntKind.i32.wrap b4.1), (IntKind.i32.wrap b5.1), b6.1⟩]) b6.2) 1 (fun r => rfl)
          have ca1 := fun X hX => Lib.hid (rint_any 1 1 rfl oA (w.heap.size + 1) X (by decide) hr0 hX)
          have hr1 := Sx.rest_bytes (n := 1) hr0
          have hb1 := Sx.num_lt (n := 1) hr0
          generalize Sx.rest 1 oA = oB at *
          generalize Sx.num 1 oA = v1 at *
          have H1 := Lib.hid hr1
          have st4 := st3.num (g := fun a r => (Im.rdn 4 r).bind fun b3 => (Im.rdn 4 b3.2).bind fun b4 => (Im.rdn 4 b4.2).bind fun b5 => (Im.rdn 1 b5.2).bind fun b6 => Im.fShots fr dd s N (k + 1) (acc ++ [⟨v1, (IntKind.i32.wrap a), (IntKind.i32.wrap b3.1), (IntKind.i32.wrap b4.1), (IntKind.i32.wrap b5.1), b6.1⟩]) b6.2) 4 (fun r => rfl)
          have ca2 := fun X hX => Lib.hid (rfour_any oB (w.heap.size + 1) X hr1 hX)
          have hr2 := Sx.rest_bytes (n := 4) hr1
          have hb2 := Sx.num_lt (n := 4) hr1
          generalize Sx.rest 4 oB = oC at *
          generalize Sx.num 4 oB = v2 at *
          have H2 := Lib.hid hr2
          have st5 := st4.num (g := fun a r => (Im.rdn 4 r).bind fun b4 => (Im.rdn 4 b4.2).bind fun b5 => (Im.rdn 1 b5.2).bind fun b6 => Im.fShots fr dd s N (k + 1) (acc ++ [⟨v1, (IntKind.i32.wrap v2), (IntKind.i32.wrap a), (IntKind.i32.wrap b4.1), (IntKind.i32.wrap b5.1), b6.1⟩]) b6.2) 4 (fun r => rfl)
          have ca3 := fun X hX => Lib.hid (rfour_any oC (w.heap.size + 1) X hr2 hX)
          have hr3 := Sx.rest_bytes (n := 4) hr2
          have hb3 := Sx.num_lt (n := 4) hr2
          generalize Sx.rest 4 oC = oD at *
          generalize Sx.num 4 oC = v3 at *
          have H3 := Lib.hid hr3
          have st6 := st5.num (g := fun a r => (Im.rdn 4 r).bind fun b5 => (Im.rdn 1 b5.2).bind fun b6 => Im.fShots fr dd s N (k + 1) (acc ++ [⟨v1, (IntKind.i32.wrap v2), (IntKind.i32.wrap v3), (IntKind.i32.wrap a), (IntKind.i32.wrap b5.1), b6.1⟩]) b6.2) 4 (fun r => rfl)
          have ca4 := fun X hX => Lib.hid (rfour_any oD (w.heap.size + 1) X hr3 hX)
          have hr4 := Sx.rest_bytes (n := 4) hr3
          have hb4 := Sx.num_lt (n := 4) hr3
          generalize Sx.rest 4 oD = oE at *
          generalize Sx.num 4 oD = v4 at *
          have H4 := Lib.hid hr4
          have st7 := st6.num (g := fun a r => (Im.rdn 1 r).bind fun b6 => Im.fShots fr dd s N (k + 1) (acc ++ [⟨v1, (IntKind.i32.wrap v2), (IntKind.i32.wrap v3), (IntKind.i32.wrap v4), (IntKind.i32.wrap a), b6.1⟩]) b6.2) 4 (fun r => rfl)
          have ca5 := fun X hX => Lib.hid (rfour_any oE (w.heap.size + 1) X hr4 hX)
          have hr5 := Sx.rest_bytes (n := 4) hr4
          have hb5 := Sx.num_lt (n := 4) hr4
          generalize Sx.rest 4 oE = oF at *
          generalize Sx.num 4 oE = v5 at *
          have H5 := Lib.hid hr5
          have st8 := st7.num (g := fun a r => Im.fShots fr dd s N (k + 1) (acc ++ [⟨v1, (IntKind.i32.wrap v2), (IntKind.i32.wrap v3), (IntKind.i32.wrap v4), (IntKind.i32.wrap v5), a⟩]) r) 1 (fun r => rfl)
          have ca6 := fun X hX => Lib.hid (rint_any 1 1 rfl oF (w.heap.size + 1) X (by decide) hr5 hX)
          have hr6 := Sx.rest_bytes (n := 1) hr5
          have hb6 := Sx.num_lt (n := 1) hr5
          generalize Sx.rest 1 oF = oG at *
          generalize Sx.num 1 oF = v6 at *
          have H6 := Lib.hid hr6
          have HS2 := Lib.hid st8
          have HTS := Lib.hid (show Gm.tyShot ⟨v1, IntKind.i32.wrap v2, IntKind.i32.wrap v3, IntKind.i32.wrap v4, IntKind.i32.wrap v5, v6⟩ from tyShot_of hb1 hb6)
          generalize IntKind.i32.wrap v2 = x2 at *
          generalize IntKind.i32.wrap v3 = x3 at *
          generalize IntKind.i32.wrap v4 = x4 at *
          generalize IntKind.i32.wrap v5 = x5 at *
          clear st2 st3 st4 st5 st6 st7 st8 hr1 hb1 hr2 hb2 hr3 hb3 hr4 hb4 hr5 hb5 hr6 hb6 hr0 HST ho0 hso
          go_upto_region 23 with (first | (refine wpList_build_is rfl (t := 88) (vs := [(0, .int .i64 v1)]) rfl rfl (shot_built1 v1) ?_) | (go_at_call 47; ((with_reducible refine ((ca1 _ GG.out.rd).out).mono ?_); rintro e w4 ⟨rfl, h1, h2⟩; have G6 := Lib.hid (GG.out.sol h2 h1 H1.out); clear h1 h2 ca1 GG)))
          have GA := Lib.hid (G6.out.mark (.cells #[.int .i64 v1, .int .i32 0, .int .i32 0, .int .i32 0, .int .i32 0, .int .i64 0] 88))
          have QA := Lib.hid (Box.made w4 88 #[.int .i64 v1, .int .i32 0, .int .i32 0, .int .i32 0, .int .i32 0, .int .i64 0])
          have bq1 : w.heap.size + 1 + 1 < w4.heap.size := by obtain ⟨_, _, hx, _, _⟩ := G6.out.ent; exact hx.lt
          have bq2 : w4.heap.size ≠ w.heap.size + 1 := by omega
          generalize w4.alloc (.cells #[.int .i64 v1, .int .i32 0, .int .i32 0, .int .i32 0, .int .i32 0, .int .i64 0] 88) = W5 at *
          generalize w4.heap.size = BQ at *
          clear G6
          go_upto_region 24 with (go_at_call 49; ((with_reducible refine ((ca2 _ GA.out.rd).out).mono ?_); rintro e w6 ⟨rfl, h1, h2⟩; have GX := Lib.hid (GA.out.sol h2 h1 H2.out); have QX := Lib.hid (QA.out.sol h2 bq2); have qx := QX.out.cell; have fx := QX.out.free; have lx := QX.out.lt; clear h1 h2 ca2 GA QA))
          have GA := Lib.hid (GX.out.off QX.out (by decide) (by decide) (by omega) 1 (.int .i32 x2))
          have QA := Lib.hid (QX.out.put 1 (.int .i32 x2))
          generalize w6.setCell ⟨BQ, 1, none⟩ (.int .i32 x2) = W6 at *
          clear qx fx lx GX QX
          go_upto_region 25 with (go_at_call 49; ((with_reducible refine ((ca3 _ GA.out.rd).out).mono ?_); rintro e w7 ⟨rfl, h1, h2⟩; have GX := Lib.hid (GA.out.sol h2 h1 H3.out); have QX := Lib.hid (QA.out.sol h2 bq2); have qx := QX.out.cell; have fx := QX.out.free; have lx := QX.out.lt; clear h1 h2 ca3 GA QA))
          have GA := Lib.hid (GX.out.off QX.out (by decide) (by decide) (by omega) 2 (.int .i32 x3))
          have QA := Lib.hid (QX.out.put 2 (.int .i32 x3))
          generalize w7.setCell ⟨BQ, 2, none⟩ (.int .i32 x3) = W7 at *
          clear qx fx lx GX QX
          go_upto_region 26 with (go_at_call 49; ((with_reducible refine ((ca4 _ GA.out.rd).out).mono ?_); rintro e w8 ⟨rfl, h1, h2⟩; have GX := Lib.hid (GA.out.sol h2 h1 H4.out); have QX := Lib.hid (QA.out.sol h2 bq2); have qx := QX.out.cell; have fx := QX.out.free; have lx := QX.out.lt; clear h1 h2 ca4 GA QA))
          have GA := Lib.hid (GX.out.off QX.out (by decide) (by decide) (by omega) 3 (.int .i32 x4))
          have QA := Lib.hid (QX.out.put 3 (.int .i32 x4))
          generalize w8.setCell ⟨BQ, 3, none⟩ (.int .i32 x4) = W8 at *
          clear qx fx lx GX QX
          go_upto_region 27 with (go_at_call 49; ((with_reducible refine ((ca5 _ GA.out.rd).out).mono ?_); rintro e w9 ⟨rfl, h1, h2⟩; have GX := Lib.hid (GA.out.sol h2 h1 H5.out); have QX := Lib.hid (QA.out.sol h2 bq2); have qx := QX.out.cell; have fx := QX.out.free; have lx := QX.out.lt; clear h1 h2 ca5 GA QA))
          have GA := Lib.hid (GX.out.off QX.out (by decide) (by decide) (by omega) 4 (.int .i32 x5))
          have QA := Lib.hid (QX.out.put 4 (.int .i32 x5))
          generalize w9.setCell ⟨BQ, 4, none⟩ (.int .i32 x5) = W9 at *
          clear qx fx lx GX QX
          go_upto_region 28 with (go_at_call 47; ((with_reducible refine ((ca6 _ GA.out.rd).out).mono ?_); rintro e w10 ⟨rfl, h1, h2⟩; have GX := Lib.hid (GA.out.sol h2 h1 H6.out); have QX := Lib.hid (QA.out.sol h2 bq2); have qx := QX.out.cell; have fx := QX.out.free; have lx := QX.out.lt; clear h1 h2 ca6 GA QA))
          have GA := Lib.hid (GX.out.off QX.out (by decide) (by decide) (by omega) 5 (.int .i64 v6))
          have QA := Lib.hid (QX.out.put 5 (.int .i64 v6))
          generalize w10.setCell ⟨BQ, 5, none⟩ (.int .i64 v6) = W10 at *
          clear qx fx lx GX QX
          have QE := Lib.hid (show Box W10 BQ 88 #[.int .i64 v1, .int .i32 x2, .int .i32 x3, .int .i32 x4, .int .i32 x5, .int .i64 v6] from QA.out)
          obtain ⟨A, c, hBE, hO, _⟩ := GA.out.ent
          dsimp only at hBE hO
          rw [hacc] at hBE hO
          have n1 := (hBE.cell 58).trans ((Im.cells_g _ _ _ 58 (by omega)).trans (Gm.cells_58 _ _))
          have qe := QE.out.cell
          have ql := QE.out.lt
          have HBE := Lib.hid hBE
          have bl := hBE.lt
          have HOW := Lib.hid hO
          have sl1 := shots1 v1 x2 x3 x4 x5 v6
          obtain ⟨i0, hi0, hz0, hz1, hz2⟩ := shot_parts
          have hI := Lib.hid hi0
          have hZ := Lib.hid hz0
          have hS := Lib.hid hz1
          have hY := Lib.hid hz2
          have kB := GA.out.keep.size
          clear hBE hO hi0 hz0 hz1 hz2 QA
          go_upto_region 21 with ((with_reducible refine append_gate (t := 26) (e := 88) (size := 6) (bytes := 32) rfl rfl Try.underlying26 hI.out hZ.out hS.out hY.out rfl (by decide) ?_); refine Appends.mk (base := w.heap.size) (n := k) (xs := Gm.shotCells acc) rfl (HOW.out.alloc _) (lies_boxed (n := 1) (size := 6) (xs := [Value.int .i64 v1, .int .i32 x2, .int .i32 x3, .int .i32 x4, .int .i32 x5, .int .i64 v6]) (Box.made W10 88 #[.int .i64 v1, .int .i32 x2, .int .i32 x3, .int .i32 x4, .int .i32 x5, .int .i64 v6]) rfl) (by intro u hu; simp at hu; rcases hu with rfl | rfl | rfl | rfl | rfl | rfl <;> rfl) (by unfold maxLen; omega) (by omega) (by simp; omega) ?_; intro A7 c7 w7 own7 hg7; have OW7 := Lib.hid own7; have HG7 := Lib.hid hg7; have B7 := Lib.hid (grown_box HBE.out HOW.out (by decide) hg7); have b7 := (B7.out.cell 58).trans ((Im.cells_g _ _ _ 58 (by omega)).trans (Gm.cells_58 _ _)); have f7 := B7.out.free 58; have l7 := B7.out.lt; clear own7 hg7)
          have hlen : (acc ++ [(⟨v1, x2, x3, x4, x5, v6⟩ : Gm.Shot)]).length = k + 1 := by rw [List.length_append, hacc]; rfl
          have hcel : Gm.shotCells (acc ++ [(⟨v1, x2, x3, x4, x5, v6⟩ : Gm.Shot)]) = Gm.shotCells acc ++ [Value.int .i64 v1, .int .i32 x2, .int .i32 x3, .int .i32 x4, .int .i32 x5, .int .i64 v6] := by rw [shotCells_app]; rfl
          have G8 := Lib.hid (show GS w ⟨fr, dd, s, acc ++ [(⟨v1, x2, x3, x4, x5, v6⟩ : Gm.Shot)]⟩ Im.R0 oG none (w7.setCell ⟨w.heap.size + 1 + 1, 58, none⟩ (.slice A7 (k + 1) c7)) from by
            obtain ⟨s', b, hb⟩ := GA.out.rd.box
            refine ⟨GA.out.bytes, (grown_box GA.out.res HOW.out (by decide) HG7.out).far (p := ⟨w.heap.size + 1 + 1, 58, none⟩) (by show w.heap.size ≠ w.heap.size + 1 + 1; omega) _, (GA.out.rd.stays ((grown_box hb HOW.out (by decide) HG7.out).is.trans hb.is.symm)).off (p := ⟨w.heap.size + 1 + 1, 58, none⟩) B7.out (by decide) _, ⟨A7, c7, ?_, ?_, fun b h => (by cases h)⟩, (below_gone (GA.out.keep.alloc kB _) HG7.out (own_at HOW.out) (Nat.le_refl _)).setCell (p := ⟨w.heap.size + 1 + 1, 58, none⟩) (by show w.heap.size ≤ w.heap.size + 1 + 1; omega) _⟩
            · dsimp only
              rw [hlen]
              have := B7.out.put 58 (.slice A7 (k + 1) c7)
              rw [Im.cells_shots'] at this
              exact this
            · dsimp only
              rw [hlen, hcel]
              exact ownsRow_setCell_other (a := ⟨w.heap.size + 1 + 1, 58, none⟩) OW7.out (B7.out.unowned OW7.out (by decide)) _)
          clear n1 qe b7 f7 l7 ql bl
          go_wp2
          go_roundw
          case rel => exact ⟨k + 1, _, oG, by omega, by go_num, hlen, fun x hx => by (rcases List.mem_append.1 hx with hx | hx); (exact HAT.out x hx); (obtain rfl := List.mem_singleton.1 hx; exact HTS.out), HS2.out, G8.out⟩
          case measure => simp [intOf]; omega
        · rw [decide_eq_false hgo]
          have st3 : Im.Sn (Im.dec l) (Im.tail2 ⟨fr, dd, s, acc⟩) o := by
            cases o with
            | none => exact HST.out
            | some r =>
              obtain rfl : k = N := by
                refine Classical.byContradiction fun hne => hgo ⟨by omega, rfl⟩
              exact HST.out.to (fun r => Im.fShots_end fr dd s k acc r)
          have hbo := GG.out.bytes
          have HTG := Lib.hid (show Gm.ty ⟨fr, dd, s, acc⟩ from ⟨HTF.out.1, HTF.out.2, fun i _ => HTY.out i, fun i hi => HAT.out _ (List.getElem_mem hi)⟩)
          have H255 := Lib.hid (show acc.length ≤ 255 by omega)
          obtain ⟨g, hg⟩ : ∃ g : Gm.G, g = ⟨fr, dd, s, acc⟩ := ⟨_, rfl⟩
          have HSH := Lib.hid (show g.shots.length ≤ 255 by rw [hg]; exact H255.out)
          rw [← hg] at HTG GG st3
          have cv := fun X hX => Lib.hid (rint_any 4 4 rfl o (w.heap.size + 1) X (by decide) hbo hX)
          have st4 := st3.num (g := fun v r => Im.tail3 g 0 { Im.R0 with version := v } r) 4 (fun r => rfl)
          have hb4 := Sx.rest_bytes (n := 4) hbo
          generalize Sx.rest 4 o = p0 at *
          generalize Sx.num 4 o = vv at *
          have HB4 := Lib.hid hb4
          have HST4 := Lib.hid st4
          clear st3 st4 hb4 hbo HST hgo hg HAT HTY HTF H255 hacc
          go_upto_region 30 with (go_at_call 47; ((with_reducible refine ((cv _ GG.out.rd).out).mono ?_); rintro e w4 ⟨rfl, h1, h2⟩; have GX := Lib.hid (GG.out.sol h2 h1 HB4.out); obtain ⟨Ax, cx, hBx, _, _⟩ := GX.out.ent; have bx := (hBx.cell 59).trans ((Im.cells_r _ _ _ 0).trans (Ros.cells_0 _)); have fx := hBx.free 59; have lx := hBx.lt; clear h1 h2 cv hBx GG))
          have GA := Lib.hid (GX.out.set 59 (.int .i64 vv) (g' := g) (q' := { Im.R0 with version := vv }) (fun sl => Im.cells_version _ _ _ _) rfl)
          generalize w4.setCell ⟨w.heap.size + 1 + 1, 59, none⟩ (.int .i64 vv) = W4 at *
          clear bx fx lx GX
          go_wp2
          go_loopw [12] (fun i wx => ∃ (k : Nat) (q : Ros.R) (o : Option (List Int)), k ≤ 8 ∧ i = .int .i64 k ∧ Im.Sn (Im.dec l) (Im.tail3 g k q) o ∧ GS w g q o none wx) (fun i _ => 8 - (intOf i).toNat)
          case atStart => exact ⟨0, _, p0, Nat.zero_le _, rfl, HST4.out, GA.out⟩
          case round =>
            obtain ⟨k, q, o, hk, rfl, hst, hgs⟩ := hrel
            have GG := Lib.hid hgs
            clear hgs GA HST4
            by_cases hlt : k < 8
            · have hk8 : (k : Int) < 8 := by omega
              have hr0 := GG.out.bytes
              have st2 := hst.to (fun r => Im.tail3_step g k hlt q r)
              have st3 := st2.num (g := fun a r => (Im.rdn 2 r).bind fun b => Im.tail3 g (k + 1) (Im.setSeat q k (a - 1) b.1) b.2) 1 (fun r => rfl)
              have ca1 := fun X hX => Lib.hid (rint_any 1 1 rfl o (w.heap.size + 1) X (by decide) hr0 hX)
              have hr1 := Sx.rest_bytes (n := 1) hr0
              have hb1 := Sx.num_lt (n := 1) hr0
              generalize Sx.rest 1 o = oB at *
              generalize Sx.num 1 o = v1 at *
              have st4 := st3.num (g := fun b r => Im.tail3 g (k + 1) (Im.setSeat q k (v1 - 1) b) r) 2 (fun r => rfl)
              have ca2 := fun X hX => Lib.hid (rint_any 2 2 rfl oB (w.heap.size + 1) X (by decide) hr1 hX)
              have hr2 := Sx.rest_bytes (n := 2) hr1
              generalize Sx.rest 2 oB = oC at *
              generalize Sx.num 2 oB = v2 at *
              have H1 := Lib.hid hr1
              have H2 := Lib.hid hr2
              have HS2 := Lib.hid st4
              have hwp : IntKind.i64.wrap (v1 - 1) = v1 - 1 := by rw [IntKind.wrap_i64]; omega
              clear st2 st3 st4 hr0 hr1 hr2 hst hb1
              go_upto_region 34 with (go_at_call 47; ((with_reducible refine ((ca1 _ GG.out.rd).out).mono ?_); rintro e w5 ⟨rfl, h1, h2⟩; have GX := Lib.hid (GG.out.sol h2 h1 H1.out); obtain ⟨Ax, cx, hBx, _, _⟩ := GX.out.ent; have bx := (hBx.cell (60 + k * 2)).trans (Im.cells_peer _ _ _ k hlt); have fx := hBx.free (60 + k * 2); have lx := hBx.lt; clear h1 h2 ca1 hBx GG))
              have GA := Lib.hid (GX.out.set (60 + k * 2) (.int .i64 (v1 - 1)) (g' := g) (q' := { q with peer := Ros.upd q.peer k (v1 - 1) }) (fun sl => Im.set_peer g sl q k hlt _) rfl)
              try rw [hwp]
              generalize w5.setCell ⟨w.heap.size + 1 + 1, 60 + k * 2, none⟩ (.int .i64 (v1 - 1)) = W5 at *
              clear bx fx lx GX
              go_upto_region 32 with (go_at_call 47; ((with_reducible refine ((ca2 _ GA.out.rd).out).mono ?_); rintro e w6 ⟨rfl, h1, h2⟩; have GX := Lib.hid (GA.out.sol h2 h1 H2.out); obtain ⟨Ax, cx, hBx, _, _⟩ := GX.out.ent; have bx := (hBx.cell (60 + k * 2 + 1)).trans (Im.cells_gen _ _ _ k hlt); have fx := hBx.free (60 + k * 2 + 1); have lx := hBx.lt; clear h1 h2 ca2 hBx GA))
              have GB := Lib.hid (GX.out.set (60 + k * 2 + 1) (.int .i64 v2) (g' := g) (q' := Im.setSeat q k (v1 - 1) v2) (fun sl => Im.set_gen g sl q k hlt _ _) rfl)
              generalize w6.setCell ⟨w.heap.size + 1 + 1, 60 + k * 2 + 1, none⟩ (.int .i64 v2) = W6 at *
              clear bx fx lx GX
              go_wp2
              go_roundw
              case rel => exact ⟨k + 1, _, oC, by omega, by go_num, HS2.out, GB.out⟩
              case measure => simp [intOf]; omega
            · have hk8 : ¬ (k : Int) < 8 := by omega
              obtain rfl : k = 8 := by omega
              have hst2 : Im.Sn (Im.dec l) (fun r => some ((g, q), r)) o := hst.to (fun r => rfl)
              have hbo := GG.out.bytes
              have ce := fun X hX => Lib.hid (rend_any o (w.heap.size + 1) X hbo hX)
              obtain ⟨A, c, hBE, hO, _⟩ := GG.out.ent
              have BB := Lib.hid hBE
              have OO := Lib.hid hO
              have ZZ := Lib.hid GG.out.res
              have KK := Lib.hid GG.out.keep
              have RR := Lib.hid GG.out.rd
              have cmy := fun X hX => Lib.hid (refstate_any g q A g.shots.length c X HTG.out rfl (by have := HSH.out; unfold maxLen; omega) hX)
              have hL0 := Lib.hid (Lies.owned hO)
              clear hst hBE hO hbo GG
              obtain ⟨n, hnn⟩ : ∃ n, n = g.shots.length := ⟨_, rfl⟩
              rw [← hnn] at BB OO cmy hL0
              have HNN := Lib.hid hnn
              clear hnn
              by_cases hend : Sx.ended o = true
              · rw [hend] at ce
                have ho : o = some [] := by
                  unfold Sx.ended at hend
                  split at hend
                  · rfl
                  · cases hend
                subst ho
                have hdec : Im.dec l = some ((g, q), []) := hst2
                by_cases hok : Im.Ok g q
                · have HG := Lib.hid (Im.get_all hdec ⟨rfl, hok⟩)
                  have HOK := Lib.hid hok
                  clear hst2 hdec hok hend
                  go_wp2_with (first | ((with_reducible refine im_load_state_g ?_ rfl ?_); (focus first | rfl | kernel_rfl | simp [Region.wanted, yielded]); apply LoadIm.mk rfl; (focus (with_reducible exact BB.out)); dsimp only) | ((with_reducible refine im_load_state rfl rfl ?_); apply LoadIm.mk rfl; (focus (with_reducible exact B2.out)); dsimp only) | ((with_reducible refine blk_gate (t := 35) (size := 76) rfl rfl state_info ?_); refine StoreBlk.mk (B := w.heap.size) rfl rfl Z2.out (im_cells_one _ _ _ rfl) (Im.cells_size _ _ _) Im.zero_size ?_) | (go_at_call 50; ((with_reducible refine ((ce _ RR.out).out).mono ?_); rintro e w4 ⟨rfl, rfl⟩)) | (go_at_call 15; ((with_reducible refine ((cmy _ hL0.out).out).mono ?_); rintro e w5 ⟨⟨b, rfl, hv⟩, hb⟩; obtain rfl : b = true := hv.2 HOK.out; have B2 := Lib.hid (BB.out.below hb BB.out.lt); have Z2 := Lib.hid (ZZ.out.below hb ZZ.out.lt); have O2 := Lib.hid (own_below OO.out hb (Nat.le_refl _)); have K2 := Lib.hid (KK.out.trans (hb.mono KK.out.size)); clear hb hv)))
                  exact bodyPost_ret (results_cell_tmp rfl _ _ w.heap.size 35 _ _ rfl (Z2.out.row (Im.cells g (.slice A n c) q)) Try.underlying35 rfl (by rw [Im.cells_size]; exact state_info)) rfl (.inl ⟨g, q, A, c, HG.out, HNN.out ▸ rfl, HNN.out ▸ Lies.owned (own_setRow O2.out (Z2.out.unowned O2.out (by decide)) _), Below.setRow' K2.out (Nat.le_refl _) _⟩)
                · have HG := Lib.hid (Im.get_left hdec (fun h => hok h.2))
                  have HNO := Lib.hid hok
                  clear hst2 hdec hok hend
                  go_wp2_with (first | ((with_reducible refine im_load_state_g ?_ rfl ?_); (focus first | rfl | kernel_rfl | simp [Region.wanted, yielded]); apply LoadIm.mk rfl; (focus (with_reducible exact BB.out)); dsimp only) | (refine wpList_build_is rfl (t := 35) (vs := []) rfl rfl state_built ?_) | ((with_reducible refine blk_gate (t := 35) (size := 76) rfl rfl state_info ?_); refine StoreBlk.mk (B := w.heap.size) rfl rfl Z2.out zero_one Im.zero_size Im.zero_size ?_) | (go_at_call 50; ((with_reducible refine ((ce _ RR.out).out).mono ?_); rintro e w4 ⟨rfl, rfl⟩)) | (go_at_call 15; ((with_reducible refine ((cmy _ hL0.out).out).mono ?_); rintro e w5 ⟨⟨b, rfl, hv⟩, hb⟩; obtain rfl : b = false := (by cases b <;> first | rfl | exact absurd (hv.1 rfl) HNO.out); have B2 := Lib.hid (BB.out.below hb BB.out.lt); have Z2 := Lib.hid (ZZ.out.below hb ZZ.out.lt); have O2 := Lib.hid (own_below OO.out hb (Nat.le_refl _)); have K2 := Lib.hid (KK.out.trans (hb.mono KK.out.size)); clear hb hv)))
                  exact bodyPost_ret (results_cell_tmp rfl _ _ w.heap.size 35 _ _ rfl (Z2.out.row Im.zero) Try.underlying35 rfl (by rw [Im.zero_size]; exact state_info)) rfl (.inr ⟨HG.out, rfl, Below.setRow' K2.out (Nat.le_refl _) _⟩)
              · have hef : Sx.ended o = false := by simpa using hend
                rw [hef] at ce
                have HG := Lib.hid (show Im.get l = none from by
                  match o, hef with
                  | none, _ => exact Im.get_no hst2
                  | some (x :: r), _ => exact Im.get_left (show Im.dec l = some ((g, q), x :: r) from hst2) (fun h => by cases h.1)
                  | some [], h => cases h)
                clear hst2 hend hef
                go_wp2_with (first | (refine wpList_build_is rfl (t := 35) (vs := []) rfl rfl state_built ?_) | ((with_reducible refine blk_gate (t := 35) (size := 76) rfl rfl state_info ?_); refine StoreBlk.mk (B := w.heap.size) rfl rfl ZZ.out zero_one Im.zero_size Im.zero_size ?_) | (go_at_call 50; ((with_reducible refine ((ce _ RR.out).out).mono ?_); rintro e w4 ⟨rfl, rfl⟩)))
                exact bodyPost_ret (results_cell_tmp rfl _ _ w.heap.size 35 _ _ rfl (ZZ.out.row Im.zero) Try.underlying35 rfl (by rw [Im.zero_size]; exact state_info)) rfl (.inr ⟨HG.out, rfl, Below.setRow' KK.out (Nat.le_refl _) _⟩)
end Go.Proofs.Ytghomofakpjglaa
namespace Go.Proofs.Ytghomofakpjglaa
open Go.RowKit Go.Shelf
set_option linter.unusedVariables false
set_option linter.unusedSimpArgs false

open Classical in
/-- The number of a state, nought if it may not be. -/
noncomputable def Im.num (g : Gm.G) (r : Ros.R) : Int := if Im.Ok g r then Im.sum (Im.put g r) else 0

theorem of_any (g : Gm.G) (r : Ros.R) (A : Option Addr) (n c : Nat) (w : World) (hty : Gm.ty g) (hn : n = g.shots.length) (hn63 : n ≤ maxLen) (hr : Lies w w.heap.size 6 A n (Gm.shotCells g.shots)) :
    Calls Try.prog 22 #[.agg (Im.cells g (.slice A n c) r)] w fun e w' => e = .returned (.int .u64 (Im.num g r)) ∧ Below w.heap.size w w' := by
  unfold Im.num
  by_cases hok : Im.Ok g r
  · rw [if_pos hok]; exact of_yes g r A n c w hok hty.2.1 hn hr
  · rw [if_neg hok]; exact of_no g r A n c w hok hty hn hn63 hr

set_option maxRecDepth 100000 in
set_option maxHeartbeats 2000000 in
theorem refsumst_any (g : Gm.G) (r : Ros.R) (A : Option Addr) (n c : Nat) (w : World) (hty : Gm.ty g) (hn : n = g.shots.length) (hn63 : n ≤ maxLen) (hr : Lies w w.heap.size 6 A n (Gm.shotCells g.shots)) :
    Calls Try.prog 23 #[.agg (Im.cells g (.slice A n c) r)] w fun e w' => e = .returned (.int .u64 (Im.num g r)) ∧ Below w.heap.size w w' := by
  have P0 := Lib.hid (Box.made w 35 (Im.cells g (.slice A n c) r))
  have K0 := Lib.hid (one_below w (.cells (Im.cells g (.slice A n c) r) 35))
  have H0 := Lib.hid (hr.below K0.out)
  have cm := Lib.hid (refstate_any g r A n c _ hty hn hn63 (H0.out.wider K0.out.size))
  by_cases hok : Im.Ok g r
  · have hv : Im.num g r = Im.sum (Im.put g r) := by unfold Im.num; rw [if_pos hok]
    have cp := fun X hX => Lib.hid (refputst_yes g r A n c X hok hty.2.1 hn hX)
    have cs := fun X => Lib.hid (refseed_any (strOfNums (Im.put g r)) X (by rw [strOfNums_size]; have := Im.put_le g r hok.1.2.2.1; unfold maxLen; omega))
    rw [show Dn.seed (strOfNums (Im.put g r)).data.toList = Im.sum (Im.put g r) from rfl, ← hv] at cs
    have HOK := Lib.hid hok
    generalize Im.num g r = v at *
    generalize strOfNums (Im.put g r) = s at *
    clear hr hn hty hok hv
    go_enter Try.func23, Try.ntmps23
    go_wp2_with (first | ((with_reducible refine im_load_state rfl rfl ?_); apply LoadIm.mk rfl; (focus (with_reducible exact P0.out)); dsimp only) | ((with_reducible refine im_load_state rfl rfl ?_); apply LoadIm.mk rfl; (focus (with_reducible exact P1.out)); dsimp only) | (go_at_call 15; ((with_reducible refine (cm.out).mono ?_); rintro e w1 ⟨⟨b, rfl, hb2⟩, hb⟩; obtain rfl : b = true := hb2.2 HOK.out; have P1 := Lib.hid (P0.out.below hb P0.out.lt); have K1 := Lib.hid (K0.out.trans (hb.mono K0.out.size)); have H1 := Lib.hid (H0.out.below (hb.mono K0.out.size)); clear hb hb2)) | (go_at_call 16; ((with_reducible refine ((cp _ (H1.out.wider K1.out.size)).out).mono ?_); rintro e w2 ⟨rfl, hb⟩; have K2 := Lib.hid (K1.out.trans (hb.mono K1.out.size)); clear hb)) | (go_at_call 21; ((with_reducible refine ((cs _).out).mono ?_); rintro e w3 ⟨rfl, rfl⟩)))
    go_ret
    exact ⟨rfl, K2.out⟩
  · have hv : Im.num g r = 0 := by unfold Im.num; rw [if_neg hok]
    rw [hv]
    have HNO := Lib.hid hok
    clear hr hn hty hok hv
    go_enter Try.func23, Try.ntmps23
    go_wp2_with (first | ((with_reducible refine im_load_state rfl rfl ?_); apply LoadIm.mk rfl; (focus (with_reducible exact P0.out)); dsimp only) | (go_at_call 15; ((with_reducible refine (cm.out).mono ?_); rintro e w1 ⟨⟨b, rfl, hb2⟩, hb⟩; obtain rfl : b = false := (by cases b <;> first | rfl | exact absurd (hb2.1 rfl) HNO.out); have K1 := Lib.hid (K0.out.trans (hb.mono K0.out.size)); clear hb hb2)))
    go_ret
    exact ⟨rfl, K1.out⟩
end Go.Proofs.Ytghomofakpjglaa
namespace Go.Proofs.Ytghomofakpjglaa
open Go.RowKit Go.Shelf
set_option linter.unusedVariables false
set_option linter.unusedSimpArgs false

set_option maxRecDepth 100000 in
set_option maxHeartbeats 8000000 in
theorem asks7_law (g : Gm.G) (r : Ros.R) (A : Option Addr) (n c : Nat) (bs : List Int) (B : Option Addr) (cb : Nat) (w : World) (hty : Gm.ty g) (hn : n = g.shots.length) (hn63 : n ≤ maxLen) (hr : Lies w w.heap.size 6 A n (Gm.shotCells g.shots)) (hBy : Im.IsBytes bs) (hbc : bs.length ≤ cb) (hb63 : bs.length ≤ maxLen) (hLb : Lies w w.heap.size 1 B bs.length (Im.u8s bs)) :
    Calls Try.prog 3 #[.agg (Im.cells g (.slice A n c) r), .slice B bs.length cb] w fun e w' => e = .returned (.bool true) ∧ Below w.heap.size w w' := by
  have P0 := Lib.hid (Box.made w 35 (Im.cells g (.slice A n c) r))
  have K0 := Lib.hid (one_below w (.cells (Im.cells g (.slice A n c) r) 35))
  have LG := Lib.hid (fun X (k : Below w.heap.size w X) => (hr.below k).wider k.size)
  have LB := Lib.hid (fun X (k : Below w.heap.size w X) => (hLb.below k).wider k.size)
  have HCV := Lib.hid (fun X k => conv_bytes bs bs.length B cb X _ rfl (LB.out X k))
  have HBY := Lib.hid hBy
  have ct := fun X => Lib.hid (told7_any X)
  have cf := fun X => Lib.hid (few_any g A n c X hn63)
  have cm := fun X k => Lib.hid (refstate_any g r A n c X hty hn hn63 (LG.out X k))
  have csum := fun X k => Lib.hid (sum_any bs bs.length B cb X rfl hb63 (LB.out X k))
  have csd := fun X => Lib.hid (show Calls Try.prog 21 #[.string (strOfNums bs)] X (fun e w' => e = .returned (.int .u64 (Im.sum bs)) ∧ X = w') from refseed_any (strOfNums bs) X (by rw [strOfNums_size]; exact hb63))
  have cof := fun X k => Lib.hid (of_any g r A n c X hty hn hn63 (LG.out X k))
  have crs := fun X k => Lib.hid (refsumst_any g r A n c X hty hn hn63 (LG.out X k))
  have b63 : (bs.length : Int) ≤ 9223372036854775807 := by unfold maxLen at hb63; omega
  obtain ⟨z0, zr, hz, hz0⟩ : ∃ z0 zr, Im.zero = Im.cells z0 (.slice none 0 0) zr ∧ z0.shots = [] := ⟨Im.G0, Im.R0, rfl, rfl⟩
  have HZ := Lib.hid hz
  have HZ0 := Lib.hid hz0
  clear hr hLb hz hz0 hb63 hBy
  by_cases hfew : n ≤ 60
  rotate_left
  · rw [show decide (n ≤ 60) = false from decide_eq_false hfew] at cf
    clear hn hty cm hfew csum csd cof crs
    go_enter Try.func3, Try.ntmps3
    go_wp2_with (first | ((with_reducible refine im_load_game rfl rfl ?_); apply LoadIm.mk rfl; (focus (with_reducible exact P0.out)); dsimp only) | (go_at_call 12; ((with_reducible refine ((cf _).out).mono ?_); rintro r' w1 ⟨rfl, hb⟩; have P1 := Lib.hid (P0.out.below hb P0.out.lt); have K1 := Lib.hid (K0.out.trans (hb.mono K0.out.size)); clear hb)) | (go_at_call 13; ((with_reducible refine ((ct _).out).mono ?_); rintro r' w9 ⟨rfl, hb⟩; have K2 := Lib.hid (K1.out.trans (hb.mono K1.out.size)); clear hb)))
    go_ret
    exact ⟨rfl, K2.out⟩
  rw [show decide (n ≤ 60) = true from decide_eq_true hfew] at cf
  by_cases h9 : 900 < (bs.length : Int)
  · have d9 : decide (900 < (bs.length : Int)) = true := decide_eq_true h9
    clear hn hty cm hfew csum csd cof crs h9
    go_enter Try.func3, Try.ntmps3
    go_wp2_with (first | ((with_reducible refine im_load_game rfl rfl ?_); apply LoadIm.mk rfl; (focus (with_reducible exact P0.out)); dsimp only) | (go_at_call 12; ((with_reducible refine ((cf _).out).mono ?_); rintro r' w1 ⟨rfl, hb⟩; have P1 := Lib.hid (P0.out.below hb P0.out.lt); have K1 := Lib.hid (K0.out.trans (hb.mono K0.out.size)); clear hb)) | (go_at_call 13; ((with_reducible refine ((ct _).out).mono ?_); rintro r' w9 ⟨rfl, hb⟩; have K2 := Lib.hid (K1.out.trans (hb.mono K1.out.size)); clear hb)))
    go_ret
    exact ⟨rfl, K2.out⟩
  have d9 : decide (900 < (bs.length : Int)) = false := decide_eq_false h9
  by_cases hok : Im.Ok g r
  · have cp := fun X k => Lib.hid (put_yes g r A n c X hok hty.2.1 hn (LG.out X k))
    have cpr := fun X k => Lib.hid (refputst_yes g r A n c X hok hty.2.1 hn (LG.out X k))
    have HOK := Lib.hid hok
    clear hn hty hok hfew h9
    go_enter Try.func3, Try.ntmps3
    go_upto_region 5 with (first | ((with_reducible refine im_load_game rfl rfl ?_); apply LoadIm.mk rfl; (focus (with_reducible exact P0.out)); dsimp only) | (go_at_call 12; ((with_reducible refine ((cf _).out).mono ?_); rintro r' w1 ⟨rfl, hb⟩; have P1 := Lib.hid (P0.out.below hb P0.out.lt); have K1 := Lib.hid (K0.out.trans (hb.mono K0.out.size)); clear hb)) | ((with_reducible refine im_load_state rfl rfl ?_); apply LoadIm.mk rfl; (focus first | (with_reducible exact P2.out) | (with_reducible exact P1.out)); dsimp only) | (go_at_call 14; ((with_reducible refine ((cp _ K1.out).out).mono ?_); rintro r' w2 ⟨A2, c2, rfl, hL, hb⟩; have P2 := Lib.hid (P1.out.below hb P1.out.lt); have K2 := Lib.hid (K1.out.trans (hb.mono K1.out.size)); have L2 := Lib.hid hL; clear hb hL)) | (go_at_call 15; ((with_reducible refine ((cm _ K2.out).out).mono ?_); rintro r' w4 ⟨⟨b, rfl, hb2⟩, hb⟩; obtain rfl : b = true := hb2.2 HOK.out; have P4 := Lib.hid (P2.out.below hb P2.out.lt); have K4 := Lib.hid (K2.out.trans (hb.mono K2.out.size)); have L4 := Lib.hid ((L2.out.below hb).wider hb.size); clear hb hb2)))
    have CPR := Lib.hid (fun q : Ext w4.heap.size w4 => (cpr q.w (K4.out.trans (q.h.mono K4.out.size))).out)
    have ZP := Lib.hid (fun q : Ext w4.heap.size w4 => P4.out.below q.h P4.out.lt)
    have zcv : ∀ q : Ext w4.heap.size w4, (convert 36 9 (.slice A2 (Im.put g r).length c2)).run Try.prog q.w = .ok (.string (strOfNums (Im.put g r))) q.w := fun q => conv_bytes (Im.put g r) (Im.put g r).length A2 c2 q.w _ rfl (L4.out.below q.h)
    generalize strOfNums (Im.put g r) = sp at *
    generalize (Im.put g r).length = np at *
    refine wp_region_ext w4.heap.size w4 (by kernel_rfl) (by kernel_rfl) (Below.refl _ _) ?_
    repeat (first | (go_big_quiet_want; (first | (refine quiet_state rfl rfl ZP.out ?_)); simp only [Act.put, List.setIfInBounds_toArray, List.set_cons_succ, List.set_cons_zero]; go_big_quiet_on) | go_big_quiet_step ((first | (go_at_call 16; with_reducible exact Calls.ext_of (Nat.le_refl _) (CPR.out _)))))
    refine wpQuiet_nil ?_
    intro _ hw'
    obtain ⟨q5, hw''⟩ := hw'
    subst hw''
    have P5 := Lib.hid (ZP.out q5)
    have K5 := Lib.hid (K4.out.trans (q5.h.mono K4.out.size))
    clear CPR ZP zcv cpr L4 cp cm
    have cg := Lib.hid (imget_say z0 zr HZ.out bs B bs.length cb _ rfl hbc HBY.out (LB.out _ K5.out))
    go_upto_region 10 with (first | (with_reducible refine alloc_state rfl rfl ?_) | (with_reducible refine state_store_new rfl rfl rfl rfl Im.zero_size rfl ?_) | (go_at_call 17; ((with_reducible refine (cg.out).mono ?_); rintro r' w6 (⟨y, yr, S2, hgt, rfl, hE, hb⟩ | ⟨hgt, rfl, hb⟩); (all_goals first | (have Y6 := Lib.hid (Box.made w6 35 (Im.cells y (.slice (some ⟨S2, 0, none⟩) y.shots.length y.shots.length) yr)); have E6 := Lib.hid (hE.alloc (.cells (Im.cells y (.slice (some ⟨S2, 0, none⟩) y.shots.length y.shots.length) yr) 35)); have P6 := Lib.hid ((P5.out.below hb P5.out.lt).alloc (.cells (Im.cells y (.slice (some ⟨S2, 0, none⟩) y.shots.length y.shots.length) yr) 35)); have K6 := Lib.hid ((K5.out.trans (hb.mono K5.out.size)).alloc (Nat.le_trans K5.out.size hb.size) (.cells (Im.cells y (.slice (some ⟨S2, 0, none⟩) y.shots.length y.shots.length) yr) 35)); have HG := Lib.hid hgt; clear hb hE hgt cg) | (have Y6 := Lib.hid (Box.made w6 35 (Im.cells z0 (.slice none 0 0) zr)); have P6 := Lib.hid ((P5.out.below hb P5.out.lt).alloc (.cells (Im.cells z0 (.slice none 0 0) zr) 35)); have K6 := Lib.hid ((K5.out.trans (hb.mono K5.out.size)).alloc (Nat.le_trans K5.out.size hb.size) (.cells (Im.cells z0 (.slice none 0 0) zr) 35)); have HG := Lib.hid hgt; clear hb hgt cg)))))
    · skip
      have y32 := (Im.get_some HBY.out HG.out).1.1.2.2.1
      have y63 : y.shots.length ≤ maxLen := by unfold maxLen; omega
      have hcv := HCV.out _ K6.out
      have crg := fun X => Lib.hid (show Calls Try.prog 18 #[.string (strOfNums bs)] X (fun r' w' => ∃ A8 c8, r' = .returned (.tuple #[.agg (Im.cells y (.slice A8 y.shots.length c8) yr), .int .i64 0]) ∧ Lies w' w'.heap.size 6 A8 y.shots.length (Gm.shotCells y.shots) ∧ Below X.heap.size X w') from (refgetst_any bs X HBY.out).mono (fun r' w' h => by
        rcases h with ⟨g', q', A8, c8, h1, h2⟩ | ⟨h1, _⟩
        · rw [HG.out] at h1; injection h1 with h1; injection h1 with e1 e2; subst e1 e2; exact ⟨A8, c8, h2⟩
        · rw [HG.out] at h1; cases h1))
      obtain ⟨sb, hsb⟩ : ∃ sb, sb = strOfNums bs := ⟨_, rfl⟩
      rw [← hsb] at hcv
      simp only [← hsb] at crg
      have HSB := Lib.hid hsb
      clear hsb
      go_upto_region 11 with (first | (with_reducible refine alloc_state rfl rfl ?_) | (with_reducible refine state_store_new rfl rfl rfl rfl Im.zero_size rfl ?_) | (go_at_call 18; ((with_reducible refine ((crg _).out).mono ?_); rintro r' w8 ⟨A8, c8, rfl, hL8, hb⟩; have Y8 := Lib.hid ((Y6.out.below hb Y6.out.lt).alloc (.cells (Im.cells y (.slice A8 y.shots.length c8) yr) 35)); have E8 := Lib.hid ((E6.out.below hb E6.out.lt).alloc (.cells (Im.cells y (.slice A8 y.shots.length c8) yr) 35)); have Z8 := Lib.hid (Box.made w8 35 (Im.cells y (.slice A8 y.shots.length c8) yr)); have L8 := Lib.hid ((hL8.below (one_below w8 (.cells (Im.cells y (.slice A8 y.shots.length c8) yr) 35))).wider (one_below w8 (.cells (Im.cells y (.slice A8 y.shots.length c8) yr) 35)).size); have P8 := Lib.hid ((P6.out.below hb P6.out.lt).alloc (.cells (Im.cells y (.slice A8 y.shots.length c8) yr) 35)); have K8 := Lib.hid ((K6.out.trans (hb.mono K6.out.size)).alloc (Nat.le_trans K6.out.size hb.size) (.cells (Im.cells y (.slice A8 y.shots.length c8) yr) 35)); clear hb hL8 crg)))
      generalize w8.alloc (.cells (Im.cells y (.slice A8 y.shots.length c8) yr) 35) = W8 at *
      have SM := Lib.hid (fun q : Ext W8.heap.size W8 => (refsamest_any y y yr yr (some ⟨S2, 0, none⟩) A8 y.shots.length y.shots.length y.shots.length c8 q.w rfl rfl (lies_boxed (E8.out.below q.h E8.out.lt) (Gm.shotCells_len _)) ((L8.out.below q.h).wider q.h.size) y63 y63).mono (fun r' w' h => show r' = .returned (.bool true) ∧ Below q.w.heap.size q.w w' by obtain ⟨⟨v, h1, h2⟩, h3⟩ := h; obtain rfl : v = true := h2.2 ⟨Gm.Eq.refl y, rfl, fun _ _ => ⟨rfl, rfl⟩⟩; exact ⟨h1, h3⟩))
      have SU := Lib.hid (fun q : Ext W8.heap.size W8 => (csum q.w (K8.out.trans (q.h.mono K8.out.size))).out)
      have SD := Lib.hid (fun q : Ext W8.heap.size W8 => show Calls Try.prog 21 #[.string sb] q.w (fun e w' => e = .returned (.int .u64 (Im.sum bs)) ∧ q.w = w') by rw [HSB.out]; exact (csd q.w).out)
      have SO := Lib.hid (fun q : Ext W8.heap.size W8 => (cof q.w (K8.out.trans (q.h.mono K8.out.size))).out)
      have SR := Lib.hid (fun q : Ext W8.heap.size W8 => (crs q.w (K8.out.trans (q.h.mono K8.out.size))).out)
      generalize Im.sum bs = sm at *
      generalize Im.num g r = nm at *
      have ZP := Lib.hid (fun q : Ext W8.heap.size W8 => P8.out.below q.h P8.out.lt)
      have ZY := Lib.hid (fun q : Ext W8.heap.size W8 => Y8.out.below q.h Y8.out.lt)
      have ZW := Lib.hid (fun q : Ext W8.heap.size W8 => Z8.out.below q.h Z8.out.lt)
      have zcv : ∀ q : Ext W8.heap.size W8, (convert 36 9 (.slice B bs.length cb)).run Try.prog q.w = .ok (.string sb) q.w := fun q => by rw [HSB.out]; exact HCV.out q.w (K8.out.trans (q.h.mono K8.out.size))
      clear hcv csum csd cof crs
      refine wp_region_ext W8.heap.size W8 (by kernel_rfl) (by kernel_rfl) (Below.refl _ _) ?_
      repeat (first | (go_big_quiet_want; (first | (refine quiet_state rfl rfl ZP.out ?_) | (refine quiet_state rfl rfl ZY.out ?_) | (refine quiet_state rfl rfl ZW.out ?_)); simp only [Act.put, List.setIfInBounds_toArray, List.set_cons_succ, List.set_cons_zero]; go_big_quiet_on) | go_big_quiet_step ((first | (go_at_call 13; with_reducible exact Calls.ext_of (Nat.le_refl _) ((ct _).out)) | (go_at_call 19; with_reducible exact Calls.ext_of (Nat.le_refl _) (SM.out _)) | (go_at_call 20; with_reducible exact Calls.ext_of (Nat.le_refl _) (SU.out _)) | (go_at_call 21; with_reducible exact Calls.ext_same (SD.out _)) | (go_at_call 22; with_reducible exact Calls.ext_of (Nat.le_refl _) (SO.out _)) | (go_at_call 23; with_reducible exact Calls.ext_of (Nat.le_refl _) (SR.out _)))))
      refine wpQuiet_nil ?_
      intro _ hw'
      obtain ⟨q5, hw''⟩ := hw'
      subst hw''
      have K9 := Lib.hid (K8.out.trans (q5.h.mono K8.out.size))
      clear SM SU SD SO SR ZP ZY ZW zcv
      go_wp2
      go_ret
      exact ⟨ret_bool (by simp), K9.out⟩
    · skip
      have hcv := HCV.out _ K6.out
      have crg := fun X => Lib.hid (show Calls Try.prog 18 #[.string (strOfNums bs)] X (fun r' w' => r' = .returned (.tuple #[.agg (Im.cells z0 (.slice none 0 0) zr), .int .i64 2]) ∧ Below X.heap.size X w') from (refgetst_any bs X HBY.out).mono (fun r' w' h => by
        rcases h with ⟨g', q', A8, c8, h1, h2⟩ | ⟨_, h1⟩
        · rw [HG.out] at h1; cases h1
        · rw [← HZ.out]; exact h1))
      obtain ⟨sb, hsb⟩ : ∃ sb, sb = strOfNums bs := ⟨_, rfl⟩
      rw [← hsb] at hcv
      simp only [← hsb] at crg
      have HSB := Lib.hid hsb
      clear hsb
      go_upto_region 11 with (first | (with_reducible refine alloc_state rfl rfl ?_) | (with_reducible refine state_store_new rfl rfl rfl rfl Im.zero_size rfl ?_) | (go_at_call 18; ((with_reducible refine ((crg _).out).mono ?_); rintro r' w8 ⟨rfl, hb⟩; have Y8 := Lib.hid ((Y6.out.below hb Y6.out.lt).alloc (.cells (Im.cells z0 (.slice none 0 0) zr) 35)); have Z8 := Lib.hid (Box.made w8 35 (Im.cells z0 (.slice none 0 0) zr)); have P8 := Lib.hid ((P6.out.below hb P6.out.lt).alloc (.cells (Im.cells z0 (.slice none 0 0) zr) 35)); have K8 := Lib.hid ((K6.out.trans (hb.mono K6.out.size)).alloc (Nat.le_trans K6.out.size hb.size) (.cells (Im.cells z0 (.slice none 0 0) zr) 35)); clear hb crg)))
      generalize w8.alloc (.cells (Im.cells z0 (.slice none 0 0) zr) 35) = W8 at *
      have SM := Lib.hid (fun q : Ext W8.heap.size W8 => (refsamest_any z0 z0 zr zr none none 0 0 0 0 q.w (by rw [HZ0.out]; rfl) (by rw [HZ0.out]; rfl) (by rw [HZ0.out]; exact Lies.empty) (by rw [HZ0.out]; exact Lies.empty) (Nat.zero_le _) (Nat.zero_le _)).mono (fun r' w' h => show r' = .returned (.bool true) ∧ Below q.w.heap.size q.w w' by obtain ⟨⟨v, h1, h2⟩, h3⟩ := h; obtain rfl : v = true := h2.2 ⟨Gm.Eq.refl z0, rfl, fun _ _ => ⟨rfl, rfl⟩⟩; exact ⟨h1, h3⟩))
      have SU := Lib.hid (fun q : Ext W8.heap.size W8 => (csum q.w (K8.out.trans (q.h.mono K8.out.size))).out)
      have SD := Lib.hid (fun q : Ext W8.heap.size W8 => show Calls Try.prog 21 #[.string sb] q.w (fun e w' => e = .returned (.int .u64 (Im.sum bs)) ∧ q.w = w') by rw [HSB.out]; exact (csd q.w).out)
      have SO := Lib.hid (fun q : Ext W8.heap.size W8 => (cof q.w (K8.out.trans (q.h.mono K8.out.size))).out)
      have SR := Lib.hid (fun q : Ext W8.heap.size W8 => (crs q.w (K8.out.trans (q.h.mono K8.out.size))).out)
      generalize Im.sum bs = sm at *
      generalize Im.num g r = nm at *
      have ZP := Lib.hid (fun q : Ext W8.heap.size W8 => P8.out.below q.h P8.out.lt)
      have ZY := Lib.hid (fun q : Ext W8.heap.size W8 => Y8.out.below q.h Y8.out.lt)
      have ZW := Lib.hid (fun q : Ext W8.heap.size W8 => Z8.out.below q.h Z8.out.lt)
      have zcv : ∀ q : Ext W8.heap.size W8, (convert 36 9 (.slice B bs.length cb)).run Try.prog q.w = .ok (.string sb) q.w := fun q => by rw [HSB.out]; exact HCV.out q.w (K8.out.trans (q.h.mono K8.out.size))
      clear hcv csum csd cof crs
      refine wp_region_ext W8.heap.size W8 (by kernel_rfl) (by kernel_rfl) (Below.refl _ _) ?_
      repeat (first | (go_big_quiet_want; (first | (refine quiet_state rfl rfl ZP.out ?_) | (refine quiet_state rfl rfl ZY.out ?_) | (refine quiet_state rfl rfl ZW.out ?_)); simp only [Act.put, List.setIfInBounds_toArray, List.set_cons_succ, List.set_cons_zero]; go_big_quiet_on) | go_big_quiet_step ((first | (go_at_call 13; with_reducible exact Calls.ext_of (Nat.le_refl _) ((ct _).out)) | (go_at_call 19; with_reducible exact Calls.ext_of (Nat.le_refl _) (SM.out _)) | (go_at_call 20; with_reducible exact Calls.ext_of (Nat.le_refl _) (SU.out _)) | (go_at_call 21; with_reducible exact Calls.ext_same (SD.out _)) | (go_at_call 22; with_reducible exact Calls.ext_of (Nat.le_refl _) (SO.out _)) | (go_at_call 23; with_reducible exact Calls.ext_of (Nat.le_refl _) (SR.out _)))))
      refine wpQuiet_nil ?_
      intro _ hw'
      obtain ⟨q5, hw''⟩ := hw'
      subst hw''
      have K9 := Lib.hid (K8.out.trans (q5.h.mono K8.out.size))
      clear SM SU SD SO SR ZP ZY ZW zcv
      go_wp2
      go_ret
      exact ⟨ret_bool (by simp), K9.out⟩
  · have cp := fun X k => Lib.hid (put_no g r A n c X hok hty hn hn63 (LG.out X k))
    have HNO := Lib.hid hok
    clear hn hty hok hfew h9
    go_enter Try.func3, Try.ntmps3
    go_upto_region 9 with (first | ((with_reducible refine im_load_game rfl rfl ?_); apply LoadIm.mk rfl; (focus (with_reducible exact P0.out)); dsimp only) | (go_at_call 12; ((with_reducible refine ((cf _).out).mono ?_); rintro r' w1 ⟨rfl, hb⟩; have P1 := Lib.hid (P0.out.below hb P0.out.lt); have K1 := Lib.hid (K0.out.trans (hb.mono K0.out.size)); clear hb)) | ((with_reducible refine im_load_state rfl rfl ?_); apply LoadIm.mk rfl; (focus first | (with_reducible exact P2.out) | (with_reducible exact P1.out)); dsimp only) | (go_at_call 14; ((with_reducible refine ((cp _ K1.out).out).mono ?_); rintro r' w2 ⟨rfl, hb⟩; have P2 := Lib.hid (P1.out.below hb P1.out.lt); have K2 := Lib.hid (K1.out.trans (hb.mono K1.out.size)); clear hb)) | (go_at_call 15; ((with_reducible refine ((cm _ K2.out).out).mono ?_); rintro r' w4 ⟨⟨b, rfl, hb2⟩, hb⟩; obtain rfl : b = false := (by cases b <;> first | rfl | exact absurd (hb2.1 rfl) HNO.out); have P4 := Lib.hid (P2.out.below hb P2.out.lt); have K4 := Lib.hid (K2.out.trans (hb.mono K2.out.size)); clear hb hb2)))
    clear cp cm
    have cg := Lib.hid (imget_say z0 zr HZ.out bs B bs.length cb _ rfl hbc HBY.out (LB.out _ K4.out))
    go_upto_region 10 with (first | (with_reducible refine alloc_state rfl rfl ?_) | (with_reducible refine state_store_new rfl rfl rfl rfl Im.zero_size rfl ?_) | (go_at_call 17; ((with_reducible refine (cg.out).mono ?_); rintro r' w6 (⟨y, yr, S2, hgt, rfl, hE, hb⟩ | ⟨hgt, rfl, hb⟩); (all_goals first | (have Y6 := Lib.hid (Box.made w6 35 (Im.cells y (.slice (some ⟨S2, 0, none⟩) y.shots.length y.shots.length) yr)); have E6 := Lib.hid (hE.alloc (.cells (Im.cells y (.slice (some ⟨S2, 0, none⟩) y.shots.length y.shots.length) yr) 35)); have P6 := Lib.hid ((P4.out.below hb P4.out.lt).alloc (.cells (Im.cells y (.slice (some ⟨S2, 0, none⟩) y.shots.length y.shots.length) yr) 35)); have K6 := Lib.hid ((K4.out.trans (hb.mono K4.out.size)).alloc (Nat.le_trans K4.out.size hb.size) (.cells (Im.cells y (.slice (some ⟨S2, 0, none⟩) y.shots.length y.shots.length) yr) 35)); have HG := Lib.hid hgt; clear hb hE hgt cg) | (have Y6 := Lib.hid (Box.made w6 35 (Im.cells z0 (.slice none 0 0) zr)); have P6 := Lib.hid ((P4.out.below hb P4.out.lt).alloc (.cells (Im.cells z0 (.slice none 0 0) zr) 35)); have K6 := Lib.hid ((K4.out.trans (hb.mono K4.out.size)).alloc (Nat.le_trans K4.out.size hb.size) (.cells (Im.cells z0 (.slice none 0 0) zr) 35)); have HG := Lib.hid hgt; clear hb hgt cg)))))
    · skip
      have y32 := (Im.get_some HBY.out HG.out).1.1.2.2.1
      have y63 : y.shots.length ≤ maxLen := by unfold maxLen; omega
      have hcv := HCV.out _ K6.out
      have crg := fun X => Lib.hid (show Calls Try.prog 18 #[.string (strOfNums bs)] X (fun r' w' => ∃ A8 c8, r' = .returned (.tuple #[.agg (Im.cells y (.slice A8 y.shots.length c8) yr), .int .i64 0]) ∧ Lies w' w'.heap.size 6 A8 y.shots.length (Gm.shotCells y.shots) ∧ Below X.heap.size X w') from (refgetst_any bs X HBY.out).mono (fun r' w' h => by
        rcases h with ⟨g', q', A8, c8, h1, h2⟩ | ⟨h1, _⟩
        · rw [HG.out] at h1; injection h1 with h1; injection h1 with e1 e2; subst e1 e2; exact ⟨A8, c8, h2⟩
        · rw [HG.out] at h1; cases h1))
      obtain ⟨sb, hsb⟩ : ∃ sb, sb = strOfNums bs := ⟨_, rfl⟩
      rw [← hsb] at hcv
      simp only [← hsb] at crg
      have HSB := Lib.hid hsb
      clear hsb
      go_upto_region 11 with (first | (with_reducible refine alloc_state rfl rfl ?_) | (with_reducible refine state_store_new rfl rfl rfl rfl Im.zero_size rfl ?_) | (go_at_call 18; ((with_reducible refine ((crg _).out).mono ?_); rintro r' w8 ⟨A8, c8, rfl, hL8, hb⟩; have Y8 := Lib.hid ((Y6.out.below hb Y6.out.lt).alloc (.cells (Im.cells y (.slice A8 y.shots.length c8) yr) 35)); have E8 := Lib.hid ((E6.out.below hb E6.out.lt).alloc (.cells (Im.cells y (.slice A8 y.shots.length c8) yr) 35)); have Z8 := Lib.hid (Box.made w8 35 (Im.cells y (.slice A8 y.shots.length c8) yr)); have L8 := Lib.hid ((hL8.below (one_below w8 (.cells (Im.cells y (.slice A8 y.shots.length c8) yr) 35))).wider (one_below w8 (.cells (Im.cells y (.slice A8 y.shots.length c8) yr) 35)).size); have P8 := Lib.hid ((P6.out.below hb P6.out.lt).alloc (.cells (Im.cells y (.slice A8 y.shots.length c8) yr) 35)); have K8 := Lib.hid ((K6.out.trans (hb.mono K6.out.size)).alloc (Nat.le_trans K6.out.size hb.size) (.cells (Im.cells y (.slice A8 y.shots.length c8) yr) 35)); clear hb hL8 crg)))
      generalize w8.alloc (.cells (Im.cells y (.slice A8 y.shots.length c8) yr) 35) = W8 at *
      have SM := Lib.hid (fun q : Ext W8.heap.size W8 => (refsamest_any y y yr yr (some ⟨S2, 0, none⟩) A8 y.shots.length y.shots.length y.shots.length c8 q.w rfl rfl (lies_boxed (E8.out.below q.h E8.out.lt) (Gm.shotCells_len _)) ((L8.out.below q.h).wider q.h.size) y63 y63).mono (fun r' w' h => show r' = .returned (.bool true) ∧ Below q.w.heap.size q.w w' by obtain ⟨⟨v, h1, h2⟩, h3⟩ := h; obtain rfl : v = true := h2.2 ⟨Gm.Eq.refl y, rfl, fun _ _ => ⟨rfl, rfl⟩⟩; exact ⟨h1, h3⟩))
      have SU := Lib.hid (fun q : Ext W8.heap.size W8 => (csum q.w (K8.out.trans (q.h.mono K8.out.size))).out)
      have SD := Lib.hid (fun q : Ext W8.heap.size W8 => show Calls Try.prog 21 #[.string sb] q.w (fun e w' => e = .returned (.int .u64 (Im.sum bs)) ∧ q.w = w') by rw [HSB.out]; exact (csd q.w).out)
      have SO := Lib.hid (fun q : Ext W8.heap.size W8 => (cof q.w (K8.out.trans (q.h.mono K8.out.size))).out)
      have SR := Lib.hid (fun q : Ext W8.heap.size W8 => (crs q.w (K8.out.trans (q.h.mono K8.out.size))).out)
      generalize Im.sum bs = sm at *
      generalize Im.num g r = nm at *
      have ZP := Lib.hid (fun q : Ext W8.heap.size W8 => P8.out.below q.h P8.out.lt)
      have ZY := Lib.hid (fun q : Ext W8.heap.size W8 => Y8.out.below q.h Y8.out.lt)
      have ZW := Lib.hid (fun q : Ext W8.heap.size W8 => Z8.out.below q.h Z8.out.lt)
      have zcv : ∀ q : Ext W8.heap.size W8, (convert 36 9 (.slice B bs.length cb)).run Try.prog q.w = .ok (.string sb) q.w := fun q => by rw [HSB.out]; exact HCV.out q.w (K8.out.trans (q.h.mono K8.out.size))
      clear hcv csum csd cof crs
      refine wp_region_ext W8.heap.size W8 (by kernel_rfl) (by kernel_rfl) (Below.refl _ _) ?_
      repeat (first | (go_big_quiet_want; (first | (refine quiet_state rfl rfl ZP.out ?_) | (refine quiet_state rfl rfl ZY.out ?_) | (refine quiet_state rfl rfl ZW.out ?_)); simp only [Act.put, List.setIfInBounds_toArray, List.set_cons_succ, List.set_cons_zero]; go_big_quiet_on) | go_big_quiet_step ((first | (go_at_call 13; with_reducible exact Calls.ext_of (Nat.le_refl _) ((ct _).out)) | (go_at_call 19; with_reducible exact Calls.ext_of (Nat.le_refl _) (SM.out _)) | (go_at_call 20; with_reducible exact Calls.ext_of (Nat.le_refl _) (SU.out _)) | (go_at_call 21; with_reducible exact Calls.ext_same (SD.out _)) | (go_at_call 22; with_reducible exact Calls.ext_of (Nat.le_refl _) (SO.out _)) | (go_at_call 23; with_reducible exact Calls.ext_of (Nat.le_refl _) (SR.out _)))))
      refine wpQuiet_nil ?_
      intro _ hw'
      obtain ⟨q5, hw''⟩ := hw'
      subst hw''
      have K9 := Lib.hid (K8.out.trans (q5.h.mono K8.out.size))
      clear SM SU SD SO SR ZP ZY ZW zcv
      go_wp2
      go_ret
      exact ⟨ret_bool (by simp), K9.out⟩
    · skip
      have hcv := HCV.out _ K6.out
      have crg := fun X => Lib.hid (show Calls Try.prog 18 #[.string (strOfNums bs)] X (fun r' w' => r' = .returned (.tuple #[.agg (Im.cells z0 (.slice none 0 0) zr), .int .i64 2]) ∧ Below X.heap.size X w') from (refgetst_any bs X HBY.out).mono (fun r' w' h => by
        rcases h with ⟨g', q', A8, c8, h1, h2⟩ | ⟨_, h1⟩
        · rw [HG.out] at h1; cases h1
        · rw [← HZ.out]; exact h1))
      obtain ⟨sb, hsb⟩ : ∃ sb, sb = strOfNums bs := ⟨_, rfl⟩
      rw [← hsb] at hcv
      simp only [← hsb] at crg
      have HSB := Lib.hid hsb
      clear hsb
      go_upto_region 11 with (first | (with_reducible refine alloc_state rfl rfl ?_) | (with_reducible refine state_store_new rfl rfl rfl rfl Im.zero_size rfl ?_) | (go_at_call 18; ((with_reducible refine ((crg _).out).mono ?_); rintro r' w8 ⟨rfl, hb⟩; have Y8 := Lib.hid ((Y6.out.below hb Y6.out.lt).alloc (.cells (Im.cells z0 (.slice none 0 0) zr) 35)); have Z8 := Lib.hid (Box.made w8 35 (Im.cells z0 (.slice none 0 0) zr)); have P8 := Lib.hid ((P6.out.below hb P6.out.lt).alloc (.cells (Im.cells z0 (.slice none 0 0) zr) 35)); have K8 := Lib.hid ((K6.out.trans (hb.mono K6.out.size)).alloc (Nat.le_trans K6.out.size hb.size) (.cells (Im.cells z0 (.slice none 0 0) zr) 35)); clear hb crg)))
      generalize w8.alloc (.cells (Im.cells z0 (.slice none 0 0) zr) 35) = W8 at *
      have SM := Lib.hid (fun q : Ext W8.heap.size W8 => (refsamest_any z0 z0 zr zr none none 0 0 0 0 q.w (by rw [HZ0.out]; rfl) (by rw [HZ0.out]; rfl) (by rw [HZ0.out]; exact Lies.empty) (by rw [HZ0.out]; exact Lies.empty) (Nat.zero_le _) (Nat.zero_le _)).mono (fun r' w' h => show r' = .returned (.bool true) ∧ Below q.w.heap.size q.w w' by obtain ⟨⟨v, h1, h2⟩, h3⟩ := h; obtain rfl : v = true := h2.2 ⟨Gm.Eq.refl z0, rfl, fun _ _ => ⟨rfl, rfl⟩⟩; exact ⟨h1, h3⟩))
      have SU := Lib.hid (fun q : Ext W8.heap.size W8 => (csum q.w (K8.out.trans (q.h.mono K8.out.size))).out)
      have SD := Lib.hid (fun q : Ext W8.heap.size W8 => show Calls Try.prog 21 #[.string sb] q.w (fun e w' => e = .returned (.int .u64 (Im.sum bs)) ∧ q.w = w') by rw [HSB.out]; exact (csd q.w).out)
      have SO := Lib.hid (fun q : Ext W8.heap.size W8 => (cof q.w (K8.out.trans (q.h.mono K8.out.size))).out)
      have SR := Lib.hid (fun q : Ext W8.heap.size W8 => (crs q.w (K8.out.trans (q.h.mono K8.out.size))).out)
      generalize Im.sum bs = sm at *
      generalize Im.num g r = nm at *
      have ZP := Lib.hid (fun q : Ext W8.heap.size W8 => P8.out.below q.h P8.out.lt)
      have ZY := Lib.hid (fun q : Ext W8.heap.size W8 => Y8.out.below q.h Y8.out.lt)
      have ZW := Lib.hid (fun q : Ext W8.heap.size W8 => Z8.out.below q.h Z8.out.lt)
      have zcv : ∀ q : Ext W8.heap.size W8, (convert 36 9 (.slice B bs.length cb)).run Try.prog q.w = .ok (.string sb) q.w := fun q => by rw [HSB.out]; exact HCV.out q.w (K8.out.trans (q.h.mono K8.out.size))
      clear hcv csum csd cof crs
      refine wp_region_ext W8.heap.size W8 (by kernel_rfl) (by kernel_rfl) (Below.refl _ _) ?_
      repeat (first | (go_big_quiet_want; (first | (refine quiet_state rfl rfl ZP.out ?_) | (refine quiet_state rfl rfl ZY.out ?_) | (refine quiet_state rfl rfl ZW.out ?_)); simp only [Act.put, List.setIfInBounds_toArray, List.set_cons_succ, List.set_cons_zero]; go_big_quiet_on) | go_big_quiet_step ((first | (go_at_call 13; with_reducible exact Calls.ext_of (Nat.le_refl _) ((ct _).out)) | (go_at_call 19; with_reducible exact Calls.ext_of (Nat.le_refl _) (SM.out _)) | (go_at_call 20; with_reducible exact Calls.ext_of (Nat.le_refl _) (SU.out _)) | (go_at_call 21; with_reducible exact Calls.ext_same (SD.out _)) | (go_at_call 22; with_reducible exact Calls.ext_of (Nat.le_refl _) (SO.out _)) | (go_at_call 23; with_reducible exact Calls.ext_of (Nat.le_refl _) (SR.out _)))))
      refine wpQuiet_nil ?_
      intro _ hw'
      obtain ⟨q5, hw''⟩ := hw'
      subst hw''
      have K9 := Lib.hid (K8.out.trans (q5.h.mono K8.out.size))
      clear SM SU SD SO SR ZP ZY ZW zcv
      go_wp2
      go_ret
      exact ⟨ret_bool (by simp), K9.out⟩
end Go.Proofs.Ytghomofakpjglaa
namespace Go.Proofs.Ytghomofakpjglaa
open Go.ChangeShapes Go.WideShapes Go.ChangeAt Go.RowKit Go.Joins Go.ChangeMaps Go.Deep
set_option linter.unusedVariables false

section
variable {H : Type} {enc : TypeId × Value → H} {w : World} {base : Nat} {spare : Nat → Bool} {held : Bool}
set_option maxRecDepth 100000 in
theorem open_bytes {b0 : Nat} {v : Value} {d : DataW H} {p : List MemPlace} (hv : Value.okWide Try.prog w .any b0 36 v) (h : DataW.Trod enc Try.prog w base spare held 36 v d p) :
    ∃ (A : Option Addr) (c : Nat) (l : List Int), v = .slice A l.length c ∧ Im.IsBytes l ∧ l.length ≤ maxLen ∧ l.length ≤ c ∧ Lies w w.heap.size 1 A l.length (Im.u8s l) := by
  have hag : ∀ cs, v ≠ .agg cs := fun cs e => by subst e; simp [Value.okWide, Try.underlying36, Cell.okWide, Cell.ok] at hv
  obtain ⟨A, c, l, h1, h2, h3, h4, h5⟩ := open_slice_c (enc := enc) (w := w) (base := base) (spare := spare) (held := held) (fun x : Int => [Value.int .u8 x]) 1 (fun x => 0 ≤ x ∧ x ≤ 255) 0 Try.underlying36 (by kernel_rfl) (by decide) (fun _ => rfl) (fun hl ht => by
    obtain ⟨x, e, _, w⟩ := DataW.trod_int Try.underlying5 ht
    exact ⟨x, e, Bd.u8 w⟩) hag h
  refine ⟨A, c, l, h1, h2, h3, h5, ?_⟩
  have e : ∀ l : List Int, (l.flatMap fun x => [Value.int .u8 x]) = Im.u8s l := fun l => by
    unfold Im.u8s
    induction l with
    | nil => rfl
    | cons a l ih => rw [List.flatMap_cons, ih]; rfl
  rw [← e]
  exact h4
end
end Go.Proofs.Ytghomofakpjglaa
