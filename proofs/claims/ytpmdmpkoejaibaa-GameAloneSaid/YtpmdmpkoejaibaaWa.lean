/-
GameAlone's walk.
-/
import Derived.Test.YtpmdmpkoejaibaaWm
import Derived.Test.YtpmdmpkoejaibaaAl
import Derived.Test.YtpmdmpkoejaibaaDp
import Derived.Outline
import Derived.Deep.RegionWith
import Derived.Deep.CutRange
import Derived.Deep.CutBlock
import Derived.Deep.DeepCutAuto
namespace Go.Proofs.Ytpmdmpkoejaibaa
open Go.RowKit Go.Shelf
set_option linter.unusedVariables false

/-- What stays from frame to frame. -/
structure AloneAt (BG : Nat) (w0 : World) (k : Nat) (x y vx vy cool d : Int) (md f : Nat) (w : World) : Prop where
  has : ∃ g A c, Gm.Alone k x y vx vy cool d md g ∧ g.frame = f ∧ Box w BG 30 (Gm.cells g (.slice A g.shots.length c)) ∧ Lies w w.heap.size 6 A g.shots.length (Gm.shotCells g.shots)
  below : Below w0.heap.size w0 w
theorem oneIns (k : Nat) (hk : k < 8) (p : Gm.In) : (((Gm.insCells noIn).toArray.setIfInBounds (k * 3) (.int .i8 p.x)).setIfInBounds (k * 3 + 1) (.int .i8 p.y)).setIfInBounds (k * 3 + 2) (.int .u8 p.b) = (Gm.insCells (Gm.oneIn k p)).toArray := by
  match k, hk with
  | 0, _ | 1, _ | 2, _ | 3, _ | 4, _ | 5, _ | 6, _ | 7, _ => rfl
theorem kdrew {v w : World} (h : Kept v w) : Kept v w.drew := Below.drew h
theorem ins_info : (Try.prog.info? 38).map (·.size) = some 24 := by kernel_rfl
theorem ins_zero : (Try.prog.info? 38).map (·.zero) = some (some (.agg (Gm.insCells noIn).toArray)) := by kernel_rfl

/-- What a load of eight inputs wants. -/
def LoadIns (ops : Array Oper) (Q : Exit → Act → World → Prop) (rest : List Oper) (dst : Option Tmp) (p : Value) (a : Act) (w : World) : Prop :=
  ∃ (B : Nat) (ps : Nat → Gm.In), p = .pointer (some ⟨B, 0, none⟩) ∧ Box w B 38 (Gm.insCells ps).toArray ∧ wpList Try.prog ops Q rest (a.put dst (.agg (Gm.insCells ps).toArray)) w
theorem LoadIns.mk {ops : Array Oper} {Q : Exit → Act → World → Prop} {rest : List Oper} {a : Act} {w : World} {dst : Option Tmp} {p : Value} {B : Nat} {ps : Nat → Gm.In} (hp : p = .pointer (some ⟨B, 0, none⟩)) (hB : Box w B 38 (Gm.insCells ps).toArray) (h : wpList Try.prog ops Q rest (a.put dst (.agg (Gm.insCells ps).toArray)) w) : LoadIns ops Q rest dst p a w := ⟨B, ps, hp, hB, h⟩
theorem ins_gate {ops : Array Oper} {Q : Exit → Act → World → Prop} {rest : List Oper} {o : Oper} {a : Act} {w : World} {x : Operand} (hgd : o.guard = none) (ho : o.op = .load 38 x) (h : LoadIns ops Q rest o.dst (a.eval x) a w) : wpList Try.prog ops Q (o :: rest) a w := by
  obtain ⟨B, ps, hx, hB, h⟩ := h
  exact wpList_load_blk hgd ho hx hB Try.underlying38 rfl ins_info h

set_option maxRecDepth 100000 in
set_option maxHeartbeats 2000000 in
theorem alone_big (s : ByteArray) (m : Int) (A : Option Addr) (n c : Nat) (w : World) (hs : s.size ≤ maxLen) (hn : n ≤ maxLen) (hbig : 20 < s.size ∨ 80 < n) :
    Calls Try.prog 5 #[.string s, .int .i64 m, .slice A n c] w fun e w' => e = .returned (.bool true) ∧ Kept w w' := by
  have ct := fun X => Lib.hid (told6_any X)
  by_cases h : 20 < s.size
  · have h1 : (20 : Int) < s.size := by omega
    go_enter Try.func5, Try.ntmps5
    go_wp2_with (first | (go_at_call 14; ((with_reducible refine ((ct _).out).mono ?_); rintro e w1 ⟨rfl, hb⟩)))
    go_ret
    exact ⟨rfl, hb⟩
  · have h1 : ¬ (20 : Int) < s.size := by omega
    have h2 : (80 : Int) < n := by omega
    go_enter Try.func5, Try.ntmps5
    go_wp2_with (first | (go_at_call 14; ((with_reducible refine ((ct _).out).mono ?_); rintro e w1 ⟨rfl, hb⟩)))
    go_ret
    exact ⟨rfl, hb⟩

set_option maxRecDepth 100000 in
set_option maxHeartbeats 8000000 in
theorem alone_small (s : ByteArray) (m : Int) (A : Option Addr) (c n k : Nat) (l : List Gm.In) (w : World) (hs : s.size ≤ 20) (hnl : n = l.length) (hn : n ≤ 80) (hl : ∀ x ∈ l, Gm.tyIn x) (hL : Lies w w.heap.size 3 A n (Gm.inCells l)) (hk : k < 8) (hK : (IntKind.u64.wrap m).tmod 8 = (k : Int)) :
    Calls Try.prog 5 #[.string s, .int .i64 m, .slice A n c] w fun e w' => e = .returned (.bool true) ∧ Kept w w' := by
  have h1 : ¬ (20 : Int) < s.size := by omega
  have h2 : ¬ (80 : Int) < n := by omega
  have hk8 : (k : Int) < 8 := by omega
  have hwk : IntKind.i64.wrap (k : Int) = (k : Int) := by rw [IntKind.wrap_i64]; omega
  have ct := fun X => Lib.hid (told6_any X)
  have hss : s.size ≤ maxLen := by unfold maxLen; omega
  have hd : 0 ≤ Dn.seed s.data.toList ∧ Dn.seed s.data.toList ≤ 18446744073709551615 := Dn.seed_bd _
  have cn := fun X => Lib.hid (new_any s X hss)
  have csd := fun X => Lib.hid (seed_any s X hss)
  generalize Dn.seed s.data.toList = d at *
  have okg := ok_new d
  have csp := fun X => Lib.hid (spawn_yes (Gm.new d) none 0 0 k X okg hd rfl (lies_zero X none (Gm.new d) rfl) hk rfl)
  have ok1 := ok_spawn okg k
  have pb := Gm.place_bd d
  obtain ⟨x0, hx0⟩ : ∃ x, x = Gm.placeX d := ⟨_, rfl⟩
  obtain ⟨y0, hy0⟩ : ∃ x, x = Gm.placeY d := ⟨_, rfl⟩
  obtain ⟨d', hd'⟩ : ∃ x, x = Gm.placeD d := ⟨_, rfl⟩
  have cpl : ∀ X, Hid (Calls Try.prog 24 #[.int .u64 d] X fun e w' => e = .returned (.tuple #[.int .i32 x0, .int .i32 y0, .int .u64 d']) ∧ Below X.heap.size X w') := fun X => Lib.hid (by rw [hx0, hy0, hd']; exact place_any d hd X)
  obtain ⟨g1, hg1⟩ : ∃ g, g = Gm.spawn (Gm.new d) k := ⟨_, rfl⟩
  have al1 : Gm.Alone k x0 y0 0 0 0 d' 0 g1 := by
    rw [hg1, hx0, hy0, hd']
    refine ⟨⟨ok1, pb.2.2⟩, Gm.upd_same _ _ _, fun j hj => ?_, rfl, fun s hs => (by cases hs), ⟨fun x hx => (by cases hx), List.Pairwise.nil⟩, Nat.le_refl _⟩
    show (Gm.upd _ k _ j).on = false
    rw [Gm.upd_other _ _ hj]; rfl
  have fr1 : g1.frame = 0 := by rw [hg1]; rfl
  simp only [← hg1] at csp
  obtain ⟨g0, hg0⟩ : ∃ g, g = Gm.new d := ⟨_, rfl⟩
  have hs0 : g0.shots.length = 0 := by rw [hg0]; rfl
  simp only [← hg0] at cn csp
  have z1 : ∀ s, (Gm.cells g1 s)[1]? = some (.int .u64 d') := fun s => by rw [← al1.dice]; exact Gm.cells_1 g1 s
  have zx : ∀ s, (Gm.cells g1 s)[2 + k * 7 + 1]? = some (.int .i32 x0) := fun s => (Gm.cells_ship g1 s k 1 hk (by omega)).trans (by rw [al1.ship]; rfl)
  have zy : ∀ s, (Gm.cells g1 s)[2 + k * 7 + 2]? = some (.int .i32 y0) := fun s => (Gm.cells_ship g1 s k 2 hk (by omega)).trans (by rw [al1.ship]; rfl)
  have AL1 := Lib.hid al1
  have FR1 := Lib.hid fr1
  have HL := Lib.hid hL
  have HT := Lib.hid hl
  have NL := Lib.hid hnl
  clear hg1 hg0 hs0 al1 fr1 hx0 hy0 hd' pb ok1 okg hd hL hl hnl hs hss
  go_enter Try.func5, Try.ntmps5
  go_wp2_with (first | ((with_reducible refine wpList_alloc_game rfl rfl ?_)) | ((with_reducible refine wpList_store_game_new rfl rfl rfl rfl rfl rfl ?_)) | (go_at_call 15; ((with_reducible refine ((cn _).out).mono ?_); rintro e w1 ⟨rfl, hb⟩; have B1 := Lib.hid hb; clear hb)) | (go_at_call 17; ((with_reducible refine ((csp _).out).mono ?_); rintro e w2 ⟨A1, c1, rfl, _, hb⟩; have HB2 := Lib.hid ((B1.out.trans (hb.mono B1.out.size)).alloc (Nat.le_trans B1.out.size hb.size) (.cells (Gm.cells g1 (.slice A1 g1.shots.length c1)) 30)); have P2 := Lib.hid (Box.made w2 30 (Gm.cells g1 (.slice A1 g1.shots.length c1))); have sz1 : w.heap.size ≤ w2.heap.size := Nat.le_trans B1.out.size hb.size; clear hb)) | (go_at_call 25; ((with_reducible refine ((csd _).out).mono ?_); rintro e w3 ⟨rfl, hb⟩; have HB3 := Lib.hid (HB2.out.trans (hb.mono HB2.out.size)); have P3 := Lib.hid (P2.out.below hb P2.out.lt); clear hb)) | (go_at_call 24; ((with_reducible refine ((cpl _).out).mono ?_); rintro e w4 ⟨rfl, hb⟩; have HB4 := Lib.hid (HB3.out.trans (hb.mono HB3.out.size)); have P4 := Lib.hid (P3.out.below hb P3.out.lt); have P4c := P4.out.cell; clear hb)))
  generalize w2.heap.size = BG at *
  clear cn csd csp cpl P4c P2 HB2 P3 HB3 B1
  go_loopw [10, 11, 13, 14, 15, 16, 17, 18, 19, 20, 21] (fun x y vx vy cl md i p h e q wr => ∃ f : Nat, f ≤ n ∧ i = .int .i64 f ∧ ∃ (x' y' vx' vy' cl' : Int) (md' : Nat), x = .int .i32 x' ∧ y = .int .i32 y' ∧ vx = .int .i32 vx' ∧ vy = .int .i32 vy' ∧ cl = .int .i64 cl' ∧ md = .int .i64 md' ∧ md' ≤ f ∧ AloneAt BG w k x' y' vx' vy' cl' d' md' f wr) (fun _ _ _ _ _ _ i _ _ _ _ _ => n - (intOf i).toNat)
  case atStart => exact ⟨0, Nat.zero_le _, rfl, x0, y0, 0, 0, 0, 0, rfl, rfl, rfl, rfl, rfl, rfl, Nat.le_refl _, ⟨⟨g1, A1, c1, AL1.out, FR1.out, P4.out, lies_zero _ _ _ (List.eq_nil_of_length_eq_zero (by have := AL1.out.few; omega))⟩, HB4.out⟩⟩
  case round =>
    obtain ⟨f, hf, rfl, x, y, vx, vy, cl, md, rfl, rfl, rfl, rfl, rfl, rfl, hmd, hS⟩ := hrel
    obtain ⟨⟨g, A2, c2, hA, hfr, hX, hLs⟩, hY⟩ := hS
    clear P4 HB4 AL1 FR1 z1 zx zy
    by_cases hlt : f < n
    · have hf8 : (f : Int) < n := by omega
      have hfw : IntKind.i64.wrap (f : Int) = (f : Int) := by rw [IntKind.wrap_i64]; omega
      obtain ⟨ad, rfl, hadl⟩ := HL.out.start (by omega)
      have nb := NL.out
      have wp := getD_ty HT.out f
      have cell : ∀ X, Below w.heap.size w X → X.cell? (ad.add (f * 3)) = some (.int .i8 (l.getD f ⟨0, 0, 0⟩).x) ∧ X.cell? ⟨(ad.add (f * 3)).block, (ad.add (f * 3)).off + 1, none⟩ = some (.int .i8 (l.getD f ⟨0, 0, 0⟩).y) ∧
          X.cell? ⟨(ad.add (f * 3)).block, (ad.add (f * 3)).off + 2, none⟩ = some (.int .u8 (l.getD f ⟨0, 0, 0⟩).b) := fun X hX => by
        have hL2 := HL.out.below hX
        rw [nb] at hL2 hlt
        exact ins_at' hL2 f hlt
      generalize l.getD f ⟨0, 0, 0⟩ = p at cell wp
      obtain ⟨px, py, pb⟩ := p
      dsimp only at cell
      obtain ⟨wx, wy, wb⟩ := wp
      dsimp only at wx wy wb
      have cmi := fun X => Lib.hid (may_in px py pb wx wy X)
      obtain ⟨q0, q1, q2⟩ := cell wr hY
      have CELL := Lib.hid cell
      have KY := Lib.hid hY
      clear cell nb
      by_cases hm : px ≠ -128 ∧ py ≠ -128
      · have hv : (decide (px ≠ -128) && decide (py ≠ -128)) = true := by simp [hm]
        simp only [hv] at cmi
        obtain ⟨hA', hfr'⟩ := hA.step (p := ⟨px, py, pb⟩) hk (by rw [hfr]; omega) hm.1 hm.2 wb.1
        have cst := fun X (hX : Below wr.heap.size wr X) => Lib.hid (step_yes (Gm.oneIn k ⟨px, py, pb⟩) g A2 _ c2 X hA.good.ok (by rw [hfr]; omega) hA.good.dice (fun i _ => by unfold Gm.oneIn; split; exact ⟨wx, wy, wb⟩; exact ⟨by decide, by decide, by decide⟩) rfl (hLs.call hX))
        obtain ⟨G, hG⟩ : ∃ G, G = Gm.step (Gm.oneIn k ⟨px, py, pb⟩) g := ⟨_, rfl⟩
        simp only [← hG] at hA' hfr' cst
        have HX := Lib.hid hX
        have HA' := Lib.hid hA'
        have HFR' := Lib.hid (hfr'.trans (by rw [hfr]))
        have sh := hA.good.ok.2.2.2.1 k hk
        rw [hA.ship] at sh
        have shb : (0 ≤ x ∧ x < 16777216) ∧ (0 ≤ y ∧ y < 16777216) ∧ (-524288 ≤ vx ∧ vx ≤ 524288) ∧ (-524288 ≤ vy ∧ vy ≤ 524288) ∧ 0 ≤ cl ∧ cl ≤ 10 := ⟨sh.2.1, sh.2.2.1, sh.2.2.2.1, sh.2.2.2.2.1, sh.2.2.2.2.2.1, sh.2.2.2.2.2.2.1⟩
        have SH := Lib.hid shb
        clear hG hA' hfr' hA hfr hX hLs hY hv hm sh shb
        go_upto_region 17 with (first | ((with_reducible refine wpList_alloc_z (t := 38) (cs := (Gm.insCells noIn).toArray) rfl rfl ins_zero rfl ?_)) | (go_at_call 26; ((with_reducible refine ((cmi _).out).mono ?_); rintro e w5 ⟨rfl, hb⟩; have B5 := Lib.hid hb; clear hb)))
        have P5 := Lib.hid (Box.made w5 38 (Gm.insCells noIn).toArray)
        have W5 := Lib.hid (B5.out.alloc B5.out.size (.cells (Gm.insCells noIn).toArray 38))
        have szi : wr.heap.size ≤ w5.heap.size := B5.out.size
        generalize w5.alloc (.cells (Gm.insCells noIn).toArray 38) = V at *
        generalize w5.heap.size = BI at *
        have P5c := P5.out.cell
        have P5f := P5.out.free
        obtain ⟨r0, r1, r2⟩ := CELL.out V (KY.out.trans (W5.out.mono KY.out.size))
        have i0 : (Gm.insCells noIn).toArray[k * 3]? = some (.int .i8 0) := Gm.insCells_at noIn k 0 hk (by omega)
        have i1 : (Gm.insCells noIn).toArray[k * 3 + 1]? = some (.int .i8 0) := Gm.insCells_at noIn k 1 hk (by omega)
        have i2 : (Gm.insCells noIn).toArray[k * 3 + 2]? = some (.int .u8 0) := Gm.insCells_at noIn k 2 hk (by omega)
        clear q0 q1 q2 B5
        go_upto_region 18 with fail
        obtain ⟨U, hU⟩ : ∃ U, U = ((V.setCell ⟨BI, k * 3, none⟩ (.int .i8 px)).setCell ⟨BI, k * 3 + 1, none⟩ (.int .i8 py)).setCell ⟨BI, k * 3 + 2, none⟩ (.int .u8 pb) := ⟨_, rfl⟩
        have PU : Box U BI 38 (Gm.insCells (Gm.oneIn k ⟨px, py, pb⟩)).toArray := by rw [hU, ← oneIns k hk ⟨px, py, pb⟩]; exact ((P5.out.put _ _).put _ _).put _ _
        have WU : Below wr.heap.size wr U := by rw [hU]; exact ((W5.out.setCell szi _).setCell szi _).setCell szi _
        rw [← hU]
        have HPU := Lib.hid PU
        have HWU := Lib.hid WU
        have HXU := Lib.hid (HX.out.below WU HX.out.lt)
        have HKU := Lib.hid (KY.out.trans (WU.mono KY.out.size))
        clear hU PU WU P5 W5 P5c P5f r0 r1 r2 i0 i1 i2
        go_upto_region 19 with (first | ((with_reducible refine load_gate rfl rfl ?_); apply LoadGame.mk rfl; (with_reducible exact HXU.out)) | ((with_reducible refine ins_gate rfl rfl ?_); apply LoadIns.mk rfl; (with_reducible exact HPU.out)) | ((with_reducible refine wpList_alloc_game rfl rfl ?_)) | ((with_reducible refine wpList_store_game_new rfl rfl rfl rfl rfl rfl ?_)) | (go_at_call 19; ((with_reducible refine ((cst _ HWU.out).out).mono ?_); rintro e w6 ⟨A3, c3, rfl, hl, hb⟩; have K6 := Lib.hid ((HKU.out.trans (hb.mono HKU.out.size)).alloc (Nat.le_trans HKU.out.size hb.size) (.cells (Gm.cells G (.slice A3 G.shots.length c3)) 30)); have X6 := Lib.hid ((HXU.out.below hb HXU.out.lt).alloc (.cells (Gm.cells G (.slice A3 G.shots.length c3)) 30)); have Q6 := Lib.hid (Box.made w6 30 (Gm.cells G (.slice A3 G.shots.length c3))); have L6 := Lib.hid (hl.alloc (.cells (Gm.cells G (.slice A3 G.shots.length c3)) 30)); have neq : BG ≠ w6.heap.size := (by have := (HXU.out.below hb HXU.out.lt).lt; omega); clear hb hl)))
        generalize w6.alloc (.cells (Gm.cells G (.slice A3 G.shots.length c3)) 30) = V2 at *
        generalize w6.heap.size = BH at *
        have c1x := fun X => Lib.hid (fldpush_any vx px (by have := SH.out; omega) wx X)
        have c1y := fun X => Lib.hid (fldpush_any vy py (by have := SH.out; omega) wy X)
        have c2x := fun X => Lib.hid (fldmove_any x (Gf.push vx px) (by have := SH.out; omega) (by have := Gf.push_bd vx px; omega) X)
        have c2y := fun X => Lib.hid (fldmove_any y (Gf.push vy py) (by have := SH.out; omega) (by have := Gf.push_bd vy py; omega) X)
        generalize Gf.push vx px = VX at *
        generalize Gf.push vy py = VY at *
        generalize Gf.move x VX = NX at *
        generalize Gf.move y VY = NY at *
        obtain ⟨r0, r1, r2⟩ := CELL.out V2 K6.out
        have k2 : Kept w V2 := K6.out.mono (Nat.le_refl _)
        have k3 : Kept V2 V2 := Kept.refl _
        go_cut [13, 14] from 98 to 111 (fun a b wx => a = .int .i32 VX ∧ b = .int .i32 VY ∧ Kept V2 wx)
        case first =>
          go_region_with (go_at_call 27; first | ((with_reducible refine ((c1x _).out).mono ?_); rintro e w' ⟨rfl, hb⟩; have hks : Kept V2 w' := Kept.on (by repeat (first | assumption | apply kdrew)) hb; obtain ⟨s0, s1, s2⟩ := CELL.out w' (k2.trans (hks.mono k2.size)); clear hb) | ((with_reducible refine ((c1y _).out).mono ?_); rintro e w' ⟨rfl, hb⟩; have hkt : Kept V2 w' := Kept.on (by repeat (first | assumption | apply kdrew)) hb; obtain ⟨t0, t1, t2⟩ := CELL.out w' (k2.trans (hkt.mono k2.size)); clear hb))
          all_goals
            go_wp2_with fail
            go_meet
            exact ⟨rfl, rfl, by repeat (first | assumption | apply kdrew)⟩
        case rest =>
        obtain ⟨rfl, rfl, hk3⟩ := hcut
        have X7 := Lib.hid (X6.out.below hk3 X6.out.lt)
        have Q7 := Lib.hid (Q6.out.below hk3 Q6.out.lt)
        have L7 := Lib.hid (L6.out.call hk3)
        have K7 := Lib.hid (K6.out.trans (hk3.mono K6.out.size))
        clear hk3 k2 k3 r0 r1 r2 X6 Q6 L6 K6 c1x c1y
        go_upto_region 21 with (first | (go_at_call 28; ((with_reducible refine ((c2x _).out).mono ?_); rintro e w8 ⟨rfl, hb⟩; have X8 := Lib.hid (X7.out.below hb X7.out.lt); have Q8 := Lib.hid (Q7.out.below hb Q7.out.lt); have L8 := Lib.hid (L7.out.call hb); have K8 := Lib.hid (K7.out.trans (hb.mono K7.out.size)); clear hb X7 Q7 L7 K7 c2x)) | (go_at_call 28; ((with_reducible refine ((c2y _).out).mono ?_); rintro e w9 ⟨rfl, hb⟩; have X9 := Lib.hid (X8.out.below hb X8.out.lt); have Q9 := Lib.hid (Q8.out.below hb Q8.out.lt); have L9 := Lib.hid (L8.out.call hb); have K9 := Lib.hid (K8.out.trans (hb.mono K8.out.size)); clear hb X8 Q8 L8 K8 c2y)))
        have sb := SH.out
        have c9 := Q9.out.cell
        have l9 := Q9.out.lt
        have e58 := fun s => Gm.cells_58 G s
        have g9 := X9.out.lt
        obtain ⟨q0, q1, q2⟩ := CELL.out w9 K9.out
        have hcases : ∃ (cl' : Int) (md' : Nat), Gm.Alone k NX NY VX VY cl' d' md' G ∧ md' ≤ f + 1 ∧ ((0 < cl ∧ cl' = cl - 1 ∧ md' = md) ∨ (¬ 0 < cl ∧ pb % 2 = 1 ∧ cl' = 10 ∧ md' = md + 1) ∨ (¬ 0 < cl ∧ pb % 2 = 0 ∧ cl' = cl ∧ md' = md)) := by
          refine ⟨_, _, HA'.out, ?_, ?_⟩
          · split
            · omega
            · split <;> omega
          · by_cases h1 : 0 < cl
            · rw [if_pos h1, if_pos h1]; exact .inl ⟨h1, rfl, rfl⟩
            · rw [if_neg h1, if_neg h1]
              by_cases h2 : pb % 2 = 1
              · have h3 : (⟨px, py, pb⟩ : Gm.In).b % 2 = 1 := h2
                rw [if_pos h3, if_pos h3]; exact .inr (.inl ⟨h1, h2, rfl, rfl⟩)
              · have h3 : ¬ (⟨px, py, pb⟩ : Gm.In).b % 2 = 1 := h2
                rw [if_neg h3, if_neg h3]; exact .inr (.inr ⟨h1, by omega, rfl, rfl⟩)
        obtain ⟨cl', md', hal, hmd', hthree⟩ := hcases
        have t1 : ∀ s, (Gm.cells G s)[2 + k * 7 + 1]? = some (.int .i32 NX) := fun s => (Gm.cells_ship G s k 1 hk (by omega)).trans (by rw [hal.ship]; rfl)
        have t0 : ∀ s, (Gm.cells G s)[2 + k * 7]? = some (.bool true) := fun s => (Gm.cells_ship G s k 0 hk (by omega)).trans (by rw [hal.ship]; rfl)
        have t2 : ∀ s, (Gm.cells G s)[2 + k * 7 + 2]? = some (.int .i32 NY) := fun s => (Gm.cells_ship G s k 2 hk (by omega)).trans (by rw [hal.ship]; rfl)
        have t3 : ∀ s, (Gm.cells G s)[2 + k * 7 + 3]? = some (.int .i32 VX) := fun s => (Gm.cells_ship G s k 3 hk (by omega)).trans (by rw [hal.ship]; rfl)
        have t4 : ∀ s, (Gm.cells G s)[2 + k * 7 + 4]? = some (.int .i32 VY) := fun s => (Gm.cells_ship G s k 4 hk (by omega)).trans (by rw [hal.ship]; rfl)
        have t5 : ∀ s, (Gm.cells G s)[2 + k * 7 + 5]? = some (.int .i64 cl') := fun s => (Gm.cells_ship G s k 5 hk (by omega)).trans (by rw [hal.ship]; rfl)
        have t6 : ∀ s, (Gm.cells G s)[2 + k * 7 + 6]? = some (.int .i64 0) := fun s => (Gm.cells_ship G s k 6 hk (by omega)).trans (by rw [hal.ship]; rfl)
        have hln : ¬ (md' : Int) < (G.shots.length : Int) := by have := hal.few; omega
        have HAL := Lib.hid hal
        have GL : ∃ gl, gl = G.shots.length := ⟨_, rfl⟩
        clear hal HA' cst cmi
        rcases hthree with ⟨h1, rfl, rfl⟩ | ⟨h1, h2, rfl, rfl⟩ | ⟨h1, h2, rfl, rfl⟩
        · have hwc : IntKind.i64.wrap (cl - 1) = cl - 1 := by rw [IntKind.wrap_i64]; omega
          go_wp2_with (first | ((with_reducible refine load_gate rfl rfl ?_); apply LoadGame.mk rfl; (with_reducible exact Q9.out.alloc _)) | ((with_reducible refine store_gate rfl rfl ?_); apply StoreGame.mk rfl rfl rfl; focus (with_reducible exact X9.out.alloc _)))
          go_roundw
          case rel => exact ⟨f + 1, by omega, by go_num, NX, NY, VX, VY, _, _, rfl, rfl, rfl, rfl, rfl, rfl, hmd', ⟨⟨G, A3, c3, HAL.out, by rw [HFR'.out]; omega, (X9.out.alloc _).row _, (L9.out.alloc _).game_row rfl (X9.out.alloc _) _⟩, Below.setRow' (K9.out.alloc K9.out.size _) sz1 _⟩⟩
          case measure => simp [intOf]; omega
        · have hb1 : bits .and .u8 pb 1 = 1 := by rw [and_one wb]; exact h2
          have hwm : IntKind.i64.wrap ((md : Int) + 1) = (md : Int) + 1 := by rw [IntKind.wrap_i64]; omega
          have hcast : (((md + 1 : Nat)) : Int) = (md : Int) + 1 := by omega
          rw [hcast] at hln
          go_wp2_with (first | ((with_reducible refine load_gate rfl rfl ?_); apply LoadGame.mk rfl; (with_reducible exact Q9.out.alloc _)) | ((with_reducible refine store_gate rfl rfl ?_); apply StoreGame.mk rfl rfl rfl; focus (with_reducible exact X9.out.alloc _)))
          go_roundw
          case rel => exact ⟨f + 1, by omega, by go_num, NX, NY, VX, VY, _, _, rfl, rfl, rfl, rfl, rfl, by go_num, hmd', ⟨⟨G, A3, c3, HAL.out, by rw [HFR'.out]; omega, (X9.out.alloc _).row _, (L9.out.alloc _).game_row rfl (X9.out.alloc _) _⟩, Below.setRow' (K9.out.alloc K9.out.size _) sz1 _⟩⟩
          case measure => simp [intOf]; omega
        · have hb1 : bits .and .u8 pb 1 = 0 := by rw [and_one wb]; exact h2
          go_wp2_with (first | ((with_reducible refine load_gate rfl rfl ?_); apply LoadGame.mk rfl; (with_reducible exact Q9.out.alloc _)) | ((with_reducible refine store_gate rfl rfl ?_); apply StoreGame.mk rfl rfl rfl; focus (with_reducible exact X9.out.alloc _)))
          go_roundw
          case rel => exact ⟨f + 1, by omega, by go_num, NX, NY, VX, VY, _, _, rfl, rfl, rfl, rfl, rfl, rfl, hmd', ⟨⟨G, A3, c3, HAL.out, by rw [HFR'.out]; omega, (X9.out.alloc _).row _, (L9.out.alloc _).game_row rfl (X9.out.alloc _) _⟩, Below.setRow' (K9.out.alloc K9.out.size _) sz1 _⟩⟩
          case measure => simp [intOf]; omega
      · have hv : (decide (px ≠ -128) && decide (py ≠ -128)) = false := by
          rw [Bool.and_eq_false_iff]
          by_cases h1 : px = -128
          · left; simp [h1]
          · right; have : py = -128 := by by_cases h2 : py = -128; exact h2; exact absurd ⟨h1, h2⟩ hm
            simp [this]
        simp only [hv] at cmi
        clear hX hLs hY hv hm hA hfr
        go_wp2_with (first | ((with_reducible refine wpList_alloc_z (t := 38) (cs := (Gm.insCells noIn).toArray) rfl rfl ins_zero rfl ?_)) | (go_at_call 26; ((with_reducible refine ((cmi _).out).mono ?_); rintro e w5 ⟨rfl, hb⟩; have B5 := Lib.hid hb; clear hb)) | (go_at_call 14; ((with_reducible refine ((ct _).out).mono ?_); rintro e w9 ⟨rfl, hb⟩; have K5 := KY.out.trans (B5.out.mono KY.out.size); have K9 := Lib.hid (K5.trans (hb.mono K5.size)); clear hb K5)))
        go_ret
        exact ⟨rfl, K9.out⟩
    · have hf8 : ¬ (f : Int) < n := by omega
      have KY := Lib.hid hY
      have HX := Lib.hid hX
      have e58 := fun s => Gm.cells_58 g s
      have e1 : ∀ s, (Gm.cells g s)[1]? = some (.int .u64 d') := fun s => by rw [← hA.dice]; exact Gm.cells_1 g s
      have hl3 : (g.shots.length : Int) ≤ 3 := by have := hA.left.len; simp at this; omega
      clear hX hLs hY hA hfr
      go_wp2_with (first | (go_at_call 14; ((with_reducible refine ((ct _).out).mono ?_); rintro e w9 ⟨rfl, hb⟩; have K9 := Lib.hid (KY.out.trans (hb.mono KY.out.size)); have c9 := (HX.out.below hb HX.out.lt).cell; clear hb)))
      go_ret
      exact ⟨rfl, K9.out⟩

theorem alone_law (s : ByteArray) (m : Int) (A : Option Addr) (c : Nat) (l : List Gm.In) (w : World) (hs : s.size ≤ maxLen) (hn : l.length ≤ maxLen) (hl : ∀ x ∈ l, Gm.tyIn x) (hL : Lies w w.heap.size 3 A l.length (Gm.inCells l)) :
    Calls Try.prog 5 #[.string s, .int .i64 m, .slice A l.length c] w fun e w' => e = .returned (.bool true) ∧ Kept w w' := by
  have h2 : 0 ≤ (IntKind.u64.wrap m).tmod 8 ∧ (IntKind.u64.wrap m).tmod 8 < 8 := by
    rw [Int.tmod_eq_emod_of_nonneg (by simp only [IntKind.wrap_u64]; omega)]; exact ⟨Int.emod_nonneg _ (by omega), Int.emod_lt_of_pos _ (by omega)⟩
  by_cases h : 20 < s.size ∨ 80 < l.length
  · exact alone_big s m A _ c w hs hn h
  · exact alone_small s m A c _ ((IntKind.u64.wrap m).tmod 8).toNat l w (by omega) rfl (by omega) hl hL (by omega) (by omega)
end Go.Proofs.Ytpmdmpkoejaibaa
