/-
The program's game: the shots that stay, shot by shot.
-/
import Derived.Test.YtbihnmingedgfaaHt
namespace Go.Proofs.Ytbihnmingedgfaa
open Go.RowKit Go.Shelf
set_option linter.unusedVariables false

theorem one_cells (s : Gm.Shot) : ∀ u ∈ s.cells, u.oneCell' = true := by
  intro u hu
  simp only [Gm.Shot.cells, List.mem_cons, List.not_mem_nil, or_false] at hu
  rcases hu with rfl | rfl | rfl | rfl | rfl | rfl <;> rfl
theorem lies_cells (w : World) (s : Gm.Shot) : Lies (w.alloc (.cells #[.int .i64 s.owner, .int .i32 s.x, .int .i32 s.y, .int .i32 s.vx, .int .i32 s.vy, .int .i64 s.left] 108)) (w.alloc (.cells #[.int .i64 s.owner, .int .i32 s.x, .int .i32 s.y, .int .i32 s.vx, .int .i32 s.vy, .int .i64 s.left] 108)).heap.size 6 (some ⟨w.heap.size, 0, none⟩) 1 s.cells := lies_made w _ s
theorem shotCells_take (L : List Gm.Shot) (n : Nat) : Gm.shotCells (L.take n) = (Gm.shotCells L).take (n * 6) := by
  induction L generalizing n with
  | nil => simp [Gm.shotCells]
  | cons a L ih =>
    have hlen : a.cells.length = 6 := rfl
    unfold Gm.shotCells at *
    match n with
    | 0 => simp
    | n + 1 => rw [List.take_succ_cons, List.flatMap_cons, List.flatMap_cons, ih n, show (n + 1) * 6 = a.cells.length + n * 6 by rw [hlen]; omega, List.take_length_add_append]
theorem own_prefix {b gs m n c : Nat} {e : TypeId} {W : World} {L : List Gm.Shot} (h : W.ownsRow b e 6 (.slice (some ⟨gs, 0, none⟩) m c) m (Gm.shotCells L)) (hn : n ≤ m) : W.ownsRow b e 6 (.slice (some ⟨gs, 0, none⟩) n c) n (Gm.shotCells (L.take n)) := by
  obtain ⟨hl, ⟨h0, _⟩ | ⟨g', cap, cur, hv, hb, hgg, hnc, hcm, hcs, htake⟩⟩ := h
  · cases h0
  · injection hv with e1 e2 e3
    injection e1 with e1
    injection e1 with e1
    subst e1 e3
    have hle : n * 6 ≤ m * 6 := Nat.mul_le_mul_right 6 hn
    refine ⟨?_, .inr ⟨gs, c, cur, rfl, hb, hgg, by omega, hcm, hcs, ?_⟩⟩
    · rw [shotCells_take, List.length_take, hl]; omega
    · rw [shotCells_take, ← htake, List.take_take, Nat.min_eq_left hle]

/-- What the going over the shots finds. -/
structure Stays (b B c gs j : Nat) (w0 : World) (g : Gm.G) (st : Gm.St) (L : List Gm.Shot) (s4 : Value) (W : World) : Prop where
  len : L.length = g.shots.length
  few : st.left.length ≤ j
  kept : L.take st.left.length = st.left
  rest : ∀ i, j ≤ i → L[i]? = g.shots[i]?
  left : s4 = .slice (some ⟨gs, 0, none⟩) st.left.length c
  has : HasAt b B (some ⟨gs, 0, none⟩) c { g with dice := st.dice, ship := st.ship, shots := L } W
  keep : Keep b B w0 W
theorem stays_go {b B c gs j : Nat} {w0 : World} {g : Gm.G} {st st' : Gm.St} {L : List Gm.Shot} {s4 : Value} {W W' : World} (h : Stays b B c gs j w0 g st L s4 W) (hl : st'.left = st.left) (F : Gm.Shot) (hh : HasAt b B (some ⟨gs, 0, none⟩) c { g with dice := st'.dice, ship := st'.ship, shots := L.set j F } W') (hk : Keep b B w0 W') : Stays b B c gs (j + 1) w0 g st' (L.set j F) s4 W' := by
  have hf := h.few
  refine ⟨by simp [h.len], by rw [hl]; omega, ?_, fun i hi => ?_, by rw [hl]; exact h.left, hh, hk⟩
  · rw [hl, List.take_set_of_le hf]
    exact h.kept
  · rw [List.getElem?_set_ne (by omega)]
    exact h.rest i (by omega)
theorem stays_stay {b B c gs j : Nat} {w0 : World} {g : Gm.G} {st : Gm.St} {L : List Gm.Shot} {s4 : Value} {W W' : World} (h : Stays b B c gs j w0 g st L s4 W) (hj : j < g.shots.length) (F : Gm.Shot) (hh : HasAt b B (some ⟨gs, 0, none⟩) c { g with dice := st.dice, ship := st.ship, shots := (L.set j F).set st.left.length F } W') (hk : Keep b B w0 W') :
    Stays b B c gs (j + 1) w0 g { st with left := st.left ++ [F] } ((L.set j F).set st.left.length F) (.slice (some ⟨gs, 0, none⟩) (st.left.length + 1) c) W' := by
  have hf := h.few
  have hlen := h.len
  refine ⟨by simp [h.len], by simp; omega, ?_, fun i hi => ?_, by simp, hh, hk⟩
  · dsimp only
    rw [show (st.left ++ [F]).length = st.left.length + 1 by simp, List.take_succ_eq_append_getElem (by simp; omega)]
    congr 1
    · rw [List.take_set_of_le (Nat.le_refl _), List.take_set_of_le hf]
      exact h.kept
    · simp
  · rw [List.getElem?_set_ne (by omega), List.getElem?_set_ne (by omega)]
    exact h.rest i (by omega)

set_option maxRecDepth 100000 in
set_option maxHeartbeats 4000000 in
theorem keep_step (g : Gm.G) (b B : Nat) (w : World) (hbB : b ≤ B) (h : Has b B g w) (hne : g.shots.length ≠ 0) (hoks : ∀ t ∈ g.shots, Gm.okShot t) (hsh : ∀ j, j < 8 → Gm.okShip (g.ship j)) (hd : 0 ≤ g.dice ∧ g.dice ≤ 18446744073709551615) (hlen : g.shots.length ≤ 32) (fin : Gm.St) (hfin : fin = Gm.ph2 ⟨g.dice, g.ship, []⟩ g.shots) :
    Calls Try.prog 62 #[.pointer (some ⟨B, 0, none⟩), .func (.func 63) #[] #[.pointer (some ⟨B, 0, none⟩)]] w fun e w' => e = .returned (.tuple #[]) ∧ Has b B { g with dice := fin.dice, ship := fin.ship, shots := fin.left } w' ∧ Keep b B w w' := by
  obtain ⟨A, c, hB, hO⟩ := h
  have h : HasAt b B A c g w := ⟨hB, hO⟩
  obtain ⟨gs, rfl, hbg, _⟩ := h.len hne
  obtain ⟨m, hm⟩ : ∃ m, m = g.shots.length := ⟨_, rfl⟩
  have way0 : Gm.Way2 ⟨g.dice, g.ship, []⟩ := ⟨hsh, fun t ht => (by cases ht), hd⟩
  have start : Stays b B c gs 0 w g ⟨g.dice, g.ship, []⟩ g.shots (.slice (some ⟨gs, 0, none⟩) 0 c) w :=
    ⟨rfl, Nat.le_refl _, rfl, fun _ _ => rfl, rfl, h, Keep.refl hbB w⟩
  have START := Lib.hid start
  have hcc := hB.cell
  have e58 := Gm.cells_58 g (.slice (some ⟨gs, 0, none⟩) g.shots.length c)
  rw [← hm] at hcc e58 hne hlen
  obtain ⟨i0, hi0, hz0, hz1, hz2⟩ := info_parts shot_info
  have hI := Lib.hid hi0
  have hS := Lib.hid hz1
  have HM := Lib.hid hm
  have HFIN := Lib.hid hfin
  clear hB hO h start hi0 hz0 hz1 hz2 hm hfin
  go_enter Try.func62, Try.ntmps62
  go_wp2
  go_loopg [4, 16] m (fun gg s4 i wr => ∃ (j : Nat) (L : List Gm.Shot), j ≤ m ∧ gg = m - j ∧ i = .int .i64 j ∧ Stays b B c gs j w g (Gm.ph2 ⟨g.dice, g.ship, []⟩ (g.shots.take j)) L s4 wr)
  case atStart => exact ⟨0, g.shots, by omega, rfl, rfl, START.out⟩
  case round =>
    obtain ⟨j, L, hj, rfl, rfl, hR⟩ := hrel
    clear hcc e58
    have hLm : L.length = m := by rw [hR.len, HM.out]
    have r58 := Gm.cells_58 { g with dice := (Gm.ph2 ⟨g.dice, g.ship, []⟩ (g.shots.take j)).dice, ship := (Gm.ph2 ⟨g.dice, g.ship, []⟩ (g.shots.take j)).ship, shots := L } (.slice (some ⟨gs, 0, none⟩) L.length c)
    have rc := hR.has.game.cell
    have rf := hR.has.game.free
    dsimp only at rc
    rw [hLm] at rc r58
    by_cases hlt : j < m
    · have hjm : (j : Int) < m := by omega
      have hjl : j < g.shots.length := by rw [← HM.out]; exact hlt
      obtain ⟨way2, len2⟩ := Gm.ph2_way way0 hoks j (by rw [← HM.out]; exact hj)
      have hsn := Lib.hid (Gm.ph2_snoc ⟨g.dice, g.ship, []⟩ g.shots j hjl)
      have oks := hoks _ (List.getElem_mem hjl)
      have hLj : L[j]'(by rw [hLm]; exact hlt) = g.shots[j] := by
        have := hR.rest j (Nat.le_refl _)
        rw [List.getElem?_eq_getElem (by rw [hLm]; exact hlt), List.getElem?_eq_getElem hjl] at this
        injection this
      generalize hst : Gm.ph2 ⟨g.dice, g.ship, []⟩ (g.shots.take j) = st at *
      obtain ⟨s, hs⟩ : ∃ s, s = g.shots[j] := ⟨_, rfl⟩
      rw [← hs] at oks hLj
      have cst := stays_at { g with dice := st.dice, ship := st.ship, shots := L } b B c gs j wr hbB (by rw [hLm]; exact hlt) hR.has (by rw [hLj]; exact oks) way2.ships way2.dice
      dsimp only at cst
      rw [hLj] at cst
      have HR := Lib.hid hR
      have HSS := Lib.hid hs
      have hs4 := hR.left
      have hfew := hR.few
      clear hR hs hLj
      subst hs4
      generalize hF : Gm.fly s = F
      by_cases h1 : F.left = 0
      · have hg1 : gone { g with dice := st.dice, ship := st.ship, shots := L } j s = (false, flyG { g with dice := st.dice, ship := st.ship, shots := L } j F) := by
          unfold gone; rw [hF, if_pos h1]
        rw [hg1] at cst
        have hq : Gm.shot1 st s = st := by unfold Gm.shot1; rw [hF, if_pos h1]
        have HQ := Lib.hid hq
        have CST := Lib.hid cst
        clear cst hg1 hq hst
        go_wp2_with (go_at_call 63; ((with_reducible refine (CST.out).mono ?_); rintro e w1 ⟨rfl, h1', k1'⟩; have H1 := Lib.hid h1'; have K1 := Lib.hid k1'; clear h1' k1'))
        go_roundg (m - (j + 1))
        case measure => omega
        case rel =>
          refine ⟨j + 1, L.set j F, by omega, rfl, by go_num, ?_⟩
          rw [hsn.out, ← HSS.out, HQ.out]
          exact stays_go HR.out rfl F H1.out (HR.out.keep.trans K1.out)
      · by_cases h2 : Gm.hit st.ship F < 0
        · have hg1 : gone { g with dice := st.dice, ship := st.ship, shots := L } j s = (true, flyG { g with dice := st.dice, ship := st.ship, shots := L } j F) := by
            unfold gone; rw [hF, if_neg h1, if_pos h2]
          rw [hg1] at cst
          have hq : Gm.shot1 st s = { st with left := st.left ++ [F] } := by unfold Gm.shot1; rw [hF, if_neg h1, if_pos h2]
          have HQ := Lib.hid hq
          have CST := Lib.hid cst
          clear cst hg1 hq hst hF h1 h2
          obtain ⟨fo, fx, fy, fvx, fvy, fl⟩ := F
          have n32 : st.left.length + 1 ≤ 33 := by omega
          go_wp2_with (first | (go_at_call 63; ((with_reducible refine (CST.out).mono ?_); rintro e w1 ⟨rfl, h1', k1'⟩; have a58 := Gm.cells_58 (flyG { g with dice := st.dice, ship := st.ship, shots := L } j ⟨fo, fx, fy, fvx, fvy, fl⟩) (.slice (some ⟨gs, 0, none⟩) (flyG { g with dice := st.dice, ship := st.ship, shots := L } j ⟨fo, fx, fy, fvx, fvy, fl⟩).shots.length c); have a0 := h1'.game.cell; have q0 := h1'.shot (by rw [hLm]; exact hlt) 0 (by omega); have q1 := h1'.shot (by rw [hLm]; exact hlt) 1 (by omega); have q2 := h1'.shot (by rw [hLm]; exact hlt) 2 (by omega); have q3 := h1'.shot (by rw [hLm]; exact hlt) 3 (by omega); have q4 := h1'.shot (by rw [hLm]; exact hlt) 4 (by omega); have q5 := h1'.shot (by rw [hLm]; exact hlt) 5 (by omega); have R1 := (h1'.alloc (.cells #[.int .i64 fo, .int .i32 fx, .int .i32 fy, .int .i32 fvx, .int .i32 fvy, .int .i64 fl] 108)).room (n := st.left.length) (by show st.left.length < (L.set j _).length; rw [List.length_set, hLm]; omega) ⟨fo, fx, fy, fvx, fvy, fl⟩; obtain ⟨cur, r1, r2, r3, r4⟩ := R1; have RB := Lib.hid r1; have R4 := Lib.hid r4; have KK := Lib.hid ((HR.out.keep.trans k1').alloc (.cells #[.int .i64 fo, .int .i32 fx, .int .i32 fy, .int .i32 fvx, .int .i32 fvy, .int .i64 fl] 108)); have RL := Lib.hid (lies_cells w1 ⟨fo, fx, fy, fvx, fvy, fl⟩); simp only [Gm.Shot.cells, List.getElem?_cons_zero, List.getElem?_cons_succ, Nat.add_zero, List.length_set, hLm] at q0 q1 q2 q3 q4 q5 a58 a0; clear h1' k1' r1 r4 rc rf r58)) | ((with_reducible refine room_gate (x := .tmp 27) (y := .tmp 35) (t := 28) (e := 108) (size := 6) rfl rfl Try.underlying28 hI.out hS.out ?_); refine AppendsIn.mk rfl rfl RB.out RL.out (one_cells ⟨fo, fx, fy, fvx, fvy, fl⟩) r2 r3 ?_))
          go_roundg (m - (j + 1))
          case measure => omega
          case rel =>
            refine ⟨j + 1, (L.set j ⟨fo, fx, fy, fvx, fvy, fl⟩).set st.left.length ⟨fo, fx, fy, fvx, fvy, fl⟩, by omega, rfl, by go_num, ?_⟩
            rw [hsn.out, ← HSS.out, HQ.out]
            exact stays_stay HR.out hjl ⟨fo, fx, fy, fvx, fvy, fl⟩ (by have h := R4.out; rw [List.append_assoc] at h; exact h) (KK.out.row RB.out hbg _)
        · have hg1 : gone { g with dice := st.dice, ship := st.ship, shots := L } j s = (false, { flyG { g with dice := st.dice, ship := st.ship, shots := L } j F with dice := Gm.placeD st.dice, ship := Gm.more (Gm.anew st.dice st.ship (Gm.hit st.ship F).toNat) s.owner.toNat }) := by
            unfold gone; rw [hF, if_neg h1, if_neg h2]
          rw [hg1] at cst
          have hq : Gm.shot1 st s = ⟨Gm.placeD st.dice, Gm.more (Gm.anew st.dice st.ship (Gm.hit st.ship F).toNat) s.owner.toNat, st.left⟩ := by unfold Gm.shot1; rw [hF, if_neg h1, if_neg h2]
          generalize Gm.placeD st.dice = nd at cst hq
          generalize Gm.more (Gm.anew st.dice st.ship (Gm.hit st.ship F).toNat) s.owner.toNat = nf at cst hq
          have HQ := Lib.hid hq
          have CST := Lib.hid cst
          clear cst hg1 hq hst
          go_wp2_with (go_at_call 63; ((with_reducible refine (CST.out).mono ?_); rintro e w1 ⟨rfl, h1', k1'⟩; have H1 := Lib.hid h1'; have K1 := Lib.hid k1'; clear h1' k1'))
          go_roundg (m - (j + 1))
          case measure => omega
          case rel =>
            refine ⟨j + 1, L.set j F, by omega, rfl, by go_num, ?_⟩
            rw [hsn.out, ← HSS.out, HQ.out]
            exact stays_go (st' := ⟨nd, nf, st.left⟩) HR.out rfl F H1.out (HR.out.keep.trans K1.out)
    · have hjm : ¬ (j : Int) < m := by omega
      have hje : j = m := by omega
      subst hje
      rw [HM.out, List.take_length, ← HFIN.out] at hR rc r58
      obtain ⟨h1, h2, h3, h4, h5, h6, h7⟩ := hR
      subst h5
      have own2 := own_prefix (n := fin.left.length) h6.own (by show fin.left.length ≤ L.length; rw [h1]; exact h2)
      dsimp only at own2
      rw [h3] at own2
      have res : Has b B { g with dice := fin.dice, ship := fin.ship, shots := fin.left } (wr.setCell ⟨B, 58, none⟩ (.slice (some ⟨gs, 0, none⟩) fin.left.length c)) :=
        ⟨some ⟨gs, 0, none⟩, c, blk_shots (g := { g with dice := fin.dice, ship := fin.ship, shots := fin.left }) h6.game _, ownsRow_setCell_other (a := ⟨B, 58, none⟩) own2 (by intro e; injection e with e; exact h6.apart e) _⟩
      have RES := Lib.hid res
      have K7 := Lib.hid (h7.put 58 (.slice (some ⟨gs, 0, none⟩) fin.left.length c))
      clear h1 h2 h3 h4 h6 h7 own2 res
      go_wp2
      go_end0
      exact ⟨rfl, RES.out, K7.out⟩
theorem keep_any (g : Gm.G) (b B : Nat) (w : World) (hbB : b ≤ B) (h : Has b B g w) (hoks : ∀ t ∈ g.shots, Gm.okShot t) (hsh : ∀ j, j < 8 → Gm.okShip (g.ship j)) (hd : 0 ≤ g.dice ∧ g.dice ≤ 18446744073709551615) (hlen : g.shots.length ≤ 32) (fin : Gm.St) (hfin : fin = Gm.ph2 ⟨g.dice, g.ship, []⟩ g.shots) :
    Calls Try.prog 62 #[.pointer (some ⟨B, 0, none⟩), .func (.func 63) #[] #[.pointer (some ⟨B, 0, none⟩)]] w fun e w' => e = .returned (.tuple #[]) ∧ Has b B { g with dice := fin.dice, ship := fin.ship, shots := fin.left } w' ∧ Keep b B w w' := by
  by_cases h0 : g.shots = []
  · have e : fin = ⟨g.dice, g.ship, []⟩ := by rw [hfin, h0]; rfl
    subst e
    rw [show ({ g with dice := g.dice, ship := g.ship, shots := [] } : Gm.G) = g by rw [← h0]]
    exact keep_none g b B _ w hbB h h0
  · exact keep_step g b B w hbB h (fun e => h0 (List.eq_nil_of_length_eq_zero e)) hoks hsh hd hlen fin hfin
end Go.Proofs.Ytbihnmingedgfaa
