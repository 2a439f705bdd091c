/-
Several texts in one: Hu Hp Hoff Ps Fd Qg Ds Iu Te Hv Sb Hx.
-/
import Derived.Test.YtiahpncglpfjeaaGreatFp6
namespace Go.Proofs.YtiahpncglpfjeaaGreat
open Go.RowKit Go.Shelf
set_option linter.unusedVariables false

theorem one_cells (s : Gm.Shot) : ∀ u ∈ s.cells, u.oneCell' = true := by
  intro u hu
  simp only [Gm.Shot.cells, List.mem_cons, List.not_mem_nil, or_false] at hu
  rcases hu with rfl | rfl | rfl | rfl | rfl | rfl <;> rfl
theorem lies_cells (w : World) (s : Gm.Shot) : Lies (w.alloc (.cells #[.int .i64 s.owner, .int .i32 s.x, .int .i32 s.y, .int .i32 s.vx, .int .i32 s.vy, .int .i64 s.left] 90)) (w.alloc (.cells #[.int .i64 s.owner, .int .i32 s.x, .int .i32 s.y, .int .i32 s.vx, .int .i32 s.vy, .int .i64 s.left] 90)).heap.size 6 (some ⟨w.heap.size, 0, none⟩) 1 s.cells := lies_made w _ s
theorem shotCells_take (L : List Gm.Shot) (n : Nat) : Gm.shotCells (L.take n) = (Gm.shotCells L).take (n * 6) := by
  induction L generalizing n with
  | nil => simp [Gm.shotCells]
  | cons a L ih =>
    have hlen : a.cells.length = 6 := rfl
    unfold Gm.shotCells at *
    match n with
    | 0 => simp
    | n + 1 => rw [List.take_succ_cons, List.flatMap_cons, List.flatMap_cons, ih n, show (n + 1) * 6 = a.cells.length + n * 6 by rw [hlen]; omega, List.take_length_add_append]
theorem own_prefix {b gs m n c : Nat} {e : TypeId} {W : World} {L : List Gm.Shot} (h : W.ownsRow b e 6 (.slice (some ⟨gs, 0, none⟩) m c) m (Gm.shotCells L)) (hn : n ≤ m) : W.ownsRow b e 6 (.slice (some ⟨gs, 0, none⟩) n c) n (Gm.shotCells (L.take n)) := by
  obtain ⟨hl, ⟨h0, _⟩ | ⟨g', cap, cur, hv, hb, hgg, hnc, hcm, hcs, htake⟩⟩ := h
  · cases h0
  · injection hv with e1 e2 e3
    injection e1 with e1
    injection e1 with e1
    subst e1 e3
    have hle : n * 6 ≤ m * 6 := Nat.mul_le_mul_right 6 hn
    refine ⟨?_, .inr ⟨gs, c, cur, rfl, hb, hgg, by omega, hcm, hcs, ?_⟩⟩
    · rw [shotCells_take, List.length_take, hl]; omega
    · rw [shotCells_take, ← htake, List.take_take, Nat.min_eq_left hle]

/-- What the going over the shots finds. -/
structure Stays (b B c gs j : Nat) (w0 : World) (g : Gm.G) (st : Gm.St) (L : List Gm.Shot) (s4 : Value) (W : World) : Prop where
  len : L.length = g.shots.length
  few : st.left.length ≤ j
  kept : L.take st.left.length = st.left
  rest : ∀ i, j ≤ i → L[i]? = g.shots[i]?
  left : s4 = .slice (some ⟨gs, 0, none⟩) st.left.length c
  has : HasAt b B (some ⟨gs, 0, none⟩) c { g with dice := st.dice, ship := st.ship, shots := L } W
  keep : Keep b B w0 W
theorem stays_go {b B c gs j : Nat} {w0 : World} {g : Gm.G} {st st' : Gm.St} {L : List Gm.Shot} {s4 : Value} {W W' : World} (h : Stays b B c gs j w0 g st L s4 W) (hl : st'.left = st.left) (F : Gm.Shot) (hh : HasAt b B (some ⟨gs, 0, none⟩) c { g with dice := st'.dice, ship := st'.ship, shots := L.set j F } W') (hk : Keep b B w0 W') : Stays b B c gs (j + 1) w0 g st' (L.set j F) s4 W' := by
  have hf := h.few
  refine ⟨by simp [h.len], by rw [hl]; omega, ?_, fun i hi => ?_, by rw [hl]; exact h.left, hh, hk⟩
  · rw [hl, List.take_set_of_le hf]
    exact h.kept
  · rw [List.getElem?_set_ne (by omega)]
    exact h.rest i (by omega)
theorem stays_stay {b B c gs j : Nat} {w0 : World} {g : Gm.G} {st : Gm.St} {L : List Gm.Shot} {s4 : Value} {W W' : World} (h : Stays b B c gs j w0 g st L s4 W) (hj : j < g.shots.length) (F : Gm.Shot) (hh : HasAt b B (some ⟨gs, 0, none⟩) c { g with dice := st.dice, ship := st.ship, shots := (L.set j F).set st.left.length F } W') (hk : Keep b B w0 W') :
    Stays b B c gs (j + 1) w0 g { st with left := st.left ++ [F] } ((L.set j F).set st.left.length F) (.slice (some ⟨gs, 0, none⟩) (st.left.length + 1) c) W' := by
  have hf := h.few
  have hlen := h.len
  refine ⟨by simp [h.len], by simp; omega, ?_, fun i hi => ?_, by simp, hh, hk⟩
  · dsimp only
    rw [show (st.left ++ [F]).length = st.left.length + 1 by simp, List.take_succ_eq_append_getElem (by simp; omega)]
    congr 1
    · rw [List.take_set_of_le (Nat.le_refl _), List.take_set_of_le hf]
      exact h.kept
    · simp
  · rw [List.getElem?_set_ne (by omega), List.getElem?_set_ne (by omega)]
    exact h.rest i (by omega)

set_option maxRecDepth 100000 in
set_option maxHeartbeats 4000000 in
theorem keep_step (g : Gm.G) (b B : Nat) (w : World) (hbB : b ≤ B) (h : Has b B g w) (hne : g.shots.length ≠ 0) (hoks : ∀ t ∈ g.shots, Gm.okShot t) (hsh : ∀ j, j < 8 → Gm.okShip (g.ship j)) (hd : 0 ≤ g.dice ∧ g.dice ≤ 18446744073709551615) (hlen : g.shots.length ≤ 32) (fin : Gm.St) (hfin : fin = Gm.ph2 ⟨g.dice, g.ship, []⟩ g.shots) :
    Calls Tryz.prog 103 #[.pointer (some ⟨B, 0, none⟩), .func (.func 104) #[] #[.pointer (some ⟨B, 0, none⟩)]] w fun e w' => e = .returned (.tuple #[]) ∧ Has b B { g with dice := fin.dice, ship := fin.ship, shots := fin.left } w' ∧ Keep b B w w' := by
  obtain ⟨A, c, hB, hO⟩ := h
  have h : HasAt b B A c g w := ⟨hB, hO⟩
  obtain ⟨gs, rfl, hbg, _⟩ := h.len hne
  obtain ⟨m, hm⟩ : ∃ m, m = g.shots.length := ⟨_, rfl⟩
  have way0 : Gm.Way2 ⟨g.dice, g.ship, []⟩ := ⟨hsh, fun t ht => (by cases ht), hd⟩
  have start : Stays b B c gs 0 w g ⟨g.dice, g.ship, []⟩ g.shots (.slice (some ⟨gs, 0, none⟩) 0 c) w :=
    ⟨rfl, Nat.le_refl _, rfl, fun _ _ => rfl, rfl, h, Keep.refl hbB w⟩
  have START := Lib.hid start
  have hcc := hB.cell
  have e58 := Gm.cells_58 g (.slice (some ⟨gs, 0, none⟩) g.shots.length c)
  rw [← hm] at hcc e58 hne hlen
  obtain ⟨i0, hi0, hz0, hz1, hz2⟩ := info_parts shot_info
  have hI := Lib.hid hi0
  have hS := Lib.hid hz1
  have HM := Lib.hid hm
  have HFIN := Lib.hid hfin
  clear hB hO h start hi0 hz0 hz1 hz2 hm hfin
  go_enter Tryz.func103, Tryz.ntmps103
  go_wp2
  go_loopg [4, 16] m (fun gg s4 i wr => ∃ (j : Nat) (L : List Gm.Shot), j ≤ m ∧ gg = m - j ∧ i = .int .i64 j ∧ Stays b B c gs j w g (Gm.ph2 ⟨g.dice, g.ship, []⟩ (g.shots.take j)) L s4 wr)
  case atStart => exact ⟨0, g.shots, by omega, rfl, rfl, START.out⟩
  case round =>
    obtain ⟨j, L, hj, rfl, rfl, hR⟩ := hrel
    clear hcc e58
    have hLm : L.length = m := by rw [hR.len, HM.out]
    have r58 := Gm.cells_58 { g with dice := (Gm.ph2 ⟨g.dice, g.ship, []⟩ (g.shots.take j)).dice, ship := (Gm.ph2 ⟨g.dice, g.ship, []⟩ (g.shots.take j)).ship, shots := L } (.slice (some ⟨gs, 0, none⟩) L.length c)
    have rc := hR.has.game.cell
    have rf := hR.has.game.free
    dsimp only at rc
    rw [hLm] at rc r58
    by_cases hlt : j < m
    · have hjm : (j : Int) < m := by omega
      have hjl : j < g.shots.length := by rw [← HM.out]; exact hlt
      obtain ⟨way2, len2⟩ := Gm.ph2_way way0 hoks j (by rw [← HM.out]; exact hj)
      have hsn := Lib.hid (Gm.ph2_snoc ⟨g.dice, g.ship, []⟩ g.shots j hjl)
      have oks := hoks _ (List.getElem_mem hjl)
      have hLj : L[j]'(by rw [hLm]; exact hlt) = g.shots[j] := by
        have := hR.rest j (Nat.le_refl _)
        rw [List.getElem?_eq_getElem (by rw [hLm]; exact hlt), List.getElem?_eq_getElem hjl] at this
        injection this
      generalize hst : Gm.ph2 ⟨g.dice, g.ship, []⟩ (g.shots.take j) = st at *
      obtain ⟨s, hs⟩ : ∃ s, s = g.shots[j] := ⟨_, rfl⟩
      rw [← hs] at oks hLj
      have cst := stays_at { g with dice := st.dice, ship := st.ship, shots := L } b B c gs j wr hbB (by rw [hLm]; exact hlt) hR.has (by rw [hLj]; exact oks) way2.ships way2.dice
      dsimp only at cst
      rw [hLj] at cst
      have HR := Lib.hid hR
      have HSS := Lib.hid hs
      have hs4 := hR.left
      have hfew := hR.few
      clear hR hs hLj
      subst hs4
      generalize hF : Gm.fly s = F
      by_cases h1 : F.left = 0
      · have hg1 : gone { g with dice := st.dice, ship := st.ship, shots := L } j s = (false, flyG { g with dice := st.dice, ship := st.ship, shots := L } j F) := by
          unfold gone; rw [hF, if_pos h1]
        rw [hg1] at cst
        have hq : Gm.shot1 st s = st := by unfold Gm.shot1; rw [hF, if_pos h1]
        have HQ := Lib.hid hq
        have CST := Lib.hid cst
        clear cst hg1 hq hst
        go_wp2_with (go_at_call 104; ((with_reducible refine (CST.out).mono ?_); rintro e w1 ⟨rfl, h1', k1'⟩; have H1 := Lib.hid h1'; have K1 := Lib.hid k1'; clear h1' k1'))
        go_roundg (m - (j + 1))
        case measure => omega
        case rel =>
          refine ⟨j + 1, L.set j F, by omega, rfl, by go_num, ?_⟩
          rw [hsn.out, ← HSS.out, HQ.out]
          exact stays_go HR.out rfl F H1.out (HR.out.keep.trans K1.out)
      · by_cases h2 : Gm.hit st.ship F < 0
        · have hg1 : gone { g with dice := st.dice, ship := st.ship, shots := L } j s = (true, flyG { g with dice := st.dice, ship := st.ship, shots := L } j F) := by
            unfold gone; rw [hF, if_neg h1, if_pos h2]
          rw [hg1] at cst
          have hq : Gm.shot1 st s = { st with left := st.left ++ [F] } := by unfold Gm.shot1; rw [hF, if_neg h1, if_pos h2]
          have HQ := Lib.hid hq
          have CST := Lib.hid cst
          clear cst hg1 hq hst hF h1 h2
          obtain ⟨fo, fx, fy, fvx, fvy, fl⟩ := F
          have n32 : st.left.length + 1 ≤ 33 := by omega
          go_wp2_with (first | (go_at_call 104; ((with_reducible refine (CST.out).mono ?_); rintro e w1 ⟨rfl, h1', k1'⟩; have a58 := Gm.cells_58 (flyG { g with dice := st.dice, ship := st.ship, shots := L } j ⟨fo, fx, fy, fvx, fvy, fl⟩) (.slice (some ⟨gs, 0, none⟩) (flyG { g with dice := st.dice, ship := st.ship, shots := L } j ⟨fo, fx, fy, fvx, fvy, fl⟩).shots.length c); have a0 := h1'.game.cell; have q0 := h1'.shot (by rw [hLm]; exact hlt) 0 (by omega); have q1 := h1'.shot (by rw [hLm]; exact hlt) 1 (by omega); have q2 := h1'.shot (by rw [hLm]; exact hlt) 2 (by omega); have q3 := h1'.shot (by rw [hLm]; exact hlt) 3 (by omega); have q4 := h1'.shot (by rw [hLm]; exact hlt) 4 (by omega); have q5 := h1'.shot (by rw [hLm]; exact hlt) 5 (by omega); have R1 := (h1'.alloc (.cells #[.int .i64 fo, .int .i32 fx, .int .i32 fy, .int .i32 fvx, .int .i32 fvy, .int .i64 fl] 90)).room (n := st.left.length) (by show st.left.length < (L.set j _).length; rw [List.length_set, hLm]; omega) ⟨fo, fx, fy, fvx, fvy, fl⟩; obtain ⟨cur, r1, r2, r3, r4⟩ := R1; have RB := Lib.hid r1; have R4 := Lib.hid r4; have KK := Lib.hid ((HR.out.keep.trans k1').alloc (.cells #[.int .i64 fo, .int .i32 fx, .int .i32 fy, .int .i32 fvx, .int .i32 fvy, .int .i64 fl] 90)); have RL := Lib.hid (lies_cells w1 ⟨fo, fx, fy, fvx, fvy, fl⟩); simp only [Gm.Shot.cells, List.getElem?_cons_zero, List.getElem?_cons_succ, Nat.add_zero, List.length_set, hLm] at q0 q1 q2 q3 q4 q5 a58 a0; clear h1' k1' r1 r4 rc rf r58)) | ((with_reducible refine room_gate (x := .tmp 27) (y := .tmp 35) (t := 26) (e := 90) (size := 6) rfl rfl Tryz.underlying26 hI.out hS.out ?_); refine AppendsIn.mk rfl rfl RB.out RL.out (one_cells ⟨fo, fx, fy, fvx, fvy, fl⟩) r2 r3 ?_))
          go_roundg (m - (j + 1))
          case measure => omega
          case rel =>
            refine ⟨j + 1, (L.set j ⟨fo, fx, fy, fvx, fvy, fl⟩).set st.left.length ⟨fo, fx, fy, fvx, fvy, fl⟩, by omega, rfl, by go_num, ?_⟩
            rw [hsn.out, ← HSS.out, HQ.out]
            exact stays_stay HR.out hjl ⟨fo, fx, fy, fvx, fvy, fl⟩ (by have h := R4.out; rw [List.append_assoc] at h; exact h) (KK.out.row RB.out hbg _)
        · have hg1 : gone { g with dice := st.dice, ship := st.ship, shots := L } j s = (false, { flyG { g with dice := st.dice, ship := st.ship, shots := L } j F with dice := Gm.placeD st.dice, ship := Gm.more (Gm.anew st.dice st.ship (Gm.hit st.ship F).toNat) s.owner.toNat }) := by
            unfold gone; rw [hF, if_neg h1, if_neg h2]
          rw [hg1] at cst
          have hq : Gm.shot1 st s = ⟨Gm.placeD st.dice, Gm.more (Gm.anew st.dice st.ship (Gm.hit st.ship F).toNat) s.owner.toNat, st.left⟩ := by unfold Gm.shot1; rw [hF, if_neg h1, if_neg h2]
          generalize Gm.placeD st.dice = nd at cst hq
          generalize Gm.more (Gm.anew st.dice st.ship (Gm.hit st.ship F).toNat) s.owner.toNat = nf at cst hq
          have HQ := Lib.hid hq
          have CST := Lib.hid cst
          clear cst hg1 hq hst
          go_wp2_with (go_at_call 104; ((with_reducible refine (CST.out).mono ?_); rintro e w1 ⟨rfl, h1', k1'⟩; have H1 := Lib.hid h1'; have K1 := Lib.hid k1'; clear h1' k1'))
          go_roundg (m - (j + 1))
          case measure => omega
          case rel =>
            refine ⟨j + 1, L.set j F, by omega, rfl, by go_num, ?_⟩
            rw [hsn.out, ← HSS.out, HQ.out]
            exact stays_go (st' := ⟨nd, nf, st.left⟩) HR.out rfl F H1.out (HR.out.keep.trans K1.out)
    · have hjm : ¬ (j : Int) < m := by omega
      have hje : j = m := by omega
      subst hje
      rw [HM.out, List.take_length, ← HFIN.out] at hR rc r58
      obtain ⟨h1, h2, h3, h4, h5, h6, h7⟩ := hR
      subst h5
      have own2 := own_prefix (n := fin.left.length) h6.own (by show fin.left.length ≤ L.length; rw [h1]; exact h2)
      dsimp only at own2
      rw [h3] at own2
      have res : Has b B { g with dice := fin.dice, ship := fin.ship, shots := fin.left } (wr.setCell ⟨B, 58, none⟩ (.slice (some ⟨gs, 0, none⟩) fin.left.length c)) :=
        ⟨some ⟨gs, 0, none⟩, c, blk_shots (g := { g with dice := fin.dice, ship := fin.ship, shots := fin.left }) h6.game _, ownsRow_setCell_other (a := ⟨B, 58, none⟩) own2 (by intro e; injection e with e; exact h6.apart e) _⟩
      have RES := Lib.hid res
      have K7 := Lib.hid (h7.put 58 (.slice (some ⟨gs, 0, none⟩) fin.left.length c))
      clear h1 h2 h3 h4 h6 h7 own2 res
      go_wp2
      go_end0
      exact ⟨rfl, RES.out, K7.out⟩
theorem keep_any (g : Gm.G) (b B : Nat) (w : World) (hbB : b ≤ B) (h : Has b B g w) (hoks : ∀ t ∈ g.shots, Gm.okShot t) (hsh : ∀ j, j < 8 → Gm.okShip (g.ship j)) (hd : 0 ≤ g.dice ∧ g.dice ≤ 18446744073709551615) (hlen : g.shots.length ≤ 32) (fin : Gm.St) (hfin : fin = Gm.ph2 ⟨g.dice, g.ship, []⟩ g.shots) :
    Calls Tryz.prog 103 #[.pointer (some ⟨B, 0, none⟩), .func (.func 104) #[] #[.pointer (some ⟨B, 0, none⟩)]] w fun e w' => e = .returned (.tuple #[]) ∧ Has b B { g with dice := fin.dice, ship := fin.ship, shots := fin.left } w' ∧ Keep b B w w' := by
  by_cases h0 : g.shots = []
  · have e : fin = ⟨g.dice, g.ship, []⟩ := by rw [hfin, h0]; rfl
    subst e
    rw [show ({ g with dice := g.dice, ship := g.ship, shots := [] } : Gm.G) = g by rw [← h0]]
    exact keep_none g b B _ w hbB h h0
  · exact keep_step g b B w hbB h (fun e => h0 (List.eq_nil_of_length_eq_zero e)) hoks hsh hd hlen fin hfin
end Go.Proofs.YtiahpncglpfjeaaGreat
namespace Go.Proofs.YtiahpncglpfjeaaGreat
open Go.RowKit Go.Shelf
set_option linter.unusedVariables false
attribute [local go_sem] Oper.semAt_some
set_option maxRecDepth 100000 in
set_option maxHeartbeats 8000000 in
theorem step_yes (ps : Nat → Gm.In) (g : Gm.G) (A : Option Addr) (n c : Nat) (w : World) (hg : Gm.ok g) (hf : g.frame < 1048576) (hd : 0 ≤ g.dice ∧ g.dice ≤ 18446744073709551615) (hp : ∀ i, i < 8 → Gm.tyIn (ps i)) (hn : n = g.shots.length) (hr : Lies w w.heap.size 6 A n (Gm.shotCells g.shots)) :
    Calls Tryz.prog 60 #[.agg (Gm.cells g (.slice A n c)), .agg (Gm.insCells ps).toArray] w (Out (Gm.step ps g) 0 w) := by
  have b1 : Box (((w.alloc (.cells (Gm.cells g (.slice A n c)) 28)).alloc (.cells (Gm.insCells ps).toArray 40)).alloc (.cells (Gm.cells zeroG (.slice none 0 0)) 28)) w.heap.size 28 (Gm.cells g (.slice A n c)) := ((Box.made _ _ _).alloc _).alloc _
  have b2 : Box (((w.alloc (.cells (Gm.cells g (.slice A n c)) 28)).alloc (.cells (Gm.insCells ps).toArray 40)).alloc (.cells (Gm.cells zeroG (.slice none 0 0)) 28)) (w.heap.size + 1) 40 (Gm.insCells ps).toArray := (Box.made_at _ _ _ (by simp)).alloc _
  have b3 : Box (((w.alloc (.cells (Gm.cells g (.slice A n c)) 28)).alloc (.cells (Gm.insCells ps).toArray 40)).alloc (.cells (Gm.cells zeroG (.slice none 0 0)) 28)) (w.heap.size + 1 + 1) 28 (Gm.cells zeroG (.slice none 0 0)) := Box.made_at _ _ _ (by simp)
  have hb0 : Below w.heap.size w (((w.alloc (.cells (Gm.cells g (.slice A n c)) 28)).alloc (.cells (Gm.insCells ps).toArray 40)).alloc (.cells (Gm.cells zeroG (.slice none 0 0)) 28)) := (two_below' w _ _).alloc (by simp <;> omega) _
  have co := Lib.hid (own_any g A n c _ hn (by have := hg.2.2.1; omega) ((hr.below hb0).wider hb0.size))
  have cm := fun X (hX : Below w.heap.size w X) => Lib.hid (may_yes g A n c X hg hn ((hr.below hX).wider hX.size))
  have fr : (g.frame == 1048576) = false := by simpa using Int.ne_of_lt hf
  have e0 := Gm.cells_0 g (.slice A n c)
  have hN := Lib.hid hn
  have B1 := Lib.hid b1
  have B2 := Lib.hid b2
  have B3 := Lib.hid b3
  have HB := Lib.hid hb0
  clear hn b1 b2 b3 hb0 hr
  refine (callsIn_wide (n := 10)).1 (callsIn_of_wp_marks Tryz.func60 rfl trivial (wpIn_wide.2 ?_) rfl)
  simp only [Tryz.ntmps60, List.size_toArray, List.length_cons, List.length_nil, Nat.reduceAdd, Nat.reduceSub, Array.replicate_succ, Array.replicate_zero, List.push_toArray, List.append_toArray, List.nil_append, List.cons_append]
  go_upto_block 0 with (first | (refine wpList_alloc_game rfl rfl ?_) | ((with_reducible refine load_gate rfl rfl ?_); apply LoadGame.mk rfl; (with_reducible exact B1.out)) | ((with_reducible refine load_gate rfl rfl ?_); apply LoadGame.mk rfl; (with_reducible exact D1.out)) | (go_at_call 98; ((with_reducible refine (co.out).mono ?_); rintro e w1 ⟨A1, c1, rfl, ho1, hb1⟩; have HB1 := Lib.hid ((HB.out.trans (hb1.mono HB.out.size)).alloc (by have := hb1.size; simp at this; omega) (.cells (Gm.cells g (.slice A1 n c1)) 28)); have H1 := Lib.hid (has_made (w := w) hN.out (own_rebase ho1 (by simp; omega))); have D1 := Lib.hid ((B1.out.below hb1 (by simp <;> omega)).alloc (.cells (Gm.cells g (.slice A1 n c1)) 28)); have D2 := Lib.hid ((B2.out.below hb1 (by simp <;> omega)).alloc (.cells (Gm.cells g (.slice A1 n c1)) 28)); have D3 := Lib.hid ((B3.out.below hb1 (by simp <;> omega)).alloc (.cells (Gm.cells g (.slice A1 n c1)) 28)); have s1 : w.heap.size + 1 + 1 < w1.heap.size := (by have := hb1.size; simp at this; omega); clear ho1 hb1)) | (refine wpList_store_game_new rfl rfl rfl rfl rfl rfl ?_) | (go_at_call 24; ((with_reducible refine ((cm _ HB1.out).out).mono ?_); rintro e w2 ⟨rfl, hb2⟩; have HB2 := Lib.hid (HB1.out.trans (hb2.mono HB1.out.size)); have H2 := Lib.hid (H1.out.call hb2); have E1 := (D1.out.below hb2 D1.out.lt).cell; have E2 := Lib.hid (D2.out.below hb2 D2.out.lt); have E3 := Lib.hid (D3.out.below hb2 D3.out.lt); clear hb2)) | (go_at_call 99; ((with_reducible refine (flying_any _ _).mono ?_); rintro e w3 ⟨rfl, rfl⟩)))
  have M0 : Mid w.heap.size w1.heap.size (w.heap.size + 1) (w.heap.size + 1 + 1) w2.heap.size ps w g (w2.alloc (.cells #[.pointer (some ⟨w1.heap.size, 0, none⟩)] 132)) :=
    ⟨H2.out.alloc _, E2.out.alloc _, E3.out.alloc _, Box.made _ _ _, HB2.out.alloc HB2.out.size _⟩
  generalize hW0 : w2.alloc (.cells #[.pointer (some ⟨w1.heap.size, 0, none⟩)] 132) = W0 at M0 ⊢
  generalize w2.heap.size = Bg at M0 ⊢
  generalize w1.heap.size = Bn at M0 s1 ⊢
  have MM0 := Lib.hid M0
  have fit0 : Fit (fun i => (g.ship i).on) g := ⟨hg.2.2.2.1, hg.way.shots, hg.2.2.1, fun _ _ => rfl⟩
  have FIT := Lib.hid fit0
  have hfl0 : Flying Bn Bg (fun i => (g.ship i).on) W0 := ⟨M0.fly.cell 0, fun k hk => M0.has.flags k hk⟩
  have HOK := Lib.hid hg
  clear hW0 M0 fit0 H1 D1 D2 D3 H2 E2 E3 HB2 HB1 E1 e0 fr co cm B1 B2 B3 HB hN hg
  refine (wpIn_wide (n := 10)).1 ?_
  refine wpIn_block ?_
  refine wpIn_rangeFunc_ownF (n := 10) (w := W0) rfl (by omega) (gf := 128) (lb := #[.pointer (some ⟨Bg, 0, none⟩)]) rfl trivial (enters_of Tryz.func128 (by kernel_rfl) rfl)
    (flying1_stops (fun i => (g.ship i).on) Bn Bg _ W0 hfl0) flykp_t (flykp_b (n := W0.heap.size)) (Below.refl _ _) (fun _ => rfl)
    (fun pre W => Mid w.heap.size Bn (w.heap.size + 1) (w.heap.size + 1 + 1) Bg ps w (over ps g pre) W)
    (fun _ _ _ => False)
    (fun pre W W' row h hgr hr => h.turned (Nat.le_refl _) hgr (fun r e => ⟨Nat.le_trans MM0.out.below.size (hr r e).1, (hr r e).2⟩))
    (fun _ _ _ _ _ hs _ _ => hs)
    MM0.out
    (fun x => { tmps := #[.agg (Gm.cells g (.slice A n c)), .agg (Gm.insCells ps).toArray, .pointer (some ⟨w.heap.size, 0, none⟩), .pointer (some ⟨w.heap.size + 1, 0, none⟩), .pointer (some ⟨w.heap.size + 1 + 1, 0, none⟩), .int .i64 0,
          .pointer (some ⟨Bn, 0, none⟩), .int .i64 x.1, .pointer (some ⟨Bn, 2 + x.1 * 7, none⟩), undef,
          .agg (Gm.cells g (.slice A n c)), .agg (Gm.cells g (.slice A1 n c1)), .agg (Gm.cells g (.slice A n c)), .bool true, .bool false, undef,
          .pointer (some ⟨w.heap.size, 0, none⟩), .int .i64 g.frame, .bool false, undef, .func (.func 128) #[] #[.pointer (some ⟨Bg, 0, none⟩)], .int .i64 x.1, .pointer (some ⟨Bn, 2 + x.1 * 7, none⟩),
          undef, undef, undef, undef, undef, undef, undef, undef, undef, undef, undef, undef, undef, undef, undef, undef, undef], defers := [] }) ?assign ?body ?done ?stop
  case assign =>
    intro l x W K hK
    gi_wp2
    exact hK
  case body =>
    rintro l pre x W hM hlen
    have hfit := over_fit (ps := ps) FIT.out pre
    generalize hX : over ps g pre = X at hM hfit
    have hsn : over ps g (pre ++ [x]) = stepOne ps X x.1 := by rw [over_snoc, hX]
    obtain ⟨k, hk, hon⟩ := x
    have hk8 : (k : Int) < 8 := by omega
    obtain ⟨pk, hpk⟩ : ∃ p, ps k = p := ⟨_, rfl⟩
    obtain ⟨px, py, pb⟩ := pk
    have hty := hp k hk
    rw [hpk] at hty
    obtain ⟨wx, wy, wp⟩ := hty
    dsimp only at wx wy wp
    have ch := fun Y => Lib.hid (held_any ⟨px, py, pb⟩ ⟨wx, wy, wp⟩ Y)
    have tx := Gf.tame_bd wx
    have ty := Gf.tame_bd wy
    have hstep := shot_step ps X k (by rw [hfit.flags k hk]; exact hon) (hfit.ships k hk).2.2.2.2.2.1
    rw [hpk] at hstep
    simp only [Gm.In.cells, Gm.tameIn] at ch
    dsimp only at hstep
    generalize Gf.tame px = TX at ch tx hstep
    generalize Gf.tame py = TY at ch ty hstep
    have hin := hM.ins.cell
    have hil := hM.ins.lt
    have q0 : (Gm.insCells ps).toArray[k * 3]? = some (.int .i8 px) := (Gm.insCells_at ps k 0 hk (by omega)).trans (by rw [hpk]; rfl)
    have q1 : (Gm.insCells ps).toArray[k * 3 + 1]? = some (.int .i8 py) := (Gm.insCells_at ps k 1 hk (by omega)).trans (by rw [hpk]; rfl)
    have q2 : (Gm.insCells ps).toArray[k * 3 + 2]? = some (.int .u8 pb) := (Gm.insCells_at ps k 2 hk (by omega)).trans (by rw [hpk]; rfl)
    have HM := Lib.hid hM
    have HX := Lib.hid hsn
    have HFIT := Lib.hid hfit
    have HST := Lib.hid hstep
    clear hM hsn hfit hstep hX hlen
    have hbB : w.heap.size ≤ Bn := by omega
    have hWn : Bn < W.heap.size := HM.out.has.lt
    have hty2 := (HFIT.out.ships k hk).ty
    have hcool : 0 ≤ ((shipG X k (steered (X.ship k) TX TY)).ship k).cool ∧ ((shipG X k (steered (X.ship k) TX TY)).ship k).cool ≤ 10 := by
      rw [show (shipG X k (steered (X.ship k) TX TY)).ship k = steered (X.ship k) TX TY from Gm.upd_same _ _ _]
      have := HFIT.out.ships k hk
      exact ⟨this.2.2.2.2.2.1, this.2.2.2.2.2.2.1⟩
    have HC := Lib.hid hcool
    have HTY := Lib.hid hty2
    clear hcool hty2
    gi_wp2_with (first | (gi_at_call 100; ((with_reducible refine (CallsIn.inRound l (callsIn_wide.2 (ch _).out)).mono ?_); rintro e v1 ⟨rfl, hb1⟩; have H1 := Lib.hid ((HM.out.has.call hb1).alloc (.cells #[.int .i8 TX, .int .i8 TY, .int .u8 pb] 39)); have K1 := Lib.hid (((Keep.refl hbB W).call hb1).alloc (.cells #[.int .i8 TX, .int .i8 TY, .int .u8 pb] 39)); have v1n : v1.heap.size ≠ Bn := (by have := hb1.size; omega); clear hb1)) | (refine ⟨trivial, ?_⟩; gi_at_call 100; ((with_reducible refine (CallsIn.inRound l (callsIn_wide.2 (ch _).out)).mono ?_); rintro e v1 ⟨rfl, hb1⟩; have H1 := Lib.hid ((HM.out.has.call hb1).alloc (.cells #[.int .i8 TX, .int .i8 TY, .int .u8 pb] 39)); have K1 := Lib.hid (((Keep.refl hbB W).call hb1).alloc (.cells #[.int .i8 TX, .int .i8 TY, .int .u8 pb] 39)); have v1n : v1.heap.size ≠ Bn := (by have := hb1.size; omega); clear hb1)) | (gi_at_call 101; ((with_reducible refine (CallsIn.inRound l (callsIn_wide.2 (steer_any X w.heap.size Bn k TX TY pb _ hbB hk H1.out HTY.out (by omega) (by omega)))).mono ?_); rintro e v2 ⟨⟨r2, rfl⟩, hH2, hK2⟩; have H2 := Lib.hid hH2; have K2 := Lib.hid (K1.out.trans hK2); have D9 := (Box.made v1 39 #[.int .i8 TX, .int .i8 TY, .int .u8 pb]).keep hK2 v1n (by decide); have d9 := D9.cell; have l9 := D9.lt; clear hH2 hK2 D9)) | (refine ⟨trivial, ?_⟩; gi_at_call 101; ((with_reducible refine (CallsIn.inRound l (callsIn_wide.2 (steer_any X w.heap.size Bn k TX TY pb _ hbB hk H1.out HTY.out (by omega) (by omega)))).mono ?_); rintro e v2 ⟨⟨r2, rfl⟩, hH2, hK2⟩; have H2 := Lib.hid hH2; have K2 := Lib.hid (K1.out.trans hK2); have D9 := (Box.made v1 39 #[.int .i8 TX, .int .i8 TY, .int .u8 pb]).keep hK2 v1n (by decide); have d9 := D9.cell; have l9 := D9.lt; clear hH2 hK2 D9)) | (gi_at_call 102; ((with_reducible refine (CallsIn.inRound l (callsIn_wide.2 (shoot_any (shipG X k (steered (X.ship k) TX TY)) w.heap.size Bn k TX TY pb _ hbB hk H2.out HC.out (by omega) (by omega) wp))).mono ?_); rintro e v3 ⟨⟨r3, rfl⟩, hH3, hK3⟩; rw [HST.out] at hH3; have H3 := Lib.hid hH3; have K3 := Lib.hid (K2.out.trans hK3); clear hH3 hK3)) | (refine ⟨trivial, ?_⟩; gi_at_call 102; ((with_reducible refine (CallsIn.inRound l (callsIn_wide.2 (shoot_any (shipG X k (steered (X.ship k) TX TY)) w.heap.size Bn k TX TY pb _ hbB hk H2.out HC.out (by omega) (by omega) wp))).mono ?_); rintro e v3 ⟨⟨r3, rfl⟩, hH3, hK3⟩; rw [HST.out] at hH3; have H3 := Lib.hid hH3; have K3 := Lib.hid (K2.out.trans hK3); clear hH3 hK3)))
    have M3 : Mid w.heap.size Bn (w.heap.size + 1) (w.heap.size + 1 + 1) Bg ps w (stepOne ps X k) v3 := HM.out.kept (Nat.le_refl _) (by omega) H3.out K3.out
    have fit3 := stepOne_fit (ps := ps) HFIT.out hk
    obtain ⟨A9, c9, hB9, _⟩ := HM.out.has
    refine ⟨K3.out.others hB9, fun _ => ⟨M3.fly.cell 0, fun i hi => (M3.has.flags i hi).trans (by rw [fit3.flags i hi])⟩, ?_⟩
    show Mid _ _ _ _ _ _ _ (over ps g (pre ++ [⟨k, hk, hon⟩])) v3
    rw [HX.out]
    exact M3
  case done =>
    rintro D xs W hD rfl hM hK
    have e1 := over_all (on := fun i => (g.ship i).on) ps g (fun _ _ => rfl)
    have hM : Mid w.heap.size Bn (w.heap.size + 1) (w.heap.size + 1 + 1) Bg ps w (over ps g (flies (fun i => (g.ship i).on) 8 0)) W := hM
    have hfit := over_fit (ps := ps) FIT.out (flies (fun i => (g.ship i).on) 8 0)
    rw [e1] at hM hfit
    obtain ⟨F, hF⟩ : ∃ F, F = (Gm.ph1 ps g 8).1 := ⟨_, rfl⟩
    obtain ⟨l, hl⟩ : ∃ l, l = (Gm.ph1 ps g 8).2 := ⟨_, rfl⟩
    rw [← hF, ← hl] at hM hfit
    obtain ⟨fin, hfin⟩ : ∃ fin, fin = Gm.ph2 ⟨g.dice, F, []⟩ l := ⟨_, rfl⟩
    have hstep : Gm.step ps g = ⟨g.frame + 1, fin.dice, fin.ship, fin.left⟩ := by rw [hfin, hF, hl]; rfl
    have ck := Lib.hid (keep_any { g with ship := F, shots := l } w.heap.size Bn W (by omega) hM.has hfit.shots hfit.ships hd hfit.len fin hfin)
    have hmf : ∀ (fn : Fn) (first cap : Array Value) (w : World), (Instr.makeFunc fn first cap).run Tryz.prog w = .ok (.func fn first cap) w := fun _ _ _ _ => rfl
    have hwrap : IntKind.i64.wrap (g.frame + 1) = g.frame + 1 := by rw [IntKind.wrap_i64]; have := HOK.out.1; omega
    have hDw : w.heap.size ≤ D := Nat.le_trans MM0.out.below.size hD
    have HMM := Lib.hid hM
    obtain ⟨A9, c9, hB9, _⟩ := hM.has
    have HB9 := Lib.hid hB9
    clear hB9
    have HK := Lib.hid hK
    have HST := Lib.hid hstep
    clear hM hfit hF hl hfin hstep e1 hK
    go_wp2_with (first | (go_at_call 103; ((with_reducible refine (ck.out).mono ?_); rintro e w4 ⟨rfl, h4, k4⟩; obtain ⟨A4, c4, B4, O4⟩ := h4; have ne4 : w.heap.size + 1 + 1 ≠ Bn := (by omega); have R4 := HMM.out.res.keep k4 ne4 (by decide); have b4 := B4.cell; have f4 := B4.free; have e4 := Gm.cells_0 { g with dice := fin.dice, ship := fin.ship, shots := fin.left } (.slice A4 fin.left.length c4); have G5 := Lib.hid (blk_frame B4 (g.frame + 1)); have R5 := Lib.hid (R4.far (p := ⟨Bn, 0, none⟩) ne4 (.int .i64 (g.frame + 1))); have nO := B4.unowned O4 (by decide); have O5 := Lib.hid (ownsRow_setCell_other (a := ⟨Bn, 0, none⟩) O4 nO (.int .i64 (g.frame + 1))); have K5 := Lib.hid ((HMM.out.below.trans (k4.to HMM.out.below.size)).setCell (p := ⟨Bn, 0, none⟩) (by show w.heap.size ≤ Bn; omega) (.int .i64 (g.frame + 1))); have T5 := Lib.hid (((k4.others HB9.out).trans (KeepsOthers.setCell w4 ⟨Bn, 0, none⟩ (.int .i64 (g.frame + 1)))).same D _ HK.out rfl); clear B4 O4 R4 k4 nO)) | ((with_reducible refine load_gate rfl rfl ?_); apply LoadGame.mk rfl; exact G5.out) | ((with_reducible refine store_gate rfl rfl ?_); apply StoreGame.mk rfl rfl rfl; exact R5.out))
    have hDr : D ≠ w.heap.size + 1 + 1 := fun e => by
      have h1 := T5.out
      rw [e, R5.out.is] at h1
      injection h1 with h1
      cases h1
    have T6 : ((w4.setCell ⟨Bn, 0, none⟩ (.int .i64 (g.frame + 1))).setRow (w.heap.size + 1 + 1) (Gm.cells { g with frame := g.frame + 1, dice := fin.dice, ship := fin.ship, shots := fin.left } (.slice A4 fin.left.length c4))).heap[D]? = some (.deferred (some [])) :=
      (setRow_other _ _ D _ hDr).trans T5.out
    refine ⟨by simp, .inl ⟨_, _, rfl, run_takeDeferred T6, ?_⟩⟩
    refine ⟨.tuple #[.agg (Gm.cells { g with frame := g.frame + 1, dice := fin.dice, ship := fin.ship, shots := fin.left } (.slice A4 fin.left.length c4)), .int .i64 0], ?_, ?_⟩
    · exact results_cell_tmp (p := 4) (q := 5) rfl _ _ _ _ (Gm.cells { g with frame := g.frame + 1, dice := fin.dice, ship := fin.ship, shots := fin.left } (.slice A4 fin.left.length c4)) _ rfl ((Box.row R5.out _).turned (grownBy_putObj' _ D (.deferred none)) (fun r e => by cases e; exact ⟨_, T6, rfl⟩)) Tryz.underlying28 rfl game_info
    · rw [HST.out]
      refine ⟨A4, c4, rfl, ?_, ?_⟩
      · exact Lies.owned (ownsRow_putObj (own_setRow O5.out (R5.out.unowned O5.out (by decide)) _) _ T6 rfl)
      · exact (Below.setRow' K5.out (by omega) _).grown (grownBy_putObj' _ D (.deferred none)) (by have := (Array.getElem?_eq_some_iff.1 T6).1; omega) (fun k e => by cases e; exact hDw)
  case stop =>
    rintro D c' pre W _ _ h _
    exact h.elim
end Go.Proofs.YtiahpncglpfjeaaGreat
namespace Go.Proofs.YtiahpncglpfjeaaGreat
open Go.RowKit
set_option linter.unusedVariables false

def tagV (v : Value) : Nat := match v with | .int .i64 _ => 1 | .int .i32 _ => 2 | _ => 0
def gameTags : List Nat := [1, 0] ++ ([0, 2, 2, 2, 2, 1, 1] ++ ([0, 2, 2, 2, 2, 1, 1] ++ ([0, 2, 2, 2, 2, 1, 1] ++ ([0, 2, 2, 2, 2, 1, 1] ++ ([0, 2, 2, 2, 2, 1, 1] ++ ([0, 2, 2, 2, 2, 1, 1] ++ ([0, 2, 2, 2, 2, 1, 1] ++ [0, 2, 2, 2, 2, 1, 1]))))))) ++ [0]
theorem Lies.alloc {w : World} {size n : Nat} {A : Option Addr} {xs : List Value} (h : Lies w w.heap.size size A n xs) (o : Obj) : Lies (w.alloc o) (w.alloc o).heap.size size A n xs :=
  (h.below (one_below w o)).wider (one_below w o).size
theorem Lies.call {w w' : World} {size n : Nat} {A : Option Addr} {xs : List Value} (h : Lies w w.heap.size size A n xs) (hb : Below w.heap.size w w') : Lies w' w'.heap.size size A n xs :=
  (h.below hb).wider hb.size
end Go.Proofs.YtiahpncglpfjeaaGreat
namespace Gm
open Go
set_option linter.unusedVariables false

/-- Bit k of a mask, as the program asks for it. -/
def bit (m : Int) (k : Nat) : Bool := bits .and .i64 (m / 2 ^ k) 1 == 1
structure Fresh (m : Int) (k : Nat) (g : G) : Prop where
  ok : Gm.ok g
  dice : 0 ≤ g.dice ∧ g.dice ≤ 18446744073709551615
  frame : g.frame = 0
  shots : g.shots = []
  on : ∀ j, (g.ship j).on = (decide (j < k) && bit m j)
theorem fresh_new (m d : Int) (hd : 0 ≤ d ∧ d ≤ 18446744073709551615) : Fresh m 0 (new d) := by
  refine ⟨⟨by show (0 : Int) ≤ 0; decide, by show (0 : Int) ≤ 1048576; decide, by show 0 ≤ 32; omega, fun i hi => ?_, fun i h => absurd h (by show ¬ i < 0; omega)⟩, hd, rfl, rfl, fun j => by simp [new, Ship.none]⟩
  exact (show okShip Ship.none from ⟨.inr rfl, by unfold inF Ship.none; decide, by unfold inF Ship.none; decide, by unfold slow Ship.none; decide, by unfold slow Ship.none; decide, by decide, by decide, by decide, by decide⟩)
theorem Fresh.next {m : Int} {k : Nat} {g : G} (h : Fresh m k g) (hk : k < 8) : Fresh m (k + 1) (if bit m k = true then spawn g k else g) := by
  by_cases hb : bit m k = true
  · rw [if_pos hb]
    have hp := place_bd g.dice
    refine ⟨⟨h.ok.1, h.ok.2.1, h.ok.2.2.1, fun i hi => ?_, h.ok.2.2.2.2⟩, hp.2.2, h.frame, h.shots, fun j => ?_⟩
    · show okShip (upd _ _ _ _)
      unfold upd
      split
      · exact ⟨.inl rfl, hp.1, hp.2.1, by unfold slow; dsimp only; omega, by unfold slow; dsimp only; omega, by dsimp only; omega, by dsimp only; omega, by dsimp only; omega, by dsimp only; omega⟩
      · exact h.ok.2.2.2.1 i hi
    · show (upd g.ship k _ j).on = _
      unfold upd
      by_cases e : j = k
      · subst e; simp [hb]
      · rw [if_neg e, h.on j]
        by_cases hlt : j < k
        · simp [hlt, show j < k + 1 by omega]
        · simp [hlt, show ¬ j < k + 1 by omega]
  · rw [if_neg hb]
    refine ⟨h.ok, h.dice, h.frame, h.shots, fun j => ?_⟩
    rw [h.on j]
    by_cases e : j = k
    · subst e; simp at hb; simp [hb]
    · by_cases hlt : j < k
      · simp [hlt, show j < k + 1 by omega]
      · simp [hlt, show ¬ j < k + 1 by omega]
theorem moved_keeps (p : In) (n : Nat) (s : Ship) : (moved p n s).on = s.on ∧ (moved p n s).score = s.score := by
  unfold moved; split
  · rename_i h; exact ⟨h.symm, rfl⟩
  · exact ⟨rfl, rfl⟩
theorem ph1_keeps (ps : Nat → In) (g : G) : ∀ k j, ((ph1 ps g k).1 j).on = (g.ship j).on ∧ ((ph1 ps g k).1 j).score = (g.ship j).score
  | 0, _ => ⟨rfl, rfl⟩
  | k + 1, j => by
    have ih := ph1_keeps ps g k
    show ((upd (ph1 ps g k).1 k _ j)).on = _ ∧ (upd (ph1 ps g k).1 k _ j).score = _
    unfold upd
    split
    · rename_i e; subst e
      exact ⟨(moved_keeps _ _ _).1.trans (ih j).1, (moved_keeps _ _ _).2.trans (ih j).2⟩
    · exact ih j
def Rises (f f' : Nat → Ship) : Prop := ∀ j, j < 8 → (f' j).on = (f j).on ∧ (f j).score ≤ (f' j).score
theorem Rises.refl (f : Nat → Ship) : Rises f f := fun _ _ => ⟨rfl, Int.le_refl _⟩
theorem Rises.trans {f g h : Nat → Ship} (h1 : Rises f g) (h2 : Rises g h) : Rises f h := fun j hj => ⟨(h2 j hj).1.trans (h1 j hj).1, Int.le_trans (h1 j hj).2 (h2 j hj).2⟩
theorem anew_rises {d : Int} {f : Nat → Ship} {k : Nat} (hon : (f k).on = true) : Rises f (anew d f k) := fun j hj => by
  unfold anew upd
  split
  · rename_i e; subst e; exact ⟨hon.symm, Int.le_refl _⟩
  · exact ⟨rfl, Int.le_refl _⟩
theorem more_rises {f : Nat → Ship} {o : Nat} (h : ∀ i, i < 8 → okShip (f i)) : Rises f (more f o) := fun j hj => by
  unfold more
  split
  · unfold upd
    split
    · rename_i e; subst e
      have := (h j hj).2.2.2.2.2.2.2.2
      exact ⟨rfl, by dsimp only; omega⟩
    · exact ⟨rfl, Int.le_refl _⟩
  · exact ⟨rfl, Int.le_refl _⟩
theorem shot1_rises {st : St} {s : Shot} (h : Way2 st) : Rises st.ship (shot1 st s).ship := by
  unfold shot1
  split
  · exact Rises.refl _
  · split
    · exact Rises.refl _
    · rename_i hh
      rcases hit_bd st.ship (fly s) with e | ⟨k, e, hk, h1⟩
      · rw [e] at hh; exact absurd (by decide) hh
      · rw [e]
        have hon : (st.ship k).on = true := by unfold hits1 at h1; simp at h1; exact h1.1
        exact (anew_rises (d := st.dice) (by simpa using hon)).trans (more_rises (anew_ok h.ships (by simpa using hk)))
theorem ph2_rises {st : St} {l : List Shot} (h : Way2 st) (hl : ∀ t ∈ l, okShot t) : ∀ j, j ≤ l.length → Rises st.ship (ph2 st (l.take j)).ship
  | 0, _ => by simpa [ph2] using Rises.refl st.ship
  | j + 1, hj => by
    have ih := ph2_rises h hl j (by omega)
    rw [ph2_snoc st l j (by omega)]
    exact ih.trans (shot1_rises (ph2_way h hl j (by omega)).1)
structure Good (g : G) : Prop where
  ok : Gm.ok g
  dice : 0 ≤ g.dice ∧ g.dice ≤ 18446744073709551615
theorem step_good {ps : Nat → In} {g : G} (h : Good g) (hf : g.frame < 1048576) : Good (step ps g) ∧ (step ps g).frame = g.frame + 1 ∧ Rises g.ship (step ps g).ship := by
  have w8 := ph1_way (ps := ps) h.ok 8 (by omega)
  have st0 : Way2 ⟨g.dice, (ph1 ps g 8).1, []⟩ := ⟨w8.ships, fun t ht => (by cases ht), h.dice⟩
  have hw := ph2_way st0 w8.shots (ph1 ps g 8).2.length (Nat.le_refl _)
  have hr := ph2_rises st0 w8.shots (ph1 ps g 8).2.length (Nat.le_refl _)
  rw [List.take_length] at hw hr
  have hok := h.ok
  refine ⟨⟨⟨?_, ?_, ?_, hw.1.ships, fun i hi => hw.1.left _ (List.getElem_mem hi)⟩, hw.1.dice⟩, rfl, fun j hj => ?_⟩
  · show 0 ≤ g.frame + 1; have := hok.1; omega
  · show g.frame + 1 ≤ 1048576; omega
  · have h1 := hw.2
    have h2 := w8.len
    simp only [List.length_nil, Nat.zero_add] at h1
    exact Nat.le_trans h1 h2
  · have h1 := ph1_keeps ps g 8 j
    have h2 := hr j hj
    exact ⟨h2.1.trans h1.1, by rw [← h1.2]; exact h2.2⟩
end Gm
namespace Go.Proofs.YtiahpncglpfjeaaGreat
open Go.RowKit Go.Shelf
set_option linter.unusedVariables false
set_option linter.unusedSimpArgs false

theorem Fd.take_ok {r : Ros.R} {k : Nat} {p : Int} (h : Ros.MayTake r k p) : Ros.Ok (Ros.take r k p) := by
  obtain ⟨⟨⟨⟨hok, hv⟩, h0, h8⟩, hp, ho⟩, hpk, hgk⟩ := h
  have hk : k < 8 := by omega
  obtain ⟨h1, h2, h3⟩ := Ros.ok_iff.1 hok
  have hof := Ros.of_cases hok hp.1 hp.2
  have hnone : ∀ j, j < 8 → r.peer j ≠ p := by
    rcases hof with ⟨_, h⟩ | ⟨j, _, e, _⟩
    · exact h
    · rw [ho] at e; omega
  have hgk' : r.gen k ≠ 60000 := hgk
  refine Ros.ok_iff.2 ⟨?_, fun j hj => ?_, fun i j hij hj => ?_⟩
  · show 0 ≤ r.version + 1 ∧ r.version + 1 ≤ 1073741824
    omega
  · by_cases e : j = k
    · subst e
      have hs := (h2 j hj).1
      show (0 ≤ Ros.upd r.gen j _ j ∧ Ros.upd r.gen j _ j ≤ 60000) ∧ (Ros.upd r.peer j p j = -1 ∨ ((0 ≤ Ros.upd r.peer j p j ∧ Ros.upd r.peer j p j < 12) ∧ 0 < Ros.upd r.gen j _ j))
      rw [Ros.upd_same, Ros.upd_same]
      exact ⟨by omega, .inr ⟨hp, by omega⟩⟩
    · show (0 ≤ Ros.upd r.gen k _ j ∧ Ros.upd r.gen k _ j ≤ 60000) ∧ (Ros.upd r.peer k p j = -1 ∨ ((0 ≤ Ros.upd r.peer k p j ∧ Ros.upd r.peer k p j < 12) ∧ 0 < Ros.upd r.gen k _ j))
      rw [Ros.upd_other _ _ e, Ros.upd_other _ _ e]
      exact h2 j hj
  · show Ros.upd r.peer k p i = -1 ∨ Ros.upd r.peer k p i ≠ Ros.upd r.peer k p j
    by_cases e : i = k
    · subst e
      rw [Ros.upd_same, Ros.upd_other _ _ (by omega)]
      exact .inr (fun e => hnone j hj e.symm)
    · rw [Ros.upd_other _ _ e]
      by_cases e' : j = k
      · subst e'
        rw [Ros.upd_same]
        exact .inr (hnone i (by omega))
      · rw [Ros.upd_other _ _ e']
        exact h3 i j hij hj

theorem Fd.give_ok {r : Ros.R} {k : Nat} (h : Ros.MayGive r k) : Ros.Ok (Ros.give r k) := by
  obtain ⟨⟨⟨hok, hv⟩, h0, h8⟩, hp⟩ := h
  have hk : k < 8 := by omega
  obtain ⟨h1, h2, h3⟩ := Ros.ok_iff.1 hok
  refine Ros.ok_iff.2 ⟨?_, fun j hj => ?_, fun i j hij hj => ?_⟩
  · show 0 ≤ r.version + 1 ∧ r.version + 1 ≤ 1073741824
    omega
  · show (0 ≤ r.gen j ∧ r.gen j ≤ 60000) ∧ (Ros.upd r.peer k (-1) j = -1 ∨ ((0 ≤ Ros.upd r.peer k (-1) j ∧ Ros.upd r.peer k (-1) j < 12) ∧ 0 < r.gen j))
    by_cases e : j = k
    · subst e
      rw [Ros.upd_same]
      exact ⟨(h2 j hj).1, .inl rfl⟩
    · rw [Ros.upd_other _ _ e]
      exact h2 j hj
  · show Ros.upd r.peer k (-1) i = -1 ∨ Ros.upd r.peer k (-1) i ≠ Ros.upd r.peer k (-1) j
    by_cases e : i = k
    · subst e
      rw [Ros.upd_same]
      exact .inl rfl
    · rw [Ros.upd_other _ _ e]
      by_cases e' : j = k
      · subst e'
        rw [Ros.upd_same]
        by_cases e2 : r.peer i = -1
        · exact .inl e2
        · exact .inr e2
      · rw [Ros.upd_other _ _ e']
        exact h3 i j hij hj

namespace Fd
/-- A game and a roster. -/
structure S where
  g : Gm.G
  r : Ros.R
/-- Which states may be, and their dice are numbers. -/
structure Fine (s : S) : Prop where
  ok : Im.Ok s.g s.r
  dice : 0 ≤ s.g.dice ∧ s.g.dice ≤ 18446744073709551615
theorem Fine.good {s : S} (h : Fine s) : Gm.Good s.g := ⟨h.ok.1, h.dice⟩
def MayEv (s : S) (v : En.Ev) : Prop :=
  (v.kind = 1 ∧ Ros.MayTake s.r v.slot v.peer ∧ v.gen = s.r.gen v.slot.toNat + 1) ∨ (v.kind = 2 ∧ Ros.MayGive s.r v.slot ∧ s.r.peer v.slot.toNat = v.peer ∧ s.r.gen v.slot.toNat = v.gen)
instance (s : S) (v : En.Ev) : Decidable (MayEv s v) := by unfold MayEv; infer_instance
def after (s : S) (v : En.Ev) : S := if v.kind = 1 then ⟨Gm.spawn s.g v.slot.toNat, Ros.take s.r v.slot.toNat v.peer⟩ else ⟨Gm.remove s.g v.slot.toNat, Ros.give s.r v.slot.toNat⟩
def change (s : S) (v : En.Ev) : Option S := if MayEv s v then some (after s v) else none
def changes : S → List En.Ev → Option S
  | s, [] => some s
  | s, v :: l => (change s v).bind fun t => changes t l
/-- Where nobody is, nothing is done. -/
def Idle (r : Ros.R) (ps : Nat → Gm.In) : Prop := ∀ k, k < 8 → r.peer k < 0 → En.zero (ps k) = true
instance (r : Ros.R) (ps : Nat → Gm.In) : Decidable (Idle r ps) := by unfold Idle; infer_instance
def May (s : S) (e : En.E) : Prop := Im.Ok s.g s.r ∧ En.Ok e ∧ e.frame = s.g.frame
open Classical in
noncomputable def apply (s : S) (e : En.E) : Option S := if May s e then (changes s e.evs).bind fun t => if Idle t.r e.inp then some ⟨Gm.step e.inp t.g, t.r⟩ else none else none
noncomputable def run : S → List En.E → Option S
  | s, [] => some s
  | s, e :: l => (apply s e).bind fun t => run t l
def start (d : Int) : S := ⟨Gm.new d, Ros.new⟩

theorem changes_nil (s : S) : changes s [] = some s := rfl
theorem changes_cons (s : S) (v : En.Ev) (l : List En.Ev) : changes s (v :: l) = (change s v).bind fun t => changes t l := rfl
theorem changes_append (l m : List En.Ev) : ∀ s, changes s (l ++ m) = (changes s l).bind fun t => changes t m := by
  induction l with
  | nil => intro s; rfl
  | cons v l ih =>
    intro s
    show (change s v).bind (fun t => changes t (l ++ m)) = ((change s v).bind fun t => changes t l).bind fun t => changes t m
    cases h : change s v with
    | none => rfl
    | some t => exact ih t
theorem change_yes {s : S} {v : En.Ev} (h : MayEv s v) : change s v = some (after s v) := if_pos h
theorem change_no {s : S} {v : En.Ev} (h : ¬ MayEv s v) : change s v = none := if_neg h
theorem changes_one (s : S) (v : En.Ev) : changes s [v] = change s v := by
  show (change s v).bind (fun t => some t) = change s v
  cases change s v <;> rfl

theorem take_on {r : Ros.R} {v : En.Ev} (h : Ros.MayTake r v.slot v.peer) : ∃ k : Nat, k < 8 ∧ v.slot = k ∧ v.slot.toNat = k ∧ r.peer k = -1 ∧ Ros.MayTake r k v.peer ∧ 0 ≤ v.peer := by
  obtain ⟨⟨⟨⟨hok, hv⟩, h0, h8⟩, hp, ho⟩, hpk, hgk⟩ := id h
  have e : v.slot = (v.slot.toNat : Int) := by omega
  exact ⟨v.slot.toNat, by omega, e, rfl, hpk, by rw [← e]; exact h, hp.1⟩
theorem give_on {r : Ros.R} {v : En.Ev} (h : Ros.MayGive r v.slot) : ∃ k : Nat, k < 8 ∧ v.slot = k ∧ v.slot.toNat = k ∧ 0 ≤ r.peer k ∧ Ros.MayGive r k := by
  obtain ⟨⟨⟨hok, hv⟩, h0, h8⟩, hp⟩ := id h
  have e : v.slot = (v.slot.toNat : Int) := by omega
  have hs := hok.seat v.slot.toNat (by omega)
  refine ⟨v.slot.toNat, by omega, e, rfl, ?_, by rw [← e]; exact h⟩
  rcases hs.2 with h1 | h1
  · exact absurd h1 hp
  · exact h1.1.1
theorem ship_none : Gm.okShip Gm.Ship.none := ⟨.inr rfl, by unfold Gm.inF Gm.Ship.none; decide, by unfold Gm.inF Gm.Ship.none; decide, by unfold Gm.slow Gm.Ship.none; decide, by unfold Gm.slow Gm.Ship.none; decide, by decide, by decide, by decide, by decide⟩
theorem spawn_ok {g : Gm.G} (h : Gm.ok g) (k : Nat) : Gm.ok (Gm.spawn g k) := by
  have hp := Gm.place_bd g.dice
  refine ⟨h.1, h.2.1, h.2.2.1, fun i hi => ?_, h.2.2.2.2⟩
  show Gm.okShip (Gm.upd _ _ _ _)
  unfold Gm.upd
  split
  · exact ⟨.inl rfl, hp.1, hp.2.1, by unfold Gm.slow; dsimp only; omega, by unfold Gm.slow; dsimp only; omega, by dsimp only; omega, by dsimp only; omega, by dsimp only; omega, by dsimp only; omega⟩
  · exact h.2.2.2.1 i hi
theorem remove_ok {g : Gm.G} (h : Gm.ok g) (k : Nat) : Gm.ok (Gm.remove g k) := by
  refine ⟨h.1, h.2.1, Nat.le_trans (List.length_filter_le _ _) h.2.2.1, fun i hi => ?_, fun i hi => ?_⟩
  · show Gm.okShip (Gm.upd _ _ _ _)
    unfold Gm.upd
    split
    · exact ship_none
    · exact h.2.2.2.1 i hi
  · have hm := (List.mem_filter.1 (List.getElem_mem hi)).1
    obtain ⟨j, hj, e⟩ := List.getElem_of_mem hm
    rw [← e]
    exact h.2.2.2.2 j hj
theorem Fine.after {s : S} {v : En.Ev} (h : Fine s) (hv : MayEv s v) : Fine (Fd.after s v) ∧ (Fd.after s v).g.frame = s.g.frame := by
  rcases hv with ⟨hk, ht, hg⟩ | ⟨hk, ht, hp, hg⟩
  · obtain ⟨k, hk8, e, e', hpk, ht', hp0⟩ := take_on ht
    unfold Fd.after
    rw [if_pos hk, e']
    refine ⟨⟨⟨spawn_ok h.ok.1 k, take_ok ht', fun j hj => ?_⟩, (Gm.place_bd s.g.dice).2.2⟩, rfl⟩
    show (Gm.upd s.g.ship k _ j).on = decide (0 ≤ Ros.upd s.r.peer k v.peer j)
    unfold Gm.upd Ros.upd
    by_cases ej : j = k
    · rw [if_pos ej, if_pos ej]; exact (decide_eq_true hp0).symm
    · rw [if_neg ej, if_neg ej]; exact h.ok.2.2 j hj
  · obtain ⟨k, hk8, e, e', hpk, ht'⟩ := give_on ht
    unfold Fd.after
    rw [if_neg (by omega), e']
    refine ⟨⟨⟨remove_ok h.ok.1 k, give_ok ht', fun j hj => ?_⟩, h.dice⟩, rfl⟩
    show (Gm.upd s.g.ship k _ j).on = decide (0 ≤ Ros.upd s.r.peer k (-1) j)
    unfold Gm.upd Ros.upd
    by_cases ej : j = k
    · rw [if_pos ej, if_pos ej]; rfl
    · rw [if_neg ej, if_neg ej]; exact h.ok.2.2 j hj
theorem Fine.changes {l : List En.Ev} : ∀ {s t : S}, Fine s → Fd.changes s l = some t → Fine t ∧ t.g.frame = s.g.frame := by
  induction l with
  | nil => intro s t h e; injection e with e; subst e; exact ⟨h, rfl⟩
  | cons v l ih =>
    intro s t h e
    rw [changes_cons] at e
    by_cases hv : MayEv s v
    · rw [change_yes hv] at e
      obtain ⟨h1, h2⟩ := h.after hv
      obtain ⟨h3, h4⟩ := ih h1 e
      exact ⟨h3, h4.trans h2⟩
    · rw [change_no hv] at e; cases e
theorem Fine.step {s : S} (h : Fine s) (ps : Nat → Gm.In) (hf : s.g.frame < 1048576) : Fine ⟨Gm.step ps s.g, s.r⟩ ∧ (Gm.step ps s.g).frame = s.g.frame + 1 := by
  obtain ⟨h1, h2, h3⟩ := Gm.step_good (ps := ps) h.good hf
  exact ⟨⟨⟨h1.ok, h.ok.2.1, fun k hk => (h3 k hk).1.trans (h.ok.2.2 k hk)⟩, h1.dice⟩, h2⟩

theorem apply_no {s : S} {e : En.E} (h : ¬ May s e) : apply s e = none := by unfold apply; rw [if_neg h]
theorem apply_yes {s : S} {e : En.E} (h : May s e) : apply s e = (Fd.changes s e.evs).bind fun t => if Idle t.r e.inp then some ⟨Gm.step e.inp t.g, t.r⟩ else none := by unfold apply; rw [if_pos h]
/-- What an entry made, and how. -/
theorem apply_some {s u : S} {e : En.E} (h : apply s e = some u) : May s e ∧ ∃ t, Fd.changes s e.evs = some t ∧ Idle t.r e.inp ∧ u = ⟨Gm.step e.inp t.g, t.r⟩ := by
  by_cases hm : May s e
  · rw [apply_yes hm] at h
    cases hc : Fd.changes s e.evs with
    | none => rw [hc] at h; cases h
    | some t =>
      rw [hc] at h
      by_cases hi : Idle t.r e.inp
      · rw [Option.bind_some, if_pos hi] at h
        injection h with h
        exact ⟨hm, t, rfl, hi, h.symm⟩
      · rw [Option.bind_some, if_neg hi] at h; cases h
  · rw [apply_no hm] at h; cases h
theorem Fine.apply {s u : S} {e : En.E} (hs : Fine s) (h : Fd.apply s e = some u) : Fine u ∧ u.g.frame = s.g.frame + 1 ∧ e.frame = s.g.frame := by
  obtain ⟨hm, t, hc, hi, rfl⟩ := apply_some h
  obtain ⟨h1, h2⟩ := hs.changes hc
  have hf : t.g.frame < 1048576 := by have := hm.2.1.frame; have := hm.2.2; omega
  obtain ⟨h3, h4⟩ := h1.step e.inp hf
  exact ⟨h3, h4.trans (by rw [h2]), hm.2.2⟩
theorem run_cons (s : S) (e : En.E) (l : List En.E) : run s (e :: l) = (Fd.apply s e).bind fun t => run t l := rfl
theorem run_one (s : S) (e : En.E) : run s [e] = Fd.apply s e := by
  show (Fd.apply s e).bind (fun t => some t) = _
  cases Fd.apply s e <;> rfl
theorem run_append (l m : List En.E) : ∀ s, run s (l ++ m) = (run s l).bind fun t => run t m := by
  induction l with
  | nil => intro s; rfl
  | cons v l ih =>
    intro s
    show (Fd.apply s v).bind (fun t => run t (l ++ m)) = ((Fd.apply s v).bind fun t => run t l).bind fun t => run t m
    cases h : Fd.apply s v with
    | none => rfl
    | some t => exact ih t
theorem Fine.run {l : List En.E} : ∀ {s t : S}, Fine s → Fd.run s l = some t → Fine t ∧ t.g.frame = s.g.frame + l.length := by
  induction l with
  | nil => intro s t h e; injection e with e; subst e; exact ⟨h, by simp⟩
  | cons v l ih =>
    intro s t h e
    rw [run_cons] at e
    cases hv : Fd.apply s v with
    | none => rw [hv] at e; cases e
    | some u =>
      rw [hv] at e
      obtain ⟨h1, h2, _⟩ := h.apply hv
      obtain ⟨h3, h4⟩ := ih h1 e
      refine ⟨h3, h4.trans ?_⟩
      rw [h2, List.length_cons]; push_cast; omega
theorem start_fine {d : Int} (hd : 0 ≤ d ∧ d ≤ 18446744073709551615) : Fine (start d) := by
  have h := Gm.fresh_new 0 d hd
  refine ⟨⟨h.ok, ?_, fun k hk => ?_⟩, h.dice⟩
  · show Ros.Ok Ros.new; decide +kernel
  · rfl
end Fd
end Go.Proofs.YtiahpncglpfjeaaGreat
namespace Go.Proofs.YtiahpncglpfjeaaGreat
open Go.RowKit Go.Shelf
set_option linter.unusedVariables false
set_option linter.unusedSimpArgs false

set_option maxHeartbeats 1000000 in
theorem shot_eq' (s t : Gm.Shot) (w : World) : (Op.equalIn 10000 90 (.agg s.cells.toArray) (.agg t.cells.toArray)).run Tryz.prog w = .ok (s.eqB t) w := by
  obtain ⟨a1, a2, a3, a4, a5, a6⟩ := s
  obtain ⟨b1, b2, b3, b4, b5, b6⟩ := t
  have h := ifs7 w (a1 == b1) (a2 == b2) (a3 == b3) (a4 == b4) (a5 == b5) (a6 == b6) true
  simp only [beq_iff_eq, Bool.and_true] at h
  simp only [Gm.Shot.cells]
  go_simp
  have e : (if True then Result.ok true w else Result.ok false w) = (Result.ok true w : Result Bool) := if_pos trivial
  rw [e] at h
  exact h
theorem shot_neq (s t : Gm.Shot) (w : World) : (binOp .neq 90 (.agg s.cells.toArray) (.agg t.cells.toArray)).run Tryz.prog w = .ok (.bool (!s.eqB t)) w := by
  simp only [binOp]
  simp [Op.equal, Op.maxDepth, shot_eq']
def Ros.seatsEq (r q : Ros.R) : Bool := (List.range 8).all fun i => (r.peer i == q.peer i && r.gen i == q.gen i)
theorem Ros.seatsEq_iff {r q : Ros.R} : Ros.seatsEq r q = true ↔ ∀ k, k < 8 → r.peer k = q.peer k ∧ r.gen k = q.gen k := by
  unfold Ros.seatsEq; rw [List.all_eq_true]
  exact ⟨fun h i hi => by simpa using h i (by simpa using hi), fun h i hi => by simpa using h i (by simpa using hi)⟩
theorem seats_in2 (r q : Ros.R) (w : World) : (Op.equalIn 9999 31 (.agg (Ros.seatCells r).toArray) (.agg (Ros.seatCells q).toArray)).run Tryz.prog w = .ok (Ros.seatsEq r q) w := by
  cases hq : Tryz.prog.info? 30 with
  | none => have := seat2_info; simp [hq] at this
  | some j =>
    have hs : Tryz.prog.cellsOf 30 = 2 := by kernel_rfl
    rw [run_equalIn_array w 9998 _ _ Tryz.underlying31 hq, hs]
    rw [run_eqItems_all w 9998 _ 2 _ _ (fun i => .agg (Ros.pair r i).toArray) (fun i => .agg (Ros.pair q i).toArray) (fun i => (r.peer i == q.peer i && r.gen i == q.gen i)) (List.range 8)
      (fun i hi => ⟨seat_part r i (by simpa using hi) w, seat_part q i (by simpa using hi) w, by rw [show (Ros.pair r i).toArray = #[.int .i64 (r.peer i), .int .i64 (r.gen i)] from rfl, show (Ros.pair q i).toArray = #[.int .i64 (q.peer i), .int .i64 (q.gen i)] from rfl, seat_in]⟩)]
    rfl
set_option maxRecDepth 100000 in
set_option maxHeartbeats 4000000 in
theorem ros_eql (r q : Ros.R) (w : World) : (binOp .eql 33 (.agg (Ros.cells r)) (.agg (Ros.cells q))).run Tryz.prog w = .ok (.bool (r.version == q.version && Ros.seatsEq r q)) w := by
  have hs := seats_in2 r q
  generalize Ros.seatsEq r q = B at *
  simp only [Ros.cells, Ros.seatCells, Ros.pair, List.cons_append, List.nil_append] at hs ⊢
  generalize r.version = v
  generalize q.version = u
  generalize r.peer 0 = rp0 at *
  generalize r.peer 1 = rp1 at *
  generalize r.peer 2 = rp2 at *
  generalize r.peer 3 = rp3 at *
  generalize r.peer 4 = rp4 at *
  generalize r.peer 5 = rp5 at *
  generalize r.peer 6 = rp6 at *
  generalize r.peer 7 = rp7 at *
  generalize r.gen 0 = rg0 at *
  generalize r.gen 1 = rg1 at *
  generalize r.gen 2 = rg2 at *
  generalize r.gen 3 = rg3 at *
  generalize r.gen 4 = rg4 at *
  generalize r.gen 5 = rg5 at *
  generalize r.gen 6 = rg6 at *
  generalize r.gen 7 = rg7 at *
  generalize q.peer 0 = qp0 at *
  generalize q.peer 1 = qp1 at *
  generalize q.peer 2 = qp2 at *
  generalize q.peer 3 = qp3 at *
  generalize q.peer 4 = qp4 at *
  generalize q.peer 5 = qp5 at *
  generalize q.peer 6 = qp6 at *
  generalize q.peer 7 = qp7 at *
  generalize q.gen 0 = qg0 at *
  generalize q.gen 1 = qg1 at *
  generalize q.gen 2 = qg2 at *
  generalize q.gen 3 = qg3 at *
  generalize q.gen 4 = qg4 at *
  generalize q.gen 5 = qg5 at *
  generalize q.gen 6 = qg6 at *
  generalize q.gen 7 = qg7 at *
  by_cases e : v = u
  · subst e
    go_simp
    all_goals (cases B <;> simp)
  · have e2 : (v == u) = false := by simpa using e
    go_simp
    all_goals simp [e, e2]

end Go.Proofs.YtiahpncglpfjeaaGreat
namespace Go.Proofs.YtiahpncglpfjeaaGreat
open Go.RowKit
set_option linter.unusedVariables false

theorem take_snoc (s : ByteArray) (k : Nat) (h : k < s.size) : s.data.toList.take (k + 1) = s.data.toList.take k ++ [s[k]] := by
  rw [List.take_succ_eq_append_getElem (by simpa using h)]; rfl

theorem mix_wraps (h c : Int) (wh : 0 ≤ h ∧ h ≤ 18446744073709551615) (wc : 0 ≤ c ∧ c ≤ 255) : IntKind.u64.wrap (bits .xor .u64 h c * 1099511628211) = Dn.mix h c := by
  rw [u64_xor h c wh.1 (Int.lt_of_le_of_lt wh.2 (by decide)) wc.1 (Int.lt_of_le_of_lt wc.2 (by decide)), wrap_u64']; rfl

theorem bytes_cell (s : ByteArray) (cap k : Nat) (hk : k < s.size) : (bytesRow s cap)[k]? = some (.int .u8 (s[k].toNat : Int)) := by
  unfold bytesRow
  rw [Array.getElem?_append_left (by simpa using hk), Array.getElem?_map]
  rw [Array.getElem?_eq_getElem (by simpa using hk)]
  rfl

set_option maxHeartbeats 400000 in
theorem wheel_any (d b p : Int) (w : World) :
    Calls Tryz.prog 119 #[.int .u64 d, .int .u64 b, .int .u64 p] w fun e w' =>
      e = .returned (.func (.func 138) #[] #[.pointer (some ⟨w.heap.size, 0, none⟩), .pointer (some ⟨w.heap.size + 1, 0, none⟩), .pointer (some ⟨w.heap.size + 2, 0, none⟩)]) ∧
      w' = ((w.alloc (.cells #[.int .u64 d] 22)).alloc (.cells #[.int .u64 b] 22)).alloc (.cells #[.int .u64 p] 22) := by
  have hmf : ∀ (fn : Fn) (first cap : Array Value) (w : World), (Instr.makeFunc fn first cap).run Tryz.prog w = .ok (.func fn first cap) w := fun _ _ _ _ => rfl
  go_enter Tryz.func119, Tryz.ntmps119
  go_wp2
  go_ret
  exact ⟨rfl, rfl⟩

set_option maxHeartbeats 400000 in
theorem turn_seed (d c : Int) (wd : 0 ≤ d ∧ d ≤ 18446744073709551615) (wc : 0 ≤ c ∧ c ≤ 255) (B : Nat) (w : World)
    (h0 : w.heap[B]? = some (.cells #[.int .u64 d] 22 (0, 0))) (h1 : w.heap[B + 1]? = some (.cells #[.int .u64 1099511628211] 22 (0, 0))) (h2 : w.heap[B + 2]? = some (.cells #[.int .u64 0] 22 (0, 0))) :
    Calls Tryz.prog 138 #[.int .u64 c, .pointer (some ⟨B, 0, none⟩), .pointer (some ⟨B + 1, 0, none⟩), .pointer (some ⟨B + 2, 0, none⟩)] w fun e w' =>
      e = .returned (.int .u64 (Dn.mix d c)) ∧ w' = w.setCell ⟨B, 0, none⟩ (.int .u64 (Dn.mix d c)) := by
  have c0 := cell_of_one h0
  have c1 := cell_of_one h1
  have c2 := cell_of_one h2
  have f0 := free_of_one h0
  have hm := mix_wraps d c wd wc
  have hb := Dn.mix_bd d c
  clear h0 h1 h2
  go_enter Tryz.func138, Tryz.ntmps138
  go_wp2
  go_ret
  exact ⟨rfl, rfl⟩

/-- What a round of Seed finds. -/
def Seeding (s : ByteArray) (B : Nat) (w wr : World) (H : Int) : Prop :=
  wr.heap[B]? = some (.cells #[.int .u64 H] 22 (0, 0)) ∧ wr.heap[B + 1]? = some (.cells #[.int .u64 1099511628211] 22 (0, 0)) ∧ wr.heap[B + 2]? = some (.cells #[.int .u64 0] 22 (0, 0)) ∧
  (∀ k (h : k < s.size), wr.cell? ⟨B + 1 + 1 + 1, k, none⟩ = some (.int .u8 (s[k].toNat : Int))) ∧ Below B w wr
theorem Seeding.on {s : ByteArray} {B : Nat} {w wr : World} {H : Int} (h : Seeding s B w wr H) (H' : Int) : Seeding s B w (wr.setCell ⟨B, 0, none⟩ (.int .u64 H')) H' := by
  obtain ⟨h0, h1, h2, hc, hb⟩ := h
  refine ⟨one_setCell h0, (Below.heap_setCell _ _ _ _ (by simp)).trans h1, (Below.heap_setCell _ _ _ _ (by simp)).trans h2, fun k hk => ?_, hb.setCell (Nat.le_refl _) _⟩
  rw [World.cell?_of_block (w := wr) (Below.heap_setCell _ _ _ _ (show B + 1 + 1 + 1 ≠ B by omega))]
  exact hc k hk
theorem at_new (w : World) (o : Obj) (i : Nat) (h : i = w.heap.size) : (w.alloc o).heap[i]? = some o := by subst h; exact heap_alloc_new w o
theorem Seeding.start (s : ByteArray) (w : World) (cap : Nat) (q : Nat × Nat) (H : Int) :
    Seeding s w.heap.size w (((((w.alloc (.cells #[.int .u64 H] 22)).alloc (.cells #[.int .u64 1099511628211] 22)).alloc (.cells #[.int .u64 0] 22)).alloc (.cells (bytesRow s cap) 5 q)).drew) H := by
  refine ⟨?_, ?_, ?_, fun k hk => ?_, ((((((Below.refl _ _).alloc (Nat.le_refl _) _).alloc (by simp) _).alloc (by simp; omega) _).alloc (by simp; omega) _)).drew⟩
  · exact (heap_alloc_old _ _ (by simp; omega)).trans ((heap_alloc_old _ _ (by simp; omega)).trans ((heap_alloc_old _ _ (by simp)).trans (at_new _ _ _ rfl)))
  · exact (heap_alloc_old _ _ (by simp)).trans ((heap_alloc_old _ _ (by simp)).trans (at_new _ _ _ (by simp)))
  · exact (heap_alloc_old _ _ (by simp)).trans (at_new _ _ _ (by simp))
  · have h3 := at_new (((w.alloc (.cells #[.int .u64 H] 22)).alloc (.cells #[.int .u64 1099511628211] 22)).alloc (.cells #[.int .u64 0] 22)) (.cells (bytesRow s cap) 5 q) (w.heap.size + 1 + 1 + 1) (by simp)
    have h4 := bytes_cell s cap k hk
    generalize (((w.alloc (.cells #[.int .u64 H] 22)).alloc (.cells #[.int .u64 1099511628211] 22)).alloc (.cells #[.int .u64 0] 22)).alloc (.cells (bytesRow s cap) 5 q) = W at *
    show W.cell? _ = _
    simp [World.cell?, h3, h4]

set_option maxHeartbeats 400000 in
theorem seed_any (s : ByteArray) (w : World) (hs : s.size ≤ maxLen) :
    Calls Tryz.prog 80 #[.string s] w fun e w' => e = .returned (.int .u64 (Dn.seed s.data.toList)) ∧ Below w.heap.size w w' := by
  unfold maxLen at hs
  have kc := fun (w : World) => run_bytes_of_string (P := Tryz.prog) w 9 72 5 s Tryz.underlying9 Tryz.underlying72 Tryz.underlying5
  have hst := fun cap q => Lib.hid (Seeding.start s w cap q 14695981039346656037)
  go_enter Tryz.func80, Tryz.ntmps80
  go_wp2_with (go_at_call 119; refine (wheel_any _ _ _ _).mono ?_; rintro e w' ⟨rfl, rfl⟩)
  go_loopw [4, 11] (fun h i wr => ∃ k : Nat, k ≤ s.size ∧ i = .int .i64 k ∧ h = .int .u64 (Dn.seed (s.data.toList.take k)) ∧ Seeding s w.heap.size w wr (Dn.seed (s.data.toList.take k))) (fun _ i _ => s.size - (intOf i).toNat)
  case atStart => exact ⟨0, Nat.zero_le _, rfl, rfl, (hst _ _).out⟩
  case round =>
    obtain ⟨k, hk, rfl, rfl, hS⟩ := hrel
    by_cases hlt : k < s.size
    · obtain ⟨c, hc⟩ : ∃ c : Int, c = (s[k].toNat : Int) := ⟨_, rfl⟩
      have hcell := hS.2.2.2.1 k hlt
      rw [← hc] at hcell
      have wc : 0 ≤ c ∧ c ≤ 255 := by have := s[k].toNat_lt; omega
      have HS : Hid (Dn.seed (s.data.toList.take (k + 1)) = Dn.mix (Dn.seed (s.data.toList.take k)) c) := Lib.hid (by rw [take_snoc s k hlt, Dn.seed_snoc, hc])
      have ct := Lib.hid (turn_seed (Dn.seed (s.data.toList.take k)) c (Dn.seed_bd _) wc w.heap.size wr hS.1 hS.2.1 hS.2.2.1)
      have HN := Lib.hid (hS.on (Dn.mix (Dn.seed (s.data.toList.take k)) c))
      clear hS hc kc hst
      go_wp2_with (go_at_call 138; refine (ct.out).mono ?_; rintro e w' ⟨rfl, rfl⟩)
      all_goals
        go_roundw
        case rel => exact ⟨k + 1, by omega, by go_num, by rw [HS.out], by rw [HS.out]; exact HN.out⟩
        case measure => simp [intOf]; omega
    · have hb := hS.2.2.2.2
      clear hS kc hst
      go_wp2
      go_ret
      exact ⟨ret_int (by rw [List.take_of_length_le (by simp; omega)]), hb⟩
end Go.Proofs.YtiahpncglpfjeaaGreat
namespace Go.Proofs.YtiahpncglpfjeaaGreat
open Go.RowKit Go.Shelf
set_option linter.unusedVariables false
set_option linter.unusedSimpArgs false

def Im.r (k : Nat) : Ros.R := ⟨0, fun i => if i < k then -1 else 0, fun _ => 0⟩
theorem state_built2 (g : Gm.G) (s : Value) (r : Ros.R) : Tryz.prog.built 35 [(0, .agg (Gm.cells g s)), (1, .agg (Ros.cells r))] = some (Im.cells g s r) := by kernel_rfl

end Go.Proofs.YtiahpncglpfjeaaGreat
namespace Go.Proofs.YtiahpncglpfjeaaGreat
open Go.RowKit Go.Shelf
set_option linter.unusedVariables false
set_option linter.unusedSimpArgs false
attribute [local go_sem] Oper.semAt_some
/-- The roster of New on its way. -/
def clearSt (l : List Ros.Sl) : Ros.R := l.foldl (fun r x => { r with peer := Ros.upd r.peer x.1 (-1) }) rosZero
theorem clearSt_snoc (l : List Ros.Sl) (x : Ros.Sl) : clearSt (l ++ [x]) = { clearSt l with peer := Ros.upd (clearSt l).peer x.1 (-1) } := by
  unfold clearSt; rw [List.foldl_append]; rfl
theorem clearSt_all : Ros.cells (clearSt Ros.all8) = Ros.cells Ros.new := rfl

set_option maxRecDepth 100000 in
set_option maxHeartbeats 4000000 in
theorem rosnew_any (w : World) :
    Calls Tryz.prog 44 #[] w fun e w' => e = .returned (.agg (Ros.cells Ros.new)) ∧ Below w.heap.size w w' := by
  refine (callsIn_wide (n := 10)).1 (callsIn_of_wp_marks Tryz.func44 rfl trivial (wpIn_wide.2 ?_) rfl)
  simp only [Tryz.ntmps44, List.size_toArray, List.length_cons, List.length_nil, Nat.reduceAdd, Nat.reduceSub, Array.replicate_succ, Array.replicate_zero, List.push_toArray, List.append_toArray, List.nil_append, List.cons_append]
  go_upto_block 0 with (first | ((with_reducible refine ros_alloc rfl rfl ?_)) | (go_at_call 55; ((with_reducible refine (seats_any _ _).mono ?_); rintro e w3 ⟨rfl, rfl⟩)))
  have M0 : Sit (w.heap.size + 1) (w.heap.size + 1 + 1) w (clearSt []) (((w.alloc (.cells (Ros.cells rosZero) 33)).alloc (.cells (Ros.cells rosZero) 33)).alloc (.cells #[.pointer (some ⟨w.heap.size + 1, 0, none⟩)] 95)) ∧ Box (((w.alloc (.cells (Ros.cells rosZero) 33)).alloc (.cells (Ros.cells rosZero) 33)).alloc (.cells #[.pointer (some ⟨w.heap.size + 1, 0, none⟩)] 95)) w.heap.size 33 (Ros.cells rosZero) :=
    ⟨⟨(Box.made_at _ _ _ (by simp)).alloc _, Box.made_at _ _ _ (by simp), (((Below.refl _ _).alloc (Nat.le_refl _) _).alloc (by simp) _).alloc (by simp <;> omega) _⟩, ((Box.made w _ _).alloc _).alloc _⟩
  generalize hW0 : (((w.alloc (.cells (Ros.cells rosZero) 33)).alloc _).alloc _) = W0 at M0 ⊢
  have MM0 := Lib.hid M0
  have hs0 : Sitting (w.heap.size + 1) (w.heap.size + 1 + 1) W0 := M0.1.sit.cell 0
  clear hW0 M0
  refine (wpIn_wide (n := 10)).1 ?_
  refine wpIn_block ?_
  refine' wpIn_rangeFunc_ownF (n := 10) (w := W0) rfl (by omega) (gf := 93) (lb := #[.pointer (some ⟨w.heap.size + 1 + 1, 0, none⟩)]) rfl trivial (enters_of Tryz.func93 (by kernel_rfl) rfl)
    (seats1_stops (w.heap.size + 1) (w.heap.size + 1 + 1) _ W0 hs0) sitkp_t (sitkp_b (n := W0.heap.size)) (Below.refl _ _) (fun _ => rfl)
    (fun pre W => Sit (w.heap.size + 1) (w.heap.size + 1 + 1) w (clearSt pre) W ∧ Box W w.heap.size 33 (Ros.cells rosZero))
    (fun c pre W => False)
    (fun pre W W' row h hgr hr => ⟨h.1.turned hgr (fun r e => ⟨Nat.le_trans MM0.out.1.below.size (hr r e).1, (hr r e).2⟩), h.2.turned hgr (fun r e => (hr r e).2)⟩)
    (fun c pre W W' row h hgr hr => h)
    MM0.out _ ?assign ?body ?done ?stop
  case assign =>
    intro l x W K hK
    gi_wp2
    exact hK
  case body =>
    rintro l pre ⟨k, hk⟩ W ⟨hM, hR⟩ hlen
    have hk8 : (k : Int) < 8 := by omega
    have rp := Ros.cells_peer (clearSt pre) k hk
    have rc := hM.ros.cell
    have rf := hM.ros.free
    have HM := Lib.hid hM
    have HR := Lib.hid hR
    clear hM hR hlen
    gi_wp2
    have hset := HM.out.ros.put (1 + k * 2) (.int .i64 (-1))
    rw [Ros.cells_setp _ k hk] at hset
    refine ⟨KeepsOthers.setCell _ _ _, fun h => (World.cell?_of_block (heap_setCell_other _ _ _ _ (by show w.heap.size + 1 + 1 ≠ w.heap.size + 1; omega))).trans h, ⟨?_, HM.out.sit.far (by show _ ≠ _; simp) _, HM.out.below.setCell (by simp) _⟩, HR.out.far (by show _ ≠ _; simp) _⟩
    rw [clearSt_snoc]
    exact hset
  case done =>
    rintro D xs W hD rfl ⟨hM, hR⟩ hK
    have hDw : w.heap.size + 1 + 1 < D := Nat.lt_of_lt_of_le MM0.out.1.sit.lt hD
    have BR := Lib.hid (show Box W (w.heap.size + 1) 33 (Ros.cells Ros.new) from clearSt_all ▸ hM.ros)
    have BZ := Lib.hid hR
    have HB := Lib.hid (Below.setRow' hM.below (Nat.le_refl _) (Ros.cells Ros.new))
    have hne : D ≠ w.heap.size := by omega
    have HK := Lib.hid (show (W.setRow w.heap.size (Ros.cells Ros.new)).heap[D]? = some (.deferred (some [])) from (setRow_other W w.heap.size D _ hne).trans hK)
    clear hM hR hK
    go_wp2_with (first | ((with_reducible refine ros_load rfl rfl ?_); apply LoadRow.mk rfl; (focus (with_reducible exact BR.out)); (focus (exact ros_info))) | ((with_reducible refine ros_store rfl rfl ?_); apply StoreRow.mk rfl rfl; (focus (with_reducible exact BZ.out)); (focus (exact ros_info)); (focus rfl); (focus (exact ros_one _))))
    refine ⟨by simp, .inl ⟨_, _, rfl, run_takeDeferred HK.out, ?_⟩⟩
    have R6 := (BZ.out.row (Ros.cells Ros.new)).turned (grownBy_putObj' _ D (.deferred none)) (fun r e => by cases e; exact ⟨_, HK.out, rfl⟩)
    refine ⟨.agg (Ros.cells Ros.new), ?_, rfl, Below.turned HB.out (Nat.le_refl _) (grownBy_putObj' _ D (.deferred none)) (fun r e => by cases e; omega)⟩
    exact results_cell_row rfl _ _ _ _ (Ros.cells Ros.new) (0, 0) _ rfl R6.is Tryz.underlying33 rfl ros_info
  case stop =>
    rintro D c' pre W hD _ hf hK
    exact hf.elim

set_option maxRecDepth 100000 in
set_option maxHeartbeats 4000000 in
theorem rosof_any (r : Ros.R) (p : Int) (w : World) :
    Calls Tryz.prog 84 #[.agg (Ros.cells r), .int .i64 p] w fun e w' => e = .returned (.int .i64 (Ros.of r p)) ∧ Below w.heap.size w w' := by
  have cm := fun X => Lib.hid (rosmay_any r X)
  have cp := fun X => Lib.hid (rospeer_any p X)
  have B0 := ((Box.made w 33 (Ros.cells r)).alloc (.cells #[.int .i64 p] 3)).alloc (.cells #[.int .i64 0] 3)
  have B1 := (Box.made_at (n := w.heap.size + 1) (w.alloc (.cells (Ros.cells r) 33)) 3 #[.int .i64 p] (by simp)).alloc (.cells #[.int .i64 0] 3)
  have B2 := Box.made_at (n := w.heap.size + 1 + 1) ((w.alloc (.cells (Ros.cells r) 33)).alloc (.cells #[.int .i64 p] 3)) 3 #[.int .i64 0] (by simp)
  have b0 := (((Below.refl w.heap.size w).alloc (Nat.le_refl _) (.cells (Ros.cells r) 33)).alloc (by simp) (.cells #[.int .i64 p] 3)).alloc (by simp <;> omega) (.cells #[.int .i64 0] 3)
  have P0 := Lib.hid B0
  have P1 := Lib.hid B1
  have P2 := Lib.hid B2
  have PB := Lib.hid b0
  clear B0 B1 B2 b0
  have hof : Hid (Ros.of r p = if Ros.Ok r ∧ 0 ≤ p ∧ p < 12 then Ros.seatOf r p Ros.all8 else -1) := Lib.hid rfl
  by_cases hok : Ros.Ok r
  · have hmay : Ros.may r = true := decide_eq_true hok
    rw [hmay] at cm
    by_cases hp : 0 ≤ p ∧ p < 12
    · rw [decide_eq_true hp] at cp
      have HIF := Lib.hid (hof.out.trans (if_pos ⟨hok, hp⟩))
      clear hof hok hmay
      refine (callsIn_wide (n := 10)).1 (callsIn_of_wp_marks Tryz.func84 rfl trivial (wpIn_wide.2 ?_) rfl)
      simp only [Tryz.ntmps84, List.size_toArray, List.length_cons, List.length_nil, Nat.reduceAdd, Nat.reduceSub, Array.replicate_succ, Array.replicate_zero, List.push_toArray, List.append_toArray, List.nil_append, List.cons_append]
      go_upto_block 0 with (first | ((with_reducible refine ros_load rfl rfl ?_); apply LoadRow.mk rfl; (focus (with_reducible exact P0.out)); (focus (exact ros_info))) | (go_at_call 54; ((with_reducible refine ((cm _).out).mono ?_); rintro e w1 ⟨rfl, hb1⟩; have Q0 := Lib.hid (P0.out.below hb1 (by have := P0.out.lt; simp at this ⊢ <;> omega)); have Q1 := Lib.hid (P1.out.below hb1 (by have := P1.out.lt; simp at this ⊢ <;> omega)); have Q2 := Lib.hid (P2.out.below hb1 (by have := P2.out.lt; simp at this ⊢ <;> omega)); have QB := Lib.hid (PB.out.trans (hb1.mono PB.out.size)); have q1 := Q1.out.cell; have q2 := Q2.out.cell; have f2 := Q2.out.free; clear hb1)) | (go_at_call 83; ((with_reducible refine ((cp _).out).mono ?_); rintro e w2 ⟨rfl, rfl⟩)) | (go_at_call 55; ((with_reducible refine (seats_any _ _).mono ?_); rintro e w3 ⟨rfl, rfl⟩)))
      have M0 : Sit w.heap.size w1.heap.size w r (w1.alloc (.cells #[.pointer (some ⟨w.heap.size, 0, none⟩)] 95)) ∧ Box (w1.alloc (.cells #[.pointer (some ⟨w.heap.size, 0, none⟩)] 95)) (w.heap.size + 1) 3 #[.int .i64 p] ∧ Box (w1.alloc (.cells #[.pointer (some ⟨w.heap.size, 0, none⟩)] 95)) (w.heap.size + 1 + 1) 3 #[.int .i64 0] :=
        ⟨⟨Q0.out.alloc _, Box.made _ _ _, QB.out.alloc QB.out.size _⟩, Q1.out.alloc _, Q2.out.alloc _⟩
      have bgw : w.heap.size + 1 + 1 < w1.heap.size := Q2.out.lt
      generalize hW0 : (w1.alloc (.cells #[.pointer (some ⟨w.heap.size, 0, none⟩)] 95)) = W0 at M0 ⊢
      generalize w1.heap.size = Bg at *
      have MM0 := Lib.hid M0
      have hs0 : Sitting w.heap.size Bg W0 := M0.1.sit.cell 0
      have HP := Lib.hid hp
      clear hW0 M0 P0 P1 P2 PB Q0 Q1 Q2 QB q1 q2 f2 cm cp hp
      refine (wpIn_wide (n := 10)).1 ?_
      refine wpIn_block ?_
      refine' wpIn_rangeFunc_ownF (n := 10) (w := W0) rfl (by omega) (gf := 93) (lb := #[.pointer (some ⟨Bg, 0, none⟩)]) rfl trivial (enters_of Tryz.func93 (by kernel_rfl) rfl)
        (seats1_stops (w.heap.size) (Bg) _ W0 hs0) sitkp_t (sitkp_b (n := W0.heap.size)) (Below.refl _ _) (fun _ => rfl)
        (fun pre W => (Sit w.heap.size Bg w r W ∧ Box W (w.heap.size + 1) 3 #[.int .i64 p] ∧ Box W (w.heap.size + 1 + 1) 3 #[.int .i64 0]) ∧ ∀ y ∈ pre, r.peer y.1 ≠ p)
        (fun c pre W => c = .ret ∧ ∃ (pre' : List Ros.Sl) (x : Ros.Sl), pre = pre' ++ [x] ∧ (∀ y ∈ pre', r.peer y.1 ≠ p) ∧ r.peer x.1 = p ∧ Box W (w.heap.size + 1 + 1) 3 #[.int .i64 x.1] ∧ Below w.heap.size w W)
        (fun pre W W' row h hgr hr => ⟨⟨h.1.1.turned hgr (fun r e => ⟨Nat.le_trans MM0.out.1.below.size (hr r e).1, (hr r e).2⟩), h.1.2.1.turned hgr (fun r e => (hr r e).2), h.1.2.2.turned hgr (fun r e => (hr r e).2)⟩, h.2⟩)
        (fun c pre W W' row h hgr hr => (by
          obtain ⟨h0, pre', x, h1, h2, h3, h4, h5⟩ := h
          exact ⟨h0, pre', x, h1, h2, h3, h4.turned hgr (fun r e => (hr r e).2), Below.turned h5 (Nat.le_refl _) hgr (fun r e => Nat.le_trans MM0.out.1.below.size (hr r e).1)⟩))
        ⟨MM0.out, by simp⟩ _ ?assign ?body ?done ?stop
      case assign =>
        intro l x W K hK
        gi_wp2
        exact hK
      case body =>
        rintro l pre ⟨k, hk⟩ V ⟨⟨hM, hP, hR⟩, hpre⟩ hlen
        dsimp only
        have hk8 : (k : Int) < 8 := by omega
        have y0 := Ros.cells_peer r k hk
        have z0 : ∀ q : Ext V.heap.size V, q.w.cell? ⟨w.heap.size, 1 + k * 2, none⟩ = some (.int .i64 (r.peer k)) := fun q => q.cell hM.ros.lt ((hM.ros.cell _).trans y0)
        have z1 : ∀ q : Ext V.heap.size V, q.w.cell? ⟨w.heap.size + 1, 0, none⟩ = some (.int .i64 p) := fun q => q.cell hP.lt (hP.cell 0)
        obtain ⟨pk, hpk⟩ : ∃ pk, r.peer k = pk := ⟨_, rfl⟩
        rw [hpk] at z0
        have HM := Lib.hid hM
        have HPP := Lib.hid hP
        have HR := Lib.hid hR
        have HPRE := Lib.hid hpre
        have HPK := Lib.hid hpk
        clear hM hP hR hpre hpk y0 hlen
        refine wpIn_block ?_
        refine wpIn_seq_k ?_
        intro K hK
        by_cases he : pk = p
        · subst he
          have hb : (pk == pk) = true := by simp
          clear HPP
          refine Rt.region_ext V.heap.size V (by kernel_rfl) (by kernel_rfl) (by kernel_rfl) (by rintro ⟨_, _, h⟩; exact h) (Below.refl _ _) ?_
          repeat (go_big_quiet_step (fail))
          refine wpQuiet_nil ?_
          intro _ hw'
          obtain ⟨q, hw''⟩ := hw'
          subst hw''
          refine hK _ _ ?_
          have r2 := (HR.out.below q.h HR.out.lt)
          have q2 := r2.cell
          have f2 := r2.free
          have R2 := Lib.hid r2
          clear r2
          gi_wp2
          first
            | exact ⟨(below_others q.h).trans (KeepsOthers.setCell _ _ _), rfl, pre, ⟨k, hk⟩, rfl, HPRE.out, HPK.out, R2.out.put 0 _, (HM.out.call q.h).below.setCell (by simp <;> omega) _⟩
            | exact ⟨(below_others q.h).trans (KeepsOthers.setCell _ _ _), rfl, pre, k, ⟨hk, rfl⟩, fun a hb hm => HPRE.out ⟨a, hb⟩ hm, HPK.out, R2.out.put 0 _, (HM.out.call q.h).below.setCell (by simp <;> omega) _⟩
        · have hb : (pk == p) = false := by simpa using he
          refine Rt.region_ext V.heap.size V (by kernel_rfl) (by kernel_rfl) (by kernel_rfl) (by rintro ⟨_, _, h⟩; exact h) (Below.refl _ _) ?_
          repeat (go_big_quiet_step (fail))
          refine wpQuiet_nil ?_
          intro _ hw'
          obtain ⟨q, hw''⟩ := hw'
          subst hw''
          refine hK _ _ ?_
          have hnew : ∀ y ∈ pre ++ [(⟨k, hk⟩ : Ros.Sl)], r.peer y.1 ≠ p := fun y hy => by
            rcases List.mem_append.1 hy with h | h
            · exact HPRE.out y h
            · simp only [List.mem_singleton] at h
              subst h
              show r.peer k ≠ p
              rw [HPK.out]; exact he
          have HN := Lib.hid hnew
          clear hnew
          gi_wp2
          refine ⟨below_others q.h, fun hf => hf.below q.h, ⟨HM.out.call q.h, HPP.out.below q.h HPP.out.lt, HR.out.below q.h HR.out.lt⟩, ?_⟩
          first
            | exact HN.out
            | exact fun a hb hm => HN.out ⟨a, hb⟩ hm
      case done =>
        rintro D xs V hD rfl ⟨⟨hM, hP, hR⟩, hn⟩ hK
        have hres := hR.put 0 (.int .i64 (-1))
        have hK3 := others_kept (KeepsOthers.setCell V ⟨w.heap.size + 1 + 1, 0, none⟩ (.int .i64 (-1))) hK
        have hDw : w.heap.size ≤ D := Nat.le_trans MM0.out.1.below.size hD
        have hT := hres.turned (grownBy_putObj' _ D (.deferred none)) (fun r e => by cases e; exact ⟨_, hK3, rfl⟩)
        have hT2 := Lib.hid (Below.turned (hM.below.setCell (p := ⟨w.heap.size + 1 + 1, 0, none⟩) (by simp <;> omega) (.int .i64 (-1))) (Nat.le_refl _) (grownBy_putObj' _ D (.deferred none)) (fun r e => by cases e; exact hDw))
        have hno : Hid (Ros.of r p = -1) := Lib.hid (HIF.out.trans (Ros.seatOf_none hn))
        have HK3 := Lib.hid hK3
        have hc5 : ((V.setCell ⟨w.heap.size + 1 + 1, 0, none⟩ (.int .i64 (-1))).putObj D (.deferred none)).cell? ⟨w.heap.size + 1 + 1, 0, none⟩ = some (.int .i64 (-1)) := hT.cell 0
        have u4 := hR.cell
        have v4 := hR.free
        clear hM hres hK3 hT hK hn hP hR
        go_wp2
        refine ⟨by simp, .inl ⟨_, _, rfl, run_takeDeferred HK3.out, ?_⟩⟩
        refine ⟨.int .i64 (-1), ?_, by rw [hno.out], hT2.out⟩
        simp [results, Tryz.f84, go_sem, hc5]
      case stop =>
        rintro D c' pre V hD ⟨rest, hpre⟩ ⟨rfl, pre', x, rfl, h2, h3, h4, h5⟩ hK
        have hyes : Hid (Ros.of r p = x.1) := Lib.hid (HIF.out.trans (by rw [hpre, List.append_assoc]; exact Ros.seatOf_first h2 h3))
        have hDw : w.heap.size ≤ D := Nat.le_trans MM0.out.1.below.size hD
        have hT := h4.turned (grownBy_putObj' _ D (.deferred none)) (fun r e => by cases e; exact ⟨_, hK, rfl⟩)
        have hT2 := Lib.hid (Below.turned h5 (Nat.le_refl _) (grownBy_putObj' _ D (.deferred none)) (fun r e => by cases e; exact hDw))
        have hc5 : (V.putObj D (.deferred none)).cell? ⟨w.heap.size + 1 + 1, 0, none⟩ = some (.int .i64 x.1) := hT.cell 0
        have HK3 := Lib.hid hK
        clear h2 h3 h4 h5 hK hpre hT
        refine wpIn_ret ?_
        refine ⟨by simp, .inl ⟨_, _, rfl, run_takeDeferred HK3.out, ?_⟩⟩
        refine ⟨.int .i64 x.1, ?_, by rw [hyes.out], hT2.out⟩
        simp [results, Tryz.f84, go_sem, hc5]

    · rw [decide_eq_false hp] at cp
      have HIF := Lib.hid (hof.out.trans (if_neg fun h => hp h.2))
      clear hof hok hmay hp
      go_enter Tryz.func84, Tryz.ntmps84
      go_wp2_with (first | ((with_reducible refine ros_load rfl rfl ?_); apply LoadRow.mk rfl; (focus (with_reducible exact P0.out)); (focus (exact ros_info))) | (go_at_call 54; ((with_reducible refine ((cm _).out).mono ?_); rintro e w1 ⟨rfl, hb1⟩; have Q0 := Lib.hid (P0.out.below hb1 (by have := P0.out.lt; simp at this ⊢ <;> omega)); have Q1 := Lib.hid (P1.out.below hb1 (by have := P1.out.lt; simp at this ⊢ <;> omega)); have Q2 := Lib.hid (P2.out.below hb1 (by have := P2.out.lt; simp at this ⊢ <;> omega)); have QB := Lib.hid (PB.out.trans (hb1.mono PB.out.size)); have q1 := Q1.out.cell; have q2 := Q2.out.cell; have f2 := Q2.out.free; clear hb1)) | (go_at_call 83; ((with_reducible refine ((cp _).out).mono ?_); rintro e w2 ⟨rfl, rfl⟩)))
      have hT : (w1.setCell ⟨w.heap.size + 1 + 1, 0, none⟩ (.int .i64 (-1))).cell? ⟨w.heap.size + 1 + 1, 0, none⟩ = some (.int .i64 (-1)) := (Q2.out.put 0 (.int .i64 (-1))).cell 0
      refine bodyPost_ret (v := .int .i64 (-1)) (by simp [results, Tryz.f84, go_sem, hT]) rfl ?_
      exact ⟨by rw [HIF.out], QB.out.setCell (by simp <;> omega) _⟩
  · have hmay : Ros.may r = false := decide_eq_false hok
    rw [hmay] at cm
    have HIF := Lib.hid (hof.out.trans (if_neg fun h => hok h.1))
    clear hof hok hmay
    go_enter Tryz.func84, Tryz.ntmps84
    go_wp2_with (first | ((with_reducible refine ros_load rfl rfl ?_); apply LoadRow.mk rfl; (focus (with_reducible exact P0.out)); (focus (exact ros_info))) | (go_at_call 54; ((with_reducible refine ((cm _).out).mono ?_); rintro e w1 ⟨rfl, hb1⟩; have Q0 := Lib.hid (P0.out.below hb1 (by have := P0.out.lt; simp at this ⊢ <;> omega)); have Q1 := Lib.hid (P1.out.below hb1 (by have := P1.out.lt; simp at this ⊢ <;> omega)); have Q2 := Lib.hid (P2.out.below hb1 (by have := P2.out.lt; simp at this ⊢ <;> omega)); have QB := Lib.hid (PB.out.trans (hb1.mono PB.out.size)); have q1 := Q1.out.cell; have q2 := Q2.out.cell; have f2 := Q2.out.free; clear hb1)) | (go_at_call 83; ((with_reducible refine ((cp _).out).mono ?_); rintro e w2 ⟨rfl, rfl⟩)))
    have hT : (w1.setCell ⟨w.heap.size + 1 + 1, 0, none⟩ (.int .i64 (-1))).cell? ⟨w.heap.size + 1 + 1, 0, none⟩ = some (.int .i64 (-1)) := (Q2.out.put 0 (.int .i64 (-1))).cell 0
    refine bodyPost_ret (v := .int .i64 (-1)) (by simp [results, Tryz.f84, go_sem, hT]) rfl ?_
    exact ⟨by rw [HIF.out], QB.out.setCell (by simp <;> omega) _⟩

end Go.Proofs.YtiahpncglpfjeaaGreat
namespace Go.Proofs.YtiahpncglpfjeaaGreat
open Go.RowKit
set_option linter.unusedVariables false

theorem ships_info : (Tryz.prog.info? 25).map (·.size) = some 56 := by kernel_rfl
theorem ships_part (g : Gm.G) (v : Value) : ∀ j u, (Gm.shipCells g.ship)[j]? = some u → (Gm.cells g v)[2 + j]? = some u := fun j u hu => by
  have hj : j < 56 := by have := (List.getElem?_eq_some_iff.1 hu).1; rwa [Gm.shipCells_len] at this
  rw [Gm.cells_shipj _ _ _ hj]; exact hu

set_option maxRecDepth 100000 in
set_option maxHeartbeats 4000000 in
theorem new_any (s : ByteArray) (w : World) (hs : s.size ≤ maxLen) :
    Calls Tryz.prog 43 #[.string s] w fun e w' => e = .returned (.agg (Gm.cells (Gm.new (Dn.seed s.data.toList)) (.slice none 0 0))) ∧ Below w.heap.size w w' := by
  have c1 := fun X => Lib.hid (seed_any s X hs)
  have hb0 := Lib.hid (one_below w (.cells (Gm.cells zeroG (.slice none 0 0)) 28))
  have B0 := Lib.hid (Box.made w 28 (Gm.cells zeroG (.slice none 0 0)))
  go_enter Tryz.func43, Tryz.ntmps43
  go_wp2_with (first | (go_at_call 80; ((with_reducible refine ((c1 _).out).mono ?_); rintro e w1 ⟨rfl, hb1⟩; have B1 := Lib.hid (B0.out.below hb1 B0.out.lt); have HB1 := Lib.hid (hb0.out.trans (hb1.mono hb0.out.size)); clear hb1)) | (refine wpList_alloc_game rfl rfl ?_) | (refine wpList_build_is rfl (t := 28) (vs := [(1, .int .u64 (Dn.seed s.data.toList))]) rfl rfl (built_new _) ?_) | ((with_reducible refine store_gate rfl rfl ?_); apply StoreGame.mk rfl rfl rfl; exact B1.out))
  refine bodyPost_ret (v := .agg (Gm.cells (Gm.new (Dn.seed s.data.toList)) (.slice none 0 0))) ?_ ?_ ?_
  · exact results_cell_row rfl _ _ _ _ (Gm.cells (Gm.new (Dn.seed s.data.toList)) (.slice none 0 0)) (0, 0) _ rfl (Box.row B1.out _).is Tryz.underlying28 rfl game_info
  · rfl
  · exact ⟨rfl, Below.setRow' HB1.out (Nat.le_refl _) _⟩
end Go.Proofs.YtiahpncglpfjeaaGreat
namespace Go.Proofs.YtiahpncglpfjeaaGreat
open Go.RowKit Go.Shelf
set_option linter.unusedVariables false
set_option linter.unusedSimpArgs false

/-- What a function of states leaves: a state with a list of its own (or the caller's), a code. -/
def SOut (g' : Gm.G) (r' : Ros.R) (code : Int) (w : World) (e : Ending) (w' : World) : Prop :=
  ∃ A c, e = .returned (.tuple #[.agg (Im.cells g' (.slice A g'.shots.length c) r'), .int .i64 code]) ∧ Lies w' w'.heap.size 6 A g'.shots.length (Gm.shotCells g'.shots) ∧ Below w.heap.size w w'
/-- The same with the state alone. -/
def SOne (g' : Gm.G) (r' : Ros.R) (w : World) (e : Ending) (w' : World) : Prop :=
  ∃ A c, e = .returned (.agg (Im.cells g' (.slice A g'.shots.length c) r')) ∧ Lies w' w'.heap.size 6 A g'.shots.length (Gm.shotCells g'.shots) ∧ Below w.heap.size w w'
/-- A fault was thrown, and nothing else came of it. -/
def Thrown (code : Int) (w : World) (e : Ending) (w' : World) : Prop := e = .panicked [{ v := .iface 97 (.int .i64 code), recovered := false }] ∧ Below w.heap.size w w'

theorem need_ok (w : World) : Calls Tryz.prog 61 #[.int .i64 0] w fun e w' => e = .returned (.tuple #[]) ∧ Below w.heap.size w w' := by
  go_enter Tryz.func61, Tryz.ntmps61
  go_wp2
  go_end0
  exact ⟨rfl, Below.refl _ _⟩
theorem need_throws (w : World) : Calls Tryz.prog 61 #[.int .i64 1] w (Thrown 1 w) := by
  go_enter Tryz.func61, Tryz.ntmps61
  go_wp2
  exact ⟨rfl, rfl, Below.refl _ _⟩
theorem needthat_yes (w : World) : Calls Tryz.prog 57 #[.bool true] w fun e w' => e = .returned (.tuple #[]) ∧ Below w.heap.size w w' := by
  go_enter Tryz.func57, Tryz.ntmps57
  go_wp2
  go_end0
  exact ⟨rfl, Below.refl _ _⟩
theorem needthat_no (w : World) : Calls Tryz.prog 57 #[.bool false] w (Thrown 1 w) := by
  have c1 := fun X => Lib.hid (need_throws X)
  go_enter Tryz.func57, Tryz.ntmps57
  go_wp2_with (first | (go_at_call 61; ((with_reducible refine ((c1 _).out).mono ?_); rintro e w1 ⟨rfl, hb⟩)))
  exact ⟨rfl, rfl, hb⟩

set_option maxRecDepth 100000 in
set_option maxHeartbeats 1000000 in
theorem foldown_any (g : Gm.G) (r : Ros.R) (A : Option Addr) (n c : Nat) (w : World) (hn60 : n ≤ 60) (hn : n = g.shots.length) (hr : Lies w w.heap.size 6 A n (Gm.shotCells g.shots)) :
    Calls Tryz.prog 42 #[.agg (Im.cells g (.slice A n c) r)] w (SOne g r w) := by
  have P0 := Lib.hid ((Box.made w 35 (Im.cells g (.slice A n c) r)).alloc (.cells Im.zero 35))
  have Q0 := Lib.hid (Box.made_at (n := w.heap.size + 1) (w.alloc (.cells (Im.cells g (.slice A n c) r) 35)) 35 Im.zero (by simp))
  have K0 := Lib.hid (two_below' w (.cells (Im.cells g (.slice A n c) r) 35) (.cells Im.zero 35))
  have c1 := Lib.hid (clone_any g.shots A n c _ hn hn60 ((hr.below K0.out).wider K0.out.size))
  have hc := P0.out.cell
  have e58 : (Im.cells g (.slice A n c) r)[58]? = some (.slice A n c) := (Im.cells_g _ _ _ 58 (by omega)).trans (Gm.cells_58 _ _)
  have hN := Lib.hid hn
  clear hr hn
  go_enter Tryz.func42, Tryz.ntmps42
  go_upto_region 2 with (first | (with_reducible refine alloc_state rfl rfl ?_) | (go_at_call 79; ((with_reducible refine ((c1).out).mono ?_); rintro e w1 ⟨A', c', rfl, ho, hb⟩; have D1 := P0.out.below hb P0.out.lt; have D2 := Lib.hid (Q0.out.below hb Q0.out.lt); have k1 := D1.cell; have f1 := D1.free; have O1 := Lib.hid ho; have HB1 := Lib.hid (K0.out.trans (hb.mono K0.out.size)); have F1 := Lib.hid (show Box (w1.setCell ⟨w.heap.size, 58, none⟩ (.slice A' n c')) w.heap.size 35 (Im.cells g (.slice A' n c') r) from Im.cells_shots g _ _ r ▸ D1.put 58 (.slice A' n c')); have F2 := Lib.hid (D2.out.far (p := ⟨w.heap.size, 58, none⟩) (show w.heap.size + 1 ≠ w.heap.size by omega) (.slice A' n c')); have nO := Lib.hid (D1.unowned ho (by decide)); clear hb ho D1)))
  go_wp2_with (first | ((with_reducible refine im_load_state rfl rfl ?_); apply LoadIm.mk rfl; (focus (with_reducible exact F1.out)); dsimp only) | ((with_reducible refine im_store_state rfl rfl ?_); apply StoreS.mk rfl rfl; (focus (with_reducible exact F2.out)); (focus (exact Im.zero_size)); (focus rfl)))
  have hn := hN.out
  subst hn
  refine bodyPost_ret (v := .agg (Im.cells g (.slice A' g.shots.length c') r)) ?_ ?_ ?_
  · exact results_cell_row rfl _ _ _ _ (Im.cells g (.slice A' g.shots.length c') r) (0, 0) _ rfl (F2.out.row _).is Tryz.underlying35 rfl (by rw [Im.cells_size]; exact state_info)
  · rfl
  · refine ⟨A', c', rfl, ?_, ?_⟩
    · have h := ownsRow_setCell_other (a := ⟨w.heap.size, 58, none⟩) O1.out nO.out (.slice A' g.shots.length c')
      exact Lies.owned (own_setRow h (F2.out.unowned h (by decide)) (Im.cells g (.slice A' g.shots.length c') r))
    · exact Below.setRow' (HB1.out.setCell (p := ⟨w.heap.size, 58, none⟩) (Nat.le_refl _) _) (by omega) _

set_option maxHeartbeats 1000000 in
theorem foldstart_any (s : ByteArray) (w : World) (hs : s.size ≤ maxLen) :
    Calls Tryz.prog 20 #[.string s] w fun e w' => e = .returned (.agg (Im.cells (Gm.new (Dn.seed s.data.toList)) (.slice none 0 0) Ros.new)) ∧ Below w.heap.size w w' := by
  have P1 := Lib.hid (Box.made w 35 Im.zero)
  have K1 := Lib.hid (one_below w (.cells Im.zero 35))
  have c1 := fun X => Lib.hid (new_any s X hs)
  have c2 := fun X => Lib.hid (rosnew_any X)
  go_enter Tryz.func20, Tryz.ntmps20
  go_wp2_with (first | (with_reducible refine alloc_state rfl rfl ?_) | (go_at_call 43; ((with_reducible refine ((c1 _).out).mono ?_); rintro e w2 ⟨rfl, hb⟩; have P2 := Lib.hid (P1.out.below hb P1.out.lt); have K2 := Lib.hid (K1.out.trans (hb.mono K1.out.size)); clear hb)) | (go_at_call 44; ((with_reducible refine ((c2 _).out).mono ?_); rintro e w3 ⟨rfl, hb⟩; have P3 := Lib.hid (P2.out.below hb P2.out.lt); have K3 := Lib.hid (K2.out.trans (hb.mono K2.out.size)); clear hb)) | (refine wpList_build_is rfl (t := 35) (vs := [(0, .agg (Gm.cells (Gm.new (Dn.seed s.data.toList)) (.slice none 0 0))), (1, .agg (Ros.cells Ros.new))]) rfl rfl (state_built2 _ _ _) ?_) | ((with_reducible refine blk_gate (t := 35) rfl rfl state_info ?_); apply StoreBlk.mk rfl rfl P3.out (im_cells_one _ _ _ rfl) (Im.cells_size _ _ _) Im.zero_size))
  refine bodyPost_ret (v := .agg (Im.cells (Gm.new (Dn.seed s.data.toList)) (.slice none 0 0) Ros.new)) ?_ ?_ ?_
  · exact results_cell_row rfl _ _ _ _ (Im.cells (Gm.new (Dn.seed s.data.toList)) (.slice none 0 0) Ros.new) (0, 0) _ rfl (P3.out.row _).is Tryz.underlying35 rfl (by rw [Im.cells_size]; exact state_info)
  · rfl
  · exact ⟨rfl, Below.setRow' K3.out (Nat.le_refl _) _⟩

set_option maxHeartbeats 1000000 in
theorem foldmay_any (g : Gm.G) (r : Ros.R) (A : Option Addr) (n c : Nat) (w : World) (hty : Gm.ty g) (hn63 : n ≤ maxLen) (hn : n = g.shots.length) (hr : Lies w w.heap.size 6 A n (Gm.shotCells g.shots)) :
    Calls Tryz.prog 14 #[.agg (Im.cells g (.slice A n c) r)] w fun e w' => (∃ v, e = .returned (.bool v) ∧ (v = true ↔ Im.Ok g r)) ∧ Below w.heap.size w w' := by
  have P0 := Lib.hid (Box.made w 35 (Im.cells g (.slice A n c) r))
  have K0 := Lib.hid (one_below w (.cells (Im.cells g (.slice A n c) r) 35))
  have hr0 := (hr.below K0.out).wider K0.out.size
  by_cases hok : Im.Ok g r
  · have cp := Lib.hid (put_yes g r A n c _ hok hty.2.1 hn hr0)
    have HOK := Lib.hid hok
    clear hr hn hok hr0 hty
    go_enter Tryz.func14, Tryz.ntmps14
    go_wp2_with (first | ((with_reducible refine im_load_state rfl rfl ?_); apply LoadIm.mk rfl; (focus (with_reducible exact P0.out)); dsimp only) | (go_at_call 35; ((with_reducible refine ((cp).out).mono ?_); rintro e w1 ⟨A1, c1, rfl, _, hb⟩; have K1 := Lib.hid (K0.out.trans (hb.mono K0.out.size)); clear hb)))
    go_ret
    exact ⟨⟨true, rfl, fun _ => HOK.out, fun _ => rfl⟩, K1.out⟩
  · have cp := Lib.hid (put_no g r A n c _ hok hty hn hn63 hr0)
    have HOK := Lib.hid hok
    clear hr hn hok hr0 hty
    go_enter Tryz.func14, Tryz.ntmps14
    go_wp2_with (first | ((with_reducible refine im_load_state rfl rfl ?_); apply LoadIm.mk rfl; (focus (with_reducible exact P0.out)); dsimp only) | (go_at_call 35; ((with_reducible refine ((cp).out).mono ?_); rintro e w1 ⟨rfl, hb⟩; have K1 := Lib.hid (K0.out.trans (hb.mono K0.out.size)); clear hb)))
    go_ret
    exact ⟨⟨false, rfl, ⟨fun h => (by cases h), fun h => absurd h HOK.out⟩⟩, K1.out⟩
end Go.Proofs.YtiahpncglpfjeaaGreat
namespace Go.Proofs.YtiahpncglpfjeaaGreat
open Go.RowKit
set_option linter.unusedVariables false

set_option maxRecDepth 100000 in
set_option maxHeartbeats 2000000 in
theorem remove_yes (g : Gm.G) (A : Option Addr) (n c i : Nat) (w : World) (hg : Gm.ok g) (hn : n = g.shots.length) (hr : Lies w w.heap.size 6 A n (Gm.shotCells g.shots)) (hi : i < 8) (ho : (g.ship i).on = true) (h0 : g.shots = []) :
    Calls Tryz.prog 97 #[.agg (Gm.cells g (.slice A n c)), .int .i64 i] w (Out { g with ship := Gm.upd g.ship i Gm.Ship.none } 0 w) := by
  have b1 : Box (((w.alloc (.cells (Gm.cells g (.slice A n c)) 28)).alloc (.cells #[.int .i64 i] 3)).alloc (.cells (Gm.cells zeroG (.slice none 0 0)) 28)) w.heap.size 28 (Gm.cells g (.slice A n c)) := ((Box.made _ _ _).alloc _).alloc _
  have b2 : Box (((w.alloc (.cells (Gm.cells g (.slice A n c)) 28)).alloc (.cells #[.int .i64 i] 3)).alloc (.cells (Gm.cells zeroG (.slice none 0 0)) 28)) (w.heap.size + 1 + 1) 28 (Gm.cells zeroG (.slice none 0 0)) := Box.made_at _ _ _ (by simp)
  have b3 : Box (((w.alloc (.cells (Gm.cells g (.slice A n c)) 28)).alloc (.cells #[.int .i64 i] 3)).alloc (.cells (Gm.cells zeroG (.slice none 0 0)) 28)) (w.heap.size + 1) 3 #[.int .i64 i] := (Box.made_at _ _ _ (by simp)).alloc _
  have hb0 := (two_below' w (.cells (Gm.cells g (.slice A n c)) 28) (.cells #[.int .i64 i] 3)).alloc (by simp <;> omega) (.cells (Gm.cells zeroG (.slice none 0 0)) 28)
  have co := Lib.hid (own_any g A n c _ hn (by have := hg.2.2.1; omega) ((hr.below hb0).wider hb0.size))
  have cm := fun X (hX : Below w.heap.size w X) => Lib.hid (may_yes g A n c X hg hn ((hr.below hX).wider hX.size))
  have cs := fun X => Lib.hid (isslot_any i (by omega) X)
  rw [decide_eq_true (show (0 : Int) ≤ i by omega), decide_eq_true (show (i : Int) < 8 by omega), Bool.and_self] at cs
  have q0 : (Gm.cells g (.slice A n c))[2 + i * 7]? = some (.bool true) := (Gm.cells_ship g _ i 0 hi (by omega)).trans (by show some (Value.bool (g.ship i).on) = _; rw [ho])
  have hi8 : (i : Int) < 8 := by omega
  obtain ⟨t, ht⟩ : ∃ t, t = g.ship i := ⟨_, rfl⟩
  have r0 : ∀ s, (Gm.cells g s)[2 + i * 7]? = some (.bool t.on) := fun s => (Gm.cells_ship g s i 0 hi (by omega)).trans (by rw [ht]; rfl)
  have r1 : ∀ s, (Gm.cells g s)[2 + i * 7 + 1]? = some (.int .i32 t.x) := fun s => (Gm.cells_ship g s i 1 hi (by omega)).trans (by rw [ht]; rfl)
  have r2 : ∀ s, (Gm.cells g s)[2 + i * 7 + 2]? = some (.int .i32 t.y) := fun s => (Gm.cells_ship g s i 2 hi (by omega)).trans (by rw [ht]; rfl)
  have r3 : ∀ s, (Gm.cells g s)[2 + i * 7 + 3]? = some (.int .i32 t.vx) := fun s => (Gm.cells_ship g s i 3 hi (by omega)).trans (by rw [ht]; rfl)
  have r4 : ∀ s, (Gm.cells g s)[2 + i * 7 + 4]? = some (.int .i32 t.vy) := fun s => (Gm.cells_ship g s i 4 hi (by omega)).trans (by rw [ht]; rfl)
  have r5 : ∀ s, (Gm.cells g s)[2 + i * 7 + 5]? = some (.int .i64 t.cool) := fun s => (Gm.cells_ship g s i 5 hi (by omega)).trans (by rw [ht]; rfl)
  have r6 : ∀ s, (Gm.cells g s)[2 + i * 7 + 6]? = some (.int .i64 t.score) := fun s => (Gm.cells_ship g s i 6 hi (by omega)).trans (by rw [ht]; rfl)
  have hN := Lib.hid hn
  have H0 := Lib.hid h0
  have HB := Lib.hid hb0
  have B1 := Lib.hid b1
  have B2 := Lib.hid b2
  have B3 := Lib.hid b3
  clear hr hn b1 b2 b3 hb0 ho hg ht h0
  go_enter Tryz.func97, Tryz.ntmps97
  go_upto_region 5 with (first | (refine wpList_alloc_game rfl rfl ?_) | ((with_reducible refine load_gate rfl rfl ?_); apply LoadGame.mk rfl; (with_reducible exact B1.out)) | ((with_reducible refine load_gate rfl rfl ?_); apply LoadGame.mk rfl; (with_reducible exact D1.out)) | ((with_reducible refine load_gate rfl rfl ?_); apply LoadGame.mk rfl; exact F1.out) | (go_at_call 98; ((with_reducible refine (co.out).mono ?_); rintro e w1 ⟨A1, c1, rfl, ho1, hb1⟩; have HB1 := Lib.hid ((HB.out.trans (hb1.mono HB.out.size)).alloc (by have := hb1.size; simp at this; omega) (.cells (Gm.cells g (.slice A1 n c1)) 28)); have O1 := Lib.hid ((own_rebase (base' := w.heap.size) ho1 (by simp; omega)).alloc (.cells (Gm.cells g (.slice A1 n c1)) 28)); have D1 := Lib.hid ((B1.out.below hb1 (by simp <;> omega)).alloc (.cells (Gm.cells g (.slice A1 n c1)) 28)); have D2 := Lib.hid ((B2.out.below hb1 (by simp <;> omega)).alloc (.cells (Gm.cells g (.slice A1 n c1)) 28)); have D3 := Lib.hid ((B3.out.below hb1 (by simp <;> omega)).alloc (.cells (Gm.cells g (.slice A1 n c1)) 28)); have s1 : w.heap.size + 1 + 1 < w1.heap.size := (by have := hb1.size; simp at this; omega); have ho1H := Lib.hid ho1; clear ho1 hb1)) | (refine wpList_store_game_new rfl rfl rfl rfl rfl rfl ?_) | (go_at_call 24; ((with_reducible refine ((cm _ HB1.out).out).mono ?_); rintro e w2 ⟨rfl, hb2⟩; have HB2 := Lib.hid (HB1.out.trans (hb2.mono HB1.out.size)); have O2 := Lib.hid (own_below O1.out hb2 (Nat.le_refl _)); have F1 := Lib.hid ((Box.made w1 28 (Gm.cells g (.slice A1 n c1))).below hb2 (by simp)); have f1c := F1.out.cell; have f1f := F1.out.free; have H9 := Lib.hid ((has_made (w := w) hN.out (own_rebase (base' := w.heap.size) ho1H.out (by simp; omega))).call hb2); have E1 := (D1.out.below hb2 D1.out.lt).cell; have E3' := D3.out.below hb2 D3.out.lt; have E3 := E3'.cell; have E3H := Lib.hid E3'; have G2 := Lib.hid (D2.out.below hb2 D2.out.lt); clear hb2)) | (go_at_call 91; ((with_reducible refine ((cs _).out).mono ?_); rintro e w' ⟨rfl, rfl⟩)) | ((with_reducible refine store_gate rfl rfl ?_); apply StoreGame.mk rfl rfl rfl; exact G2.out))
  have W5 : Has w.heap.size w1.heap.size { g with ship := Gm.upd g.ship i Gm.Ship.none } (stored w2 w1.heap.size i Gm.Ship.none) := H9.out.stored hi _
  have K5 := (Keep.refl (show w.heap.size ≤ w1.heap.size by omega) w2).stored (k := i) Gm.Ship.none
  obtain ⟨W, hW⟩ : ∃ W, W = stored w2 w1.heap.size i Gm.Ship.none := ⟨_, rfl⟩
  rw [← hW] at W5 K5
  simp only [stored, Gm.Ship.none] at hW
  rw [← hW]
  have ck := Lib.hid (keep_none { g with ship := Gm.upd g.ship i Gm.Ship.none } w.heap.size w1.heap.size (.func (.func 127) #[] #[.pointer (some ⟨w.heap.size + 1, 0, none⟩)]) W (by omega) W5 H0.out)
  have hmf : ∀ (fn : Fn) (first cap : Array Value) (w : World), (Instr.makeFunc fn first cap).run Tryz.prog w = .ok (.func fn first cap) w := fun _ _ _ _ => rfl
  have ne2 : w.heap.size + 1 + 1 ≠ w1.heap.size := by omega
  have R5 := Lib.hid (G2.out.keep K5 ne2 (by decide))
  have KK5 := Lib.hid (HB2.out.trans (K5.to HB2.out.size))
  clear hW W5 K5 E1 E3 f1c f1f r0 r1 r2 r3 r4 r5 r6
  go_wp2_with (first | (go_at_call 103; ((with_reducible refine (ck.out).mono ?_); rintro e w4 ⟨rfl, h4, k4⟩; obtain ⟨A4, c4, B4, O4⟩ := h4; have F4 := Lib.hid B4; have O4H := Lib.hid O4; have R4 := Lib.hid (R5.out.keep k4 ne2 (by decide)); have K4 := Lib.hid (KK5.out.trans (k4.to KK5.out.size)); clear B4 O4 k4)) | ((with_reducible refine load_gate rfl rfl ?_); apply LoadGame.mk rfl; exact F4.out) | ((with_reducible refine store_gate rfl rfl ?_); apply StoreGame.mk rfl rfl rfl; exact R4.out))
  refine bodyPost_ret (v := .tuple #[.agg (Gm.cells { g with ship := Gm.upd g.ship i Gm.Ship.none } (.slice A4 g.shots.length c4)), .int .i64 0]) ?_ ?_ ?_
  · exact results_cell_tmp (p := 4) (q := 5) rfl _ _ _ _ (Gm.cells { g with ship := Gm.upd g.ship i Gm.Ship.none } (.slice A4 g.shots.length c4)) _ rfl (Box.row R4.out _) Tryz.underlying28 rfl game_info
  · rfl
  · exact ⟨A4, c4, rfl, Lies.owned (own_setRow O4H.out (R4.out.unowned O4H.out (by decide)) _), Below.setRow' K4.out (by omega) _⟩
end Go.Proofs.YtiahpncglpfjeaaGreat
