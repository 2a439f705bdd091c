/-
Several texts in one: Qc Qd Shb Qe Qf Shd It Iv Tj Iw Qg Ol.
-/
import Derived.Test.YtghomofakpjglaaWi5
namespace Go.Proofs.Ytghomofakpjglaa
open Go.RowKit Go.Shelf
set_option linter.unusedVariables false
set_option linter.unusedSimpArgs false

theorem four_is {l : List Int} (h : l.length = 4) : ∃ a b c d, l = [a, b, c, d] := by
  match l, h with
  | [a, b, c, d], _ => exact ⟨a, b, c, d, rfl⟩

set_option maxRecDepth 100000 in
set_option maxHeartbeats 4000000 in
theorem layship_any (P o : Nat) (t : TypeId) (cs : Array Value) (bs : List Int) (b Bb Bp : Nat) (w : World) (hBy : Im.IsBytes bs) (hbB : b ≤ Bb) (hbP : b ≤ P) (hbw : b ≤ w.heap.size) (h : Rd b Bb Bp bs w) (hP : Box w P t cs)
    (o0 : cs[o]? = some (.bool false)) (oz : ∀ k, k < 4 → cs[o + 1 + k]? = some (.int .i32 0)) (o5 : cs[o + 5]? = some (.int .i64 0)) (o6 : cs[o + 6]? = some (.int .i64 0)) (h1 : t ≠ 36) (h2 : t ≠ 5) (h3 : t ≠ 82) :
    Calls Try.prog 69 #[.func (.func 76) #[] #[.pointer (some ⟨Bp, 0, none⟩)], .pointer (some ⟨P, o, none⟩)] w (GotP b Bb Bp P t cs.size (Im.decShip bs) (fun s cs' => cs'.size = cs.size ∧ Im.Patch cs o s.cells cs') w) := by
  have k0 := hP.cell o
  rw [o0] at k0
  have ltP := hP.lt
  have HPA := Lib.hid (hP.alloc (.cells #[.int .i64 0] 3))
  have HKA := Lib.hid (Rk.alloc (w := w) (Bb := Bb) (P := P) hbw (.cells #[.int .i64 0] 3))
  have c1 := Lib.hid (part_int 1 1 rfl 0 w.heap.size 0 3 #[.int .i64 0] bs b Bb Bp _ (by decide) hBy hbB hbw (by simp <;> omega) (h.call (one_below w (.cells #[.int .i64 0] 3)) hbw) (Box.made w 3 #[.int .i64 0]) rfl (by decide) (by decide) (by decide))
  have HO := Lib.hid o0
  have HB := Lib.hid hbP
  have HW := Lib.hid hbw
  have HY := Lib.hid hBy
  have HD := Lib.hid (show Im.decShip bs = (Im.rdn 1 bs).bind fun o => if o.1 = 0 then some (Gm.Ship.none, o.2) else if o.1 = 1 then (Im.decParts 4 [] o.2).bind fun f => (Im.rdn 1 f.2).bind fun c => (Im.rdn 4 c.2).bind fun s => some (⟨true, f.1.getD 0 0, f.1.getD 1 0, f.1.getD 2 0, f.1.getD 3 0, c.1, s.1⟩, s.2) else none from rfl)
  clear h hP hbw hBy
  go_enter Try.func69, Try.ntmps69
  go_upto_region 4 with (go_at_call 67; ((with_reducible refine (c1.out).mono ?_); rintro e w1 (⟨y, r1, hr, rfl, hI1, hK1, hL1⟩ | ⟨hn, ⟨ss, rfl⟩, hK1, cs2, hL1, hs⟩); (all_goals first | (have R1 := Lib.hid hr; have Y1 := Lib.hid (Im.rdn_inv HY.out hr); have l1 := hL1.cell 0; have P1 := Lib.hid (hK1.kb _ _ _ HPA.out (by omega) h1 h2); have p1 := P1.out.cell o; rw [HO.out] at p1; have f1 := P1.out.free o; have I1 := Lib.hid hI1; have K1 := Lib.hid (HKA.out.local hK1 (Nat.le_refl _)); clear hr hI1 hK1 hL1 k0 c1) | (have N1 := Lib.hid hn; have F1 := Lib.hid (HKA.out.local hK1 (Nat.le_refl _)); have G1 := Lib.hid (hK1.kb _ _ _ HPA.out (by omega) h1 h2); clear hn hK1 hL1 hs k0 c1))))
  rotate_left
  · refine ⟨rfl, .inr ⟨?_, ⟨_, rfl⟩, F1.out, _, G1.out, rfl⟩⟩
    rw [HD.out, N1.out, Option.bind_none]
  simp only [List.getElem?_toArray, Array.setIfInBounds, List.size_toArray, List.length_cons, List.length_nil, Nat.zero_add, Nat.lt_add_one, dite_true, List.set_toArray, List.set_cons_zero, List.getElem?_cons_zero] at l1
  by_cases hy0 : y = 0
  · subst hy0
    have hpt : Im.Patch cs o Gm.Ship.none.cells cs := by
      refine (Im.Patch.nil cs o).more Gm.Ship.none.cells fun i hi => ?_
      simp only [List.length_nil, Nat.add_zero]
      match i, hi with
      | 0, _ => exact o0
      | 1, _ => exact oz 0 (by omega)
      | 2, _ => exact oz 1 (by omega)
      | 3, _ => exact oz 2 (by omega)
      | 4, _ => exact oz 3 (by omega)
      | 5, _ => exact o5
      | 6, _ => exact o6
    have HPT := Lib.hid hpt
    clear hpt oz o5 o6
    go_wp2_with (go_at_call 37; ((with_reducible refine (need_yes _ _).mono ?_); rintro e wn ⟨rfl, rfl⟩))
    refine bodyPost_ret (results_none rfl _ _ _) rfl ?_
    refine .inl ⟨Gm.Ship.none, r1, by rw [HD.out, R1.out, Option.bind_some]; rfl, rfl, I1.out.off (p := ⟨P, o, none⟩) P1.out h3 h1 HB.out _, K1.out.put HB.out _ _, cs, ?_, rfl, HPT.out⟩
    have := P1.out.put o (.bool false)
    rwa [set_same HO.out] at this
  by_cases hy1 : y = 1
  rotate_left
  · have b0 : (y == 0) = false := by simpa using hy0
    have b1 : (y == 1) = false := by simpa using hy1
    have HN := Lib.hid (show Im.decShip bs = none by rw [HD.out, R1.out, Option.bind_some]; dsimp only; rw [if_neg hy0, if_neg hy1])
    clear hy0 hy1
    go_wp2_with (go_at_call 37; ((with_reducible refine (need_no _ _).mono ?_); rintro e wn ⟨rfl, rfl⟩))
    exact ⟨rfl, .inr ⟨HN.out, ⟨_, rfl⟩, K1.out, _, P1.out, rfl⟩⟩
  subst hy1
  have HD1 := Lib.hid (show Im.decShip bs = (Im.decParts 4 [] r1).bind fun f => (Im.rdn 1 f.2).bind fun c => (Im.rdn 4 c.2).bind fun s => some (⟨true, f.1.getD 0 0, f.1.getD 1 0, f.1.getD 2 0, f.1.getD 3 0, c.1, s.1⟩, s.2) by rw [HD.out, R1.out, Option.bind_some]; rfl)
  clear hy0
  go_upto_region 6 with (go_at_call 37; ((with_reducible refine (need_yes _ _).mono ?_); rintro e wn ⟨rfl, rfl⟩))
  obtain ⟨U, hU⟩ : ∃ U, U = w1.setCell ⟨P, o, none⟩ (.bool true) := ⟨_, rfl⟩
  have IU := Lib.hid (show Rd b Bb Bp _ U from hU ▸ I1.out.off (p := ⟨P, o, none⟩) P1.out h3 h1 HB.out (.bool true))
  have KU := Lib.hid (show Rk b Bb P w U from hU ▸ K1.out.put HB.out o (.bool true))
  have PU := Lib.hid (show Box U P t (cs.setIfInBounds o (.bool true)) from hU ▸ P1.out.put o (.bool true))
  rw [← hU]
  have T0 := Im.Patch.one (.bool true) o0
  have u0 := (PU.out.cell o).trans (T0.at 0 (by decide))
  simp only [List.getElem?_cons_zero] at u0
  have hc1 : ∀ k, k < 4 → (cs.setIfInBounds o (.bool true))[o + 1 + k]? = some (.int .i32 0) := fun k hk => (T0.cell (.inr (by show o + 1 ≤ o + 1 + k; omega))).trans (oz k hk)
  have cf := fun X hX1 hX2 hX3 Bq hne hq => Lib.hid (layflight_any P (o + 1) Bq t (cs.setIfInBounds o (.bool true)) r1 b Bb Bp X Y1.out.2.2.2 hbB hbP hX1 hX2 hX3 hc1 h1 h2 h3 hne hq 4)
  have HT0 := Lib.hid T0
  clear hU I1 K1 P1 p1 f1 l1 HPA HKA hc1 T0 oz o0
  go_upto_region 7 with fail
  refine Rx.wp_region_lex (X := fun ch Z => Im.decParts 4 [] r1 = none ∧ Pan (.panicked ch) ∧ Rk b Bb P w Z ∧ ∃ cs', Box Z P t cs' ∧ cs'.size = cs.size) (by kernel_rfl) [] (by kernel_rfl) (· = U.drew) (fun _ => True) (fun _ => True) rfl (fun W hW => ⟨trivial, trivial⟩) ?_ ?_
  · rintro a' ha' _ ch Z ⟨hn, ⟨ss, hp⟩, hK, cs', hB, hs⟩
    refine ⟨ha', .inr ⟨?_, ⟨ss, hp⟩, hK, cs', hB, hs⟩⟩
    rw [HD1.out, hn, Option.bind_none]
  repeat (first
    | (apply Rx.lex_free rfl rfl; focus (intro _; go_simp; first | done | rfl))
    | (apply Rx.lex_look rfl rfl rfl rfl; focus (intro W hW; clear hW; go_simp; first | done | rfl)))
  refine Rx.lex_make rfl (W' := U.drew.alloc (.cells #[.pointer (some ⟨P, o + 1, none⟩), .pointer (some ⟨P, o + 2, none⟩), .pointer (some ⟨P, o + 3, none⟩), .pointer (some ⟨P, o + 4, none⟩)] 139)) (v := .slice (some ⟨U.drew.heap.size, 0, none⟩) 4 4) ?_ ⟨trivial, trivial⟩ ?_
  focus (go_simp; first | done | rfl)
  refine Rx.lex_call (C' := fun Z => ∃ l r2, Im.decParts 4 [] r1 = some (l, r2) ∧ l.length = 4 ∧ Rd b Bb Bp r2 Z ∧ Rk b Bb P w Z ∧ ∃ cs', Box Z P t cs' ∧ cs'.size = cs.size ∧ Im.Patch cs o ([.bool true] ++ Im.i32s l) cs') (v := .tuple #[]) (f := 89) (args := #[.func (.func 76) #[] #[.pointer (some ⟨Bp, 0, none⟩)], .slice (some ⟨U.drew.heap.size, 0, none⟩) 4 4]) rfl ?_ ?_ ?_ ?_
  · intro Z hZ; clear hZ; go_simp; first | done | rfl | exact ⟨rfl, rfl⟩
  · intro Z hZ
    subst hZ
    have hs0 : b ≤ U.heap.size := Nat.le_trans HW.out KU.out.below.size
    have KA : Rk b Bb P w (U.drew.alloc (.cells #[.pointer (some ⟨P, o + 1, none⟩), .pointer (some ⟨P, o + 2, none⟩), .pointer (some ⟨P, o + 3, none⟩), .pointer (some ⟨P, o + 4, none⟩)] 139)) := KU.out.trans ⟨((one_below' U).mono hs0).trans ((one_below U.drew _).mono hs0), ((Kb.refl U).call (one_below' U)).call (one_below U.drew _)⟩
    have hW := (IU.out.call (one_below' U) hs0).call (one_below U.drew (.cells #[.pointer (some ⟨P, o + 1, none⟩), .pointer (some ⟨P, o + 2, none⟩), .pointer (some ⟨P, o + 3, none⟩), .pointer (some ⟨P, o + 4, none⟩)] 139)) hs0
    refine (cf _ (Nat.le_trans HW.out KA.below.size) hW (PU.out.drew.alloc _) U.drew.heap.size (by have := PU.out.drew.lt; omega) (Box.made _ _ _)).out.mono ?_
    rintro e Z2 (⟨l, r2, hd, rfl, hI2, hK2, cs', hB2, hl, hsz, hp2⟩ | ⟨hd, ⟨ss, rfl⟩, hK2, cs', hB2, hsz⟩)
    · exact .inl ⟨rfl, l, r2, hd, hl, hI2, KA.trans hK2, cs', hB2, by rw [hsz]; simp, HT0.out.trans hp2 rfl⟩
    · exact .inr ⟨_, rfl, hd, ⟨_, rfl⟩, KA.trans hK2, cs', hB2, by rw [hsz]; simp⟩
  · exact fun Z hZ => ⟨trivial, trivial⟩
  refine Rx.lex_end fun W3 hW3 => ?_
  obtain ⟨l, r2, hd3, hl3, hI3, hK3, cs3, hP3, hs3, hp3⟩ := hW3
  obtain ⟨xa, xb, xc, xd, rfl⟩ := four_is hl3
  obtain ⟨l'', _, _, hr2, Y3, _⟩ := Im.decParts_inv _ _ _ _ _ Y1.out.2.2.2 hd3
  have z5 : cs3[o + 5]? = some (.int .i64 0) := (hp3.cell (.inr (Nat.le_refl _))).trans o5
  have T5 := fun v : Int => hp3.trans (Im.Patch.one (.int .i64 v) z5) rfl
  have z6 : ∀ v : Int, (cs3.setIfInBounds (o + 5) (.int .i64 v))[o + 6]? = some (.int .i64 0) := fun v => ((T5 v).cell (.inr (Nat.le_refl _))).trans o6
  have T6 := Lib.hid (fun v u : Int => (T5 v).trans (Im.Patch.one (.int .i64 u) (z6 v)) rfl)
  have c5 := Lib.hid (part_int 1 1 rfl 0 P (o + 5) t cs3 r2 b Bb Bp W3 (by decide) Y3 hbB hbP (Nat.le_trans HW.out hK3.below.size) hI3 hP3 z5 h1 h2 h3)
  have c6 := fun v bs' X hy hX1 hX2 hX3 => Lib.hid (part_int 4 4 rfl 0 P (o + 6) t (cs3.setIfInBounds (o + 5) (.int .i64 v)) bs' b Bb Bp X (by decide) hy hbB hbP hX1 hX2 hX3 (z6 v) h1 h2 h3)
  have p3 := hP3.cell
  have K3 := Lib.hid hK3
  have Y3 := Lib.hid Y3
  have S3 := Lib.hid hs3
  have D3 := Lib.hid hd3
  clear hI3 hK3 hP3 cf IU KU PU u0 o5 o6 hp3 z5 T5 z6 HT0 hr2 hd3 hs3
  go_wp2_with (go_at_call 67; first | ((with_reducible refine (c5.out).mono ?_); rintro e w4 (⟨y4, r4, hr, rfl, hI, hK, hB⟩ | ⟨hn, ⟨ss, rfl⟩, hK, cs2, hB, hs⟩); (all_goals first | (have R4 := Lib.hid hr; have Y4 := Lib.hid (Im.rdn_inv Y3.out hr).2.2.2; have P4 := Lib.hid hB; have I4 := Lib.hid hI; have K4 := Lib.hid (K3.out.trans hK); clear hr hI hK hB c5) | (have N4 := Lib.hid hn; have F4 := Lib.hid (K3.out.trans hK); have G4 := Lib.hid hB; have S4 := Lib.hid hs; clear hn hK hB hs c5))) | ((with_reducible refine ((c6 _ _ _ Y4.out (Nat.le_trans HW.out K4.out.below.size) I4.out P4.out).out).mono ?_); rintro e w5 (⟨y5, r5, hr, rfl, hI, hK, hB⟩ | ⟨hn, ⟨ss, rfl⟩, hK, cs2, hB, hs⟩); (all_goals first | (have R5 := Lib.hid hr; have P5 := Lib.hid hB; have I5 := Lib.hid hI; have K5 := Lib.hid (K4.out.trans hK); clear hr hI hK hB) | (have N5 := Lib.hid hn; have F5 := Lib.hid (K4.out.trans hK); have G5 := Lib.hid hB; have S5 := Lib.hid hs; clear hn hK hB hs))))
  · go_end0
    refine .inl ⟨⟨true, xa, xb, xc, xd, y4, y5⟩, r5, ?_, rfl, I5.out, K5.out, _, P5.out, by simp [S3.out], T6.out y4 y5⟩
    rw [HD1.out, D3.out, Option.bind_some, R4.out, Option.bind_some, R5.out, Option.bind_some]
    rfl
  · refine ⟨rfl, .inr ⟨?_, ⟨_, rfl⟩, F5.out, _, G5.out, by rw [S5.out]; simp [S3.out]⟩⟩
    rw [HD1.out, D3.out, Option.bind_some, R4.out, Option.bind_some, N5.out, Option.bind_none]
  · refine ⟨rfl, .inr ⟨?_, ⟨_, rfl⟩, F4.out, _, G4.out, by rw [S4.out]; simp [S3.out]⟩⟩
    rw [HD1.out, D3.out, Option.bind_some, N4.out, Option.bind_none]
end Go.Proofs.Ytghomofakpjglaa
namespace Go.Proofs.Ytghomofakpjglaa
open Go.RowKit Go.Shelf
set_option linter.unusedVariables false
set_option linter.unusedSimpArgs false

/-- What is left where a row of shots is read into cell 58 of block B. -/
def GotRow (b Bb Bp B : Nat) (t : TypeId) (cs : Array Value) (bs : List Int) (w : World) (e : Ending) (w' : World) : Prop :=
  (∃ l rest S, Im.decRow bs = some (l, rest) ∧ e = .returned (.tuple #[]) ∧ Rd b Bb Bp rest w' ∧ Rk b Bb B w w' ∧ Box w' B t (cs.setIfInBounds 58 (.slice (some ⟨S, 0, none⟩) l.length l.length)) ∧ Box w' S 88 (Gm.shotCells l).toArray) ∨
  (Im.decRow bs = none ∧ Pan e ∧ Rk b Bb B w w' ∧ ∃ cs', Box w' B t cs' ∧ cs'.size = cs.size)
theorem shotCells_app (l : List Gm.Shot) (s : Gm.Shot) : Gm.shotCells (l ++ [s]) = Gm.shotCells l ++ s.cells := by
  unfold Gm.shotCells; rw [List.flatMap_append]; simp

end Go.Proofs.Ytghomofakpjglaa
namespace Go.Proofs.Ytghomofakpjglaa
namespace Im
open Go Go.RowKit _root_.Im
theorem decShots_from : ∀ (n : Nat) (l : List Gm.Shot) (bs : List Int), decShots n l bs = decFrom decShot l n bs
  | 0, l, bs => (decFrom_zero l bs).symm
  | n + 1, l, bs => by
    show (decShot bs).bind _ = _
    cases h : decShot bs with
    | none => rw [decFrom_none h]; rfl
    | some q =>
      have h' : decShot bs = some (q.1, q.2) := h
      rw [decFrom_some h', Option.bind_some]
      exact decShots_from n _ _
theorem decRow_list (bs : List Int) : decRow bs = decL 1 decShot bs := by
  unfold decRow decL
  congr 1
  funext n
  rw [decShots_from, decFrom_nil]
theorem allgood_shots : ∀ {l : List Gm.Shot} {Cs : List (List Value)}, AllGood 6 (fun (v : Gm.Shot) C => C = v.cells) l Cs → Cs.flatten = Gm.shotCells l
  | [], [], _ => rfl
  | v :: l, C :: Cs, h => by
    rw [List.flatten_cons, allgood_shots h.2.2, h.2.1]
    unfold Gm.shotCells
    rw [List.flatMap_cons]
  | [], _ :: _, h => h.elim
  | _ :: _, [], h => h.elim
theorem decShot_bytes {bs rest : List Int} {s : Gm.Shot} (hy : IsBytes bs) (h : decShot bs = some (s, rest)) : IsBytes rest := by
  unfold decShot at h
  obtain ⟨q, h1, h⟩ := Option.bind_eq_some_iff.1 h
  obtain ⟨f, h2, h⟩ := Option.bind_eq_some_iff.1 h
  obtain ⟨u, h3, h⟩ := Option.bind_eq_some_iff.1 h
  injection h with h
  injection h with _ h
  have y1 : IsBytes q.2 := (rdn_inv hy (show rdn 1 bs = some (q.1, q.2) from h1)).2.2.2
  obtain ⟨_, _, _, _, y2, _⟩ := decParts_inv _ _ _ _ _ y1 (show decParts 4 [] q.2 = some (f.1, f.2) from h2)
  rw [← h]
  exact (rdn_inv y2 (show rdn 1 f.2 = some (u.1, u.2) from h3)).2.2.2
end Im
open Go.RowKit Go.Shelf
set_option linter.unusedVariables false
set_option linter.unusedSimpArgs false
set_option maxRecDepth 100000 in
set_option maxHeartbeats 8000000 in
theorem layshot_any (P o : Nat) (t : TypeId) (cs : Array Value) (bs : List Int) (b Bb Bp : Nat) (w : World) (hBy : Im.IsBytes bs) (hbB : b ≤ Bb) (hbP : b ≤ P) (hbw : b ≤ w.heap.size) (h : Rd b Bb Bp bs w) (hP : Box w P t cs)
    (zc : ∀ j, j < 6 → cs[o + j]? = (#[.int .i64 0, .int .i32 0, .int .i32 0, .int .i32 0, .int .i32 0, .int .i64 0] : Array Value)[j]?) (h1 : t ≠ 36) (h2 : t ≠ 5) (h3 : t ≠ 82) :
    Calls Try.prog 71 #[.func (.func 76) #[] #[.pointer (some ⟨Bp, 0, none⟩)], .pointer (some ⟨P, o, none⟩)] w (GotP b Bb Bp P t cs.size (Im.decShot bs) (fun s cs' => cs'.size = cs.size ∧ Im.Patch cs o s.cells cs') w) := by
  have HDV := Lib.hid (show Im.decShot bs = (Im.rdn 1 bs).bind fun o => (Im.decParts 4 [] o.2).bind fun f => (Im.rdn 1 f.2).bind fun t => some (⟨o.1, f.1.getD 0 0, f.1.getD 1 0, f.1.getD 2 0, f.1.getD 3 0, t.1⟩, t.2) from rfl)
  have z0 : cs[o]? = some (.int .i64 0) := zc 0 (by omega)
  have T0 := fun v : Int => Im.Patch.one (.int .i64 v) z0
  have zf : ∀ (v : Int) j, j < 4 → (cs.setIfInBounds o (.int .i64 v))[o + 1 + j]? = some (.int .i32 0) := fun v j hj => by
    rw [Array.getElem?_setIfInBounds_ne (by omega), Nat.add_assoc, zc (1 + j) (by omega)]
    match j, hj with
    | 0, _ | 1, _ | 2, _ | 3, _ => rfl
  have z5 : ∀ v : Int, (cs.setIfInBounds o (.int .i64 v))[o + 5]? = some (.int .i64 0) := fun v => by
    rw [Array.getElem?_setIfInBounds_ne (by omega), zc 5 (by omega)]
    rfl
  have p2 := hP.cell
  have c3 := Lib.hid (part_int 1 1 rfl 0 P o t cs bs b Bb Bp w (by decide) hBy hbB hbP hbw h hP z0 h1 h2 h3)
  have ltP := hP.lt
  have YY := Lib.hid hBy
  have HW := Lib.hid hbw
  have T00 := Lib.hid T0
  have ZF := Lib.hid zf
  have Z5 := Lib.hid z5
  clear h zc z0 hP hBy T0 zf z5
  go_enter Try.func71, Try.ntmps71
  go_upto_region 1 with (go_at_call 67; ((with_reducible refine (c3.out).mono ?_); rintro e w3 (⟨y3, r3, hr, rfl, hI, hK, hB⟩ | ⟨hn, ⟨ss, rfl⟩, hK, cs2, hB, hs⟩); (all_goals first | (have R3 := Lib.hid hr; have Y3 := Lib.hid (Im.rdn_inv YY.out hr).2.2.2; have P3 := Lib.hid hB; have p3 := P3.out.cell; have I3 := Lib.hid hI; have K3 := Lib.hid hK; clear hr hI hK hB) | (have N3 := Lib.hid hn; have F3 := Lib.hid hK; have B3 := Lib.hid hB; have S3 := Lib.hid hs; clear hn hK hB hs))))
  rotate_left
  · refine ⟨rfl, .inr ⟨?_, ⟨_, rfl⟩, F3.out, _, B3.out, S3.out⟩⟩
    rw [HDV.out, N3.out, Option.bind_none]
  have zf := ZF.out y3
  have cf := fun X hX1 hX2 (hX3 : Box X P t (cs.setIfInBounds o (.int .i64 y3))) Bq hne hq => Lib.hid (layflight_any P (o + 1) Bq t (cs.setIfInBounds o (.int .i64 y3)) r3 b Bb Bp X Y3.out hbB hbP hX1 hX2 hX3 zf h1 h2 h3 hne hq 4)
  refine Rx.wp_region_lex (X := fun ch Z' => Im.decParts 4 [] r3 = none ∧ Pan (.panicked ch) ∧ Rk b Bb P w Z' ∧ ∃ cs', Box Z' P t cs' ∧ cs'.size = cs.size) (by kernel_rfl) [] (by kernel_rfl) (· = w3.drew) (fun _ => True) (fun _ => True) rfl (fun W hW => ⟨trivial, trivial⟩) ?_ ?_
  · rintro a' ha' _ ch Z' ⟨hn, ⟨ss, hp⟩, hK, cs', hB', hs'⟩
    refine ⟨ha', .inr ⟨?_, ⟨ss, hp⟩, hK, cs', hB', hs'⟩⟩
    rw [HDV.out, R3.out, Option.bind_some, hn, Option.bind_none]
  repeat (first
    | (apply Rx.lex_free rfl rfl; focus (intro _; go_simp; first | done | rfl))
    | (apply Rx.lex_look rfl rfl rfl rfl; focus (intro W hW; clear hW; go_simp; first | done | rfl)))
  refine Rx.lex_make rfl (W' := w3.drew.alloc (.cells #[.pointer (some ⟨P, o + 1, none⟩), .pointer (some ⟨P, o + 2, none⟩), .pointer (some ⟨P, o + 3, none⟩), .pointer (some ⟨P, o + 4, none⟩)] 139)) (v := .slice (some ⟨w3.drew.heap.size, 0, none⟩) 4 4) ?_ ⟨trivial, trivial⟩ ?_
  focus (go_simp; first | done | rfl)
  refine Rx.lex_call (C' := fun Z' => ∃ fl r4, Im.decParts 4 [] r3 = some (fl, r4) ∧ fl.length = 4 ∧ Rd b Bb Bp r4 Z' ∧ Rk b Bb P w Z' ∧ ∃ cf', Box Z' P t cf' ∧ cf'.size = cs.size ∧ Im.Patch (cs.setIfInBounds o (.int .i64 y3)) (o + 1) (Im.i32s fl) cf') (v := .tuple #[]) (f := 89) (args := #[.func (.func 76) #[] #[.pointer (some ⟨Bp, 0, none⟩)], .slice (some ⟨w3.drew.heap.size, 0, none⟩) 4 4]) rfl ?_ ?_ ?_ ?_
  · intro Z' hZ'; clear hZ'; go_simp; first | done | rfl | exact ⟨rfl, rfl⟩
  · intro Z' hZ'
    subst hZ'
    have hs0 : b ≤ w3.heap.size := Nat.le_trans HW.out K3.out.below.size
    have KA : Rk b Bb P w (w3.drew.alloc (.cells #[.pointer (some ⟨P, o + 1, none⟩), .pointer (some ⟨P, o + 2, none⟩), .pointer (some ⟨P, o + 3, none⟩), .pointer (some ⟨P, o + 4, none⟩)] 139)) := K3.out.trans ⟨((one_below' w3).mono hs0).trans ((one_below w3.drew _).mono hs0), ((Kb.refl w3).call (one_below' w3)).call (one_below w3.drew _)⟩
    have hW := (I3.out.call (one_below' w3) hs0).call (one_below w3.drew (.cells #[.pointer (some ⟨P, o + 1, none⟩), .pointer (some ⟨P, o + 2, none⟩), .pointer (some ⟨P, o + 3, none⟩), .pointer (some ⟨P, o + 4, none⟩)] 139)) hs0
    refine (cf _ (Nat.le_trans HW.out KA.below.size) hW (P3.out.drew.alloc _) w3.drew.heap.size (by have := P3.out.drew.lt; omega) (Box.made _ _ _)).out.mono ?_
    rintro e Z2 (⟨fl, r4, hd, rfl, hI2, hK2, cf', hB2, hl, hsz, hp2⟩ | ⟨hd, ⟨ss, rfl⟩, hK2, cf', hB2, hsz⟩)
    · exact .inl ⟨rfl, fl, r4, hd, hl, hI2, KA.trans hK2, cf', hB2, by rw [hsz]; simp, hp2⟩
    · exact .inr ⟨_, rfl, hd, ⟨_, rfl⟩, KA.trans hK2, cf', hB2, by rw [hsz]; simp⟩
  · exact fun Z' hZ' => ⟨trivial, trivial⟩
  refine Rx.lex_end fun W4 hW4 => ?_
  obtain ⟨fl, r4, hd4, hl4, hI4, hK4, c4, hP4, hs4, hp4⟩ := hW4
  obtain ⟨_, _, _, _, Y4, _⟩ := Im.decParts_inv _ _ _ _ _ Y3.out hd4
  obtain ⟨xa, xb, xc, xd, rfl⟩ := four_is hl4
  have T4 := (T00.out y3).trans hp4 rfl
  have z5' : c4[o + 5]? = some (.int .i64 0) := (hp4.cell (.inr (Nat.le_refl _))).trans (Z5.out y3)
  have HT5 := Lib.hid (fun v : Int => show Im.Patch cs o (Gm.Shot.cells ⟨y3, xa, xb, xc, xd, v⟩) (c4.setIfInBounds (o + 5) (.int .i64 v)) from T4.trans (Im.Patch.one (.int .i64 v) z5') rfl)
  have c5 := Lib.hid (part_int 1 1 rfl 0 P (o + 5) t c4 r4 b Bb Bp W4 (by decide) Y4 hbB hbP (Nat.le_trans HW.out hK4.below.size) hI4 hP4 z5' h1 h2 h3)
  have p4 := hP4.cell
  have K4 := Lib.hid hK4
  have D4 := Lib.hid hd4
  have S4 := Lib.hid hs4
  clear hI4 hK4 hP4 cf zf z5' T4 hp4 p3 p2 c3 hd4 hs4
  go_wp2_with (go_at_call 67; ((with_reducible refine (c5.out).mono ?_); rintro e w5 (⟨y5, r5, hr, rfl, hI, hK, hB⟩ | ⟨hn, ⟨ss, rfl⟩, hK, cs2, hB, hs⟩); (all_goals first | (have R5 := Lib.hid hr; have P5 := Lib.hid hB; have I5 := Lib.hid hI; have K5 := Lib.hid (K4.out.trans hK); clear hr hI hK hB) | (have N5 := Lib.hid hn; have F5 := Lib.hid (K4.out.trans hK); have B5 := Lib.hid hB; have S5 := Lib.hid hs; clear hn hK hB hs))))
  · go_end0
    exact .inl ⟨⟨y3, xa, xb, xc, xd, y5⟩, r5, by rw [HDV.out, R3.out, Option.bind_some, D4.out, Option.bind_some, R5.out]; rfl, rfl, I5.out, K5.out, _, P5.out, by simp [S4.out], HT5.out y5⟩
  · refine ⟨rfl, .inr ⟨?_, ⟨_, rfl⟩, F5.out, _, B5.out, by rw [S5.out]; exact S4.out⟩⟩
    rw [HDV.out, R3.out, Option.bind_some, D4.out, Option.bind_some, N5.out, Option.bind_none]
theorem eachshot_r (b Bb Bp : Nat) (w : World) (hbB : b ≤ Bb) : EachR 71 88 6 (Value.agg #[.int .i64 0, .int .i32 0, .int .i32 0, .int .i32 0, .int .i32 0, .int .i64 0]).cells.toList Im.decShot (fun _ v C => C = v.cells) b Bb Bp w := by
  intro k S X Y bs hy hB hbS hbX hI hY hc
  refine (layshot_any S (k * 6) 88 Y bs b Bb Bp X hy hbB hbS hbX hI hY (fun j hj => by
    rw [hc j hj]
    match j, hj with
    | 0, _ | 1, _ | 2, _ | 3, _ | 4, _ | 5, _ => rfl) (by decide) (by decide) (by decide)).mono ?_
  rintro e w' (⟨v, rest, hr, rfl, hI', hK, Y', hB', hs, hp⟩ | ⟨hn, hp, hK, _⟩)
  · exact .inl ⟨v, rest, v.cells, hr, rfl, Im.decShot_bytes hy hr, hI', hK, rfl, rfl, Y', hB', hp⟩
  · exact .inr ⟨hn, hp, hK⟩
theorem layshotl_any (B : Nat) (t : TypeId) (cs : Array Value) (bs : List Int) (b Bb Bp : Nat) (w : World) (hBy : Im.IsBytes bs) (hbB : b ≤ Bb) (hbP : b ≤ B) (hbw : b ≤ w.heap.size) (h : Rd b Bb Bp bs w) (hP : Box w B t cs)
    (ho : cs[58]? = some (.slice none 0 0)) (h1 : t ≠ 36) (h2 : t ≠ 5) (h3 : t ≠ 82) (h4 : t ≠ 88) :
    Calls Try.prog 70 #[.func (.func 76) #[] #[.pointer (some ⟨Bp, 0, none⟩)], .int .i64 1, .pointer (some ⟨B, 58, none⟩), .func (.func 71) #[] #[]] w (GotRow b Bb Bp B t cs bs w) := by
  refine (listzsh_r Im.decShot (fun _ v C => C = v.cells) 1 1 rfl B 58 t cs bs b Bb Bp w hBy (by decide) hbB hbP hbw h hP ho h1 h2 h3 (fun _ _ _ _ _ _ _ _ h => h) (fun _ _ _ _ _ _ _ h => h) (eachshot_r b Bb Bp w hbB)).mono ?_
  rintro e w' (⟨l, rest, S, Cs, hD, rfl, hy, hI, hK, hS, hB, hE, hA⟩ | ⟨hD, hp, hK, hB⟩)
  · exact .inl ⟨l, rest, S, by rw [Im.decRow_list]; exact hD, rfl, hI, hK, hB, by rw [← Im.allgood_shots hA]; exact hE⟩
  · exact .inr ⟨by rw [Im.decRow_list]; exact hD, hp, hK, _, hB, rfl⟩
end Go.Proofs.Ytghomofakpjglaa
namespace Go.Proofs.Ytghomofakpjglaa
open Go.RowKit Go.Shelf
set_option linter.unusedVariables false
set_option linter.unusedSimpArgs false

theorem patch_unique {cs a b : Array Value} {o : Nat} {l : List Value} (h : Im.Patch cs o l a) (k : Im.Patch cs o l b) : a = b := Array.ext_getElem? fun j => (h j).trans (k j).symm
theorem Im.patch_ship (g : Gm.G) (s : Value) (r : Ros.R) (k : Nat) (hk : k < 8) (t : Gm.Ship) : Im.Patch (Im.cells g s r) (2 + k * 7) t.cells (Im.cells { g with ship := Gm.upd g.ship k t } s r) := by
  have e : ∀ (cs : Array Value) (i : Nat) (v : Value), i < 59 → cs.size = 59 → (cs ++ Ros.cells r).setIfInBounds i v = cs.setIfInBounds i v ++ Ros.cells r := fun cs i v hi hc => by rw [Array.setIfInBounds_append, if_pos (by omega)]
  have c := fun j hj => Im.cells_ship g s r k j hk hj
  have c0 := c 0 (by omega)
  have c1 := c 1 (by omega)
  have c2 := c 2 (by omega)
  have c3 := c 3 (by omega)
  have c4 := c 4 (by omega)
  have c5 := c 5 (by omega)
  have c6 := c 6 (by omega)
  simp only [Gm.Ship.cells, List.getElem?_cons_zero, List.getElem?_cons_succ, Nat.add_zero] at c0 c1 c2 c3 c4 c5 c6
  have T0 := Im.Patch.one (.bool t.on) c0
  have T1 := T0.trans (Im.Patch.one (o := 2 + k * 7 + 1) (.int .i32 t.x) ((T0.cell (.inr (Nat.le_refl _))).trans c1)) rfl
  have T2 := T1.trans (Im.Patch.one (o := 2 + k * 7 + 2) (.int .i32 t.y) ((T1.cell (.inr (Nat.le_refl _))).trans c2)) rfl
  have T3 := T2.trans (Im.Patch.one (o := 2 + k * 7 + 3) (.int .i32 t.vx) ((T2.cell (.inr (Nat.le_refl _))).trans c3)) rfl
  have T4 := T3.trans (Im.Patch.one (o := 2 + k * 7 + 4) (.int .i32 t.vy) ((T3.cell (.inr (Nat.le_refl _))).trans c4)) rfl
  have T5 := T4.trans (Im.Patch.one (o := 2 + k * 7 + 5) (.int .i64 t.cool) ((T4.cell (.inr (Nat.le_refl _))).trans c5)) rfl
  have T6 := T5.trans (Im.Patch.one (o := 2 + k * 7 + 6) (.int .i64 t.score) ((T5.cell (.inr (Nat.le_refl _))).trans c6)) rfl
  unfold Im.cells at T6 ⊢
  rw [e _ _ _ (by omega) (by simp [Gm.cells_size]), e _ _ _ (by omega) (by simp [Gm.cells_size]), e _ _ _ (by omega) (by simp [Gm.cells_size]), e _ _ _ (by omega) (by simp [Gm.cells_size]), e _ _ _ (by omega) (by simp [Gm.cells_size]), e _ _ _ (by omega) (by simp [Gm.cells_size]), e _ _ _ (by omega) (by simp [Gm.cells_size]), set7 g s k hk t] at T6
  exact T6
theorem Im.cells_seat' (g : Gm.G) (s : Value) (q : Ros.R) (k : Nat) (hk : k < 8) (p n : Int) : ((Im.cells g s q).setIfInBounds (60 + k * 2) (.int .i64 p)).setIfInBounds (60 + k * 2 + 1) (.int .i64 n) = Im.cells g s (Im.setSeat q k p n) := by
  rw [show 60 + k * 2 = 59 + (1 + k * 2) by omega, Im.cells_set_r, Ros.cells_setp _ k hk]
  rw [show 59 + (1 + k * 2) + 1 = 59 + (1 + k * 2 + 1) by omega]
  have := Im.cells_set_r g s { q with peer := Ros.upd q.peer k p } (1 + k * 2 + 1) (.int .i64 n)
  unfold Im.cells at this ⊢
  rw [this, Ros.cells_setg _ k hk]
  rfl
def GotIm (b Bb Bp B : Nat) (bs : List Int) (w : World) (e : Ending) (w' : World) : Prop :=
  (∃ g r rest S, Im.dec bs = some ((g, r), rest) ∧ e = .returned (.tuple #[]) ∧ Rd b Bb Bp rest w' ∧ Rk b Bb B w w' ∧ Box w' B 35 (Im.cells g (.slice (some ⟨S, 0, none⟩) g.shots.length g.shots.length) r) ∧ Box w' S 88 (Gm.shotCells g.shots).toArray) ∨
  (Im.dec bs = none ∧ Pan e ∧ Rk b Bb B w w' ∧ ∃ cs', Box w' B 35 cs' ∧ cs'.size = 76)

set_option maxRecDepth 100000 in
set_option maxHeartbeats 8000000 in
theorem laystate_any (Z : Array Value) (hZ : Z = Im.cells Im.G0 (.slice none 0 0) Im.R0) (B : Nat) (bs : List Int) (b Bb Bp : Nat) (w : World) (hBy : Im.IsBytes bs) (hbB : b ≤ Bb) (hbP : b ≤ B) (hbw : b ≤ w.heap.size) (h : Rd b Bb Bp bs w) (hP : Box w B 35 Z) :
    Calls Try.prog 39 #[.func (.func 76) #[] #[.pointer (some ⟨Bp, 0, none⟩)], .pointer (some ⟨B, 0, none⟩)] w (GotIm b Bb Bp B bs w) := by
  have zs : Z.size = 76 := by rw [hZ]; exact Im.cells_size _ _ _
  have z0 : Z[0]? = some (.int .i64 0) := by rw [hZ]; exact (Im.cells_g _ _ _ 0 (by omega)).trans (Gm.cells_0 _ _)
  have z1 : ∀ v, (Z.setIfInBounds 0 v)[1]? = some (.int .u64 0) := fun v => by rw [Array.getElem?_setIfInBounds_ne (by omega), hZ]; exact (Im.cells_g _ _ _ 1 (by omega)).trans (Gm.cells_1 _ _)
  have z2 : ∀ f d : Int, (Z.setIfInBounds 0 (.int .i64 f)).setIfInBounds 1 (.int .u64 d) = Im.cells ⟨f, d, Im.ships0, []⟩ (.slice none 0 0) Im.R0 := fun f d => by rw [hZ, Im.cells_frame, Im.cells_dice]; rfl
  have c1 := Lib.hid (part_int 4 4 rfl 0 B 0 35 Z bs b Bb Bp w (by decide) hBy hbB hbP hbw h hP z0 (by decide) (by decide) (by decide))
  have c2 := fun v bs' X hy hX1 hX2 hX3 => Lib.hid (part_u64 8 8 rfl 0 B 1 35 (Z.setIfInBounds 0 v) bs' b Bb Bp X (by decide) hy hbB hbP hX1 hX2 hX3 (z1 v) (by decide) (by decide) (by decide))
  have HW := Lib.hid hbw
  have HY := Lib.hid hBy
  have HZ2 := Lib.hid z2
  have HZS := Lib.hid zs
  have ltP := hP.lt
  have HD := Lib.hid (show Im.dec bs = (Im.rdn 4 bs).bind fun f => (Im.rdn 8 f.2).bind fun d => (Im.decShips 0 8 Im.ships0 d.2).bind fun s => (Im.decRow s.2).bind fun l => (Im.rdn 4 l.2).bind fun v => (Im.decSeats 0 8 { Im.R0 with version := v.1 } v.2).bind fun r => some ((⟨f.1, d.1, s.1, l.1⟩, r.1), r.2) from rfl)
  clear h hP hbw hBy hZ z0 z1 z2 zs
  go_enter Try.func39, Try.ntmps39
  go_upto_region 2 with (first | (go_at_call 67; ((with_reducible refine (c1.out).mono ?_); rintro e w1 (⟨f, r1, hr, rfl, hI, hK, hB⟩ | ⟨hn, ⟨ss, rfl⟩, hK, cs2, hB, hs⟩); (all_goals first | (have R1 := Lib.hid hr; have Y1 := Lib.hid (Im.rdn_inv HY.out hr).2.2.2; have P1 := Lib.hid hB; have I1 := Lib.hid hI; have K1 := Lib.hid hK; clear hr hI hK hB c1) | (have N1 := Lib.hid hn; have F1 := Lib.hid hK; have G1 := Lib.hid hB; have S1 := Lib.hid hs; clear hn hK hB hs c1)))) | (go_at_call 68; ((with_reducible refine ((c2 _ _ _ Y1.out (Nat.le_trans HW.out K1.out.below.size) I1.out P1.out).out).mono ?_); rintro e w2 (⟨d, r2, hr, rfl, hI, hK, hB⟩ | ⟨hn, ⟨ss, rfl⟩, hK, cs2, hB, hs⟩); (all_goals first | (have R2 := Lib.hid hr; have Y2 := Lib.hid (Im.rdn_inv Y1.out hr).2.2.2; (have e2 := HZ2.out f d); have P2 := Lib.hid (e2 ▸ hB : Box w2 B 35 (Im.cells ⟨f, d, Im.ships0, []⟩ (.slice none 0 0) Im.R0)); clear e2; have I2 := Lib.hid hI; have K2 := Lib.hid (K1.out.trans hK); clear hr hI hK hB c2) | (have N2 := Lib.hid hn; have F2 := Lib.hid (K1.out.trans hK); have G2 := Lib.hid hB; have S2 := Lib.hid hs; clear hn hK hB hs c2)))))
  rotate_left
  iterate 2
    · first
        | (refine ⟨rfl, .inr ⟨?_, ⟨_, rfl⟩, F2.out, _, G2.out, by rw [S2.out]; simp [HZS.out]⟩⟩
           rw [HD.out, R1.out, Option.bind_some, N2.out, Option.bind_none])
        | (refine ⟨rfl, .inr ⟨?_, ⟨_, rfl⟩, F1.out, _, G1.out, by rw [S1.out]; simp [HZS.out]⟩⟩
           rw [HD.out, N1.out, Option.bind_none])
  have HD2 := Lib.hid (show Im.dec bs = (Im.decShips 0 8 Im.ships0 r2).bind fun s => (Im.decRow s.2).bind fun l => (Im.rdn 4 l.2).bind fun v => (Im.decSeats 0 8 { Im.R0 with version := v.1 } v.2).bind fun r => some ((⟨f, d, s.1, l.1⟩, r.1), r.2) by rw [HD.out, R1.out, Option.bind_some, R2.out, Option.bind_some])
  skip
  go_wp2
  go_loopw [18] (fun i wr => ∃ (k : Nat) (s : Nat → Gm.Ship) (bs' : List Int), k ≤ 8 ∧ i = .int .i64 k ∧ Im.IsBytes bs' ∧ Im.decShips 0 8 Im.ships0 r2 = Im.decShips k (8 - k) s bs' ∧ (∀ j, k ≤ j → s j = Gm.Ship.none) ∧ Rd b Bb Bp bs' wr ∧ Rk b Bb B w wr ∧ Box wr B 35 (Im.cells ⟨f, d, s, []⟩ (.slice none 0 0) Im.R0)) (fun i _ => 8 - (intOf i).toNat)
  case atStart => exact ⟨0, Im.ships0, r2, by omega, rfl, Y2.out, rfl, fun _ _ => rfl, I2.out, K2.out, P2.out⟩
  case round =>
    obtain ⟨k, s, bs', hk, rfl, hy, hdec, hz, hI, hK, hB⟩ := hrel
    clear I1 P1 K1 I2 P2 K2
    by_cases hlt : k < 8
    · have hk8 : (k : Int) < 8 := by omega
      rw [show 8 - k = (8 - (k + 1)) + 1 by omega] at hdec
      have hsk := hz k (Nat.le_refl _)
      have hcell := fun j hj => Im.cells_ship ⟨f, d, s, []⟩ (.slice none 0 0) Im.R0 k j hlt hj
      have hp := fun t => Lib.hid (Im.patch_ship ⟨f, d, s, []⟩ (.slice none 0 0) Im.R0 k hlt t)
      have hsize := Im.cells_size ⟨f, d, s, []⟩ (.slice none 0 0) Im.R0
      rw [show Gm.G.ship ⟨f, d, s, []⟩ k = Gm.Ship.none from hsk] at hcell
      have HN := Lib.hid (show Im.decShips 0 8 Im.ships0 r2 = (Im.decShip bs').bind fun q => Im.decShips (k + 1) (8 - (k + 1)) (Gm.upd s k q.1) q.2 from hdec)
      obtain ⟨C, hC⟩ : ∃ C, C = Im.cells ⟨f, d, s, []⟩ (.slice none 0 0) Im.R0 := ⟨_, rfl⟩
      rw [← hC] at hB hcell hsize
      simp only [← hC] at hp
      have c3 := Lib.hid (layship_any B (2 + k * 7) 35 C bs' b Bb Bp wr hy hbB hbP (Nat.le_trans HW.out hK.below.size) hI hB (hcell 0 (by omega)) (fun j hj => by
        have := hcell (1 + j) (by omega)
        rw [← Nat.add_assoc] at this
        rw [this]
        match j, hj with
        | 0, _ | 1, _ | 2, _ | 3, _ => rfl) (hcell 5 (by omega)) (hcell 6 (by omega)) (by decide) (by decide) (by decide))
      have HK := Lib.hid hK
      have YY := Lib.hid hy
      have HZN := Lib.hid hz
      have HSZ := Lib.hid hsize
      clear hI hK hB hcell hdec hy hz hsk hC hsize
      go_wp2_with (go_at_call 69; ((with_reducible refine (c3.out).mono ?_); rintro e w4 (⟨v, r4, hr, rfl, hI, hK, cs', hB, hsz, hpt⟩ | ⟨hn, ⟨ss, rfl⟩, hK, cs', hB, hs⟩); (all_goals first | (have R4 := Lib.hid hr; have I4 := Lib.hid hI; have K4 := Lib.hid (HK.out.trans hK); rw [patch_unique hpt (hp v).out] at hB; have P4 := Lib.hid hB; clear hr hI hK hB hsz hpt) | (have N4 := Lib.hid hn; have F4 := Lib.hid (HK.out.trans hK); have G4 := Lib.hid hB; have S4 := Lib.hid hs; clear hn hK hB hs))))
      · go_roundw
        case rel => exact ⟨k + 1, Gm.upd s k v, r4, by omega, by go_num, (Im.decShip_inv YY.out R4.out).2.1, by rw [HN.out, R4.out, Option.bind_some], fun j hj => by rw [Gm.upd_other _ _ (by omega)]; exact HZN.out j (by omega), I4.out, K4.out, P4.out⟩
        case measure => simp [intOf]; omega
      · refine ⟨rfl, .inr ⟨?_, ⟨_, rfl⟩, F4.out, _, G4.out, by rw [S4.out, HSZ.out]⟩⟩
        rw [HD2.out, HN.out, N4.out, Option.bind_none, Option.bind_none]
    · have hk8 : ¬ (k : Int) < 8 := by omega
      obtain rfl : k = 8 := by omega
      have HD3 := Lib.hid (show Im.dec bs = (Im.decRow bs').bind fun l => (Im.rdn 4 l.2).bind fun v => (Im.decSeats 0 8 { Im.R0 with version := v.1 } v.2).bind fun r => some ((⟨f, d, s, l.1⟩, r.1), r.2) by rw [HD2.out, hdec]; rfl)
      have c5 := Lib.hid (layshotl_any B 35 _ bs' b Bb Bp wr hy hbB hbP (Nat.le_trans HW.out hK.below.size) hI hB ((Im.cells_g _ _ _ 58 (by omega)).trans (Gm.cells_58 _ _)) (by decide) (by decide) (by decide) (by decide))
      have hset := fun l : List Gm.Shot => fun S => Lib.hid (show (Im.cells ⟨f, d, s, []⟩ (.slice none 0 0) Im.R0).setIfInBounds 58 (.slice (some ⟨S, 0, none⟩) l.length l.length) = Im.cells ⟨f, d, s, l⟩ (.slice (some ⟨S, 0, none⟩) l.length l.length) Im.R0 by rw [Im.cells_shots']; rfl)
      have hsize := Lib.hid (Im.cells_size ⟨f, d, s, []⟩ (.slice none 0 0) Im.R0)
      have HK := Lib.hid hK
      have YY := Lib.hid hy
      clear hI hK hB hdec hy hz
      go_upto_region 8 with (go_at_call 70; ((with_reducible refine (c5.out).mono ?_); rintro e w6 (⟨l, r6, S, hr, rfl, hI, hK, hB, hS⟩ | ⟨hn, ⟨ss, rfl⟩, hK, cs', hB, hs⟩); (all_goals first | (have R6 := Lib.hid hr; rw [(hset l S).out] at hB; have I6 := Lib.hid hI; have P6 := Lib.hid hB; have S6 := Lib.hid hS; have K6 := Lib.hid (HK.out.trans hK); clear hr hI hK hB hS) | (have N6 := Lib.hid hn; have F6 := Lib.hid (HK.out.trans hK); have G6 := Lib.hid hB; have Z6 := Lib.hid hs; clear hn hK hB hs))))
      rotate_left
      · refine ⟨rfl, .inr ⟨?_, ⟨_, rfl⟩, F6.out, _, G6.out, by rw [Z6.out, hsize.out]⟩⟩
        rw [HD3.out, N6.out, Option.bind_none]
      have hY6 : Hid (Im.IsBytes r6) := Lib.hid (by
        have hr := R6.out
        unfold Im.decRow at hr
        obtain ⟨⟨n, b4⟩, h5, he⟩ := Option.bind_eq_some_iff.1 hr
        obtain ⟨_, _, _, _, h6, _⟩ := Im.decShots_inv _ _ _ _ _ (Im.rdn_inv YY.out h5).2.2.2 he
        exact h6)
      have HD4 := Lib.hid (show Im.dec bs = (Im.rdn 4 r6).bind fun v => (Im.decSeats 0 8 { Im.R0 with version := v.1 } v.2).bind fun r => some ((⟨f, d, s, l⟩, r.1), r.2) by rw [HD3.out, R6.out, Option.bind_some])
      have hne6 : Hid (S ≠ B) := Lib.hid (Box.apart S6.out P6.out (by decide))
      obtain ⟨g, hg⟩ : ∃ g : Gm.G, g = ⟨f, d, s, l⟩ := ⟨_, rfl⟩
      have HL := Lib.hid (show g.shots = l by rw [hg])
      rw [← hg] at P6 HD4
      have e59 : ∀ sl, (Im.cells g sl Im.R0)[59]? = some (.int .i64 0) := fun sl => (Im.cells_r _ _ _ 0).trans (Ros.cells_0 _)
      have c7 := Lib.hid (part_int 4 4 rfl 0 B 59 35 _ r6 b Bb Bp w6 (by decide) hY6.out hbB hbP (Nat.le_trans HW.out K6.out.below.size) I6.out P6.out (e59 _) (by decide) (by decide) (by decide))
      have hsv := fun sl v => Lib.hid (Im.cells_version g sl Im.R0 v)
      have hsz2 := fun sl r => Lib.hid (Im.cells_size g sl r)
      clear e59 c5 hset hg HD HD2 HD3
      go_upto_region 9 with (go_at_call 67; ((with_reducible refine (c7.out).mono ?_); rintro e w7 (⟨v, r7, hr, rfl, hI, hK, hB⟩ | ⟨hn, ⟨ss, rfl⟩, hK, cs2, hB, hs⟩); (all_goals first | (have R7 := Lib.hid hr; have Y7 := Lib.hid (Im.rdn_inv hY6.out hr).2.2.2; have P7 := Lib.hid ((hsv _ v).out ▸ hB : Box w7 B 35 (Im.cells g (.slice (some ⟨S, 0, none⟩) l.length l.length) { Im.R0 with version := v })); have I7 := Lib.hid hI; have K7 := Lib.hid (K6.out.trans hK); have S7 := Lib.hid (hK.kb _ _ _ S6.out hne6.out (by decide) (by decide)); clear hr hI hK hB) | (have N7 := Lib.hid hn; have F7 := Lib.hid (K6.out.trans hK); have G7 := Lib.hid hB; have Z7 := Lib.hid hs; clear hn hK hB hs))))
      rotate_left
      · refine ⟨rfl, .inr ⟨?_, ⟨_, rfl⟩, F7.out, _, G7.out, by rw [Z7.out, (hsz2 _ _).out]⟩⟩
        rw [HD4.out, N7.out, Option.bind_none]
      have HD5 := Lib.hid (show Im.dec bs = (Im.decSeats 0 8 { Im.R0 with version := v } r7).bind fun r => some ((g, r.1), r.2) by rw [HD4.out, R7.out, Option.bind_some])
      clear c7
      go_wp2
      go_loopw [42] (fun i wx => ∃ (k : Nat) (q : Ros.R) (bs' : List Int), k ≤ 8 ∧ i = .int .i64 k ∧ Im.IsBytes bs' ∧ Im.decSeats 0 8 { Im.R0 with version := v } r7 = Im.decSeats k (8 - k) q bs' ∧ (∀ j, k ≤ j → q.peer j = 0 ∧ q.gen j = 0) ∧ Rd b Bb Bp bs' wx ∧ Rk b Bb B w wx ∧ Box wx B 35 (Im.cells g (.slice (some ⟨S, 0, none⟩) l.length l.length) q) ∧ Box wx S 88 (Gm.shotCells l).toArray) (fun i _ => 8 - (intOf i).toNat)
      case atStart => exact ⟨0, { Im.R0 with version := v }, r7, by omega, rfl, Y7.out, rfl, fun _ _ => ⟨rfl, rfl⟩, I7.out, K7.out, P7.out, S7.out⟩
      case round =>
        obtain ⟨k, q, bs', hk, rfl, hy, hdec, hz, hI, hK, hB, hS⟩ := hrel
        clear I7 P7 K7 S7 I6 P6 K6 S6
        by_cases hlt : k < 8
        · have hk8 : (k : Int) < 8 := by omega
          rw [show 8 - k = (8 - (k + 1)) + 1 by omega] at hdec
          have hzk := hz k (Nat.le_refl _)
          have ep : ∀ sl, (Im.cells g sl q)[60 + k * 2]? = some (.int .i64 0) := fun sl => by rw [Im.cells_peer _ _ _ k hlt, hzk.1]
          have eg : ∀ sl, (Im.cells g sl q)[60 + k * 2 + 1]? = some (.int .i64 0) := fun sl => by rw [Im.cells_gen _ _ _ k hlt, hzk.2]
          have c8 := Lib.hid (layseat_any B (60 + k * 2) 35 _ bs' b Bb Bp wr hy hbB hbP (Nat.le_trans HW.out hK.below.size) hI hB (ep _) (eg _) (by decide) (by decide) (by decide))
          have hset := fun sl p n => Lib.hid (Im.cells_seat' g sl q k hlt p n)
          have HN := Lib.hid (show Im.decSeats 0 8 { Im.R0 with version := v } r7 = (Im.decSeat bs').bind fun x => Im.decSeats (k + 1) (8 - (k + 1)) (Im.setSeat q k x.1.1 x.1.2) x.2 from hdec)
          have HK := Lib.hid hK
          have YY := Lib.hid hy
          have HZN := Lib.hid hz
          have HS := Lib.hid hS
          clear hI hK hB ep eg hdec hy hz hzk hS
          go_wp2_with (go_at_call 72; ((with_reducible refine (c8.out).mono ?_); rintro e w9 (⟨⟨p, n⟩, r9, hr, rfl, hI, hK, hB⟩ | ⟨hn, ⟨ss, rfl⟩, hK, cs2, hB, hs⟩); (all_goals first | (have R9 := Lib.hid hr; have I9 := Lib.hid hI; have K9 := Lib.hid (HK.out.trans hK); have P9 := Lib.hid ((hset _ p n).out ▸ hB : Box w9 B 35 (Im.cells g (.slice (some ⟨S, 0, none⟩) l.length l.length) (Im.setSeat q k p n))); have S9 := Lib.hid (hK.kb _ _ _ HS.out hne6.out (by decide) (by decide)); clear hr hI hK hB) | (have N9 := Lib.hid hn; have F9 := Lib.hid (HK.out.trans hK); have G9 := Lib.hid hB; have Z9 := Lib.hid hs; clear hn hK hB hs))))
          · go_roundw
            case rel => exact ⟨k + 1, Im.setSeat q k p n, r9, by omega, by go_num, (Im.decSeat_inv YY.out R9.out).2, by rw [HN.out, R9.out, Option.bind_some], fun j hj => by
              have e3 : (Im.setSeat q k p n).peer j = q.peer j := Ros.upd_other _ _ (by omega)
              have e4 : (Im.setSeat q k p n).gen j = q.gen j := Ros.upd_other _ _ (by omega)
              rw [e3, e4]
              exact HZN.out j (by omega), I9.out, K9.out, P9.out, S9.out⟩
            case measure => simp [intOf]; omega
          · refine ⟨rfl, .inr ⟨?_, ⟨_, rfl⟩, F9.out, _, G9.out, by rw [Z9.out, (hsz2 _ _).out]⟩⟩
            rw [HD5.out, HN.out, N9.out, Option.bind_none, Option.bind_none]
        · have hk8 : ¬ (k : Int) < 8 := by omega
          obtain rfl : k = 8 := by omega
          have HI := Lib.hid hI
          have HK := Lib.hid hK
          have HBB := Lib.hid hB
          have HS := Lib.hid hS
          have HE := Lib.hid (show Im.dec bs = some ((g, q), bs') by rw [HD5.out, hdec]; rfl)
          clear hI hK hB hdec hS
          go_wp2
          go_end0
          exact .inl ⟨g, q, bs', S, HE.out, rfl, HI.out, HK.out, by rw [HL.out]; exact HBB.out, by rw [HL.out]; exact HS.out⟩
end Go.Proofs.Ytghomofakpjglaa
namespace Go.Proofs.Ytghomofakpjglaa
open Go.RowKit Go.Shelf
set_option linter.unusedVariables false
set_option linter.unusedSimpArgs false

theorem Im.get_no {bs : List Int} (h : Im.dec bs = none) : Im.get bs = none := by unfold Im.get; rw [h]; rfl
theorem Im.get_left {bs rest : List Int} {g : Gm.G} {q : Ros.R} (h : Im.dec bs = some ((g, q), rest)) (hn : ¬ (rest = [] ∧ Im.Ok g q)) : Im.get bs = none := by unfold Im.get; rw [h, Option.bind_some, if_neg hn]
theorem Im.get_all {bs rest : List Int} {g : Gm.G} {q : Ros.R} (h : Im.dec bs = some ((g, q), rest)) (hn : rest = [] ∧ Im.Ok g q) : Im.get bs = some (g, q) := by unfold Im.get; rw [h, Option.bind_some, if_pos hn]
theorem lies_boxed {W : World} {S n size : Nat} {t : TypeId} {xs : List Value} (h : Box W S t xs.toArray) (hl : xs.length = n * size) : Lies W W.heap.size size (some ⟨S, 0, none⟩) n xs :=
  ⟨hl, fun _ => ⟨_, rfl, h.lt⟩, fun ad e _ j u hj => by
    injection e with e
    subst e
    have hadd : (⟨S, 0, none⟩ : Addr).add j = ⟨S, j, none⟩ := by unfold Addr.add; split <;> simp_all
    rw [hadd, h.cell j, ← hj]
    simp⟩

/-- What Get says of bytes. -/
def SaysIm (bs : List Int) (w : World) (r : Ending) (w' : World) : Prop :=
  (∃ g q S, Im.get bs = some (g, q) ∧ r = .returned (.tuple #[.agg (Im.cells g (.slice (some ⟨S, 0, none⟩) g.shots.length g.shots.length) q), .int .i64 0]) ∧ Box w' S 88 (Gm.shotCells g.shots).toArray ∧ Below w.heap.size w w') ∨
  (Im.get bs = none ∧ r = .returned (.tuple #[.agg Im.zero, .int .i64 2]) ∧ Below w.heap.size w w')

set_option maxRecDepth 100000 in
set_option maxHeartbeats 4000000 in
theorem imget_any (bs : List Int) (A : Option Addr) (n c : Nat) (w : World) (hn : n = bs.length) (hc : n ≤ c) (hBy : Im.IsBytes bs) (hL : Lies w w.heap.size 1 A n (Im.u8s bs)) :
    Calls Try.prog 17 #[.slice A n c] w (SaysIm bs w) := by
  have hmf : ∀ (fn : Fn) (first cap : Array Value) (w : World), (Instr.makeFunc fn first cap).run Try.prog w = .ok (.func fn first cap) w := fun _ _ _ _ => rfl
  have V1 := Lib.hid (((Box.made w 36 #[.slice A n c]).alloc (.cells Im.zero 35)).alloc (.cells #[.int .i64 0] 3))
  have B1 := Lib.hid ((Box.made_at (n := w.heap.size + 1) (w.alloc (.cells #[.slice A n c] 36)) 35 Im.zero (by simp)).alloc (.cells #[.int .i64 0] 3))
  have C1 := Lib.hid (Box.made_at (n := w.heap.size + 1 + 1) ((w.alloc (.cells #[.slice A n c] 36)).alloc (.cells Im.zero 35)) 3 #[.int .i64 0] (by simp))
  have K1 := Lib.hid ((((Below.refl w.heap.size w).alloc (Nat.le_refl _) (.cells #[.slice A n c] 36)).alloc (by simp) (.cells Im.zero 35)).alloc (by simp <;> omega) (.cells #[.int .i64 0] 3))
  have B2 := Lib.hid (B1.out.alloc (.cells #[.pointer (some ⟨w.heap.size, 0, none⟩)] 82))
  have C2 := Lib.hid (C1.out.alloc (.cells #[.pointer (some ⟨w.heap.size, 0, none⟩)] 82))
  have V2 := Lib.hid (V1.out.alloc (.cells #[.pointer (some ⟨w.heap.size, 0, none⟩)] 82))
  have K2 := Lib.hid (K1.out.alloc K1.out.size (.cells #[.pointer (some ⟨w.heap.size, 0, none⟩)] 82))
  have P2 := Box.made_at (n := w.heap.size + 1 + 1 + 1) (((w.alloc (.cells #[.slice A n c] 36)).alloc (.cells Im.zero 35)).alloc (.cells #[.int .i64 0] 3)) 82 #[.pointer (some ⟨w.heap.size, 0, none⟩)] (by simp)
  have L2 := hL.below K2.out
  have RD : Rd w.heap.size w.heap.size (w.heap.size + 1 + 1 + 1) bs _ := ⟨P2, A, c, by rw [← hn]; exact V2.out, by rw [← hn]; exact hc, by rw [← hn]; exact L2⟩
  have cl := Lib.hid (laystate_any Im.zero rfl (w.heap.size + 1) bs w.heap.size w.heap.size _ _ hBy (Nat.le_refl _) (Nat.le_succ _) K2.out.size RD B2.out)
  have HY := Lib.hid hBy
  clear hn hL L2 RD P2 hBy
  go_enter_defers Try.func17, Try.ntmps17
  go_upto_region 3 with (first | (with_reducible refine alloc_state rfl rfl ?_) | (go_at_call 46; ((with_reducible refine (reader_any _ _).mono ?_); rintro e w3 ⟨rfl, rfl⟩)) | (go_at_call 39; ((with_reducible refine (cl.out).mono ?_); rintro r w4 (⟨g, q, rest, S, hr, rfl, hI, hK, hB, hE⟩ | ⟨hn, ⟨ss, rfl⟩, hK, cs', hB, hs⟩); (all_goals first | (obtain ⟨_, A4, c4, hV, _, _⟩ := hI; have R4 := Lib.hid hr; have v4 := hV.cell 0; have B4 := Lib.hid hB; have E4 := Lib.hid hE; have C4 := Lib.hid (hK.kb _ _ _ C2.out (by omega) (by decide) (by decide)); have K4 := Lib.hid (K2.out.trans hK.below); clear hr hV hB hK hE cl) | (have N4 := Lib.hid hn; have B4 := Lib.hid hB; have S4 := Lib.hid hs; have C4 := Lib.hid (hK.kb _ _ _ C2.out (by omega) (by decide) (by decide)); have K4 := Lib.hid (K2.out.trans hK.below); clear hn hB hK hs cl)))))
  rotate_left
  · refine leaves_cons (f := 45) (args := #[.pointer (some ⟨w.heap.size + 1, 0, none⟩), .pointer (some ⟨w.heap.size + 1 + 1, 0, none⟩)]) (by simp) (by simp [go_sem]) ?_
    refine (catch_get (w.heap.size + 1) (w.heap.size + 1 + 1) _ _ [] _ _ S4.out B4.out _ C4.out).mono ?_
    rintro r u' w'' ⟨rfl, rfl, rfl⟩
    have B8 := (B4.out.row Im.zero).far (p := ⟨w.heap.size + 1 + 1, 0, none⟩) (show w.heap.size + 1 ≠ w.heap.size + 1 + 1 by omega) (.int .i64 2)
    have C8 := (C4.out.row_far (show w.heap.size + 1 + 1 ≠ w.heap.size + 1 by omega) Im.zero).put 0 (.int .i64 2)
    have K8 := (Below.setRow' (g := w.heap.size + 1) K4.out (Nat.le_succ _) Im.zero).setCell (p := ⟨w.heap.size + 1 + 1, 0, none⟩) (by show w.heap.size ≤ w.heap.size + 1 + 1; omega) (.int .i64 2)
    have hr := fun (tmps : Array Value) h1 h2 => results_cells2 (fn := Try.f17) (p := 2) (q := 3) rfl tmps _ (w.heap.size + 1) (w.heap.size + 1 + 1) 35 Im.zero _ 2 h1 h2 B8 (by simpa using C8) Try.underlying35 rfl (by rw [Im.zero_size]; exact state_info)
    show Leaves Try.prog _ _ _ [] .returning _
    exact ⟨_, hr _ rfl rfl, .inr ⟨Im.get_no N4.out, rfl, K8⟩⟩
  have HDI := Lib.hid (Im.dec_inv HY.out R4.out)
  have ltS := E4.out.lt
  clear V1 B1 C1 K1 B2 C2 V2 K2
  cases hrest : rest with
  | cons x xs =>
    have HNE := Lib.hid (show ¬ (rest = [] ∧ Im.Ok g q) from fun h => by rw [hrest] at h; cases h.1)
    have hl0 : ((rest.length : Int) == 0) = false := by rw [hrest]; simp; omega
    generalize rest.length = m at *
    clear hrest
    go_wp2_with (go_at_call 37; ((with_reducible refine (need_no _ _).mono ?_); rintro r wn ⟨rfl, rfl⟩))
    refine leaves_cons (f := 45) (args := #[.pointer (some ⟨w.heap.size + 1, 0, none⟩), .pointer (some ⟨w.heap.size + 1 + 1, 0, none⟩)]) (by simp) (by simp [go_sem]) ?_
    refine (catch_get (w.heap.size + 1) (w.heap.size + 1 + 1) _ _ [] _ _ (Im.cells_size _ _ _) B4.out _ C4.out).mono ?_
    rintro r u' w'' ⟨rfl, rfl, rfl⟩
    have B8 := (B4.out.row Im.zero).far (p := ⟨w.heap.size + 1 + 1, 0, none⟩) (show w.heap.size + 1 ≠ w.heap.size + 1 + 1 by omega) (.int .i64 2)
    have C8 := (C4.out.row_far (show w.heap.size + 1 + 1 ≠ w.heap.size + 1 by omega) Im.zero).put 0 (.int .i64 2)
    have K8 := (Below.setRow' (g := w.heap.size + 1) K4.out (Nat.le_succ _) Im.zero).setCell (p := ⟨w.heap.size + 1 + 1, 0, none⟩) (by show w.heap.size ≤ w.heap.size + 1 + 1; omega) (.int .i64 2)
    have hr := fun (tmps : Array Value) h1 h2 => results_cells2 (fn := Try.f17) (p := 2) (q := 3) rfl tmps _ (w.heap.size + 1) (w.heap.size + 1 + 1) 35 Im.zero _ 2 h1 h2 B8 (by simpa using C8) Try.underlying35 rfl (by rw [Im.zero_size]; exact state_info)
    show Leaves Try.prog _ _ _ [] .returning _
    exact ⟨_, hr _ rfl rfl, .inr ⟨Im.get_left R4.out HNE.out, rfl, K8⟩⟩
  | nil =>
    rw [hrest] at v4
    have HNE := Lib.hid hrest
    clear hrest
    have cm := fun X hX => Lib.hid (immay_any g q (some ⟨S, 0, none⟩) g.shots.length g.shots.length X HDI.out.2.1 rfl (by have := HDI.out.2.2; unfold maxLen; omega) hX)
    have L4 := fun X (hX : Below w4.heap.size w4 X) => (lies_boxed (E4.out.below hX E4.out.lt) (Gm.shotCells_len _) : Lies X X.heap.size 6 (some ⟨S, 0, none⟩) g.shots.length (Gm.shotCells g.shots))
    have cmw := cm w4 (L4 w4 (Below.refl _ _))
    go_upto_region 5 with (first | (go_at_call 37; first | ((with_reducible refine (need_yes _ _).mono ?_); rintro r wn ⟨rfl, rfl⟩) | ((with_reducible refine (need_any _ _ _).mono ?_); rintro r wn (⟨hz, rfl, rfl⟩ | ⟨hz, ⟨ss, rfl⟩, rfl⟩))) | ((with_reducible refine im_load_state rfl rfl ?_); apply LoadIm.mk rfl; (focus (with_reducible exact B4.out)); dsimp only) | (go_at_call 38; ((with_reducible refine (cmw.out).mono ?_); rintro r w5 ⟨⟨v, rfl, hv⟩, hb⟩; have HV := Lib.hid hv; have B5 := Lib.hid (B4.out.below hb B4.out.lt); have C5 := Lib.hid (C4.out.below hb C4.out.lt); have E5 := Lib.hid (E4.out.below hb E4.out.lt); have K5 := Lib.hid (K4.out.trans (hb.mono K4.out.size)); clear hb hv)))
    rotate_left
    · have HNO := Lib.hid (show ¬ (rest = [] ∧ Im.Ok g q) from fun h => by have := HV.out.2 h.2; rw [hz] at this; cases this)
      refine leaves_cons (f := 45) (args := #[.pointer (some ⟨w.heap.size + 1, 0, none⟩), .pointer (some ⟨w.heap.size + 1 + 1, 0, none⟩)]) (by simp) (by simp [go_sem]) ?_
      refine (catch_get (w.heap.size + 1) (w.heap.size + 1 + 1) _ _ [] _ _ (Im.cells_size _ _ _) B5.out _ C5.out).mono ?_
      rintro r u' w'' ⟨rfl, rfl, rfl⟩
      have B8 := (B5.out.row Im.zero).far (p := ⟨w.heap.size + 1 + 1, 0, none⟩) (show w.heap.size + 1 ≠ w.heap.size + 1 + 1 by omega) (.int .i64 2)
      have C8 := (C5.out.row_far (show w.heap.size + 1 + 1 ≠ w.heap.size + 1 by omega) Im.zero).put 0 (.int .i64 2)
      have K8 := (Below.setRow' (g := w.heap.size + 1) K5.out (Nat.le_succ _) Im.zero).setCell (p := ⟨w.heap.size + 1 + 1, 0, none⟩) (by show w.heap.size ≤ w.heap.size + 1 + 1; omega) (.int .i64 2)
      have hr := fun (tmps : Array Value) h1 h2 => results_cells2 (fn := Try.f17) (p := 2) (q := 3) rfl tmps _ (w.heap.size + 1) (w.heap.size + 1 + 1) 35 Im.zero _ 2 h1 h2 B8 (by simpa using C8) Try.underlying35 rfl (by rw [Im.zero_size]; exact state_info)
      show Leaves Try.prog _ _ _ [] .returning _
      exact ⟨_, hr _ rfl rfl, .inr ⟨Im.get_left R4.out HNO.out, rfl, K8⟩⟩
    have HYES := Lib.hid (show rest = [] ∧ Im.Ok g q from ⟨HNE.out, HV.out.1 hz⟩)
    clear cm cmw
    have C6 := Lib.hid (C5.out.row_far (show w.heap.size + 1 + 1 ≠ w.heap.size + 1 by omega) (Im.cells g (.slice (some ⟨S, 0, none⟩) g.shots.length g.shots.length) q))
    have c6 := C6.out.cell 0
    have f6 := C6.out.free 0
    go_wp2_with (first | ((with_reducible refine im_load_state rfl rfl ?_); apply LoadIm.mk rfl; (focus (with_reducible exact B5.out)); dsimp only) | ((with_reducible refine blk_gate (t := 35) rfl rfl state_info ?_); apply StoreBlk.mk rfl rfl B5.out (im_cells_one _ _ _ rfl) (Im.cells_size _ _ _) (Im.cells_size _ _ _)))
    have ne : w.heap.size + 1 ≠ w.heap.size + 1 + 1 := by omega
    have B7 := (B5.out.row (Im.cells g (.slice (some ⟨S, 0, none⟩) g.shots.length g.shots.length) q)).far (p := ⟨w.heap.size + 1 + 1, 0, none⟩) ne (.int .i64 0)
    have C7 := C6.out.put 0 (.int .i64 0)
    have E7 := (E5.out.row_far (Box.apart E5.out B5.out (by decide)) (Im.cells g (.slice (some ⟨S, 0, none⟩) g.shots.length g.shots.length) q)).far (p := ⟨w.heap.size + 1 + 1, 0, none⟩) (Box.apart E5.out C5.out (by decide)) (.int .i64 0)
    have K7 := (Below.setRow' (g := w.heap.size + 1) K5.out (Nat.le_succ _) (Im.cells g (.slice (some ⟨S, 0, none⟩) g.shots.length g.shots.length) q)).setCell (p := ⟨w.heap.size + 1 + 1, 0, none⟩) (by show w.heap.size ≤ w.heap.size + 1 + 1; omega) (.int .i64 0)
    refine leaves_cons (f := 45) (args := #[.pointer (some ⟨w.heap.size + 1, 0, none⟩), .pointer (some ⟨w.heap.size + 1 + 1, 0, none⟩)]) (by simp) (by simp [go_sem]) ?_
    refine (catch_idle_get _ _ _).mono ?_
    rintro r u' w'' ⟨rfl, rfl, rfl⟩
    have hr := fun (tmps : Array Value) h1 h2 => results_cells2 (fn := Try.f17) (p := 2) (q := 3) rfl tmps _ (w.heap.size + 1) (w.heap.size + 1 + 1) 35 (Im.cells g (.slice (some ⟨S, 0, none⟩) g.shots.length g.shots.length) q) _ 0 h1 h2 B7 (by simpa using C7) Try.underlying35 rfl (by rw [Im.cells_size]; exact state_info)
    show Leaves Try.prog _ _ _ [] .returning _
    exact ⟨_, hr _ rfl rfl, .inl ⟨g, q, S, Im.get_all R4.out HYES.out, rfl, E7, K7⟩⟩
end Go.Proofs.Ytghomofakpjglaa
namespace Go.Proofs.Ytghomofakpjglaa
open Go.RowKit Go.Shelf
set_option linter.unusedVariables false
theorem get_bared (f d : Int) (r : Ros.R) (A : Option Addr) (n c : Nat) (w : World) (hf : 0 ≤ f ∧ f ≤ 1048576) (hd : 0 ≤ d ∧ d ≤ 18446744073709551615) (hok : Im.Ok (Im.bare f d) r) (hn : n = (Im.put (Im.bare f d) r).length) (hc : n ≤ c) (hL : Lies w w.heap.size 1 A n (Im.u8s (Im.put (Im.bare f d) r))) :
    Calls Try.prog 17 #[.slice A n c] w fun e w' => (∃ S, e = .returned (.tuple #[.agg (Im.cells (Im.bare f d) (.slice (some ⟨S, 0, none⟩) 0 0) r), .int .i64 0])) ∧ Below w.heap.size w w' := by
  refine (imget_any (Im.put (Im.bare f d) r) A n c w hn hc (Im.put_bytes _ _) hL).mono fun e w' h => ?_
  obtain ⟨g1, r1, h1, h2⟩ := Im.get_put hok hd
  rcases h with ⟨g2, r2, S, hg, rfl, _, hb⟩ | ⟨hg, _⟩
  · rw [h1] at hg
    injection hg with hg
    injection hg with e1 e2
    subst e1 e2
    have hs : g1.shots = [] := h2.1.2.2.2.symm
    refine ⟨⟨S, ?_⟩, hb⟩
    rw [hs, ← Im.cells_like h2]
    rfl
  · rw [h1] at hg; cases hg
end Go.Proofs.Ytghomofakpjglaa
namespace Go.Proofs.Ytghomofakpjglaa
open Go.RowKit Go.Shelf
set_option linter.unusedVariables false
set_option linter.unusedSimpArgs false

section
variable {ops : Array Oper} {Q : Exit → Act → World → Prop} {o : Oper} {rest : List Oper} {a : Act} {w : World} {x y : Operand}
theorem im_load_state_g (hw : Region.wanted o (yielded ops a.tmps) = true) (ho : o.op = .load 35 x) (h : LoadIm ops Q rest o.dst (a.eval x) 0 (fun g s r => Im.cells g s r) a w) : wpList Try.prog ops Q (o :: rest) a w := by
  obtain ⟨B, g, s, r, hx, hB, h⟩ := h
  refine wpList_load_part_g hw ho hx hB (Im.cells g s r).toList (fun j v hv => ?_) Try.underlying35 rfl (by rw [Array.length_toList, Im.cells_size]; exact state_info) (by rw [Array.toArray_toList]; exact h)
  rw [Nat.zero_add]
  simpa using hv
theorem state_store_new {v : World} {old : Array Value} {g : Gm.G} {s : Value} {r : Ros.R} (hgd : o.guard = none) (ho : o.op = .store 35 x y) (hx : a.eval x = .pointer (some ⟨v.heap.size, 0, none⟩)) (hy : a.eval y = .agg (Im.cells g s r))
    (hold : old.size = 76) (hs : s.oneCell' = true) (h : wpList Try.prog ops Q rest (a.put o.dst undef) (v.alloc (.cells (Im.cells g s r) 35))) : wpList Try.prog ops Q (o :: rest) a (v.alloc (.cells old 35)) :=
  wpList_store_new hgd ho hx hy rfl rfl (by rw [Im.cells_size]; exact state_info) (by rw [Im.cells_size]; exact hold) (im_cells_one _ _ _ hs) h
end

theorem quiet_state {B0 : Nat} {W : World} {o : Oper} {a : Act} {K : Act → Prop} {B : Nat} {g : Gm.G} {s : Value} {r : Ros.R} {x : Operand} (ho : o.op = .load 35 x) (hx : a.eval x = .pointer (some ⟨B, 0, none⟩)) (hB : ∀ q : Ext B0 W, Box q.w B 35 (Im.cells g s r)) (h : K (a.put o.dst (.agg (Im.cells g s r)))) :
    o.quiet Try.prog a (fun w' => ∃ q : Ext B0 W, w' = q.w) K :=
  ⟨_, fun w hw => by obtain ⟨q, e⟩ := hw; subst e; unfold Oper.quietAt; rw [exec_load_blk ho hx (hB q) Try.underlying35 rfl (by rw [Im.cells_size]; exact state_info)]; exact ⟨rfl, rfl⟩, h⟩

theorem im_okShip_none : Gm.okShip Gm.Ship.none := ⟨.inr rfl, by unfold Gm.inF Gm.Ship.none; decide, by unfold Gm.inF Gm.Ship.none; decide, by unfold Gm.slow Gm.Ship.none; decide, by unfold Gm.slow Gm.Ship.none; decide, by decide, by decide, by decide, by decide⟩
def Im.bad (d : Int) : Gm.G := { Im.bare 0 d with ship := Gm.upd (fun _ => Gm.Ship.none) 0 { Gm.Ship.none with on := true } }
theorem Im.bad_cells (d : Int) (s : Value) (r : Ros.R) : (Im.cells (Im.bare 0 d) s r).setIfInBounds 2 (.bool true) = Im.cells (Im.bad d) s r := by
  rw [Im.cells_set_g _ _ _ _ (by omega)]
  rfl
theorem Im.bad_no (d : Int) : ¬ Im.Ok (Im.bad d) Ros.new := fun h => absurd (h.2.2 0 (by omega)) (by show ¬ (true = decide ((0 : Int) ≤ -1)); decide)
theorem Im.bad_ty (d : Int) (hd : 0 ≤ d ∧ d ≤ 18446744073709551615) : Gm.ty (Im.bad d) := ⟨by show Gm.i64 0; unfold Gm.i64; omega, hd, fun i hi => by
  show Gm.tyShip (Gm.upd (fun _ => Gm.Ship.none) 0 { Gm.Ship.none with on := true } i)
  unfold Gm.upd
  by_cases e : i = 0
  · rw [if_pos e]; unfold Gm.tyShip Gm.i32 Gm.i64; decide
  · rw [if_neg e]; show Gm.tyShip Gm.Ship.none; unfold Gm.tyShip Gm.i32 Gm.i64; decide, fun i hi => absurd hi (Nat.not_lt_zero _)⟩
theorem Im.fresh_ok (d : Int) : Im.Ok (Im.bare 0 d) Ros.new := ⟨⟨by show (0 : Int) ≤ 0; decide, by show (0 : Int) ≤ 1048576; decide, by show 0 ≤ 32; decide, fun _ _ => im_okShip_none, fun i h => absurd h (Nat.not_lt_zero _)⟩, by decide +kernel, fun k _ => rfl⟩
theorem Im.fresh_len (d : Int) : (Im.put (Im.bare 0 d) Ros.new).length = 49 := by rfl

set_option maxRecDepth 100000 in
set_option maxHeartbeats 400000 in
theorem told7_any (w : World) :
    Calls Try.prog 13 #[] w fun e w' => e = .returned (.bool true) ∧ Below w.heap.size w w' := by
  have hd : 0 ≤ Dn.seed [97] ∧ Dn.seed [97] ≤ 18446744073709551615 := Dn.seed_bd _
  have cst := fun X => Lib.hid (start_any ⟨#[97]⟩ X (by decide))
  have csd := fun X => Lib.hid (refseed_any ⟨#[97]⟩ X (by decide))
  generalize Dn.seed [97] = d at hd cst csd
  rw [show Gm.new d = Im.bare 0 d from rfl] at cst
  have hok := Im.fresh_ok d
  have cpt := fun X => Lib.hid (put_made (Im.bare 0 d) Ros.new none 0 0 X hok hd rfl Lies.empty)
  have cget := fun A c X hc hL => Lib.hid (get_bared 0 d Ros.new A 49 c X (by decide) hd hok (Im.fresh_len d).symm hc hL)
  rw [Im.fresh_len] at cpt
  have cgn : ∀ X, Hid (Calls Try.prog 17 #[.slice none 0 0] X fun e w' => e = .returned (.tuple #[.agg (Im.cells Im.G0 (.slice none 0 0) Im.R0), .int .i64 2]) ∧ Below X.heap.size X w') := fun X => Lib.hid (get_nil X)
  generalize Im.G0 = z0 at cgn
  generalize Im.R0 = zr at cgn
  have cpn := fun X => Lib.hid (put_no (Im.bad d) Ros.new none 0 0 X (Im.bad_no d) (Im.bad_ty d hd) rfl (Nat.zero_le _) Lies.empty)
  have cof := fun X => Lib.hid (of_no (Im.bad d) Ros.new none 0 0 X (Im.bad_no d) (Im.bad_ty d hd) rfl (Nat.zero_le _) Lies.empty)
  have csm := fun X => Lib.hid (sum_nil X)
  have hset := Im.bad_cells d (.slice none 0 0) Ros.new
  have zon : ∀ s r, (Im.cells (Im.bare 0 d) s r)[2]? = some (.bool false) := fun s r => (Im.cells_ship (Im.bare 0 d) s r 0 0 (by omega) (by omega)).trans rfl
  have zdice : ∀ s r, (Im.cells (Im.bare 0 d) s r)[1]? = some (.int .u64 d) := fun s r => (Im.cells_g (Im.bare 0 d) s r 1 (by omega)).trans (Gm.cells_1 _ _)
  have zpeer : ∀ (s : Value) (_ : Unit), (Im.cells (Im.bare 0 d) s Ros.new)[66]? = some (.int .i64 (-1)) := fun s _ => (Im.cells_peer (Im.bare 0 d) s Ros.new 3 (by omega)).trans rfl
  have HS := Lib.hid hset
  generalize Im.bad d = g1 at *
  generalize Im.put (Im.bare 0 d) Ros.new = bs at *
  generalize Im.bare 0 d = g0 at *
  generalize Ros.new = r0 at *
  clear hd hok hset
  go_enter Try.func13, Try.ntmps13
  go_wp2_with (first | ((with_reducible refine im_load_state rfl rfl ?_); apply LoadIm.mk rfl; (focus (with_reducible exact T1.out)); dsimp only) | ((with_reducible refine im_load_state rfl rfl ?_); apply LoadIm.mk rfl; (focus (with_reducible exact T5.out)); dsimp only) | (with_reducible refine alloc_state rfl rfl ?_) | ((with_reducible refine state_store_new rfl rfl rfl rfl Im.zero_size rfl ?_)) | (go_at_call 35; ((with_reducible refine ((cst _).out).mono ?_); rintro e w1 ⟨rfl, hb⟩; have T1 := Lib.hid (Box.made w1 35 (Im.cells g0 (.slice none 0 0) r0)); have K1 := Lib.hid (hb.alloc hb.size (.cells (Im.cells g0 (.slice none 0 0) r0) 35)); have K1w := Lib.hid hb.size; clear hb)) | (go_at_call 14; ((with_reducible refine ((cpt _).out).mono ?_); rintro e w2 ⟨A2, c2, rfl, hc2, hL2, hb⟩; have T2 := Lib.hid (T1.out.below hb T1.out.lt); have K2 := Lib.hid (K1.out.trans (hb.mono K1.out.size)); have L2 := Lib.hid hL2; have C2 := Lib.hid hc2; have cg := cget A2 c2 _ C2.out L2.out; clear hc2 hL2 hb)) | (go_at_call 17; ((with_reducible refine (cg.out).mono ?_); rintro e w3 ⟨⟨S, rfl⟩, hb⟩; have T3 := Lib.hid ((T2.out.below hb T2.out.lt).alloc (.cells (Im.cells g0 (.slice (some ⟨S, 0, none⟩) 0 0) r0) 35)); have K3 := Lib.hid ((K2.out.trans (hb.mono K2.out.size)).alloc (Nat.le_trans K2.out.size hb.size) (.cells (Im.cells g0 (.slice (some ⟨S, 0, none⟩) 0 0) r0) 35)); have G3 := Lib.hid (Box.made w3 35 (Im.cells g0 (.slice (some ⟨S, 0, none⟩) 0 0) r0)); have l3 := Nat.lt_of_lt_of_le T2.out.lt hb.size; clear hb cg)) | (go_at_call 17; ((with_reducible refine ((cgn _).out).mono ?_); rintro e w4 ⟨rfl, hb⟩; have T4 := Lib.hid ((T3.out.below hb T3.out.lt).alloc (.cells (Im.cells z0 (.slice none 0 0) zr) 35)); have K4 := Lib.hid ((K3.out.trans (hb.mono K3.out.size)).alloc (Nat.le_trans K3.out.size hb.size) (.cells (Im.cells z0 (.slice none 0 0) zr) 35)); have G4 := Lib.hid ((G3.out.below hb G3.out.lt).alloc (.cells (Im.cells z0 (.slice none 0 0) zr) 35)); have t4 := (T4.out.cell 2).trans (zon _ _); have f4 := T4.out.free 2; have T5 := Lib.hid (show Box _ w1.heap.size 35 (Im.cells g1 (.slice none 0 0) r0) by (have h5 := T4.out.put 2 (.bool true)); rw [HS.out] at h5; exact h5); have K5 := Lib.hid (K4.out.setCell (p := ⟨w1.heap.size, 2, none⟩) (K1w.out) (.bool true)); have G5 := Lib.hid (G4.out.far (p := ⟨w1.heap.size, 2, none⟩) (show w3.heap.size ≠ w1.heap.size by omega) (.bool true)); clear hb)) | (go_at_call 14; ((with_reducible refine ((cpn _).out).mono ?_); rintro e w6 ⟨rfl, hb⟩; have T6 := Lib.hid (T5.out.below hb T5.out.lt); have G6 := Lib.hid (G5.out.below hb G5.out.lt); have K6 := Lib.hid (K5.out.trans (hb.mono K5.out.size)); have g6 := (G6.out.cell 1).trans (zdice _ _); have h6 := (G6.out.cell 66).trans (zpeer _ ()); clear hb)) | (go_at_call 21; ((with_reducible refine ((csd _).out).mono ?_); rintro e ws ⟨rfl, rfl⟩; skip)) | ((with_reducible refine im_load_state_g ?_ rfl ?_); (focus first | rfl | kernel_rfl | simp [Region.wanted, yielded]); apply LoadIm.mk rfl; (focus (with_reducible exact T6.out)); dsimp only) | (go_at_call 22; ((with_reducible refine ((cof _).out).mono ?_); rintro e w7 ⟨rfl, hb⟩; have K7 := Lib.hid (K6.out.trans (hb.mono K6.out.size)); clear hb)) | (go_at_call 20; ((with_reducible refine ((csm _).out).mono ?_); rintro e w8 ⟨rfl, hb⟩; have K8 := Lib.hid (K7.out.trans (hb.mono K7.out.size)); clear hb)))
  have z1 : ∀ q : Ext w6.heap.size w6, q.w.cell? ⟨w3.heap.size, 1, none⟩ = some (.int .u64 d) := fun q => q.cell G6.out.lt g6
  have z2 : ∀ q : Ext w6.heap.size w6, q.w.cell? ⟨w3.heap.size, 66, none⟩ = some (.int .i64 (-1)) := fun q => q.cell G6.out.lt h6
  have ZT := Lib.hid (fun q : Ext w6.heap.size w6 => T6.out.below q.h T6.out.lt)
  clear g6 h6 T5 K5 G5 T1 T2 T3 T4 K1 K2 K3 K4 G3 G4 L2 C2 t4 f4 l3 K1w cst cpt cget cgn cpn HS zon zdice zpeer
  refine wp_region_ext w6.heap.size w6 (by kernel_rfl) (by kernel_rfl) (Below.refl _ _) ?_
  repeat (first | (go_big_quiet_want; refine quiet_state rfl rfl ZT.out ?_; simp only [Act.put, List.setIfInBounds_toArray, List.set_cons_succ, List.set_cons_zero]; go_big_quiet_on) | go_big_quiet_step ((first | (go_at_call 21; with_reducible exact Calls.ext_same (csd _).out) | (go_at_call 22; with_reducible exact Calls.ext_of (Nat.le_refl _) (cof _).out) | (go_at_call 20; with_reducible exact Calls.ext_of (Nat.le_refl _) (csm _).out))))
  refine wpQuiet_nil ?_
  intro _ hw'
  obtain ⟨q, hw''⟩ := hw'
  subst hw''
  have KQ := Lib.hid (K6.out.trans (q.h.mono K6.out.size))
  go_wp2
  go_ret
  exact ⟨rfl, KQ.out⟩
end Go.Proofs.Ytghomofakpjglaa
namespace Im
open Go
def cnt (f : Nat → Gm.Ship) : Nat → Nat
  | 0 => 0
  | k + 1 => cnt f k + (if (f k).on = true then 1 else 0)
theorem cnt_le (f : Nat → Gm.Ship) : ∀ k, cnt f k ≤ k
  | 0 => Nat.le_refl _
  | k + 1 => by unfold cnt; have := cnt_le f k; split <;> omega
end Im
namespace Go.Proofs.Ytghomofakpjglaa
open Go.RowKit Go.Shelf
set_option linter.unusedVariables false
set_option linter.unusedSimpArgs false

theorem Im.ships_cnt (f : Nat → Gm.Ship) : ∀ k, (Im.ships f k).length = k + 21 * Im.cnt f k
  | 0 => rfl
  | k + 1 => by
    show (Im.ships f k ++ Im.ship (f k)).length = _
    have e : Im.cnt f (k + 1) = Im.cnt f k + (if (f k).on = true then 1 else 0) := rfl
    rw [List.length_append, Im.ships_cnt f k, Im.ship_len, e]
    by_cases h : (f k).on = true
    · rw [if_pos h, if_pos h]; omega
    · rw [if_neg h, if_neg h]; omega
theorem Im.put_len (g : Gm.G) (r : Ros.R) : (Im.put g r).length = 49 + 18 * g.shots.length + 21 * Im.cnt g.ship 8 := by
  have e2 := Im.shots_len g.shots
  have e3 := Im.seats_len r 8
  have e1 := Im.ships_cnt g.ship 8
  unfold Im.put
  simp only [List.length_append, Im.bytesOf_len, e1, e2, e3]
  omega

set_option maxRecDepth 100000 in
set_option maxHeartbeats 2000000 in
theorem long_law (g : Gm.G) (r : Ros.R) (A : Option Addr) (n c : Nat) (w : World) (hty : Gm.ty g) (hn : n = g.shots.length) (hn63 : n ≤ maxLen) (hr : Lies w w.heap.size 6 A n (Gm.shotCells g.shots)) :
    Calls Try.prog 5 #[.agg (Im.cells g (.slice A n c) r)] w fun e w' => e = .returned (.bool true) ∧ Below w.heap.size w w' := by
  have P0 := Lib.hid (Box.made w 35 (Im.cells g (.slice A n c) r))
  have K0 := Lib.hid (one_below w (.cells (Im.cells g (.slice A n c) r) 35))
  have hr0 := (hr.below K0.out).wider K0.out.size
  have ct := fun X => Lib.hid (told7_any X)
  by_cases hok : Im.Ok g r
  · have hm := Im.put_len g r
    have hn32 : n ≤ 32 := by rw [hn]; exact hok.1.2.2.1
    have hcl := Im.cnt_le g.ship 8
    rw [← hn] at hm
    have cp := Lib.hid (put_yes g r A n c _ hok hty.2.1 hn hr0)
    generalize (Im.put g r).length = m at hm cp
    generalize Im.put g r = bs at cp
    have c58 := (P0.out.cell 58).trans ((Im.cells_g _ _ _ 58 (by omega)).trans (Gm.cells_58 _ _))
    have HM := Lib.hid hm
    have HC := Lib.hid hcl
    clear hr hr0 hn hty hok hm hcl hn63 c58
    go_enter Try.func5, Try.ntmps5
    go_wp2_with (first | ((with_reducible refine im_load_state rfl rfl ?_); apply LoadIm.mk rfl; (focus (with_reducible exact P0.out)); dsimp only) | (go_at_call 14; ((with_reducible refine (cp.out).mono ?_); rintro e w1 ⟨A1, c1, rfl, _, hb⟩; have P1 := Lib.hid (P0.out.below hb P0.out.lt); have K1 := Lib.hid (K0.out.trans (hb.mono K0.out.size)); have c58 := (P1.out.cell 58).trans ((Im.cells_g _ _ _ 58 (by omega)).trans (Gm.cells_58 _ _)); clear hb cp)))
    go_loopw [5, 6] (fun l i wr => ∃ k : Nat, k ≤ 8 ∧ i = .int .i64 k ∧ l = .int .i64 (49 + 18 * (n : Int) + 21 * (Im.cnt g.ship k : Int)) ∧ w1 = wr) (fun _ i _ => 8 - (intOf i).toNat)
    case atStart => exact ⟨0, by omega, rfl, by simp [Im.cnt], rfl⟩
    case round =>
      obtain ⟨k, hk, rfl, rfl, rfl⟩ := hrel
      by_cases hlt : k < 8
      · have hk8 : (k : Int) < 8 := by omega
        have e0 := (P1.out.cell (2 + k * 7)).trans (Im.cells_ship g _ r k 0 hlt (by omega))
        simp only [Gm.Ship.cells, List.getElem?_toArray, List.getElem?_cons_zero, Nat.add_zero] at e0
        have hkl := Im.cnt_le g.ship k
        have hstep : Im.cnt g.ship (k + 1) = Im.cnt g.ship k + (if (g.ship k).on = true then 1 else 0) := rfl
        obtain ⟨on, hon⟩ : ∃ on, on = (g.ship k).on := ⟨_, rfl⟩
        obtain ⟨q, hq⟩ : ∃ q, q = Im.cnt g.ship k := ⟨_, rfl⟩
        rw [← hon] at e0 hstep
        rw [← hq] at hkl hstep ⊢
        have HT := Lib.hid hstep
        clear hon hq hstep
        cases on
        · go_wp2
          go_roundw
          case rel => exact ⟨k + 1, by omega, by go_num, by rw [HT.out]; simp, by first | rfl | trivial⟩
          case measure => simp [intOf]; omega
        · go_wp2
          go_roundw
          case rel => exact ⟨k + 1, by omega, by go_num, by rw [HT.out]; simp; omega, by first | rfl | trivial⟩
          case measure => simp [intOf]; omega
      · have hk8 : ¬ (k : Int) < 8 := by omega
        obtain rfl : k = 8 := by omega
        have hcl := HC.out
        have hmi : (m : Int) = 49 + 18 * (n : Int) + 21 * (Im.cnt g.ship 8 : Int) := by have := HM.out; omega
        have hle : 49 + 18 * (n : Int) + 21 * (Im.cnt g.ship 8 : Int) ≤ 793 := by omega
        obtain ⟨L, hL⟩ : ∃ L, L = 49 + 18 * (n : Int) + 21 * (Im.cnt g.ship 8 : Int) := ⟨_, rfl⟩
        rw [← hL] at hmi hle ⊢
        have HMI := Lib.hid hmi
        clear hL hmi hcl
        go_wp2_with (go_at_call 13; ((with_reducible refine ((ct _).out).mono ?_); rintro e w2 ⟨rfl, hb⟩; have K2 := Lib.hid (K1.out.trans (hb.mono K1.out.size)); clear hb))
        go_ret
        exact ⟨ret_bool (by simp [HMI.out]), K2.out⟩
  · have cp := Lib.hid (put_no g r A n c _ hok hty hn hn63 hr0)
    clear hr hr0 hn hty hok
    go_enter Try.func5, Try.ntmps5
    go_wp2_with (first | ((with_reducible refine im_load_state rfl rfl ?_); apply LoadIm.mk rfl; (focus (with_reducible exact P0.out)); dsimp only) | (go_at_call 14; ((with_reducible refine (cp.out).mono ?_); rintro e w1 ⟨rfl, hb⟩; have K1 := Lib.hid (K0.out.trans (hb.mono K0.out.size)); clear hb)) | (go_at_call 13; ((with_reducible refine ((ct _).out).mono ?_); rintro e w2 ⟨rfl, hb⟩; have K2 := Lib.hid (K1.out.trans (hb.mono K1.out.size)); clear hb)))
    go_ret
    exact ⟨ret_bool (by simp), K2.out⟩
end Go.Proofs.Ytghomofakpjglaa
namespace Go.Proofs.Ytghomofakpjglaa
open Go.ChangeShapes Go.WideShapes Go.ChangeAt Go.RowKit Go.Joins Go.ChangeMaps Go.Deep
set_option linter.unusedVariables false

def Ros.ty (r : Ros.R) : Prop := (-9223372036854775808 ≤ r.version ∧ r.version ≤ 9223372036854775807) ∧ ∀ k, k < 8 → (-9223372036854775808 ≤ r.peer k ∧ r.peer k ≤ 9223372036854775807) ∧ (-9223372036854775808 ≤ r.gen k ∧ r.gen k ≤ 9223372036854775807)
theorem cut16 {α : Type} (l : List α) (h : l.length = 16) : l = (l.drop (0 * 2)).take 2 ++ ((l.drop (1 * 2)).take 2 ++ ((l.drop (2 * 2)).take 2 ++ ((l.drop (3 * 2)).take 2 ++ ((l.drop (4 * 2)).take 2 ++ ((l.drop (5 * 2)).take 2 ++ ((l.drop (6 * 2)).take 2 ++ ((l.drop (7 * 2)).take 2))))))) := by
  match l, h with
  | [a0, a1, a2, a3, a4, a5, a6, a7, a8, a9, a10, a11, a12, a13, a14, a15], _ => rfl
section
variable {H : Type} {enc : TypeId × Value → H} {w : World} {base : Nat} {spare : Nat → Bool} {held : Bool}
theorem trod_seat {fuel : Nat} {a b : Value} {y : DataW H × List MemPlace} (h : DataW.trod enc Try.prog w base spare held fuel 30 [a, b] = some y) : ∃ p g : Int, [a, b] = [.int .i64 p, .int .i64 g] ∧ ((-9223372036854775808 ≤ p ∧ p ≤ 9223372036854775807) ∧ (-9223372036854775808 ≤ g ∧ g ≤ 9223372036854775807)) ∧ y.2 = [] := by
  obtain ⟨y0, y1, n, hx, _, h0, h1⟩ := trod_struct2 Try.underlying30 h
  obtain ⟨x0, e0, rfl, w0⟩ := DataW.trod_int Try.underlying3 h0
  obtain ⟨x1, e1, rfl, w1⟩ := DataW.trod_int Try.underlying3 h1
  have c8 : Try.prog.cellsOf 3 = 1 := by kernel_rfl
  simp [c8] at e0 e1
  subst e0 e1
  exact ⟨x0, x1, rfl, ⟨Bd.i64 w0, Bd.i64 w1⟩, by rw [hx]; rfl⟩
set_option maxRecDepth 100000 in
theorem trod_seats {fuel : Nat} {l : List Value} {y : DataW H × List MemPlace} (hl : l.length = 16) (h : DataW.trod enc Try.prog w base spare held fuel 31 l = some y) :
    ∃ f g : Nat → Int, (∀ v, l = Ros.seatCells ⟨v, f, g⟩) ∧ (∀ k, k < 8 → (-9223372036854775808 ≤ f k ∧ f k ≤ 9223372036854775807) ∧ (-9223372036854775808 ≤ g k ∧ g k ≤ 9223372036854775807)) ∧ y.2 = [] := by
  obtain ⟨xs, m, rfl, hx, _, hn, he⟩ := DataW.trod_array Try.underlying31 h
  have c2 : Try.prog.cellsOf 30 = 2 := by kernel_rfl
  simp only [c2] at he
  have key : ∀ i, i < 8 → ∃ q : Int × Int, (l.drop (i * 2)).take 2 = [.int .i64 q.1, .int .i64 q.2] ∧ ((-9223372036854775808 ≤ q.1 ∧ q.1 ≤ 9223372036854775807) ∧ (-9223372036854775808 ≤ q.2 ∧ q.2 ≤ 9223372036854775807)) ∧ ∀ y, xs[i]? = some y → y.2 = [] := by
    intro i hi
    have hlen : ((l.drop (i * 2)).take 2).length = 2 := by simp; omega
    obtain ⟨y, hy⟩ : ∃ y, xs[i]? = some y := ⟨xs[i]'(by omega), List.getElem?_eq_getElem (by omega)⟩
    have h : DataW.trod enc Try.prog w base spare held m 30 ((l.drop (i * 2)).take 2) = xs[i]? := he i hi
    rw [hy] at h
    match hq : (l.drop (i * 2)).take 2, hlen with
    | [a, b], _ =>
      rw [hq] at h
      obtain ⟨p, g, h1, h2, h3⟩ := trod_seat h
      exact ⟨(p, g), h1, h2, fun z hz => by rw [hy] at hz; cases hz; exact h3⟩
  have hch : ∃ ps : Nat → Int × Int, ∀ i, i < 8 → ((l.drop (i * 2)).take 2 = [.int .i64 (ps i).1, .int .i64 (ps i).2] ∧ ((-9223372036854775808 ≤ (ps i).1 ∧ (ps i).1 ≤ 9223372036854775807) ∧ (-9223372036854775808 ≤ (ps i).2 ∧ (ps i).2 ≤ 9223372036854775807)) ∧ ∀ y, xs[i]? = some y → y.2 = []) :=
    ⟨fun i => if h : i < 8 then (key i h).choose else (0, 0), fun i hi => by dsimp only; rw [dif_pos hi]; exact (key i hi).choose_spec⟩
  obtain ⟨ps, hps⟩ := hch
  refine ⟨fun k => (ps k).1, fun k => (ps k).2, fun v => ?_, fun i hi => (hps i hi).2.1, ?_⟩
  · rw [cut16 l hl]
    unfold Ros.seatCells Ros.pair
    rw [(hps 0 (by decide)).1, (hps 1 (by decide)).1, (hps 2 (by decide)).1, (hps 3 (by decide)).1, (hps 4 (by decide)).1, (hps 5 (by decide)).1, (hps 6 (by decide)).1, (hps 7 (by decide)).1]
  · rw [hx]
    apply List.flatMap_eq_nil_iff.2
    intro y hy
    obtain ⟨i, hi, rfl⟩ := List.getElem_of_mem hy
    exact (hps i (by omega)).2.2 _ (List.getElem?_eq_getElem hi)
set_option maxRecDepth 100000 in
theorem trod_ros {fuel : Nat} {l : List Value} {y : DataW H × List MemPlace} (hl : l.length = 17) (h : DataW.trod enc Try.prog w base spare held fuel 33 l = some y) : ∃ r : Ros.R, l.toArray = Ros.cells r ∧ Ros.ty r ∧ y.2 = [] := by
  obtain ⟨y0, y1, n, hx, _, h0, h1⟩ := trod_struct2 Try.underlying33 h
  obtain ⟨x0, e0, rfl, w0⟩ := DataW.trod_int Try.underlying3 h0
  have c8 : Try.prog.cellsOf 3 = 1 := by kernel_rfl
  have c16 : Try.prog.cellsOf 31 = 16 := by kernel_rfl
  simp only [c16] at h1
  obtain ⟨f, g, h2, h3, h4⟩ := trod_seats (by simp; omega) h1
  simp only [c8] at e0
  refine ⟨⟨x0, f, g⟩, ?_, ⟨Bd.i64 w0, h3⟩, by rw [hx, h4]; rfl⟩
  match l, hl with
  | a :: t, hl =>
    have ht : t = Ros.seatCells ⟨x0, f, g⟩ := by
      rw [← h2 x0]
      have : t.length = 16 := by simpa using hl
      simp [List.take_of_length_le, this]
    simp at e0
    subst e0
    rw [ht]; rfl
end
end Go.Proofs.Ytghomofakpjglaa
namespace Go.Proofs.Ytghomofakpjglaa
open Go.ChangeShapes Go.WideShapes Go.ChangeAt Go.RowKit Go.Joins Go.ChangeMaps Go.Deep
set_option linter.unusedVariables false

theorem cut_at {α : Type} (l : List α) (a b : Nat) : l.drop a = (l.drop a).take b ++ l.drop (a + b) := by
  have := (List.take_append_drop b (l.drop a)).symm
  rwa [List.drop_drop] at this
theorem cut_end {α : Type} (l : List α) (a b : Nat) (h : l.length = a + b) : l.drop a = (l.drop a).take b := by
  rw [List.take_of_length_le (by simp; omega)]
section
variable {H : Type} {enc : TypeId × Value → H} {w : World} {base : Nat} {spare : Nat → Bool} {held : Bool}
set_option maxRecDepth 100000 in
theorem trod_ship {fuel : Nat} {l : List Value} {y : DataW H × List MemPlace} (hl : l.length = 7) (h : DataW.trod enc Try.prog w base spare held fuel 24 l = some y) : ∃ s : Gm.Ship, l = s.cells ∧ Gm.tyShip s := by
  obtain ⟨xs, n, _, _, _, hlen, hf⟩ := DataW.trod_struct Try.underlying24 h
  have cb : Try.prog.cellsOf 4 = 1 := by kernel_rfl
  have c32 : Try.prog.cellsOf 21 = 1 := by kernel_rfl
  have ci : Try.prog.cellsOf 3 = 1 := by kernel_rfl
  match l, hl, xs, hlen with
  | [a0, a1, a2, a3, a4, a5, a6], _, [y0, y1, y2, y3, y4, y5, y6], _ =>
    obtain ⟨x0, e0, _⟩ := DataW.trod_bool Try.underlying4 (hf 0 _ rfl)
    obtain ⟨x1, e1, _, w1⟩ := DataW.trod_int Try.underlying21 (hf 1 _ rfl)
    obtain ⟨x2, e2, _, w2⟩ := DataW.trod_int Try.underlying21 (hf 2 _ rfl)
    obtain ⟨x3, e3, _, w3⟩ := DataW.trod_int Try.underlying21 (hf 3 _ rfl)
    obtain ⟨x4, e4, _, w4⟩ := DataW.trod_int Try.underlying21 (hf 4 _ rfl)
    obtain ⟨x5, e5, _, w5⟩ := DataW.trod_int Try.underlying3 (hf 5 _ rfl)
    obtain ⟨x6, e6, _, w6⟩ := DataW.trod_int Try.underlying3 (hf 6 _ rfl)
    simp [cb, c32, ci] at e0 e1 e2 e3 e4 e5 e6
    subst e0 e1 e2 e3 e4 e5 e6
    exact ⟨⟨x0, x1, x2, x3, x4, x5, x6⟩, rfl, Bd.i32 w1, Bd.i32 w2, Bd.i32 w3, Bd.i32 w4, Bd.i64 w5, Bd.i64 w6⟩
set_option maxRecDepth 100000 in
theorem trod_shot {base : Nat} {spare : Nat → Bool} {held : Bool} {fuel : Nat} {l : List Value} {y : DataW H × List MemPlace} (hl : l.length = 6) (h : DataW.trod enc Try.prog w base spare held fuel 88 l = some y) : ∃ s : Gm.Shot, l = s.cells ∧ Gm.tyShot s := by
  obtain ⟨xs, n, _, _, _, hlen, hf⟩ := DataW.trod_struct Try.underlying88 h
  have c32 : Try.prog.cellsOf 21 = 1 := by kernel_rfl
  have ci : Try.prog.cellsOf 3 = 1 := by kernel_rfl
  match l, hl, xs, hlen with
  | [a0, a1, a2, a3, a4, a5], _, [y0, y1, y2, y3, y4, y5], _ =>
    obtain ⟨x0, e0, _, w0⟩ := DataW.trod_int Try.underlying3 (hf 0 _ rfl)
    obtain ⟨x1, e1, _, w1⟩ := DataW.trod_int Try.underlying21 (hf 1 _ rfl)
    obtain ⟨x2, e2, _, w2⟩ := DataW.trod_int Try.underlying21 (hf 2 _ rfl)
    obtain ⟨x3, e3, _, w3⟩ := DataW.trod_int Try.underlying21 (hf 3 _ rfl)
    obtain ⟨x4, e4, _, w4⟩ := DataW.trod_int Try.underlying21 (hf 4 _ rfl)
    obtain ⟨x5, e5, _, w5⟩ := DataW.trod_int Try.underlying3 (hf 5 _ rfl)
    simp [c32, ci] at e0 e1 e2 e3 e4 e5
    subst e0 e1 e2 e3 e4 e5
    exact ⟨⟨x0, x1, x2, x3, x4, x5⟩, rfl, Bd.i64 w0, Bd.i32 w1, Bd.i32 w2, Bd.i32 w3, Bd.i32 w4, Bd.i64 w5⟩
set_option maxRecDepth 100000 in
theorem trod_ships {fuel : Nat} {l : List Value} {y : DataW H × List MemPlace} (hl : l.length = 56) (h : DataW.trod enc Try.prog w base spare held fuel 25 l = some y) :
    ∃ f : Nat → Gm.Ship, l = Gm.shipCells f ∧ ∀ k, k < 8 → Gm.tyShip (f k) := by
  obtain ⟨xs, m, _, _, _, hn, he⟩ := DataW.trod_array Try.underlying25 h
  have c7 : Try.prog.cellsOf 24 = 7 := by kernel_rfl
  simp only [c7] at he
  have key : ∀ i, i < 8 → ∃ s : Gm.Ship, (l.drop (i * 7)).take 7 = s.cells ∧ Gm.tyShip s := by
    intro i hi
    have hlen : ((l.drop (i * 7)).take 7).length = 7 := by simp; omega
    obtain ⟨y, hy⟩ : ∃ y, xs[i]? = some y := ⟨xs[i]'(by omega), List.getElem?_eq_getElem (by omega)⟩
    have h := he i hi
    rw [hy] at h
    exact trod_ship hlen h
  have hch : ∃ ps : Nat → Gm.Ship, ∀ i, i < 8 → ((l.drop (i * 7)).take 7 = (ps i).cells ∧ Gm.tyShip (ps i)) :=
    ⟨fun i => if h : i < 8 then (key i h).choose else Gm.Ship.none, fun i hi => by dsimp only; rw [dif_pos hi]; exact (key i hi).choose_spec⟩
  obtain ⟨ps, hps⟩ := hch
  refine ⟨ps, ?_, fun i hi => (hps i hi).2⟩
  have q7 : l.drop (7 * 7) = (ps 7).cells := (cut_end l (7 * 7) 7 (by omega)).trans (hps 7 (by omega)).1
  have q6 : l.drop (6 * 7) = (ps 6).cells ++ (ps 7).cells := by rw [← q7, ← (hps 6 (by omega)).1]; exact cut_at l (6 * 7) 7
  have q5 : l.drop (5 * 7) = (ps 5).cells ++ ((ps 6).cells ++ (ps 7).cells) := by rw [← q6, ← (hps 5 (by omega)).1]; exact cut_at l (5 * 7) 7
  have q4 : l.drop (4 * 7) = (ps 4).cells ++ ((ps 5).cells ++ ((ps 6).cells ++ (ps 7).cells)) := by rw [← q5, ← (hps 4 (by omega)).1]; exact cut_at l (4 * 7) 7
  have q3 : l.drop (3 * 7) = (ps 3).cells ++ ((ps 4).cells ++ ((ps 5).cells ++ ((ps 6).cells ++ (ps 7).cells))) := by rw [← q4, ← (hps 3 (by omega)).1]; exact cut_at l (3 * 7) 7
  have q2 : l.drop (2 * 7) = (ps 2).cells ++ ((ps 3).cells ++ ((ps 4).cells ++ ((ps 5).cells ++ ((ps 6).cells ++ (ps 7).cells)))) := by rw [← q3, ← (hps 2 (by omega)).1]; exact cut_at l (2 * 7) 7
  have q1 : l.drop (1 * 7) = (ps 1).cells ++ ((ps 2).cells ++ ((ps 3).cells ++ ((ps 4).cells ++ ((ps 5).cells ++ ((ps 6).cells ++ (ps 7).cells))))) := by rw [← q2, ← (hps 1 (by omega)).1]; exact cut_at l (1 * 7) 7
  have q0 : l.drop (0 * 7) = (ps 0).cells ++ ((ps 1).cells ++ ((ps 2).cells ++ ((ps 3).cells ++ ((ps 4).cells ++ ((ps 5).cells ++ ((ps 6).cells ++ (ps 7).cells)))))) := by rw [← q1, ← (hps 0 (by omega)).1]; exact cut_at l (0 * 7) 7
  exact q0
set_option maxRecDepth 100000 in
theorem trod_game {fuel : Nat} {l : List Value} {y : DataW H × List MemPlace} (hl : l.length = 59) (h : DataW.trod enc Try.prog w base spare held fuel 28 l = some y) :
    ∃ (g : Gm.G) (A : Option Addr) (c : Nat), l.toArray = Gm.cells g (.slice A g.shots.length c) ∧ Gm.ty g ∧ g.shots.length ≤ maxLen ∧ Lies w w.heap.size 6 A g.shots.length (Gm.shotCells g.shots) := by
  obtain ⟨y0, y1, y2, y3, n, _, _, h0, h1, h2, h3⟩ := trod_struct4 Try.underlying28 h
  have ci : Try.prog.cellsOf 3 = 1 := by kernel_rfl
  have cu : Try.prog.cellsOf 22 = 1 := by kernel_rfl
  have cs8 : Try.prog.cellsOf 25 = 56 := by kernel_rfl
  have csl : Try.prog.cellsOf 26 = 1 := by kernel_rfl
  have c6 : Try.prog.cellsOf 88 = 6 := by kernel_rfl
  obtain ⟨x0, e0, _, w0⟩ := DataW.trod_int Try.underlying3 h0
  obtain ⟨x1, e1, _, w1⟩ := DataW.trod_int Try.underlying22 h1
  simp only [cs8] at h2
  obtain ⟨f, e2, hty⟩ := trod_ships (by simp; omega) h2
  simp only [csl] at h3
  have hlen3 : ((l.drop 58).take 1).length = 1 := by simp; omega
  obtain ⟨u, hu⟩ : ∃ u, (l.drop 58).take 1 = [u] := by
    match hq : (l.drop 58).take 1, hlen3 with
    | [u], _ => exact ⟨u, rfl⟩
  have h3' : DataW.trod enc Try.prog w base spare held n 26 [u] = some y3 := by rw [← hu]; exact h3
  have hsl : ∃ a m k, u = .slice a m k := by
    rcases DataW.trod_slice Try.underlying26 h3' with ⟨hv, _⟩ | ⟨a, len, cap, elems, rest, k, _, hv, _⟩
    · injection hv with hv; exact ⟨_, _, _, hv⟩
    · injection hv with hv; exact ⟨_, _, _, hv⟩
  obtain ⟨a, m, k, rfl⟩ := hsl
  obtain ⟨A, c, shots, ev, ht, hm, hL⟩ := open_slice (enc := enc) (w := w) (base := base) (spare := spare) (held := held) Gm.Shot.cells 6 Gm.tyShot ⟨0, 0, 0, 0, 0, 0⟩ Try.underlying26 c6 (by decide) (fun _ => rfl) (fun hl ht => trod_shot hl ht) (v := .slice a m k) (d := y3.1) (p := y3.2) (fun cs e => by cases e) ⟨n, h3'⟩
  refine ⟨⟨x0, x1, f, shots⟩, A, c, ?_, ⟨Bd.i64 w0, by have := Bd.u64 w1; omega, hty, fun i hi => ht _ (List.getElem_mem hi)⟩, hm, hL⟩
  have e0' : (l.drop 0).take 1 = [Value.int .i64 x0] := by rw [← e0, ci]
  have e1' : (l.drop 1).take 1 = [Value.int .u64 x1] := by rw [← e1, cu]
  have e2' : (l.drop 2).take 56 = Gm.shipCells f := e2
  have q3 : l.drop 58 = [Value.slice A shots.length c] := by rw [← ev, ← hu]; exact cut_end l 58 1 (by omega)
  have q2 : l.drop 2 = Gm.shipCells f ++ [Value.slice A shots.length c] := by rw [← q3, ← e2']; exact cut_at l 2 56
  have q1 : l.drop 1 = [Value.int .u64 x1] ++ (Gm.shipCells f ++ [Value.slice A shots.length c]) := by rw [← q2, ← e1']; exact cut_at l 1 1
  have q0 : l.drop 0 = [Value.int .i64 x0] ++ ([Value.int .u64 x1] ++ (Gm.shipCells f ++ [Value.slice A shots.length c])) := by rw [← q1, ← e0']; exact cut_at l 0 1
  have ql : l = [Value.int .i64 x0] ++ ([Value.int .u64 x1] ++ (Gm.shipCells f ++ [Value.slice A shots.length c])) := q0
  rw [ql]
  rfl
set_option maxRecDepth 100000 in
theorem open_state {b0 : Nat} {v : Value} {d : DataW H} {p : List MemPlace} (hv : Value.okWide Try.prog w .any b0 35 v) (h : DataW.Trod enc Try.prog w base spare held 35 v d p) :
    ∃ (A : Option Addr) (c : Nat) (g : Gm.G) (r : Ros.R), v = .agg (Im.cells g (.slice A g.shots.length c) r) ∧ Gm.ty g ∧ g.shots.length ≤ maxLen ∧ Lies w w.heap.size 6 A g.shots.length (Gm.shotCells g.shots) := by
  obtain ⟨cs, rfl, hsz, _⟩ : ∃ cs, v = .agg cs ∧ cs.size = Try.prog.cellsOf 35 ∧ Row.okWide Try.prog w .any b0 35 cs := by
    simpa [Value.okWide, Try.underlying35] using hv
  rw [show Try.prog.cellsOf 35 = 76 from by kernel_rfl] at hsz
  obtain ⟨l⟩ := cs
  have hl : l.length = 76 := by simpa using hsz
  obtain ⟨fuel, hf⟩ := h
  have hf' : DataW.trod enc Try.prog w base spare held fuel 35 l = some (d, p) := hf
  obtain ⟨y0, y1, n, _, _, h0, h1⟩ := trod_struct2 Try.underlying35 hf'
  have cg : Try.prog.cellsOf 28 = 59 := by kernel_rfl
  have cr : Try.prog.cellsOf 33 = 17 := by kernel_rfl
  simp only [cg] at h0
  simp only [cr] at h1
  obtain ⟨g, A, c, e0, hg, hm, hL⟩ := trod_game (by simp; omega) h0
  obtain ⟨r, e1, _, _⟩ := trod_ros (by simp; omega) h1
  refine ⟨A, c, g, r, ?_, hg, hm, hL⟩
  have q1 : l.drop 59 = (l.drop 59).take 17 := cut_end l 59 17 (by omega)
  have q0 : l.drop 0 = (l.drop 0).take 59 ++ l.drop 59 := cut_at l 0 59
  have e0' : ((l.drop 0).take 59).toArray = Gm.cells g (.slice A g.shots.length c) := e0
  have e1' : ((l.drop 59).take 17).toArray = Ros.cells r := e1
  have ql : l.toArray = Im.cells g (.slice A g.shots.length c) r := by
    unfold Im.cells
    rw [← e0', ← e1', ← q1]
    have := congrArg List.toArray q0
    simp at this ⊢
  exact congrArg Value.agg ql
end
end Go.Proofs.Ytghomofakpjglaa
namespace Go.Proofs.Ytghomofakpjglaa
open Go.RowKit Go.Shelf
set_option linter.unusedVariables false
set_option linter.unusedSimpArgs false

set_option maxHeartbeats 1000000 in
theorem shot_eq' (s t : Gm.Shot) (w : World) : (Op.equalIn 10000 88 (.agg s.cells.toArray) (.agg t.cells.toArray)).run Try.prog w = .ok (s.eqB t) w := by
  obtain ⟨a1, a2, a3, a4, a5, a6⟩ := s
  obtain ⟨b1, b2, b3, b4, b5, b6⟩ := t
  have h := ifs7 w (a1 == b1) (a2 == b2) (a3 == b3) (a4 == b4) (a5 == b5) (a6 == b6) true
  simp only [beq_iff_eq, Bool.and_true] at h
  simp only [Gm.Shot.cells]
  go_simp
  have e : (if True then Result.ok true w else Result.ok false w) = (Result.ok true w : Result Bool) := if_pos trivial
  rw [e] at h
  exact h
theorem shot_neq (s t : Gm.Shot) (w : World) : (binOp .neq 88 (.agg s.cells.toArray) (.agg t.cells.toArray)).run Try.prog w = .ok (.bool (!s.eqB t)) w := by
  simp only [binOp]
  simp [Op.equal, Op.maxDepth, shot_eq']
theorem ships_info' : (Try.prog.info? 25).map (·.size) = some 56 := by kernel_rfl
theorem ships_lie' (g : Gm.G) (v : Value) : ∀ j u, (Gm.shipCells g.ship)[j]? = some u → (Gm.cells g v)[2 + j]? = some u := fun j u hu => by
  have hj : j < 56 := by have := (List.getElem?_eq_some_iff.1 hu).1; rwa [Gm.shipCells_len] at this
  rw [Gm.cells_shipj _ _ _ hj]; exact hu

def Ros.seatsEq (r q : Ros.R) : Bool := (List.range 8).all fun i => (r.peer i == q.peer i && r.gen i == q.gen i)
theorem Ros.seatsEq_iff {r q : Ros.R} : Ros.seatsEq r q = true ↔ ∀ k, k < 8 → r.peer k = q.peer k ∧ r.gen k = q.gen k := by
  unfold Ros.seatsEq; rw [List.all_eq_true]
  exact ⟨fun h i hi => by simpa using h i (by simpa using hi), fun h i hi => by simpa using h i (by simpa using hi)⟩
theorem seats_in2 (r q : Ros.R) (w : World) : (Op.equalIn 9999 31 (.agg (Ros.seatCells r).toArray) (.agg (Ros.seatCells q).toArray)).run Try.prog w = .ok (Ros.seatsEq r q) w := by
  cases hq : Try.prog.info? 30 with
  | none => have := seat2_info; simp [hq] at this
  | some j =>
    have hs : Try.prog.cellsOf 30 = 2 := by kernel_rfl
    rw [run_equalIn_array w 9998 _ _ Try.underlying31 hq, hs]
    rw [run_eqItems_all w 9998 _ 2 _ _ (fun i => .agg (Ros.pair r i).toArray) (fun i => .agg (Ros.pair q i).toArray) (fun i => (r.peer i == q.peer i && r.gen i == q.gen i)) (List.range 8)
      (fun i hi => ⟨seat_part r i (by simpa using hi) w, seat_part q i (by simpa using hi) w, by rw [show (Ros.pair r i).toArray = #[.int .i64 (r.peer i), .int .i64 (r.gen i)] from rfl, show (Ros.pair q i).toArray = #[.int .i64 (q.peer i), .int .i64 (q.gen i)] from rfl, seat_in]⟩)]
    rfl
set_option maxRecDepth 100000 in
set_option maxHeartbeats 4000000 in
theorem ros_eql (r q : Ros.R) (w : World) : (binOp .eql 33 (.agg (Ros.cells r)) (.agg (Ros.cells q))).run Try.prog w = .ok (.bool (r.version == q.version && Ros.seatsEq r q)) w := by
  have hs := seats_in2 r q
  generalize Ros.seatsEq r q = B at *
  simp only [Ros.cells, Ros.seatCells, Ros.pair, List.cons_append, List.nil_append] at hs ⊢
  generalize r.version = v
  generalize q.version = u
  generalize r.peer 0 = rp0 at *
  generalize r.peer 1 = rp1 at *
  generalize r.peer 2 = rp2 at *
  generalize r.peer 3 = rp3 at *
  generalize r.peer 4 = rp4 at *
  generalize r.peer 5 = rp5 at *
  generalize r.peer 6 = rp6 at *
  generalize r.peer 7 = rp7 at *
  generalize r.gen 0 = rg0 at *
  generalize r.gen 1 = rg1 at *
  generalize r.gen 2 = rg2 at *
  generalize r.gen 3 = rg3 at *
  generalize r.gen 4 = rg4 at *
  generalize r.gen 5 = rg5 at *
  generalize r.gen 6 = rg6 at *
  generalize r.gen 7 = rg7 at *
  generalize q.peer 0 = qp0 at *
  generalize q.peer 1 = qp1 at *
  generalize q.peer 2 = qp2 at *
  generalize q.peer 3 = qp3 at *
  generalize q.peer 4 = qp4 at *
  generalize q.peer 5 = qp5 at *
  generalize q.peer 6 = qp6 at *
  generalize q.peer 7 = qp7 at *
  generalize q.gen 0 = qg0 at *
  generalize q.gen 1 = qg1 at *
  generalize q.gen 2 = qg2 at *
  generalize q.gen 3 = qg3 at *
  generalize q.gen 4 = qg4 at *
  generalize q.gen 5 = qg5 at *
  generalize q.gen 6 = qg6 at *
  generalize q.gen 7 = qg7 at *
  by_cases e : v = u
  · subst e
    go_simp
    all_goals (cases B <;> simp)
  · have e2 : (v == u) = false := by simpa using e
    go_simp
    all_goals simp [e, e2]

set_option maxRecDepth 100000 in
set_option maxHeartbeats 8000000 in
theorem refsame_any (g h : Gm.G) (A B : Option Addr) (n m c d : Nat) (w : World) (hn : n = g.shots.length) (hm : m = h.shots.length) (hr : Lies w w.heap.size 6 A n (Gm.shotCells g.shots)) (hq : Lies w w.heap.size 6 B m (Gm.shotCells h.shots))
    (n63 : n ≤ maxLen) (m63 : m ≤ maxLen) :
    Calls Try.prog 51 #[.agg (Gm.cells g (.slice A n c)), .agg (Gm.cells h (.slice B m d))] w fun e w' => (∃ v, e = .returned (.bool v) ∧ (v = true ↔ Gm.Eq g h)) ∧ Below w.heap.size w w' := by
  have n64 : (n : Int) ≤ 9223372036854775807 := by unfold maxLen at n63; omega
  have m64 : (m : Int) ≤ 9223372036854775807 := by unfold maxLen at m63; omega
  have hN : Hid (n = g.shots.length) := Lib.hid hn
  have hM : Hid (m = h.shots.length) := Lib.hid hm
  have b1 : Box ((w.alloc (.cells (Gm.cells g (.slice A n c)) 28)).alloc (.cells (Gm.cells h (.slice B m d)) 28)) w.heap.size 28 (Gm.cells g (.slice A n c)) := (Box.made _ _ _).alloc _
  have b2 : Box ((w.alloc (.cells (Gm.cells g (.slice A n c)) 28)).alloc (.cells (Gm.cells h (.slice B m d)) 28)) (w.heap.size + 1) 28 (Gm.cells h (.slice B m d)) := Box.made_at _ _ _ (by simp)
  have ne : ∀ W, (binOp .neq 25 (.agg (Gm.shipCells g.ship).toArray) (.agg (Gm.shipCells h.ship).toArray)).run Try.prog W = .ok (.bool (!Gm.shipsEq g.ship h.ship)) W := fun W => ships_neq _ _ W
  have g0 := Gm.cells_0 g (.slice A n c)
  have g1 := Gm.cells_1 g (.slice A n c)
  have g58 := Gm.cells_58 g (.slice A n c)
  have h0 := Gm.cells_0 h (.slice B m d)
  have h1 := Gm.cells_1 h (.slice B m d)
  have h58 := Gm.cells_58 h (.slice B m d)
  have hB1 := Lib.hid b1
  have hB2 := Lib.hid b2
  have HE := Lib.hid (show Gm.Eq g h → g.frame = h.frame ∧ g.dice = h.dice ∧ Gm.shipsEq g.ship h.ship = true ∧ g.shots = h.shots from fun e => ⟨e.1, e.2.1, Gm.shipsEq_iff.2 e.2.2.1, e.2.2.2⟩)
  have HI := Lib.hid (show g.frame = h.frame ∧ g.dice = h.dice ∧ Gm.shipsEq g.ship h.ship = true ∧ g.shots = h.shots → Gm.Eq g h from fun e => ⟨e.1, e.2.1, Gm.shipsEq_iff.1 e.2.2.1, e.2.2.2⟩)
  generalize Gm.shipsEq g.ship h.ship = SE at *
  clear b1 b2 hn hm n63 m63
  by_cases e1 : g.frame = h.frame
  rotate_left
  · have x1 : (g.frame != h.frame) = true := by simpa using e1
    have hno := Lib.hid (show ¬ Gm.Eq g h from fun e => e1 (HE.out e).1)
    clear e1 hr hq
    have k1 := hB1.out.cell
    have k2 := hB2.out.cell
    go_enter Try.func51, Try.ntmps51
    go_wp2_with (first | (refine wpList_load_part_g (by first | rfl | kernel_rfl | simp [Region.wanted, yielded]) (ty := 25) rfl rfl hB1.out _ (ships_lie' _ _) Try.underlying25 rfl ships_info' ?_) | (refine wpList_load_part_g (by first | rfl | kernel_rfl | simp [Region.wanted, yielded]) (ty := 25) rfl rfl hB2.out _ (ships_lie' _ _) Try.underlying25 rfl ships_info' ?_))
    go_ret
    exact ⟨by first | exact ⟨false, rfl, by simp; exact hno.out⟩ | exact .inl ⟨rfl, hno.out⟩, two_below' _ _ _⟩
  have x1 : (g.frame != h.frame) = false := by simpa using e1
  by_cases e2 : g.dice = h.dice
  rotate_left
  · have x2 : (g.dice != h.dice) = true := by simpa using e2
    have hno := Lib.hid (show ¬ Gm.Eq g h from fun e => e2 (HE.out e).2.1)
    clear e1 e2 hr hq
    have k1 := hB1.out.cell
    have k2 := hB2.out.cell
    go_enter Try.func51, Try.ntmps51
    go_wp2_with (first | (refine wpList_load_part_g (by first | rfl | kernel_rfl | simp [Region.wanted, yielded]) (ty := 25) rfl rfl hB1.out _ (ships_lie' _ _) Try.underlying25 rfl ships_info' ?_) | (refine wpList_load_part_g (by first | rfl | kernel_rfl | simp [Region.wanted, yielded]) (ty := 25) rfl rfl hB2.out _ (ships_lie' _ _) Try.underlying25 rfl ships_info' ?_))
    go_ret
    exact ⟨by first | exact ⟨false, rfl, by simp; exact hno.out⟩ | exact .inl ⟨rfl, hno.out⟩, two_below' _ _ _⟩
  have x2 : (g.dice != h.dice) = false := by simpa using e2
  cases SE
  · have hno := Lib.hid (show ¬ Gm.Eq g h from fun e => by have := (HE.out e).2.2.1; cases this)
    clear e1 e2 hr hq
    have k1 := hB1.out.cell
    have k2 := hB2.out.cell
    go_enter Try.func51, Try.ntmps51
    go_wp2_with (first | (refine wpList_load_part_g (by first | rfl | kernel_rfl | simp [Region.wanted, yielded]) (ty := 25) rfl rfl hB1.out _ (ships_lie' _ _) Try.underlying25 rfl ships_info' ?_) | (refine wpList_load_part_g (by first | rfl | kernel_rfl | simp [Region.wanted, yielded]) (ty := 25) rfl rfl hB2.out _ (ships_lie' _ _) Try.underlying25 rfl ships_info' ?_))
    go_ret
    exact ⟨by first | exact ⟨false, rfl, by simp; exact hno.out⟩ | exact .inl ⟨rfl, hno.out⟩, two_below' _ _ _⟩
  by_cases e3 : n = m
  rotate_left
  · have x3 : ((n : Int) != (m : Int)) = true := by simp; omega
    have hno := Lib.hid (show ¬ Gm.Eq g h from fun e => by have h4 := (HE.out e).2.2.2; have := hN.out; have := hM.out; rw [h4] at *; omega)
    clear e1 e2 e3 hr hq
    have k1 := hB1.out.cell
    have k2 := hB2.out.cell
    go_enter Try.func51, Try.ntmps51
    go_wp2_with (first | (refine wpList_load_part_g (by first | rfl | kernel_rfl | simp [Region.wanted, yielded]) (ty := 25) rfl rfl hB1.out _ (ships_lie' _ _) Try.underlying25 rfl ships_info' ?_) | (refine wpList_load_part_g (by first | rfl | kernel_rfl | simp [Region.wanted, yielded]) (ty := 25) rfl rfl hB2.out _ (ships_lie' _ _) Try.underlying25 rfl ships_info' ?_))
    go_ret
    exact ⟨by first | exact ⟨false, rfl, by simp; exact hno.out⟩ | exact .inl ⟨rfl, hno.out⟩, two_below' _ _ _⟩
  subst e3
  have HF := Lib.hid (And.intro e1 e2)
  clear e1 e2
  have k1 := hB1.out.cell
  have k2 := hB2.out.cell
  go_enter Try.func51, Try.ntmps51
  go_wp2_with (first | (refine wpList_load_part_g (by first | rfl | kernel_rfl | simp [Region.wanted, yielded]) (ty := 25) rfl rfl hB1.out _ (ships_lie' _ _) Try.underlying25 rfl ships_info' ?_) | (refine wpList_load_part_g (by first | rfl | kernel_rfl | simp [Region.wanted, yielded]) (ty := 25) rfl rfl hB2.out _ (ships_lie' _ _) Try.underlying25 rfl ships_info' ?_))
  go_loopw [5] (fun i wr => ∃ k : Nat, k ≤ n ∧ i = .int .i64 k ∧ Box wr w.heap.size 28 (Gm.cells g (.slice A n c)) ∧ Box wr (w.heap.size + 1) 28 (Gm.cells h (.slice B n d)) ∧ Below w.heap.size w wr ∧ ∀ j, j < k → g.shots[j]? = h.shots[j]?) (fun i _ => n - (intOf i).toNat)
  case atStart => exact ⟨0, by omega, rfl, hB1.out, hB2.out, two_below' _ _ _, fun j hj => absurd hj (Nat.not_lt_zero j)⟩
  case round =>
    obtain ⟨k, hk, rfl, hB, hC, hb, hall⟩ := hrel
    have HALL := Lib.hid hall
    have hcr := hB.cell
    have hds := hC.cell
    clear hall
    by_cases hlt : k < n
    · have hkg : k < g.shots.length := by have := hN.out; omega
      have hkh : k < h.shots.length := by have := hM.out; omega
      obtain ⟨ad, rfl, hbl, a0, a1, a2, a3, a4, a5⟩ := shots_at (hr.below hb) hN.out k hkg
      obtain ⟨bd, rfl, hbm, c0, c1, c2, c3, c4, c5⟩ := shots_at (hq.below hb) hM.out k hkh
      have HS := Lib.hid (show Gm.Eq g h → g.shots[k]'hkg = h.shots[k]'hkh from fun e => by
        have h4 := (HE.out e).2.2.2
        simp only [h4])
      have HT := Lib.hid (show g.shots[k]'hkg = h.shots[k]'hkh → ∀ j, j < k + 1 → g.shots[j]? = h.shots[j]? from fun e j hj => by
        by_cases ej : j = k
        · subst ej
          rw [List.getElem?_eq_getElem hkg, List.getElem?_eq_getElem hkh, e]
        · exact HALL.out j (by omega))
      have hsn := fun W => shot_neq (g.shots[k]'hkg) (h.shots[k]'hkh) W
      have hiff := @Gm.Shot.eqB_iff (g.shots[k]'hkg) (h.shots[k]'hkh)
      generalize g.shots[k]'hkg = s at a0 a1 a2 a3 a4 a5 HS HT hsn hiff
      generalize h.shots[k]'hkh = t at c0 c1 c2 c3 c4 c5 HS HT hsn hiff
      obtain ⟨owner, x, y, vx, vy, left⟩ := s
      obtain ⟨owner2, p, q, vp, vq, left2⟩ := t
      dsimp only at a0 a1 a2 a3 a4 a5 c0 c1 c2 c3 c4 c5
      simp only [Gm.Shot.cells] at hsn
      have hk8 : (k : Int) < n := by omega
      have HB := Lib.hid hB
      have HC := Lib.hid hC
      have HBB := Lib.hid hb
      clear hr hq ne hB1 hB2 g0 g1 h0 h1 x1 x2 hB hC hb
      cases hse : Gm.Shot.eqB ⟨owner, x, y, vx, vy, left⟩ ⟨owner2, p, q, vp, vq, left2⟩
      · rw [hse] at hsn hiff
        have hno := Lib.hid (show ¬ Gm.Eq g h from fun e => by have := hiff.2 (HS.out e); cases this)
        clear hse hiff
        go_upto_region 6 with fail
        go_quiet (fail)
        go_wp2
        go_ret
        exact ⟨by first | exact ⟨false, rfl, by simp; exact hno.out⟩ | exact .inl ⟨rfl, hno.out⟩, draws_below HBB.out _⟩
      · rw [hse] at hsn hiff
        have hn2 := Lib.hid (HT.out (hiff.1 rfl))
        clear hse hiff
        go_upto_region 6 with fail
        go_quiet (fail)
        go_wp2
        go_roundw
        case rel => exact ⟨k + 1, by omega, by go_num, HB.out.draws _, HC.out.draws _, draws_below HBB.out _, hn2.out⟩
        case measure => simp [intOf]; omega
    · have hk8 : ¬ (k : Int) < n := by omega
      have hyes := Lib.hid (show Gm.Eq g h from HI.out ⟨HF.out.1, HF.out.2, trivial, List.ext_getElem? fun j => by
        by_cases hj : j < n
        · exact HALL.out j (by omega)
        · rw [List.getElem?_eq_none (by have := hN.out; omega), List.getElem?_eq_none (by have := hM.out; omega)]⟩)
      have HBB := Lib.hid hb
      clear hr hq ne hB1 hB2 g0 g1 h0 h1 x1 x2 hB hC hb
      go_wp2
      go_ret
      exact ⟨by first | exact ⟨true, rfl, by simp; exact hyes.out⟩ | exact .inr ⟨rfl, hyes.out⟩, HBB.out⟩

set_option maxRecDepth 100000 in
set_option maxHeartbeats 4000000 in
theorem refsamest_any (g h : Gm.G) (r q : Ros.R) (A B : Option Addr) (n m c d : Nat) (w : World) (hn : n = g.shots.length) (hm : m = h.shots.length) (hr : Lies w w.heap.size 6 A n (Gm.shotCells g.shots)) (hq : Lies w w.heap.size 6 B m (Gm.shotCells h.shots))
    (n63 : n ≤ maxLen) (m63 : m ≤ maxLen) :
    Calls Try.prog 19 #[.agg (Im.cells g (.slice A n c) r), .agg (Im.cells h (.slice B m d) q)] w fun e w' => (∃ v, e = .returned (.bool v) ∧ (v = true ↔ (Gm.Eq g h ∧ r.version = q.version ∧ ∀ k, k < 8 → r.peer k = q.peer k ∧ r.gen k = q.gen k))) ∧ Below w.heap.size w w' := by
  have P0 := Lib.hid ((Box.made w 35 (Im.cells g (.slice A n c) r)).alloc (.cells (Im.cells h (.slice B m d) q) 35))
  have Q0 := Lib.hid (Box.made_at (n := w.heap.size + 1) (w.alloc (.cells (Im.cells g (.slice A n c) r) 35)) 35 (Im.cells h (.slice B m d) q) (by simp))
  have K0 := Lib.hid (two_below' w (.cells (Im.cells g (.slice A n c) r) 35) (.cells (Im.cells h (.slice B m d) q) 35))
  have cg := Lib.hid (refsame_any g h A B n m c d _ hn hm ((hr.below K0.out).wider K0.out.size) ((hq.below K0.out).wider K0.out.size) n63 m63)
  have he := fun W => ros_eql r q W
  have HI := Lib.hid (show (r.version == q.version && Ros.seatsEq r q) = true ↔ (r.version = q.version ∧ ∀ k, k < 8 → r.peer k = q.peer k ∧ r.gen k = q.gen k) by rw [Bool.and_eq_true, Ros.seatsEq_iff]; simp)
  generalize (r.version == q.version && Ros.seatsEq r q) = E at he HI
  clear hr hq hn hm
  go_enter Try.func19, Try.ntmps19
  go_wp2_with (first | ((with_reducible refine im_load_game rfl rfl ?_); apply LoadIm.mk rfl; (focus first | (with_reducible exact P0.out) | (with_reducible exact Q0.out)); dsimp only) | ((with_reducible refine im_load_ros_g ?_ rfl ?_); (focus first | rfl | kernel_rfl | simp [Region.wanted, yielded]); apply LoadIm.mk rfl; (focus first | (with_reducible exact P1.out) | (with_reducible exact Q1.out)); dsimp only) | (go_at_call 51; ((with_reducible refine (cg.out).mono ?_); rintro e w1 ⟨⟨v, rfl, hv⟩, hb⟩; have P1 := Lib.hid (P0.out.below hb P0.out.lt); have Q1 := Lib.hid (Q0.out.below hb Q0.out.lt); have K1 := Lib.hid (K0.out.trans (hb.mono K0.out.size)); have HV := Lib.hid hv; clear hb hv; cases v)))
  all_goals
    go_ret
    first
      | exact ⟨⟨false, rfl, by simp only [Bool.false_eq_true, false_iff]; exact fun x => by have := HV.out.2 x.1; simp at this⟩, K1.out⟩
      | exact ⟨⟨E, rfl, HI.out.trans ⟨fun x => ⟨HV.out.1 (by first | trivial | rfl), x⟩, fun x => x.2⟩⟩, K1.out⟩
      | exact ⟨by simp; exact fun x => absurd (HV.out.2 x) (by simp), K1.out⟩
      | exact ⟨by simp; exact HI.out.trans ⟨fun x => ⟨HV.out.1 (by first | trivial | rfl), x⟩, fun x => x.2⟩, K1.out⟩
      | trace_state
end Go.Proofs.Ytghomofakpjglaa
namespace Go.Proofs.Ytghomofakpjglaa
open Go.RowKit
set_option linter.unusedVariables false

section
variable {P : Program} {ops : Array Oper} {rest : List Oper} {o : Oper} {a : Act} {w : World} {Q : Exit → Act → World → Prop}
/-- What the load of a struct at an address wants. -/
def LoadAt (P : Program) (ops : Array Oper) (Q : Exit → Act → World → Prop) (rest : List Oper) (dst : Option Tmp) (p : Value) (size : Nat) (a : Act) (w : World) : Prop :=
  ∃ (ad : Addr) (cs : List Value), p = .pointer (some ad) ∧ (∀ j v, cs[j]? = some v → w.cell? (ad.add j) = some v) ∧ cs.length = size ∧ wpList P ops Q rest (a.put dst (.agg cs.toArray)) w
theorem LoadAt.mk {dst : Option Tmp} {p : Value} {size : Nat} {ad : Addr} {cs : List Value} (hp : p = .pointer (some ad)) (hc : ∀ j v, cs[j]? = some v → w.cell? (ad.add j) = some v) (hs : cs.length = size) (h : wpList P ops Q rest (a.put dst (.agg cs.toArray)) w) : LoadAt P ops Q rest dst p size a w := ⟨ad, cs, hp, hc, hs, h⟩
end
/-- The first n of a slice. -/
theorem run_slice_to {P : Program} {t e : TypeId} {sz : Nat} (a : Option Addr) (len cap n : Nat) (hu : P.underlying t = some (.slice e)) (hs : (P.info? e).map (·.size) = some sz) (h : n ≤ cap) (w : World) :
    (Instr.slice t (.slice a len cap) none (some (.int .i64 (n : Int))) none).run P w = .ok (.slice a n cap) w := by
  have h0 : (0 : Int) ≤ n := by omega
  have h1 : (n : Int) ≤ cap := by omega
  cases hq : P.info? e with
  | none => simp [hq] at hs
  | some i =>
    have ea : (if cap = 0 then a else a.map fun x => x.add 0) = a := by
      split
      · rfl
      · cases a
        · rfl
        · simp [Addr.add]
    simp [Instr.slice, run_underlying hu, Instr.sliceBounds, Instr.sliceBound, asIntOf, sizeOf, typeInfo, hq, h, Addr.add]
end Go.Proofs.Ytghomofakpjglaa
