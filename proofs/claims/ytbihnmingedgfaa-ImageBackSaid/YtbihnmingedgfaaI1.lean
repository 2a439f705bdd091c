/-
A ship that is on, read.
-/
import Derived.Test.YtbihnmingedgfaaIy
namespace Go.Proofs.Ytbihnmingedgfaa
open Go.RowKit Go.Shelf
set_option linter.unusedVariables false
set_option linter.unusedSimpArgs false

set_option maxRecDepth 100000 in
set_option maxHeartbeats 4000000 in
theorem layship_on_r (x y vx vy cool score : Int) (P o : Nat) (t : TypeId) (cs : Array Value) (rest : List Int) (b Bb Bp : Nat) (w : World) (hbB : b ≤ Bb) (hbP : b ≤ P) (hbw : b ≤ w.heap.size) (h : Rd b Bb Bp (Im.ship ⟨true, x, y, vx, vy, cool, score⟩ ++ rest) w) (hP : Box w P t cs)
    (o0 : cs[o]? = some (.bool false)) (oz : ∀ k, k < 4 → cs[o + 1 + k]? = some (.int .i32 0)) (o5 : cs[o + 5]? = some (.int .i64 0)) (o6 : cs[o + 6]? = some (.int .i64 0))
    (wx : -2147483648 ≤ x ∧ x ≤ 2147483647) (wy : -2147483648 ≤ y ∧ y ≤ 2147483647) (wvx : -2147483648 ≤ vx ∧ vx ≤ 2147483647) (wvy : -2147483648 ≤ vy ∧ vy ≤ 2147483647) (wc : 0 ≤ cool ∧ cool ≤ 10) (ws : 0 ≤ score ∧ score ≤ 1073741824) (h1 : t ≠ 54) (h2 : t ≠ 5) (h3 : t ≠ 120) :
    Calls Try.prog 126 #[.func (.func 130) #[] #[.pointer (some ⟨Bp, 0, none⟩)], .pointer (some ⟨P, o, none⟩)] w fun e w' => e = .returned (.tuple #[]) ∧ Rd b Bb Bp rest w' ∧ Rk b Bb P w w' ∧ ∃ cs', Box w' P t cs' ∧ Im.Patch cs o (Gm.Ship.cells ⟨true, x, y, vx, vy, cool, score⟩) cs' := by
  have eh : Im.ship ⟨true, x, y, vx, vy, cool, score⟩ ++ rest = Im.bytesOf 1 1 ++ (Im.flight (fun k => match k with | 0 => x | 1 => y | 2 => vx | _ => vy) 4 ++ (Im.bytesOf 1 cool ++ (Im.bytesOf 4 score ++ rest))) := by
    unfold Im.ship
    rw [if_pos rfl]
    simp only [List.append_assoc]
    rfl
  rw [eh] at h
  clear eh
  have k0 := hP.cell o
  rw [o0] at k0
  have ltP := hP.lt
  have HPA := Lib.hid (hP.alloc (.cells #[.int .i64 0] 3))
  have HKA := Lib.hid (Rk.alloc (w := w) (Bb := Bb) (P := P) hbw (.cells #[.int .i64 0] 3))
  have c1 := Lib.hid (layint_r 1 1 rfl 1 1 0 (by omega) (by omega) w.heap.size 0 3 #[.int .i64 0] _ b Bb Bp _ (by decide) hbB hbw (by simp <;> omega) (h.call (one_below w (.cells #[.int .i64 0] 3)) hbw) (Box.made w 3 #[.int .i64 0]) rfl (by decide) (by decide) (by decide))
  have HO := Lib.hid o0
  have HB := Lib.hid hbP
  have HW := Lib.hid hbw
  clear h hP hbw
  go_enter Try.func126, Try.ntmps126
  go_upto_region 6 with (first | (go_at_call 76; ((with_reducible refine (need_yes _ _).mono ?_); rintro e wn ⟨rfl, rfl⟩)) | (go_at_call 124; ((with_reducible refine (c1.out).mono ?_); rintro e w1 ⟨rfl, hI1, hK1, hL1⟩; have l1 := hL1.cell 0; have P1 := Lib.hid (hK1.kb _ _ _ HPA.out (by omega) h1 h2); have p1 := P1.out.cell o; rw [HO.out] at p1; have f1 := P1.out.free o; have I1 := Lib.hid hI1; have K1 := Lib.hid (HKA.out.local hK1 (Nat.le_refl _)); clear hI1 hK1 hL1 k0 c1)))
  obtain ⟨U, hU⟩ : ∃ U, U = w1.setCell ⟨P, o, none⟩ (.bool true) := ⟨_, rfl⟩
  have IU := Lib.hid (show Rd b Bb Bp _ U from hU ▸ I1.out.off (p := ⟨P, o, none⟩) P1.out h3 h1 HB.out (.bool true))
  have KU := Lib.hid (show Rk b Bb P w U from hU ▸ K1.out.put HB.out o (.bool true))
  have PU := Lib.hid (show Box U P t (cs.setIfInBounds o (.bool true)) from hU ▸ P1.out.put o (.bool true))
  rw [← hU]
  have T0 := Im.Patch.one (.bool true) o0
  have u0 := (PU.out.cell o).trans (T0.at 0 (by decide))
  simp only [List.getElem?_cons_zero] at u0
  have hc1 : ∀ k, k < 4 → (cs.setIfInBounds o (.bool true))[o + 1 + k]? = some (.int .i32 0) := fun k hk => (T0.cell (.inr (by show o + 1 ≤ o + 1 + k; omega))).trans (oz k hk)
  have cf := fun X hX1 hX2 hX3 Bq hne hq => Lib.hid (layflight_r (fun k => match k with | 0 => x | 1 => y | 2 => vx | _ => vy) P (o + 1) Bq t (cs.setIfInBounds o (.bool true)) (Im.bytesOf 1 cool ++ (Im.bytesOf 4 score ++ rest)) b Bb Bp X (fun k hk => by
    match k, hk with
    | 0, _ => exact wx
    | 1, _ => exact wy
    | 2, _ => exact wvx
    | 3, _ => exact wvy) hbB hbP hX1 hX2 hX3 hc1 h1 h2 h3 hne hq 4)
  have HT0 := Lib.hid T0
  clear hU I1 K1 P1 p1 f1 l1 HPA HKA hc1 T0 oz o0
  go_upto_region 7 with fail
  refine Rp.wp_region_lex (by kernel_rfl) [] (by kernel_rfl) (· = U.drew) (fun _ => True) (fun _ => True) rfl (fun W hW => ⟨trivial, trivial⟩) ?_
  repeat (first
    | (apply Rp.lex_free rfl rfl; focus (intro _; go_simp; first | done | rfl))
    | (apply Rp.lex_look rfl rfl rfl rfl; focus (intro W hW; clear hW; go_simp; first | done | rfl)))
  refine Rp.lex_make rfl (W' := U.drew.alloc (.cells #[.pointer (some ⟨P, o + 1, none⟩), .pointer (some ⟨P, o + 2, none⟩), .pointer (some ⟨P, o + 3, none⟩), .pointer (some ⟨P, o + 4, none⟩)] 180)) (v := .slice (some ⟨U.drew.heap.size, 0, none⟩) 4 4) ?_ ⟨trivial, trivial⟩ ?_
  focus (go_simp; first | done | rfl)
  refine Rp.lex_call (C' := fun Z => Rd b Bb Bp (Im.bytesOf 1 cool ++ (Im.bytesOf 4 score ++ rest)) Z ∧ Rk b Bb P w Z ∧ ∃ cs', Box Z P t cs' ∧ Im.Patch cs o ([.bool true] ++ Im.parts (fun k => match k with | 0 => x | 1 => y | 2 => vx | _ => vy) 4) cs') (v := .tuple #[]) (f := 153) (args := #[.func (.func 130) #[] #[.pointer (some ⟨Bp, 0, none⟩)], .slice (some ⟨U.drew.heap.size, 0, none⟩) 4 4]) rfl ?_ ?_ ?_ ?_
  · intro Z hZ; clear hZ; go_simp; first | done | rfl | exact ⟨rfl, rfl⟩
  · intro Z hZ
    subst hZ
    have hs0 : b ≤ U.heap.size := Nat.le_trans HW.out KU.out.below.size
    have KA : Rk b Bb P w (U.drew.alloc (.cells #[.pointer (some ⟨P, o + 1, none⟩), .pointer (some ⟨P, o + 2, none⟩), .pointer (some ⟨P, o + 3, none⟩), .pointer (some ⟨P, o + 4, none⟩)] 180)) := KU.out.trans ⟨((one_below' U).mono hs0).trans ((one_below U.drew _).mono hs0), ((Kb.refl U).call (one_below' U)).call (one_below U.drew _)⟩
    have hW := (IU.out.call (one_below' U) hs0).call (one_below U.drew (.cells #[.pointer (some ⟨P, o + 1, none⟩), .pointer (some ⟨P, o + 2, none⟩), .pointer (some ⟨P, o + 3, none⟩), .pointer (some ⟨P, o + 4, none⟩)] 180)) hs0
    refine (cf _ (Nat.le_trans HW.out KA.below.size) hW (PU.out.drew.alloc _) U.drew.heap.size (by have := PU.out.drew.lt; omega) (Box.made _ _ _)).out.mono ?_
    rintro e Z2 ⟨rfl, hI2, hK2, cs', hB2, hp2⟩
    exact ⟨rfl, hI2, KA.trans hK2, cs', hB2, HT0.out.trans hp2 rfl⟩
  · exact fun Z hZ => ⟨trivial, trivial⟩
  refine Rp.lex_end fun W3 hW3 => ?_
  obtain ⟨hI3, hK3, cs3, hP3, hp3⟩ := hW3
  have len3 : ([Value.bool true] ++ Im.parts (fun k => match k with | 0 => x | 1 => y | 2 => vx | _ => vy) 4).length = 5 := by rw [List.length_append, Im.parts_len]; rfl
  have z5 : cs3[o + 5]? = some (.int .i64 0) := (hp3.cell (.inr (by rw [len3]; exact Nat.le_refl _))).trans o5
  have T5 := hp3.trans (Im.Patch.one (.int .i64 cool) z5) (by rw [len3])
  have z6 : (cs3.setIfInBounds (o + 5) (.int .i64 cool))[o + 6]? = some (.int .i64 0) := (T5.cell (.inr (by rw [List.length_append, len3]; exact Nat.le_refl _))).trans o6
  have T6 := T5.trans (Im.Patch.one (.int .i64 score) z6) (by rw [List.length_append, len3]; rfl)
  have c5 := Lib.hid (layint_r 1 1 rfl cool cool 0 (by omega) (by omega) P (o + 5) t cs3 (Im.bytesOf 4 score ++ rest) b Bb Bp W3 (by decide) hbB hbP (Nat.le_trans HW.out hK3.below.size) hI3 hP3 z5 h1 h2 h3)
  have c6 := fun X hX1 hX2 hX3 => Lib.hid (layint_r 4 4 rfl score score 0 (by omega) (by omega) P (o + 6) t (cs3.setIfInBounds (o + 5) (.int .i64 cool)) rest b Bb Bp X (by decide) hbB hbP hX1 hX2 hX3 z6 h1 h2 h3)
  have p3 := hP3.cell
  have K3 := Lib.hid hK3
  have HT6 := Lib.hid T6
  clear hI3 hK3 hP3 cf IU KU PU u0 o5 o6 hp3 len3 z5 T5 z6 T6 HT0
  go_wp2_with (first | (go_at_call 124; ((with_reducible refine (c5.out).mono ?_); rintro e w4 ⟨rfl, hI, hK, hB⟩; have P4 := Lib.hid hB; have I4 := Lib.hid hI; have K4 := Lib.hid (K3.out.trans hK); clear hI hK hB c5)) | (go_at_call 124; ((with_reducible refine ((c6 _ (Nat.le_trans HW.out K4.out.below.size) I4.out P4.out).out).mono ?_); rintro e w5 ⟨rfl, hI, hK, hB⟩; have P5 := Lib.hid hB; have I5 := Lib.hid hI; have K5 := Lib.hid (K4.out.trans hK); clear hI hK hB)))
  go_end0
  exact ⟨rfl, I5.out, K5.out, _, P5.out, HT6.out⟩
end Go.Proofs.Ytbihnmingedgfaa
