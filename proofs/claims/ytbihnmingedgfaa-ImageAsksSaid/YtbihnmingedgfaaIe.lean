/-
The program's image: a ship is put.
-/
import Derived.Test.YtbihnmingedgfaaId
import Derived.Test.YtbihnmingedgfaaGp
import Derived.Deep.CutRange
import Derived.Deep.CutBlock
import Derived.Deep.DeepCutAuto
namespace Go.Proofs.Ytbihnmingedgfaa
open Go.RowKit Go.Shelf
set_option linter.unusedVariables false

/-- The bytes of a ship. -/
def Im.ship (s : Gm.Ship) : List Int :=
  if s.on = true then Im.bytesOf 1 1 ++ (Im.flight (fun k => match k with | 0 => s.x | 1 => s.y | 2 => s.vx | _ => s.vy) 4 ++ (Im.bytesOf 1 s.cool ++ Im.bytesOf 4 s.score)) else Im.bytesOf 1 0

set_option maxRecDepth 100000 in
set_option maxHeartbeats 2000000 in
theorem layship_off (P o : Nat) (t : TypeId) (cs : Array Value) (bs : List Int) (b Bb Bp : Nat) (w : World) (hbB : b ≤ Bb) (h : Wr b Bb Bp bs w) (hl : bs.length + 1 ≤ 65536) (hP : Box w P t cs) (ho : cs[o]? = some (.bool false)) (h1 : t ≠ 54) (h2 : t ≠ 5) (h3 : t ≠ 120) :
    Calls Try.prog 126 #[.func (.func 129) #[] #[.pointer (some ⟨Bp, 0, none⟩)], .pointer (some ⟨P, o, none⟩)] w fun e w' => e = .returned (.tuple #[]) ∧ Wr b Bb Bp (bs ++ Im.bytesOf 1 0) w' ∧ Wrote b Bb w w' := by
  have k0 := hP.cell o
  rw [ho] at k0
  have ltP := hP.lt
  have HL := Lib.hid (Box.made w 3 #[.int .i64 0])
  have HPA := Lib.hid (hP.alloc (.cells #[.int .i64 0] 3))
  have HA := Lib.hid (h.alloc (.cells #[.int .i64 0] 3))
  have WA := Lib.hid ((Wrote.refl hbB w).alloc (.cells #[.int .i64 0] 3))
  have c1 := Lib.hid (layint_w 1 1 rfl 0 w.heap.size 0 3 #[.int .i64 0] bs b Bb Bp _ (by decide) (by omega) hbB HA.out (by omega) HL.out rfl (by decide) (by decide) (by decide))
  rw [show IntKind.u64.wrap 0 = 0 from rfl] at c1
  have hvar := Lib.hid HA.out.isvar
  have HO := Lib.hid ho
  clear h hP ho
  go_enter Try.func126, Try.ntmps126
  go_wp2_with (first | (go_at_call 76; ((with_reducible refine (need_yes _ _).mono ?_); rintro e wn ⟨rfl, rfl⟩)) | (go_at_call 124; ((with_reducible refine (c1.out).mono ?_); rintro e w1 ⟨rfl, hI1, hK1⟩; have L1 := HL.out.wrote' hK1 hvar.out (by decide) (by decide); have l1 := L1.cell 0; have P1 := Lib.hid (HPA.out.wrote' hK1 hvar.out h1 h2); have p1 := P1.out.cell o; rw [HO.out] at p1; have f1 := P1.out.free o; have I1 := Lib.hid hI1; have K1 := Lib.hid (WA.out.trans hK1); clear hI1 hK1 L1 k0)))
  refine bodyPost_ret (results_none rfl _ _ _) rfl ?_
  exact ⟨rfl, I1.out.off (p := ⟨P, o, none⟩) P1.out h3 h1 h2 _, K1.out.noop P1.out HO.out⟩

set_option maxRecDepth 100000 in
set_option maxHeartbeats 4000000 in
theorem layship_on (x y vx vy cool score : Int) (P o : Nat) (t : TypeId) (cs : Array Value) (bs : List Int) (b Bb Bp : Nat) (w : World) (hbB : b ≤ Bb) (h : Wr b Bb Bp bs w) (hl : bs.length + 22 ≤ 65536) (hP : Box w P t cs)
    (o0 : cs[o]? = some (.bool true)) (o1 : cs[o + 1]? = some (.int .i32 x)) (o2 : cs[o + 2]? = some (.int .i32 y)) (o3 : cs[o + 3]? = some (.int .i32 vx)) (o4 : cs[o + 4]? = some (.int .i32 vy)) (o5 : cs[o + 5]? = some (.int .i64 cool)) (o6 : cs[o + 6]? = some (.int .i64 score))
    (wx : -2147483648 ≤ x ∧ x ≤ 2147483647) (wy : -2147483648 ≤ y ∧ y ≤ 2147483647) (wvx : -2147483648 ≤ vx ∧ vx ≤ 2147483647) (wvy : -2147483648 ≤ vy ∧ vy ≤ 2147483647) (wc : 0 ≤ cool ∧ cool ≤ 10) (ws : 0 ≤ score ∧ score ≤ 1073741824) (h1 : t ≠ 54) (h2 : t ≠ 5) (h3 : t ≠ 120) :
    Calls Try.prog 126 #[.func (.func 129) #[] #[.pointer (some ⟨Bp, 0, none⟩)], .pointer (some ⟨P, o, none⟩)] w fun e w' => e = .returned (.tuple #[]) ∧ Wr b Bb Bp (bs ++ Im.ship ⟨true, x, y, vx, vy, cool, score⟩) w' ∧ Wrote b Bb w w' := by
  have k0 := hP.cell o
  rw [o0] at k0
  have ltP := hP.lt
  have HL := Lib.hid (Box.made w 3 #[.int .i64 1])
  have HPA := Lib.hid (hP.alloc (.cells #[.int .i64 1] 3))
  have HA := Lib.hid (h.alloc (.cells #[.int .i64 1] 3))
  have WA := Lib.hid ((Wrote.refl hbB w).alloc (.cells #[.int .i64 1] 3))
  have c1 := Lib.hid (layint_w 1 1 rfl 1 w.heap.size 0 3 #[.int .i64 1] bs b Bb Bp _ (by decide) (by omega) hbB HA.out (by omega) HL.out rfl (by decide) (by decide) (by decide))
  rw [show IntKind.u64.wrap 1 = 1 from rfl] at c1
  have hvar := Lib.hid HA.out.isvar
  have HO := Lib.hid o0
  clear h hP o0
  go_enter Try.func126, Try.ntmps126
  go_upto_region 6 with (first | (go_at_call 76; ((with_reducible refine (need_yes _ _).mono ?_); rintro e wn ⟨rfl, rfl⟩)) | (go_at_call 124; ((with_reducible refine (c1.out).mono ?_); rintro e w1 ⟨rfl, hI1, hK1⟩; have L1 := HL.out.wrote' hK1 hvar.out (by decide) (by decide); have l1 := L1.cell 0; have P1 := Lib.hid (HPA.out.wrote' hK1 hvar.out h1 h2); have p1 := P1.out.cell o; rw [HO.out] at p1; have f1 := P1.out.free o; have I1 := Lib.hid hI1; have K1 := Lib.hid (WA.out.trans hK1); clear hI1 hK1 L1 k0)))
  obtain ⟨U, hU⟩ : ∃ U, U = w1.setCell ⟨P, o, none⟩ (.bool true) := ⟨_, rfl⟩
  have IU : Wr b Bb Bp (bs ++ Im.bytesOf 1 1) U := by rw [hU]; exact I1.out.off (p := ⟨P, o, none⟩) P1.out h3 h1 h2 _
  have KU : Wrote b Bb w U := by rw [hU]; exact K1.out.noop P1.out HO.out
  have PU : Box U P t cs := ⟨by rw [hU, setCell_noop P1.out HO.out]; exact P1.out.is⟩
  rw [← hU]
  have u0 := PU.cell o
  rw [HO.out] at u0
  have IU := Lib.hid IU
  have KU := Lib.hid KU
  have PU := Lib.hid PU
  clear hU I1 K1 P1 p1 f1 l1 HA HL HPA WA hvar c1
  go_upto_region 7 with fail
  have cf := fun X (hX : Wr b Bb Bp (bs ++ Im.bytesOf 1 1) X) (hB : Box X P t cs) Bq hq => Lib.hid (layflight_w (fun k => match k with | 0 => x | 1 => y | 2 => vx | _ => vy) (fun k => o + 1 + k) P Bq t cs (bs ++ Im.bytesOf 1 1) b Bb Bp X (fun k hk => by
    match k, hk with
    | 0, _ => exact wx
    | 1, _ => exact wy
    | 2, _ => exact wvx
    | 3, _ => exact wvy) hbB hX (by rw [List.length_append, Im.bytesOf_len]; omega) hB (fun k hk => by
    match k, hk with
    | 0, _ => exact o1
    | 1, _ => exact o2
    | 2, _ => exact o3
    | 3, _ => exact o4) h1 h2 h3 hq 4)
  refine Rp.wp_region_lex (by kernel_rfl) [] (by kernel_rfl) (· = U.drew) (fun _ => True) (fun _ => True) rfl (fun W hW => ⟨trivial, trivial⟩) ?_
  repeat (first
    | (apply Rp.lex_free rfl rfl; focus (intro _; go_simp; first | done | rfl))
    | (apply Rp.lex_look rfl rfl rfl rfl; focus (intro W hW; clear hW; go_simp; first | done | rfl)))
  refine Rp.lex_make rfl (W' := U.drew.alloc (.cells #[.pointer (some ⟨P, o + 1, none⟩), .pointer (some ⟨P, o + 2, none⟩), .pointer (some ⟨P, o + 3, none⟩), .pointer (some ⟨P, o + 4, none⟩)] 180)) (v := .slice (some ⟨U.drew.heap.size, 0, none⟩) 4 4) ?_ ⟨trivial, trivial⟩ ?_
  focus (go_simp; first | done | rfl)
  refine Rp.lex_call (C' := fun Z => Wr b Bb Bp (bs ++ Im.bytesOf 1 1 ++ Im.flight (fun k => match k with | 0 => x | 1 => y | 2 => vx | _ => vy) 4) Z ∧ Wrote b Bb w Z ∧ Box Z P t cs) (v := .tuple #[]) (f := 153) (args := #[.func (.func 129) #[] #[.pointer (some ⟨Bp, 0, none⟩)], .slice (some ⟨U.drew.heap.size, 0, none⟩) 4 4]) rfl ?_ ?_ ?_ ?_
  · intro Z hZ; clear hZ; go_simp; first | done | rfl | exact ⟨rfl, rfl⟩
  · intro Z hZ
    subst hZ
    have hW := (IU.out.call (one_below' U)).alloc (.cells #[.pointer (some ⟨P, o + 1, none⟩), .pointer (some ⟨P, o + 2, none⟩), .pointer (some ⟨P, o + 3, none⟩), .pointer (some ⟨P, o + 4, none⟩)] 180)
    refine (cf _ hW (PU.out.drew.alloc _) U.drew.heap.size (Box.made _ _ _)).out.mono ?_
    rintro e Z2 ⟨rfl, hI2, hK2⟩
    exact ⟨rfl, hI2, (KU.out.drew.alloc _).trans hK2, (PU.out.drew.alloc _).wrote' hK2 hW.isvar h1 h2⟩
  · exact fun Z hZ => ⟨trivial, trivial⟩
  refine Rp.lex_end fun W3 hW3 => ?_
  obtain ⟨hI3, hK3, hP3⟩ := hW3
  have P3 := Lib.hid hP3
  have p3 := P3.out.cell
  have IV3 := Lib.hid hI3.isvar
  have K3 := Lib.hid hK3
  have hwc : IntKind.u64.wrap cool = cool := by rw [IntKind.wrap_u64]; omega
  have hws : IntKind.u64.wrap score = score := by rw [IntKind.wrap_u64]; omega
  have lf := Im.flight_len (fun k => match k with | 0 => x | 1 => y | 2 => vx | _ => vy) 4
  have c5 := Lib.hid (layint_w 1 1 rfl cool P (o + 5) t cs _ b Bb Bp W3 (by decide) (by omega) hbB hI3 (by rw [List.length_append, List.length_append, Im.bytesOf_len, lf]; omega) hP3 o5 h1 h2 h3)
  rw [hwc] at c5
  have c6 := fun X (hX : Wr b Bb Bp (bs ++ Im.bytesOf 1 1 ++ Im.flight (fun k => match k with | 0 => x | 1 => y | 2 => vx | _ => vy) 4 ++ Im.bytesOf 1 cool) X) (hB : Box X P t cs) => Lib.hid (layint_w 4 4 rfl score P (o + 6) t cs _ b Bb Bp X (by decide) (by omega) hbB hX (by rw [List.length_append, List.length_append, List.length_append, Im.bytesOf_len, Im.bytesOf_len, lf]; omega) hB o6 h1 h2 h3)
  rw [hws] at c6
  have hsh : Hid (bs ++ Im.bytesOf 1 1 ++ Im.flight (fun k => match k with | 0 => x | 1 => y | 2 => vx | _ => vy) 4 ++ Im.bytesOf 1 cool ++ Im.bytesOf 4 score = bs ++ Im.ship ⟨true, x, y, vx, vy, cool, score⟩) := Lib.hid (by simp [Im.ship])
  generalize Im.flight (fun k => match k with | 0 => x | 1 => y | 2 => vx | _ => vy) 4 = FL at *
  clear hI3 hK3 hP3 cf IU KU PU hwc hws lf u0 o1 o2 o3 o4 o5 o6
  go_wp2_with (first | (go_at_call 124; ((with_reducible refine (c5.out).mono ?_); rintro e w4 ⟨rfl, hI, hK⟩; have P4 := Lib.hid (P3.out.wrote' hK IV3.out h1 h2); have p4 := P4.out.cell; have IV4 := Lib.hid hI.isvar; have I4 := Lib.hid hI; have K4 := Lib.hid (K3.out.trans hK); clear hI hK)) | (go_at_call 124; ((with_reducible refine ((c6 _ I4.out P4.out).out).mono ?_); rintro e w5 ⟨rfl, hI, hK⟩; have P5 := Lib.hid (P4.out.wrote' hK IV4.out h1 h2); have p5 := P5.out.cell; have IV5 := Lib.hid hI.isvar; have I5 := Lib.hid hI; have K5 := Lib.hid (K4.out.trans hK); clear hI hK)))
  go_end0
  exact ⟨rfl, by rw [← hsh.out]; exact I5.out, K5.out⟩
end Go.Proofs.Ytbihnmingedgfaa
