/-
Several texts in one: Ry Rgt Rs Ru.
-/
import Derived.Test.YtbdlpbnfcnhajaaGreatRq12
set_option maxRecDepth 100000
set_option maxHeartbeats 8000000
set_option linter.unusedVariables false
set_option linter.unusedSimpArgs false
namespace Go.Proofs.YtbdlpbnfcnhajaaGreat.Rg
open Go.RowKit
theorem qmX {ps : Nat -> Gm.In} (hb : ∀ i, (ps i).b = 0) {g : Gm.G} (hs : g.qaa = []) : (Gm.step ps g).qaa = [] := by
 have h : ∀ m, (Gm.ph1 ps g m).2 = [] := fun m => by
  induction m with
  | zero => exact hs
  | succ m ih =>
   show (Gm.ph1 ps g m).2 ++ Gm.made _ _ _ _ = _
   rw [ih, List.nil_append]
   unfold Gm.made Gm.qcz
   rw [hb]
   simp
 unfold Gm.step
 rw [h]
 rfl
theorem qmH {d : Int} (hd : 0 <= d /\ d <= 18446744073709551615) : Fd.apply (Fd.start d) ⟨0, [], Fd.in0⟩ = Option.some (Fd.idle1 d) /\ Fd.Fine (Fd.idle1 d) /\ (Fd.idle1 d).g.frame = 1 /\ (Fd.idle1 d).g.qaa = [] := by
 have h1 := (Fd.qbN hd).step Fd.in0 (by show (0 : Int) < 1048576; decide)
 exact ⟨Fd.qn1 (Fd.qbN hd) 0 rfl (by decide), h1.1, h1.2, qmX (fun i => rfl) rfl⟩
theorem qet {s : Fd.S} (h : Fd.Fine s) : Ok [s] := Ok.new h.ok h.ty
structure Two (s t : Fd.S) : Prop where
 fs : Fd.Fine s
 ft : Fd.Fine t
 zs : s.g.frame = 0
 zt : t.g.frame = 1
section
variable {s t : Fd.S} (h : Two s t)
include h
theorem Two.p1 : pushB [s] t = true := qgC h.ft.ok (by rw [h.zt]; show (1 : Int) = s.g.frame + 1 - 1 + 1; rw [h.zs]; rfl) (by show 1 <= 8; decide)
theorem Two.e1 : push [s] t = [s, t] := qip h.p1
theorem Two.ok2 : Ok [s, t] := by have := (qet h.fs).push h.ft.ty; rwa [h.e1] at this
theorem Two.p2 : pushB [s, t] t = false := qeK fun hh => by
 have h2 : t.g.frame = s.g.frame + 2 - 1 + 1 := hh.2.1
 rw [h.zt, h.zs] at h2
 exact absurd h2 (by decide)
theorem Two.e2 : push [s, t] t = [s, t] := qkG h.p2
theorem Two.has1 : hasB [s, t] 1 = true := qeg.2 (by
 show s.g.frame <= 1 /\ (1 : Int) <= s.g.frame + 2 - 1
 rw [h.zs]; decide)
theorem Two.a1 : at_ [s, t] 1 = Option.some t := by
 unfold at_
 rw [if_pos h.has1]
 show [s, t][((1 : Int) - s.g.frame).toNat]? = _
 rw [h.zs]; rfl
theorem Two.has0 : hasB [s, t] 0 = true := qeg.2 (by
 show s.g.frame <= 0 /\ (0 : Int) <= s.g.frame + 2 - 1
 rw [h.zs]; decide)
theorem Two.c0 : cut [s, t] 0 = [s] := by
 unfold cut
 rw [if_pos h.has0]
 show [s, t].take (((0 : Int) - s.g.frame).toNat + 1) = _
 rw [h.zs]; rfl
theorem Two.no1 : hasB [s] 1 = false := by
 rw [<- Bool.not_eq_true, qeg]
 intro hh
 have h2 : (1 : Int) <= s.g.frame + 1 - 1 := hh.2
 rw [h.zs] at h2
 exact absurd h2 (by decide)
theorem Two.a2 : at_ [s] 1 = none := qlN h.no1
theorem Two.no5 : hasB [s] 5 = false := by
 rw [<- Bool.not_eq_true, qeg]
 intro hh
 have h2 : (5 : Int) <= s.g.frame + 1 - 1 := hh.2
 rw [h.zs] at h2
 exact absurd h2 (by decide)
theorem Two.d5 : drop [s] 5 = [s] := if_neg (by rw [h.no5]; decide)
theorem Two.f : first [s] = 0 := h.zs
theorem Two.l : last [s] = 0 := by show s.g.frame + 1 - 1 = 0; rw [h.zs]; rfl
end
theorem qpC : Gm.ty Im.G0 := by
 refine ⟨by unfold Gm.i64; decide, by decide, fun i hi => ?_, fun i hi => absurd hi (Nat.not_lt_zero _)⟩
 exact (Fd.qi2).ty
theorem qow : ¬ Ros.Ok Im.R0 := by decide +kernel
theorem qox : ¬ Im.Ok Im.G0 Im.R0 := fun h => qow h.2.1
end Go.Proofs.YtbdlpbnfcnhajaaGreat.Rg
namespace Go.Proofs.YtbdlpbnfcnhajaaGreat
open Go.RowKit Go.Shelf
theorem qf9 {P : Program} {ops : Array Oper} {rest : List Oper} {o : Oper} {a : Act} {w : World} {Q : Exit -> Act -> World -> Prop} {t : TypeId} {l : List (Nat × Operand)} {vs : List (Nat × Value)} {cs : Array Value} (hw : Region.wanted o (yielded ops a.tmps) = true) (ho : o.op = .build t l.toArray) (hv : (l.map fun (i, x) => (i, a.eval x)) = vs) (hb : P.built t vs = some cs)
 (h : wpList P ops Q rest (a.put o.dst (.agg cs)) w) : wpList P ops Q (o :: rest) a w := by
 have e : ((l.toArray.map fun (i, x) => (i, a.eval x)).toList) = vs := by rw [<- hv]; simp
 exact wpList_step fun K hK => by
  rw [if_pos hw]
  exact wp_build t l.toArray ho (by rw [e, hb]; rfl) (by rw [e, hb]; exact hK _ _ h)
theorem qhz {LP : qdG} (C : qhg LP) (w : World) :
 Calls Tryz.prog 6 #[] w fun e w' => e = .returned (.bool true) /\ Below w.heap.size w w' := by
 have cs := fun X => qh (qiE ⟨#[97]⟩ X (by decide))
 have hd := Dn.qgl (ByteArray.mk #[97]).data.toList
 generalize Dn.seed (ByteArray.mk #[97]).data.toList = d at cs hd
 have HD := qh hd
 have ty0 := qh (qnj d hd)
 obtain ⟨ap, fi, fr1, sh0⟩ := Rg.qmH hd
 have TW := qh (show Rg.Two (Fd.start d) (Fd.idle1 d) from ⟨Fd.qbN hd, fi, rfl, fr1⟩)
 have SH := qh sh0
 have AP := qh ap
 clear hd ap fi fr1 sh0
 go_enter Tryz.func6, Tryz.ntmps6
 go_upto_region 2 with (first | (go_at_call 25; ((with_reducible refine ((cs _).out).mono ?_); rintro x w1 ⟨rfl, hb⟩; have S1 := qh (Box.made w1 40 (Im.cells (Gm.new d) (.slice none 0 0) Ros.new)); have K1 := qh (hb.alloc hb.size (.cells (Im.cells (Gm.new d) (.slice none 0 0) Ros.new) 40)); have G1 := qh hb.size; clear hb)) | (with_reducible refine qau rfl rfl ?_) | (with_reducible refine qa2 rfl rfl rfl rfl Im.qar rfl ?_))
 generalize hW1 : w1.alloc (.cells (Im.cells (Gm.new d) (.slice none 0 0) Ros.new) 40) = W1 at S1 K1 ⊢
 generalize w1.heap.size = b1 at S1 G1 ⊢
 clear hW1 cs
 have cn := qh (show Calls Tryz.prog 10 #[.agg (Im.cells (Gm.new d) (.slice none 0 0) Ros.new)] W1 (fun e X' => ∃ B, e = .returned (.pointer (some ⟨B, 0, none⟩)) /\ qaW LP w B [Fd.start d] [(b1, 40, Im.cells (Gm.new d) (.slice none 0 0) Ros.new)] X' /\ Below W1.heap.size W1 X') from
  B15.new C ⟨Gm.new d, Ros.new, none, 0⟩ ty0.out (Fd.qbN HD.out).ok Lies.none_ K1.out (fun p hp => by obtain rfl := List.mem_singleton.1 hp; exact S1.out) (fun p hp => by obtain rfl := List.mem_singleton.1 hp; exact G1.out))
 go_upto_region 3 with (first | ((with_reducible refine qam rfl rfl ?_); apply qay.mk rfl; (focus (with_reducible exact S1.out)); dsimp only) | (go_at_call 10; ((with_reducible refine ((cn).out).mono ?_); rintro x w2 ⟨Br, rfl, h2, _⟩; have H2 := qh h2; clear h2)))
 clear cn S1 K1 G1
 have S2 := qh (H2.out.box List.mem_cons_self)
 have ca := fun X => qh (show Calls Tryz.prog 26 #[.agg (Im.cells (Gm.new d) (.slice none 0 0) Ros.new), .agg (En.cells (Fd.eI 0) (.slice none 0 0))] X (SOut (Fd.idle1 d).g (Fd.idle1 d).r 0 X) from
  qhs (Fd.idle1 d) (Fd.start d) (Fd.eI 0) none none 0 0 0 0 X ty0.out (by decide) rfl Lies.none_ rfl (by decide) Lies.none_ qlG AP.out)
 generalize Fd.idle1 d = T at *
 go_upto_region 4 with (first | ((with_reducible refine qam rfl rfl ?_); apply qay.mk rfl; (focus (with_reducible exact S2.out)); dsimp only) | (refine qaM rfl (t := 51) (vs := []) rfl rfl (qk6) ?_) | (go_at_call 26; ((with_reducible refine ((ca _).out).mono ?_); rintro x w3 ⟨A3, c3, rfl, _, hb⟩; have H3 := qh ((H2.out.call C.ob hb).alloc C.ob (Im.cells T.g (.slice A3 T.g.qaa.length c3) T.r) 40); clear hb)) | (with_reducible refine qau rfl rfl ?_) | (with_reducible refine qa2 rfl rfl rfl rfl Im.qar rfl ?_))
 generalize hWn : w3.alloc (.cells (Im.cells T.g (.slice A3 T.g.qaa.length c3) T.r) 40) = W3 at H3 ⊢
 generalize w3.heap.size = b3 at H3 ⊢
 clear hWn H2 ca S2
 go_upto_region 6 with fail
 obtain ⟨L3, hL3⟩ : ∃ L3, L3 = [(b3, 40, Im.cells T.g (.slice A3 T.g.qaa.length c3) T.r), (b1, 40, Im.cells (Gm.new d) (.slice none 0 0) Ros.new)] := ⟨_, rfl⟩
 have mt := qh (show (b3, 40, Im.cells T.g (.slice A3 T.g.qaa.length c3) T.r) ∈ L3 by rw [hL3]; exact List.mem_cons_self)
 have ms := qh (show (b1, 40, Im.cells (Gm.new d) (.slice none 0 0) Ros.new) ∈ L3 by rw [hL3]; exact List.mem_cons_of_mem _ List.mem_cons_self)
 rw [<- hL3] at H3
 clear hL3
 have LT := fun X : World => qh (show Lies X X.heap.size 6 A3 T.g.qaa.length (Gm.qab T.g.qaa) by rw [SH.out]; exact Lies.none_)
 have n0 := qh (show T.g.qaa.length <= maxLen by rw [SH.out]; exact Nat.zero_le _)
 have cp1 := fun X (h : qaW LP w Br [Fd.start d] L3 X) => qh (B15.push C (Rg.qet TW.out.fs) ⟨T.g, T.r, A3, c3⟩ TW.out.ft.ty n0.out h (LT X).out)
 have cp2 := fun X (h : qaW LP w Br [Fd.start d, T] L3 X) => qh (B15.push C TW.out.ok2 ⟨T.g, T.r, A3, c3⟩ TW.out.ft.ty n0.out h (LT X).out)
 rw [show (Rg.St.s ⟨T.g, T.r, A3, c3⟩) = T from rfl, TW.out.p1, TW.out.e1] at cp1
 rw [show (Rg.St.s ⟨T.g, T.r, A3, c3⟩) = T from rfl, TW.out.p2, TW.out.e2] at cp2
 refine Ry.qaU (by kernel_rfl) [1, 4] (by kernel_rfl) (fun W => qaW LP w Br [Fd.start d] L3 W) (fun _ => True) (fun W => Box W b3 40 (Im.cells T.g (.slice A3 T.g.qaa.length c3) T.r)) (H3.out.drew C.ob) (fun W hW => ⟨trivial, hW.box mt.out⟩) ?_
 refine Ry.qat rfl rfl (fun _ => by go_simp; first | done | rfl) ?_
 refine Ry.qb1 rfl rfl rfl rfl (fun W hW => qcS rfl rfl hW) ?_
 refine Ry.qbs rfl (C' := fun W => qaW LP w Br [Fd.start d, T] L3 W) (v := .bool true) (f := 12) (args := #[.pointer (some ⟨Br, 0, none⟩), .agg (Im.cells T.g (.slice A3 T.g.qaa.length c3) T.r)]) (fun W _ => by go_simp; first | done | rfl) (fun W hW => (cp1 W hW).out) (fun W hW => ⟨trivial, hW.box mt.out⟩) ?_
 refine Ry.qat rfl rfl (fun _ => by go_simp; first | done | rfl) ?_
 refine Ry.qb1 rfl rfl rfl rfl (fun W hW => qcS rfl rfl hW) ?_
 refine Ry.qbs rfl (C' := fun W => qaW LP w Br [Fd.start d, T] L3 W) (v := .bool false) (f := 12) (args := #[.pointer (some ⟨Br, 0, none⟩), .agg (Im.cells T.g (.slice A3 T.g.qaa.length c3) T.r)]) (fun W _ => by go_simp; first | done | rfl) (fun W hW => (cp2 W hW).out) (fun W hW => ⟨trivial, hW.box mt.out⟩) ?_
 repeat (refine Ry.qat rfl rfl (fun _ => by go_simp; first | done | rfl) ?_)
 refine Ry.qbJ fun W6 hW6 => ?_
 simp only [Act.put, List.setIfInBounds_toArray, List.set_cons_succ, List.set_cons_zero]
 have H6 := qh hW6
 clear hW6 cp1 cp2 H3
 have c1 := fun X (h : qaW LP w Br [Fd.start d, T] L3 X) => qh (B15.qe0 C TW.out.ok2 1 T TW.out.a1 h)
 have cc := fun X L' (h : qaW LP w Br [Fd.start d, T] L' X) => qh (B15.cut C TW.out.ok2 0 (by decide) h)
 rw [TW.out.c0, TW.out.has0] at cc
 have c2 := fun X L' (h : qaW LP w Br [Fd.start d] L' X) => qh (B15.qiO C (Rg.qet TW.out.fs) 1 (by decide) TW.out.a2 h)
 rw [show Im.zero = Im.cells Im.G0 (.slice none 0 0) Im.R0 from rfl] at c2
 go_upto_region 8 with (first | (go_at_call 19; ((with_reducible refine ((c1 _ H6.out).out).mono ?_); rintro x w7 ⟨⟨A7, c7, rfl, hL7, _, hb7⟩, h7⟩; have L7 := qh hL7; have H7 := qh (h7.alloc C.ob (Im.cells T.g (.slice A7 T.g.qaa.length c7) T.r) 40); clear hb7 hL7 h7)) | (with_reducible refine qau rfl rfl ?_) | (with_reducible refine qa2 rfl rfl rfl rfl Im.qar rfl ?_))
 generalize hW7 : w7.alloc (.cells (Im.cells T.g (.slice A7 T.g.qaa.length c7) T.r) 40) = W7 at H7 ⊢
 generalize w7.heap.size = b7 at H7 ⊢
 clear hW7 H6 c1
 go_upto_region 9 with (go_at_call 15; ((with_reducible refine ((cc _ _ H7.out).out).mono ?_); rintro x w8 ⟨rfl, h8⟩; have H8 := qh h8; clear h8))
 clear H7 cc
 go_upto_region 10 with (first | (go_at_call 19; ((with_reducible refine ((c2 _ _ H8.out).out).mono ?_); rintro x w9 ⟨rfl, h9, hb9⟩; have H9 := qh ((h9.alloc C.ob (Im.cells Im.G0 (.slice none 0 0) Im.R0) 40).less (L' := (b7, 40, Im.cells T.g (.slice A7 T.g.qaa.length c7) T.r) :: L3) (fun p hp => List.mem_cons_of_mem _ hp)); clear hb9 h9)) | (with_reducible refine qau rfl rfl ?_) | (with_reducible refine qa2 rfl rfl rfl rfl Im.qar rfl ?_))
 generalize w9.alloc (.cells (Im.cells Im.G0 (.slice none 0 0) Im.R0) 40) = W9 at H9 ⊢
 generalize w9.heap.size = b9 at H9 ⊢
 clear H8 c2
 obtain ⟨L9, hL9⟩ : ∃ L9, L9 = (b7, 40, Im.cells T.g (.slice A7 T.g.qaa.length c7) T.r) :: L3 := ⟨_, rfl⟩
 have m7 := qh (show (b7, 40, Im.cells T.g (.slice A7 T.g.qaa.length c7) T.r) ∈ L9 by rw [hL9]; exact List.mem_cons_self)
 have m3 := qh (show (b3, 40, Im.cells T.g (.slice A3 T.g.qaa.length c3) T.r) ∈ L9 by rw [hL9]; exact List.mem_cons_of_mem _ mt.out)
 have m1 := qh (show (b1, 40, Im.cells (Gm.new d) (.slice none 0 0) Ros.new) ∈ L9 by rw [hL9]; exact List.mem_cons_of_mem _ ms.out)
 rw [<- hL9] at H9
 clear hL9 mt ms
 have LT7 := fun X : World => qh (show Lies X X.heap.size 6 A7 T.g.qaa.length (Gm.qab T.g.qaa) by rw [SH.out]; exact Lies.none_)
 have x1 := fun X (h : qaW LP w Br [Fd.start d] L9 X) => qh ((qjO T.g T.g T.r T.r A7 A3 _ _ c7 c3 X rfl rfl (LT7 X).out (LT X).out n0.out n0.out).mono fun e X' hh => show e = .returned (.bool true) /\ qaW LP w Br [Fd.start d] L9 X' from ⟨by obtain ⟨⟨v, e1, e2⟩, _⟩ := hh; obtain rfl : v = true := e2.2 ⟨Gm.Eq.refl _, rfl, fun _ _ => ⟨rfl, rfl⟩⟩; exact e1, h.call C.ob hh.2⟩)
 have x2 := fun X (h : qaW LP w Br [Fd.start d] L9 X) => qh (B15.len C (Rg.qet TW.out.fs) h)
 have x3 := fun X (h : qaW LP w Br [Fd.start d] L9 X) => qh (B15.first C (Rg.qet TW.out.fs) h)
 have x4 := fun X (h : qaW LP w Br [Fd.start d] L9 X) => qh (B15.last C (Rg.qet TW.out.fs) h)
 have x5 := fun X (h : qaW LP w Br [Fd.start d] L9 X) => qh (B15.drop C (Rg.qet TW.out.fs) 5 (by decide) h)
 rw [TW.out.d5, TW.out.no5] at x5
 rw [TW.out.f] at x3
 rw [TW.out.l] at x4
 have x2 : ∀ X (h : qaW LP w Br [Fd.start d] L9 X), Hid (Calls Tryz.prog 22 #[.pointer (some ⟨Br, 0, none⟩)] X fun e X' => e = .returned (.int .i64 1) /\ qaW LP w Br [Fd.start d] L9 X' /\ Below X.heap.size X X') := x2
 have y1 := fun X (h : qaW LP w Br [Fd.start d] L9 X) => qh (show Calls Tryz.prog 10 #[.agg Im.zero] X (fun e X' => e = .returned (.pointer none) /\ qaW LP w Br [Fd.start d] L9 X') from (C.new_no ⟨Im.G0, Im.R0, none, 0⟩ X Rg.qpC Rg.qox (Nat.zero_le _) Lies.none_).mono fun e X' hh => ⟨hh.1, h.call C.ob hh.2⟩)
 have y2 := fun X (h : qaW LP w Br [Fd.start d] L9 X) => qh ((C.len0 X).mono fun e X' hh => show e = _ /\ qaW LP w Br [Fd.start d] L9 X' from ⟨hh.1, h.call C.ob hh.2⟩)
 have y3 := fun X (h : qaW LP w Br [Fd.start d] L9 X) => qh (show Calls Tryz.prog 12 #[.pointer none, .agg (Im.cells (Gm.new d) (.slice none 0 0) Ros.new)] X (fun e X' => e = .returned (.bool false) /\ qaW LP w Br [Fd.start d] L9 X') from (C.push0 ⟨Gm.new d, Ros.new, none, 0⟩ X ty0.out (Nat.zero_le _) Lies.none_).mono fun e X' hh => ⟨hh.1, h.call C.ob hh.2⟩)
 have y4 := fun X (h : qaW LP w Br [Fd.start d] L9 X) => qh ((C.cut0 0 X).mono fun e X' hh => show e = _ /\ qaW LP w Br [Fd.start d] L9 X' from ⟨hh.1, h.call C.ob hh.2⟩)
 have y5 := fun X (h : qaW LP w Br [Fd.start d] L9 X) => qh ((C.drop0 0 X).mono fun e X' hh => show e = _ /\ qaW LP w Br [Fd.start d] L9 X' from ⟨hh.1, h.call C.ob hh.2⟩)
 have h10 := H9.out
 go_wp2_with fail
 dsimp only [List.append]
 go_wp2_with (first
  | ((with_reducible refine qgO ?_ rfl ?_); (focus first | rfl | kernel_rfl | simp [Region.wanted, yielded]); apply qay.mk rfl; (focus first | exact qaW.box (by assumption) m7.out | exact qaW.box (by assumption) m3.out | exact qaW.box (by assumption) m1.out); dsimp only)
  | ((refine qf9 (t := 40) (l := []) (vs := []) ?_ rfl rfl qeo ?_); (focus first | rfl | kernel_rfl | simp [Region.wanted, yielded]))
  | (go_at_call 27; ((with_reducible refine ((x1 _ (by assumption)).out).mono ?_); rintro x w11 ⟨rfl, h11⟩))
  | (go_at_call 22; ((with_reducible refine ((x2 _ (by assumption)).out).mono ?_); rintro x w12 ⟨rfl, h12, _⟩))
  | (go_at_call 23; ((with_reducible refine ((x3 _ (by assumption)).out).mono ?_); rintro x w13 ⟨rfl, h13, _⟩))
  | (go_at_call 24; ((with_reducible refine ((x4 _ (by assumption)).out).mono ?_); rintro x w14 ⟨rfl, h14, _⟩))
  | (go_at_call 17; ((with_reducible refine ((x5 _ (by assumption)).out).mono ?_); rintro x w15 ⟨rfl, h15⟩))
  | (go_at_call 10; ((with_reducible refine ((y1 _ (by assumption)).out).mono ?_); rintro x w16 ⟨rfl, h16⟩))
  | (go_at_call 22; ((with_reducible refine ((y2 _ (by assumption)).out).mono ?_); rintro x w17 ⟨rfl, h17⟩))
  | (go_at_call 12; ((with_reducible refine ((y3 _ (by assumption)).out).mono ?_); rintro x w18 ⟨rfl, h18⟩))
  | (go_at_call 15; ((with_reducible refine ((y4 _ (by assumption)).out).mono ?_); rintro x w19 ⟨rfl, h19⟩))
  | (go_at_call 17; ((with_reducible refine ((y5 _ (by assumption)).out).mono ?_); rintro x w20 ⟨rfl, h20⟩)))
 go_ret
 exact ⟨rfl, h20.down⟩
def qpz (r : Ros.R) (p v : Int) : Prop := (v = -1 /\ (Ros.Ok r -> 0 <= p -> ∀ k, k < 8 -> r.peer k ≠ p)) \/ ∃ k : Nat, k < 8 /\ v = k /\ Ros.Ok r /\ 0 <= p /\ r.peer k = p
theorem qdx (r : Ros.R) (p : Int) (w : World) :
 Calls Tryz.prog 29 #[.agg (Ros.cells r), .int .i64 p] w fun e w' => (∃ v, e = .returned (.int .i64 v) /\ qpz r p v) /\ Below w.heap.size w w' := by
 have P0 := qh (Box.made w 38 (Ros.cells r))
 have K0 := qh (qac w (.cells (Ros.cells r) 38))
 have cm := fun X => qh (qcj r X)
 by_cases hp : p < 0
 · have hp' : ¬ 0 <= p := by omega
   have HP := qh hp'
   clear hp
   go_enter Tryz.func29, Tryz.ntmps29
   go_wp2
   go_loopw [5] (fun i wr => i = .int .i64 0 /\ Below w.heap.size w wr) (fun i _ => 0)
   case atStart => exact ⟨rfl, K0.out⟩
   case round =>
    obtain ⟨rfl, hb⟩ := hrel
    clear P0 K0
    go_wp2
    go_ret
    exact ⟨⟨-1, rfl, .inl ⟨rfl, fun _ h => absurd h (by have := HP.out; omega)⟩⟩, hb⟩
 · have hp' : 0 <= p := by omega
   have HP := qh hp'
   clear hp
   by_cases hok : Ros.Ok r
   · have HOK := qh hok
     clear hok
     go_enter Tryz.func29, Tryz.ntmps29
     go_wp2
     go_loopw [5] (fun i wr => ∃ k : Nat, k <= 8 /\ i = .int .i64 k /\ Box wr w.heap.size 38 (Ros.cells r) /\ Below w.heap.size w wr /\ ∀ j, j < k -> r.peer j ≠ p) (fun i _ => 8 - (intOf i).toNat)
     case atStart => exact ⟨0, by omega, rfl, P0.out, K0.out, fun j hj => absurd hj (Nat.not_lt_zero j)⟩
     case round =>
      obtain ⟨k, hk, rfl, hB, hb, hall⟩ := hrel
      clear P0 K0
      have HB := qh hB
      have HBB := qh hb
      have HALL := qh hall
      clear hB hb hall
      by_cases hlt : k < 8
      · have hk8 : (k : Int) < 8 := by omega
        have hcell : ∀ X, Below wr.heap.size wr X -> X.cell? ⟨w.heap.size, 1 + k * 2, none⟩ = some (.int .i64 (r.peer k)) := fun X h => ((HB.out.below h HB.out.lt).cell _).trans (Ros.qaB r k hlt)
        obtain ⟨pk, hpk⟩ : ∃ pk, pk = r.peer k := ⟨_, rfl⟩
        rw [<- hpk] at hcell
        by_cases he : pk = p
        · have HE := qh (show r.peer k = p from hpk ▸ he)
          clear hpk
          subst he
          go_wp2_with (first | ((with_reducible refine qbj ?_ rfl ?_); (focus first | rfl | kernel_rfl | simp [Region.wanted, yielded]); apply qah.mk rfl; (focus (with_reducible exact HB.out)); (focus (exact qad))) | (go_at_call 54; ((with_reducible refine ((cm _).out).mono ?_); rintro e w1 ⟨⟨v, rfl, hv⟩, hb⟩; obtain rfl : v = true := hv.2 HOK.out; have k1 := hcell _ hb; have K1 := qh (HBB.out.trans (hb.mono HBB.out.size)); clear hb hv)))
          go_ret
          exact ⟨⟨k, rfl, .inr ⟨k, hlt, rfl, HOK.out, HP.out, HE.out⟩⟩, K1.out⟩
        · have hne : (pk == p) = false := by simpa using he
          have HE := qh (show ∀ j, j < k + 1 -> r.peer j ≠ p from fun j hj => by
           by_cases ej : j = k
           · rw [ej, <- hpk]; exact he
           · exact HALL.out j (by omega))
          clear hpk he
          go_wp2_with (first | ((with_reducible refine qbj ?_ rfl ?_); (focus first | rfl | kernel_rfl | simp [Region.wanted, yielded]); apply qah.mk rfl; (focus (with_reducible exact HB.out)); (focus (exact qad))) | (go_at_call 54; ((with_reducible refine ((cm _).out).mono ?_); rintro e w1 ⟨⟨v, rfl, hv⟩, hb⟩; obtain rfl : v = true := hv.2 HOK.out; have k1 := hcell _ hb; have B1 := qh (HB.out.below hb HB.out.lt); have K1 := qh (HBB.out.trans (hb.mono HBB.out.size)); clear hb hv)))
          go_roundw
          case rel => exact ⟨k + 1, by omega, by go_num, B1.out, K1.out, HE.out⟩
          case measure => simp [intOf]; omega
      · have hk8 : ¬ (k : Int) < 8 := by omega
        obtain rfl : k = 8 := by omega
        go_wp2
        go_ret
        exact ⟨⟨-1, rfl, .inl ⟨rfl, fun _ _ => HALL.out⟩⟩, HBB.out⟩
   · have HOK := qh hok
     clear hok
     go_enter Tryz.func29, Tryz.ntmps29
     go_wp2
     go_loopw [5] (fun i wr => i = .int .i64 0 /\ Box wr w.heap.size 38 (Ros.cells r) /\ Below w.heap.size w wr) (fun i _ => 0)
     case atStart => exact ⟨rfl, P0.out, K0.out⟩
     case round =>
      obtain ⟨rfl, hB, hb⟩ := hrel
      have HB := qh hB
      have HBB := qh hb
      clear P0 K0 hB hb
      go_wp2_with (first | ((with_reducible refine qbj ?_ rfl ?_); (focus first | rfl | kernel_rfl | simp [Region.wanted, yielded]); apply qah.mk rfl; (focus (with_reducible exact HB.out)); (focus (exact qad))) | (go_at_call 54; ((with_reducible refine ((cm _).out).mono ?_); rintro e w1 ⟨⟨v, rfl, hv⟩, hb⟩; obtain rfl : v = false := (by cases v <;> first | rfl | exact absurd (hv.1 rfl) HOK.out); have K1 := qh (HBB.out.trans (hb.mono HBB.out.size)); clear hb hv)))
      go_ret
      exact ⟨⟨-1, rfl, .inl ⟨rfl, fun h => absurd h HOK.out⟩⟩, K1.out⟩
theorem qh9 {r : Ros.R} {p v : Int} (hr : Ros.Ok r) (h0 : 0 <= p) (h1 : p < 12) (h : qpz r p v) : v = Ros.of r p := by
 rcases Ros.qlx hr h0 h1 with ⟨e, hn⟩ | ⟨k, hk, e, hp⟩
 · rcases h with ⟨e', _⟩ | ⟨k, hk, _, _, _, hp⟩
   · rw [e, e']
   · exact absurd hp (hn k hk)
 · rcases h with ⟨_, hn⟩ | ⟨j, hj, e', _, _, hp'⟩
   · exact absurd hp (hn hr h0 k hk)
   · rw [e, e']
     have := hr.one hj hk (hp'.trans hp.symm) (by omega)
     rw [this]
theorem ql2 : (Tryz.prog.info? 35).map (·.size) = some 2 := by kernel_rfl
theorem qkk (r : Ros.R) (k : Nat) (hk : k < 8) (p g : Int) : splice (Ros.cells r) (1 + k * 2) [.int .i64 p, .int .i64 g] = Ros.cells ⟨r.version, Ros.upd r.peer k p, Ros.upd r.gen k g⟩ := by
 match k, hk with
 | 0, _ | 1, _ | 2, _ | 3, _ | 4, _ | 5, _ | 6, _ | 7, _ => rfl
section
variable {ops : Array Oper} {rest : List Oper} {o : Oper} {a : Act} {w : World} {Q : Exit -> Act -> World -> Prop} {x y : Operand} {dst : Option Tmp} {p v : Value}
def qe3 (ops : Array Oper) (Q : Exit -> Act -> World -> Prop) (rest : List Oper) (dst : Option Tmp) (p v : Value) (a : Act) (w : World) : Prop :=
 ∃ (B k : Nat) (r : Ros.R) (q g : Int), p = .pointer (some ⟨B, 1 + k * 2, none⟩) /\ v = .agg #[.int .i64 q, .int .i64 g] /\ k < 8 /\ Box w B 38 (Ros.cells r) /\ wpList Tryz.prog ops Q rest (a.put dst undef) (w.setRow B (Ros.cells ⟨r.version, Ros.upd r.peer k q, Ros.upd r.gen k g⟩))
theorem qe3.mk {B k : Nat} {r : Ros.R} {q g : Int} (hp : p = .pointer (some ⟨B, 1 + k * 2, none⟩)) (hv : v = .agg #[.int .i64 q, .int .i64 g]) (hk : k < 8) (hB : Box w B 38 (Ros.cells r)) (h : wpList Tryz.prog ops Q rest (a.put dst undef) (w.setRow B (Ros.cells ⟨r.version, Ros.upd r.peer k q, Ros.upd r.gen k g⟩))) : qe3 ops Q rest dst p v a w := ⟨B, k, r, q, g, hp, hv, hk, hB, h⟩
theorem qhn (hgd : o.guard = none) (ho : o.op = .store 35 x y) (h : qe3 ops Q rest o.dst (a.eval x) (a.eval y) a w) : wpList Tryz.prog ops Q (o :: rest) a w := by
 obtain ⟨B, k, r, q, g, hx, hy, hk, hB, h⟩ := h
 refine wpList_store_mid hgd 35 x y ho B (1 + k * 2) #[.int .i64 q, .int .i64 g] hx hy (hB.there _ _ (by rw [Ros.qag]; show 1 + k * 2 + 2 <= 17; omega)) ql2 (by simp [Value.oneCell']) ?_
 rw [qbK B 38 _ (1 + k * 2) (Ros.cells r) w hB.is (by rw [Ros.qag]; show 1 + k * 2 + 2 <= 17; omega), qkk r k hk q g]
 exact h
end
theorem qmr (r : Ros.R) (s : Int) (w : World) (hno : ¬ Ros.qbM r s) :
 Calls Tryz.prog 56 #[.agg (Ros.cells r), .int .i64 s] w fun e w' => e = .returned (.tuple #[.agg (Ros.cells r), .int .i64 1]) /\ Below w.heap.size w w' := by
 have P0 := qh ((Box.made w 38 (Ros.cells r)).alloc (.cells (Ros.cells qai) 38))
 have Z0 := qh (Box.qan (n := w.heap.size + 1) (w.alloc (.cells (Ros.cells r) 38)) 38 (Ros.cells qai) (by simp))
 have K0 := qh (qal w (.cells (Ros.cells r) 38) (.cells (Ros.cells qai) 38))
 have cm := fun X => qh (qcj r X)
 have r0 := Ros.qaS r
 by_cases hok : Ros.Ok r
 · have HOK := qh hok
   by_cases h1 : s < 0
   · clear hok hno
     go_enter Tryz.func56, Tryz.ntmps56
     go_wp2_with (first | (with_reducible refine qaq rfl rfl ?_) | ((with_reducible refine qak rfl rfl ?_); apply qah.mk rfl; (focus first | (with_reducible exact P0.out) | (with_reducible exact P2.out) | (with_reducible exact P1.out) | (with_reducible exact P4.out)); (focus (exact qad))) | ((with_reducible refine qav rfl rfl ?_); apply qaz.mk rfl rfl; (focus first | (with_reducible exact Z4.out) | (with_reducible exact Z2.out) | (with_reducible exact Z1.out)); (focus (exact qad)); (focus rfl); (focus (exact qaK _))) | (go_at_call 54; ((with_reducible refine ((cm _).out).mono ?_); rintro e w1 ⟨⟨v, rfl, hv⟩, hb⟩; obtain rfl : v = true := hv.2 HOK.out; have P1 := qh (P0.out.below hb P0.out.lt); have Z1 := qh (Z0.out.below hb Z0.out.lt); have K1 := qh (K0.out.trans (hb.mono K0.out.size)); have k1 := P1.out.cell; have f1 := P1.out.free; clear hb hv)))
     refine bodyPost_ret (v := .tuple #[.agg (Ros.cells r), .int .i64 1]) ?_ ?_ ?_
     · exact results_cell_tmp (p := 4) (q := 5) rfl _ _ _ _ (Ros.cells r) _ rfl (Box.row Z1.out _) Tryz.underlying38 rfl qad
     · rfl
     · exact ⟨rfl, Below.setRow' K1.out (by omega) _⟩
   by_cases h2 : 8 <= s
   · have h1' : ¬ s < 0 := h1
     clear hok hno
     go_enter Tryz.func56, Tryz.ntmps56
     go_wp2_with (first | (with_reducible refine qaq rfl rfl ?_) | ((with_reducible refine qak rfl rfl ?_); apply qah.mk rfl; (focus first | (with_reducible exact P0.out) | (with_reducible exact P2.out) | (with_reducible exact P1.out) | (with_reducible exact P4.out)); (focus (exact qad))) | ((with_reducible refine qav rfl rfl ?_); apply qaz.mk rfl rfl; (focus first | (with_reducible exact Z4.out) | (with_reducible exact Z2.out) | (with_reducible exact Z1.out)); (focus (exact qad)); (focus rfl); (focus (exact qaK _))) | (go_at_call 54; ((with_reducible refine ((cm _).out).mono ?_); rintro e w1 ⟨⟨v, rfl, hv⟩, hb⟩; obtain rfl : v = true := hv.2 HOK.out; have P1 := qh (P0.out.below hb P0.out.lt); have Z1 := qh (Z0.out.below hb Z0.out.lt); have K1 := qh (K0.out.trans (hb.mono K0.out.size)); have k1 := P1.out.cell; have f1 := P1.out.free; clear hb hv)))
     refine bodyPost_ret (v := .tuple #[.agg (Ros.cells r), .int .i64 1]) ?_ ?_ ?_
     · exact results_cell_tmp (p := 4) (q := 5) rfl _ _ _ _ (Ros.cells r) _ rfl (Box.row Z1.out _) Tryz.underlying38 rfl qad
     · rfl
     · exact ⟨rfl, Below.setRow' K1.out (by omega) _⟩
   obtain ⟨k, rfl⟩ : ∃ k : Nat, s = k := ⟨s.toNat, by omega⟩
   have hk8 : k < 8 := by omega
   have hk8' : (k : Int) < 8 := by omega
   have q1 := Ros.qaB r k hk8
   have hseat := hok.seat k hk8
   by_cases h3 : r.peer k < 0
   · clear hok hno hseat
     obtain ⟨pk, hpk⟩ : ∃ pk, pk = r.peer k := ⟨_, rfl⟩
     rw [<- hpk] at q1 h3
     clear hpk
     go_enter Tryz.func56, Tryz.ntmps56
     go_wp2_with (first | (with_reducible refine qaq rfl rfl ?_) | ((with_reducible refine qak rfl rfl ?_); apply qah.mk rfl; (focus first | (with_reducible exact P0.out) | (with_reducible exact P2.out) | (with_reducible exact P1.out) | (with_reducible exact P4.out)); (focus (exact qad))) | ((with_reducible refine qav rfl rfl ?_); apply qaz.mk rfl rfl; (focus first | (with_reducible exact Z4.out) | (with_reducible exact Z2.out) | (with_reducible exact Z1.out)); (focus (exact qad)); (focus rfl); (focus (exact qaK _))) | (go_at_call 54; ((with_reducible refine ((cm _).out).mono ?_); rintro e w1 ⟨⟨v, rfl, hv⟩, hb⟩; obtain rfl : v = true := hv.2 HOK.out; have P1 := qh (P0.out.below hb P0.out.lt); have Z1 := qh (Z0.out.below hb Z0.out.lt); have K1 := qh (K0.out.trans (hb.mono K0.out.size)); have k1 := P1.out.cell; have f1 := P1.out.free; clear hb hv)))
     refine bodyPost_ret (v := .tuple #[.agg (Ros.cells r), .int .i64 1]) ?_ ?_ ?_
     · exact results_cell_tmp (p := 4) (q := 5) rfl _ _ _ _ (Ros.cells r) _ rfl (Box.row Z1.out _) Tryz.underlying38 rfl qad
     · rfl
     · exact ⟨rfl, Below.setRow' K1.out (by omega) _⟩
   by_cases h4 : 1073741824 <= r.version
   · obtain ⟨pk, hpk⟩ : ∃ pk, pk = r.peer k := ⟨_, rfl⟩
     obtain ⟨ve, hve⟩ : ∃ ve, ve = r.version := ⟨_, rfl⟩
     rw [<- hpk] at q1 h3
     rw [<- hve] at r0 h4
     clear hok hno hseat hpk hve
     go_enter Tryz.func56, Tryz.ntmps56
     go_wp2_with (first | (with_reducible refine qaq rfl rfl ?_) | ((with_reducible refine qak rfl rfl ?_); apply qah.mk rfl; (focus first | (with_reducible exact P0.out) | (with_reducible exact P2.out) | (with_reducible exact P1.out) | (with_reducible exact P4.out)); (focus (exact qad))) | ((with_reducible refine qav rfl rfl ?_); apply qaz.mk rfl rfl; (focus first | (with_reducible exact Z4.out) | (with_reducible exact Z2.out) | (with_reducible exact Z1.out)); (focus (exact qad)); (focus rfl); (focus (exact qaK _))) | (go_at_call 54; ((with_reducible refine ((cm _).out).mono ?_); rintro e w1 ⟨⟨v, rfl, hv⟩, hb⟩; obtain rfl : v = true := hv.2 HOK.out; have P1 := qh (P0.out.below hb P0.out.lt); have Z1 := qh (Z0.out.below hb Z0.out.lt); have K1 := qh (K0.out.trans (hb.mono K0.out.size)); have k1 := P1.out.cell; have f1 := P1.out.free; clear hb hv)))
     refine bodyPost_ret (v := .tuple #[.agg (Ros.cells r), .int .i64 1]) ?_ ?_ ?_
     · exact results_cell_tmp (p := 4) (q := 5) rfl _ _ _ _ (Ros.cells r) _ rfl (Box.row Z1.out _) Tryz.underlying38 rfl qad
     · rfl
     · exact ⟨rfl, Below.setRow' K1.out (by omega) _⟩
   exact absurd ⟨⟨⟨hok, by omega⟩, by omega, by omega⟩, by show r.peer ((k : Int)).toNat ≠ -1; rw [Int.toNat_natCast]; omega⟩ hno
 · have HOK := qh hok
   clear hok hno
   go_enter Tryz.func56, Tryz.ntmps56
   go_wp2_with (first | (with_reducible refine qaq rfl rfl ?_) | ((with_reducible refine qak rfl rfl ?_); apply qah.mk rfl; (focus first | (with_reducible exact P0.out) | (with_reducible exact P2.out) | (with_reducible exact P1.out) | (with_reducible exact P4.out)); (focus (exact qad))) | ((with_reducible refine qav rfl rfl ?_); apply qaz.mk rfl rfl; (focus first | (with_reducible exact Z4.out) | (with_reducible exact Z2.out) | (with_reducible exact Z1.out)); (focus (exact qad)); (focus rfl); (focus (exact qaK _))) | (go_at_call 54; ((with_reducible refine ((cm _).out).mono ?_); rintro e w1 ⟨⟨v, rfl, hv⟩, hb⟩; obtain rfl : v = false := (by cases v <;> first | rfl | exact absurd (hv.1 rfl) HOK.out); have P1 := qh (P0.out.below hb P0.out.lt); have Z1 := qh (Z0.out.below hb Z0.out.lt); have K1 := qh (K0.out.trans (hb.mono K0.out.size)); have k1 := P1.out.cell; have f1 := P1.out.free; clear hb hv)))
   refine bodyPost_ret (v := .tuple #[.agg (Ros.cells r), .int .i64 1]) ?_ ?_ ?_
   · exact results_cell_tmp (p := 4) (q := 5) rfl _ _ _ _ (Ros.cells r) _ rfl (Box.row Z1.out _) Tryz.underlying38 rfl qad
   · rfl
   · exact ⟨rfl, Below.setRow' K1.out (by omega) _⟩
theorem qgz (r : Ros.R) (k : Nat) (w : World) (hy : Ros.qbM r k) :
 Calls Tryz.prog 56 #[.agg (Ros.cells r), .int .i64 (k : Int)] w fun e w' => e = .returned (.tuple #[.agg (Ros.cells (Ros.give r k)), .int .i64 0]) /\ Below w.heap.size w w' := by
 have P0 := qh ((Box.made w 38 (Ros.cells r)).alloc (.cells (Ros.cells qai) 38))
 have Z0 := qh (Box.qan (n := w.heap.size + 1) (w.alloc (.cells (Ros.cells r) 38)) 38 (Ros.cells qai) (by simp))
 have K0 := qh (qal w (.cells (Ros.cells r) 38) (.cells (Ros.cells qai) 38))
 have cm := fun X => qh (qcj r X)
 have r0 := Ros.qaS r
 obtain ⟨⟨⟨hok, hv⟩, h0, h8⟩, hp⟩ := hy
 have HOK := qh hok
 have hk8 : k < 8 := by omega
 have hp' : ¬ r.peer k < 0 := by have := hok.seat k hk8; rcases this.2 with h | h; exact absurd h (by simpa using hp); omega
 have h0' : ¬ (k : Int) < 0 := by omega
 have hv' : ¬ 1073741824 <= r.version := by omega
 have hwv := IntWalk.i64_in (n := r.version + 1) (by have := hok.1; omega)
 have HK := qh hk8
 have q1 := Ros.qaB r k hk8
 obtain ⟨pk, hpk⟩ : ∃ pk, pk = r.peer k := ⟨_, rfl⟩
 rw [<- hpk] at q1 hp'
 clear hok hp hpk hv
 go_enter Tryz.func56, Tryz.ntmps56
 go_upto_region 3 with (first | (with_reducible refine qaq rfl rfl ?_) | ((with_reducible refine qak rfl rfl ?_); apply qah.mk rfl; (focus first | (with_reducible exact P0.out) | (with_reducible exact P2.out) | (with_reducible exact P1.out) | (with_reducible exact P4.out)); (focus (exact qad))) | (go_at_call 54; ((with_reducible refine ((cm _).out).mono ?_); rintro e w1 ⟨⟨v, rfl, hv⟩, hb⟩; obtain rfl : v = true := hv.2 HOK.out; have P1 := qh (P0.out.below hb P0.out.lt); have Z1 := qh (Z0.out.below hb Z0.out.lt); have K1 := qh (K0.out.trans (hb.mono K0.out.size)); have k1 := P1.out.cell; have f1 := P1.out.free; clear hb hv)))
 have hg : Hid ((⟨r.version, Ros.upd r.peer k (-1), r.gen⟩ : Ros.R) = ⟨r.version, Ros.upd r.peer k (-1), r.gen⟩) := qh rfl
 have Q2 := P1.out.rosp HK.out (-1)
 have c2 := Q2.cell 0
 have d2 := Q2.free 0
 rw [Ros.qaS] at c2
 dsimp only at c2
 have P4 := qh (show Box ((w1.setCell ⟨w.heap.size, 1 + k * 2, none⟩ (.int .i64 (-1))).setCell ⟨w.heap.size, 0, none⟩ (.int .i64 (r.version + 1))) w.heap.size 38 (Ros.cells (Ros.give r k)) from Q2.rosv (r.version + 1))
 have Z4 := qh ((Z1.out.far (p := ⟨w.heap.size, 1 + k * 2, none⟩) (show w.heap.size + 1 ≠ w.heap.size by omega) (.int .i64 (-1))).far (p := ⟨w.heap.size, 0, none⟩) (show w.heap.size + 1 ≠ w.heap.size by omega) (.int .i64 (r.version + 1)))
 have K4 := qh ((K1.out.setCell (p := ⟨w.heap.size, 1 + k * 2, none⟩) (Nat.le_refl _) (.int .i64 (-1))).setCell (p := ⟨w.heap.size, 0, none⟩) (Nat.le_refl _) (.int .i64 (r.version + 1)))
 clear Q2 hg
 go_wp2_with (first | ((with_reducible refine qak rfl rfl ?_); apply qah.mk rfl; (focus first | (with_reducible exact P0.out) | (with_reducible exact P2.out) | (with_reducible exact P1.out) | (with_reducible exact P4.out)); (focus (exact qad))) | ((with_reducible refine qav rfl rfl ?_); apply qaz.mk rfl rfl; (focus first | (with_reducible exact Z4.out) | (with_reducible exact Z2.out) | (with_reducible exact Z1.out)); (focus (exact qad)); (focus rfl); (focus (exact qaK _))))
 refine bodyPost_ret (v := .tuple #[.agg (Ros.cells (Ros.give r k)), .int .i64 0]) ?_ ?_ ?_
 · exact results_cell_tmp (p := 4) (q := 5) rfl _ _ _ _ (Ros.cells (Ros.give r k)) _ rfl (Box.row Z4.out _) Tryz.underlying38 rfl qad
 · rfl
 · exact ⟨rfl, Below.setRow' K4.out (by omega) _⟩
theorem qmm (r : Ros.R) (s p : Int) (w : World) (hno : ¬ Ros.qbD r s p) :
 Calls Tryz.prog 55 #[.agg (Ros.cells r), .int .i64 s, .int .i64 p] w fun e w' => e = .returned (.tuple #[.agg (Ros.cells r), .int .i64 1]) /\ Below w.heap.size w w' := by
 have P0 := qh ((Box.made w 38 (Ros.cells r)).alloc (.cells (Ros.cells qai) 38))
 have Z0 := qh (Box.qan (n := w.heap.size + 1) (w.alloc (.cells (Ros.cells r) 38)) 38 (Ros.cells qai) (by simp))
 have K0 := qh (qal w (.cells (Ros.cells r) 38) (.cells (Ros.cells qai) 38))
 have cm := fun X => qh (qcj r X)
 have r0 := Ros.qaS r
 have cl := fun X => qh (qdx r p X)
 by_cases hok : Ros.Ok r
 · have HOK := qh hok
   by_cases h1 : s < 0
   · clear hok hno
     go_enter Tryz.func55, Tryz.ntmps55
     go_wp2_with (first | (with_reducible refine qaq rfl rfl ?_) | ((with_reducible refine qak rfl rfl ?_); apply qah.mk rfl; (focus first | (with_reducible exact P0.out) | (with_reducible exact P2.out) | (with_reducible exact P1.out) | (with_reducible exact P4.out)); (focus (exact qad))) | ((with_reducible refine qav rfl rfl ?_); apply qaz.mk rfl rfl; (focus first | (with_reducible exact Z4.out) | (with_reducible exact Z2.out) | (with_reducible exact Z1.out)); (focus (exact qad)); (focus rfl); (focus (exact qaK _))) | (go_at_call 54; ((with_reducible refine ((cm _).out).mono ?_); rintro e w1 ⟨⟨v, rfl, hv⟩, hb⟩; obtain rfl : v = true := hv.2 HOK.out; have P1 := qh (P0.out.below hb P0.out.lt); have Z1 := qh (Z0.out.below hb Z0.out.lt); have K1 := qh (K0.out.trans (hb.mono K0.out.size)); have k1 := P1.out.cell; have f1 := P1.out.free; clear hb hv)))
     refine bodyPost_ret (v := .tuple #[.agg (Ros.cells r), .int .i64 1]) ?_ ?_ ?_
     · exact results_cell_tmp (p := 6) (q := 7) rfl _ _ _ _ (Ros.cells r) _ rfl (Box.row Z1.out _) Tryz.underlying38 rfl qad
     · rfl
     · exact ⟨rfl, Below.setRow' K1.out (by omega) _⟩
   by_cases h2 : 8 <= s
   · have h1' : ¬ s < 0 := h1
     clear hok hno
     go_enter Tryz.func55, Tryz.ntmps55
     go_wp2_with (first | (with_reducible refine qaq rfl rfl ?_) | ((with_reducible refine qak rfl rfl ?_); apply qah.mk rfl; (focus first | (with_reducible exact P0.out) | (with_reducible exact P2.out) | (with_reducible exact P1.out) | (with_reducible exact P4.out)); (focus (exact qad))) | ((with_reducible refine qav rfl rfl ?_); apply qaz.mk rfl rfl; (focus first | (with_reducible exact Z4.out) | (with_reducible exact Z2.out) | (with_reducible exact Z1.out)); (focus (exact qad)); (focus rfl); (focus (exact qaK _))) | (go_at_call 54; ((with_reducible refine ((cm _).out).mono ?_); rintro e w1 ⟨⟨v, rfl, hv⟩, hb⟩; obtain rfl : v = true := hv.2 HOK.out; have P1 := qh (P0.out.below hb P0.out.lt); have Z1 := qh (Z0.out.below hb Z0.out.lt); have K1 := qh (K0.out.trans (hb.mono K0.out.size)); have k1 := P1.out.cell; have f1 := P1.out.free; clear hb hv)))
     refine bodyPost_ret (v := .tuple #[.agg (Ros.cells r), .int .i64 1]) ?_ ?_ ?_
     · exact results_cell_tmp (p := 6) (q := 7) rfl _ _ _ _ (Ros.cells r) _ rfl (Box.row Z1.out _) Tryz.underlying38 rfl qad
     · rfl
     · exact ⟨rfl, Below.setRow' K1.out (by omega) _⟩
   obtain ⟨k, rfl⟩ : ∃ k : Nat, s = k := ⟨s.toNat, by omega⟩
   have hk8 : k < 8 := by omega
   have hk8' : (k : Int) < 8 := by omega
   have q1 := Ros.qaB r k hk8
   have q2 := Ros.qaV r k hk8
   have hseat := hok.seat k hk8
   have hno' := qh (show (0 <= p /\ p < 12) -> Ros.of r p = -1 -> r.peer k = -1 -> r.gen k ≠ 60000 -> r.version < 1073741824 -> False from fun a b c d e => hno ⟨⟨⟨⟨hok, e⟩, by omega, by omega⟩, a, b⟩, by show r.peer ((k : Int)).toNat = -1; rw [Int.toNat_natCast]; exact c, by show r.gen ((k : Int)).toNat ≠ 60000; rw [Int.toNat_natCast]; exact d⟩)
   have hp1 : r.peer k < 0 -> r.peer k = -1 := fun h => by rcases hseat.2 with h' | h'; exact h'; omega
   have hg1 : ¬ 60000 <= r.gen k -> r.gen k ≠ 60000 := fun h => by omega
   clear hno hseat hok
   obtain ⟨pk, hpk⟩ : ∃ pk, pk = r.peer k := ⟨_, rfl⟩
   obtain ⟨gk, hgk⟩ : ∃ gk, gk = r.gen k := ⟨_, rfl⟩
   obtain ⟨ve, hve⟩ : ∃ ve, ve = r.version := ⟨_, rfl⟩
   rw [<- hpk] at q1 hp1 hno'
   rw [<- hgk] at q2 hg1 hno'
   rw [<- hve] at r0 hno'
   clear hpk hgk hve
   have h1' : ¬ (k : Int) < 0 := by omega
   by_cases h3 : 0 <= pk
   · clear hno' hp1 hg1
     go_enter Tryz.func55, Tryz.ntmps55
     go_wp2_with (first | (with_reducible refine qaq rfl rfl ?_) | ((with_reducible refine qak rfl rfl ?_); apply qah.mk rfl; (focus first | (with_reducible exact P0.out) | (with_reducible exact P2.out) | (with_reducible exact P1.out) | (with_reducible exact P4.out)); (focus (exact qad))) | ((with_reducible refine qav rfl rfl ?_); apply qaz.mk rfl rfl; (focus first | (with_reducible exact Z4.out) | (with_reducible exact Z2.out) | (with_reducible exact Z1.out)); (focus (exact qad)); (focus rfl); (focus (exact qaK _))) | (go_at_call 54; ((with_reducible refine ((cm _).out).mono ?_); rintro e w1 ⟨⟨v, rfl, hv⟩, hb⟩; obtain rfl : v = true := hv.2 HOK.out; have P1 := qh (P0.out.below hb P0.out.lt); have Z1 := qh (Z0.out.below hb Z0.out.lt); have K1 := qh (K0.out.trans (hb.mono K0.out.size)); have k1 := P1.out.cell; have f1 := P1.out.free; clear hb hv)))
     refine bodyPost_ret (v := .tuple #[.agg (Ros.cells r), .int .i64 1]) ?_ ?_ ?_
     · exact results_cell_tmp (p := 6) (q := 7) rfl _ _ _ _ (Ros.cells r) _ rfl (Box.row Z1.out _) Tryz.underlying38 rfl qad
     · rfl
     · exact ⟨rfl, Below.setRow' K1.out (by omega) _⟩
   by_cases h4 : p < 0
   · clear hno' hp1 hg1
     go_enter Tryz.func55, Tryz.ntmps55
     go_wp2_with (first | (with_reducible refine qaq rfl rfl ?_) | ((with_reducible refine qak rfl rfl ?_); apply qah.mk rfl; (focus first | (with_reducible exact P0.out) | (with_reducible exact P2.out) | (with_reducible exact P1.out) | (with_reducible exact P4.out)); (focus (exact qad))) | ((with_reducible refine qav rfl rfl ?_); apply qaz.mk rfl rfl; (focus first | (with_reducible exact Z4.out) | (with_reducible exact Z2.out) | (with_reducible exact Z1.out)); (focus (exact qad)); (focus rfl); (focus (exact qaK _))) | (go_at_call 54; ((with_reducible refine ((cm _).out).mono ?_); rintro e w1 ⟨⟨v, rfl, hv⟩, hb⟩; obtain rfl : v = true := hv.2 HOK.out; have P1 := qh (P0.out.below hb P0.out.lt); have Z1 := qh (Z0.out.below hb Z0.out.lt); have K1 := qh (K0.out.trans (hb.mono K0.out.size)); have k1 := P1.out.cell; have f1 := P1.out.free; clear hb hv)))
     refine bodyPost_ret (v := .tuple #[.agg (Ros.cells r), .int .i64 1]) ?_ ?_ ?_
     · exact results_cell_tmp (p := 6) (q := 7) rfl _ _ _ _ (Ros.cells r) _ rfl (Box.row Z1.out _) Tryz.underlying38 rfl qad
     · rfl
     · exact ⟨rfl, Below.setRow' K1.out (by omega) _⟩
   by_cases h5 : 12 <= p
   · clear hno' hp1 hg1
     go_enter Tryz.func55, Tryz.ntmps55
     go_wp2_with (first | (with_reducible refine qaq rfl rfl ?_) | ((with_reducible refine qak rfl rfl ?_); apply qah.mk rfl; (focus first | (with_reducible exact P0.out) | (with_reducible exact P2.out) | (with_reducible exact P1.out) | (with_reducible exact P4.out)); (focus (exact qad))) | ((with_reducible refine qav rfl rfl ?_); apply qaz.mk rfl rfl; (focus first | (with_reducible exact Z4.out) | (with_reducible exact Z2.out) | (with_reducible exact Z1.out)); (focus (exact qad)); (focus rfl); (focus (exact qaK _))) | (go_at_call 54; ((with_reducible refine ((cm _).out).mono ?_); rintro e w1 ⟨⟨v, rfl, hv⟩, hb⟩; obtain rfl : v = true := hv.2 HOK.out; have P1 := qh (P0.out.below hb P0.out.lt); have Z1 := qh (Z0.out.below hb Z0.out.lt); have K1 := qh (K0.out.trans (hb.mono K0.out.size)); have k1 := P1.out.cell; have f1 := P1.out.free; clear hb hv)))
     refine bodyPost_ret (v := .tuple #[.agg (Ros.cells r), .int .i64 1]) ?_ ?_ ?_
     · exact results_cell_tmp (p := 6) (q := 7) rfl _ _ _ _ (Ros.cells r) _ rfl (Box.row Z1.out _) Tryz.underlying38 rfl qad
     · rfl
     · exact ⟨rfl, Below.setRow' K1.out (by omega) _⟩
   have HPP := qh (show 0 <= p /\ p < 12 by omega)
   have hp12 : p < 12 := by omega
   by_cases h6 : Ros.of r p = -1
   · have H6 := qh h6
     have h7c : 60000 <= gk \/ 1073741824 <= ve := by
      by_cases a : 60000 <= gk
      · exact .inl a
      · by_cases b : 1073741824 <= ve
        · exact .inr b
        · exact absurd (hno'.out HPP.out h6 (hp1 (by omega)) (hg1 a) (by omega)) id
     clear hno' hp1 hg1 h6
     by_cases h7 : 60000 <= gk
     · clear h7c
       go_enter Tryz.func55, Tryz.ntmps55
       go_wp2_with (first | (with_reducible refine qaq rfl rfl ?_) | ((with_reducible refine qbj ?_ rfl ?_); (focus first | (simp [Region.wanted, yielded, h1', h2, h3, h4, h5]; done) | (simp [Region.wanted, yielded]; done)); apply qah.mk rfl; (focus (with_reducible exact P1.out)); (focus (exact qad))) | ((with_reducible refine qak rfl rfl ?_); apply qah.mk rfl; (focus first | (with_reducible exact P0.out) | (with_reducible exact P2.out) | (with_reducible exact P1.out) | (with_reducible exact P4.out)); (focus (exact qad))) | ((with_reducible refine qav rfl rfl ?_); apply qaz.mk rfl rfl; (focus first | (with_reducible exact Z4.out) | (with_reducible exact Z2.out) | (with_reducible exact Z1.out)); (focus (exact qad)); (focus rfl); (focus (exact qaK _))) | (go_at_call 54; ((with_reducible refine ((cm _).out).mono ?_); rintro e w1 ⟨⟨v, rfl, hv⟩, hb⟩; obtain rfl : v = true := hv.2 HOK.out; have P1 := qh (P0.out.below hb P0.out.lt); have Z1 := qh (Z0.out.below hb Z0.out.lt); have K1 := qh (K0.out.trans (hb.mono K0.out.size)); have k1 := P1.out.cell; have f1 := P1.out.free; clear hb hv)) | (go_at_call 29; ((with_reducible refine ((cl _).out).mono ?_); rintro e w2 ⟨⟨v, rfl, hv⟩, hb⟩; have hv' := qh9 HOK.out HPP.out.1 HPP.out.2 hv; obtain rfl : v = -1 := hv'.trans H6.out; have P2 := qh (P1.out.below hb P1.out.lt); have Z2 := qh (Z1.out.below hb Z1.out.lt); have K2 := qh (K1.out.trans (hb.mono K1.out.size)); have k2 := P2.out.cell; have f2 := P2.out.free; clear hb hv hv')))
       refine bodyPost_ret (v := .tuple #[.agg (Ros.cells r), .int .i64 1]) ?_ ?_ ?_
       · exact results_cell_tmp (p := 6) (q := 7) rfl _ _ _ _ (Ros.cells r) _ rfl (Box.row Z2.out _) Tryz.underlying38 rfl qad
       · rfl
       · exact ⟨rfl, Below.setRow' K2.out (by omega) _⟩
     · have h8 : 1073741824 <= ve := h7c.resolve_left h7
       clear h7c
       go_enter Tryz.func55, Tryz.ntmps55
       go_wp2_with (first | (with_reducible refine qaq rfl rfl ?_) | ((with_reducible refine qbj ?_ rfl ?_); (focus first | (simp [Region.wanted, yielded, h1', h2, h3, h4, h5]; done) | (simp [Region.wanted, yielded]; done)); apply qah.mk rfl; (focus (with_reducible exact P1.out)); (focus (exact qad))) | ((with_reducible refine qak rfl rfl ?_); apply qah.mk rfl; (focus first | (with_reducible exact P0.out) | (with_reducible exact P2.out) | (with_reducible exact P1.out) | (with_reducible exact P4.out)); (focus (exact qad))) | ((with_reducible refine qav rfl rfl ?_); apply qaz.mk rfl rfl; (focus first | (with_reducible exact Z4.out) | (with_reducible exact Z2.out) | (with_reducible exact Z1.out)); (focus (exact qad)); (focus rfl); (focus (exact qaK _))) | (go_at_call 54; ((with_reducible refine ((cm _).out).mono ?_); rintro e w1 ⟨⟨v, rfl, hv⟩, hb⟩; obtain rfl : v = true := hv.2 HOK.out; have P1 := qh (P0.out.below hb P0.out.lt); have Z1 := qh (Z0.out.below hb Z0.out.lt); have K1 := qh (K0.out.trans (hb.mono K0.out.size)); have k1 := P1.out.cell; have f1 := P1.out.free; clear hb hv)) | (go_at_call 29; ((with_reducible refine ((cl _).out).mono ?_); rintro e w2 ⟨⟨v, rfl, hv⟩, hb⟩; have hv' := qh9 HOK.out HPP.out.1 HPP.out.2 hv; obtain rfl : v = -1 := hv'.trans H6.out; have P2 := qh (P1.out.below hb P1.out.lt); have Z2 := qh (Z1.out.below hb Z1.out.lt); have K2 := qh (K1.out.trans (hb.mono K1.out.size)); have k2 := P2.out.cell; have f2 := P2.out.free; clear hb hv hv')))
       refine bodyPost_ret (v := .tuple #[.agg (Ros.cells r), .int .i64 1]) ?_ ?_ ?_
       · exact results_cell_tmp (p := 6) (q := 7) rfl _ _ _ _ (Ros.cells r) _ rfl (Box.row Z2.out _) Tryz.underlying38 rfl qad
       · rfl
       · exact ⟨rfl, Below.setRow' K2.out (by omega) _⟩
   · have H6 := qh h6
     clear hno' hp1 hg1 h6
     go_enter Tryz.func55, Tryz.ntmps55
     go_wp2_with (first | (with_reducible refine qaq rfl rfl ?_) | ((with_reducible refine qbj ?_ rfl ?_); (focus first | (simp [Region.wanted, yielded, h1', h2, h3, h4, h5]; done) | (simp [Region.wanted, yielded]; done)); apply qah.mk rfl; (focus (with_reducible exact P1.out)); (focus (exact qad))) | ((with_reducible refine qak rfl rfl ?_); apply qah.mk rfl; (focus first | (with_reducible exact P0.out) | (with_reducible exact P2.out) | (with_reducible exact P1.out) | (with_reducible exact P4.out)); (focus (exact qad))) | ((with_reducible refine qav rfl rfl ?_); apply qaz.mk rfl rfl; (focus first | (with_reducible exact Z4.out) | (with_reducible exact Z2.out) | (with_reducible exact Z1.out)); (focus (exact qad)); (focus rfl); (focus (exact qaK _))) | (go_at_call 54; ((with_reducible refine ((cm _).out).mono ?_); rintro e w1 ⟨⟨v, rfl, hv⟩, hb⟩; obtain rfl : v = true := hv.2 HOK.out; have P1 := qh (P0.out.below hb P0.out.lt); have Z1 := qh (Z0.out.below hb Z0.out.lt); have K1 := qh (K0.out.trans (hb.mono K0.out.size)); have k1 := P1.out.cell; have f1 := P1.out.free; clear hb hv)) | (go_at_call 29; ((with_reducible refine ((cl _).out).mono ?_); rintro e w2 ⟨⟨v, rfl, hv⟩, hb⟩; have hv' := qh9 HOK.out HPP.out.1 HPP.out.2 hv; obtain ⟨j, _, rfl, _, _⟩ : ∃ j : Nat, j < 8 /\ v = j /\ True /\ True := (by rcases hv with ⟨e, _⟩ | ⟨j, hj, e, _⟩; exact absurd (hv'.symm.trans e) H6.out; exact ⟨j, hj, e, trivial, trivial⟩); have P2 := qh (P1.out.below hb P1.out.lt); have Z2 := qh (Z1.out.below hb Z1.out.lt); have K2 := qh (K1.out.trans (hb.mono K1.out.size)); have k2 := P2.out.cell; have f2 := P2.out.free; clear hb hv hv')))
     refine bodyPost_ret (v := .tuple #[.agg (Ros.cells r), .int .i64 1]) ?_ ?_ ?_
     · exact results_cell_tmp (p := 6) (q := 7) rfl _ _ _ _ (Ros.cells r) _ rfl (Box.row Z2.out _) Tryz.underlying38 rfl qad
     · rfl
     · exact ⟨rfl, Below.setRow' K2.out (by omega) _⟩
 · have HOK := qh hok
   clear hok hno cl
   go_enter Tryz.func55, Tryz.ntmps55
   go_wp2_with (first | (with_reducible refine qaq rfl rfl ?_) | ((with_reducible refine qak rfl rfl ?_); apply qah.mk rfl; (focus first | (with_reducible exact P0.out) | (with_reducible exact P2.out) | (with_reducible exact P1.out) | (with_reducible exact P4.out)); (focus (exact qad))) | ((with_reducible refine qav rfl rfl ?_); apply qaz.mk rfl rfl; (focus first | (with_reducible exact Z4.out) | (with_reducible exact Z2.out) | (with_reducible exact Z1.out)); (focus (exact qad)); (focus rfl); (focus (exact qaK _))) | (go_at_call 54; ((with_reducible refine ((cm _).out).mono ?_); rintro e w1 ⟨⟨v, rfl, hv⟩, hb⟩; obtain rfl : v = false := (by cases v <;> first | rfl | exact absurd (hv.1 rfl) HOK.out); have P1 := qh (P0.out.below hb P0.out.lt); have Z1 := qh (Z0.out.below hb Z0.out.lt); have K1 := qh (K0.out.trans (hb.mono K0.out.size)); have k1 := P1.out.cell; have f1 := P1.out.free; clear hb hv)))
   refine bodyPost_ret (v := .tuple #[.agg (Ros.cells r), .int .i64 1]) ?_ ?_ ?_
   · exact results_cell_tmp (p := 6) (q := 7) rfl _ _ _ _ (Ros.cells r) _ rfl (Box.row Z1.out _) Tryz.underlying38 rfl qad
   · rfl
   · exact ⟨rfl, Below.setRow' K1.out (by omega) _⟩
theorem qgv (r : Ros.R) (k : Nat) (p : Int) (w : World) (hy : Ros.qbD r k p) :
 Calls Tryz.prog 55 #[.agg (Ros.cells r), .int .i64 (k : Int), .int .i64 p] w fun e w' => e = .returned (.tuple #[.agg (Ros.cells (Ros.take r k p)), .int .i64 0]) /\ Below w.heap.size w w' := by
 have P0 := qh ((Box.made w 38 (Ros.cells r)).alloc (.cells (Ros.cells qai) 38))
 have Z0 := qh (Box.qan (n := w.heap.size + 1) (w.alloc (.cells (Ros.cells r) 38)) 38 (Ros.cells qai) (by simp))
 have K0 := qh (qal w (.cells (Ros.cells r) 38) (.cells (Ros.cells qai) 38))
 have cm := fun X => qh (qcj r X)
 have r0 := Ros.qaS r
 have cl := fun X => qh (qdx r p X)
 obtain ⟨⟨⟨⟨hok, hv⟩, h0, h8⟩, hpp, hof⟩, hpk0, hgk0⟩ := hy
 have HOK := qh hok
 have hk8 : k < 8 := by omega
 have hk8' : (k : Int) < 8 := by omega
 have h1' : ¬ (k : Int) < 0 := by omega
 have hs := hok.seat k hk8
 have hs1 := hs.1
 have h3 : ¬ 0 <= r.peer k := by have : r.peer k = -1 := hpk0; omega
 have hg3 : ¬ 60000 <= r.gen k := by have : r.gen k ≠ 60000 := hgk0; omega
 have hv3 : ¬ 1073741824 <= r.version := by omega
 have h4 : ¬ p < 0 := by omega
 have h5 : ¬ 12 <= p := by omega
 have h2 : ¬ 8 <= (k : Int) := by omega
 have HPP := qh hpp
 have H6 := qh hof
 have hwv := IntWalk.i64_in (n := r.version + 1) (by have := hok.1; omega)
 have hwg := IntWalk.i64_in (n := r.gen k + 1) (by omega)
 have HK := qh hk8
 have q1 := Ros.qaB r k hk8
 have q2 := Ros.qaV r k hk8
 have HT := qh (show Ros.cells ⟨r.version + 1, Ros.upd r.peer k p, Ros.upd r.gen k (r.gen k + 1)⟩ = Ros.cells (Ros.take r k p) from rfl)
 obtain ⟨pk, hpk⟩ : ∃ pk, pk = r.peer k := ⟨_, rfl⟩
 obtain ⟨gk, hgk⟩ : ∃ gk, gk = r.gen k := ⟨_, rfl⟩
 rw [<- hpk] at q1 h3
 rw [<- hgk] at q2 hg3 hwg HT
 clear hok hpk hgk hv hs hs1 hpk0 hgk0 hof hpp
 go_enter Tryz.func55, Tryz.ntmps55
 go_upto_region 3 with (first | (with_reducible refine qaq rfl rfl ?_) | ((with_reducible refine qbj ?_ rfl ?_); (focus first | (simp [Region.wanted, yielded, h1', h2, h3, h4, h5]; done) | (simp [Region.wanted, yielded]; done)); apply qah.mk rfl; (focus (with_reducible exact P1.out)); (focus (exact qad))) | ((with_reducible refine qak rfl rfl ?_); apply qah.mk rfl; (focus first | (with_reducible exact P0.out) | (with_reducible exact P2.out) | (with_reducible exact P1.out) | (with_reducible exact P4.out)); (focus (exact qad))) | (go_at_call 54; ((with_reducible refine ((cm _).out).mono ?_); rintro e w1 ⟨⟨v, rfl, hv⟩, hb⟩; obtain rfl : v = true := hv.2 HOK.out; have P1 := qh (P0.out.below hb P0.out.lt); have Z1 := qh (Z0.out.below hb Z0.out.lt); have K1 := qh (K0.out.trans (hb.mono K0.out.size)); have k1 := P1.out.cell; have f1 := P1.out.free; clear hb hv)) | (go_at_call 29; ((with_reducible refine ((cl _).out).mono ?_); rintro e w2 ⟨⟨v, rfl, hv⟩, hb⟩; have hv' := qh9 HOK.out HPP.out.1 HPP.out.2 hv; obtain rfl : v = -1 := hv'.trans H6.out; have P2 := qh (P1.out.below hb P1.out.lt); have Z2 := qh (Z1.out.below hb Z1.out.lt); have K2 := qh (K1.out.trans (hb.mono K1.out.size)); have k2 := P2.out.cell; have f2 := P2.out.free; clear hb hv hv')))
 have P3 := qh (P2.out.row (Ros.cells ⟨r.version, Ros.upd r.peer k p, Ros.upd r.gen k (gk + 1)⟩))
 have Z3 := qh (Z2.out.qa4 (show w.heap.size + 1 ≠ w.heap.size by omega) (Ros.cells ⟨r.version, Ros.upd r.peer k p, Ros.upd r.gen k (gk + 1)⟩))
 have K3 := qh (Below.setRow' K2.out (Nat.le_refl _) (Ros.cells ⟨r.version, Ros.upd r.peer k p, Ros.upd r.gen k (gk + 1)⟩))
 go_upto_region 4 with ((with_reducible refine qhn rfl rfl ?_); apply qe3.mk (q := p) (g := gk + 1) rfl rfl HK.out; (focus (with_reducible exact P2.out)); dsimp only)
 generalize hW3 : w2.setRow w.heap.size (Ros.cells ⟨r.version, Ros.upd r.peer k p, Ros.upd r.gen k (gk + 1)⟩) = W3 at P3 Z3 K3 ⊢
 clear hW3 P2 Z2 K2 k2 f2 P1 Z1 K1 k1 f1 P0 Z0 K0
 have c3 := P3.out.cell 0
 have d3 := P3.out.free 0
 rw [Ros.qaS] at c3
 dsimp only at c3
 have P4 := qh (show Box (W3.setCell ⟨w.heap.size, 0, none⟩ (.int .i64 (r.version + 1))) w.heap.size 38 (Ros.cells (Ros.take r k p)) from HT.out ▸ P3.out.rosv (r.version + 1))
 have Z4 := qh (Z3.out.far (p := ⟨w.heap.size, 0, none⟩) (show w.heap.size + 1 ≠ w.heap.size by omega) (.int .i64 (r.version + 1)))
 have K4 := qh (K3.out.setCell (p := ⟨w.heap.size, 0, none⟩) (Nat.le_refl _) (.int .i64 (r.version + 1)))
 clear P3 Z3 K3
 go_wp2_with (first | ((with_reducible refine qak rfl rfl ?_); apply qah.mk rfl; (focus first | (with_reducible exact P0.out) | (with_reducible exact P2.out) | (with_reducible exact P1.out) | (with_reducible exact P4.out)); (focus (exact qad))) | ((with_reducible refine qav rfl rfl ?_); apply qaz.mk rfl rfl; (focus first | (with_reducible exact Z4.out) | (with_reducible exact Z2.out) | (with_reducible exact Z1.out)); (focus (exact qad)); (focus rfl); (focus (exact qaK _))))
 refine bodyPost_ret (v := .tuple #[.agg (Ros.cells (Ros.take r k p)), .int .i64 0]) ?_ ?_ ?_
 · exact results_cell_tmp (p := 6) (q := 7) rfl _ _ _ _ (Ros.cells (Ros.take r k p)) _ rfl (Box.row Z4.out _) Tryz.underlying38 rfl qad
 · rfl
 · exact ⟨rfl, Below.setRow' K4.out (by omega) _⟩
end Go.Proofs.YtbdlpbnfcnhajaaGreat