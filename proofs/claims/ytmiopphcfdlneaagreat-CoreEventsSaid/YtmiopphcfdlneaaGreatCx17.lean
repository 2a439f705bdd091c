/-
Several texts in one: Cla Clb Clc Cma Sl Lki Cmb Rpa Rpb Rpc.
-/
import Derived.Test.YtmiopphcfdlneaaGreatCx16
set_option maxRecDepth 100000
set_option maxHeartbeats 8000000
set_option linter.unusedVariables false
set_option linter.unusedSimpArgs false
namespace Go.Proofs.YtmiopphcfdlneaaGreat
open Go Go.RowKit
namespace Co
def joins (n : Nat) : List En.Ev := (List.range n).map fun (i : Nat) => ⟨1, (i : Int), 1, (i : Int)⟩
theorem qhX (n : Nat) : joins (n + 1) = joins n ++ [⟨1, (n : Int), 1, (n : Int)⟩] := by
 unfold joins
 rw [List.range_succ, List.map_append]; rfl
theorem qom (n : Nat) : (joins n).length = n := by unfold joins; rw [List.length_map, List.length_range]
structure qp2 (n : Nat) (r : Ros.R) : Prop where
 peer : ∀ k, k < 8 -> r.peer k = if k < n then (k : Int) else -1
 gen : ∀ k, k < 8 -> r.gen k = if k < n then 1 else 0
theorem qm8 {ps : Nat -> Gm.In} (hb : ∀ i, (ps i).b = 0) {g : Gm.G} (hs : g.qaa = []) : (Gm.step ps g).qaa = [] := by
 have h : ∀ m, (Gm.ph1 ps g m).2 = [] := fun m => by
  induction m with
  | zero => exact hs
  | succ m ih =>
   show (Gm.ph1 ps g m).2 ++ Gm.made _ _ _ _ = _
   rw [ih, List.nil_append]
   unfold Gm.made Gm.qcL
   rw [hb]
   simp
 unfold Gm.step
 rw [h]
 rfl
theorem qeL (d : Int) : ∀ n, n <= 8 -> ∃ S, Fd.changes (Fd.start d) (joins n) = some S /\ Ros.Ok S.r /\ S.r.version = n /\ qp2 n S.r /\ S.g.qaa = []
 | 0, _ => ⟨Fd.start d, rfl, by show Ros.Ok Ros.new; decide +kernel, rfl, ⟨fun k hk => rfl, fun k hk => rfl⟩, rfl⟩
 | n + 1, hn => by
  obtain ⟨S, h1, h2, h3, h4, h5⟩ := qeL d n (by omega)
  have ht : Ros.qbS S.r (n : Int) (n : Int) := by
   refine ⟨⟨⟨⟨h2, by omega⟩, by omega, by omega⟩, ⟨by omega, by omega⟩, ?_⟩, ?_, ?_⟩
   · rcases Ros.qgb h2 (show 0 <= (n : Int) by omega) (show (n : Int) < 12 by omega) with ⟨h, _⟩ | ⟨k, hk, _, hp⟩
     · exact h
     · rw [h4.peer k hk] at hp
       split at hp <;> omega
   · rw [Int.toNat_natCast, h4.peer n (by omega), if_neg (by omega)]
   · rw [Int.toNat_natCast, h4.gen n (by omega), if_neg (by omega)]; decide
  have hm : Fd.qcK S ⟨1, (n : Int), 1, (n : Int)⟩ := .inl ⟨rfl, ht, by show (1 : Int) = S.r.gen (n : Int).toNat + 1; rw [Int.toNat_natCast, h4.gen n (by omega), if_neg (by omega)]; rfl⟩
  refine ⟨Fd.after S ⟨1, (n : Int), 1, (n : Int)⟩, ?_, ?_, ?_, ⟨?_, ?_⟩, by unfold Fd.after; rw [if_pos rfl]; exact h5⟩
  · rw [qhX, Fd.qdg, h1, Option.bind_some, Fd.qew, Fd.qcv hm]
  all_goals
   have e : (Fd.after S ⟨1, (n : Int), 1, (n : Int)⟩).r = Ros.take S.r n n := by unfold Fd.after; rw [if_pos rfl]; rfl
   rw [e]
  · exact Fd.qnq ht
  · show S.r.version + 1 = _
    rw [h3]; push_cast; rfl
  · intro k hk
    show Ros.upd S.r.peer n (n : Int) k = _
    by_cases hkn : k = n
    · rw [hkn, Ros.upd_same, if_pos (by omega)]
    · rw [Ros.qam _ _ hkn, h4.peer k hk]
      by_cases hl : k < n
      · rw [if_pos hl, if_pos (by omega)]
      · rw [if_neg hl, if_neg (by omega)]
  · intro k hk
    show Ros.upd S.r.gen n (S.r.gen n + 1) k = _
    by_cases hkn : k = n
    · rw [hkn, Ros.upd_same, if_pos (by omega), h4.gen n (by omega), if_neg (by omega)]; rfl
    · rw [Ros.qam _ _ hkn, h4.gen k hk]
      by_cases hl : k < n
      · rw [if_pos hl, if_pos (by omega)]
      · rw [if_neg hl, if_neg (by omega)]
theorem qjP : ∀ (n a : Nat) (last : Int), last < 8 + a -> a + n <= 8 -> En.Row last ((List.range' a n).map fun (i : Nat) => (⟨1, (i : Int), 1, (i : Int)⟩ : En.Ev))
 | 0, _, _, _, _ => trivial
 | n + 1, a, last, hl, ha => by
  rw [List.range'_succ, List.map_cons]
  have hp : En.place ⟨1, (a : Int), 1, (a : Int)⟩ = 8 + (a : Int) := by unfold En.place; rw [if_neg (show ¬ (1 : Int) = 2 by decide)]
  refine ⟨⟨⟨.inr rfl, ⟨by show (0 : Int) <= a; omega, by show (a : Int) < 8; omega⟩, ⟨Int.le_refl 1, show (1 : Int) <= 60000 by decide⟩, by show (0 : Int) <= a; omega, by show (a : Int) < 12; omega⟩, by rw [hp]; exact hl⟩, ?_⟩
  rw [hp]
  exact qjP n (a + 1) _ (by push_cast; omega) (by omega)
structure Crowd (n : Nat) (s : Fd.S) : Prop where
 fine : Fd.Fine s
 frame : s.g.frame = 1
 seats : qp2 n s.r
 qaa : s.g.qaa = []
 ver : s.r.version = n
theorem qoG (d : Int) (hd : 0 <= d /\ d <= 18446744073709551615) (n : Nat) (hn : n <= 8) : ∃ S, Fd.apply (Fd.start d) ⟨0, joins n, Fd.in0⟩ = some S /\ Crowd n S := by
 obtain ⟨T, h1, _, h3, h4, h5⟩ := qeL d n hn
 have hs := Fd.qhJ hd
 have hrow : En.Row (-1) (joins n) := by
  have := qjP n 0 (-1) (by omega) (by omega)
  unfold joins
  rw [List.range_eq_range']
  exact this
 have ha : Fd.apply (Fd.start d) ⟨0, joins n, Fd.in0⟩ = some ⟨Gm.step Fd.in0 T.g, T.r⟩ := by
  rw [Fd.qcG ⟨hs.ok, ⟨⟨Int.le_refl 0, show (0 : Int) < 1048576 by decide⟩, hrow, fun i hi => qjR⟩, rfl⟩]
  show (Fd.changes (Fd.start d) (joins n)).bind _ = _
  rw [h1, Option.bind_some]
  exact if_pos fun k hk hp => qgc
 obtain ⟨f1, f2, _⟩ := hs.apply ha
 exact ⟨_, ha, f1, f2, h4, qm8 (fun _ => rfl) h5, h3⟩
end Co
theorem qm5 : (Tryz.prog.info? 76).map (fun i => (i.zero, i.size, i.bytes)) = some (some (.agg #[.int .i64 0, .int .i64 0, .int .i64 0, .int .i64 0]), 4, 32) := by kernel_rfl
theorem qll (k s g p : Int) : Instr.fill (fun i => some (i * 4, 4)) ((Array.range (1 * 4)).map ((Value.agg #[.int .i64 0, .int .i64 0, .int .i64 0, .int .i64 0]).cells[· % (Value.agg #[.int .i64 0, .int .i64 0, .int .i64 0, .int .i64 0]).cells.size]!)) [(0, .agg #[.int .i64 k, .int .i64 s, .int .i64 g, .int .i64 p])] = some #[.int .i64 k, .int .i64 s, .int .i64 g, .int .i64 p] := by kernel_rfl
theorem qev : ∃ i, Tryz.prog.info? 76 = some i /\ i.zero = some (.agg #[.int .i64 0, .int .i64 0, .int .i64 0, .int .i64 0]) /\ i.size = 4 /\ i.bytes = 32 := by
 have h := qm5
 cases hq : Tryz.prog.info? 76 with
 | none => rw [hq] at h; cases h
 | some i =>
  rw [hq] at h
  simp only [Option.map_some, Option.some.injEq, Prod.mk.injEq] at h
  exact ⟨i, rfl, h.1, h.2.1, h.2.2⟩
theorem qqS (k s g p : Int) (W : World) : (Instr.buildSlice 50 1 #[(0, .agg #[.int .i64 k, .int .i64 s, .int .i64 g, .int .i64 p])]).run Tryz.prog W = .ok (.slice (some ⟨W.heap.size, 0, none⟩) 1 1) (W.alloc (.cells #[.int .i64 k, .int .i64 s, .int .i64 g, .int .i64 p] 76)) := by
 obtain ⟨i, hq, hz, hs, _⟩ := qev
 exact run_buildSlice W _ _ 1 _ _ i _ Tryz.underlying50 hq hz (by rw [hs]; decide) (by rw [hs]; decide) (by rw [hs]; exact qll k s g p)
theorem qm3 (w : World) (v : En.Ev) : Lies (w.alloc (.cells v.cells.toArray 76)) (w.alloc (.cells v.cells.toArray 76)).heap.size 4 (some ⟨w.heap.size, 0, none⟩) 1 v.cells := by
 refine ⟨rfl, fun _ => ⟨_, rfl, by simp⟩, fun ad e _ j u hu => ?_⟩
 injection e with e
 subst e
 have hadd : (⟨w.heap.size, 0, none⟩ : Addr).add j = ⟨w.heap.size, j, none⟩ := by unfold Addr.add; split <;> simp_all
 rw [hadd, (Box.made w 76 v.cells.toArray).cell j]
 simpa using hu
theorem qoI (v : En.Ev) : ∀ u ∈ v.cells, u.oneCell' = true := by
 intro u hu
 unfold En.Ev.cells at hu
 simp at hu
 rcases hu with rfl | rfl | rfl | rfl <;> rfl
theorem qm4 (w : World) (b : Nat) : w.ownsRow b 76 4 (.slice none 0 0) 0 [] := ⟨rfl, .inl ⟨rfl, rfl⟩⟩
def qho (n : Nat) (X : World) (e : Ending) (X' : World) : Prop :=
 ∃ S A c, e = .returned (.agg (Rg.St.arr ⟨S.g, S.r, A, c⟩)) /\ Co.Crowd n S /\ Lies X' X'.heap.size 6 A S.g.qaa.length (Gm.qad S.g.qaa) /\ Below X.heap.size X X'
theorem qfH (s : ByteArray) (hs : s.size <= maxLen) (n : Nat) (hn : n <= 8) (X : World) :
 Calls Tryz.prog 13 #[.string s, .int .i64 n] X (qho n X) := by
 obtain ⟨d, hd⟩ : ∃ d, d = Dn.seed s.data.toList := ⟨_, rfl⟩
 have hdb : 0 <= d /\ d <= 18446744073709551615 := by rw [hd]; exact Dn.qnK _
 obtain ⟨S, hap, hcr⟩ := Co.qoG d hdb n hn
 have HAP := qh hap
 have HCR := qh hcr
 have HD := qh hdb
 have cs := fun W => qh (qnt s W hs)
 rw [<- hd] at cs
 obtain ⟨i4, hI', hZ', hS', hY'⟩ := qev
 have hI := qh hI'
 have hZ := qh hZ'
 have hS := qh hS'
 have hY := qh hY'
 obtain ⟨X1, hX1⟩ : ∃ X1, X1 = X.alloc (.cells Im.zero 38) := ⟨_, rfl⟩
 have K1 := qh (show Below X.heap.size X X1 by rw [hX1]; exact qac X _)
 have R1 := qh (show Box X1 X.heap.size 38 Im.zero by rw [hX1]; exact Box.made _ _ _)
 have HX := qh hX1
 clear hX1 hap hcr hd hI' hZ' hS' hY' hdb
 go_enter Tryz.func13, Tryz.ntmps13
 go_upto_region 1 with (with_reducible refine qaz rfl rfl ?_)
 rw [<- HX.out]
 go_upto_region 3 with (first
  | (go_at_call 32; ((with_reducible refine ((cs _).out).mono ?_); rintro e w1 ⟨rfl, hb1⟩; have K2 := qh (K1.out.trans (hb1.mono K1.out.size)); have R2 := qh (R1.out.below hb1 R1.out.lt); clear hb1))
  | (with_reducible refine qaz rfl rfl ?_)
  | (with_reducible refine qb8 rfl rfl rfl rfl Im.qaO rfl ?_)
  | (refine qaT rfl (t := 52) (vs := []) rfl rfl qeX ?_)
  | (with_reducible refine ql2 rfl rfl ?_)
  | (with_reducible refine qfP rfl rfl rfl rfl rfl rfl ?_))
 obtain ⟨be, hbe⟩ : ∃ be, be = (w1.alloc (.cells (Im.cells (Gm.new d) (.slice none 0 0) Ros.new) 38)).heap.size := ⟨_, rfl⟩
 obtain ⟨X2, hX2⟩ : ∃ X2, X2 = (w1.alloc (.cells (Im.cells (Gm.new d) (.slice none 0 0) Ros.new) 38)).alloc (.cells (En.cells ⟨0, [], Fd.in0⟩ (.slice none 0 0)) 52) := ⟨_, rfl⟩
 have hb2 : Below w1.heap.size w1 X2 := by rw [hX2]; exact qap w1 _ _
 have S3 := qh (show Box X2 w1.heap.size 38 (Im.cells (Gm.new d) (.slice none 0 0) Ros.new) by rw [hX2]; exact (Box.made _ _ _).alloc _)
 have E3 := qh (show Box X2 be 52 (En.cells ⟨0, Co.joins 0, Fd.in0⟩ (.slice none 0 0)) by rw [hX2, hbe]; exact Box.made _ _ _)
 have R3 := qh (R2.out.below hb2 R2.out.lt)
 have K3 := qh (K2.out.trans (hb2.mono K2.out.size))
 have hbs : X.heap.size <= w1.heap.size := K2.out.size
 have hbe2 : X.heap.size <= be /\ w1.heap.size ≠ be := by rw [hbe]; simp; omega
 rw [<- hX2, <- hbe]
 simp only [Act.put, List.setIfInBounds_toArray, List.set_cons_succ, List.set_cons_zero]
 have hw1lt : X.heap.size < w1.heap.size := R2.out.lt
 clear hX2 hb2 hbe K2 R2
 have HB2 := qh hbe2
 have HBS := qh hbs
 have HLT := qh hw1lt
 clear hbe2 hbs hw1lt
 generalize w1.heap.size = bs at *
 go_wp2_with fail
 go_loopw [7] (fun i wr => ∃ (k : Nat) (A : Option Addr) (c : Nat), k <= n /\ i = .int .i64 k /\ Box wr be 52 (En.cells ⟨0, Co.joins k, Fd.in0⟩ (.slice A k c)) /\ wr.ownsRow X.heap.size 76 4 (.slice A k c) k (En.qa2 (Co.joins k)) /\ Box wr bs 38 (Im.cells (Gm.new d) (.slice none 0 0) Ros.new) /\ Box wr X.heap.size 38 Im.zero /\ Below X.heap.size X wr) (fun i _ => n - (intOf i).toNat)
 case atStart => exact ⟨0, none, 0, Nat.zero_le _, rfl, E3.out, qm4 _ _, S3.out, R3.out, K3.out⟩
 case round =>
  obtain ⟨k, A, c, hk, rfl, hE, ho, hSt, hR, hW⟩ := hrel
  have EE := qh hE
  have HO := qh ho
  have SS := qh hSt
  have RR := qh hR
  have KW := qh hW
  clear hE ho hSt hR hW E3 S3 R3 K3
  by_cases hlt : k < n
  · have hk8 : (k : Int) < n := by omega
    have hk9 : (k : Int) < 8 := by omega
    have hw1 := show IntKind.i64.wrap ((k : Int) + 1) = (k : Int) + 1 by rw [IntKind.wrap_i64]; omega
    have e1 : wr.cell? ⟨be, 1, none⟩ = some (.slice A k c) := (EE.out.cell 1).trans (En.qcg _ _)
    have hbs := qqS 1 k 1 k
    have EA := qh (EE.out.alloc (.cells #[.int .i64 1, .int .i64 (k : Int), .int .i64 1, .int .i64 (k : Int)] 76))
    have OA := qh (HO.out.alloc (.cells #[.int .i64 1, .int .i64 (k : Int), .int .i64 1, .int .i64 (k : Int)] 76))
    go_wp2_with (first
     | ((with_reducible refine qb5 (x := .tmp 21) (y := .tmp 25) (t := 50) (e := 76) (size := 4) (bytes := 32) rfl rfl Tryz.underlying50 hI.out hZ.out hS.out hY.out rfl (by decide) ?_); refine qdk.mk rfl OA.out (qm3 wr ⟨1, k, 1, k⟩) (qoI ⟨1, k, 1, k⟩) (by unfold maxLen; omega) (by omega) (by have := KW.out.size; simp; omega) ?_; intro A6 c6 w6 own6 hg6; have O6 := qh own6; have G6 := qh hg6; have E6 := qh (show Box w6 be 52 (En.cells ⟨0, Co.joins k, Fd.in0⟩ (.slice A k c)) from (EA.out).grown hg6 (Box.qaM EA.out OA.out (by decide))); have x1 : w6.cell? ⟨be, 1, none⟩ = some (.slice A k c) := (E6.out.cell 1).trans (En.qcg _ _); have xf := E6.out.free 1; have xl := E6.out.lt; clear own6 hg6 e1))
    go_roundw
    case rel =>
     have S6 := (SS.out.alloc (.cells #[.int .i64 1, .int .i64 (k : Int), .int .i64 1, .int .i64 (k : Int)] 76)).grown G6.out (Box.qaM (SS.out.alloc (.cells #[.int .i64 1, .int .i64 (k : Int), .int .i64 1, .int .i64 (k : Int)] 76)) OA.out (by decide))
     have R6 := (RR.out.alloc (.cells #[.int .i64 1, .int .i64 (k : Int), .int .i64 1, .int .i64 (k : Int)] 76)).grown G6.out (Box.qaM (RR.out.alloc (.cells #[.int .i64 1, .int .i64 (k : Int), .int .i64 1, .int .i64 (k : Int)] 76)) OA.out (by decide))
     have hbw : Below X.heap.size X w6 := (KW.out.trans ((qac wr (.cells #[.int .i64 1, .int .i64 (k : Int), .int .i64 1, .int .i64 (k : Int)] 76)).mono KW.out.size)).grown G6.out (Nat.le_trans KW.out.size (qac wr (.cells #[.int .i64 1, .int .i64 (k : Int), .int .i64 1, .int .i64 (k : Int)] 76)).size) (qkc OA.out)
     refine ⟨k + 1, A6, c6, by omega, by go_num, ?_, ?_, S6.far (p := ⟨be, 1, none⟩) HB2.out.2 _, R6.far (p := ⟨be, 1, none⟩) (by show X.heap.size ≠ be; have := HB2.out.1; have := EE.out.lt; have := HLT.out; intro e; subst e; have h1 := RR.out.is; have h2 := EE.out.is; rw [h1] at h2; simp at h2) _, hbw.setCell (p := ⟨be, 1, none⟩) HB2.out.1 _⟩
     · have := E6.out.put 1 (.slice A6 (k + 1) c6)
       have e : (En.cells ⟨0, Co.joins k, Fd.in0⟩ (.slice A k c)).setIfInBounds 1 (.slice A6 (k + 1) c6) = En.cells ⟨0, Co.joins (k + 1), Fd.in0⟩ (.slice A6 (k + 1) c6) := rfl
       rwa [e] at this
     · have o := ownsRow_setCell_other (a := ⟨be, 1, none⟩) O6.out (E6.out.qaM O6.out (by decide)) (.slice A6 (k + 1) c6)
       have e : En.qa2 (Co.joins (k + 1)) = En.qa2 (Co.joins k) ++ (⟨1, k, 1, k⟩ : En.Ev).cells := by
        rw [Co.qhX]; unfold En.qa2; rw [List.flatMap_append]; simp
       rw [e]
       exact o
    case measure => simp [intOf]; omega
  · obtain rfl : k = n := by omega
    have hk8 : ¬ (k : Int) < k := by omega
    have ca := fun W (hW : Below wr.heap.size wr W) => qh (show Calls Tryz.prog 33 #[.agg (Im.cells (Gm.new d) (.slice none 0 0) Ros.new), .agg (En.cells ⟨0, Co.joins k, Fd.in0⟩ (.slice A k c))] W (qpV S.g S.r 0 W) from qjw (Fd.start d) S ⟨0, Co.joins k, Fd.in0⟩ none A 0 0 k c W (Fd.qhJ HD.out).ty (Nat.zero_le _) rfl (qeI W 6) (Co.qom k).symm (by unfold maxLen; omega) ((Lies.owned (HO.out)).call hW) (fun i hi => Co.qfK) HAP.out)
    have SR := qh (show ∀ W, Below wr.heap.size wr W -> Box W bs 38 (Im.cells (Gm.new d) (.slice none 0 0) Ros.new) from fun W hW => SS.out.below hW SS.out.lt)
    have hfin := qh (show X.heap.size <= bs from HBS.out)
    go_wp2_with (first
     | ((with_reducible refine qak rfl rfl ?_); apply qaC.mk rfl; (focus first | (with_reducible exact SS.out) | (with_reducible exact SB.out)); dsimp only)
     | ((with_reducible refine qhb rfl rfl ?_); apply qcl.mk rfl; (focus (with_reducible exact EE.out)); dsimp only)
     | (go_at_call 33; ((with_reducible refine ((ca _ (Below.refl _ _)).out.mono ?_)); rintro x w2 ⟨A2, c2, rfl, hl, ht, hb⟩; have S2 := qh (SS.out.below hb SS.out.lt); have R2 := qh (RR.out.below hb RR.out.lt); have L2 := qh hl; have K2 := qh (KW.out.trans (hb.mono KW.out.size)); have SB := qh (S2.out.row (Im.cells S.g (.slice A2 S.g.qaa.length c2) S.r)); have RB := qh (R2.out.qbn (by have := HLT.out; show X.heap.size ≠ bs; omega) (Im.cells S.g (.slice A2 S.g.qaa.length c2) S.r)); clear hl ht hb))
     | ((with_reducible refine qaI rfl rfl ?_); apply qcj.mk rfl rfl; (focus first | (with_reducible exact S2.out) | (with_reducible exact RB.out)); (focus first | (with_reducible exact Im.qaf _ _ _) | (with_reducible exact Im.qaO)); (focus rfl)))
    refine bodyPost_ret (v := .agg (Im.cells S.g (.slice A2 S.g.qaa.length c2) S.r)) ?_ ?_ ?_
    · exact results_cell_row rfl _ _ _ _ (Im.cells S.g (.slice A2 S.g.qaa.length c2) S.r) (0, 0) _ rfl (RB.out.row _).is Tryz.underlying38 rfl (by rw [Im.qaf]; exact qax)
    · rfl
    · have l1 := Lies.qa8 L2.out rfl S2.out (Im.cells S.g (.slice A2 S.g.qaa.length c2) S.r)
      exact ⟨S, A2, c2, rfl, HCR.out, Lies.qa8 (A' := none) (m := 0) (c := 0) (g := Im.G0) (r := Im.R0) l1 rfl (by exact RB.out) _, Below.setRow' (Below.setRow' K2.out hfin.out _) (Nat.le_refl _) _⟩
theorem qm2 : Gm.ty Im.G0 := by
 refine ⟨by unfold Gm.i64; decide, by decide, fun i hi => ?_, fun i hi => absurd hi (Nat.not_lt_zero _)⟩
 unfold Gm.qdK Im.G0 Gm.Ship.none
 dsimp only
 unfold Gm.i32 Gm.i64
 decide
theorem qlh : ¬ Im.Ok Im.G0 Im.R0 := fun h => absurd h.2.1 (by decide +kernel)
section
variable {LP : qko} (C : qlE LP) {w : World} {B : Nat} {m : Co.M} {L : List (Nat × TypeId × Array Value)} {X X' : World}
include C
theorem B16.new (q : Rg.St) (hf : Fd.Fine q.s) (hL : Lies X X.heap.size 6 q.A q.g.qaa.length (Gm.qad q.g.qaa)) (hw : Below w.heap.size w X) (hB : ∀ p ∈ L, Box X p.1 p.2.1 p.2.2) (hG : ∀ p ∈ L, w.heap.size <= p.1) :
 Calls Tryz.prog 14 #[.agg q.arr] X fun e X' => ∃ B, e = .returned (.pointer (some ⟨B, 0, none⟩)) /\ qbA LP w B (Co.new q.s) L X' /\ Below X.heap.size X X' := by
 refine (P16.new C (w := w) (G := fun j => ∃ p ∈ L, p.1 = j) q hf hL hw (fun j hj => by obtain ⟨p, hp, rfl⟩ := hj; exact ⟨hG p hp, (hB p hp).lt⟩)).mono fun e X' h => ?_
 obtain ⟨B, rfl, h1, h2⟩ := h
 exact ⟨B, rfl, ⟨h1, fun p hp => (hB p hp).below h2 (hB p hp).lt⟩, h2⟩
theorem B16.input (slot gen frame : Int) (hf : i64R frame) (i : Gm.In) (hi : Gm.tyIn i) (h : qbA LP w B m L X) :
 Calls Tryz.prog 26 #[.pointer (some ⟨B, 0, none⟩), .int .i64 slot, .int .i64 gen, .int .i64 frame, .agg (Qu.qao i)] X fun e X' => e = .returned (.bool (Co.qcm m slot gen frame i)) /\ qbA LP w B (Co.input m slot gen frame i) L X' :=
 (P16.input C slot gen frame hf i hi h.hold).mono fun e X' hh => ⟨hh.1, h.says hh.2.1 hh.2.2⟩
theorem B16.advance (h : qbA LP w B m L X) :
 Calls Tryz.prog 25 #[.pointer (some ⟨B, 0, none⟩)] X fun e X' => e = .returned (.int .i64 (Co.qbt m)) /\ qbA LP w B (Co.advance m) L X' :=
 (P16.advance C h.hold).mono fun e X' hh => ⟨hh.1, h.says hh.2.1 hh.2.2⟩
theorem B16.qbR {n : Co.M} (e : En.E) (A2 : Option Addr) (n2 c2 : Nat) (g1 : n2 = e.evs.length) (g2 : n2 <= maxLen) (g3 : ∀ i, i < 8 -> Gm.tyIn (e.inp i)) (hc : Co.confirm m e = some n) (hE : Lies X X.heap.size 4 A2 n2 (En.qa2 e.evs)) (hA : n2 ≠ 0 -> ∀ ad, A2 = some ad -> (∃ p ∈ L, p.1 = ad.block) \/ ad.block < w.heap.size) (h : qbA LP w B m L X) :
 Calls Tryz.prog 27 #[.pointer (some ⟨B, 0, none⟩), .agg (En.cells e (.slice A2 n2 c2))] X fun x X' => x = .returned (.int .i64 0) /\ qbA LP w B n L X' :=
 (P16.qbR C e A2 n2 c2 g1 g2 g3 hc hE hA h.hold).mono fun e X' hh => ⟨hh.1, h.says hh.2.1 hh.2.2⟩
theorem B16.confirmed (h : qbA LP w B m L X) :
 Calls Tryz.prog 18 #[.pointer (some ⟨B, 0, none⟩)] X fun e X' => qhB m.conf X e X' /\ qbA LP w B m L X' :=
 (P16.confirmed C h.hold).mono fun e X' hh => ⟨hh.1, by
  obtain ⟨_, _, _, _, hb⟩ := hh.1
  exact h.call C.ob hb⟩
theorem B16.shown (h : qbA LP w B m L X) :
 Calls Tryz.prog 20 #[.pointer (some ⟨B, 0, none⟩)] X fun e X' => qhB m.shown X e X' /\ qbA LP w B m L X' :=
 (P16.shown C h.hold).mono fun e X' hh => ⟨hh.1, by
  obtain ⟨_, _, _, _, hb⟩ := hh.1
  exact h.call C.ob hb⟩
theorem B16.qa3 (h : qbA LP w B m L X) :
 Calls Tryz.prog 19 #[.pointer (some ⟨B, 0, none⟩)] X fun e X' => qiY m.qa3 X e X' /\ qbA LP w B m L X' :=
 (P16.qa3 C h.hold).mono fun e X' hh => ⟨hh.1, by
  obtain ⟨_, _, _, _, hb⟩ := hh.1
  exact h.call C.ob hb⟩
end
theorem B16.join {μ : Type} {LP : Nat -> (Nat -> Prop) -> Nat -> μ -> World -> Prop} (C : ObjC LP) {w X X' : World} {B : Nat} {m : μ} {L R : List (Nat × TypeId × Array Value)} (h : qbA LP w B m L X) (hb : Below X.heap.size X X') (hR : ∀ p ∈ R, Box X' p.1 p.2.1 p.2.2 /\ X.heap.size <= p.1) : qbA LP w B m (R ++ L) X' := by
 refine ⟨(qb1.more C h.hold hb).less fun j hj => ?_, fun p hp => ?_⟩
 · obtain ⟨p, hp, rfl⟩ := hj
   rcases List.mem_append.1 hp with hp | hp
   · exact .inr ⟨(hR p hp).2, (hR p hp).1.lt⟩
   · exact .inl ⟨p, hp, rfl⟩
 · rcases List.mem_append.1 hp with hp | hp
   · exact (hR p hp).1
   · exact (h.boxes p hp).below hb (h.boxes p hp).lt
def qq5 (R : List (Nat × TypeId × Array Value)) (A : Option Addr) (g : List (Nat -> Gm.In)) : Prop :=
 (g.length = 0 /\ R = []) \/ ∃ b cur, A = some ⟨b, 0, none⟩ /\ R = [(b, 49, cur)] /\ g.length * 24 <= cur.size /\ cur.toList.take (g.length * 24) = vrow g
theorem qiY.rows {g : List (Nat -> Gm.In)} {X X' : World} {e : Ending} (h : qiY g X e X') : ∃ A c R, e = .returned (.slice A g.length c) /\ qq5 R A g /\ (∀ p ∈ R, Box X' p.1 p.2.1 p.2.2 /\ X.heap.size <= p.1) /\ Below X.heap.size X X' := by
 obtain ⟨A, c, rfl, ho, hb⟩ := h
 obtain ⟨hl, ⟨e, h0⟩ | ⟨b, cap, cur, e, hbg, hg, hc, hm, hs, ht⟩⟩ := ho
 · exact ⟨A, c, [], rfl, .inl ⟨h0, rfl⟩, fun p hp => absurd hp List.not_mem_nil, hb⟩
 · injection e with e _ _
   refine ⟨A, c, [(b, 49, cur)], rfl, .inr ⟨b, cur, e, rfl, by rw [hs]; exact Nat.mul_le_mul_right 24 hc, ht⟩, fun p hp => ?_, hb⟩
   obtain rfl := List.mem_singleton.1 hp
   exact ⟨⟨hg⟩, hbg⟩
theorem qp4 {g : List (Nat -> Gm.In)} {cur : Array Value} (ht : cur.toList.take (g.length * 24) = vrow g) (k i j : Nat) (hk : k < g.length) (hi : i < 8) (hj : j < 3) : cur[k * 24 + (i * 3 + j)]? = (g[k] i).cells[j]? := by
 have h1 : (vrow g)[k * 24 + (i * 3 + j)]? = (Gm.qai g[k])[i * 3 + j]? := qoB (cells := Gm.qai) (c := 24) Gm.qjQ g k (i * 3 + j) hk (by omega)
 have h2 := Gm.qbe g[k] i j hi hj
 rw [<- ht, List.getElem?_take, if_pos (by omega)] at h1
 rw [<- Array.getElem?_toList, h1, <- h2]
 simp
namespace Co
noncomputable def advN (m : M) : Nat -> M
 | 0 => m
 | k + 1 => advance (advN m k)
theorem qhl {s : Fd.S} (hs : Fd.Fine s) (n : Nat) (hn : n <= 8) (hm : s.g.frame + n <= 1048576) : Ok (advN (new s) n) /\ (advN (new s) n).conf = s /\ (advN (new s) n).q = (new s).q /\ (advN (new s) n).shown.g.frame = s.g.frame + n := by
 induction n with
 | zero => exact ⟨qlQ hs, rfl, rfl, by show s.g.frame = s.g.frame + ((0 : Nat) : Int); omega⟩
 | succ n ih =>
  obtain ⟨h1, h2, h3, h4⟩ := ih (by omega) (by omega)
  have hc : qbt (advN (new s) n) = 0 := by
   unfold qbt
   rw [h4, h2, if_neg (by omega), if_neg (by omega)]
  obtain ⟨a1, a2, a3, _⟩ := qlC h1 hc
  refine ⟨qia h1, by show (advance (advN (new s) n)).conf = s; rw [a1, h2], by show (advance (advN (new s) n)).q = _; rw [a2, h3], ?_⟩
  show (advance (advN (new s) n)).shown.g.frame = _
  rw [a3, h4]; push_cast; omega
theorem qkl {s : Fd.S} (hs : Fd.Fine s) (n : Nat) (hn : n < 8) (hm : s.g.frame + n < 1048576) : qbt (advN (new s) n) = 0 := by
 obtain ⟨h1, h2, h3, h4⟩ := qhl hs n (by omega) (by omega)
 unfold qbt
 rw [h4, h2, if_neg (by omega), if_neg (by omega)]
theorem qnf {s : Fd.S} (hs : Fd.Fine s) (hm : s.g.frame + 8 <= 1048576) : qbt (advN (new s) 8) = 6 /\ advance (advN (new s) 8) = advN (new s) 8 := by
 obtain ⟨h1, h2, h3, h4⟩ := qhl hs 8 (by omega) (by omega)
 have hc : qbt (advN (new s) 8) = 6 := by
  unfold qbt
  rw [h4, h2, if_pos (by omega)]
 exact ⟨hc, by unfold advance; rw [if_neg (by rw [hc]; decide)]⟩
end Co
namespace Co
def i9 : Gm.In := ⟨9, 0, 0⟩
theorem qn3 : Qu.qbT (Qu.new 1 in0) 3 i9 = true := by decide
structure Told (S : Fd.S) (m9 n : M) : Prop where
 in9 : input (advN (new S) 8) 1 1 3 i9 = m9
 yes : qcm (advN (new S) 8) 1 1 3 i9 = true
 no : qcm m9 1 2 4 i9 = false
 len : m9.qa3.length = 8
 g1 : ∃ f, m9.qa3[1]? = some f /\ f 1 = in0
 g2 : ∃ f, m9.qa3[2]? = some f /\ f 1 = i9
 g7 : ∃ f, m9.qa3[7]? = some f /\ f 1 = i9
 conf : confirm m9 ⟨1, [], Fd.in0⟩ = some n
 code : qbt n = 0
 c2 : (advance n).conf.g.frame = 2
 s10 : (advance n).shown.g.frame = 10
theorem qoZ {S : Fd.S} (h : Crowd 3 S) : ∃ m9 n, Told S m9 n := by
 have hfr := h.frame
 obtain ⟨h1, h2, h3, h4⟩ := qhl h.fine 8 (by omega) (by omega)
 have hq : (advN (new S) 8).q = fun _ => Qu.new 1 in0 := by rw [h3]; show (fun _ => Qu.new S.g.frame in0) = _; rw [hfr]
 have hh : hasB (advN (new S) 8).conf.r (1 : Nat) 1 = true := by
  rw [h2]
  refine decide_eq_true ⟨by decide, by decide, ?_, ?_⟩
  · rw [show ((1 : Nat) : Int).toNat = 1 from rfl, h.seats.peer 1 (by decide)]; decide
  · rw [show ((1 : Nat) : Int).toNat = 1 from rfl, h.seats.gen 1 (by decide)]; decide
 have hp : Qu.qbT ((advN (new S) 8).q 1) 3 i9 = true := by rw [hq]; exact qn3
 have hi : Gm.tyIn i9 := by unfold Gm.tyIn i9; decide
 obtain ⟨s1, s2, s3, s4⟩ := qgZ h1 1 (by decide) 1 3 i9 hi hh
 rw [if_pos hp, hq] at s3
 obtain ⟨m9, hm9⟩ : ∃ m9, m9 = input (advN (new S) 8) ((1 : Nat) : Int) 1 3 i9 := ⟨_, rfl⟩
 rw [<- hm9] at s1 s2 s3 s4
 rw [h2] at s2
 have hlen : m9.qa3.length = 8 := by have := s1.len; rw [s4, h4, s2] at this; omega
 have hat : ∀ (k : Nat) (hk : k < m9.qa3.length), m9.qa3[k] = vec S.r m9.q (1 + k) := fun k hk => by
  have := s1.qa3 k hk
  rw [List.getElem?_eq_getElem hk, s2, hfr] at this
  injection this
 have hv : ∀ f : Int, vec S.r m9.q f 1 = (Qu.at_ (Qu.put (Qu.new 1 in0) 3 i9) f).1 := fun f => by
  unfold vec
  rw [if_pos ⟨by decide, by rw [h.seats.peer 1 (by decide)]; decide⟩, s3, Qu.upd_same]
 have hlate : ∀ f : Int, 3 <= f -> vec S.r m9.q f 1 = i9 := fun f hf => by rw [hv]; exact qqx qn3 hf (fun _ => rfl)
 have hno : hasB m9.conf.r 1 2 = false := by
  rw [s2]
  refine decide_eq_false fun hc => ?_
  have := hc.2.2.2
  rw [show ((1 : Int)).toNat = 1 from rfl, h.seats.gen 1 (by decide)] at this
  exact absurd this (by decide)
 have hap : ∃ u, Fd.apply S ⟨1, [], Fd.in0⟩ = some u := by
  refine ⟨⟨Gm.step Fd.in0 S.g, S.r⟩, ?_⟩
  rw [Fd.qcG ⟨h.fine.ok, ⟨⟨show (0 : Int) <= 1 by decide, show (1 : Int) < 1048576 by decide⟩, (show En.Row (-1) [] from trivial), fun i hi => qjR⟩, hfr.symm⟩]
  rw [Fd.qex, Option.bind_some]
  exact if_pos fun k hk hp => qgc
 obtain ⟨u, hu⟩ := hap
 have hcf : ∃ n, confirm m9 ⟨1, [], Fd.in0⟩ = some n := by unfold confirm; rw [s2, hu]; exact ⟨_, rfl⟩
 obtain ⟨n, hn⟩ := hcf
 obtain ⟨n1, n2, n3⟩ := qfw s1 (e := ⟨1, [], Fd.in0⟩) (fun k hk => qfK) hn
 rw [s4, h4, s2] at n3
 rw [s2] at n2
 have hcode : qbt n = 0 := by
  unfold qbt
  rw [n2, n3, if_neg (by omega), if_neg (by omega)]
 obtain ⟨a1, a2, a3, _⟩ := qlC n1 hcode
 refine ⟨m9, n, hm9.symm, by show qcm _ ((1 : Nat) : Int) 1 3 i9 = true; rw [qds, hh]; exact hp, by rw [qds, hno]; rfl, hlen, ⟨_, List.getElem?_eq_getElem (show 1 < m9.qa3.length by omega), ?_⟩, ⟨_, List.getElem?_eq_getElem (show 2 < m9.qa3.length by omega), ?_⟩, ⟨_, List.getElem?_eq_getElem (show 7 < m9.qa3.length by omega), ?_⟩, hn, hcode, ?_, ?_⟩
 · rw [hat 1 (by omega), hv, qp0 _ _ _ _ (by decide), at_new]
 · rw [hat 2 (by omega)]; exact hlate _ (by decide)
 · rw [hat 7 (by omega)]; exact hlate _ (by decide)
 · rw [a1, n2]; omega
 · rw [a3, n3]; omega
end Co
theorem qdJ {P : Program} {ops : Array Oper} {rest : List Oper} {o : Oper} {a : Act} {w : World} {Q : Exit -> Act -> World -> Prop} {t : TypeId} {l : List (Nat × Operand)} {vs : List (Nat × Value)} {cs : Array Value} (hw : Region.wanted o (yielded ops a.tmps) = true) (ho : o.op = .build t l.toArray) (hv : (l.map fun (i, x) => (i, a.eval x)) = vs) (hb : P.built t vs = some cs)
 (h : wpList P ops Q rest (a.put o.dst (.agg cs)) w) : wpList P ops Q (o :: rest) a w := by
 have e : ((l.toArray.map fun (i, x) => (i, a.eval x)).toList) = vs := by rw [<- hv]; simp
 exact wpList_step fun K hK => by
  rw [if_pos hw]
  exact wp_build t l.toArray ho (by rw [e, hb]; rfl) (by rw [e, hb]; exact hK _ _ h)
theorem qff {g : List (Nat -> Gm.In)} {cur : Array Value} {f : Nat -> Gm.In} (ht : cur.toList.take (g.length * 24) = vrow g) (k i j : Nat) (hk : g[k]? = some f) (hi : i < 8) (hj : j < 3) : cur[k * 24 + (i * 3 + j)]? = (f i).cells[j]? := by
 obtain ⟨h1, h2⟩ := List.getElem?_eq_some_iff.1 hk
 rw [qp4 ht k i j h1 hi hj, h2]
theorem qh1 (g : Gm.G) (s : Value) (r : Ros.R) (W : World) : (Instr.field 38 (.agg (Im.cells g s r)) 0).run Tryz.prog W = .ok (.agg (Gm.cells g s)) W := by
 have h : (Im.cells g s r).extract 0 59 = Gm.cells g s := by
  have hl : (Gm.cells g s).toList.length = 59 := by rw [Array.length_toList]; rfl
  apply Array.toList_inj.1
  rw [Array.toList_extract]
  unfold Im.cells
  rw [Array.toList_append, List.extract_eq_take_drop, List.drop_zero]
  rw [List.take_append_of_le_length (by omega), List.take_of_length_le (by omega)]
 cases hq : Tryz.prog.info? 31 with
 | none => have := qbh; simp [hq] at this
 | some j =>
  have hs : j.size = 59 := by have := qbh; simpa [hq] using this
  simp [Instr.field, asAgg, part, isAgg, sizeOf, typeInfo, hq, hs, run_underlying (Tryz.underlying38) W, run_underlying (Tryz.underlying31) W, h]
theorem qg7 (g : Gm.G) (s : Value) (W : World) : (Instr.field 31 (.agg (Gm.cells g s)) 0).run Tryz.prog W = .ok (.int .i64 g.frame) W := by
 have h : (Gm.cells g s)[0]? = some (.int .i64 g.frame) := rfl
 simp [Instr.field, asAgg, part, isAgg, run_underlying (Tryz.underlying31) W, run_underlying (Tryz.underlying3) W, h]
theorem qhG {LP : qko} (C : qlE LP) (w : World) :
 Calls Tryz.prog 12 #[] w fun e w' => e = .returned (.bool true) /\ Below w.heap.size w w' := by
 have cc := qh (show Calls Tryz.prog 13 #[.string { data := #[97] }, .int .i64 3] w (qho 3 w) from qfH { data := #[97] } (by decide) 3 (by decide) w)
 have CO := C.ob
 go_enter Tryz.func12, Tryz.ntmps12
 go_upto_region 2 with (first
  | (go_at_call 13; ((with_reducible refine ((cc).out).mono ?_); rintro e w1 ⟨S, A, c, rfl, hcr, hl, hb⟩; have HC := qh hcr; have HL := qh hl; have K1 := qh hb; clear hcr hl hb))
  | (with_reducible refine qaz rfl rfl ?_)
  | (refine qb8 rfl rfl rfl rfl Im.qaO rfl ?_))
 obtain ⟨m9, n, HT0⟩ := Co.qoZ HC.out
 have HT := qh HT0
 obtain ⟨X2, hX2⟩ : ∃ X2, X2 = w1.alloc (.cells (Im.cells S.g (.slice A S.g.qaa.length c) S.r) 38) := ⟨_, rfl⟩
 have hb2 : Below w1.heap.size w1 X2 := by rw [hX2]; exact qac _ _
 have S2 := qh (show Box X2 w1.heap.size 38 (Im.cells S.g (.slice A S.g.qaa.length c) S.r) by rw [hX2]; exact Box.made _ _ _)
 have K2 := qh (show Below w.heap.size w X2 from K1.out.trans (hb2.mono K1.out.size))
 have cn := qh (B16.new C (w := w) (L := [(w1.heap.size, 38, Im.cells S.g (.slice A S.g.qaa.length c) S.r)]) ⟨S.g, S.r, A, c⟩ HC.out.fine (HL.out.call hb2) K2.out (fun p hp => by obtain rfl := List.mem_singleton.1 hp; exact S2.out) (fun p hp => by obtain rfl := List.mem_singleton.1 hp; exact K1.out.size))
 have hw1 : X2.heap.size = w1.heap.size + 1 := by rw [hX2]; simp
 rw [<- hX2]
 clear hX2 hb2 hw1 HT0
 generalize w1.heap.size = bs at *
 unfold Rg.St.arr at cn
 dsimp only at cn
 go_wp2_with (first
  | ((with_reducible refine qak rfl rfl ?_); apply qaC.mk rfl; (focus (with_reducible exact S2.out)); dsimp only)
  | (go_at_call 14; ((with_reducible refine ((cn).out).mono ?_); rintro e w3 ⟨B, rfl, hH, hb⟩; have H3 := qh hH; clear hH hb)))
 clear cn cc
 go_loopw [3] (fun i wr => ∃ k : Nat, k <= 8 /\ i = .int .i64 k /\ qbA LP w B (Co.advN (Co.new S) k) [(bs, 38, Im.cells S.g (.slice A S.g.qaa.length c) S.r)] wr) (fun i _ => 8 - (intOf i).toNat)
 case atStart => exact ⟨0, Nat.zero_le _, rfl, H3.out⟩
 case round =>
  obtain ⟨k, hk, rfl, hH⟩ := hrel
  have HR := qh hH
  clear hH H3
  by_cases hlt : k < 8
  · have hk8 : (k : Int) < 8 := by omega
    have hw1 := show IntKind.i64.wrap ((k : Int) + 1) = (k : Int) + 1 by rw [IntKind.wrap_i64]; omega
    have ca := qh (B16.advance C HR.out)
    rw [Co.qkl HC.out.fine k hlt (by have := HC.out.frame; omega)] at ca
    go_wp2_with (go_at_call 25; ((with_reducible refine ((ca).out).mono ?_); rintro e w4 ⟨rfl, hH⟩; have H4 := qh hH; clear hH))
    go_roundw
    case rel => exact ⟨k + 1, by omega, by go_num, H4.out⟩
    case measure => simp [intOf]; omega
  · obtain rfl : k = 8 := by omega
    have hk8 : ¬ ((8 : Nat) : Int) < 8 := by omega
    have k0 : wr.cell? ⟨bs, 0, none⟩ = some (.int .i64 1) := by
     have := ((HR.out.box List.mem_cons_self).cell 0).trans (Rg.St.first ⟨S.g, S.r, A, c⟩)
     rwa [show (⟨S.g, S.r, A, c⟩ : Rg.St).g.frame = 1 from HC.out.frame] at this
    obtain ⟨st1, st2⟩ := Co.qnf HC.out.fine (by have := HC.out.frame; omega)
    have ca := qh (B16.advance C HR.out)
    rw [st1, st2] at ca
    clear st1 st2
    go_upto_region 12 with (go_at_call 25; ((with_reducible refine ((ca).out).mono ?_); rintro e w5 ⟨rfl, hH⟩; have H5 := qh hH; clear hH))
    have ci := qh (B16.input C 1 1 3 (by unfold i64R; decide) Co.i9 (by unfold Gm.tyIn Co.i9; decide) H5.out)
    rw [HT.out.yes, HT.out.in9] at ci
    unfold Qu.qao Co.i9 at ci
    dsimp only at ci
    clear ca HR k0
    go_upto_region 13 with (go_at_call 26; ((with_reducible refine ((ci).out).mono ?_); rintro e w6 ⟨rfl, hH⟩; have H6 := qh hH; clear hH))
    have cd := qh (B16.input C 1 2 4 (by unfold i64R; decide) Co.i9 (by unfold Gm.tyIn Co.i9; decide) H6.out)
    have hin : Co.input m9 1 2 4 Co.i9 = m9 := by unfold Co.input; rw [if_neg (by rw [HT.out.no]; decide)]
    rw [HT.out.no, hin] at cd
    unfold Qu.qao Co.i9 at cd
    dsimp only at cd
    clear ci H5 hin
    go_upto_region 14 with (go_at_call 26; ((with_reducible refine ((cd).out).mono ?_); rintro e w7 ⟨rfl, hH⟩; have H7 := qh hH; clear hH))
    have cg := qh (B16.qa3 C H7.out)
    clear cd H6
    go_upto_region 15 with (go_at_call 19; ((with_reducible refine ((cg).out).mono ?_); rintro e w8 ⟨ht, hH⟩; obtain ⟨A8, c8, R8, rfl, hr8, hx8, hz8⟩ := qiY.rows ht; have H8 := qh (B16.join CO H7.out hz8 hx8); have R8h := qh hr8; clear ht hH hr8 hx8 hz8))
    clear cg H7
    have hlen := HT.out.len
    obtain ⟨gb, cur, eA, eR, hcs, hct⟩ : ∃ b cur, A8 = some ⟨b, 0, none⟩ /\ R8 = [(b, 49, cur)] /\ m9.qa3.length * 24 <= cur.size /\ cur.toList.take (m9.qa3.length * 24) = vrow m9.qa3 := by
     rcases R8h.out with ⟨h0, _⟩ | h
     · omega
     · exact h
    subst eA eR
    obtain ⟨f1, e1, v1⟩ := HT.out.g1
    obtain ⟨f2, e2, v2⟩ := HT.out.g2
    obtain ⟨f7, e7, v7⟩ := HT.out.g7
    have q10 : cur[27]? = some (.int .i8 0) := (qff hct 1 1 0 e1 (by decide) (by decide)).trans (by rw [v1]; rfl)
    have q11 : cur[28]? = some (.int .i8 0) := (qff hct 1 1 1 e1 (by decide) (by decide)).trans (by rw [v1]; rfl)
    have q12 : cur[29]? = some (.int .u8 0) := (qff hct 1 1 2 e1 (by decide) (by decide)).trans (by rw [v1]; rfl)
    have q2 : cur[51]? = some (.int .i8 9) := (qff hct 2 1 0 e2 (by decide) (by decide)).trans (by rw [v2]; rfl)
    have q7 : cur[171]? = some (.int .i8 9) := (qff hct 7 1 0 e7 (by decide) (by decide)).trans (by rw [v7]; rfl)
    rw [hlen]
    have Q10 := qh q10
    have Q11 := qh q11
    have Q12 := qh q12
    have Q2 := qh q2
    have Q7 := qh q7
    clear f1 e1 v1 f2 e2 v2 f7 e7 v7 hcs hct R8h q10 q11 q12 q2 q7 hlen
    have cf := qh (B16.qbR C ⟨1, [], Fd.in0⟩ none 0 0 rfl (Nat.zero_le _) (fun i hi => Co.qfK) HT.out.conf (qeI w8 4) (fun h => absurd rfl h) H8.out)
    have ebf := qlf 1
    go_upto_region 16 with (first
     | (refine qaT rfl (t := 52) (vs := [(0, .int .i64 1)]) rfl rfl ebf ?_)
     | (go_at_call 27; ((with_reducible refine ((cf).out).mono ?_); rintro e w9 ⟨rfl, hH⟩; have H9 := qh hH; clear hH)))
    have cv := qh (B16.advance C H9.out)
    rw [HT.out.code] at cv
    clear cf H8 ebf
    go_upto_region 17 with (go_at_call 25; ((with_reducible refine ((cv).out).mono ?_); rintro e w10 ⟨rfl, hH⟩; have H10 := qh hH; clear hH))
    clear cv H9
    have B10 := qh (H10.out.box List.mem_cons_self)
    have y10 : w10.cell? ⟨gb, 27, none⟩ = some (.int .i8 0) := (B10.out.cell 27).trans Q10.out
    have y11 : w10.cell? ⟨gb, 28, none⟩ = some (.int .i8 0) := (B10.out.cell 28).trans Q11.out
    have y12 : w10.cell? ⟨gb, 29, none⟩ = some (.int .u8 0) := (B10.out.cell 29).trans Q12.out
    have y2 : w10.cell? ⟨gb, 51, none⟩ = some (.int .i8 9) := (B10.out.cell 51).trans Q2.out
    have y7 : w10.cell? ⟨gb, 171, none⟩ = some (.int .i8 9) := (B10.out.cell 171).trans Q7.out
    obtain ⟨N, hN⟩ : ∃ N, N = Co.advance n := ⟨_, rfl⟩
    have hN2 : N.conf.g.frame = 2 := by rw [hN]; exact HT.out.c2
    have hN10 : N.shown.g.frame = 10 := by rw [hN]; exact HT.out.s10
    rw [<- hN] at H10
    have c1 := qh (B16.confirmed C H10.out)
    have c2 := fun X (hX : qbA LP w B N [(gb, 49, cur), (bs, 38, Im.cells S.g (.slice A S.g.qaa.length c) S.r)] X) => qh (B16.shown C hX)
    have c3 := fun X => qh (show Calls Tryz.prog 14 #[.agg Im.zero] X (fun e X' => e = .returned (.pointer none) /\ Below X.heap.size X X') from C.new_no ⟨Im.G0, Im.R0, none, 0⟩ X qm2 qlh (Nat.zero_le _) (qeI X 6))
    have c4 := fun X => qh (C.adv0 X)
    have c5 := fun X => qh (C.confirm0 (En.cells ⟨0, [], Fd.in0⟩ (.slice none 0 0)) X)
    have c6 := fun X => qh (C.input0 0 1 0 0 0 0 X)
    have c7 := fun X => qh (C.guess0 X)
    have x1 := fun (A : Option Addr) (c : Nat) (W : World) => show (Instr.field 38 (.agg (Rg.St.arr ⟨N.conf.g, N.conf.r, A, c⟩)) 0).run Tryz.prog W = .ok (.agg (Gm.cells N.conf.g (.slice A N.conf.g.qaa.length c))) W from qh1 _ _ _ W
    have x2 := fun (A : Option Addr) (c : Nat) (W : World) => show (Instr.field 31 (.agg (Gm.cells N.conf.g (.slice A N.conf.g.qaa.length c))) 0).run Tryz.prog W = .ok (.int .i64 2) W from by rw [<- hN2]; exact qg7 _ _ W
    have x3 := fun (A : Option Addr) (c : Nat) (W : World) => show (Instr.field 38 (.agg (Rg.St.arr ⟨N.shown.g, N.shown.r, A, c⟩)) 0).run Tryz.prog W = .ok (.agg (Gm.cells N.shown.g (.slice A N.shown.g.qaa.length c))) W from qh1 _ _ _ W
    have x4 := fun (A : Option Addr) (c : Nat) (W : World) => show (Instr.field 31 (.agg (Gm.cells N.shown.g (.slice A N.shown.g.qaa.length c))) 0).run Tryz.prog W = .ok (.int .i64 10) W from by rw [<- hN10]; exact qg7 _ _ W
    clear hN hN2 hN10 B10 Q10 Q11 Q12 Q2 Q7
    go_wp2_with (first
     | (go_at_call 18; ((with_reducible refine ((c1).out).mono ?_); rintro e w11 ⟨⟨A11, c11, rfl, _, hb11⟩, hH⟩; have z1 := x1 A11 c11; have z2 := x2 A11 c11; have H11 := qh hH; have cs2 := c2 _ hH; clear hH hb11))
     | (go_at_call 20; ((with_reducible refine ((cs2).out).mono ?_); rintro e w12 ⟨⟨A12, c12, rfl, _, hb12⟩, hH⟩; have z3 := x3 A12 c12; have z4 := x4 A12 c12; have K12 := qh hH.down; clear hH hb12))
     | ((refine qdJ (t := 38) (l := []) (vs := []) ?_ rfl rfl qgq ?_); (focus first | rfl | kernel_rfl | simp [Region.wanted, yielded]))
     | ((refine qdJ (t := 52) (l := []) (vs := []) ?_ rfl rfl qeX ?_); (focus first | rfl | kernel_rfl | simp [Region.wanted, yielded]))
     | (go_at_call 14; ((with_reducible refine ((c3 _).out).mono ?_); rintro e w13 ⟨rfl, hb13⟩; have K13 := qh (K12.out.trans (hb13.mono K12.out.size)); clear hb13))
     | (go_at_call 25; ((with_reducible refine ((c4 _).out).mono ?_); rintro e w14 ⟨rfl, hb14⟩; have K14 := qh (K13.out.trans (hb14.mono K13.out.size)); clear hb14))
     | (go_at_call 27; ((with_reducible refine ((c5 _).out).mono ?_); rintro e w15 ⟨rfl, hb15⟩; have K15 := qh (K14.out.trans (hb15.mono K14.out.size)); clear hb15))
     | (go_at_call 26; ((with_reducible refine ((c6 _).out).mono ?_); rintro e w16 ⟨rfl, hb16⟩; have K16 := qh (K15.out.trans (hb16.mono K15.out.size)); clear hb16))
     | (go_at_call 19; ((with_reducible refine ((c7 _).out).mono ?_); rintro e w17 ⟨rfl, hb17⟩; have K17 := qh (K16.out.trans (hb17.mono K16.out.size)); clear hb17)))
    go_ret
    exact ⟨rfl, K17.out⟩
namespace Co
def evs2 (q : Nat) : List En.Ev := [⟨2, q, 1, q⟩, ⟨1, 7, 1, 11⟩]
def e2 (q : Nat) (i : Gm.In) : En.E := ⟨1, evs2 q, En.upd Fd.in0 7 i⟩
structure Come (m : M) (q : Nat) (i : Gm.In) (N : M) : Prop where
 conf : confirm m (e2 q i) = some N
 peer : N.conf.r.peer 7 = 11
 gen : N.conf.r.gen 7 = 1
 off : (N.shown.g.ship q).on = false
 on : (N.shown.g.ship 7).on = true
 frame : N.shown.g.frame = m.shown.g.frame
 len : (N.qa3.length : Int) = m.shown.g.frame - 2
 vec : ∀ (j : Nat) (f : Nat -> Gm.In), N.qa3[j]? = some f -> f 7 = i /\ f q = in0
 no : qcm N q 1 3 i = false
 yes : qcm N 7 1 3 i = true
theorem qne (X : Fd.S) : (Fd.after X ⟨1, 7, 1, 11⟩).r = Ros.take X.r 7 11 := by
 unfold Fd.after
 rw [if_pos (show (1 : Int) = 1 from rfl)]; rfl
theorem qeA (X : Fd.S) (q : Nat) : (Fd.after X ⟨2, q, 1, q⟩).r = Ros.give X.r q := by
 unfold Fd.after
 rw [if_neg (show ¬ (2 : Int) = 1 by decide)]; rfl
theorem qpN {q : Nat} (hq : q < 7) : En.Row (-1) (evs2 q) := by
 have p1 : En.place ⟨2, (q : Int), 1, (q : Int)⟩ = q := by unfold En.place; rw [if_pos (show (2 : Int) = 2 from rfl)]
 have p2 : En.place ⟨1, 7, 1, 11⟩ = 15 := by decide
 refine ⟨⟨⟨.inl rfl, ⟨by show (0 : Int) <= q; omega, by show (q : Int) < 8; omega⟩, ⟨Int.le_refl 1, show (1 : Int) <= 60000 by decide⟩, by show (0 : Int) <= q; omega, by show (q : Int) < 12; omega⟩, by rw [p1]; omega⟩, ⟨by decide, by rw [p1, p2]; omega⟩, trivial⟩
theorem qpO {n : Nat} {S : Fd.S} (h : Crowd n S) (hn : n <= 7) {q : Nat} (hq : q < n) {k : Nat} (hk : 1 <= k) (hk8 : k <= 8) {i : Gm.In} (hi : Gm.tyIn i) (ho : En.inOk i) : ∃ N, Come (advN (new S) k) q i N := by
 have hfr := h.frame
 obtain ⟨h1, h2, h3, h4⟩ := qhl h.fine k hk8 (by omega)
 have hv := h.ver
 have hok : Ros.Ok S.r := h.fine.ok.2.1
 have hg : Ros.qck S.r (q : Int) := ⟨⟨⟨hok, by omega⟩, by omega, by omega⟩, by rw [Int.toNat_natCast, h.seats.peer q (by omega), if_pos hq]; omega⟩
 have hpg : ∀ j, (Ros.give S.r q).peer j = if j = q then -1 else S.r.peer j := fun j => rfl
 have hgok : Ros.Ok (Ros.give S.r q) := Fd.qov hg
 have hp7 : (Ros.give S.r q).peer 7 = -1 := by rw [hpg, if_neg (by omega), h.seats.peer 7 (by decide), if_neg (by omega)]
 have hg7 : (Ros.give S.r q).gen 7 = 0 := by show S.r.gen 7 = 0; rw [h.seats.gen 7 (by decide), if_neg (by omega)]
 have ht : Ros.qbS (Ros.give S.r q) 7 11 := by
  refine ⟨⟨⟨⟨hgok, by show S.r.version + 1 < _; omega⟩, by decide, by decide⟩, ⟨by decide, by decide⟩, ?_⟩, hp7, by rw [show (7 : Int).toNat = 7 from rfl, hg7]; decide⟩
  rcases Ros.qgb hgok (show (0 : Int) <= 11 by decide) (show (11 : Int) < 12 by decide) with ⟨x, _⟩ | ⟨j, hj, _, hp⟩
  · exact x
  · rw [hpg] at hp
    split at hp
    · omega
    · rw [h.seats.peer j hj] at hp; split at hp <;> omega
 have m1 : Fd.qcK S ⟨2, q, 1, q⟩ := .inr ⟨rfl, hg, by show S.r.peer (q : Int).toNat = q; rw [Int.toNat_natCast, h.seats.peer q (by omega), if_pos hq], by show S.r.gen (q : Int).toNat = 1; rw [Int.toNat_natCast, h.seats.gen q (by omega), if_pos hq]⟩
 have m2 : Fd.qcK (Fd.after S ⟨2, q, 1, q⟩) ⟨1, 7, 1, 11⟩ := .inl ⟨rfl, by rw [qeA]; exact ht, by rw [qeA]; show (1 : Int) = (Ros.give S.r q).gen 7 + 1; rw [hg7]; rfl⟩
 obtain ⟨T, hT⟩ : ∃ T, T = Fd.after (Fd.after S ⟨2, q, 1, q⟩) ⟨1, 7, 1, 11⟩ := ⟨_, rfl⟩
 have hch : Fd.changes S (evs2 q) = some T := by
  show Fd.changes S [⟨2, q, 1, q⟩, ⟨1, 7, 1, 11⟩] = _
  rw [Fd.qdW, Fd.qcv m1, Option.bind_some, Fd.qew, Fd.qcv m2, hT]
 have er : T.r = Ros.take (Ros.give S.r q) 7 11 := by rw [hT, qne, qeA]
 have tp : ∀ j, T.r.peer j = if j = 7 then 11 else if j = q then -1 else S.r.peer j := fun j => by rw [er]; rfl
 have tg : T.r.gen 7 = 1 := by
  rw [er]
  show (Ros.give S.r q).gen 7 + 1 = 1
  rw [hg7]; rfl
 have hin : ∀ j, (e2 q i).inp j = if j = 7 then i else in0 := fun j => rfl
 have hu : Fd.apply S (e2 q i) = some ⟨Gm.step (e2 q i).inp T.g, T.r⟩ := by
  rw [Fd.qcG ⟨h.fine.ok, ⟨⟨show (0 : Int) <= 1 by decide, show (1 : Int) < 1048576 by decide⟩, qpN (by omega), fun j hj => by rw [hin]; split; exact ho; exact qjR⟩, hfr.symm⟩]
  rw [show Fd.changes S (e2 q i).evs = some T from hch, Option.bind_some]
  refine if_pos fun j hj hp => ?_
  rw [hin]
  split
  · rename_i e; subst e; rw [show (T.r.peer 7 : Int) = 11 from tp 7] at hp; omega
  · exact qgc
 obtain ⟨u, eu⟩ : ∃ u : Fd.S, u = ⟨Gm.step (e2 q i).inp T.g, T.r⟩ := ⟨_, rfl⟩
 have eur : u.r = T.r := by rw [eu]
 rw [<- eu] at hu
 have hcf : ∃ N : M, confirm (advN (new S) k) (e2 q i) = some N /\ N.conf = u /\ N.q = newQ u.g.frame (e2 q i).inp (e2 q i).evs (fun j => Qu.done ((advN (new S) k).q j) ((e2 q i).inp j)) := by
  refine ⟨_, by unfold confirm; rw [h2, hu]; rfl, rfl, rfl⟩
 obtain ⟨N, hN, hc, hq'⟩ := hcf
 obtain ⟨n1, n2, n3⟩ := qfw h1 (e := e2 q i) (fun j hj => by rw [hin]; split; exact hi; exact qfK) hN
 rw [h4] at n3
 rw [h2, hfr] at n2 n3
 have hf2 : u.g.frame = 2 := by rw [<- hc, n2]; rfl
 have hr : N.conf.r = T.r := by rw [hc, eur]
 have q7 : N.q 7 = Qu.new 2 i := by
  rw [hq', hf2]
  rw [qhT 2 (e2 q i).inp 7 (e2 q i).evs _ ⟨⟨1, 7, 1, 11⟩, by show _ ∈ evs2 q; unfold evs2; simp, rfl⟩]
  rfl
 have np7 : N.conf.r.peer 7 = 11 := by rw [hr, tp, if_pos rfl]
 have npq : N.conf.r.peer q = -1 := by rw [hr, tp, if_neg (by omega), if_pos rfl]
 have ng7 : N.conf.r.gen 7 = 1 := by rw [hr, tg]
 have hl := n1.len
 have hlv : (N.qa3.length : Int) = (1 + (k : Int)) - 2 := by rw [hl, n3, n2]; omega
 refine ⟨N, hN, np7, ng7, ?_, ?_, by rw [n3, h4, hfr]; omega, by rw [hlv, h4, hfr], fun j f hf => ?_, ?_, ?_⟩
 · rw [n1.shown.ok.2.2 q (by omega), n1.ros, npq]; decide
 · rw [n1.shown.ok.2.2 7 (by decide), n1.ros, np7]; decide
 · obtain ⟨j1, j2⟩ := List.getElem?_eq_some_iff.1 hf
   have := n1.qa3 j j1
   rw [hf] at this
   injection this with this
   subst this
   constructor
   · unfold vec
     rw [if_pos ⟨by decide, by rw [np7]; decide⟩, q7, at_new]
   · unfold vec
     rw [if_neg (by rw [npq]; omega)]
 · unfold qcm
   rw [Bool.and_eq_false_iff]
   refine .inl (decide_eq_false fun hx => ?_)
   have := hx.2.2.1
   rw [Int.toNat_natCast, npq] at this
   omega
 · unfold qcm
   rw [Bool.and_eq_true]
   refine ⟨decide_eq_true ⟨by decide, by decide, by rw [show (7 : Int).toNat = 7 from rfl, np7]; decide, by rw [show (7 : Int).toNat = 7 from rfl, ng7]⟩, ?_⟩
   rw [show (7 : Int).toNat = 7 from rfl, q7]
   unfold Qu.qbT
   rw [Bool.and_eq_true, Bool.and_eq_true]
   exact ⟨⟨decide_eq_true ho, decide_eq_true ⟨by show (2 : Int) <= 3; decide, by show (3 : Int) - 2 <= 63; decide⟩⟩, rfl⟩
end Co
open Go.RowKit Go.Shelf
section
variable {ops : Array Oper} {rest : List Oper} {o : Oper} {a : Act} {w : World} {Q : Exit -> Act -> World -> Prop} {x y : Operand} {dst : Option Tmp} {p v : Value}
def qiZ (ops : Array Oper) (Q : Exit -> Act -> World -> Prop) (rest : List Oper) (dst : Option Tmp) (p v : Value) (a : Act) (w : World) : Prop :=
 ∃ (B i : Nat) (e : En.E) (s : Value) (u : Gm.In), p = .pointer (some ⟨B, 2 + i * 3, none⟩) /\ v = .agg #[.int .i8 u.x, .int .i8 u.y, .int .u8 u.b] /\ i < 8 /\ Box w B 52 (En.cells e s) /\ wpList Tryz.prog ops Q rest (a.put dst undef) (w.setRow B (En.cells { e with inp := En.upd e.inp i u } s))
theorem qiZ.mk {B i : Nat} {e : En.E} {s : Value} {u : Gm.In} (hp : p = .pointer (some ⟨B, 2 + i * 3, none⟩)) (hv : v = .agg #[.int .i8 u.x, .int .i8 u.y, .int .u8 u.b]) (hi : i < 8) (hB : Box w B 52 (En.cells e s)) (h : wpList Tryz.prog ops Q rest (a.put dst undef) (w.setRow B (En.cells { e with inp := En.upd e.inp i u } s))) : qiZ ops Q rest dst p v a w := ⟨B, i, e, s, u, hp, hv, hi, hB, h⟩
theorem qoE (e : En.E) (s : Value) (i : Nat) (hi : i < 8) (u : Gm.In) : splice (En.cells e s) (2 + i * 3) [.int .i8 u.x, .int .i8 u.y, .int .u8 u.b] = En.cells { e with inp := En.upd e.inp i u } s := by
 match i, hi with
 | 0, _ | 1, _ | 2, _ | 3, _ | 4, _ | 5, _ | 6, _ | 7, _ => rfl
theorem qle (hgd : o.guard = none) (ho : o.op = .store 48 x y) (h : qiZ ops Q rest o.dst (a.eval x) (a.eval y) a w) : wpList Tryz.prog ops Q (o :: rest) a w := by
 obtain ⟨B, i, e, s, u, hx, hy, hi, hB, h⟩ := h
 refine wpList_store_mid hgd 48 x y ho B (2 + i * 3) #[.int .i8 u.x, .int .i8 u.y, .int .u8 u.b] hx hy (hB.there _ _ (by rw [En.qaf]; show 2 + i * 3 + 3 <= 26; omega)) qft (by simp [Value.oneCell']) ?_
 rw [qbP B 52 _ (2 + i * 3) (En.cells e s) w hB.is (by rw [En.qaf]; show 2 + i * 3 + 3 <= 26; omega), qoE e s i hi u]
 exact h
end
theorem qnN (a b c d : Int) (w : World) : (binOp .eql 33 (.agg #[.int .i64 a, .int .i64 b]) (.agg #[.int .i64 c, .int .i64 d])).run Tryz.prog w = .ok (.bool (decide (a = c /\ b = d))) w := qf4 a b c d w
open Go.RowKit
theorem modN (x m : Int) (hm : 0 < m /\ m <= 1000000) : ∃ k : Nat, wrap64 ((IntKind.u64.wrap x).tmod m) = (k : Int) /\ (k : Int) < m := by
 have u0 : 0 <= IntKind.u64.wrap x := by rw [IntKind.wrap_u64]; omega
 have h1 := Int.emod_nonneg (IntKind.u64.wrap x) (show m ≠ 0 by omega)
 have h2 := Int.emod_lt_of_pos (IntKind.u64.wrap x) hm.1
 refine ⟨(IntKind.u64.wrap x % m).toNat, ?_, by omega⟩
 rw [Int.tmod_eq_emod_of_nonneg u0]
 unfold wrap64
 omega
theorem qlk (k s g p k' s' g' p' : Int) : Instr.fill (fun i => some (i * 4, 4)) ((Array.range (2 * 4)).map ((Value.agg #[.int .i64 0, .int .i64 0, .int .i64 0, .int .i64 0]).cells[· % (Value.agg #[.int .i64 0, .int .i64 0, .int .i64 0, .int .i64 0]).cells.size]!)) [(0, .agg #[.int .i64 k, .int .i64 s, .int .i64 g, .int .i64 p]), (1, .agg #[.int .i64 k', .int .i64 s', .int .i64 g', .int .i64 p'])] = some #[.int .i64 k, .int .i64 s, .int .i64 g, .int .i64 p, .int .i64 k', .int .i64 s', .int .i64 g', .int .i64 p'] := by kernel_rfl
theorem qqR (k s g p k' s' g' p' : Int) (W : World) : (Instr.buildSlice 50 2 #[(0, .agg #[.int .i64 k, .int .i64 s, .int .i64 g, .int .i64 p]), (1, .agg #[.int .i64 k', .int .i64 s', .int .i64 g', .int .i64 p'])]).run Tryz.prog W = .ok (.slice (some ⟨W.heap.size, 0, none⟩) 2 2) (W.alloc (.cells #[.int .i64 k, .int .i64 s, .int .i64 g, .int .i64 p, .int .i64 k', .int .i64 s', .int .i64 g', .int .i64 p'] 76)) := by
 obtain ⟨i, hq, hz, hs, _⟩ := qev
 exact run_buildSlice W _ _ 2 _ _ i _ Tryz.underlying50 hq hz (by rw [hs]; decide) (by rw [hs]; decide) (by rw [hs]; exact qlk k s g p k' s' g' p')
def qfZ (q : Nat) : Array Value := #[.int .i64 2, .int .i64 (q : Int), .int .i64 1, .int .i64 (q : Int), .int .i64 1, .int .i64 7, .int .i64 1, .int .i64 11]
theorem qoC {X : World} {b : Nat} {q : Nat} (h : Box X b 76 (qfZ q)) : Lies X X.heap.size 4 (some ⟨b, 0, none⟩) 2 (En.qa2 (Co.evs2 q)) := by
 refine ⟨rfl, fun _ => ⟨_, rfl, h.lt⟩, fun ad e _ j u hu => ?_⟩
 injection e with e
 subst e
 have hadd : (⟨b, 0, none⟩ : Addr).add j = ⟨b, j, none⟩ := by unfold Addr.add; split <;> simp_all
 rw [hadd, h.cell j]
 simpa [qfZ, Co.evs2, En.qa2, En.Ev.cells] using hu
theorem qg0 (x y b : Int) (w : World) : (binOp .neq 48 (.agg #[.int .i8 x, .int .i8 y, .int .u8 b]) (.agg #[.int .i8 x, .int .i8 y, .int .u8 b])).run Tryz.prog w = .ok (.bool false) w := by
 have h : (Op.equalIn 10000 48 (.agg #[.int .i8 x, .int .i8 y, .int .u8 b]) (.agg #[.int .i8 x, .int .i8 y, .int .u8 b])).run Tryz.prog w = .ok true w := by go_simp <;> simp
 go_simp
theorem qiV {B0 : Nat} {W : World} {o : Oper} {a : Act} {K : Act -> Prop} {ad : Addr} {x y b : Int} {p : Operand} (ho : o.op = .load 48 p) (hx : a.eval p = .pointer (some ad)) (hB : ∀ w : Ext B0 W, ∀ j v, (⟨x, y, b⟩ : Gm.In).cells[j]? = some v -> w.w.cell? (ad.add j) = some v) (h : K (a.put o.dst (.agg #[.int .i8 x, .int .i8 y, .int .u8 b]))) :
 o.quiet Tryz.prog a (fun w' => ∃ q : Ext B0 W, w' = q.w) K :=
 ⟨_, fun w hw => by
  obtain ⟨q, e'⟩ := hw
  subst e'
  unfold Oper.quietAt
  rw [qeT ho hx (hB q) Tryz.underlying48 rfl qft]
  exact ⟨rfl, rfl⟩, h⟩
theorem qi1 {W : World} {gb : Nat} {cur : Array Value} {g : List (Nat -> Gm.In)} {f : Nat -> Gm.In} {k i : Nat} {u : Gm.In} (hb : Box W gb 49 cur) (ht : cur.toList.take (g.length * 24) = vrow g) (hk : g[k]? = some f) (hi : i < 8) (hf : f i = u) : ∀ j v, u.cells[j]? = some v -> W.cell? ((⟨gb, k * 24 + i * 3, none⟩ : Addr).add j) = some v := by
 intro j v hv
 have hj : j < 3 := (List.getElem?_eq_some_iff.1 hv).1
 rw [Addr.add_lit, hb.cell, Nat.add_assoc, qff ht k i j hk hi hj, hf, hv]
theorem qqp {W : World} {B : Nat} {x y b : Int} (h : Box W B 48 #[.int .i8 x, .int .i8 y, .int .u8 b]) : ∀ j v, (⟨x, y, b⟩ : Gm.In).cells[j]? = some v -> W.cell? ((⟨B, 0, none⟩ : Addr).add j) = some v := by
 intro j v hv
 rw [Addr.add_lit, Nat.zero_add, h.cell]
 simpa [Gm.In.cells] using hv
theorem qiP {LP : qko} (C : qlE LP) (seed : ByteArray) (pe ah wh x y b : Int) (w : World) (hq : 20 < seed.size \/ x = -128 \/ y = -128) (hsz : seed.size <= maxLen) :
 Calls Tryz.prog 9 #[.string seed, .int .i64 pe, .int .i64 ah, .int .i64 wh, .agg #[.int .i8 x, .int .i8 y, .int .u8 b]] w fun e w' => e = .returned (.bool true) /\ Below w.heap.size w w' := by
 have P0 := qh (Box.made w 48 #[.int .i8 x, .int .i8 y, .int .u8 b])
 have K0 := qh (qac w (.cells #[.int .i8 x, .int .i8 y, .int .u8 b] 48))
 have ct := fun X => qh (qhG C X)
 have k0 := P0.out.cell 0
 have k1 := P0.out.cell 1
 have k2 := P0.out.cell 2
 simp only [List.getElem?_toArray, List.getElem?_cons_zero, List.getElem?_cons_succ] at k0 k1 k2
 by_cases h20 : seed.size <= 20
 · have hs : (seed.size : Int) <= 20 := by omega
   have hq1 := hq.resolve_left (by omega)
   clear hq hsz
   by_cases hx : x = -128
   · subst hx
     clear hq1
     go_enter Tryz.func9, Tryz.ntmps9
     go_wp2_with (go_at_call 12; ((with_reducible refine ((ct _).out).mono ?_); rintro e w1 ⟨rfl, hb⟩; have K1 := qh (K0.out.trans (hb.mono K0.out.size)); clear hb))
     go_ret
     exact ⟨rfl, K1.out⟩
   · have hx' : (x == -128) = false := by simpa using hx
     obtain rfl : y = -128 := hq1.resolve_left hx
     clear hq1
     go_enter Tryz.func9, Tryz.ntmps9
     go_wp2_with (go_at_call 12; ((with_reducible refine ((ct _).out).mono ?_); rintro e w1 ⟨rfl, hb⟩; have K1 := qh (K0.out.trans (hb.mono K0.out.size)); clear hb))
     go_ret
     exact ⟨rfl, K1.out⟩
 · have hs : (20 : Int) < seed.size := by omega
   clear hq hsz
   go_enter Tryz.func9, Tryz.ntmps9
   go_wp2_with (go_at_call 12; ((with_reducible refine ((ct _).out).mono ?_); rintro e w1 ⟨rfl, hb⟩; have K1 := qh (K0.out.trans (hb.mono K0.out.size)); clear hb))
   go_ret
   exact ⟨rfl, K1.out⟩
theorem qiQ {LP : qko} (C : qlE LP) (seed : ByteArray) (pe ah wh x y b : Int) (w : World) (hsz : seed.size <= 20) (hx : x ≠ -128) (hy : y ≠ -128) (wx : -128 <= x /\ x <= 127) (wy : -128 <= y /\ y <= 127) (wb : 0 <= b /\ b <= 255) :
 Calls Tryz.prog 9 #[.string seed, .int .i64 pe, .int .i64 ah, .int .i64 wh, .agg #[.int .i8 x, .int .i8 y, .int .u8 b]] w fun e w' => e = .returned (.bool true) /\ Below w.heap.size w w' := by
 have hsz' : seed.size <= maxLen := by unfold maxLen; omega
 have hs : (seed.size : Int) <= 20 := by omega
 have CO := C.ob
 obtain ⟨w0, hw0⟩ : ∃ w0, w0 = w.alloc (.cells #[.int .i8 x, .int .i8 y, .int .u8 b] 48) := ⟨_, rfl⟩
 have P0 := qh (show Box w0 w.heap.size 48 #[.int .i8 x, .int .i8 y, .int .u8 b] by rw [hw0]; exact Box.made _ _ _)
 have K0 := qh (show Below w.heap.size w w0 by rw [hw0]; exact qac _ _)
 have P00 := Box.made w 48 #[.int .i8 x, .int .i8 y, .int .u8 b]
 have k0 := P00.cell 0
 have k1 := P00.cell 1
 have k2 := P00.cell 2
 simp only [List.getElem?_toArray, List.getElem?_cons_zero, List.getElem?_cons_succ] at k0 k1 k2
 have hx' : (x == -128) = false := by simpa using hx
 have hy' : (y == -128) = false := by simpa using hy
 have TI := qh (show Gm.tyIn ⟨x, y, b⟩ from by unfold Gm.tyIn; dsimp only; omega)
 have OI := qh (show En.inOk ⟨x, y, b⟩ from by unfold En.inOk; dsimp only; omega)
 have HW0 := qh hw0
 clear P00 hx hy wx wy wb hw0
 go_enter Tryz.func9, Tryz.ntmps9
 go_upto_region 3 with fail
 rw [<- HW0.out]
 clear k0 k1 k2 hx' hy' HW0
 obtain ⟨p, hp, hp7⟩ := modN pe 7 (by decide)
 obtain ⟨n, hn⟩ : ∃ n : Nat, n = p + 1 := ⟨_, rfl⟩
 have wn : IntKind.i64.wrap (1 + (p : Int)) = (n : Int) := by rw [IntKind.wrap_i64]; omega
 have N7 := qh (show 1 <= n /\ n <= 7 by omega)
 clear hp7 hn
 have cc := qh (show Calls Tryz.prog 13 #[.string seed, .int .i64 (n : Int)] w0 (qho n w0) from qfH seed hsz' n (by have := N7.out.2; omega) w0)
 clear hsz' hs
 go_upto_region 5 with (first
  | (go_at_call 13; ((with_reducible refine ((cc).out).mono ?_); rintro e w1 ⟨S, A, c, rfl, hcr, hl, hb⟩; have HC := qh hcr; have HL := qh hl; have P1 := qh (P0.out.below hb P0.out.lt); have K1 := qh (K0.out.trans (hb.mono K0.out.size)); clear hcr hl hb))
  | (with_reducible refine qaz rfl rfl ?_)
  | (refine qb8 rfl rfl rfl rfl Im.qaO rfl ?_))
 clear hp wn cc P0 K0
 obtain ⟨X2, hX2⟩ : ∃ X2, X2 = w1.alloc (.cells (Im.cells S.g (.slice A S.g.qaa.length c) S.r) 38) := ⟨_, rfl⟩
 have hb2 : Below w1.heap.size w1 X2 := by rw [hX2]; exact qac _ _
 have S2 := qh (show Box X2 w1.heap.size 38 (Im.cells S.g (.slice A S.g.qaa.length c) S.r) by rw [hX2]; exact Box.made _ _ _)
 have P2 := qh (P1.out.below hb2 P1.out.lt)
 have K2 := qh (show Below w.heap.size w X2 from K1.out.trans (hb2.mono K1.out.size))
 have cn := qh (B16.new C (w := w) (L := [(w.heap.size, 48, #[.int .i8 x, .int .i8 y, .int .u8 b]), (w1.heap.size, 38, Im.cells S.g (.slice A S.g.qaa.length c) S.r)]) ⟨S.g, S.r, A, c⟩ HC.out.fine (HL.out.call hb2) K2.out (fun p hp => by
  rcases List.mem_cons.1 hp with rfl | hp
  · exact P2.out
  · obtain rfl := List.mem_singleton.1 hp; exact S2.out) (fun p hp => by
  rcases List.mem_cons.1 hp with rfl | hp
  · exact Nat.le_refl _
  · obtain rfl := List.mem_singleton.1 hp; exact K1.out.size))
 have NE := qh (show w.heap.size ≠ w1.heap.size from Nat.ne_of_lt P1.out.lt)
 rw [<- hX2]
 clear hX2 hb2 P1 K1
 generalize w1.heap.size = bs at *
 unfold Rg.St.arr at cn
 dsimp only at cn
 obtain ⟨a, ha, ha8⟩ := modN ah 8 (by decide)
 obtain ⟨k, hk⟩ : ∃ k : Nat, k = a + 1 := ⟨_, rfl⟩
 have wk : IntKind.i64.wrap (1 + (a : Int)) = (k : Int) := by rw [IntKind.wrap_i64]; omega
 have K8 := qh (show 1 <= k /\ k <= 8 by omega)
 clear ha8 hk
 go_wp2_with (first
  | ((with_reducible refine qak rfl rfl ?_); apply qaC.mk rfl; (focus (with_reducible exact S2.out)); dsimp only)
  | (go_at_call 14; ((with_reducible refine ((cn).out).mono ?_); rintro e w3 ⟨B, rfl, hH, hb⟩; have H3 := qh hH; clear hH hb)))
 clear cn ha wk S2 P2 K2
 go_loopw [15] (fun i wr => ∃ j : Nat, j <= k /\ i = .int .i64 j /\ qbA LP w B (Co.advN (Co.new S) j) [(w.heap.size, 48, #[.int .i8 x, .int .i8 y, .int .u8 b]), (bs, 38, Im.cells S.g (.slice A S.g.qaa.length c) S.r)] wr) (fun i _ => k - (intOf i).toNat)
 case atStart => exact ⟨0, Nat.zero_le _, rfl, H3.out⟩
 case round =>
  obtain ⟨j, hj, rfl, hH⟩ := hrel
  have HR := qh hH
  clear hH H3
  have hk8 := K8.out
  by_cases hlt : j < k
  · have hk8 : (j : Int) < k := by omega
    have hw1 := show IntKind.i64.wrap ((j : Int) + 1) = (j : Int) + 1 by rw [IntKind.wrap_i64]; omega
    have ca := qh (B16.advance C HR.out)
    rw [Co.qkl HC.out.fine j (by omega) (by have := HC.out.frame; omega)] at ca
    go_wp2_with (go_at_call 25; ((with_reducible refine ((ca).out).mono ?_); rintro e w4 ⟨rfl, hH⟩; have H4 := qh hH; clear hH))
    go_roundw
    case rel => exact ⟨j + 1, by omega, by go_num, H4.out⟩
    case measure => simp [intOf]; omega
  · obtain rfl : j = k := by omega
    have hk8 : ¬ ((j : Nat) : Int) < j := by omega
    have hn7 := N7.out
    obtain ⟨q, hqq, hqn⟩ := modN wh n ⟨by omega, by omega⟩
    have un : IntKind.u64.wrap (n : Int) = (n : Int) := by rw [IntKind.wrap_u64]; omega
    have nz : ¬ ((n : Int) = 0) := by omega
    have k0 : wr.cell? ⟨bs, 0, none⟩ = some (.int .i64 1) := by
     have := ((HR.out.box (List.mem_cons_of_mem _ List.mem_cons_self)).cell 0).trans (Rg.St.first ⟨S.g, S.r, A, c⟩)
     rwa [show (⟨S.g, S.r, A, c⟩ : Rg.St).g.frame = 1 from HC.out.frame] at this
    obtain ⟨N, hcome⟩ := Co.qpO HC.out N7.out.2 (q := q) (by omega) K8.out.1 K8.out.2 TI.out OI.out
    have HN := qh hcome
    have hfr := (Co.qhl HC.out.fine j K8.out.2 (by have := HC.out.frame; have := K8.out.2; omega)).2.2.2
    rw [show S.g.frame = 1 from HC.out.frame] at hfr
    have HFR := qh hfr
    have Q7 := qh (show q < 7 by omega)
    clear hcome hfr hqn hn7
    go_upto_region 14 with fail
    rw [hqq]
    clear un nz hqq hk8 hlt
    obtain ⟨bv, hbv⟩ : ∃ bv, bv = wr.heap.size := ⟨_, rfl⟩
    obtain ⟨be, hbe⟩ : ∃ be, be = (wr.alloc (.cells (qfZ q) 76)).heap.size := ⟨_, rfl⟩
    obtain ⟨X4, hX4⟩ : ∃ X4, X4 = (wr.alloc (.cells (qfZ q) 76)).alloc (.cells (En.cells ⟨1, Co.evs2 q, Fd.in0⟩ (.slice (some ⟨bv, 0, none⟩) 2 2)) 52) := ⟨_, rfl⟩
    have H4 := qh (show qbA LP w B (Co.advN (Co.new S) j) [(be, 52, En.cells ⟨1, Co.evs2 q, Fd.in0⟩ (.slice (some ⟨bv, 0, none⟩) 2 2)), (bv, 76, qfZ q), (w.heap.size, 48, #[.int .i8 x, .int .i8 y, .int .u8 b]), (bs, 38, Im.cells S.g (.slice A S.g.qaa.length c) S.r)] X4 by
     rw [hX4, hbe]
     have := (HR.out.alloc CO (qfZ q) 76)
     rw [<- hbv] at this
     exact this.alloc CO _ _)
    have e4 := hX4
    have hev := qqR 2 (q : Int) 1 (q : Int) 1 7 1 11 wr
    have ebf := qj5 1 (some ⟨wr.heap.size, 0, none⟩) 2 2 (Co.evs2 q)
    unfold qfZ at e4 hbe
    go_upto_region 15 with (first
     | (refine qaT rfl (t := 52) (vs := [(0, .int .i64 1), (1, .slice (some ⟨wr.heap.size, 0, none⟩) 2 2)]) rfl rfl ebf ?_)
     | (with_reducible refine ql2 rfl rfl ?_)
     | (with_reducible refine qfP rfl rfl rfl rfl En.ql4 rfl ?_))
    rw [<- hbe, <- hbv, <- e4]
    simp only [Act.put, List.setIfInBounds_toArray, List.set_cons_succ, List.set_cons_zero]
    clear e4 hev ebf hbe hbv hX4 HR k0
    have E4 := qh (H4.out.box List.mem_cons_self)
    have V4 := qh (H4.out.box (b := bv) (t := 76) (cs := qfZ q) (List.mem_cons_of_mem _ List.mem_cons_self))
    have P4 := qh (H4.out.box (b := w.heap.size) (t := 48) (cs := #[.int .i8 x, .int .i8 y, .int .u8 b]) (List.mem_cons_of_mem _ (List.mem_cons_of_mem _ List.mem_cons_self)))
    have S4 := qh (H4.out.box (b := bs) (t := 38) (cs := Im.cells S.g (.slice A S.g.qaa.length c) S.r) (by simp))
    have p0 := P4.out.cell 0
    have p1 := P4.out.cell 1
    have p2 := P4.out.cell 2
    simp only [List.getElem?_toArray, List.getElem?_cons_zero, List.getElem?_cons_succ] at p0 p1 p2
    have H5 := qh (qbA.row CO H4.out (fun p hp => by
     rcases List.mem_cons.1 hp with rfl | hp
     · exact Box.apart V4.out E4.out (by decide)
     · rcases List.mem_cons.1 hp with rfl | hp
       · exact Box.apart P4.out E4.out (by decide)
       · obtain rfl := List.mem_singleton.1 hp; exact Box.apart S4.out E4.out (by decide)) (En.cells ⟨1, Co.evs2 q, En.upd Fd.in0 7 ⟨x, y, b⟩⟩ (.slice (some ⟨bv, 0, none⟩) 2 2)))
    go_upto_region 16 with ((with_reducible refine qle rfl rfl ?_); apply qiZ.mk (u := ⟨x, y, b⟩) (i := 7) rfl rfl (by decide); (focus (with_reducible exact E4.out)); dsimp only)
    generalize X4.setRow be (En.cells ⟨1, Co.evs2 q, En.upd Fd.in0 7 ⟨x, y, b⟩⟩ (.slice (some ⟨bv, 0, none⟩) 2 2)) = X5 at *
    clear p0 p1 p2 E4 V4 P4 S4 H4
    have E5 := qh (H5.out.box List.mem_cons_self)
    have V5 := qh (H5.out.box (b := bv) (t := 76) (cs := qfZ q) (List.mem_cons_of_mem _ List.mem_cons_self))
    have cf := qh (B16.qbR C (Co.e2 q ⟨x, y, b⟩) (some ⟨bv, 0, none⟩) 2 2 rfl (by unfold maxLen; omega) (fun i hi => by
     show Gm.tyIn (if i = 7 then _ else _)
     split
     · exact TI.out
     · exact Co.qfK) HN.out.conf (qoC V5.out) (fun _ ad e => .inl ⟨_, List.mem_cons_of_mem _ List.mem_cons_self, by injection e with e; subst e; rfl⟩) H5.out)
    unfold Co.e2 at cf
    go_upto_region 18 with (first
     | ((with_reducible refine qhb rfl rfl ?_); apply qcl.mk rfl; (focus (with_reducible exact E5.out)); dsimp only)
     | (go_at_call 27; ((with_reducible refine ((cf).out).mono ?_); rintro e w6 ⟨rfl, hH⟩; have H6 := qh hH; clear hH)))
    clear cf E5 V5 H5
    have c1 := qh (B16.shown C H6.out)
    have c2 := fun X (hX : qbA LP w B N [(be, 52, En.cells ⟨1, Co.evs2 q, En.upd Fd.in0 7 ⟨x, y, b⟩⟩ (.slice (some ⟨bv, 0, none⟩) 2 2)), (bv, 76, qfZ q), (w.heap.size, 48, #[.int .i8 x, .int .i8 y, .int .u8 b]), (bs, 38, Im.cells S.g (.slice A S.g.qaa.length c) S.r)] X) => qh (B16.qa3 C hX)
    go_upto_region 19 with (first
     | (go_at_call 20; ((with_reducible refine ((c1).out).mono ?_); rintro e w7 ⟨⟨A7, c7, he, _, hb7⟩, hH⟩; unfold Rg.St.arr at he; dsimp only at he; subst he; have H7 := qh hH; have cs2 := c2 _ hH; clear hH hb7))
     | (go_at_call 19; ((with_reducible refine ((cs2).out).mono ?_); rintro e w8 ⟨ht, hH⟩; obtain ⟨A8, c8, R8, rfl, hr8, hx8, hz8⟩ := qiY.rows ht; have H8 := qh (B16.join CO H7.out hz8 hx8); have R8h := qh hr8; clear ht hH hr8 hx8 hz8))
     | (with_reducible refine qaz rfl rfl ?_)
     | (with_reducible refine qb8 rfl rfl rfl rfl Im.qaO rfl ?_))
    obtain ⟨X9, hX9⟩ : ∃ X9, X9 = w8.alloc (.cells (Im.cells N.shown.g (.slice A7 N.shown.g.qaa.length c7) N.shown.r) 38) := ⟨_, rfl⟩
    obtain ⟨bt, hbt⟩ : ∃ bt, bt = w8.heap.size := ⟨_, rfl⟩
    have h9 := qbA.alloc CO H8.out (Im.cells N.shown.g (.slice A7 N.shown.g.qaa.length c7) N.shown.r) 38
    rw [<- hX9, <- hbt] at h9
    rw [<- hX9, <- hbt]
    have H9 := qh h9
    clear h9 hX9 hbt H6 H7 H8 c1 c2 cs2
    have hq7 := Q7.out
    have T9 := H9.out.box List.mem_cons_self
    have S9 := H9.out.box (b := bs) (t := 38) (cs := Im.cells S.g (.slice A S.g.qaa.length c) S.r) (by simp)
    have koff : X9.cell? ⟨bt, 2 + q * 7, none⟩ = some (.bool false) := (T9.cell _).trans (by
     have := Im.qae N.shown.g (.slice A7 N.shown.g.qaa.length c7) N.shown.r q 0 (by omega) (by decide)
     rw [Nat.add_zero] at this
     rw [this]
     show some (Value.bool _) = _
     rw [HN.out.off])
    have kon : X9.cell? ⟨bt, 51, none⟩ = some (.bool true) := (T9.cell _).trans (by
     have := Im.qae N.shown.g (.slice A7 N.shown.g.qaa.length c7) N.shown.r 7 0 (by decide) (by decide)
     refine this.trans ?_
     show some (Value.bool _) = _
     rw [HN.out.on])
    have kf : X9.cell? ⟨bt, 0, none⟩ = some (.int .i64 (1 + (j : Int))) := by
     have := (T9.cell 0).trans (Rg.St.first ⟨N.shown.g, N.shown.r, A7, c7⟩)
     rwa [show (⟨N.shown.g, N.shown.r, A7, c7⟩ : Rg.St).g.frame = 1 + (j : Int) from HN.out.frame.trans HFR.out] at this
    have ks : X9.cell? ⟨bs, 0, none⟩ = some (.int .i64 1) := by
     have := (S9.cell 0).trans (Rg.St.first ⟨S.g, S.r, A, c⟩)
     rwa [show (⟨S.g, S.r, A, c⟩ : Rg.St).g.frame = 1 from HC.out.frame] at this
    have hk8 := K8.out
    have hln := HN.out.len
    rw [HFR.out] at hln
    have wf : IntKind.i64.wrap (1 + (j : Int)) = 1 + (j : Int) := by rw [IntKind.wrap_i64]; omega
    have wj : IntKind.i64.wrap ((j : Int) - 1) = (N.qa3.length : Int) := by rw [IntKind.wrap_i64]; omega
    have GL := qh (show N.qa3.length <= 8 by omega)
    clear T9 S9 hln
    have h71 : (q : Int) < 8 := by omega
    clear hk8 hq7
    go_upto_region 21 with fail
    clear koff kon kf ks wf wj
    go_wp2_with fail
    go_loopw [20] (fun i wx => ∃ z : Nat, z <= N.qa3.length /\ i = .int .i64 z /\ qbA LP w B N ((bt, 38, Im.cells N.shown.g (.slice A7 N.shown.g.qaa.length c7) N.shown.r) :: (R8 ++ [(be, 52, En.cells ⟨1, Co.evs2 q, En.upd Fd.in0 7 ⟨x, y, b⟩⟩ (.slice (some ⟨bv, 0, none⟩) 2 2)), (bv, 76, qfZ q), (w.heap.size, 48, #[.int .i8 x, .int .i8 y, .int .u8 b]), (bs, 38, Im.cells S.g (.slice A S.g.qaa.length c) S.r)])) wx) (fun i _ => N.qa3.length - (intOf i).toNat)
    case atStart => exact ⟨0, Nat.zero_le _, rfl, H9.out⟩
    case round =>
     obtain ⟨z, hz, rfl, hH⟩ := hrel
     have HZ := qh hH
     clear hH H9
     have hgl := GL.out
     have PZ := HZ.out.box (b := w.heap.size) (t := 48) (cs := #[.int .i8 x, .int .i8 y, .int .u8 b]) (by simp)
     have p0 := PZ.cell 0
     have p1 := PZ.cell 1
     have p2 := PZ.cell 2
     simp only [List.getElem?_toArray, List.getElem?_cons_zero, List.getElem?_cons_succ] at p0 p1 p2
     by_cases hzl : z < N.qa3.length
     · have hz8 : (z : Int) < (N.qa3.length : Int) := by omega
       have hw1 := show IntKind.i64.wrap ((z : Int) + 1) = (z : Int) + 1 by rw [IntKind.wrap_i64]; omega
       have hq7 := Q7.out
       obtain ⟨gb, cur, eA, eR, hcs, hct⟩ : ∃ b cur, A8 = some ⟨b, 0, none⟩ /\ R8 = [(b, 49, cur)] /\ N.qa3.length * 24 <= cur.size /\ cur.toList.take (N.qa3.length * 24) = vrow N.qa3 := by
        rcases R8h.out with ⟨h0, _⟩ | h
        · omega
        · exact h
       subst eA eR
       have e1 := List.getElem?_eq_getElem hzl
       obtain ⟨v7, vq⟩ := HN.out.vec z _ e1
       have GZ := HZ.out.box (b := gb) (t := 49) (cs := cur) (by simp)
       have Z7 := qh (fun e : Ext wr.heap.size wr => qi1 (u := ⟨x, y, b⟩) (GZ.below e.h GZ.lt) hct e1 (show 7 < 8 by decide) v7)
       have ZQ := qh (fun e : Ext wr.heap.size wr => qi1 (u := ⟨0, 0, 0⟩) (GZ.below e.h GZ.lt) hct e1 (show q < 8 by omega) vq)
       have ZP := qh (fun e : Ext wr.heap.size wr => qqp (PZ.below e.h PZ.lt))
       clear GZ PZ hcs hct e1 v7 vq R8h hq7 hgl p0 p1 p2
       have n1 := fun W => qg0 x y b W
       have n2 := fun W => qg0 0 0 0 W
       go_upto_region 24 with fail
       refine qby wr.heap.size wr (by kernel_rfl) (by kernel_rfl) (Below.refl _ _) ?_
       repeat (first | (go_big_quiet_want; (first | (refine qiV rfl rfl Z7.out ?_) | (refine qiV rfl rfl ZQ.out ?_) | (refine qiV rfl rfl ZP.out ?_)); simp only [Act.put, List.setIfInBounds_toArray, List.set_cons_succ, List.set_cons_zero]; go_big_quiet_on) | go_big_quiet_step (fail))
       refine wpQuiet_nil ?_
       intro _ hw'
       obtain ⟨q9, hw''⟩ := hw'
       subst hw''
       have H10 := qh (HZ.out.call CO q9.h)
       clear Z7 ZQ ZP n1 n2 HZ
       generalize q9.w = W9 at *
       go_wp2_with fail
       go_roundw
       case rel => exact ⟨z + 1, by omega, by go_num, H10.out⟩
       case measure => simp [intOf]; omega
     · have hz8 : ¬ (z : Int) < (N.qa3.length : Int) := by omega
       have ct := qh (qhG C wr)
       clear p0 p1 p2 PZ hgl R8h
       obtain ⟨L9, hL9⟩ : ∃ L9, L9 = ((bt, 38, Im.cells N.shown.g (.slice A7 N.shown.g.qaa.length c7) N.shown.r) :: (R8 ++ [(be, 52, En.cells ⟨1, Co.evs2 q, En.upd Fd.in0 7 ⟨x, y, b⟩⟩ (.slice (some ⟨bv, 0, none⟩) 2 2)), (bv, 76, qfZ q), (w.heap.size, 48, #[.int .i8 x, .int .i8 y, .int .u8 b]), (bs, 38, Im.cells S.g (.slice A S.g.qaa.length c) S.r)])) := ⟨_, rfl⟩
       have MP := qh (show (w.heap.size, 48, #[.int .i8 x, .int .i8 y, .int .u8 b]) ∈ L9 by rw [hL9]; simp)
       have MS := qh (show (bs, 38, Im.cells S.g (.slice A S.g.qaa.length c) S.r) ∈ L9 by rw [hL9]; simp)
       rw [<- hL9] at HZ
       clear hL9
       have kp := qh (show ∀ (m : Co.M) X, qbA LP w B m L9 X -> X.cell? ⟨bs, 0, none⟩ = some (.int .i64 1) /\ X.cell? ⟨w.heap.size, 0, none⟩ = some (.int .i8 x) /\ X.cell? ⟨w.heap.size, 1, none⟩ = some (.int .i8 y) /\ X.cell? ⟨w.heap.size, 2, none⟩ = some (.int .u8 b) from fun m X hX => ⟨by
        have := ((hX.box MS.out).cell 0).trans (Rg.St.first ⟨S.g, S.r, A, c⟩)
        rwa [show (⟨S.g, S.r, A, c⟩ : Rg.St).g.frame = 1 from HC.out.frame] at this, (hX.box MP.out).cell 0, (hX.box MP.out).cell 1, (hX.box MP.out).cell 2⟩)
       have c3 := fun X (hX : qbA LP w B N L9 X) => qh (B16.confirmed C hX)
       have hno := HN.out.no
       have hyes := HN.out.yes
       have c4 := fun X (hX : qbA LP w B N L9 X) => qh (show Calls Tryz.prog 26 #[.pointer (some ⟨B, 0, none⟩), .int .i64 (q : Int), .int .i64 1, .int .i64 3, .agg #[.int .i8 x, .int .i8 y, .int .u8 b]] X (fun e X' => e = .returned (.bool false) /\ qbA LP w B N L9 X') from (B16.input C (q : Int) 1 3 (by unfold i64R; decide) ⟨x, y, b⟩ TI.out hX).mono fun e X' h => by
        rw [hno] at h
        have hin : Co.input N q 1 3 ⟨x, y, b⟩ = N := by unfold Co.input; rw [if_neg (by rw [hno]; decide)]
        rw [hin] at h
        exact h)
       have c5 := fun X (hX : qbA LP w B N L9 X) => qh (show Calls Tryz.prog 26 #[.pointer (some ⟨B, 0, none⟩), .int .i64 7, .int .i64 1, .int .i64 3, .agg #[.int .i8 x, .int .i8 y, .int .u8 b]] X (fun e X' => e = .returned (.bool true) /\ Below w.heap.size w X') from (B16.input C 7 1 3 (by unfold i64R; decide) ⟨x, y, b⟩ TI.out hX).mono fun e X' h => by
        rw [hyes] at h
        exact ⟨h.1, h.2.down⟩)
       have x1 := fun (A : Option Addr) (c : Nat) (W : World) => qg6 N.conf.g (.slice A N.conf.g.qaa.length c) N.conf.r W
       have x2 := fun (W : World) => qet N.conf.r W
       have x3 := fun (W : World) => show (Instr.index 34 (.agg (Ros.qaP N.conf.r).toArray) (.int .i64 7)).run Tryz.prog W = .ok (.agg #[.int .i64 11, .int .i64 1]) W from by
        have := qd2 N.conf.r 7 (by decide) W
        rw [HN.out.peer, HN.out.gen] at this
        exact this
       have x4 := fun (W : World) => show (binOp .eql 33 (.agg #[.int .i64 11, .int .i64 1]) (.agg #[.int .i64 11, .int .i64 1])).run Tryz.prog W = .ok (.bool true) W from qnN 11 1 11 1 W
       clear hno hyes
       go_wp2_with (first
        | (go_at_call 12; ((with_reducible refine ((ct).out).mono ?_); rintro e w10 ⟨rfl, hb⟩; have cs3 := c3 _ (HZ.out.call CO hb); clear hb))
        | (go_at_call 18; ((with_reducible refine ((cs3).out).mono ?_); rintro e w11 ⟨⟨A11, c11, he, _, hb11⟩, hH⟩; unfold Rg.St.arr at he; dsimp only at he; subst he; obtain ⟨ks, p0, p1, p2⟩ := kp.out _ _ hH; have z1 := x1 A11 c11; have cs4 := c4 _ hH; clear hH hb11))
        | (go_at_call 26; ((with_reducible refine ((cs4).out).mono ?_); rintro e w12 ⟨rfl, hH⟩; obtain ⟨kt, r0, r1, r2⟩ := kp.out _ _ hH; have cs5 := c5 _ hH; clear hH cs4))
        | (go_at_call 26; ((with_reducible refine ((cs5).out).mono ?_); rintro e w13 ⟨rfl, hH⟩; have H13 := qh hH; clear hH)))
       go_ret
       exact ⟨rfl, H13.out⟩
theorem qj2 {LP : qko} (C : qlE LP) (seed : ByteArray) (pe ah wh x y b : Int) (w : World) (hsz : seed.size <= maxLen) (wx : -128 <= x /\ x <= 127) (wy : -128 <= y /\ y <= 127) (wb : 0 <= b /\ b <= 255) :
 Calls Tryz.prog 9 #[.string seed, .int .i64 pe, .int .i64 ah, .int .i64 wh, .agg #[.int .i8 x, .int .i8 y, .int .u8 b]] w fun e w' => e = .returned (.bool true) /\ Below w.heap.size w w' := by
 by_cases hq : 20 < seed.size \/ x = -128 \/ y = -128
 · exact qiP C seed pe ah wh x y b w hq hsz
 · have h1 : ¬ 20 < seed.size := fun h => hq (.inl h)
   exact qiQ C seed pe ah wh x y b w (by omega) (fun h => hq (.inr (.inl h))) (fun h => hq (.inr (.inr h))) wx wy wb
structure PRow (g : Nat) (L : List Rg.St) (X : World) : Prop where
 few : L.length <= 9
 row : ∃ cur : Array Value, Box X g 38 cur /\ cur.size = 684 /\ cur.toList.take (L.length * 76) = L.flatMap Rg.St.cells
structure PrgR (b : Nat) (F : Nat -> Prop) (B : Nat) (M : List Fd.S) (X : World) : Prop where
 box : ∃ g L, M = L.map Rg.St.s /\ Box X B 125 #[.slice (some ⟨g, 0, none⟩) L.length 9] /\ PRow g L X /\ F g /\ ∀ q ∈ L, Lies X X.heap.size 6 q.A q.g.qaa.length (Gm.qad q.g.qaa) /\ (q.g.qaa.length ≠ 0 -> ∀ ad, q.A = some ad -> F ad.block /\ ad.block ≠ g /\ ad.block ≠ B)
 own : F B
 up : ∀ k, F k -> b <= k /\ k < X.heap.size
section
variable {g : Nat} {L : List Rg.St} {X X' : World}
theorem PRow.lt (h : PRow g L X) : g < X.heap.size := by obtain ⟨cur, hB, _⟩ := h.row; exact hB.lt
theorem PRow.kept (h : PRow g L X) (hk : X'.heap[g]? = X.heap[g]?) : PRow g L X' := by
 obtain ⟨cur, hB, h1, h2⟩ := h.row
 exact ⟨h.few, cur, ⟨hk.trans hB.is⟩, h1, h2⟩
theorem PRow.lies (h : PRow g L X) : Lies X X.heap.size 76 (some ⟨g, 0, none⟩) L.length (L.flatMap Rg.St.cells) := by
 obtain ⟨cur, hB, h1, h2⟩ := h.row
 refine ⟨qdE (cells := Rg.St.cells) (c := 76) Rg.St.len L, fun _ => ⟨_, rfl, hB.lt⟩, fun ad e _ j u hj => ?_⟩
 injection e with e
 subst e
 rw [Addr.add_lit, Nat.zero_add, hB.cell j]
 rw [<- h2, List.getElem?_take] at hj
 split at hj
 · rw [<- Array.getElem?_toList]; exact hj
 · cases hj
end
theorem PrgR.obj : ObjC PrgR := by
 refine ⟨fun h => h.up, fun {b F B m X G X'} h hK hd => ?_⟩
 obtain ⟨g, L, e, hB, hR, hg, hs⟩ := h.box
 have hk : ∀ j, F j -> X'.heap[j]? = X.heap[j]? := fun j hj => hK.block j (h.up j hj).2 (hd j hj)
 exact ⟨⟨g, L, e, ⟨(hk B h.own).trans hB.is⟩, hR.kept (hk g hg), hg, fun q hq => ⟨qcC (hs q hq).1 hK.size fun h0 ad e => hk _ ((hs q hq).2 h0 ad e).1, (hs q hq).2⟩⟩, h.own, fun k hk => ⟨(h.up k hk).1, Nat.lt_of_lt_of_le (h.up k hk).2 hK.size⟩⟩
theorem qpG {w : World} {B : Nat} {g : Gm.G} {s : Value} {r : Ros.R} (h : Box w B 38 (Im.cells g s r)) (s' : Value) : Box (w.setCell ⟨B, 58, none⟩ s') B 38 (Im.cells g s' r) := by
 have := h.put 58 s'
 rwa [Im.qey] at this
theorem qiK (g : Gm.G) (s : Value) (r : Ros.R) : (Im.cells g s r)[58]? = some s := by
 rw [Im.qdh g s r 58 (by decide)]
 exact Gm.qbc g s
theorem qjl (q : Rg.St) (hn : q.g.qaa.length <= 60) (X : World) (hL : Lies X X.heap.size 6 q.A q.g.qaa.length (Gm.qad q.g.qaa)) :
 Calls Tryz.prog 82 #[.agg q.arr] X fun e X' => ∃ A' c', e = .returned (.agg (Rg.St.arr ⟨q.g, q.r, A', c'⟩)) /\ X'.ownsRow X.heap.size 80 6 (.slice A' q.g.qaa.length c') q.g.qaa.length (Gm.qad q.g.qaa) /\ Below X.heap.size X X' := by
 obtain ⟨g, r, A, c⟩ := q
 dsimp only at hn hL ⊢
 obtain ⟨X2, hX2⟩ : ∃ X2, X2 = (X.alloc (.cells (Im.cells g (.slice A g.qaa.length c) r) 38)).alloc (.cells Im.zero 38) := ⟨_, rfl⟩
 have b1 : Box X2 X.heap.size 38 (Im.cells g (.slice A g.qaa.length c) r) := by rw [hX2]; exact (Box.made _ _ _).alloc _
 have b2 : Box X2 (X.heap.size + 1) 38 Im.zero := by rw [hX2]; exact Box.qaq _ _ _ (by simp)
 have hb0 : Below X.heap.size X X2 := by rw [hX2]; exact qap X _ _
 have hs2 : X2.heap.size = X.heap.size + 2 := by rw [hX2]; simp
 have c1 := qh (qhf g.qaa A g.qaa.length c X2 rfl hn ((hL.below hb0).wider hb0.size))
 have k58 : X2.cell? ⟨X.heap.size, 58, none⟩ = some (.slice A g.qaa.length c) := (b1.cell 58).trans (qiK _ _ _)
 have HX := qh hX2
 have HB := qh hb0
 have B1 := qh b1
 have B2 := qh b2
 have HS := qh hs2
 unfold Rg.St.arr
 dsimp only
 clear hL b1 b2 hb0 hX2 hs2
 generalize hnn : g.qaa.length = n at *
 go_enter Tryz.func82, Tryz.ntmps82
 go_upto_region 1 with (with_reducible refine qaz rfl rfl ?_)
 rw [<- HX.out]
 go_wp2_with (first
  | (go_at_call 103; ((with_reducible refine ((c1).out).mono ?_); rintro e w1 ⟨A', c', rfl, ho, hb⟩; have D1 := B1.out.below hb (by have := HS.out; omega); have D2 := B2.out.below hb (by have := HS.out; omega); have k1 : w1.cell? ⟨X.heap.size, 58, none⟩ = some (.slice A n c) := (D1.cell 58).trans (qiK _ _ _); have f1 := D1.free 58; have O1 := qh ho; have HB1 := qh (HB.out.trans (hb.mono HB.out.size)); have F1 := qh (qpG D1 (.slice A' n c')); have ne1 : X.heap.size + 1 ≠ X.heap.size := (by omega); have F2 := qh (D2.far (p := ⟨X.heap.size, 58, none⟩) ne1 (.slice A' n c')); have nO := qh (D1.qaM ho (by decide)); have nO2 := qh (D2.qaM ho (by decide)); clear D1 D2 ho hb ne1))
  | ((with_reducible refine qak rfl rfl ?_); apply qaC.mk rfl; (focus (with_reducible exact F1.out)); dsimp only)
  | ((with_reducible refine qaI rfl rfl ?_); apply qcj.mk rfl rfl; (focus (with_reducible exact F2.out)); (focus exact Im.qaO); (focus rfl)))
 refine bodyPost_ret (v := .agg (Im.cells g (.slice A' n c') r)) ?_ ?_ ?_
 · exact results_cell_row rfl _ _ _ _ (Im.cells g (.slice A' n c') r) (0, 0) _ rfl (Box.row F2.out _).is Tryz.underlying38 rfl (by rw [Im.qaf]; exact qax)
 · rfl
 · refine ⟨A', c', rfl, ?_, ?_⟩
   · have h := qbi (ownsRow_setCell_other (a := ⟨X.heap.size, 58, none⟩) O1.out nO.out (.slice A' n c')) nO2.out (Im.cells g (.slice A' n c') r)
     exact qbE h (by have := HS.out; omega)
   · exact Below.setRow' (HB1.out.setCell (p := ⟨X.heap.size, 58, none⟩) (by simp) _) (by omega) _
theorem qmX (q : Rg.St) (f : Int) (P : Nat) (X : World) (hP : Box X P 3 #[.int .i64 f]) :
 Calls Tryz.prog 117 #[.agg q.arr, .pointer (some ⟨P, 0, none⟩)] X fun e X' => e = .returned (.bool (q.g.frame == f)) /\ Below X.heap.size X X' := by
 obtain ⟨X1, hX1⟩ : ∃ X1, X1 = X.alloc (.cells q.arr 38) := ⟨_, rfl⟩
 have hb : Below X.heap.size X X1 := by rw [hX1]; exact qac _ _
 have k0 : X1.cell? ⟨X.heap.size, 0, none⟩ = some (.int .i64 q.g.frame) := by rw [hX1]; exact ((Box.made _ _ _).cell 0).trans q.first
 have kP : X1.cell? ⟨P, 0, none⟩ = some (.int .i64 f) := (hP.below hb hP.lt).cell 0
 have HB := qh hb
 have HX := qh hX1
 clear hb hX1 hP
 generalize q.g.frame = fr at *
 generalize q.arr = arr at *
 go_enter Tryz.func117, Tryz.ntmps117
 go_upto_region 1 with fail
 rw [<- HX.out]
 go_wp2_with fail
 go_ret
 exact ⟨rfl, HB.out⟩
theorem qnU (g : Nat) (L : List Rg.St) (f v : Int) (hv : Rg.qbJ L f v) (P : Nat) (X : World) (hR : PRow g L X) (hP : Box X P 3 #[.int .i64 f]) :
 Calls Tryz.prog 116 #[.slice (some ⟨g, 0, none⟩) L.length 9, .func (.func 117) #[] #[.pointer (some ⟨P, 0, none⟩)]] X fun e X' => e = .returned (.int .i64 v) /\ Below X.heap.size X X' := by
 have hlt9 := hR.few
 obtain ⟨ad, had⟩ : ∃ ad, ad = (⟨g, 0, none⟩ : Addr) := ⟨_, rfl⟩
 have HR := qh (show Lies X X.heap.size 76 (some ad) L.length (L.flatMap Rg.St.cells) from by rw [had]; exact hR.lies)
 rw [<- had]
 have HV := qh hv
 have HP := qh hP
 have ct := fun q X' hP => qh (qmX q f P X' hP)
 clear hv hR hP had
 go_enter Tryz.func116, Tryz.ntmps116
 go_wp2_with fail
 go_loopw [5, 8] (fun _ i wr => ∃ k : Nat, k <= L.length /\ i = .int .i64 k /\ Below X.heap.size X wr /\ ∀ x ∈ L.take k, x.g.frame ≠ f) (fun _ i _ => L.length - (intOf i).toNat)
 case atStart => exact ⟨0, Nat.zero_le _, rfl, Below.refl _ _, fun y hy => absurd hy List.not_mem_nil⟩
 case round =>
  obtain ⟨k, hk, rfl, hW, hbf⟩ := hrel
  have HW := qh hW
  have HBF := qh hbf
  clear hbf hW
  by_cases hlt : k < L.length
  · have hlti : (k : Int) < L.length := by omega
    have hq : L[k]? = some L[k] := List.getElem?_eq_getElem hlt
    have Q := qh (qo3 ((HR.out.below HW.out).wider HW.out.size) rfl k hlt)
    have hPw := HP.out.below HW.out HP.out.lt
    have hct := ct (L[k]) wr hPw
    have HQ := qh hq
    clear hq hPw
    generalize L[k] = q at *
    have ea : q.arr = Im.cells q.g (.slice q.A q.g.qaa.length q.c) q.r := rfl
    rw [ea] at hct
    clear ea
    cases hf : (q.g.frame == f)
    · rw [hf] at hct
      have HF := qh (show q.g.frame ≠ f by simpa using hf)
      clear hf
      go_wp2_with (first
       | (refine qfh rfl rfl ?_; apply qib.mk (q := q) rfl (fun j hj => Q.out j hj))
       | (go_at_call 117; ((with_reducible refine ((hct).out).mono ?_); rintro e w5 ⟨rfl, hb5⟩; have HB5 := qh hb5; clear hb5)))
      go_roundw
      case rel => exact ⟨k + 1, by omega, by go_num, HW.out.trans (HB5.out.mono HW.out.size), Rg.qmF HQ.out HF.out HBF.out⟩
      case measure => simp [intOf]; omega
    · rw [hf] at hct
      have HF := qh (show q.g.frame = f by simpa using hf)
      clear hf
      go_wp2_with (first
       | (refine qfh rfl rfl ?_; apply qib.mk (q := q) rfl (fun j hj => Q.out j hj))
       | (go_at_call 117; ((with_reducible refine ((hct).out).mono ?_); rintro e w5 ⟨rfl, hb5⟩; have HB5 := qh hb5; clear hb5)))
      go_ret
      exact ⟨by rw [Rg.qn5 HV.out HQ.out HF.out HBF.out]; rfl, HW.out.trans (HB5.out.mono HW.out.size)⟩
  · obtain rfl : k = L.length := by omega
    have hlti : ¬ (L.length : Int) < L.length := by omega
    go_wp2_with fail
    go_ret
    exact ⟨by rw [Rg.qmE HV.out (fun y hy => HBF.out y (by rw [List.take_length]; exact hy))]; rfl, HW.out⟩
theorem qcR (B g : Nat) (L : List Rg.St) (f v : Int) (hv : Rg.qbJ L f v) (X : World) (hB : Box X B 125 #[.slice (some ⟨g, 0, none⟩) L.length 9]) (hR : PRow g L X) :
 Calls Tryz.prog 81 #[.pointer (some ⟨B, 0, none⟩), .int .i64 f] X fun e X' => e = .returned (.int .i64 v) /\ Below X.heap.size X X' := by
 have hmf : ∀ (fn : Fn) (first cap : Array Value) (w : World), (Instr.makeFunc fn first cap).run Tryz.prog w = .ok (.func fn first cap) w := fun _ _ _ _ => rfl
 obtain ⟨X1, hX1⟩ : ∃ X1, X1 = X.alloc (.cells #[.int .i64 f] 3) := ⟨_, rfl⟩
 have hb : Below X.heap.size X X1 := by rw [hX1]; exact qac _ _
 have hP : Box X1 X.heap.size 3 #[.int .i64 f] := by rw [hX1]; exact Box.made _ _ _
 have k0 : X1.cell? ⟨B, 0, none⟩ = some (.slice (some ⟨g, 0, none⟩) L.length 9) := (hB.below hb hB.lt).cell 0
 have ci := qh (qnU g L f v hv X.heap.size X1 (hR.kept (hb.block _ hR.lt)) hP)
 have HB := qh hb
 have HX := qh hX1
 clear hv hB hR hb hX1 hP
 go_enter Tryz.func81, Tryz.ntmps81
 go_upto_region 1 with fail
 rw [<- HX.out]
 go_wp2_with (go_at_call 116; ((with_reducible refine ((ci).out).mono ?_); rintro e w5 ⟨rfl, hb5⟩; have HB5 := qh hb5; clear hb5))
 go_ret
 exact ⟨rfl, HB.out.trans (HB5.out.mono HB.out.size)⟩
theorem qhL (f : Int) (X : World) :
 Calls Tryz.prog 81 #[.pointer none, .int .i64 f] X fun e X' => e = .returned (.int .i64 (-1)) /\ Below X.heap.size X X' := by
 go_enter Tryz.func81, Tryz.ntmps81
 go_wp2_with fail
 go_ret
 exact ⟨rfl, qac _ _⟩
theorem qcX (B n c : Nat) (A : Option Addr) (X : World) (hB : X.cell? ⟨B, 0, none⟩ = some (.slice A n c)) :
 Calls Tryz.prog 83 #[.pointer (some ⟨B, 0, none⟩)] X fun e X' => e = .returned (.int .i64 (n : Nat)) /\ X = X' := by
 go_enter Tryz.func83, Tryz.ntmps83
 go_wp2_with fail
 go_ret
 exact ⟨rfl, rfl⟩
theorem qjm (X : World) :
 Calls Tryz.prog 83 #[.pointer none] X fun e X' => e = .returned (.int .i64 0) /\ X = X' := by
 go_enter Tryz.func83, Tryz.ntmps83
 go_wp2_with fail
 go_ret
 exact ⟨rfl, rfl⟩
theorem qkF (B g k : Nat) (L : List Rg.St) (q : Rg.St) (hk : L.length = k + 1) (hq : L[0]? = some q) (X : World) (hB : Box X B 125 #[.slice (some ⟨g, 0, none⟩) L.length 9]) (hR : PRow g L X) :
 Calls Tryz.prog 44 #[.pointer (some ⟨B, 0, none⟩)] X fun e X' => e = .returned (.int .i64 q.g.frame) /\ X = X' := by
 have cl := qh (qcX B L.length 9 _ X (hB.cell 0))
 have k0 : X.cell? ⟨B, 0, none⟩ = some (.slice (some ⟨g, 0, none⟩) L.length 9) := hB.cell 0
 obtain ⟨ad, had⟩ : ∃ ad, ad = (⟨g, 0, none⟩ : Addr) := ⟨_, rfl⟩
 have hl := hR.lies
 have hfew := hR.few
 rw [<- had] at hl k0
 have hlt : 0 < L.length := by omega
 have hq0 : L[0] = q := by rw [List.getElem?_eq_getElem hlt] at hq; injection hq
 have kx := qo3 hl rfl 0 hlt 0 (by decide)
 rw [hq0, show q.cells[0]? = some (.int .i64 q.g.frame) from by unfold Rg.St.cells; rw [Array.getElem?_toList]; exact q.first] at kx
 have kx0 : X.cell? (ad.add (0 * 76)) = some (.int .i64 q.g.frame) := kx
 have kx1 : X.cell? ad = some (.int .i64 q.g.frame) := kx
 have kx2 : X.cell? (ad.add 0) = some (.int .i64 q.g.frame) := kx
 rw [hk] at cl k0
 have hne : ((k : Int) + 1 == 0) = false := by simp; omega
 clear hB hR hl hq hq0 had hlt kx
 generalize q.g.frame = fr at *
 go_enter Tryz.func44, Tryz.ntmps44
 go_wp2_with (go_at_call 83; ((with_reducible refine ((cl).out).mono ?_); rintro e w5 ⟨rfl, rfl⟩))
 go_ret
 exact ⟨rfl, rfl⟩
theorem qd5 (B g k : Nat) (L : List Rg.St) (q : Rg.St) (hk : L.length = k + 1) (hq : L[k]? = some q) (X : World) (hB : Box X B 125 #[.slice (some ⟨g, 0, none⟩) L.length 9]) (hR : PRow g L X) :
 Calls Tryz.prog 46 #[.pointer (some ⟨B, 0, none⟩)] X fun e X' => e = .returned (.int .i64 q.g.frame) /\ Below X.heap.size X X' := by
 have cl := qh (qcX B L.length 9 _ X (hB.cell 0))
 have k0 : X.cell? ⟨B, 0, none⟩ = some (.slice (some ⟨g, 0, none⟩) L.length 9) := hB.cell 0
 obtain ⟨ad, had⟩ : ∃ ad, ad = (⟨g, 0, none⟩ : Addr) := ⟨_, rfl⟩
 have hl := hR.lies
 have hfew := hR.few
 rw [<- had] at hl k0
 have hlt : k < L.length := by omega
 have hq0 : L[k] = q := by rw [List.getElem?_eq_getElem hlt] at hq; injection hq
 have kx := qo3 hl rfl k hlt 0 (by decide)
 rw [hq0, show q.cells[0]? = some (.int .i64 q.g.frame) from by unfold Rg.St.cells; rw [Array.getElem?_toList]; exact q.first] at kx
 have kx0 : X.cell? (ad.add (k * 76)) = some (.int .i64 q.g.frame) := kx
 rw [hk] at cl k0
 have hne : ((k : Int) + 1 == 0) = false := by simp; omega
 have hwm : IntKind.i64.wrap (((k + 1 : Nat) : Int) - 1) = (k : Int) := by rw [IntKind.wrap_i64]; omega
 have hwm2 : wrap64 (k : Int) = (k : Int) := IntWalk.wrap64_in _ (by omega)
 have hkl : (k : Int) < (k : Int) + 1 := by omega
 clear hB hR hl hq hq0 had hlt kx
 generalize q.g.frame = fr at *
 go_enter Tryz.func46, Tryz.ntmps46
 go_upto_region 3 with (go_at_call 83; ((with_reducible refine ((cl).out).mono ?_); rintro e w5 ⟨rfl, rfl⟩))
 go_quiet (fail)
 go_wp2_with fail
 go_ret
 exact ⟨rfl, by first | exact Below.refl _ _ | exact qaA (Below.refl _ _) _⟩
theorem qnX (B g : Nat) (L : List Rg.St) (f : Int) (hv : Rg.qbJ L f (-1)) (X : World) (hB : Box X B 125 #[.slice (some ⟨g, 0, none⟩) L.length 9]) (hR : PRow g L X) :
 Calls Tryz.prog 43 #[.pointer (some ⟨B, 0, none⟩), .int .i64 f] X fun e X' => e = .returned (.tuple #[.agg Im.zero, .bool false]) /\ Below X.heap.size X X' := by
 obtain ⟨X1, hX1⟩ : ∃ X1, X1 = X.alloc (.cells Im.zero 38) := ⟨_, rfl⟩
 have hb1 : Below X.heap.size X X1 := by rw [hX1]; exact qac X _
 have B0 := qh (show Box X1 X.heap.size 38 Im.zero by rw [hX1]; exact Box.made _ _ _)
 have cp := qh (qcR B g L f (-1) hv X1 (hB.below hb1 hB.lt) (hR.kept (hb1.block _ hR.lt)))
 have K0 := qh hb1
 have HX := qh hX1
 clear hB hR hv hb1 hX1
 go_enter Tryz.func43, Tryz.ntmps43
 go_upto_region 1 with (with_reducible refine qaz rfl rfl ?_)
 rw [<- HX.out]
 go_wp2_with (first
  | (go_at_call 81; ((with_reducible refine (cp).out.mono ?_); rintro e w1 ⟨rfl, hb⟩; have B1 := qh (B0.out.below hb B0.out.lt); have K1 := qh (K0.out.trans (hb.mono K0.out.size)); clear hb))
  | (refine qaT rfl (t := 38) (vs := []) rfl rfl qgq ?_)
  | ((with_reducible refine qiJ rfl rfl ?_); apply ql3.mk rfl rfl; (focus (with_reducible exact B1.out)); (focus exact Im.qaO)))
 refine bodyPost_ret (v := .tuple #[.agg Im.zero, .bool false]) ?_ ?_ ?_
 · exact results_cell_tmp (p := 4) (q := 5) rfl _ _ _ _ Im.zero _ rfl (B1.out.row _) Tryz.underlying38 rfl (by rw [Im.qaO]; exact qax)
 · rfl
 · exact ⟨rfl, Below.setRow' K1.out (Nat.le_refl _) _⟩
theorem qnW (B g : Nat) (L : List Rg.St) (f : Int) (i : Nat) (hi : i < L.length) (hv : Rg.qbJ L f i) (X : World) (hB : Box X B 125 #[.slice (some ⟨g, 0, none⟩) L.length 9]) (hR : PRow g L X) (hn : (L[i]).g.qaa.length <= 60) (hL : Lies X X.heap.size 6 (L[i]).A (L[i]).g.qaa.length (Gm.qad (L[i]).g.qaa)) :
 Calls Tryz.prog 43 #[.pointer (some ⟨B, 0, none⟩), .int .i64 f] X (qkm (L[i]).s X) := by
 have hfew := hR.few
 obtain ⟨X1, hX1⟩ : ∃ X1, X1 = X.alloc (.cells Im.zero 38) := ⟨_, rfl⟩
 have hb1 : Below X.heap.size X X1 := by rw [hX1]; exact qac X _
 have hs1 : X1.heap.size = X.heap.size + 1 := by rw [hX1]; simp
 have B0 := qh (show Box X1 X.heap.size 38 Im.zero by rw [hX1]; exact Box.made _ _ _)
 have cp := qh (qcR B g L f i hv X1 (hB.below hb1 hB.lt) (hR.kept (hb1.block _ hR.lt)))
 have hqe : ∃ q, q = L[i] := ⟨_, rfl⟩
 obtain ⟨q, hq⟩ := hqe
 rw [<- hq] at hn hL ⊢
 have hl := hR.lies
 obtain ⟨ad, had⟩ : ∃ ad, ad = (⟨g, 0, none⟩ : Addr) := ⟨_, rfl⟩
 rw [<- had] at hl
 have hst := qo3 hl rfl i hi
 rw [<- hq] at hst
 have hadb : ad.block < X.heap.size := by rw [had]; exact hR.lt
 have Q := qh (fun (w : World) (hb : Below X.heap.size X w) (j : Nat) (hj : j < 76) => show w.cell? ((ad.add (i * 76)).add j) = q.cells[j]? from (World.cell?_of_block (w := X) (by rw [add_block, add_block]; exact hb.block _ hadb)).trans (hst j hj))
 have k0 : ∀ w, Below X.heap.size X w -> w.cell? ⟨B, 0, none⟩ = some (.slice (some ad) L.length 9) := fun w hb => by rw [had]; exact (hB.below hb hB.lt).cell 0
 have KK := qh k0
 have HL := qh hL
 have co := fun w hw => qh (show Calls Tryz.prog 82 #[.agg (Im.cells q.g (.slice q.A q.g.qaa.length q.c) q.r)] w _ from qjl q hn w hw)
 have K0 := qh hb1
 have HX := qh hX1
 have HS := qh hs1
 have hil : (i : Int) < (L.length : Int) := by omega
 have hnn : ¬ (i : Int) < 0 := by omega
 clear hB hR hv hb1 hX1 hs1 hq hl hst hadb had k0 hL
 generalize L.length = n at *
 go_enter Tryz.func43, Tryz.ntmps43
 go_upto_region 1 with (with_reducible refine qaz rfl rfl ?_)
 rw [<- HX.out]
 go_wp2_with (first
  | (go_at_call 81; ((with_reducible refine (cp).out.mono ?_); rintro e w1 ⟨rfl, hb⟩; have B1 := qh (B0.out.below hb B0.out.lt); have K1 := qh (K0.out.trans (hb.mono K0.out.size)); have k1 := KK.out w1 K1.out; have c1 := qh ((co w1 ((HL.out.below K1.out).wider K1.out.size)).out); have S1 := qh hb.size; clear hb))
  | (refine qfh rfl rfl ?_; apply qib.mk (q := q) rfl (fun j hj => Q.out _ K1.out j hj))
  | (go_at_call 82; ((with_reducible refine (c1).out.mono ?_); rintro e w2 ⟨A', c', rfl, ho, hb⟩; have B2 := qh (B1.out.below hb B1.out.lt); have K2 := qh (K1.out.trans (hb.mono K1.out.size)); have O2 := qh ho; have N2 := qh (B2.out.qaM ho (by decide)); clear hb ho))
  | ((with_reducible refine qaI rfl rfl ?_); apply qcj.mk rfl rfl; (focus (with_reducible exact B2.out)); (focus exact Im.qaO); (focus rfl)))
 refine bodyPost_ret (v := .tuple #[.agg (Rg.St.arr ⟨q.g, q.r, A', c'⟩), .bool true]) ?_ ?_ ?_
 · exact results_cell_tmp (p := 4) (q := 5) rfl _ _ _ _ (Rg.St.arr ⟨q.g, q.r, A', c'⟩) _ rfl (B2.out.row _) Tryz.underlying38 rfl (by rw [Rg.St.size]; exact qax)
 · rfl
 · have h := qbi O2.out N2.out (Rg.St.arr ⟨q.g, q.r, A', c'⟩)
   exact ⟨A', c', rfl, Lies.owned h, fun _ => qbE h K1.out.size, Below.setRow' K2.out (Nat.le_refl _) _⟩
end Go.Proofs.YtmiopphcfdlneaaGreat