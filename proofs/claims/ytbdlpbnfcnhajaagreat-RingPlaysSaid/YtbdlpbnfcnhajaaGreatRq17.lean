/-
Several texts in one: Rpa Rpb Rpc Rpd Rpe Rpf Rpg Lrc.
-/
import Derived.Test.YtbdlpbnfcnhajaaGreatRq16
set_option maxRecDepth 100000
set_option maxHeartbeats 8000000
set_option linter.unusedVariables false
set_option linter.unusedSimpArgs false
namespace Go.Proofs.YtbdlpbnfcnhajaaGreat
open Go.RowKit
structure PRow (g : Nat) (L : List Rg.St) (X : World) : Prop where
 few : L.length <= 9
 row : ∃ cur : Array Value, Box X g 40 cur /\ cur.size = 684 /\ cur.toList.take (L.length * 76) = L.flatMap Rg.St.cells
structure PrgR (b : Nat) (F : Nat -> Prop) (B : Nat) (M : List Fd.S) (X : World) : Prop where
 box : ∃ g L, M = L.map Rg.St.s /\ Box X B 89 #[.slice (some ⟨g, 0, none⟩) L.length 9] /\ PRow g L X /\ F g /\ ∀ q ∈ L, Lies X X.heap.size 6 q.A q.g.qaa.length (Gm.qab q.g.qaa) /\ (q.g.qaa.length ≠ 0 -> ∀ ad, q.A = some ad -> F ad.block /\ ad.block ≠ g /\ ad.block ≠ B)
 own : F B
 up : ∀ k, F k -> b <= k /\ k < X.heap.size
section
variable {g : Nat} {L : List Rg.St} {X X' : World}
theorem PRow.lt (h : PRow g L X) : g < X.heap.size := by obtain ⟨cur, hB, _⟩ := h.row; exact hB.lt
theorem PRow.kept (h : PRow g L X) (hk : X'.heap[g]? = X.heap[g]?) : PRow g L X' := by
 obtain ⟨cur, hB, h1, h2⟩ := h.row
 exact ⟨h.few, cur, ⟨hk.trans hB.is⟩, h1, h2⟩
theorem PRow.lies (h : PRow g L X) : Lies X X.heap.size 76 (some ⟨g, 0, none⟩) L.length (L.flatMap Rg.St.cells) := by
 obtain ⟨cur, hB, h1, h2⟩ := h.row
 refine ⟨qca (cells := Rg.St.cells) (c := 76) Rg.St.len L, fun _ => ⟨_, rfl, hB.lt⟩, fun ad e _ j u hj => ?_⟩
 injection e with e
 subst e
 rw [Addr.add_lit, Nat.zero_add, hB.cell j]
 rw [<- h2, List.getElem?_take] at hj
 split at hj
 · rw [<- Array.getElem?_toList]; exact hj
 · cases hj
end
theorem PrgR.obj : ObjC PrgR := by
 refine ⟨fun h => h.up, fun {b F B m X G X'} h hK hd => ?_⟩
 obtain ⟨g, L, e, hB, hR, hg, hs⟩ := h.box
 have hk : ∀ j, F j -> X'.heap[j]? = X.heap[j]? := fun j hj => hK.block j (h.up j hj).2 (hd j hj)
 exact ⟨⟨g, L, e, ⟨(hk B h.own).trans hB.is⟩, hR.kept (hk g hg), hg, fun q hq => ⟨qba (hs q hq).1 hK.size fun h0 ad e => hk _ ((hs q hq).2 h0 ad e).1, (hs q hq).2⟩⟩, h.own, fun k hk => ⟨(h.up k hk).1, Nat.lt_of_lt_of_le (h.up k hk).2 hK.size⟩⟩
theorem qpa {w : World} {B : Nat} {g : Gm.G} {s : Value} {r : Ros.R} (h : Box w B 40 (Im.cells g s r)) (s' : Value) : Box (w.setCell ⟨B, 58, none⟩ s') B 40 (Im.cells g s' r) := by
 have := h.put 58 s'
 rwa [Im.qg9] at this
theorem qiz (g : Gm.G) (s : Value) (r : Ros.R) : (Im.cells g s r)[58]? = some s := by
 rw [Im.qdb g s r 58 (by decide)]
 exact Gm.qaZ g s
theorem qja (q : Rg.St) (hn : q.g.qaa.length <= 60) (X : World) (hL : Lies X X.heap.size 6 q.A q.g.qaa.length (Gm.qab q.g.qaa)) :
 Calls Tryz.prog 44 #[.agg q.arr] X fun e X' => ∃ A' c', e = .returned (.agg (Rg.St.arr ⟨q.g, q.r, A', c'⟩)) /\ X'.ownsRow X.heap.size 72 6 (.slice A' q.g.qaa.length c') q.g.qaa.length (Gm.qab q.g.qaa) /\ Below X.heap.size X X' := by
 obtain ⟨g, r, A, c⟩ := q
 dsimp only at hn hL ⊢
 obtain ⟨X2, hX2⟩ : ∃ X2, X2 = (X.alloc (.cells (Im.cells g (.slice A g.qaa.length c) r) 40)).alloc (.cells Im.zero 40) := ⟨_, rfl⟩
 have b1 : Box X2 X.heap.size 40 (Im.cells g (.slice A g.qaa.length c) r) := by rw [hX2]; exact (Box.made _ _ _).alloc _
 have b2 : Box X2 (X.heap.size + 1) 40 Im.zero := by rw [hX2]; exact Box.qan _ _ _ (by simp)
 have hb0 : Below X.heap.size X X2 := by rw [hX2]; exact qal X _ _
 have hs2 : X2.heap.size = X.heap.size + 2 := by rw [hX2]; simp
 have c1 := qh (qjT g.qaa A g.qaa.length c X2 rfl hn ((hL.below hb0).wider hb0.size))
 have k58 : X2.cell? ⟨X.heap.size, 58, none⟩ = some (.slice A g.qaa.length c) := (b1.cell 58).trans (qiz _ _ _)
 have HX := qh hX2
 have HB := qh hb0
 have B1 := qh b1
 have B2 := qh b2
 have HS := qh hs2
 unfold Rg.St.arr
 dsimp only
 clear hL b1 b2 hb0 hX2 hs2
 generalize hnn : g.qaa.length = n at *
 go_enter Tryz.func44, Tryz.ntmps44
 go_upto_region 1 with (with_reducible refine qau rfl rfl ?_)
 rw [<- HX.out]
 go_wp2_with (first
  | (go_at_call 69; ((with_reducible refine ((c1).out).mono ?_); rintro e w1 ⟨A', c', rfl, ho, hb⟩; have D1 := B1.out.below hb (by have := HS.out; omega); have D2 := B2.out.below hb (by have := HS.out; omega); have k1 : w1.cell? ⟨X.heap.size, 58, none⟩ = some (.slice A n c) := (D1.cell 58).trans (qiz _ _ _); have f1 := D1.free 58; have O1 := qh ho; have HB1 := qh (HB.out.trans (hb.mono HB.out.size)); have F1 := qh (qpa D1 (.slice A' n c')); have ne1 : X.heap.size + 1 ≠ X.heap.size := (by omega); have F2 := qh (D2.far (p := ⟨X.heap.size, 58, none⟩) ne1 (.slice A' n c')); have nO := qh (D1.qaO ho (by decide)); have nO2 := qh (D2.qaO ho (by decide)); clear D1 D2 ho hb ne1))
  | ((with_reducible refine qam rfl rfl ?_); apply qay.mk rfl; (focus (with_reducible exact F1.out)); dsimp only)
  | ((with_reducible refine qaE rfl rfl ?_); apply qb4.mk rfl rfl; (focus (with_reducible exact F2.out)); (focus exact Im.qar); (focus rfl)))
 refine bodyPost_ret (v := .agg (Im.cells g (.slice A' n c') r)) ?_ ?_ ?_
 · exact results_cell_row rfl _ _ _ _ (Im.cells g (.slice A' n c') r) (0, 0) _ rfl (Box.row F2.out _).is Tryz.underlying40 rfl (by rw [Im.qag]; exact qaw)
 · rfl
 · refine ⟨A', c', rfl, ?_, ?_⟩
   · have h := qbf (ownsRow_setCell_other (a := ⟨X.heap.size, 58, none⟩) O1.out nO.out (.slice A' n c')) nO2.out (Im.cells g (.slice A' n c') r)
     exact qbQ h (by have := HS.out; omega)
   · exact Below.setRow' (HB1.out.setCell (p := ⟨X.heap.size, 58, none⟩) (by simp) _) (by omega) _
theorem qmR (q : Rg.St) (f : Int) (P : Nat) (X : World) (hP : Box X P 3 #[.int .i64 f]) :
 Calls Tryz.prog 68 #[.agg q.arr, .pointer (some ⟨P, 0, none⟩)] X fun e X' => e = .returned (.bool (q.g.frame == f)) /\ Below X.heap.size X X' := by
 obtain ⟨X1, hX1⟩ : ∃ X1, X1 = X.alloc (.cells q.arr 40) := ⟨_, rfl⟩
 have hb : Below X.heap.size X X1 := by rw [hX1]; exact qac _ _
 have k0 : X1.cell? ⟨X.heap.size, 0, none⟩ = some (.int .i64 q.g.frame) := by rw [hX1]; exact ((Box.made _ _ _).cell 0).trans q.first
 have kP : X1.cell? ⟨P, 0, none⟩ = some (.int .i64 f) := (hP.below hb hP.lt).cell 0
 have HB := qh hb
 have HX := qh hX1
 clear hb hX1 hP
 generalize q.g.frame = fr at *
 generalize q.arr = arr at *
 go_enter Tryz.func68, Tryz.ntmps68
 go_upto_region 1 with fail
 rw [<- HX.out]
 go_wp2_with fail
 go_ret
 exact ⟨rfl, HB.out⟩
theorem qnF (g : Nat) (L : List Rg.St) (f v : Int) (hv : Rg.qa6 L f v) (P : Nat) (X : World) (hR : PRow g L X) (hP : Box X P 3 #[.int .i64 f]) :
 Calls Tryz.prog 67 #[.slice (some ⟨g, 0, none⟩) L.length 9, .func (.func 68) #[] #[.pointer (some ⟨P, 0, none⟩)]] X fun e X' => e = .returned (.int .i64 v) /\ Below X.heap.size X X' := by
 have hlt9 := hR.few
 obtain ⟨ad, had⟩ : ∃ ad, ad = (⟨g, 0, none⟩ : Addr) := ⟨_, rfl⟩
 have HR := qh (show Lies X X.heap.size 76 (some ad) L.length (L.flatMap Rg.St.cells) from by rw [had]; exact hR.lies)
 rw [<- had]
 have HV := qh hv
 have HP := qh hP
 have ct := fun q X' hP => qh (qmR q f P X' hP)
 clear hv hR hP had
 go_enter Tryz.func67, Tryz.ntmps67
 go_wp2_with fail
 go_loopw [5, 8] (fun _ i wr => ∃ k : Nat, k <= L.length /\ i = .int .i64 k /\ Below X.heap.size X wr /\ ∀ x ∈ L.take k, x.g.frame ≠ f) (fun _ i _ => L.length - (intOf i).toNat)
 case atStart => exact ⟨0, Nat.zero_le _, rfl, Below.refl _ _, fun y hy => absurd hy List.not_mem_nil⟩
 case round =>
  obtain ⟨k, hk, rfl, hW, hbf⟩ := hrel
  have HW := qh hW
  have HBF := qh hbf
  clear hbf hW
  by_cases hlt : k < L.length
  · have hlti : (k : Int) < L.length := by omega
    have hq : L[k]? = some L[k] := List.getElem?_eq_getElem hlt
    have Q := qh (qeb ((HR.out.below HW.out).wider HW.out.size) rfl k hlt)
    have hPw := HP.out.below HW.out HP.out.lt
    have hct := ct (L[k]) wr hPw
    have HQ := qh hq
    clear hq hPw
    generalize L[k] = q at *
    have ea : q.arr = Im.cells q.g (.slice q.A q.g.qaa.length q.c) q.r := rfl
    rw [ea] at hct
    clear ea
    cases hf : (q.g.frame == f)
    · rw [hf] at hct
      have HF := qh (show q.g.frame ≠ f by simpa using hf)
      clear hf
      go_wp2_with (first
       | (refine qdY rfl rfl ?_; apply qhh.mk (q := q) rfl (fun j hj => Q.out j hj))
       | (go_at_call 68; ((with_reducible refine ((hct).out).mono ?_); rintro e w5 ⟨rfl, hb5⟩; have HB5 := qh hb5; clear hb5)))
      go_roundw
      case rel => exact ⟨k + 1, by omega, by go_num, HW.out.trans (HB5.out.mono HW.out.size), Rg.qhI HQ.out HF.out HBF.out⟩
      case measure => simp [intOf]; omega
    · rw [hf] at hct
      have HF := qh (show q.g.frame = f by simpa using hf)
      clear hf
      go_wp2_with (first
       | (refine qdY rfl rfl ?_; apply qhh.mk (q := q) rfl (fun j hj => Q.out j hj))
       | (go_at_call 68; ((with_reducible refine ((hct).out).mono ?_); rintro e w5 ⟨rfl, hb5⟩; have HB5 := qh hb5; clear hb5)))
      go_ret
      exact ⟨by rw [Rg.qjq HV.out HQ.out HF.out HBF.out]; rfl, HW.out.trans (HB5.out.mono HW.out.size)⟩
  · obtain rfl : k = L.length := by omega
    have hlti : ¬ (L.length : Int) < L.length := by omega
    go_wp2_with fail
    go_ret
    exact ⟨by rw [Rg.qhH HV.out (fun y hy => HBF.out y (by rw [List.take_length]; exact hy))]; rfl, HW.out⟩
theorem qcE (B g : Nat) (L : List Rg.St) (f v : Int) (hv : Rg.qa6 L f v) (X : World) (hB : Box X B 89 #[.slice (some ⟨g, 0, none⟩) L.length 9]) (hR : PRow g L X) :
 Calls Tryz.prog 41 #[.pointer (some ⟨B, 0, none⟩), .int .i64 f] X fun e X' => e = .returned (.int .i64 v) /\ Below X.heap.size X X' := by
 have hmf : ∀ (fn : Fn) (first cap : Array Value) (w : World), (Instr.makeFunc fn first cap).run Tryz.prog w = .ok (.func fn first cap) w := fun _ _ _ _ => rfl
 obtain ⟨X1, hX1⟩ : ∃ X1, X1 = X.alloc (.cells #[.int .i64 f] 3) := ⟨_, rfl⟩
 have hb : Below X.heap.size X X1 := by rw [hX1]; exact qac _ _
 have hP : Box X1 X.heap.size 3 #[.int .i64 f] := by rw [hX1]; exact Box.made _ _ _
 have k0 : X1.cell? ⟨B, 0, none⟩ = some (.slice (some ⟨g, 0, none⟩) L.length 9) := (hB.below hb hB.lt).cell 0
 have ci := qh (qnF g L f v hv X.heap.size X1 (hR.kept (hb.block _ hR.lt)) hP)
 have HB := qh hb
 have HX := qh hX1
 clear hv hB hR hb hX1 hP
 go_enter Tryz.func41, Tryz.ntmps41
 go_upto_region 1 with fail
 rw [<- HX.out]
 go_wp2_with (go_at_call 67; ((with_reducible refine ((ci).out).mono ?_); rintro e w5 ⟨rfl, hb5⟩; have HB5 := qh hb5; clear hb5))
 go_ret
 exact ⟨rfl, HB.out.trans (HB5.out.mono HB.out.size)⟩
theorem qhD (f : Int) (X : World) :
 Calls Tryz.prog 41 #[.pointer none, .int .i64 f] X fun e X' => e = .returned (.int .i64 (-1)) /\ Below X.heap.size X X' := by
 go_enter Tryz.func41, Tryz.ntmps41
 go_wp2_with fail
 go_ret
 exact ⟨rfl, qac _ _⟩
theorem qcO (B n c : Nat) (A : Option Addr) (X : World) (hB : X.cell? ⟨B, 0, none⟩ = some (.slice A n c)) :
 Calls Tryz.prog 22 #[.pointer (some ⟨B, 0, none⟩)] X fun e X' => e = .returned (.int .i64 (n : Nat)) /\ X = X' := by
 go_enter Tryz.func22, Tryz.ntmps22
 go_wp2_with fail
 go_ret
 exact ⟨rfl, rfl⟩
theorem qjb (X : World) :
 Calls Tryz.prog 22 #[.pointer none] X fun e X' => e = .returned (.int .i64 0) /\ X = X' := by
 go_enter Tryz.func22, Tryz.ntmps22
 go_wp2_with fail
 go_ret
 exact ⟨rfl, rfl⟩
theorem qkr (B g k : Nat) (L : List Rg.St) (q : Rg.St) (hk : L.length = k + 1) (hq : L[0]? = some q) (X : World) (hB : Box X B 89 #[.slice (some ⟨g, 0, none⟩) L.length 9]) (hR : PRow g L X) :
 Calls Tryz.prog 23 #[.pointer (some ⟨B, 0, none⟩)] X fun e X' => e = .returned (.int .i64 q.g.frame) /\ X = X' := by
 have cl := qh (qcO B L.length 9 _ X (hB.cell 0))
 have k0 : X.cell? ⟨B, 0, none⟩ = some (.slice (some ⟨g, 0, none⟩) L.length 9) := hB.cell 0
 obtain ⟨ad, had⟩ : ∃ ad, ad = (⟨g, 0, none⟩ : Addr) := ⟨_, rfl⟩
 have hl := hR.lies
 have hfew := hR.few
 rw [<- had] at hl k0
 have hlt : 0 < L.length := by omega
 have hq0 : L[0] = q := by rw [List.getElem?_eq_getElem hlt] at hq; injection hq
 have kx := qeb hl rfl 0 hlt 0 (by decide)
 rw [hq0, show q.cells[0]? = some (.int .i64 q.g.frame) from by unfold Rg.St.cells; rw [Array.getElem?_toList]; exact q.first] at kx
 have kx0 : X.cell? (ad.add (0 * 76)) = some (.int .i64 q.g.frame) := kx
 have kx1 : X.cell? ad = some (.int .i64 q.g.frame) := kx
 have kx2 : X.cell? (ad.add 0) = some (.int .i64 q.g.frame) := kx
 rw [hk] at cl k0
 have hne : ((k : Int) + 1 == 0) = false := by simp; omega
 clear hB hR hl hq hq0 had hlt kx
 generalize q.g.frame = fr at *
 go_enter Tryz.func23, Tryz.ntmps23
 go_wp2_with (go_at_call 22; ((with_reducible refine ((cl).out).mono ?_); rintro e w5 ⟨rfl, rfl⟩))
 go_ret
 exact ⟨rfl, rfl⟩
theorem qd2 (B g k : Nat) (L : List Rg.St) (q : Rg.St) (hk : L.length = k + 1) (hq : L[k]? = some q) (X : World) (hB : Box X B 89 #[.slice (some ⟨g, 0, none⟩) L.length 9]) (hR : PRow g L X) :
 Calls Tryz.prog 24 #[.pointer (some ⟨B, 0, none⟩)] X fun e X' => e = .returned (.int .i64 q.g.frame) /\ Below X.heap.size X X' := by
 have cl := qh (qcO B L.length 9 _ X (hB.cell 0))
 have k0 : X.cell? ⟨B, 0, none⟩ = some (.slice (some ⟨g, 0, none⟩) L.length 9) := hB.cell 0
 obtain ⟨ad, had⟩ : ∃ ad, ad = (⟨g, 0, none⟩ : Addr) := ⟨_, rfl⟩
 have hl := hR.lies
 have hfew := hR.few
 rw [<- had] at hl k0
 have hlt : k < L.length := by omega
 have hq0 : L[k] = q := by rw [List.getElem?_eq_getElem hlt] at hq; injection hq
 have kx := qeb hl rfl k hlt 0 (by decide)
 rw [hq0, show q.cells[0]? = some (.int .i64 q.g.frame) from by unfold Rg.St.cells; rw [Array.getElem?_toList]; exact q.first] at kx
 have kx0 : X.cell? (ad.add (k * 76)) = some (.int .i64 q.g.frame) := kx
 rw [hk] at cl k0
 have hne : ((k : Int) + 1 == 0) = false := by simp; omega
 have hwm : IntKind.i64.wrap (((k + 1 : Nat) : Int) - 1) = (k : Int) := by rw [IntKind.wrap_i64]; omega
 have hwm2 : wrap64 (k : Int) = (k : Int) := IntWalk.wrap64_in _ (by omega)
 have hkl : (k : Int) < (k : Int) + 1 := by omega
 clear hB hR hl hq hq0 had hlt kx
 generalize q.g.frame = fr at *
 go_enter Tryz.func24, Tryz.ntmps24
 go_upto_region 3 with (go_at_call 22; ((with_reducible refine ((cl).out).mono ?_); rintro e w5 ⟨rfl, rfl⟩))
 go_quiet (fail)
 go_wp2_with fail
 go_ret
 exact ⟨rfl, by first | exact Below.refl _ _ | exact qaj (Below.refl _ _) _⟩
theorem qnI (B g : Nat) (L : List Rg.St) (f : Int) (hv : Rg.qa6 L f (-1)) (X : World) (hB : Box X B 89 #[.slice (some ⟨g, 0, none⟩) L.length 9]) (hR : PRow g L X) :
 Calls Tryz.prog 19 #[.pointer (some ⟨B, 0, none⟩), .int .i64 f] X fun e X' => e = .returned (.tuple #[.agg Im.zero, .bool false]) /\ Below X.heap.size X X' := by
 obtain ⟨X1, hX1⟩ : ∃ X1, X1 = X.alloc (.cells Im.zero 40) := ⟨_, rfl⟩
 have hb1 : Below X.heap.size X X1 := by rw [hX1]; exact qac X _
 have B0 := qh (show Box X1 X.heap.size 40 Im.zero by rw [hX1]; exact Box.made _ _ _)
 have cp := qh (qcE B g L f (-1) hv X1 (hB.below hb1 hB.lt) (hR.kept (hb1.block _ hR.lt)))
 have K0 := qh hb1
 have HX := qh hX1
 clear hB hR hv hb1 hX1
 go_enter Tryz.func19, Tryz.ntmps19
 go_upto_region 1 with (with_reducible refine qau rfl rfl ?_)
 rw [<- HX.out]
 go_wp2_with (first
  | (go_at_call 41; ((with_reducible refine (cp).out.mono ?_); rintro e w1 ⟨rfl, hb⟩; have B1 := qh (B0.out.below hb B0.out.lt); have K1 := qh (K0.out.trans (hb.mono K0.out.size)); clear hb))
  | (refine qaM rfl (t := 40) (vs := []) rfl rfl qeo ?_)
  | ((with_reducible refine qeR rfl rfl ?_); apply qj3.mk rfl rfl; (focus (with_reducible exact B1.out)); (focus exact Im.qar)))
 refine bodyPost_ret (v := .tuple #[.agg Im.zero, .bool false]) ?_ ?_ ?_
 · exact results_cell_tmp (p := 4) (q := 5) rfl _ _ _ _ Im.zero _ rfl (B1.out.row _) Tryz.underlying40 rfl (by rw [Im.qar]; exact qaw)
 · rfl
 · exact ⟨rfl, Below.setRow' K1.out (Nat.le_refl _) _⟩
theorem qnH (B g : Nat) (L : List Rg.St) (f : Int) (i : Nat) (hi : i < L.length) (hv : Rg.qa6 L f i) (X : World) (hB : Box X B 89 #[.slice (some ⟨g, 0, none⟩) L.length 9]) (hR : PRow g L X) (hn : (L[i]).g.qaa.length <= 60) (hL : Lies X X.heap.size 6 (L[i]).A (L[i]).g.qaa.length (Gm.qab (L[i]).g.qaa)) :
 Calls Tryz.prog 19 #[.pointer (some ⟨B, 0, none⟩), .int .i64 f] X (qhe (L[i]).s X) := by
 have hfew := hR.few
 obtain ⟨X1, hX1⟩ : ∃ X1, X1 = X.alloc (.cells Im.zero 40) := ⟨_, rfl⟩
 have hb1 : Below X.heap.size X X1 := by rw [hX1]; exact qac X _
 have hs1 : X1.heap.size = X.heap.size + 1 := by rw [hX1]; simp
 have B0 := qh (show Box X1 X.heap.size 40 Im.zero by rw [hX1]; exact Box.made _ _ _)
 have cp := qh (qcE B g L f i hv X1 (hB.below hb1 hB.lt) (hR.kept (hb1.block _ hR.lt)))
 have hqe : ∃ q, q = L[i] := ⟨_, rfl⟩
 obtain ⟨q, hq⟩ := hqe
 rw [<- hq] at hn hL ⊢
 have hl := hR.lies
 obtain ⟨ad, had⟩ : ∃ ad, ad = (⟨g, 0, none⟩ : Addr) := ⟨_, rfl⟩
 rw [<- had] at hl
 have hst := qeb hl rfl i hi
 rw [<- hq] at hst
 have hadb : ad.block < X.heap.size := by rw [had]; exact hR.lt
 have Q := qh (fun (w : World) (hb : Below X.heap.size X w) (j : Nat) (hj : j < 76) => show w.cell? ((ad.add (i * 76)).add j) = q.cells[j]? from (World.cell?_of_block (w := X) (by rw [add_block, add_block]; exact hb.block _ hadb)).trans (hst j hj))
 have k0 : ∀ w, Below X.heap.size X w -> w.cell? ⟨B, 0, none⟩ = some (.slice (some ad) L.length 9) := fun w hb => by rw [had]; exact (hB.below hb hB.lt).cell 0
 have KK := qh k0
 have HL := qh hL
 have co := fun w hw => qh (show Calls Tryz.prog 44 #[.agg (Im.cells q.g (.slice q.A q.g.qaa.length q.c) q.r)] w _ from qja q hn w hw)
 have K0 := qh hb1
 have HX := qh hX1
 have HS := qh hs1
 have hil : (i : Int) < (L.length : Int) := by omega
 have hnn : ¬ (i : Int) < 0 := by omega
 clear hB hR hv hb1 hX1 hs1 hq hl hst hadb had k0 hL
 generalize L.length = n at *
 go_enter Tryz.func19, Tryz.ntmps19
 go_upto_region 1 with (with_reducible refine qau rfl rfl ?_)
 rw [<- HX.out]
 go_wp2_with (first
  | (go_at_call 41; ((with_reducible refine (cp).out.mono ?_); rintro e w1 ⟨rfl, hb⟩; have B1 := qh (B0.out.below hb B0.out.lt); have K1 := qh (K0.out.trans (hb.mono K0.out.size)); have k1 := KK.out w1 K1.out; have c1 := qh ((co w1 ((HL.out.below K1.out).wider K1.out.size)).out); have S1 := qh hb.size; clear hb))
  | (refine qdY rfl rfl ?_; apply qhh.mk (q := q) rfl (fun j hj => Q.out _ K1.out j hj))
  | (go_at_call 44; ((with_reducible refine (c1).out.mono ?_); rintro e w2 ⟨A', c', rfl, ho, hb⟩; have B2 := qh (B1.out.below hb B1.out.lt); have K2 := qh (K1.out.trans (hb.mono K1.out.size)); have O2 := qh ho; have N2 := qh (B2.out.qaO ho (by decide)); clear hb ho))
  | ((with_reducible refine qaE rfl rfl ?_); apply qb4.mk rfl rfl; (focus (with_reducible exact B2.out)); (focus exact Im.qar); (focus rfl)))
 refine bodyPost_ret (v := .tuple #[.agg (Rg.St.arr ⟨q.g, q.r, A', c'⟩), .bool true]) ?_ ?_ ?_
 · exact results_cell_tmp (p := 4) (q := 5) rfl _ _ _ _ (Rg.St.arr ⟨q.g, q.r, A', c'⟩) _ rfl (B2.out.row _) Tryz.underlying40 rfl (by rw [Rg.St.size]; exact qaw)
 · rfl
 · have h := qbf O2.out N2.out (Rg.St.arr ⟨q.g, q.r, A', c'⟩)
   exact ⟨A', c', rfl, Lies.owned h, fun _ => qbQ h K1.out.size, Below.setRow' K2.out (Nat.le_refl _) _⟩
theorem qgS (L : List Rg.St) (i : Nat) (hi : i <= L.length) : (L.flatMap Rg.St.cells).take (i * 76) = (L.take i).flatMap Rg.St.cells := by
 have h : ((L.take i).flatMap Rg.St.cells).length = i * 76 := by
  rw [qca (cells := Rg.St.cells) (c := 76) Rg.St.len, List.length_take, Nat.min_eq_left hi]
 conv => lhs; rw [<- List.take_append_drop i L, List.flatMap_append]
 exact List.take_left' h
theorem qka (cs : Array Value) (o : Nat) (vs : List Value) (h : o + vs.length <= cs.size) : (splice cs o vs).size = cs.size := by
 unfold splice
 simp only [List.size_toArray, List.length_append, List.length_take, List.length_drop, Array.length_toList]
 omega
section
variable {g : Nat} {L L' : List Rg.St} {w : World}
theorem PRow.set (h : PRow g L w) (o : Nat) (vs : List Value) (hb : o + vs.length <= 684) (h9 : L'.length <= 9) (hc : ∀ cur : List Value, cur.length = 684 -> cur.take (L.length * 76) = L.flatMap Rg.St.cells -> (cur.take o ++ vs ++ cur.drop (o + vs.length)).take (L'.length * 76) = L'.flatMap Rg.St.cells) : PRow g L' (w.setCells g o vs) := by
 obtain ⟨cur, hB, h1, h2⟩ := h.row
 refine ⟨h9, splice cur o vs, ?_, by rw [qka cur o vs (by omega)]; exact h1, ?_⟩
 · rw [qbK g _ vs o cur w hB.is (by omega)]
   exact hB.row _
 · have := hc cur.toList (by rw [Array.length_toList]; exact h1) h2
   unfold splice
   rw [List.toList_toArray]
   exact this
theorem PRow.behind (h : PRow g L w) (o : Nat) (vs : List Value) (ho : L.length * 76 <= o) (hb : o + vs.length <= 684) : PRow g L (w.setCells g o vs) :=
 h.set o vs hb h.few fun cur hl hc => by
  rw [List.append_assoc, List.take_append_of_le_length (by rw [List.length_take]; omega), List.take_take, Nat.min_eq_left ho]
  exact hc
theorem PRow.push (h : PRow g L w) (q : Rg.St) (h8 : L.length <= 8) : PRow g (L ++ [q]) (w.setCells g (L.length * 76) q.cells) :=
 h.set _ _ (by rw [q.len]; omega) (by rw [List.length_append]; simp; omega) fun cur hl hc => by
  rw [hc]
  have hf : (L.flatMap Rg.St.cells).length = L.length * 76 := qca (cells := Rg.St.cells) (c := 76) Rg.St.len L
  rw [List.take_left' (by rw [List.length_append, hf, q.len, List.length_append]; simp; omega)]
  rw [List.flatMap_append, List.flatMap_cons, List.flatMap_nil, List.append_nil]
theorem PRow.over (h : PRow g L w) (i j : Nat) (hij : i <= j) (hj : j <= L.length) : PRow g (L.take i ++ L.drop j) (w.setCells g (i * 76) ((L.drop j).flatMap Rg.St.cells)) := by
 have h9 := h.few
 have hf : ((L.drop j).flatMap Rg.St.cells).length = (L.length - j) * 76 := by rw [qca (cells := Rg.St.cells) (c := 76) Rg.St.len, List.length_drop]
 refine h.set _ _ (by rw [hf]; omega) (by rw [List.length_append, List.length_take, List.length_drop]; omega) fun cur hl hc => ?_
 have e : cur.take (i * 76) = (L.take i).flatMap Rg.St.cells := by
  rw [<- qgS L i (by omega), <- hc, List.take_take, Nat.min_eq_left (by omega)]
 rw [e, List.take_left' (by rw [List.length_append, hf, qca (cells := Rg.St.cells) (c := 76) Rg.St.len, List.length_append, List.length_take, List.length_drop]; omega), List.flatMap_append]
end
theorem qaQ.qnK {F : Nat -> Prop} {X : World} {B : Nat} (hF : F B \/ X.heap.size <= B) : ∀ (vs : List Value) (o : Nat) {X' : World} (h : qaQ F X X'), qaQ F X (X'.setCells B o vs)
 | [], _, _, h => h
 | v :: r, o, X', h => qaQ.qnK hF r (o + 1) (h.put hF o v)
theorem qaQ.qj8 {F F' : Nat -> Prop} {X X' : World} (h : qaQ F X X') (hs : ∀ j, F j -> F' j) : qaQ F' X X' := ⟨h.os, h.tape, h.output, h.size, fun k hk hn => h.block k hk fun hf => hn (hs k hf)⟩
theorem qfT {o : Oper} {a : Act} {w : World} {x y : Operand} {g N : Nat} {L : List Rg.St} {q : Rg.St} (ho : o.op = .call { callee := .builtin .append, args := #[x, y], argTypes := #[42, 42] }) (hx : a.eval x = .slice (some ⟨g, 0, none⟩) L.length 9) (hy : a.eval y = .slice (some ⟨N, 0, none⟩) 1 1) (hR : PRow g L w) (h8 : L.length <= 8) (hB : Box w N 40 q.arr) :
 (execOp a.eval o).run Tryz.prog w = .ok (.value (.slice (some ⟨g, 0, none⟩) (L.length + 1) 9)) (w.setCells g (L.length * 76) q.cells) := by
 obtain ⟨i, hi, hz, hs, hby⟩ := qcV
 obtain ⟨cur, hC, h1, h2⟩ := hR.row
 have hrun := run_append_room_cells (P := Tryz.prog) w 42 o.type 40 i Tryz.underlying42 hi g 0 L.length 9 ⟨N, 0, none⟩ 1 1 q.cells (by rw [q.len, hs]) (fun j u hu => by
  rw [Addr.add_lit, Nat.zero_add, hB.cell j]
  unfold Rg.St.cells at hu
  rwa [Array.getElem?_toList] at hu) (qci q) (by omega) (fun j hj => by
  rw [hC.cell, Array.getElem?_eq_getElem (by rw [hs]; rw [q.len] at hj; omega)]; rfl) (fun j hj => hC.free _)
 rw [hs, Nat.zero_add] at hrun
 unfold execOp
 simp [ho, resolve, invoke, builtin, hx, hy, hrun, Result.andThen]
def putV (q : Rg.St) (L : List Rg.St) (g base : Nat) (j : Nat) (vm : Nat -> Value) (w : World) : Prop :=
 match j with
 | 6 => ∃ A' c', vm 6 = .agg (Rg.St.arr ⟨q.g, q.r, A', c'⟩) /\ Lies w w.heap.size 6 A' q.g.qaa.length (Gm.qab q.g.qaa) /\ (q.g.qaa.length ≠ 0 -> ∀ ad, A' = some ad -> base <= ad.block)
 | 7 => ∃ A' c' N, vm 6 = .agg (Rg.St.arr ⟨q.g, q.r, A', c'⟩) /\ vm 7 = .slice (some ⟨N, 0, none⟩) 1 1 /\ Box w N 40 (Rg.St.arr ⟨q.g, q.r, A', c'⟩) /\ base <= N
 | 8 => ∃ A' c', vm 6 = .agg (Rg.St.arr ⟨q.g, q.r, A', c'⟩) /\ vm 8 = .slice (some ⟨g, 0, none⟩) (L.length + 1) 9 /\ PRow g (L ++ [⟨q.g, q.r, A', c'⟩]) w
 | _ => True
theorem qfj {q : Rg.St} {L : List Rg.St} {g base j : Nat} {vm vm' : Nat -> Value} {w : World} (h : putV q L g base j vm w) (h1 : 6 <= j /\ j < 9) (h6 : vm 6 = vm' 6) (hj : vm j = vm' j) : putV q L g base j vm' w := by
 obtain rfl | rfl | rfl : j = 6 \/ j = 7 \/ j = 8 := by omega
 · obtain ⟨A, c, e, h⟩ := h; exact ⟨A, c, h6 ▸ e, h⟩
 · obtain ⟨A, c, N, e, e2, h⟩ := h; exact ⟨A, c, N, h6 ▸ e, hj ▸ e2, h⟩
 · obtain ⟨A, c, e, e2, h⟩ := h; exact ⟨A, c, h6 ▸ e, hj ▸ e2, h⟩
theorem qhG {q : Rg.St} {L : List Rg.St} {g base j : Nat} {vm : Nat -> Value} {w w' : World} (h : putV q L g base j vm w) (hb : Below w.heap.size w w') (h1 : 6 <= j /\ j < 9) : putV q L g base j vm w' := by
 obtain rfl | rfl | rfl : j = 6 \/ j = 7 \/ j = 8 := by omega
 · obtain ⟨A, c, e, h, h2⟩ := h; exact ⟨A, c, e, (h.below hb).wider hb.size, h2⟩
 · obtain ⟨A, c, N, e, e2, h, h2⟩ := h; exact ⟨A, c, N, e, e2, h.below hb h.lt, h2⟩
 · obtain ⟨A, c, e, e2, h⟩ := h; exact ⟨A, c, e, e2, h.kept (hb.block _ h.lt)⟩
theorem qoU {q : Rg.St} {L : List Rg.St} {g base j : Nat} {vm : Nat -> Value} {w w' : World} (h : putV q L g base j vm w) (hK : qaQ (fun k => k = g) w w') (hg : g < base) (h1 : 6 <= j /\ j < 8) : putV q L g base j vm w' := by
 obtain rfl | rfl : j = 6 \/ j = 7 := by omega
 · obtain ⟨A, c, e, h, h2⟩ := h
   refine ⟨A, c, e, qba h hK.size fun h0 ad ea => ?_, h2⟩
   obtain ⟨ad', ea', hb'⟩ := h.start h0
   rw [ea] at ea'; injection ea' with ea'; subst ea'
   have := h2 h0 _ ea
   exact hK.block _ hb' (by omega)
 · obtain ⟨A, c, N, e, e2, h, h2⟩ := h; exact ⟨A, c, N, e, e2, ⟨(hK.block N h.lt (by omega)).trans h.is⟩, h2⟩
theorem qpk {q : Rg.St} {A A' : Option Addr} {c c' : Nat} (h : Value.agg (Rg.St.arr ⟨q.g, q.r, A, c⟩) = .agg (Rg.St.arr ⟨q.g, q.r, A', c'⟩)) : A = A' /\ c = c' := by
 injection h with h
 have h58 := congrArg (fun x : Array Value => x[58]?) h
 have e : some (Value.slice A q.g.qaa.length c) = some (.slice A' q.g.qaa.length c') := (qiz _ _ _).symm.trans (h58.trans (qiz _ _ _))
 injection e with e
 injection e with e1 e2 e3
 exact ⟨e1, e3⟩
theorem qew {o : Oper} {a : Act} {w : World} {x : Operand} {B : Nat} (ho : o.op = .fieldAddr 89 x 0) (hx : a.eval x = .pointer (some ⟨B, 0, none⟩)) : (execOp a.eval o).run Tryz.prog w = .ok (.value (.pointer (some ⟨B, 0, none⟩))) w := by
 unfold execOp
 simp only [ho, hx]
 go_simp
theorem qi9 (B g : Nat) (L : List Rg.St) (q : Rg.St) (h8 : L.length <= 8) (hn : q.g.qaa.length <= 60) (X : World) (hB : Box X B 89 #[.slice (some ⟨g, 0, none⟩) L.length 9]) (hR : PRow g L X) (hL : Lies X X.heap.size 6 q.A q.g.qaa.length (Gm.qab q.g.qaa)) :
 Calls Tryz.prog 40 #[.pointer (some ⟨B, 0, none⟩), .agg q.arr] X fun e X' => e = .returned (.tuple #[]) /\ ∃ A' c', Box X' B 89 #[.slice (some ⟨g, 0, none⟩) (L.length + 1) 9] /\ PRow g (L ++ [⟨q.g, q.r, A', c'⟩]) X' /\ Lies X' X'.heap.size 6 A' q.g.qaa.length (Gm.qab q.g.qaa) /\ (q.g.qaa.length ≠ 0 -> ∀ ad, A' = some ad -> X.heap.size <= ad.block) /\ qaQ (fun k => k = g \/ k = B) X X' := by
 have hBg : B ≠ g := by obtain ⟨cur, hC, _⟩ := hR.row; exact hB.apart hC (by decide)
 obtain ⟨X1, hX1⟩ : ∃ X1, X1 = X.alloc (.cells q.arr 40) := ⟨_, rfl⟩
 have hb1 : Below X.heap.size X X1 := by rw [hX1]; exact qac X _
 have hs1 : X1.heap.size = X.heap.size + 1 := by rw [hX1]; simp
 have P1 := qh (show Box X1 X.heap.size 40 q.arr by rw [hX1]; exact Box.made _ _ _)
 have B1 := qh (hB.below hb1 hB.lt)
 have R1 := qh (hR.kept (hb1.block _ hR.lt))
 have hgl := hR.lt
 have hBl := hB.lt
 have L1 := qh ((hL.below hb1).wider hb1.size)
 have K1 := qh hb1
 have HX := qh hX1
 have HS := qh hs1
 have co := qh (fun w hw => show Calls Tryz.prog 44 #[.agg q.arr] w _ from qja q hn w hw)
 have HBG := qh hBg
 clear hB hR hL hb1 hX1 hs1 hBg
 go_enter Tryz.func40, Tryz.ntmps40
 go_upto_region 1 with fail
 rw [<- HX.out]
 have kB : ∀ W, qaQ (fun k => k = g) X1 W -> Box W B 89 #[.slice (some ⟨g, 0, none⟩) L.length 9] := fun W hK => ⟨(hK.block B (B1.out.lt) HBG.out).trans B1.out.is⟩
 have kP : ∀ W, qaQ (fun k => k = g) X1 W -> Box W X.heap.size 40 q.arr := fun W hK => ⟨(hK.block _ P1.out.lt (by omega)).trans P1.out.is⟩
 have KB := qh kB
 have KP := qh kP
 clear kB kP
 refine Rj.qel (by kernel_rfl) 6 9 (by kernel_rfl) (fun W => qaQ (fun k => k = g) X1 W /\ PRow g L W) (fun j vm W => putV q L g X1.heap.size j vm W) (fun S vm W => (S 8 = true -> S 6 = true) /\ (S 8 = false -> Below X1.heap.size X1 W)) ⟨(qaQ.refl _ _).call (Below.drew (Below.refl _ _)), R1.out.kept rfl⟩ (fun _ => ⟨fun h => (by cases h), fun _ => Below.drew (Below.refl _ _)⟩) (fun S vm vm' W he h => h) ?hvd ?_
 case hvd =>
  intro j vm vm' W h1 h2 he hV
  obtain rfl | rfl | rfl : j = 6 \/ j = 7 \/ j = 8 := by omega
  · exact qfj hV (by omega) (he 6 (.inl rfl)) (he 6 (.inl rfl))
  · exact qfj hV (by omega) (he 6 (.inr (by kernel_rfl))) (he 7 (.inl rfl))
  · exact qfj hV (by omega) (he 6 (.inr (by kernel_rfl))) (he 8 (.inl rfl))
 simp only [List.take_succ_cons, List.take_zero, List.drop_succ_cons, List.drop_zero, Nat.reduceSub]
 refine Rz.qbv (v := .pointer (some ⟨B, 0, none⟩)) (fun W hW => Rz.qaR rfl rfl) ?_
 refine Rz.qbv (v := .pointer (some ⟨B, 0, none⟩)) (fun W hW => Rz.qaR rfl rfl) ?_
 refine Rz.qbv (v := .pointer (some ⟨B, 0, none⟩)) (fun W hW => qcp rfl rfl) ?_
 refine Rz.qbv (v := .pointer (some ⟨B, 0, none⟩)) (fun W hW => qew rfl rfl) ?_
 refine Rz.qbv (v := .slice (some ⟨g, 0, none⟩) L.length 9) (fun W hW => qd7 rfl rfl ((KB.out W hW.1).cell 0)) ?_
 refine Rz.qbv (v := .agg q.arr) (fun W hW => qfH q rfl rfl (KP.out W hW.1)) ?_
 refine Rz.qhN (fun A => A.tmps.size = 15 /\ A.eval (.tmp 8) = .slice (some ⟨g, 0, none⟩) L.length 9) ⟨rfl, rfl⟩ ?_ ?_ ?_
 · intro S vm W hW hSi hS hV hD
   simp only [Rz.qaA]
   have hd8 : S 8 = false := by
    cases h : S 8 with
    | false => rfl
    | true => have := hD.1 h; rw [hSi] at this; cases this
   have hWb := hD.2 hd8
   refine qdn (f := 44) (args := #[.agg q.arr]) ?_ ((co.out W ((L1.out.below hWb).wider hWb.size)).mono ?_)
   · go_simp
   · rintro e w' ⟨A', c', rfl, ho, hb⟩
     refine ⟨_, rfl, ⟨A', c', by simp [Rz.upd], Lies.owned ho, fun h0 ad ea => ?_⟩, ⟨hW.1.call hb, hW.2.kept (hb.block _ hW.2.lt)⟩, fun j h1 h2 _ _ h => qhG h hb ⟨h1, h2⟩, fun h => ?_, fun h => ?_⟩
     · obtain ⟨_, ⟨q0, hq0⟩ | ⟨gq, _, _, q0, hq, _⟩⟩ := ho
       · exact absurd hq0 h0
       · injection q0 with q0
         rw [q0] at ea
         injection ea with ea
         subst ea
         exact Nat.le_trans hWb.size hq
     · simp [Rj.also]
     · exact hWb.trans (hb.mono hWb.size)
 · intro A ⟨hAs, hA8⟩
   refine ⟨?_, ?_, trivial⟩
   · intro S vm W hW hSi hS hV hD
     have s6 := hS 6 (by omega) (by omega) (by kernel_rfl)
     obtain ⟨A', c', e6, _, _⟩ := hV 6 (by omega) (by omega) s6
     refine qaX (qgU ⟨q.g, q.r, A', c'⟩ rfl ?_) ⟨⟨A', c', W.heap.size, by simp [Rz.upd]; exact e6, by simp [Rz.upd], Box.made _ _ _, hW.1.size⟩, ⟨hW.1.call (qac _ _), hW.2.kept (by exact (qac W _).block _ hW.2.lt)⟩, fun j h1 h2 _ _ h => qhG h (qac _ _) ⟨h1, h2⟩, fun h => ?_, fun h => ?_⟩
     · simp only [Rz.qaA]
       repeat rw [Rz.qaD (by decide)]
       rw [Rz.qa9 (by simp only [Rz.qa8, hAs]; decide)]
       exact e6
     · simp [Rj.also, s6]
     · have hd := hD.2 (by simpa [Rj.also] using h)
       exact hd.alloc hd.size _
   · intro S vm W hW hSi hS hV hD
     have s6 := hS 6 (by omega) (by omega) (by kernel_rfl)
     have s7 := hS 7 (by omega) (by omega) (by kernel_rfl)
     obtain ⟨A', c', N, e6, e7, hN, hNb⟩ := hV 7 (by omega) (by omega) s7
     have hk : qaQ (fun k => k = g) W (W.setCells g (L.length * 76) (Rg.St.cells ⟨q.g, q.r, A', c'⟩)) := qaQ.qnK (F := fun k => k = g) (B := g) (.inl rfl) _ _ (qaQ.refl _ _)
     refine qaX (qfT (g := g) (N := N) (L := L) (q := ⟨q.g, q.r, A', c'⟩) rfl ?_ ?_ hW.2 h8 hN) ⟨⟨A', c', by simp [Rz.upd]; exact e6, by simp [Rz.upd], hW.2.push _ h8⟩, ⟨hW.1.trans hk (fun j hj => .inl hj), hW.2.behind _ _ (Nat.le_refl _) (by rw [Rg.St.len]; omega)⟩, fun j h1 h2 hne _ h => qoU h hk (by have := HS.out; omega) (by omega), fun _ => ?_, fun h => ?_⟩
     · simp only [Rz.qaA]
       repeat rw [Rz.qaD (by decide)]
       exact hA8
     · simp only [Rz.qaA]
       repeat rw [Rz.qaD (by decide)]
       rw [Rz.qa9 (by simp only [Rz.qa8, hAs]; decide)]
       exact e7
     · simp [Rj.also, s6]
     · simp [Rj.also] at h
 · intro S vm W hW hS hV hD
   obtain ⟨A', c', e6, hl6, ha6⟩ := hV 6 (by omega) (by omega)
   obtain ⟨A2, c2, e8, e8b, hR8⟩ := hV 8 (by omega) (by omega)
   obtain ⟨rfl, rfl⟩ := qpk (e6.symm.trans e8)
   have BW := qh (KB.out W hW.1)
   have KW := qh hW.1
   have R8 := qh hR8
   have L6 := qh hl6
   have A6 := qh ha6
   have xf := BW.out.free 0
   have xl := BW.out.lt
   have xc := BW.out.cell 0
   clear hW hS hV hD hl6 ha6 hR8 e6 e8
   simp only [Rz.qaA, Nat.reduceAdd, e8b]
   generalize vm 6 = v6
   generalize vm 7 = v7
   clear e8b
   go_wp2_with fail
   (try simp only [Exit.inBlock, Exit.then])
   refine bodyPost_end (results_none rfl _ _ _) rfl ?_
   have hne : B ≠ g := HBG.out
   refine ⟨rfl, A', c', BW.out.put 0 _, R8.out.kept (heap_setCell_other _ _ _ _ (Ne.symm hne)), ?_, fun h0 ad ea => ?_, ?_⟩
   · refine qba L6.out (by simp) fun h0 ad ea => heap_setCell_other _ _ _ _ ?_
     have := A6.out h0 ad ea
     have := HS.out
     show ad.block ≠ B
     omega
   · have := A6.out h0 ad ea
     have := HS.out
     omega
   · have h0 : qaQ (fun k => k = g \/ k = B) X X1 := (qaQ.qb7 K1.out).qj8 fun j hj => hj.elim
     have h1 : qaQ (fun k => k = g \/ k = B) X W := h0.trans KW.out (fun j hj => .inl (.inl hj))
     exact h1.put (.inl (.inr rfl)) 0 _
theorem qj9 (w : World) : (zeroValue 40).run Tryz.prog w = .ok (.agg Im.zero) w := by
 obtain ⟨i, hi, hz, hs, hby⟩ := qcV
 simp [zeroValue, typeInfo, hi, hz]
theorem qhj (n : Nat) : ∀ u ∈ (Builtin.zeroCells Im.zero n).toList, u.oneCell' = true := by
 intro u hu
 have hz : Im.zero.all (·.oneCell') = true := by kernel_rfl
 unfold Builtin.zeroCells at hu
 rw [Array.toList_map] at hu
 obtain ⟨k, _, rfl⟩ := List.mem_map.1 hu
 have hk : k % Im.zero.size < Im.zero.size := Nat.mod_lt _ (by rw [Im.qar]; decide)
 rw [getElem!_pos Im.zero _ hk]
 exact Array.all_eq_true_iff_forall_mem.1 hz _ (Array.getElem_mem _)
theorem qc8 (n : Nat) : (Builtin.zeroCells Im.zero n).toList.length = n * 76 := by
 unfold Builtin.zeroCells
 rw [Array.length_toList, Array.size_map, Array.size_range, Im.qar]
theorem PRow.clear_ {g : Nat} {L : List Rg.St} {w : World} (h : PRow g L w) (i n : Nat) (hi : i < n) (hn : n <= 9) (c : Nat) (ty : TypeId) :
 (Builtin.clear_ #[42] ty #[.slice (some ⟨g, i * 76, none⟩) (n - i) c]).run Tryz.prog w = .ok (.tuple #[]) (w.setCells g (i * 76) (Builtin.zeroCells Im.zero (n - i)).toList) := by
 obtain ⟨cur, hB, h1, h2⟩ := h.row
 have hst := run_storeCells_cells (P := Tryz.prog) g (i * 76) (Builtin.zeroCells Im.zero (n - i)).toList 0 w (fun j hj => by
  rw [qc8] at hj
  rw [hB.cell, Array.getElem?_eq_getElem (by omega)]; rfl) (fun j hj => hB.free _) (qhj _)
 simp only [Nat.add_zero] at hst
 obtain ⟨m, hm⟩ : ∃ m, n - i = m + 1 := ⟨n - i - 1, by omega⟩
 rw [hm] at hst ⊢
 have e2 : (Value.agg Tryz.zeroCells40).cells = Im.zero := rfl
 simp [Builtin.clear_, run_underlying Tryz.underlying42, qj9, e2, hst]
theorem qjc (g : Nat) (L : List Rg.St) (i j : Nat) (hij : i <= j) (hj : j <= L.length) (X : World) (hR : PRow g L X) :
 Calls Tryz.prog 42 #[.slice (some ⟨g, 0, none⟩) L.length 9, .int .i64 i, .int .i64 j] X fun e X' => e = .returned (.slice (some ⟨g, 0, none⟩) (i + (L.length - j)) 9) /\ PRow g (L.take i ++ L.drop j) X' /\ qaQ (fun k => k = g) X X' := by
 have h9 := hR.few
 have HR := qh hR
 have hi0 : (0 : Int) <= (i : Int) := by omega
 have hiji : (i : Int) <= (j : Int) := by omega
 have hji : (j : Int) <= (L.length : Int) := by omega
 have hn9 : (L.length : Int) <= 9 := by omega
 by_cases heq : i = j
 · subst heq
   have HE := qh (show L.take i ++ L.drop i = L from List.take_append_drop i L)
   have HN := qh (show i + (L.length - i) = L.length by omega)
   clear hR
   go_enter Tryz.func42, Tryz.ntmps42
   go_wp2_with fail
   all_goals (go_ret; exact ⟨rfl, HR.out, qaQ.refl _ _⟩)
 · obtain ⟨I, hI, hz, hs, hby⟩ := qcV
   obtain ⟨news, hnews⟩ : ∃ news, news = (L.drop j).flatMap Rg.St.cells := ⟨_, rfl⟩
   have hnl : news.length = (L.length - j) * 76 := by rw [hnews, qca (cells := Rg.St.cells) (c := 76) Rg.St.len, List.length_drop]
   have s1 := qh hnl
   have s2 := qh (show ∀ u ∈ news, u.oneCell' = true by rw [hnews]; exact qfv _)
   have hlies := hR.lies
   have hsrc := qh (show ∀ (t : Nat) (u : Value), news[t]? = some u -> X.drew.cell? (Addr.add ⟨g, j * 76, none⟩ t) = some u from fun t u hu => by
    rw [hnews, <- Nat.zero_add t, <- Nat.zero_mul 76, <- Nat.zero_add t] at hu
    have ht : t < (L.length - j) * 76 := by rw [<- hnl, hnews]; have := (List.getElem?_eq_some_iff.1 hu).1; simpa using this
    have := hlies.cell _ rfl (by omega) (j * 76 + t) u (by rw [qoa L j t hj]; simpa using hu)
    rw [Addr.add_lit] at this ⊢
    rw [Nat.zero_add] at this
    exact this)
   obtain ⟨cur, hB, hc1, hc2⟩ := hR.row
   have s3 := qh (show ∀ t, t < news.length -> (X.drew.cell? ⟨g, 0 + i * 76 + t, none⟩).isSome = true /\ X.drew.frozen? ⟨g, 0 + i * 76 + t, none⟩ = false from fun t ht => ⟨by
    show (X.cell? _).isSome = true
    rw [hB.cell, Array.getElem?_eq_getElem (by omega)]; rfl, hB.free _⟩)
   obtain ⟨W1, hW1⟩ : ∃ W1, W1 = X.drew.setCells g (0 + i * 76) news := ⟨_, rfl⟩
   have Q1 : PRow g (L.take i ++ L.drop j) W1 := by rw [hW1, hnews, Nat.zero_add]; exact (hR.kept (X' := X.drew) rfl).over i j (by omega) hj
   have K1 : qaQ (fun k => k = g) X W1 := by
    rw [hW1]
    exact qaQ.qnK (F := fun k => k = g) (.inl rfl) news (0 + i * 76) ((qaQ.refl _ X).call (Below.drew (Below.refl _ _)))
   obtain ⟨n, hn⟩ : ∃ n, n = L.length := ⟨_, rfl⟩
   obtain ⟨m, hm⟩ : ∃ m, m = i + (n - j) := ⟨_, rfl⟩
   have hlen2 : (L.take i ++ L.drop j).length = m := by rw [List.length_append, List.length_take, List.length_drop]; omega
   have hcl : ∀ ty c, (Builtin.clear_ #[42] ty #[.slice (some ⟨g, m * 76, none⟩) (n - m) c]).run Tryz.prog W1 = .ok (.tuple #[]) (W1.setCells g (m * 76) (Builtin.zeroCells Im.zero (n - m)).toList) := fun ty c => Q1.clear_ m n (by omega) (by omega) c ty
   have HQ := qh Q1
   have HK := qh K1
   have HW := qh hW1
   have HL2 := qh hlen2
   have hmn : m < n := by omega
   have hmi : (m : Int) <= (n : Int) := by omega
   have hne : ((i : Int) == (j : Int)) = false := by simp; omega
   have hroom : i + (n - j) <= 9 := by omega
   rw [<- hn] at s1 hji hn9 h9 hj ⊢
   have HH := qh hn
   clear hlies hR hB hc1 hc2 Q1 K1 hW1 hlen2 hnl hnews hn hz hby
   go_enter Tryz.func42, Tryz.ntmps42
   have hni : ¬ n = i := by omega
   have hin : (i : Int) <= (n : Int) := by omega
   have hi9 : (i : Int) <= 9 := by omega
   have hj9i : (j : Int) <= 9 := by omega
   by_cases hj9 : j = 9
   · subst hj9
     obtain rfl : n = 9 := by omega
     obtain rfl : m = i := by omega
     clear hm
     have hnil : news = [] := List.eq_nil_of_length_eq_zero (by have h1 := s1.out; rw [h1])
     obtain rfl : W1 = X.drew := by rw [HW.out, hnil]; rfl
     clear hsrc
     go_wp2_with fail
     go_region
     go_wp2_with fail
     go_ret
     refine ⟨rfl, HQ.out.behind _ _ (by rw [HL2.out]; exact Nat.le_refl _) (by rw [qc8]; omega), qaQ.qnK (F := fun k => k = g) (.inl rfl) _ _ HK.out⟩
   · have hj9' : ¬ 9 = j := fun e => hj9 e.symm
     clear hj9
     subst hm
     go_wp2_with fail
     go_region_law (refine step_append_room rfl (.tmp 22) (.tmp 25) 42 rfl 40 I 76 Tryz.underlying42 hI hs g 0 i 9 (by simp [Act.eval, Act.put]) ⟨g, j * 76, none⟩ (n - j) (9 - j) news (by simp [Act.eval, Act.put, hj9']) s1.out hsrc.out s2.out hroom s3.out ?_; rw [<- HW.out])
     go_wp2_with fail
     go_ret
     refine ⟨rfl, HQ.out.behind _ _ (by rw [HL2.out]; exact Nat.le_refl _) (by rw [qc8]; omega), qaQ.qnK (F := fun k => k = g) (.inl rfl) _ _ HK.out⟩
theorem qmi (B g : Nat) (L : List Rg.St) (f : Int) (hv : Rg.qa6 L f (-1)) (X : World) (hB : Box X B 89 #[.slice (some ⟨g, 0, none⟩) L.length 9]) (hR : PRow g L X) :
 Calls Tryz.prog 15 #[.pointer (some ⟨B, 0, none⟩), .int .i64 f] X fun e X' => e = .returned (.bool false) /\ Below X.heap.size X X' := by
 have cp := qh (qcE B g L f (-1) hv X hB hR)
 clear hv hB hR
 go_enter Tryz.func15, Tryz.ntmps15
 go_wp2_with (go_at_call 41; ((with_reducible refine (cp).out.mono ?_); rintro e w1 ⟨rfl, hb⟩; have K1 := qh hb; clear hb))
 go_ret
 exact ⟨rfl, K1.out⟩
theorem qkt (B g : Nat) (L : List Rg.St) (f : Int) (hv : Rg.qa6 L f (-1)) (X : World) (hB : Box X B 89 #[.slice (some ⟨g, 0, none⟩) L.length 9]) (hR : PRow g L X) :
 Calls Tryz.prog 17 #[.pointer (some ⟨B, 0, none⟩), .int .i64 f] X fun e X' => e = .returned (.bool false) /\ Below X.heap.size X X' := by
 have cp := qh (qcE B g L f (-1) hv X hB hR)
 clear hv hB hR
 go_enter Tryz.func17, Tryz.ntmps17
 go_wp2_with (go_at_call 41; ((with_reducible refine (cp).out.mono ?_); rintro e w1 ⟨rfl, hb⟩; have K1 := qh hb; clear hb))
 go_ret
 exact ⟨rfl, K1.out⟩
theorem qnG (f : Int) (X : World) :
 Calls Tryz.prog 15 #[.pointer none, .int .i64 f] X fun e X' => e = .returned (.bool false) /\ Below X.heap.size X X' := by
 have cp := qh (qhD f X)
 go_enter Tryz.func15, Tryz.ntmps15
 go_wp2_with (go_at_call 41; ((with_reducible refine (cp).out.mono ?_); rintro e w1 ⟨rfl, hb⟩; have K1 := qh hb; clear hb))
 go_ret
 exact ⟨rfl, K1.out⟩
theorem qmg (f : Int) (X : World) :
 Calls Tryz.prog 17 #[.pointer none, .int .i64 f] X fun e X' => e = .returned (.bool false) /\ Below X.heap.size X X' := by
 have cp := qh (qhD f X)
 go_enter Tryz.func17, Tryz.ntmps17
 go_wp2_with (go_at_call 41; ((with_reducible refine (cp).out.mono ?_); rintro e w1 ⟨rfl, hb⟩; have K1 := qh hb; clear hb))
 go_ret
 exact ⟨rfl, K1.out⟩
theorem qks (B g : Nat) (L : List Rg.St) (f : Int) (i : Nat) (hi : i < L.length) (hv : Rg.qa6 L f i) (X : World) (hB : Box X B 89 #[.slice (some ⟨g, 0, none⟩) L.length 9]) (hR : PRow g L X) :
 Calls Tryz.prog 17 #[.pointer (some ⟨B, 0, none⟩), .int .i64 f] X fun e X' => e = .returned (.bool true) /\ Box X' B 89 #[.slice (some ⟨g, 0, none⟩) (L.drop i).length 9] /\ PRow g (L.drop i) X' /\ qaQ (fun k => k = g \/ k = B) X X' := by
 have hBg : B ≠ g := by obtain ⟨cur, hC, _⟩ := hR.row; exact hB.apart hC (by decide)
 have h9 := hR.few
 have cp := qh (qcE B g L f i hv X hB hR)
 have hd : ∀ W, Below X.heap.size X W -> Calls Tryz.prog 42 #[.slice (some ⟨g, 0, none⟩) L.length 9, .int .i64 0, .int .i64 i] W fun e X' => e = .returned (.slice (some ⟨g, 0, none⟩) (L.drop i).length 9) /\ PRow g (L.drop i) X' /\ qaQ (fun k => k = g) W X' := fun W hW => (qjc g L 0 i (Nat.zero_le _) (by omega) W (hR.kept (hW.block _ hR.lt))).mono fun e X' h => by
  rw [Nat.zero_add, List.take_zero, List.nil_append] at h
  rw [List.length_drop]
  exact h
 have hD := qh hd
 have HB := qh hB
 have HBG := qh hBg
 have hnn : ¬ (i : Int) < 0 := by omega
 clear hv hR hd hB hBg
 generalize hLd : L.drop i = L' at *
 generalize L'.length = n' at *
 generalize L.length = n at *
 go_enter Tryz.func17, Tryz.ntmps17
 go_wp2_with (first
  | (go_at_call 41; ((with_reducible refine (cp).out.mono ?_); rintro e w1 ⟨rfl, hb⟩; have K1 := qh hb; have B1 := qh (HB.out.below hb HB.out.lt); have k1 := B1.out.cell 0; have c1 := qh (hD.out w1 hb); clear hb))
  | (go_at_call 42; ((with_reducible refine (c1).out.mono ?_); rintro e w2 ⟨rfl, hR2, hK2⟩; have R2 := qh hR2; have K2 := qh hK2; have B2 : Box w2 B 89 _ := (⟨(hK2.block B B1.out.lt HBG.out).trans B1.out.is⟩); clear k1 hR2 hK2; have k2 := B2.cell 0; have f2 := B2.free 0; have l2 := B2.lt; have HB2 := qh B2; clear B2)))
 go_ret
 have hne : B ≠ g := HBG.out
 refine ⟨rfl, HB2.out.put 0 _, R2.out.kept (heap_setCell_other _ _ _ _ (Ne.symm hne)), ?_⟩
 have h0 : qaQ (fun k => k = g \/ k = B) X w1 := (qaQ.qb7 K1.out).qj8 fun j hj => hj.elim
 have h1 : qaQ (fun k => k = g \/ k = B) X w2 := h0.trans K2.out (fun j hj => .inl (.inl hj))
 exact h1.put (.inl (.inr rfl)) 0 _
theorem qmh (B g : Nat) (L : List Rg.St) (f : Int) (i : Nat) (hi : i < L.length) (hv : Rg.qa6 L f i) (X : World) (hB : Box X B 89 #[.slice (some ⟨g, 0, none⟩) L.length 9]) (hR : PRow g L X) :
 Calls Tryz.prog 15 #[.pointer (some ⟨B, 0, none⟩), .int .i64 f] X fun e X' => e = .returned (.bool true) /\ Box X' B 89 #[.slice (some ⟨g, 0, none⟩) (L.take (i + 1)).length 9] /\ PRow g (L.take (i + 1)) X' /\ qaQ (fun k => k = g \/ k = B) X X' := by
 have hBg : B ≠ g := by obtain ⟨cur, hC, _⟩ := hR.row; exact hB.apart hC (by decide)
 have h9 := hR.few
 have cp := qh (qcE B g L f i hv X hB hR)
 have hd : ∀ W, PRow g L W -> Calls Tryz.prog 42 #[.slice (some ⟨g, 0, none⟩) L.length 9, .int .i64 ((i : Int) + 1), .int .i64 L.length] W fun e X' => e = .returned (.slice (some ⟨g, 0, none⟩) (L.take (i + 1)).length 9) /\ PRow g (L.take (i + 1)) X' /\ qaQ (fun k => k = g) W X' := fun W hW => by
  rw [show ((i : Int) + 1) = ((i + 1 : Nat) : Int) by omega]
  refine (qjc g L (i + 1) L.length (by omega) (Nat.le_refl _) W hW).mono fun e X' h => ?_
  rw [Nat.sub_self, Nat.add_zero, List.drop_length, List.append_nil] at h
  rw [List.length_take, Nat.min_eq_left (by omega)]
  exact h
 have hD := qh hd
 have HB := qh hB
 have HR := qh hR
 have HBG := qh hBg
 have hnn : ¬ (i : Int) < 0 := by omega
 have hw1 : IntKind.i64.wrap ((i : Int) + 1) = (i : Int) + 1 := by rw [IntKind.wrap_i64]; omega
 clear hv hR hd hB hBg
 generalize hLd : L.take (i + 1) = L' at *
 generalize hn' : L'.length = n' at *
 generalize hnn2 : L.length = n at *
 go_enter Tryz.func15, Tryz.ntmps15
 go_upto_region 4 with (go_at_call 41; ((with_reducible refine (cp).out.mono ?_); rintro e w1 ⟨rfl, hb⟩; have K1 := qh hb; have B1 := qh (HB.out.below hb HB.out.lt); have R1 := qh (HR.out.kept (hb.block _ HR.out.lt)); clear hb))
 have KB := qh (show ∀ W, qaQ (fun k => k = g) w1 W -> Box W B 89 #[.slice (some ⟨g, 0, none⟩) n 9] from fun W hK => ⟨(hK.block B (B1.out.lt) HBG.out).trans B1.out.is⟩)
 refine Rj.qel (by kernel_rfl) 12 13 (by kernel_rfl) (fun W => qaQ (fun k => k = g) w1 W) (fun j vm W => j = 12 -> vm 12 = .slice (some ⟨g, 0, none⟩) n' 9 /\ PRow g L' W) (fun S vm W => S 12 = false -> PRow g L W) ((qaQ.refl _ _).call (Below.drew (Below.refl _ _))) (fun _ _ => R1.out.kept rfl) (fun S vm vm' W he h => h) (fun j vm vm' W h1 h2 he hV e => by subst e; rw [<- he 12 (.inl rfl)]; exact hV rfl) ?_
 simp only [List.take_succ_cons, List.take_zero, List.drop_succ_cons, List.drop_zero, Nat.reduceSub]
 refine Rz.qbv (v := .pointer (some ⟨B, 0, none⟩)) (fun W hW => Rz.qaR rfl rfl) ?_
 refine Rz.qbv (v := .pointer (some ⟨B, 0, none⟩)) (fun W hW => Rz.qaR rfl rfl) ?_
 refine Rz.qbv (v := .pointer (some ⟨B, 0, none⟩)) (fun W hW => qcp rfl rfl) ?_
 refine Rz.qbv (v := .pointer (some ⟨B, 0, none⟩)) (fun W hW => qew rfl rfl) ?_
 refine Rz.qbv (v := .slice (some ⟨g, 0, none⟩) n 9) (fun W hW => qd7 rfl rfl ((KB.out W hW).cell 0)) ?_
 simp only [Act.put, List.setIfInBounds_toArray, List.set_cons_succ, List.set_cons_zero]
 refine Rz.qbv (v := .int .i64 i) (fun W hW => Rz.qaR rfl rfl) ?_
 refine Rz.qbv (v := .int .i64 ((i : Int) + 1)) (fun W hW => ?_) ?_
 · go_simp
 simp only [Act.put, List.setIfInBounds_toArray, List.set_cons_succ, List.set_cons_zero]
 refine Rz.qbv (v := .pointer (some ⟨B, 0, none⟩)) (fun W hW => Rz.qaR rfl rfl) ?_
 refine Rz.qbv (v := .pointer (some ⟨B, 0, none⟩)) (fun W hW => qcp rfl rfl) ?_
 refine Rz.qbv (v := .pointer (some ⟨B, 0, none⟩)) (fun W hW => qew rfl rfl) ?_
 refine Rz.qbv (v := .slice (some ⟨g, 0, none⟩) n 9) (fun W hW => qd7 rfl rfl ((KB.out W hW).cell 0)) ?_
 simp only [Act.put, List.setIfInBounds_toArray, List.set_cons_succ, List.set_cons_zero]
 refine Rz.qbv (v := .int .i64 n) (fun W hW => ?_) ?_
 · go_simp
 simp only [Act.put, List.setIfInBounds_toArray, List.set_cons_succ, List.set_cons_zero]
 refine Rz.qhN (fun A => True) trivial ?_ (fun _ _ => trivial) ?_
 · intro S vm W hW hSi hS hV hD'
   simp only [Rz.qaA]
   refine qdn (f := 42) (args := #[.slice (some ⟨g, 0, none⟩) n 9, .int .i64 ((i : Int) + 1), .int .i64 n]) ?_ ((hD.out W (hD' hSi)).mono ?_)
   · go_simp
   · rintro e w' ⟨rfl, hR2, hK2⟩
     refine ⟨_, rfl, fun _ => ⟨by simp [Rz.upd], hR2⟩, hW.trans hK2 (fun j hj => .inl hj), fun j h1 h2 hne _ h => absurd (show j = 12 by omega) hne, fun h => ?_⟩
     simp [Rj.also] at h
 · intro S vm W hW hS hV hD'
   obtain ⟨e12, hR2⟩ := hV 12 (by omega) (by omega) rfl
   have BW := qh (KB.out W hW)
   have KW := qh hW
   have R2 := qh hR2
   have xf := BW.out.free 0
   have xl := BW.out.lt
   have xc := BW.out.cell 0
   clear hW hS hV hD' hR2
   simp only [Rz.qaA, Nat.reduceAdd, e12]
   clear e12
   go_wp2_with fail
   go_ret
   have hne : B ≠ g := HBG.out
   refine ⟨rfl, BW.out.put 0 _, R2.out.kept (heap_setCell_other _ _ _ _ (Ne.symm hne)), ?_⟩
   have h0 : qaQ (fun k => k = g \/ k = B) X w1 := (qaQ.qb7 K1.out).qj8 fun j hj => hj.elim
   have h1 : qaQ (fun k => k = g \/ k = B) X W := h0.trans KW.out (fun j hj => .inl (.inl hj))
   exact h1.put (.inl (.inr rfl)) 0 _
theorem qpY (W : World) : (Instr.makeSlice 42 (.int .i64 0) (.int .i64 9)).run Tryz.prog W = .ok (.slice (some ⟨W.heap.size, 0, none⟩) 0 9) (W.alloc (.cells (madeCells (Value.agg Im.zero).cells (9 * 76)) 40)) := by
 obtain ⟨i0, hi0, hz0, hz1, hz2⟩ := qcV
 have := run_make (P := Tryz.prog) W 42 40 i0 _ Tryz.underlying42 hi0 hz0 .i64 .i64 0 9 (by omega) (by omega) (by omega) (by omega)
 rw [this, hz1]
 rfl
theorem qkp (a : Option Addr) (m c : Nat) : Tryz.prog.built 89 [(0, .slice a m c)] = some #[.slice a m c] := by kernel_rfl
theorem qnE (q : Rg.St) (hty : Gm.ty q.g) (hok : Im.Ok q.g q.r) (hn : q.g.qaa.length <= 60) (X : World) (hL : Lies X X.heap.size 6 q.A q.g.qaa.length (Gm.qab q.g.qaa)) :
 Calls Tryz.prog 10 #[.agg q.arr] X fun e X' => ∃ g B A' c', e = .returned (.pointer (some ⟨B, 0, none⟩)) /\ Box X' B 89 #[.slice (some ⟨g, 0, none⟩) 1 9] /\ PRow g [⟨q.g, q.r, A', c'⟩] X' /\ Lies X' X'.heap.size 6 A' q.g.qaa.length (Gm.qab q.g.qaa) /\ (q.g.qaa.length ≠ 0 -> ∀ ad, A' = some ad -> X.heap.size <= ad.block /\ ad.block ≠ g /\ ad.block ≠ B) /\ Below X.heap.size X X' /\ X.heap.size <= g /\ X.heap.size <= B := by
 have cput := fun B g w h1 h2 h3 => qi9 B g [] q (by decide) hn w h1 h2 h3
 obtain ⟨G, r, A, c⟩ := q
 dsimp only at hty hok hn hL cput ⊢
 have hnm : G.qaa.length <= maxLen := by unfold maxLen; omega
 obtain ⟨X1, hX1⟩ : ∃ X1, X1 = X.alloc (.cells (Im.cells G (.slice A G.qaa.length c) r) 40) := ⟨_, rfl⟩
 have B0 := qh (show Box X1 X.heap.size 40 (Im.cells G (.slice A G.qaa.length c) r) by rw [hX1]; exact Box.made _ _ _)
 have K0 := qh (show Below X.heap.size X X1 by rw [hX1]; exact qac _ _)
 have L0 := qh ((hL.below K0.out).wider K0.out.size)
 have cm := qh (qcQ G r A G.qaa.length c X1 hty hnm rfl L0.out)
 have HOK := qh hok
 obtain ⟨Z, hZ⟩ : ∃ Z, Z = madeCells (Value.agg Im.zero).cells (9 * 76) := ⟨_, rfl⟩
 have HZ := qh (show Z.size = 684 by rw [hZ, size_madeCells])
 have hmk := qpY
 rw [<- hZ] at hmk
 have rb := fun m => qkp (some ⟨m, 0, none⟩) 0 9
 unfold Rg.St.arr
 dsimp only
 unfold Rg.St.arr at cput
 have CP := qh cput
 clear hok hL hZ cput
 go_enter Tryz.func10, Tryz.ntmps10
 go_upto_region 1 with fail
 rw [<- hX1]
 clear hX1
 go_upto_region 4 with (first
  | ((with_reducible refine qam rfl rfl ?_); apply qay.mk rfl; (focus (with_reducible exact B0.out)); dsimp only)
  | (go_at_call 39; ((with_reducible refine ((cm).out).mono ?_); rintro x w1 ⟨⟨v, rfl, hv⟩, hb⟩; obtain rfl : v = true := hv.2 HOK.out; have B2 := qh (B0.out.below hb B0.out.lt); have L2 := qh ((L0.out.below hb).wider hb.size); have K2 := qh (K0.out.trans (hb.mono K0.out.size)); have S2 := qh hb.size; clear hb hv))
  | (refine qaM rfl (t := 89) (vs := [(0, .slice (some ⟨_, 0, none⟩) 0 9)]) rfl rfl (rb _) ?_))
 obtain ⟨X3, hX3⟩ : ∃ X3, X3 = (w1.alloc (.cells Z 40)).alloc (.cells #[.slice (some ⟨w1.heap.size, 0, none⟩) 0 9] 89) := ⟨_, rfl⟩
 have D1 : Box X3 w1.heap.size 40 Z := by rw [hX3]; exact (Box.made _ _ _).alloc _
 have D2 : Box X3 (w1.heap.size + 1) 89 #[.slice (some ⟨w1.heap.size, 0, none⟩) 0 9] := by rw [hX3]; exact Box.qan _ _ _ (by simp)
 have hb3 : Below w1.heap.size w1 X3 := by rw [hX3]; exact qal w1 _ _
 have B3 := qh (B2.out.below hb3 B2.out.lt)
 have c3 := qh (CP.out (w1.heap.size + 1) w1.heap.size X3 D2 ⟨Nat.zero_le _, Z, D1, HZ.out, by simp⟩ ((L2.out.below hb3).wider hb3.size))
 have K3 := qh (K2.out.trans (hb3.mono K2.out.size))
 have hsz := qh (show X.heap.size <= w1.heap.size from K2.out.size)
 have d1 := qh D1.lt
 have d2 := qh D2.lt
 have S3 := qh hb3.size
 rw [<- hX3]
 clear D1 D2 hb3 hX3 hmk
 generalize w1.heap.size = g at *
 go_wp2_with (first
  | ((with_reducible refine qam rfl rfl ?_); apply qay.mk rfl; (focus (with_reducible exact B3.out)); dsimp only)
  | (go_at_call 40; ((with_reducible refine ((c3).out).mono ?_); rintro e w5 ⟨rfl, A', c', p1, p2, p3, p4, p5⟩; have P1 := qh p1; have P2 := qh p2; have P3 := qh p3; have P4 := qh p4; have P5 := qh p5; clear p1 p2 p3 p4 p5)))
 go_ret
 have h1 := hsz.out
 have h2 := d1.out
 have h3 := d2.out
 have h4 := S3.out
 refine ⟨g, g + 1, A', c', rfl, P1.out, P2.out, P3.out, fun h0 ad ea => ?_, ?_, h1, by omega⟩
 · have := P4.out h0 ad ea
   omega
 · exact K3.out.trans (P5.out.below (fun k hk => by rcases hk with hk | hk <;> omega) K3.out.size)
theorem qoT (q : Rg.St) (hty : Gm.ty q.g) (hok : ¬ Im.Ok q.g q.r) (hnm : q.g.qaa.length <= maxLen) (X : World) (hL : Lies X X.heap.size 6 q.A q.g.qaa.length (Gm.qab q.g.qaa)) :
 Calls Tryz.prog 10 #[.agg q.arr] X fun e X' => e = .returned (.pointer none) /\ Below X.heap.size X X' := by
 obtain ⟨G, r, A, c⟩ := q
 dsimp only at hty hok hnm hL ⊢
 obtain ⟨X1, hX1⟩ : ∃ X1, X1 = X.alloc (.cells (Im.cells G (.slice A G.qaa.length c) r) 40) := ⟨_, rfl⟩
 have B0 := qh (show Box X1 X.heap.size 40 (Im.cells G (.slice A G.qaa.length c) r) by rw [hX1]; exact Box.made _ _ _)
 have K0 := qh (show Below X.heap.size X X1 by rw [hX1]; exact qac _ _)
 have L0 := qh ((hL.below K0.out).wider K0.out.size)
 have cm := qh (qcQ G r A G.qaa.length c X1 hty hnm rfl L0.out)
 have HOK := qh hok
 unfold Rg.St.arr
 dsimp only
 clear hok hL
 go_enter Tryz.func10, Tryz.ntmps10
 go_upto_region 1 with fail
 rw [<- hX1]
 clear hX1
 go_wp2_with (first
  | ((with_reducible refine qam rfl rfl ?_); apply qay.mk rfl; (focus (with_reducible exact B0.out)); dsimp only)
  | (go_at_call 39; ((with_reducible refine ((cm).out).mono ?_); rintro x w1 ⟨⟨v, rfl, hv⟩, hb⟩; obtain rfl : v = false := (by cases v with | false => rfl | true => exact absurd (hv.1 rfl) HOK.out); have K2 := qh (K0.out.trans (hb.mono K0.out.size)); clear hb hv)))
 go_ret
 exact ⟨rfl, K2.out⟩
theorem qme (q : Rg.St) (X : World) :
 Calls Tryz.prog 12 #[.pointer none, .agg q.arr] X fun e X' => e = .returned (.bool false) /\ Below X.heap.size X X' := by
 obtain ⟨X1, hX1⟩ : ∃ X1, X1 = X.alloc (.cells q.arr 40) := ⟨_, rfl⟩
 have K0 := qh (show Below X.heap.size X X1 by rw [hX1]; exact qac _ _)
 have cl := qh (fun (w : Ext X1.heap.size X1) => (qjb w.w).mono fun e w' hh => show e = .returned (.int .i64 0) /\ Below w.w.heap.size w.w w' from ⟨hh.1, by rw [<- hh.2]; exact Below.refl _ _⟩)
 generalize q.arr = arr at *
 go_enter Tryz.func12, Tryz.ntmps12
 go_upto_region 1 with fail
 rw [<- hX1]
 clear hX1
 refine qa0 X1.heap.size X1 (by kernel_rfl) (by kernel_rfl) (Below.refl _ _) ?_
 repeat (go_big_quiet_step (first | (go_at_call 22; with_reducible exact Calls.qbz (Nat.le_refl _) (cl.out _)) | fail))
 refine wpQuiet_nil ?_
 intro _ hw'
 obtain ⟨q5, hw''⟩ := hw'
 subst hw''
 have R5 := qh (K0.out.trans (q5.h.mono K0.out.size))
 go_wp2_with fail
 go_ret
 exact ⟨rfl, R5.out⟩
theorem qkq (B g k : Nat) (L : List Rg.St) (q l : Rg.St) (hk : L.length = k + 1) (hl : L[k]? = some l) (hlo : 0 <= l.g.frame /\ l.g.frame <= 1048576) (hty : Gm.ty q.g) (hnm : q.g.qaa.length <= maxLen) (hk8 : k = 8) (X : World) (hB : Box X B 89 #[.slice (some ⟨g, 0, none⟩) L.length 9]) (hR : PRow g L X) (hq : Lies X X.heap.size 6 q.A q.g.qaa.length (Gm.qab q.g.qaa)) :
 Calls Tryz.prog 12 #[.pointer (some ⟨B, 0, none⟩), .agg q.arr] X fun e X' => e = .returned (.bool false) /\ Below X.heap.size X X' := by
 obtain ⟨G, r, Aq, cq⟩ := q
 dsimp only at *
 obtain ⟨X1, hX1⟩ : ∃ X1, X1 = X.alloc (.cells (Im.cells G (.slice Aq G.qaa.length cq) r) 40) := ⟨_, rfl⟩
 have hb1 : Below X.heap.size X X1 := by rw [hX1]; exact qac X _
 have P1 := qh (show Box X1 X.heap.size 40 (Im.cells G (.slice Aq G.qaa.length cq) r) by rw [hX1]; exact Box.made _ _ _)
 have K1 := qh hb1
 have L1 := qh ((hq.below hb1).wider hb1.size)
 have HX := qh hX1
 have BB := qh (hB.below hb1 hB.lt)
 have RR := qh (hR.kept (hb1.block _ hR.lt))
 have h9 := hR.few
 have ek : ((L.length : Nat) : Int) = (k : Int) + 1 := by omega
 have cl := qh (fun (w : Ext X1.heap.size X1) => show Calls Tryz.prog 22 #[.pointer (some ⟨B, 0, none⟩)] w.w fun e w' => e = .returned (.int .i64 ((k : Int) + 1)) /\ Below w.w.heap.size w.w w' from by
  refine (qcO B L.length 9 _ w.w ((BB.out.below w.h BB.out.lt).cell 0)).mono fun e w' hh => ?_
  rw [<- ek]
  exact ⟨hh.1, by rw [<- hh.2]; exact Below.refl _ _⟩)
 have z0 : ∀ w : Ext X1.heap.size X1, w.w.cell? ⟨X.heap.size, 0, none⟩ = some (.int .i64 G.frame) := fun w => w.cell P1.out.lt ((P1.out.cell 0).trans (Rg.St.first ⟨G, r, Aq, cq⟩))
 have PX := qh (fun (w : Ext X1.heap.size X1) => P1.out.below w.h P1.out.lt)
 have hwf : IntKind.i64.wrap (l.g.frame + 1) = l.g.frame + 1 := by rw [IntKind.wrap_i64]; omega
 have hwf2 : wrap64 (l.g.frame + 1) = l.g.frame + 1 := IntWalk.wrap64_in _ (by omega)
 have hne : ((k : Int) + 1 == 0) = false := by simp; omega
 have h8i : (9 : Int) <= (k : Int) + 1 := by omega
 have h8j : (8 : Int) <= (k : Int) := by omega
 have HK := qh hk
 unfold Rg.St.arr
 dsimp only
 clear hX1 hb1 hq hB hR hl hlo hty ek h9 hk
 generalize hfl : l.g.frame = fl at *
 generalize hfq : G.frame = fq at *
 clear hfl hfq
 go_enter Tryz.func12, Tryz.ntmps12
 go_upto_region 1 with fail
 rw [<- HX.out]
 refine qa0 X1.heap.size X1 (by kernel_rfl) (by kernel_rfl) (Below.refl _ _) ?_
 repeat (first | (go_big_quiet_want; (refine qbY rfl rfl PX.out ?_); simp only [Act.put, List.setIfInBounds_toArray, List.set_cons_succ, List.set_cons_zero]; go_big_quiet_on) | go_big_quiet_step (first | (go_at_call 22; with_reducible exact Calls.qbz (Nat.le_refl _) (cl.out _)) | fail))
 refine wpQuiet_nil ?_
 intro _ hw'
 obtain ⟨q5, hw''⟩ := hw'
 subst hw''
 have R5 := qh (K1.out.trans (q5.h.mono K1.out.size))
 clear z0 cl PX
 go_wp2_with fail
 go_ret
 exact ⟨rfl, R5.out⟩
theorem qmf (B g k : Nat) (L : List Rg.St) (q l : Rg.St) (hk : L.length = k + 1) (hl : L[k]? = some l) (hlo : 0 <= l.g.frame /\ l.g.frame <= 1048576) (hty : Gm.ty q.g) (hnm : q.g.qaa.length <= maxLen) (h8 : L.length <= 8) (hfr : q.g.frame ≠ l.g.frame + 1) (X : World) (hB : Box X B 89 #[.slice (some ⟨g, 0, none⟩) L.length 9]) (hR : PRow g L X) (hq : Lies X X.heap.size 6 q.A q.g.qaa.length (Gm.qab q.g.qaa)) :
 Calls Tryz.prog 12 #[.pointer (some ⟨B, 0, none⟩), .agg q.arr] X fun e X' => e = .returned (.bool false) /\ Below X.heap.size X X' := by
 obtain ⟨G, r, Aq, cq⟩ := q
 dsimp only at *
 obtain ⟨X1, hX1⟩ : ∃ X1, X1 = X.alloc (.cells (Im.cells G (.slice Aq G.qaa.length cq) r) 40) := ⟨_, rfl⟩
 have hb1 : Below X.heap.size X X1 := by rw [hX1]; exact qac X _
 have P1 := qh (show Box X1 X.heap.size 40 (Im.cells G (.slice Aq G.qaa.length cq) r) by rw [hX1]; exact Box.made _ _ _)
 have K1 := qh hb1
 have L1 := qh ((hq.below hb1).wider hb1.size)
 have HX := qh hX1
 have BB := qh (hB.below hb1 hB.lt)
 have RR := qh (hR.kept (hb1.block _ hR.lt))
 have h9 := hR.few
 have ek : ((L.length : Nat) : Int) = (k : Int) + 1 := by omega
 have cl := qh (fun (w : Ext X1.heap.size X1) => show Calls Tryz.prog 22 #[.pointer (some ⟨B, 0, none⟩)] w.w fun e w' => e = .returned (.int .i64 ((k : Int) + 1)) /\ Below w.w.heap.size w.w w' from by
  refine (qcO B L.length 9 _ w.w ((BB.out.below w.h BB.out.lt).cell 0)).mono fun e w' hh => ?_
  rw [<- ek]
  exact ⟨hh.1, by rw [<- hh.2]; exact Below.refl _ _⟩)
 have ca := qh (fun (w : Ext X1.heap.size X1) => qd2 B g k L l hk hl w.w (BB.out.below w.h BB.out.lt) (RR.out.kept (w.h.block _ RR.out.lt)))
 have z0 : ∀ w : Ext X1.heap.size X1, w.w.cell? ⟨X.heap.size, 0, none⟩ = some (.int .i64 G.frame) := fun w => w.cell P1.out.lt ((P1.out.cell 0).trans (Rg.St.first ⟨G, r, Aq, cq⟩))
 have PX := qh (fun (w : Ext X1.heap.size X1) => P1.out.below w.h P1.out.lt)
 have hwf : IntKind.i64.wrap (l.g.frame + 1) = l.g.frame + 1 := by rw [IntKind.wrap_i64]; omega
 have hwf2 : wrap64 (l.g.frame + 1) = l.g.frame + 1 := IntWalk.wrap64_in _ (by omega)
 have hne : ((k : Int) + 1 == 0) = false := by simp; omega
 have h8i : ¬ (9 : Int) <= (k : Int) + 1 := by omega
 have h8j : (k : Int) + 1 < 9 := by omega
 have h8k : (k : Int) < 8 := by omega
 have hfn : (G.frame != l.g.frame + 1) = true := by simpa using hfr
 clear hfr
 have HK := qh hk
 unfold Rg.St.arr
 dsimp only
 clear hX1 hb1 hq hB hR hl hlo hty ek h9 hk
 generalize hfl : l.g.frame = fl at *
 generalize hfq : G.frame = fq at *
 clear hfl hfq
 go_enter Tryz.func12, Tryz.ntmps12
 go_upto_region 1 with fail
 rw [<- HX.out]
 refine qa0 X1.heap.size X1 (by kernel_rfl) (by kernel_rfl) (Below.refl _ _) ?_
 repeat (first | (go_big_quiet_want; (refine qbY rfl rfl PX.out ?_); simp only [Act.put, List.setIfInBounds_toArray, List.set_cons_succ, List.set_cons_zero]; go_big_quiet_on) | go_big_quiet_step (first | (go_at_call 22; with_reducible exact Calls.qbz (Nat.le_refl _) (cl.out _)) | (go_at_call 24; with_reducible exact Calls.qbz (Nat.le_refl _) (ca.out _)) | fail))
 refine wpQuiet_nil ?_
 intro _ hw'
 obtain ⟨q5, hw''⟩ := hw'
 subst hw''
 have R5 := qh (K1.out.trans (q5.h.mono K1.out.size))
 clear z0 cl ca PX
 go_wp2_with fail
 go_ret
 exact ⟨rfl, R5.out⟩
theorem qmd (B g k : Nat) (L : List Rg.St) (q l : Rg.St) (hk : L.length = k + 1) (hl : L[k]? = some l) (hlo : 0 <= l.g.frame /\ l.g.frame <= 1048576) (hty : Gm.ty q.g) (hnm : q.g.qaa.length <= maxLen) (h8 : L.length <= 8) (hfr : q.g.frame = l.g.frame + 1) (hok : ¬ Im.Ok q.g q.r) (X : World) (hB : Box X B 89 #[.slice (some ⟨g, 0, none⟩) L.length 9]) (hR : PRow g L X) (hq : Lies X X.heap.size 6 q.A q.g.qaa.length (Gm.qab q.g.qaa)) :
 Calls Tryz.prog 12 #[.pointer (some ⟨B, 0, none⟩), .agg q.arr] X fun e X' => e = .returned (.bool false) /\ Below X.heap.size X X' := by
 obtain ⟨G, r, Aq, cq⟩ := q
 dsimp only at *
 obtain ⟨X1, hX1⟩ : ∃ X1, X1 = X.alloc (.cells (Im.cells G (.slice Aq G.qaa.length cq) r) 40) := ⟨_, rfl⟩
 have hb1 : Below X.heap.size X X1 := by rw [hX1]; exact qac X _
 have P1 := qh (show Box X1 X.heap.size 40 (Im.cells G (.slice Aq G.qaa.length cq) r) by rw [hX1]; exact Box.made _ _ _)
 have K1 := qh hb1
 have L1 := qh ((hq.below hb1).wider hb1.size)
 have HX := qh hX1
 have BB := qh (hB.below hb1 hB.lt)
 have RR := qh (hR.kept (hb1.block _ hR.lt))
 have h9 := hR.few
 have ek : ((L.length : Nat) : Int) = (k : Int) + 1 := by omega
 have cl := qh (fun (w : Ext X1.heap.size X1) => show Calls Tryz.prog 22 #[.pointer (some ⟨B, 0, none⟩)] w.w fun e w' => e = .returned (.int .i64 ((k : Int) + 1)) /\ Below w.w.heap.size w.w w' from by
  refine (qcO B L.length 9 _ w.w ((BB.out.below w.h BB.out.lt).cell 0)).mono fun e w' hh => ?_
  rw [<- ek]
  exact ⟨hh.1, by rw [<- hh.2]; exact Below.refl _ _⟩)
 have ca := qh (fun (w : Ext X1.heap.size X1) => qd2 B g k L l hk hl w.w (BB.out.below w.h BB.out.lt) (RR.out.kept (w.h.block _ RR.out.lt)))
 have cm := qh (fun (w : Ext X1.heap.size X1) => (qcQ G r Aq G.qaa.length cq w.w hty hnm rfl ((L1.out.below w.h).wider w.h.size)).mono fun e w' hh => show e = .returned (.bool false) /\ Below w.w.heap.size w.w w' from ⟨by obtain ⟨⟨v, e1, e2⟩, _⟩ := hh; rw [e1]; obtain rfl : v = false := (by cases v with | false => rfl | true => exact absurd (e2.1 rfl) hok); rfl, hh.2⟩)
 have z0 : ∀ w : Ext X1.heap.size X1, w.w.cell? ⟨X.heap.size, 0, none⟩ = some (.int .i64 G.frame) := fun w => w.cell P1.out.lt ((P1.out.cell 0).trans (Rg.St.first ⟨G, r, Aq, cq⟩))
 have PX := qh (fun (w : Ext X1.heap.size X1) => P1.out.below w.h P1.out.lt)
 have hwf : IntKind.i64.wrap (l.g.frame + 1) = l.g.frame + 1 := by rw [IntKind.wrap_i64]; omega
 have hwf2 : wrap64 (l.g.frame + 1) = l.g.frame + 1 := IntWalk.wrap64_in _ (by omega)
 have hne : ((k : Int) + 1 == 0) = false := by simp; omega
 have h8i : ¬ (9 : Int) <= (k : Int) + 1 := by omega
 have h8j : (k : Int) + 1 < 9 := by omega
 have h8k : (k : Int) < 8 := by omega
 have hfn : (G.frame != l.g.frame + 1) = false := by simpa using hfr
 clear hfr
 have HK := qh hk
 unfold Rg.St.arr
 dsimp only
 clear hX1 hb1 hq hB hR hl hlo hty ek h9 hk
 generalize hfl : l.g.frame = fl at *
 generalize hfq : G.frame = fq at *
 clear hfl hfq
 go_enter Tryz.func12, Tryz.ntmps12
 go_upto_region 1 with fail
 rw [<- HX.out]
 refine qa0 X1.heap.size X1 (by kernel_rfl) (by kernel_rfl) (Below.refl _ _) ?_
 repeat (first | (go_big_quiet_want; (refine qbY rfl rfl PX.out ?_); simp only [Act.put, List.setIfInBounds_toArray, List.set_cons_succ, List.set_cons_zero]; go_big_quiet_on) | go_big_quiet_step (first | (go_at_call 22; with_reducible exact Calls.qbz (Nat.le_refl _) (cl.out _)) | (go_at_call 24; with_reducible exact Calls.qbz (Nat.le_refl _) (ca.out _)) | (go_at_call 39; with_reducible exact Calls.qbz (Nat.le_refl _) (cm.out _)) | fail))
 refine wpQuiet_nil ?_
 intro _ hw'
 obtain ⟨q5, hw''⟩ := hw'
 subst hw''
 have R5 := qh (K1.out.trans (q5.h.mono K1.out.size))
 clear z0 cl ca cm PX
 go_wp2_with fail
 go_ret
 exact ⟨rfl, R5.out⟩
theorem qmc (B g k : Nat) (L : List Rg.St) (q l : Rg.St) (hk : L.length = k + 1) (hl : L[k]? = some l) (hlo : 0 <= l.g.frame /\ l.g.frame <= 1048576) (hty : Gm.ty q.g) (hnm : q.g.qaa.length <= maxLen) (h8 : L.length <= 8) (hfr : q.g.frame = l.g.frame + 1) (hok : Im.Ok q.g q.r) (hn60 : q.g.qaa.length <= 60) (X : World) (hB : Box X B 89 #[.slice (some ⟨g, 0, none⟩) L.length 9]) (hR : PRow g L X) (hq : Lies X X.heap.size 6 q.A q.g.qaa.length (Gm.qab q.g.qaa)) :
 Calls Tryz.prog 12 #[.pointer (some ⟨B, 0, none⟩), .agg q.arr] X fun e X' => e = .returned (.bool true) /\ ∃ A' c', Box X' B 89 #[.slice (some ⟨g, 0, none⟩) (L.length + 1) 9] /\ PRow g (L ++ [⟨q.g, q.r, A', c'⟩]) X' /\ Lies X' X'.heap.size 6 A' q.g.qaa.length (Gm.qab q.g.qaa) /\ (q.g.qaa.length ≠ 0 -> ∀ ad, A' = some ad -> X.heap.size <= ad.block) /\ qaQ (fun k => k = g \/ k = B) X X' := by
 have cput := fun w h1 h2 h3 => qi9 B g L q h8 hn60 w h1 h2 h3
 obtain ⟨G, r, Aq, cq⟩ := q
 dsimp only at *
 obtain ⟨X1, hX1⟩ : ∃ X1, X1 = X.alloc (.cells (Im.cells G (.slice Aq G.qaa.length cq) r) 40) := ⟨_, rfl⟩
 have hb1 : Below X.heap.size X X1 := by rw [hX1]; exact qac X _
 have P1 := qh (show Box X1 X.heap.size 40 (Im.cells G (.slice Aq G.qaa.length cq) r) by rw [hX1]; exact Box.made _ _ _)
 have K1 := qh hb1
 have L1 := qh ((hq.below hb1).wider hb1.size)
 have HX := qh hX1
 have BB := qh (hB.below hb1 hB.lt)
 have RR := qh (hR.kept (hb1.block _ hR.lt))
 have h9 := hR.few
 have ek : ((L.length : Nat) : Int) = (k : Int) + 1 := by omega
 have cl := qh (fun (w : Ext X1.heap.size X1) => show Calls Tryz.prog 22 #[.pointer (some ⟨B, 0, none⟩)] w.w fun e w' => e = .returned (.int .i64 ((k : Int) + 1)) /\ Below w.w.heap.size w.w w' from by
  refine (qcO B L.length 9 _ w.w ((BB.out.below w.h BB.out.lt).cell 0)).mono fun e w' hh => ?_
  rw [<- ek]
  exact ⟨hh.1, by rw [<- hh.2]; exact Below.refl _ _⟩)
 have ca := qh (fun (w : Ext X1.heap.size X1) => qd2 B g k L l hk hl w.w (BB.out.below w.h BB.out.lt) (RR.out.kept (w.h.block _ RR.out.lt)))
 have cm := qh (fun (w : Ext X1.heap.size X1) => (qcQ G r Aq G.qaa.length cq w.w hty hnm rfl ((L1.out.below w.h).wider w.h.size)).mono fun e w' hh => show e = .returned (.bool true) /\ Below w.w.heap.size w.w w' from ⟨by obtain ⟨⟨v, e1, e2⟩, _⟩ := hh; rw [e1]; obtain rfl : v = true := e2.2 hok; rfl, hh.2⟩)
 have z0 : ∀ w : Ext X1.heap.size X1, w.w.cell? ⟨X.heap.size, 0, none⟩ = some (.int .i64 G.frame) := fun w => w.cell P1.out.lt ((P1.out.cell 0).trans (Rg.St.first ⟨G, r, Aq, cq⟩))
 have PX := qh (fun (w : Ext X1.heap.size X1) => P1.out.below w.h P1.out.lt)
 have hwf : IntKind.i64.wrap (l.g.frame + 1) = l.g.frame + 1 := by rw [IntKind.wrap_i64]; omega
 have hwf2 : wrap64 (l.g.frame + 1) = l.g.frame + 1 := IntWalk.wrap64_in _ (by omega)
 have hne : ((k : Int) + 1 == 0) = false := by simp; omega
 have h8i : ¬ (9 : Int) <= (k : Int) + 1 := by omega
 have h8j : (k : Int) + 1 < 9 := by omega
 have h8k : (k : Int) < 8 := by omega
 have hfn : (G.frame != l.g.frame + 1) = false := by simpa using hfr
 clear hfr
 have HK := qh hk
 unfold Rg.St.arr at cput
 have CP := qh cput
 clear cput
 unfold Rg.St.arr
 dsimp only
 clear hX1 hb1 hq hB hR hl hlo hty ek h9 hk
 generalize hfl : l.g.frame = fl at *
 generalize hfq : G.frame = fq at *
 clear hfl hfq
 go_enter Tryz.func12, Tryz.ntmps12
 go_upto_region 1 with fail
 rw [<- HX.out]
 refine qa0 X1.heap.size X1 (by kernel_rfl) (by kernel_rfl) (Below.refl _ _) ?_
 repeat (first | (go_big_quiet_want; (refine qbY rfl rfl PX.out ?_); simp only [Act.put, List.setIfInBounds_toArray, List.set_cons_succ, List.set_cons_zero]; go_big_quiet_on) | go_big_quiet_step (first | (go_at_call 22; with_reducible exact Calls.qbz (Nat.le_refl _) (cl.out _)) | (go_at_call 24; with_reducible exact Calls.qbz (Nat.le_refl _) (ca.out _)) | (go_at_call 39; with_reducible exact Calls.qbz (Nat.le_refl _) (cm.out _)) | fail))
 refine wpQuiet_nil ?_
 intro _ hw'
 obtain ⟨q5, hw''⟩ := hw'
 subst hw''
 have R5 := qh (K1.out.trans (q5.h.mono K1.out.size))
 clear z0 cl ca cm PX
 have B5 := BB.out.below q5.h BB.out.lt
 have P5 := qh (P1.out.below q5.h P1.out.lt)
 have c5 := qh (CP.out q5.w B5 (RR.out.kept (q5.h.block _ RR.out.lt)) ((L1.out.below q5.h).wider q5.h.size))
 clear B5
 generalize q5.w = X5 at *
 go_wp2_with (first
  | ((with_reducible refine qam rfl rfl ?_); apply qay.mk rfl; (focus (with_reducible exact P5.out)); dsimp only)
  | (go_at_call 40; ((with_reducible refine ((c5).out).mono ?_); rintro e w5 ⟨rfl, A', c', p1, p2, p3, p4, p5⟩; have P1 := qh p1; have P2 := qh p2; have P3 := qh p3; have P4 := qh p4; have P5 := qh p5; clear p1 p2 p3 p4 p5)))
 go_ret
 have hs := R5.out.size
 refine ⟨rfl, A', c', P1.out, P2.out, P3.out, fun h0 ad ea => Nat.le_trans hs (P4.out h0 ad ea), ?_⟩
 have h0 : qaQ (fun k => k = g \/ k = B) X X5 := (qaQ.qb7 R5.out).qj8 fun j hj => hj.elim
 exact h0.trans P5.out (fun j hj => .inl hj)
section
variable {b g B : Nat} {F : Nat -> Prop} {L : List Rg.St} {X X' : World}
def qdd (F : Nat -> Prop) (g B : Nat) (L : List Rg.St) (X : World) : Prop := ∀ q ∈ L, Lies X X.heap.size 6 q.A q.g.qaa.length (Gm.qab q.g.qaa) /\ (q.g.qaa.length ≠ 0 -> ∀ ad, q.A = some ad -> F ad.block /\ ad.block ≠ g /\ ad.block ≠ B)
theorem qdd.old (hs : qdd F g B L X) (hup : ∀ k, F k -> k < X.heap.size) (hK : qaQ (fun k => k = g \/ k = B) X X') : qdd F g B L X' := fun q hq =>
 ⟨qba (hs q hq).1 hK.size fun h0 ad e => by
  obtain ⟨h1, h2, h3⟩ := (hs q hq).2 h0 ad e
  exact hK.block _ (hup _ h1) (by rintro (h | h) <;> contradiction), (hs q hq).2⟩
theorem qdd.sub {L' : List Rg.St} (hs : qdd F g B L X) (h : ∀ q ∈ L', q ∈ L) : qdd F g B L' X := fun q hq => hs q (h q hq)
theorem PrgR.says {L' : List Rg.St} {v : Bool} (hB : Box X' B 89 #[.slice (some ⟨g, 0, none⟩) L'.length 9]) (hR : PRow g L' X') (hs : qdd F g B L' X') (hg : F g) (hF : F B) (hup : ∀ k, F k -> b <= k /\ k < X.heap.size) (hK : qaQ (fun k => k = g \/ k = B) X X') : qj5 PrgR b F B (L'.map Rg.St.s) (.bool v) X (.returned (.bool v)) X' :=
 ⟨rfl, F, fun k hk => .inl hk, ⟨⟨g, L', rfl, hB, hR, hg, hs⟩, hF, fun k hk => ⟨(hup k hk).1, Nat.lt_of_lt_of_le (hup k hk).2 hK.size⟩⟩, hK.qj8 fun j hj => by rcases hj with rfl | rfl <;> assumption⟩
theorem PrgR.quiet {M : List Fd.S} {v : Value} (h : PrgR b F B M X) (hb : Below X.heap.size X X') : qj5 PrgR b F B M v X (.returned v) X' :=
 ⟨rfl, F, fun k hk => .inl hk, PrgR.obj.keep h (qaQ.qb7 hb) (fun _ _ h => h), (qaQ.qb7 hb).qj8 fun j hj => hj.elim⟩
end
theorem qqn {M : List Fd.S} {L : List Rg.St} (ho : Rg.Ok M) (e : M = L.map Rg.St.s) {q : Rg.St} (hq : q ∈ L) : q.g.qaa.length <= 60 := by
 have h := (ho.all q.s (by rw [e]; exact List.mem_map_of_mem hq)).1.1.2.2.1
 have h2 : q.g.qaa.length <= 32 := h
 omega
theorem qku {M : List Fd.S} {L : List Rg.St} (ho : Rg.Ok M) (e : M = L.map Rg.St.s) : ∃ k l, L.length = k + 1 /\ L[k]? = some l /\ l.g.frame = Rg.last M /\ 0 <= l.g.frame /\ l.g.frame <= 1048576 := by
 have hl : 0 < L.length := by have := Rg.qeu ho.some; rw [e, List.length_map] at this; exact this
 obtain ⟨k, hk⟩ : ∃ k, L.length = k + 1 := ⟨L.length - 1, by omega⟩
 have hlt : k < L.length := by omega
 refine ⟨k, L[k], hk, List.getElem?_eq_getElem hlt, ?_, ?_⟩
 · have := ho.runs k (L[k]).s (by rw [e]; exact Rg.qcY (List.getElem?_eq_getElem hlt))
   have h2 : (L[k]).g.frame = Rg.first M + (k : Int) := this
   unfold Rg.last
   rw [h2, e, List.length_map]
   omega
 · have h := (ho.all (L[k]).s (by rw [e]; exact List.mem_map_of_mem (List.getElem_mem _))).1.1
   exact ⟨h.1, h.2.1⟩
theorem qqC : qhg PrgR where
 ob := PrgR.obj
 new_yes := fun b q X hb hty hok hL => (qnE q hty hok (by have := hok.1.2.2.1; omega) X hL).mono fun e X' h => by
  obtain ⟨g, B, A', c', rfl, h1, h2, h3, h4, h5, h6, h7⟩ := h
  refine ⟨B, fun k => X.heap.size <= k /\ k < X'.heap.size, rfl, ⟨⟨g, [⟨q.g, q.r, A', c'⟩], rfl, h1, h2, ⟨h6, h2.lt⟩, fun x hx => ?_⟩, ⟨h7, h1.lt⟩, fun k hk => ⟨Nat.le_trans hb hk.1, hk.2⟩⟩, h5, fun k hk => hk.1⟩
  obtain rfl := List.mem_singleton.1 hx
  refine ⟨h3, fun h0 ad ea => ?_⟩
  obtain ⟨a1, a2, a3⟩ := h4 h0 ad ea
  obtain ⟨ad', ea', hb'⟩ := h3.start h0
  have ea2 : A' = some ad := ea
  rw [ea2] at ea'; injection ea' with ea'; subst ea'
  exact ⟨⟨a1, hb'⟩, a2, a3⟩
 new_no := fun q X hty hok hn hL => qoT q hty hok hn X hL
 push := fun b F B M ho q hty hn X h hb hL => by
  obtain ⟨g, L, e, hB, hR, hg, hs⟩ := h.box
  obtain ⟨k, l, hk, hl, hfl, hlo⟩ := qku ho e
  have hlen : M.length = L.length := by rw [e, List.length_map]
  have hno : ¬ (Im.Ok q.g q.r /\ q.g.frame = Rg.last M + 1 /\ M.length <= 8) -> (Calls Tryz.prog 12 #[.pointer (some ⟨B, 0, none⟩), .agg q.arr] X fun e X' => e = .returned (.bool false) /\ Below X.heap.size X X') -> Calls Tryz.prog 12 #[.pointer (some ⟨B, 0, none⟩), .agg q.arr] X (qj5 PrgR b F B (Rg.push M q.s) (.bool (Rg.pushB M q.s)) X) := fun hc hcall => by
   have hp : Rg.pushB M q.s = false := Rg.qeK hc
   rw [Rg.qkG hp, hp]
   exact hcall.mono fun e X' hh => by rw [hh.1]; exact h.quiet hh.2
  by_cases h8 : L.length <= 8
  · by_cases hfr : q.g.frame = l.g.frame + 1
    · by_cases hok : Im.Ok q.g q.r
      · have hp : Rg.pushB M q.s = true := Rg.qgC hok (by rw [<- hfl]; exact hfr) (by omega)
        rw [Rg.qip hp, hp]
        have hn60 : q.g.qaa.length <= 60 := by have := hok.1.2.2.1; omega
        refine (qmc B g k L q l hk hl hlo hty hn h8 hfr hok hn60 X hB hR hL).mono fun e' X' hh => ?_
        obtain ⟨rfl, A', c', h1, h2, h3, h4, h5⟩ := hh
        have hsz := h5.size
        refine ⟨rfl, fun k => F k \/ (X.heap.size <= k /\ k < X'.heap.size), fun k hk => hk.imp id And.left, ⟨⟨g, L ++ [⟨q.g, q.r, A', c'⟩], by rw [e, List.map_append]; rfl, by rw [List.length_append]; exact h1, h2, .inl hg, fun x hx => ?_⟩, .inl h.own, fun k hk => ?_⟩, h5.qj8 fun j hj => hj.elim (fun e => e ▸ hg) (fun e => e ▸ h.own)⟩
        · rcases List.mem_append.1 hx with hx | hx
          · have := (qdd.old hs (fun k hk => (h.up k hk).2) h5) x hx
            exact ⟨this.1, fun h0 ad ea => ⟨.inl (this.2 h0 ad ea).1, (this.2 h0 ad ea).2⟩⟩
          · obtain rfl := List.mem_singleton.1 hx
            refine ⟨h3, fun h0 ad ea => ?_⟩
            have a1 := h4 h0 ad ea
            obtain ⟨ad', ea', hb'⟩ := h3.start h0
            have ea2 : A' = some ad := ea
            rw [ea2] at ea'; injection ea' with ea'; subst ea'
            have g1 := (h.up g hg).2
            have g2 := (h.up B h.own).2
            exact ⟨.inr ⟨a1, hb'⟩, by omega, by omega⟩
        · rcases hk with hk | hk
          · exact ⟨(h.up k hk).1, Nat.lt_of_lt_of_le (h.up k hk).2 hsz⟩
          · exact ⟨Nat.le_trans hb hk.1, hk.2⟩
      · exact hno (fun hc => hok hc.1) (qmd B g k L q l hk hl hlo hty hn h8 hfr hok X hB hR hL)
    · exact hno (fun hc => hfr (by rw [hfl]; exact hc.2.1)) (qmf B g k L q l hk hl hlo hty hn h8 hfr X hB hR hL)
  · have h9 := hR.few
    exact hno (fun hc => h8 (by rw [<- hlen]; exact hc.2.2)) (qkq B g k L q l hk hl hlo hty hn (by omega) X hB hR hL)
 qe0 := fun b F B M ho f s hs X h => by
  obtain ⟨g, L, e, hB, hR, hg, hsh⟩ := h.box
  obtain ⟨hp, hat⟩ := Rg.qon hs
  rw [e] at hp hat
  obtain ⟨hv, hi⟩ := Rg.qdl (by rw [<- e]; exact ho) hp
  have hm := List.getElem_mem hi
  have hq := Rg.qcY (List.getElem?_eq_getElem hi)
  rw [hq] at hat
  injection hat with hat
  rw [<- hat]
  exact qnH B g L f _ hi hv X hB hR (qqn ho e hm) (hsh _ hm).1
 qiO := fun b F B M ho f hf hs X h => by
  obtain ⟨g, L, e, hB, hR, hg, hsh⟩ := h.box
  have hp := Rg.qqe hs
  rw [e] at hp ho
  exact qnI B g L f (Rg.qd3 ho hp) X hB hR
 cut := fun b F B M ho f hf X h hb => by
  obtain ⟨g, L, e, hB, hR, hg, hsh⟩ := h.box
  subst e
  cases hp : Rg.hasB (L.map Rg.St.s) f with
  | false =>
   have ec : Rg.cut (L.map Rg.St.s) f = L.map Rg.St.s := by unfold Rg.cut; rw [hp]; rfl
   rw [ec]
   exact (qmi B g L f (Rg.qd3 ho hp) X hB hR).mono fun e X' hh => by rw [hh.1]; exact h.quiet hh.2
  | true =>
   obtain ⟨hv, hi⟩ := Rg.qdl ho hp
   have ec : Rg.cut (L.map Rg.St.s) f = (L.take ((f - Rg.first (L.map Rg.St.s)).toNat + 1)).map Rg.St.s := by unfold Rg.cut; rw [hp, if_pos rfl, List.map_take]
   rw [ec]
   refine (qmh B g L f _ hi hv X hB hR).mono fun e X' hh => ?_
   obtain ⟨rfl, h1, h2, h3⟩ := hh
   exact PrgR.says h1 h2 ((qdd.old hsh (fun k hk => (h.up k hk).2) h3).sub fun q hq => List.mem_of_mem_take hq) hg h.own h.up h3
 drop := fun b F B M ho f hf X h hb => by
  obtain ⟨g, L, e, hB, hR, hg, hsh⟩ := h.box
  subst e
  cases hp : Rg.hasB (L.map Rg.St.s) f with
  | false =>
   have ec : Rg.drop (L.map Rg.St.s) f = L.map Rg.St.s := by unfold Rg.drop; rw [hp]; rfl
   rw [ec]
   exact (qkt B g L f (Rg.qd3 ho hp) X hB hR).mono fun e X' hh => by rw [hh.1]; exact h.quiet hh.2
  | true =>
   obtain ⟨hv, hi⟩ := Rg.qdl ho hp
   have ec : Rg.drop (L.map Rg.St.s) f = (L.drop (f - Rg.first (L.map Rg.St.s)).toNat).map Rg.St.s := by unfold Rg.drop; rw [hp, if_pos rfl, List.map_drop]
   rw [ec]
   refine (qks B g L f _ hi hv X hB hR).mono fun e X' hh => ?_
   obtain ⟨rfl, h1, h2, h3⟩ := hh
   exact PrgR.says h1 h2 ((qdd.old hsh (fun k hk => (h.up k hk).2) h3).sub fun q hq => List.mem_of_mem_drop hq) hg h.own h.up h3
 len := fun b F B M ho X h => by
  obtain ⟨g, L, e, hB, hR, hg, hsh⟩ := h.box
  rw [e, List.length_map]
  exact (qcO B L.length 9 _ X (hB.cell 0)).mono fun e X' hh => ⟨hh.1, by rw [<- hh.2]; exact Below.refl _ _⟩
 first := fun b F B M ho X h => by
  obtain ⟨g, L, e, hB, hR, hg, hsh⟩ := h.box
  obtain ⟨k, l, hk, _⟩ := qku ho e
  have h0 : L[0]? = some (L[0]'(by omega)) := List.getElem?_eq_getElem (by omega)
  have hf : (L[0]'(by omega)).g.frame = Rg.first M := ho.qf5 (by rw [e]; exact Rg.qcY h0)
  rw [<- hf]
  exact (qkr B g k L _ hk h0 X hB hR).mono fun e X' hh => ⟨hh.1, by rw [<- hh.2]; exact Below.refl _ _⟩
 last := fun b F B M ho X h => by
  obtain ⟨g, L, e, hB, hR, hg, hsh⟩ := h.box
  obtain ⟨k, l, hk, hl, hfl, _⟩ := qku ho e
  rw [<- hfl]
  exact qd2 B g k L l hk hl X hB hR
 push0 := fun q X _ _ _ => qme q X
 cut0 := fun f X => qnG f X
 drop0 := fun f X => qmg f X
 len0 := fun X => (qjb X).mono fun e X' hh => ⟨hh.1, by rw [<- hh.2]; exact Below.refl _ _⟩
end Go.Proofs.YtbdlpbnfcnhajaaGreat