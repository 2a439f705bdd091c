/-
Several texts in one: Se Sf Sg Sh Ckd Cke Ckf Sj Si Sk.
-/
import Derived.Test.YtmiopphcfdlneaaGreatCx11
set_option maxRecDepth 100000
set_option maxHeartbeats 8000000
set_option linter.unusedVariables false
set_option linter.unusedSimpArgs false
namespace Go.Proofs.YtmiopphcfdlneaaGreat
open Go.RowKit Go.Shelf
namespace Fd
theorem qkd (s : S) (l : List En.Ev) (k : Nat) (hk : k < l.length) : changes s (l.take (k + 1)) = (changes s (l.take k)).bind fun t => change t l[k] := by
 rw [List.take_succ_eq_append_getElem hk, qdg]
 congr 1
 funext t
 exact qew t _
theorem qh3 {s t : S} {l : List En.Ev} {k : Nat} (hk : k < l.length) (h : changes s (l.take k) = some t) (hv : qcK t l[k]) : changes s (l.take (k + 1)) = some (after t l[k]) := by
 rw [qkd s l k hk, h, Option.bind_some, qcv hv]
theorem qfR {s t : S} {l : List En.Ev} {k : Nat} (hk : k < l.length) (h : changes s (l.take k) = some t) (hv : ¬ qcK t l[k]) : changes s l = none := by
 rw [<- List.take_append_drop k l, qdg, h, Option.bind_some, List.drop_eq_getElem_cons hk, qdW, qe1 hv]
 rfl
theorem qh7 {s : S} {e : En.E} (hm : May s e) (h : changes s e.evs = none) : apply s e = none := by rw [qcG hm, h]; rfl
theorem qh8 {s t : S} {e : En.E} (hm : May s e) (h : changes s e.evs = some t) (hi : ¬ Idle t.r e.inp) : apply s e = none := by rw [qcG hm, h, Option.bind_some, if_neg hi]
theorem qh9 {s t : S} {e : En.E} (hm : May s e) (h : changes s e.evs = some t) (hi : Idle t.r e.inp) : apply s e = some ⟨Gm.step e.inp t.g, t.r⟩ := by rw [qcG hm, h, Option.bind_some, if_pos hi]
end Fd
structure Bh (w : World) (g : Gm.G) (s : Value) (r : Ros.R) (e : En.E) (sl : Value) (W : World) : Prop where
 st : Box W w.heap.size 38 (Im.cells g s r)
 en : Box W (w.heap.size + 1) 52 (En.cells e sl)
 out : Box W (w.heap.size + 1 + 1) 38 Im.zero
 below : Below w.heap.size w W
section
variable {w W W' : World} {g : Gm.G} {s : Value} {r : Ros.R} {e : En.E} {sl : Value}
theorem Bh.call (h : Bh w g s r e sl W) (hb : Below W.heap.size W W') : Bh w g s r e sl W' :=
 ⟨h.st.below hb h.st.lt, h.en.below hb h.en.lt, h.out.below hb h.out.lt, h.below.trans (hb.mono h.below.size)⟩
theorem Bh.alloc (h : Bh w g s r e sl W) (o : Obj) : Bh w g s r e sl (W.alloc o) := h.call (qac W o)
theorem Bh.store {g' : Gm.G} {s' : Value} {r' : Ros.R} (h : Bh w g s r e sl W) : Bh w g' s' r' e sl (W.setRow w.heap.size (Im.cells g' s' r')) :=
 ⟨h.st.row _, h.en.qbn (by omega) _, h.out.qbn (by omega) _, Below.setRow' h.below (Nat.le_refl _) _⟩
end
theorem qiW (w : World) (g : Gm.G) (s : Value) (r : Ros.R) (e : En.E) (sl : Value) : Bh w g s r e sl (((w.alloc (.cells (Im.cells g s r) 38)).alloc (.cells (En.cells e sl) 52)).alloc (.cells Im.zero 38)) :=
 ⟨((Box.made w 38 (Im.cells g s r)).alloc (.cells (En.cells e sl) 52)).alloc (.cells Im.zero 38), (Box.qaq (n := w.heap.size + 1) (w.alloc (.cells (Im.cells g s r) 38)) 52 (En.cells e sl) (by simp)).alloc (.cells Im.zero 38), Box.qaq _ _ _ (by simp),
   (qap w (.cells (Im.cells g s r) 38) (.cells (En.cells e sl) 52)).alloc (by simp <;> omega) (.cells Im.zero 38)⟩
theorem qqM (x y b : Int) (w : World) : (binOp .eql 48 (.agg #[.int .i8 x, .int .i8 y, .int .u8 b]) (.agg #[.int .i8 0, .int .i8 0, .int .u8 0])).run Tryz.prog w = .ok (.bool (En.zero ⟨x, y, b⟩)) w := by
 have h : (Op.equalIn 10000 48 (.agg #[.int .i8 x, .int .i8 y, .int .u8 b]) (.agg #[.int .i8 0, .int .i8 0, .int .u8 0])).run Tryz.prog w = .ok (En.zero ⟨x, y, b⟩) w := by
  by_cases h1 : x = 0
  · by_cases h2 : y = 0
    · by_cases h3 : b = 0
      · subst h1 h2 h3; go_simp <;> simp [En.zero]
      · have h4 : (b == 0) = false := by simpa using h3
        subst h1 h2; go_simp <;> simp [h4, h3, En.zero]
    · have h4 : (y == 0) = false := by simpa using h2
      subst h1; go_simp <;> simp [h4, h2, En.zero]
  · have h4 : (x == 0) = false := by simpa using h1
    go_simp <;> simp [h4, h1, En.zero]
 generalize #[Value.int .i8 x, .int .i8 y, .int .u8 b] = F at *
 generalize #[Value.int .i8 0, .int .i8 0, .int .u8 0] = G at *
 go_simp
def qoT (g' : Gm.G) (r' : Ros.R) (w : World) (e : Ending) (w' : World) : Prop :=
 ∃ A c, e = .returned (.agg (Im.cells g' (.slice A g'.qaa.length c) r')) /\ Lies w' w'.heap.size 6 A g'.qaa.length (Gm.qad g'.qaa) /\ Below w.heap.size w w' /\ New6 w.heap.size A g'.qaa.length
def qoS (g' : Gm.G) (r' : Ros.R) (code : Int) (w : World) (e : Ending) (w' : World) : Prop :=
 ∃ A c, e = .returned (.tuple #[.agg (Im.cells g' (.slice A g'.qaa.length c) r'), .int .i64 code]) /\ Lies w' w'.heap.size 6 A g'.qaa.length (Gm.qad g'.qaa) /\ Below w.heap.size w w' /\ New6 w.heap.size A g'.qaa.length
theorem qoS.out {g' : Gm.G} {r' : Ros.R} {code : Int} {w w' : World} {e : Ending} (h : qoS g' r' code w e w') : SOut g' r' code w e w' := by obtain ⟨A, c, h1, h2, h3, _⟩ := h; exact ⟨A, c, h1, h2, h3⟩
def Behind (s : Fd.S) (e : En.E) (w : World) (r : Ending) (w' : World) : Prop :=
 (∃ u, Fd.apply s e = some u /\ qoT u.g u.r w r w') \/ (Fd.apply s e = none /\ qe6 1 w r w')
theorem qoN (s : Fd.S) (e : En.E) (A A2 : Option Addr) (n c m c2 : Nat) (w : World) (hty : Gm.ty s.g) (hn60 : n <= 60) (hn : n = s.g.qaa.length) (hr : Lies w w.heap.size 6 A n (Gm.qad s.g.qaa)) (hm : m = e.evs.length) (hm63 : m <= maxLen) (hE : Lies w w.heap.size 4 A2 m (En.qa2 e.evs)) (hno : ¬ Fd.May s e) :
 Calls Tryz.prog 49 #[.agg (Im.cells s.g (.slice A n c) s.r), .agg (En.cells e (.slice A2 m c2))] w (qe6 1 w) := by
 have B0 := qh (qiW w s.g (.slice A n c) s.r e (.slice A2 m c2))
 have L0 := qh ((hr.below B0.out.below).wider B0.out.below.size)
 have E0 := qh ((hE.below B0.out.below).wider B0.out.below.size)
 have cm := qh (qcs s.g s.r A n c _ hty (by unfold maxLen; omega) hn L0.out)
 have ce := fun X hX => qh (qj3 e A2 m c2 X hm hm63 hX)
 have ct := fun X => qh (qgS X)
 have cy := fun X => qh (qfI X)
 by_cases hok : Im.Ok s.g s.r
 · have HOK := qh hok
   by_cases hen : En.Ok e
   · have hfr : (e.frame == s.g.frame) = false := by simpa using fun h => hno ⟨hok, hen, h⟩
     simp only [decide_eq_true hen] at ce
     have hs0 : (Im.cells s.g (.slice A n c) s.r)[0]? = some (.int .i64 s.g.frame) := (Im.qdh _ _ _ 0 (by omega)).trans (Gm.qa1 _ _)
     have he0 := En.qa1 e (.slice A2 m c2)
     clear hok hen hno hr hn hm hm63 hE hty
     go_enter Tryz.func49, Tryz.ntmps49
     go_wp2_with (first | (with_reducible refine qaz rfl rfl ?_) | ((with_reducible refine qak rfl rfl ?_); apply qaC.mk rfl; (focus (with_reducible exact B0.out.st)); dsimp only) | (go_at_call 74; ((with_reducible refine ((cm).out).mono ?_); rintro x w1 ⟨⟨v, rfl, hv⟩, hb⟩; obtain rfl : v = true := hv.2 HOK.out; have B1 := qh (B0.out.call hb); have E1 := qh ((E0.out.below hb).wider hb.size); have L1 := qh (L0.out.call hb); clear hb hv)) | ((with_reducible refine qeW ?_ rfl ?_); (focus first | rfl | kernel_rfl | simp [Region.wanted, yielded]); apply qcl.mk rfl; (focus (with_reducible exact B1.out.en)); dsimp only) | (go_at_call 89; ((with_reducible refine ((ce _ E1.out).out).mono ?_); rintro x w2 ⟨rfl, hb⟩; have B2 := qh (B1.out.call hb); have k2s := B2.out.st.cell 0; have k2e := B2.out.en.cell 0; have L2 := qh (L1.out.call hb); clear hb)) | (go_at_call 88; ((with_reducible refine ((ct _).out).mono ?_); rintro x w3 ⟨rfl, hb⟩; have K3 := qh (B2.out.below.trans (hb.mono B2.out.below.size)); clear hb)))
     exact ⟨rfl, rfl, K3.out⟩
   · simp only [decide_eq_false hen] at ce
     clear hok hen hno hr hn hm hm63 hE hty
     go_enter Tryz.func49, Tryz.ntmps49
     go_wp2_with (first | (with_reducible refine qaz rfl rfl ?_) | ((with_reducible refine qak rfl rfl ?_); apply qaC.mk rfl; (focus (with_reducible exact B0.out.st)); dsimp only) | (go_at_call 74; ((with_reducible refine ((cm).out).mono ?_); rintro x w1 ⟨⟨v, rfl, hv⟩, hb⟩; obtain rfl : v = true := hv.2 HOK.out; have B1 := qh (B0.out.call hb); have E1 := qh ((E0.out.below hb).wider hb.size); have L1 := qh (L0.out.call hb); clear hb hv)) | ((with_reducible refine qeW ?_ rfl ?_); (focus first | rfl | kernel_rfl | simp [Region.wanted, yielded]); apply qcl.mk rfl; (focus (with_reducible exact B1.out.en)); dsimp only) | (go_at_call 89; ((with_reducible refine ((ce _ E1.out).out).mono ?_); rintro x w2 ⟨rfl, hb⟩; have B2 := qh (B1.out.call hb); have k2s := B2.out.st.cell 0; have k2e := B2.out.en.cell 0; have L2 := qh (L1.out.call hb); clear hb)) | (go_at_call 88; ((with_reducible refine ((ct _).out).mono ?_); rintro x w3 ⟨rfl, hb⟩; have K3 := qh (B2.out.below.trans (hb.mono B2.out.below.size)); clear hb)))
     exact ⟨rfl, rfl, K3.out⟩
 · have HOK := qh hok
   clear hok hno hr hn hm hm63 hE hty
   go_enter Tryz.func49, Tryz.ntmps49
   go_wp2_with (first | (with_reducible refine qaz rfl rfl ?_) | ((with_reducible refine qak rfl rfl ?_); apply qaC.mk rfl; (focus (with_reducible exact B0.out.st)); dsimp only) | (go_at_call 74; ((with_reducible refine ((cm).out).mono ?_); rintro x w1 ⟨⟨v, rfl, hv⟩, hb⟩; obtain rfl : v = false := (by cases v <;> first | rfl | exact absurd (hv.1 rfl) HOK.out); have B1 := qh (B0.out.call hb); have E1 := qh ((E0.out.below hb).wider hb.size); have L1 := qh (L0.out.call hb); clear hb hv)) | (go_at_call 88; ((with_reducible refine ((ct _).out).mono ?_); rintro x w3 ⟨rfl, hb⟩; have K3 := qh (B1.out.below.trans (hb.mono B1.out.below.size)); clear hb)))
   exact ⟨rfl, rfl, K3.out⟩
theorem qkg (s : Fd.S) (e : En.E) (A A2 : Option Addr) (n c m c2 : Nat) (w : World) (hty : Gm.ty s.g) (hn60 : n <= 60) (hn : n = s.g.qaa.length) (hr : Lies w w.heap.size 6 A n (Gm.qad s.g.qaa)) (hm : m = e.evs.length) (hm63 : m <= maxLen) (hE : Lies w w.heap.size 4 A2 m (En.qa2 e.evs)) (hin : ∀ i, i < 8 -> Gm.tyIn (e.inp i)) (hmay : Fd.May s e) :
 Calls Tryz.prog 49 #[.agg (Im.cells s.g (.slice A n c) s.r), .agg (En.cells e (.slice A2 m c2))] w (Behind s e w) := by
 have B0 := qh (qiW w s.g (.slice A n c) s.r e (.slice A2 m c2))
 have L0 := qh ((hr.below B0.out.below).wider B0.out.below.size)
 have E0 := qh ((hE.below B0.out.below).wider B0.out.below.size)
 have cm := qh (qcs s.g s.r A n c _ hty (by unfold maxLen; omega) hn L0.out)
 have ce := fun X hX => qh (qj3 e A2 m c2 X hm hm63 hX)
 have ct := fun X => qh (qgS X)
 have cy := fun X => qh (qfI X)
 have hfine : Fd.Fine s := ⟨hmay.1, hty.2.1⟩
 have HF := qh hfine
 have HM := qh hmay
 have HE := qh hE
 have hN := qh hn
 have hMN := qh hm
 have m63 : (m : Int) <= 9223372036854775807 := by unfold maxLen at hm63; omega
 have hfr : (e.frame == s.g.frame) = true := by simpa using hmay.2.2
 simp only [decide_eq_true hmay.2.1] at ce
 have hs0 : (Im.cells s.g (.slice A n c) s.r)[0]? = some (.int .i64 s.g.frame) := (Im.qdh _ _ _ 0 (by omega)).trans (Gm.qa1 _ _)
 have he0 := En.qa1 e (.slice A2 m c2)
 have he1 := En.qcg e (.slice A2 m c2)
 clear hmay hr hn hm hm63 hE hty hfine
 go_enter Tryz.func49, Tryz.ntmps49
 go_upto_region 2 with (first | (with_reducible refine qaz rfl rfl ?_) | ((with_reducible refine qak rfl rfl ?_); apply qaC.mk rfl; (focus (with_reducible exact B0.out.st)); dsimp only) | (go_at_call 74; ((with_reducible refine ((cm).out).mono ?_); rintro x w1 ⟨⟨v, rfl, hv⟩, hb⟩; obtain rfl : v = true := hv.2 HM.out.1; have B1 := qh (B0.out.call hb); have E1 := qh ((E0.out.below hb).wider hb.size); have L1 := qh (L0.out.call hb); clear hb hv)) | ((with_reducible refine qeW ?_ rfl ?_); (focus first | rfl | kernel_rfl | simp [Region.wanted, yielded]); apply qcl.mk rfl; (focus (with_reducible exact B1.out.en)); dsimp only) | (go_at_call 89; ((with_reducible refine ((ce _ E1.out).out).mono ?_); rintro x w2 ⟨rfl, hb⟩; have B2 := qh (B1.out.call hb); have k2s := B2.out.st.cell 0; have k2e := B2.out.en.cell 0; have L2 := qh (L1.out.call hb); clear hb)) | (go_at_call 88; ((with_reducible refine ((cy _).out).mono ?_); rintro x w3 ⟨rfl, hb⟩; have B3 := qh (B2.out.call hb); have k3 := B3.out.en.cell 1; have L3 := qh (L2.out.call hb); clear hb k2s k2e)))
 clear B0 L0 E0 cm ce B1 E1 L1 B2 L2
 have hn := hN.out
 subst hn
 go_wp2
 go_loopw [29] (fun i wr => ∃ (k : Nat) (t : Fd.S) (A' : Option Addr) (c' : Nat), k <= m /\ i = .int .i64 k /\ Fd.changes s (e.evs.take k) = some t /\ Bh w t.g (.slice A' t.g.qaa.length c') t.r e (.slice A2 m c2) wr /\ Lies wr wr.heap.size 6 A' t.g.qaa.length (Gm.qad t.g.qaa)) (fun i _ => m - (intOf i).toNat)
 case atStart => exact ⟨0, s, A, c, Nat.zero_le _, rfl, rfl, B3.out, L3.out⟩
 case round =>
  obtain ⟨k, t, A', c', hk, rfl, hch, hB, hL⟩ := hrel
  clear B3 L3 k3 hs0 he0 hfr
  by_cases hlt : k < m
  · have hk8 : (k : Int) < m := by omega
    have hkl : k < e.evs.length := by have := hMN.out; omega
    obtain ⟨ad, rfl, hbl, e0, e1, e2, e3⟩ := qj1 (HE.out.below hB.below) hMN.out k hkl
    have hok := En.qkB e.evs (-1) HM.out.2.1.row e.evs[k] (List.getElem_mem hkl)
    have hft := (HF.out.changes hch).1
    have hgo := qh (fun hv : Fd.qcK t e.evs[k] => Fd.qh3 hkl hch hv)
    have hst := qh (fun hv : ¬ Fd.qcK t e.evs[k] => Fd.qh7 HM.out (Fd.qfR hkl hch hv))
    have cy' := fun X (hv : Fd.qcK t e.evs[k]) hX => qh (qcv t e.evs[k] A' t.g.qaa.length c' X hft hv rfl hX)
    have cn' := fun X (hv : ¬ Fd.qcK t e.evs[k]) => qh (qe1 t e.evs[k] A' t.g.qaa.length c' X hok hv)
    generalize hv : e.evs[k] = v at e0 e1 e2 e3 hgo hst cy' cn' hok
    have sz := hB.below.size
    have ltA : ad.block < wr.heap.size := by omega
    have ltP : w.heap.size < wr.heap.size := hB.st.lt
    have B4 := fun o => qh (hB.alloc o)
    have L4 := fun o => qh (hL.call (qac wr o))
    by_cases hev : Fd.qcK t v
    · have cs := fun X hX => cy' X hev hX
      have HG := qh (hgo.out hev)
      generalize hu : Fd.after t v = u at cs HG
      obtain ⟨vk, vs, vg, vp⟩ := v
      dsimp only at e0 e1 e2 e3 cs
      clear hu hgo hst cy' cn' hv hev hok hch hB hL hft
      go_wp2_with (first | ((with_reducible refine qak rfl rfl ?_); apply qaC.mk rfl; (focus (with_reducible exact (B4 _).out.st)); dsimp only) | (go_at_call 90; ((with_reducible refine ((cs _ (L4 _).out).out).mono ?_); rintro x w5 ⟨A5, c5, rfl, hL5, hb⟩; have B5 := qh ((B4 _).out.call hb); have B6 := qh (B5.out.store (g' := u.g) (s' := .slice A5 u.g.qaa.length c5) (r' := u.r)); have L6 := qh (hL5.qa8 rfl B5.out.st (Im.cells u.g (.slice A5 u.g.qaa.length c5) u.r)); clear hb hL5)) | ((with_reducible refine qaI rfl rfl ?_); apply qcj.mk rfl rfl; (focus (with_reducible exact B5.out.st)); (focus (exact Im.qaf _ _ _)); (focus rfl)))
      go_roundw
      case rel => exact ⟨k + 1, u, A5, c5, by omega, by go_num, HG.out, B6.out, L6.out⟩
      case measure => simp [intOf]; omega
    · have cs := fun X => cn' X hev
      have HG := qh (hst.out hev)
      obtain ⟨vk, vs, vg, vp⟩ := v
      dsimp only at e0 e1 e2 e3 cs
      clear hgo hst cy' cn' hv hev hok hch hB hL hft
      go_wp2_with (first | ((with_reducible refine qak rfl rfl ?_); apply qaC.mk rfl; (focus (with_reducible exact (B4 _).out.st)); dsimp only) | (go_at_call 90; ((with_reducible refine ((cs _).out).mono ?_); rintro x w5 ⟨rfl, hb⟩; have K5 := qh ((B4 _).out.below.trans (hb.mono (B4 _).out.below.size)); clear hb)))
      exact ⟨rfl, .inr ⟨HG.out, rfl, K5.out⟩⟩
  · have hk8 : ¬ (k : Int) < m := by omega
    obtain rfl : k = m := by omega
    obtain ⟨k0, hk0⟩ : ∃ k0, k0 = k := ⟨_, rfl⟩
    rw [hMN.out, List.take_length] at hch
    have HC := qh hch
    rw [<- hk0] at hB
    have B3 := qh hB
    have L3 := qh hL
    have HT := qh (HF.out.changes hch)
    clear hch hB hL
    go_wp2_with ((with_reducible refine qc8 rfl rfl ?_); apply qcl.mk rfl; (focus (with_reducible exact B3.out.en)); dsimp only)
    go_loopw [39] (fun i wr => ∃ k : Nat, k <= 8 /\ i = .int .i64 k /\ Bh w t.g (.slice A' t.g.qaa.length c') t.r e (.slice A2 k0 c2) wr /\ Lies wr wr.heap.size 6 A' t.g.qaa.length (Gm.qad t.g.qaa) /\ ∀ j, j < k -> t.r.peer j < 0 -> En.zero (e.inp j) = true) (fun i _ => 8 - (intOf i).toNat)
    case atStart => exact ⟨0, by omega, rfl, B3.out, L3.out, fun j hj => absurd hj (Nat.not_lt_zero j)⟩
    case round =>
     obtain ⟨k, hk, rfl, hB, hL, hall⟩ := hrel
     clear B3 L3
     by_cases hlt : k < 8
     · have hk8 : (k : Int) < 8 := by omega
       have hpart := qiH e.inp k hlt
       have hcell : ∀ o, (wr.alloc o).cell? ⟨w.heap.size, 60 + k * 2, none⟩ = some (.int .i64 (t.r.peer k)) := fun o => ((hB.st.alloc o).cell _).trans (Im.qaQ t.g _ t.r k hlt)
       have hnext := qh (fun (h : t.r.peer k < 0 -> En.zero (e.inp k) = true) => show ∀ j, j < k + 1 -> t.r.peer j < 0 -> En.zero (e.inp j) = true from fun j hj => by
        by_cases ej : j = k
        · rw [ej]; exact h
        · exact hall j (by omega))
       have hbad := qh (fun (h : t.r.peer k < 0) (h' : En.zero (e.inp k) = false) => Fd.qh8 HM.out HC.out (fun hi => by have := hi k hlt h; rw [h'] at this; cases this))
       obtain ⟨p, hp⟩ : ∃ p, p = e.inp k := ⟨_, rfl⟩
       rw [<- hp] at hpart hnext hbad
       obtain ⟨x, y, b⟩ := p
       dsimp only at hpart
       have hq := fun W => qqM x y b W
       generalize hzz : En.zero ⟨x, y, b⟩ = z at hq hnext hbad
       obtain ⟨pk, hpk⟩ : ∃ pk, pk = t.r.peer k := ⟨_, rfl⟩
       rw [<- hpk] at hcell hnext hbad
       have B4 := fun o => qh (hB.alloc o)
       have L4 := fun o => qh (hL.call (qac wr o))
       have sz : w.heap.size <= wr.heap.size := hB.below.size
       have ltP : w.heap.size < wr.heap.size := hB.st.lt
       clear hp hpk hall hB hL hzz
       by_cases hp0 : 0 <= pk
       · have hn := qh (hnext.out (fun h => absurd h (by omega)))
         clear hnext hbad
         go_wp2_with (go_at_call 88; ((with_reducible refine ((cy _).out).mono ?_); rintro x w5 ⟨rfl, hb⟩; have B5 := qh ((B4 _).out.call hb); have L5 := qh ((L4 _).out.call hb); clear hb))
         go_roundw
         case rel => exact ⟨k + 1, by omega, by go_num, B5.out, L5.out, hn.out⟩
         case measure => simp [intOf]; omega
       · cases z
         · have hn := qh (hbad.out (by omega) rfl)
           clear hnext hbad
           go_wp2_with (go_at_call 88; ((with_reducible refine ((ct _).out).mono ?_); rintro x w5 ⟨rfl, hb⟩; have K5 := qh ((B4 _).out.below.trans (hb.mono (B4 _).out.below.size)); clear hb))
           exact ⟨rfl, .inr ⟨hn.out, rfl, K5.out⟩⟩
         · have hn := qh (hnext.out (fun _ => rfl))
           clear hnext hbad
           go_wp2_with (go_at_call 88; ((with_reducible refine ((cy _).out).mono ?_); rintro x w5 ⟨rfl, hb⟩; have B5 := qh ((B4 _).out.call hb); have L5 := qh ((L4 _).out.call hb); clear hb))
           go_roundw
           case rel => exact ⟨k + 1, by omega, by go_num, B5.out, L5.out, hn.out⟩
           case measure => simp [intOf]; omega
     · have hk8 : ¬ (k : Int) < 8 := by omega
       obtain rfl : k = 8 := by omega
       have HR := qh (Fd.qh9 HM.out HC.out hall)
       have hstep := fun X hX => qh (qo0 e.inp t.g A' t.g.qaa.length c' X HT.out.1.ok.1 (by have := HT.out.2; have := HM.out.2.1.frame; have := HM.out.2.2; omega) HT.out.1.dice hin rfl hX)
       have cn := fun X => qh (qkY X)
       have B6 := qh hB
       have L6 := qh hL
       generalize hG : Gm.step e.inp t.g = G at hstep HR
       clear hall hB hL hG
       go_upto_region 14 with (first | ((with_reducible refine qbb rfl rfl ?_); apply qaC.mk rfl; (focus (with_reducible exact B6.out.st)); dsimp only) | ((with_reducible refine qc8 rfl rfl ?_); apply qcl.mk rfl; (focus (with_reducible exact B6.out.en)); dsimp only) | (go_at_call 91; ((with_reducible refine ((hstep _ L6.out).out).mono ?_); rintro x w7 ⟨A7, c7, rfl, hL, hb, hN⟩; have NW := qh (hN.mono B6.out.below.size); have B7 := qh ((B6.out.call hb).alloc (.cells (Gm.cells G (.slice A7 G.qaa.length c7)) 31)); have L7 := qh (hL.call (qac w7 (.cells (Gm.cells G (.slice A7 G.qaa.length c7)) 31))); have G7 := qh (Box.made w7 31 (Gm.cells G (.slice A7 G.qaa.length c7))); clear hb hL)) | (refine qaK rfl rfl ?_) | (refine qaL rfl rfl rfl rfl rfl rfl ?_) | (go_at_call 92; ((with_reducible refine ((cn _).out).mono ?_); rintro x w8 ⟨rfl, hb⟩; have B8 := qh (B7.out.call hb); have L8 := qh (L7.out.call hb); have G8 := qh (G7.out.below hb G7.out.lt); have B9 := qh (B8.out.store (g' := G) (s' := .slice A7 G.qaa.length c7) (r' := t.r)); have L9 := qh (L8.out.qa8 rfl B8.out.st (Im.cells G (.slice A7 G.qaa.length c7) t.r)); clear hb)))
       go_wp2_with (first | ((with_reducible refine qaF rfl rfl ?_); apply qaN.mk rfl; (with_reducible exact G8.out)) | ((with_reducible refine qbU rfl rfl ?_); apply qe9.mk rfl rfl; (focus (with_reducible exact B8.out.st)); (focus rfl)) | ((with_reducible refine qak rfl rfl ?_); apply qaC.mk rfl; (focus (with_reducible exact B9.out.st)); dsimp only) | ((with_reducible refine qaI rfl rfl ?_); apply qcj.mk rfl rfl; (focus (with_reducible exact B9.out.out)); (focus (exact Im.qaO)); (focus rfl)))
       refine bodyPost_ret (v := .agg (Im.cells G (.slice A7 G.qaa.length c7) t.r)) ?_ ?_ ?_
       · exact results_cell_row rfl _ _ _ _ (Im.cells G (.slice A7 G.qaa.length c7) t.r) (0, 0) _ rfl (B9.out.out.row _).is Tryz.underlying38 rfl (by rw [Im.qaf]; exact qax)
       · rfl
       · exact .inl ⟨_, HR.out, A7, c7, rfl, L9.out.qcM rfl B9.out.out _, Below.setRow' B9.out.below (by omega) _, NW.out⟩
theorem qpM (W : World) (v : Value) : (Instr.typeAssert (.iface 140 v) 20 140 true).run Tryz.prog W = .ok (.tuple #[v, .bool true]) W := by kernel_rfl
theorem qlq (g : Gm.G) (r : Ros.R) (A : Option Addr) (n c Bs Bn Bc : Nat) (code y : Int) (older : List PanicEntry) (w : World) (Z : Array Value) (hZ : Z.size = 76) (hn60 : n <= 60) (hn : n = g.qaa.length) (hr : Lies w w.heap.size 6 A n (Gm.qad g.qaa))
 (hs : Box w Bs 38 (Im.cells g (.slice A n c) r)) (hb : Box w Bn 38 Z) (hc : Box w Bc 3 #[.int .i64 y]) :
 CallsD Tryz.prog 87 #[.pointer (some ⟨Bs, 0, none⟩), .pointer (some ⟨Bn, 0, none⟩), .pointer (some ⟨Bc, 0, none⟩)] (.panicking ({ v := .iface 140 (.int .i64 code), recovered := false } :: older)) w fun e u' w' =>
  e = .returned (.tuple #[]) /\ u' = .panicking ({ v := .iface 140 (.int .i64 code), recovered := true } :: older) /\
   ∃ A' c' w1, w' = (w1.setRow Bn (Im.cells g (.slice A' n c') r)).setCell ⟨Bc, 0, none⟩ (.int .i64 code) /\ Lies w1 w1.heap.size 6 A' n (Gm.qad g.qaa) /\ Below w.heap.size w w1 := by
 have ne : Bn ≠ Bc := Box.apart hb hc (by decide)
 have co := qh (qla g r A n c w hn60 hn hr)
 have HS := qh hs
 have HB := qh hb
 have HC := qh hc
 have HN := qh hn
 clear hs hb hc hr hn
 refine callsD_of_wpS Tryz.func87 rfl fun c₀ cs hu => ?_
 apply wpS_seq
 apply wpS_region
 simp [wpOpsS, go_sem, recoverD, hu, Tryz.ntmps87, Exit.thenS]
 have hta := fun W => qpM W (.int .i64 code)
 refine wpS_of_wp ?_
 simp only [Array.replicate_succ, Array.replicate_zero, List.push_toArray, List.append_toArray, List.nil_append, List.cons_append, List.setIfInBounds_toArray, List.set_cons_succ, List.set_cons_zero]
 go_wp2_with (first | ((with_reducible refine qak rfl rfl ?_); apply qaC.mk rfl; (focus (with_reducible exact HS.out)); dsimp only) | (go_at_call 65; ((with_reducible refine ((co).out).mono ?_); rintro x w1 ⟨A1, c1, rfl, hL, hK⟩; have S1 := qh (HB.out.below hK HB.out.lt); have D1 := HC.out.below hK HC.out.lt; have D2 := qh (D1.qbn (fun e => ne e.symm) (Im.cells g (.slice A1 g.qaa.length c1) r)); have k2 := D2.out.cell 0; have f2 := D2.out.free 0; have L1 := qh hL; have K1 := qh hK; clear hL hK D1)) | ((with_reducible refine qaI rfl rfl ?_); apply qcj.mk rfl rfl; (focus (with_reducible exact S1.out)); (focus (exact hZ)); (focus rfl)))
 have hn := HN.out
 subst hn
 simp [bodyPostS, results, Tryz.results87]
 exact ⟨A1, c1, w1, rfl, L1.out, K1.out⟩
theorem qhi (p q s : Addr) (w : World) :
 CallsD Tryz.prog 87 #[.pointer (some s), .pointer (some p), .pointer (some q)] .returning w fun e u' w' => e = .returned (.tuple #[]) /\ u' = .returning /\ w' = w := by
 refine callsD_of_wpS Tryz.func87 rfl fun c₀ cs hu => ?_
 apply wpS_seq
 apply wpS_region
 simp [wpOpsS, go_sem, recoverD, hu, Tryz.ntmps87, Exit.thenS]
 refine wpS_of_wp ?_
 simp only [Array.replicate_succ, Array.replicate_zero, List.push_toArray, List.append_toArray, List.nil_append, List.cons_append, List.setIfInBounds_toArray, List.set_cons_succ, List.set_cons_zero]
 go_wp2
 cases c₀
 simp_all [bodyPostS, results, Tryz.results87]
theorem qm9 {s u : Fd.S} {e : En.E} {w w' : World} {r : Ending} (h : Fd.apply s e = some u) (hB : Behind s e w r w') : qoT u.g u.r w r w' := by
 unfold Behind at hB
 rw [h] at hB
 rcases hB with ⟨v, hv, h2⟩ | ⟨hno, _⟩
 · obtain rfl : u = v := Option.some.inj hv
   exact h2
 · cases hno
theorem qna {s : Fd.S} {e : En.E} {w w' : World} {r : Ending} (h : Fd.apply s e = none) (hB : Behind s e w r w') : qe6 1 w r w' := by
 unfold Behind at hB
 rw [h] at hB
 rcases hB with ⟨v, hv, h2⟩ | ⟨_, h2⟩
 · cases hv
 · exact h2
theorem qnb (s u : Fd.S) (e : En.E) (A A2 : Option Addr) (n c m c2 : Nat) (w : World) (hty : Gm.ty s.g) (hn60 : n <= 60) (hn : n = s.g.qaa.length) (hr : Lies w w.heap.size 6 A n (Gm.qad s.g.qaa)) (hm : m = e.evs.length) (hm63 : m <= maxLen) (hE : Lies w w.heap.size 4 A2 m (En.qa2 e.evs)) (hin : ∀ i, i < 8 -> Gm.tyIn (e.inp i)) (h : Fd.apply s e = some u) :
 Calls Tryz.prog 49 #[.agg (Im.cells s.g (.slice A n c) s.r), .agg (En.cells e (.slice A2 m c2))] w (qoT u.g u.r w) := by
 exact (qkg s e A A2 n c m c2 w hty hn60 hn hr hm hm63 hE hin (Fd.qcw h).1).mono fun r w' hB => qm9 h hB
theorem qls (s : Fd.S) (e : En.E) (A A2 : Option Addr) (n c m c2 : Nat) (w : World) (hty : Gm.ty s.g) (hn60 : n <= 60) (hn : n = s.g.qaa.length) (hr : Lies w w.heap.size 6 A n (Gm.qad s.g.qaa)) (hm : m = e.evs.length) (hm63 : m <= maxLen) (hE : Lies w w.heap.size 4 A2 m (En.qa2 e.evs)) (hin : ∀ i, i < 8 -> Gm.tyIn (e.inp i)) (h : Fd.apply s e = none) :
 Calls Tryz.prog 49 #[.agg (Im.cells s.g (.slice A n c) s.r), .agg (En.cells e (.slice A2 m c2))] w (qe6 1 w) := by
 by_cases hmay : Fd.May s e
 · exact (qkg s e A A2 n c m c2 w hty hn60 hn hr hm hm63 hE hin hmay).mono fun r w' hB => qna h hB
 · exact qoN s e A A2 n c m c2 w hty hn60 hn hr hm hm63 hE hmay
theorem qlv (u : Fd.S) (s : Fd.S) (e : En.E) (A A2 : Option Addr) (n c m c2 Bs Be : Nat) (w : World) (hty : Gm.ty s.g) (hn60 : n <= 60) (hn : n = s.g.qaa.length) (hr : Lies w w.heap.size 6 A n (Gm.qad s.g.qaa)) (hm : m = e.evs.length) (hm63 : m <= maxLen) (hE : Lies w w.heap.size 4 A2 m (En.qa2 e.evs)) (hin : ∀ i, i < 8 -> Gm.tyIn (e.inp i)) (hB : Box w Bs 38 (Im.cells s.g (.slice A n c) s.r)) (hBe : Box w Be 52 (En.cells e (.slice A2 m c2))) (h : Fd.apply s e = some u) :
 Calls Tryz.prog 48 #[.pointer (some ⟨Bs, 0, none⟩), .pointer (some ⟨Be, 0, none⟩)] w (qoT u.g u.r w) := by
 have N0 := qh (Box.made w 38 Im.zero)
 have K0 := qh (qac w (.cells Im.zero 38))
 have B1 := qh (hB.alloc (.cells Im.zero 38))
 have E1 := qh (hBe.alloc (.cells Im.zero 38))
 have cb := qh (qnb s u e A A2 n c m c2 _ hty hn60 hn (hr.call K0.out) hm hm63 ((hE.below K0.out).wider K0.out.size) hin h)
 clear hty hr hE hn hm hm63 hin h hB hBe
 go_enter Tryz.func48, Tryz.ntmps48
 go_wp2_with (first | (with_reducible refine qaz rfl rfl ?_) | ((with_reducible refine qak rfl rfl ?_); apply qaC.mk rfl; (focus (with_reducible exact B1.out)); dsimp only) | ((with_reducible refine qhb rfl rfl ?_); apply qcl.mk rfl; (focus (with_reducible exact E1.out)); dsimp only) | (go_at_call 49; ((with_reducible refine ((cb).out).mono ?_); rintro x w2 ⟨A1, c1, rfl, hL, hb, hN⟩; have NW := qh (hN.mono K0.out.size); have N2 := qh (N0.out.below hb N0.out.lt); have K2 := qh (K0.out.trans (hb.mono K0.out.size)); have L2 := qh hL; clear hb hL)) | ((with_reducible refine qaI rfl rfl ?_); apply qcj.mk rfl rfl; (focus (with_reducible exact N2.out)); (focus (exact Im.qaO)); (focus rfl)))
 refine bodyPost_ret (v := .agg (Im.cells u.g (.slice A1 u.g.qaa.length c1) u.r)) ?_ ?_ ?_
 · exact results_cell_row rfl _ _ _ _ (Im.cells u.g (.slice A1 u.g.qaa.length c1) u.r) (0, 0) _ rfl (N2.out.row _).is Tryz.underlying38 rfl (by rw [Im.qaf]; exact qax)
 · rfl
 · exact ⟨A1, c1, rfl, L2.out.qcM rfl N2.out _, Below.setRow' K2.out (Nat.le_refl _) _, NW.out⟩
theorem qlw (s : Fd.S) (e : En.E) (A A2 : Option Addr) (n c m c2 Bs Be : Nat) (w : World) (hty : Gm.ty s.g) (hn60 : n <= 60) (hn : n = s.g.qaa.length) (hr : Lies w w.heap.size 6 A n (Gm.qad s.g.qaa)) (hm : m = e.evs.length) (hm63 : m <= maxLen) (hE : Lies w w.heap.size 4 A2 m (En.qa2 e.evs)) (hin : ∀ i, i < 8 -> Gm.tyIn (e.inp i)) (hB : Box w Bs 38 (Im.cells s.g (.slice A n c) s.r)) (hBe : Box w Be 52 (En.cells e (.slice A2 m c2))) (h : Fd.apply s e = none) :
 Calls Tryz.prog 48 #[.pointer (some ⟨Bs, 0, none⟩), .pointer (some ⟨Be, 0, none⟩)] w (qe6 1 w) := by
 have K0 := qh (qac w (.cells Im.zero 38))
 have B1 := qh (hB.alloc (.cells Im.zero 38))
 have E1 := qh (hBe.alloc (.cells Im.zero 38))
 have cb := qh (qls s e A A2 n c m c2 _ hty hn60 hn (hr.call K0.out) hm hm63 ((hE.below K0.out).wider K0.out.size) hin h)
 clear hty hr hE hn hm hm63 hin h hB hBe
 go_enter Tryz.func48, Tryz.ntmps48
 go_wp2_with (first | (with_reducible refine qaz rfl rfl ?_) | ((with_reducible refine qak rfl rfl ?_); apply qaC.mk rfl; (focus (with_reducible exact B1.out)); dsimp only) | ((with_reducible refine qhb rfl rfl ?_); apply qcl.mk rfl; (focus (with_reducible exact E1.out)); dsimp only) | (go_at_call 49; ((with_reducible refine ((cb).out).mono ?_); rintro x w2 ⟨rfl, hb⟩; have K2 := qh (K0.out.trans (hb.mono K0.out.size)); clear hb)))
 exact ⟨rfl, rfl, K2.out⟩
theorem Lies.qlW {w : World} {n Bc : Nat} {A : Option Addr} {l : List Gm.Shot} {y : Int} (h : Lies w w.heap.size 6 A n (Gm.qad l)) (hn : n = l.length) (hC : Box w Bc 3 #[.int .i64 y]) (v : Value) : Lies (w.setCell ⟨Bc, 0, none⟩ v) (w.setCell ⟨Bc, 0, none⟩ v).heap.size 6 A n (Gm.qad l) := by
 refine ⟨h.len, fun hn0 => by obtain ⟨ad, e, hb⟩ := h.start hn0; exact ⟨ad, e, by rw [World.size_setCell]; exact hb⟩, fun ad e h0 j u hu => ?_⟩
 have hne : ad.block ≠ Bc := fun eb => by
  subst hn
  have hlt : 0 < l.length := by omega
  have hc := h.cell ad e h0
  have e1 := hc 1 (.int .i32 l[0].x) (by have := Gm.qbz l 0 1 hlt (by omega); simpa [Gm.Shot.cells] using this)
  rw [show ad.add 1 = ⟨ad.block, ad.off + 1, none⟩ from rfl, eb, hC.cell] at e1
  have := (Array.getElem?_eq_some_iff.1 e1).1
  simp at this
 rw [World.cell?_of_block (w := w) (by rw [add_block]; exact heap_setCell_other w ⟨Bc, 0, none⟩ _ v hne)]
 exact h.cell ad e h0 j u hu
theorem qe4 (g g' : Gm.G) (r r' : Ros.R) (A : Option Addr) (n c Bs Be : Nat) (w : World) (hcall : ∀ W, Below w.heap.size w W -> Calls Tryz.prog 48 #[.pointer (some ⟨Bs, 0, none⟩), .pointer (some ⟨Be, 0, none⟩)] W (qoT g' r' W)) :
 Calls Tryz.prog 47 #[.agg (Im.cells g (.slice A n c) r), .func (.func 48) #[] #[.pointer (some ⟨Bs, 0, none⟩), .pointer (some ⟨Be, 0, none⟩)]] w (qoS g' r' 0 w) := by
 have hmf : ∀ (fn : Fn) (first cap : Array Value) (w : World), (Instr.makeFunc fn first cap).run Tryz.prog w = .ok (.func fn first cap) w := fun _ _ _ _ => rfl
 have S1 := qh (((Box.made w 38 (Im.cells g (.slice A n c) r)).alloc (.cells Im.zero 38)).alloc (.cells #[.int .i64 0] 3))
 have N1 := qh ((Box.qaq (n := w.heap.size + 1) (w.alloc (.cells (Im.cells g (.slice A n c) r) 38)) 38 Im.zero (by simp)).alloc (.cells #[.int .i64 0] 3))
 have C1 := qh (Box.qaq (n := w.heap.size + 1 + 1) ((w.alloc (.cells (Im.cells g (.slice A n c) r) 38)).alloc (.cells Im.zero 38)) 3 #[.int .i64 0] (by simp))
 have K1 := qh ((qap w (.cells (Im.cells g (.slice A n c) r) 38) (.cells Im.zero 38)).alloc (by simp <;> omega) (.cells #[.int .i64 0] 3))
 have cl := qh (hcall _ K1.out)
 clear hcall
 go_enter_defers Tryz.func47, Tryz.ntmps47
 go_wp2_with (first | (with_reducible refine qaz rfl rfl ?_) | (go_at_call 48; ((with_reducible refine ((cl).out).mono ?_); rintro x w2 ⟨A1, c1, rfl, hL, hb, hN⟩; have NW := qh (hN.mono K1.out.size); have N2 := qh (N1.out.below hb N1.out.lt); have C2 := C1.out.below hb C1.out.lt; have C3 := qh (C2.qbn (show w.heap.size + 1 + 1 ≠ w.heap.size + 1 by omega) (Im.cells g' (.slice A1 g'.qaa.length c1) r')); have k3 := C3.out.cell 0; have f3 := C3.out.free 0; have K2 := qh (K1.out.trans (hb.mono K1.out.size)); have L2 := qh hL; clear hb hL C2)) | ((with_reducible refine qaI rfl rfl ?_); apply qcj.mk rfl rfl; (focus (with_reducible exact N2.out)); (focus (exact Im.qaO)); (focus rfl)))
 have ne : w.heap.size + 1 ≠ w.heap.size + 1 + 1 := by omega
 have N4 := (N2.out.row (Im.cells g' (.slice A1 g'.qaa.length c1) r')).far (p := ⟨w.heap.size + 1 + 1, 0, none⟩) ne (.int .i64 0)
 have C4 := C3.out.put 0 (.int .i64 0)
 have K4 := (Below.setRow' (g := w.heap.size + 1) K2.out (Nat.le_succ _) (Im.cells g' (.slice A1 g'.qaa.length c1) r')).setCell (p := ⟨w.heap.size + 1 + 1, 0, none⟩) (by show w.heap.size <= w.heap.size + 1 + 1; omega) (.int .i64 0)
 have L4 := (L2.out.qcM rfl N2.out (Im.cells g' (.slice A1 g'.qaa.length c1) r')).qlW rfl C3.out (.int .i64 0)
 refine leaves_cons (f := 87) (args := #[.pointer (some ⟨w.heap.size, 0, none⟩), .pointer (some ⟨w.heap.size + 1, 0, none⟩), .pointer (some ⟨w.heap.size + 1 + 1, 0, none⟩)]) (by simp) (by simp [go_sem]) ?_
 refine (qhi _ _ _ _).mono ?_
 rintro e u' w'' ⟨rfl, rfl, rfl⟩
 have hr := fun (tmps : Array Value) h1 h2 => qek (fn := Tryz.f47) (p := 4) (q := 5) rfl tmps _ (w.heap.size + 1) (w.heap.size + 1 + 1) 38 (Im.cells g' (.slice A1 g'.qaa.length c1) r') _ 0 h1 h2 N4 (by simpa using C4) Tryz.underlying38 rfl (by rw [Im.qaf]; exact qax)
 show Leaves Tryz.prog _ _ _ [] .returning _
 exact ⟨_, hr _ rfl rfl, A1, c1, rfl, L4, K4, NW.out⟩
theorem qe5 (g : Gm.G) (r : Ros.R) (A : Option Addr) (n c Bs Be : Nat) (w : World) (hn60 : n <= 60) (hn : n = g.qaa.length) (hr : Lies w w.heap.size 6 A n (Gm.qad g.qaa)) (hcall : ∀ W, Below w.heap.size w W -> Calls Tryz.prog 48 #[.pointer (some ⟨Bs, 0, none⟩), .pointer (some ⟨Be, 0, none⟩)] W (qe6 1 W)) :
 Calls Tryz.prog 47 #[.agg (Im.cells g (.slice A n c) r), .func (.func 48) #[] #[.pointer (some ⟨Bs, 0, none⟩), .pointer (some ⟨Be, 0, none⟩)]] w (SOut g r 1 w) := by
 have hmf : ∀ (fn : Fn) (first cap : Array Value) (w : World), (Instr.makeFunc fn first cap).run Tryz.prog w = .ok (.func fn first cap) w := fun _ _ _ _ => rfl
 have S1 := qh (((Box.made w 38 (Im.cells g (.slice A n c) r)).alloc (.cells Im.zero 38)).alloc (.cells #[.int .i64 0] 3))
 have N1 := qh ((Box.qaq (n := w.heap.size + 1) (w.alloc (.cells (Im.cells g (.slice A n c) r) 38)) 38 Im.zero (by simp)).alloc (.cells #[.int .i64 0] 3))
 have C1 := qh (Box.qaq (n := w.heap.size + 1 + 1) ((w.alloc (.cells (Im.cells g (.slice A n c) r) 38)).alloc (.cells Im.zero 38)) 3 #[.int .i64 0] (by simp))
 have K1 := qh ((qap w (.cells (Im.cells g (.slice A n c) r) 38) (.cells Im.zero 38)).alloc (by simp <;> omega) (.cells #[.int .i64 0] 3))
 have cl := qh (hcall _ K1.out)
 have HR := qh ((hr.below K1.out).wider K1.out.size)
 have HN := qh hn
 clear hcall hr hn
 go_enter_defers Tryz.func47, Tryz.ntmps47
 go_wp2_with (first | (with_reducible refine qaz rfl rfl ?_) | (go_at_call 48; ((with_reducible refine ((cl).out).mono ?_); rintro x w2 ⟨rfl, hb⟩; have S2 := qh (S1.out.below hb S1.out.lt); have N2 := qh (N1.out.below hb N1.out.lt); have C2 := qh (C1.out.below hb C1.out.lt); have K2 := qh (K1.out.trans (hb.mono K1.out.size)); have L2 := qh (HR.out.call hb); clear hb)))
 refine leaves_cons (f := 87) (args := #[.pointer (some ⟨w.heap.size, 0, none⟩), .pointer (some ⟨w.heap.size + 1, 0, none⟩), .pointer (some ⟨w.heap.size + 1 + 1, 0, none⟩)]) (by simp) (by simp [go_sem]) ?_
 refine (qlq g r A n c w.heap.size (w.heap.size + 1) (w.heap.size + 1 + 1) 1 0 [] w2 Im.zero Im.qaO hn60 HN.out L2.out S2.out N2.out C2.out).mono ?_
 rintro e u' w'' ⟨rfl, rfl, A1, c1, w3, rfl, hL, hb⟩
 have hn := HN.out
 subst hn
 have N3 := N2.out.below hb N2.out.lt
 have C3 := (C2.out.below hb C2.out.lt).qbn (show w.heap.size + 1 + 1 ≠ w.heap.size + 1 by omega) (Im.cells g (.slice A1 g.qaa.length c1) r)
 have ne : w.heap.size + 1 ≠ w.heap.size + 1 + 1 := by omega
 have N4 := (N3.row (Im.cells g (.slice A1 g.qaa.length c1) r)).far (p := ⟨w.heap.size + 1 + 1, 0, none⟩) ne (.int .i64 1)
 have C4 := C3.put 0 (.int .i64 1)
 have K3 := K2.out.trans (hb.mono K2.out.size)
 have K4 := (Below.setRow' (g := w.heap.size + 1) K3 (Nat.le_succ _) (Im.cells g (.slice A1 g.qaa.length c1) r)).setCell (p := ⟨w.heap.size + 1 + 1, 0, none⟩) (by show w.heap.size <= w.heap.size + 1 + 1; omega) (.int .i64 1)
 have L4 := (hL.qcM rfl N3 (Im.cells g (.slice A1 g.qaa.length c1) r)).qlW rfl C3 (.int .i64 1)
 have hr := fun (tmps : Array Value) h1 h2 => qek (fn := Tryz.f47) (p := 4) (q := 5) rfl tmps _ (w.heap.size + 1) (w.heap.size + 1 + 1) 38 (Im.cells g (.slice A1 g.qaa.length c1) r) _ 1 h1 h2 N4 (by simpa using C4) Tryz.underlying38 rfl (by rw [Im.qaf]; exact qax)
 show Leaves Tryz.prog _ _ _ [] .returning _
 exact ⟨_, hr _ rfl rfl, A1, c1, rfl, L4, K4⟩
theorem qeQ (u : Fd.S) (s : Fd.S) (e : En.E) (A A2 : Option Addr) (n c m c2 : Nat) (w : World) (hty : Gm.ty s.g) (hn60 : n <= 60) (hn : n = s.g.qaa.length) (hr : Lies w w.heap.size 6 A n (Gm.qad s.g.qaa)) (hm : m = e.evs.length) (hm63 : m <= maxLen) (hE : Lies w w.heap.size 4 A2 m (En.qa2 e.evs)) (hin : ∀ i, i < 8 -> Gm.tyIn (e.inp i)) (h : Fd.apply s e = some u) :
 Calls Tryz.prog 21 #[.agg (Im.cells s.g (.slice A n c) s.r), .agg (En.cells e (.slice A2 m c2))] w (qoS u.g u.r 0 w) := by
 have hmf : ∀ (fn : Fn) (first cap : Array Value) (w : World), (Instr.makeFunc fn first cap).run Tryz.prog w = .ok (.func fn first cap) w := fun _ _ _ _ => rfl
 have S1 := qh (((Box.made w 38 (Im.cells s.g (.slice A n c) s.r)).alloc (.cells (En.cells e (.slice A2 m c2)) 52)).alloc (.cells Im.zero 38))
 have E1 := qh ((Box.qaq (n := w.heap.size + 1) (w.alloc (.cells (Im.cells s.g (.slice A n c) s.r) 38)) 52 (En.cells e (.slice A2 m c2)) (by simp)).alloc (.cells Im.zero 38))
 have N1 := qh (Box.qaq (n := w.heap.size + 1 + 1) ((w.alloc (.cells (Im.cells s.g (.slice A n c) s.r) 38)).alloc (.cells (En.cells e (.slice A2 m c2)) 52)) 38 Im.zero (by simp))
 have K1 := qh ((qap w (.cells (Im.cells s.g (.slice A n c) s.r) 38) (.cells (En.cells e (.slice A2 m c2)) 52)).alloc (by simp <;> omega) (.cells Im.zero 38))
 have L1 := qh ((hr.below K1.out).wider K1.out.size)
 have EE := qh ((hE.below K1.out).wider K1.out.size)
 have ca := qh (qe4 s.g u.g s.r u.r A n c w.heap.size (w.heap.size + 1) _ (fun W hW => qlv u s e A A2 n c m c2 w.heap.size (w.heap.size + 1) W hty hn60 hn ((L1.out.below hW).wider hW.size) hm hm63 ((EE.out.below hW).wider hW.size) hin (S1.out.below hW S1.out.lt) (E1.out.below hW E1.out.lt) h))
 clear hty hr hE hn hm hm63 hin h
 go_enter Tryz.func21, Tryz.ntmps21
 go_wp2_with (first | (with_reducible refine qaz rfl rfl ?_) | ((with_reducible refine qak rfl rfl ?_); apply qaC.mk rfl; (focus (with_reducible exact S1.out)); dsimp only) | (go_at_call 47; ((with_reducible refine ((ca).out).mono ?_); rintro x w2 ⟨A1, c1, rfl, hL, hb, hN⟩; have NW := qh (hN.mono K1.out.size); have N2 := qh (N1.out.below hb N1.out.lt); have K2 := qh (K1.out.trans (hb.mono K1.out.size)); have L2 := qh hL; clear hb hL)) | ((with_reducible refine qaI rfl rfl ?_); apply qcj.mk rfl rfl; (focus (with_reducible exact N2.out)); (focus (exact Im.qaO)); (focus rfl)))
 refine bodyPost_ret (v := .tuple #[.agg (Im.cells u.g (.slice A1 u.g.qaa.length c1) u.r), .int .i64 0]) ?_ ?_ ?_
 · exact results_cell_tmp (p := 4) (q := 5) rfl _ _ _ _ (Im.cells u.g (.slice A1 u.g.qaa.length c1) u.r) _ rfl (Box.row N2.out _) Tryz.underlying38 rfl (by rw [Im.qaf]; exact qax)
 · rfl
 · exact ⟨A1, c1, rfl, L2.out.qcM rfl N2.out _, Below.setRow' K2.out (by omega) _, NW.out⟩
theorem qhw (u : Fd.S) (s : Fd.S) (e : En.E) (A A2 : Option Addr) (n c m c2 : Nat) (w : World) (hty : Gm.ty s.g) (hn60 : n <= 60) (hn : n = s.g.qaa.length) (hr : Lies w w.heap.size 6 A n (Gm.qad s.g.qaa)) (hm : m = e.evs.length) (hm63 : m <= maxLen) (hE : Lies w w.heap.size 4 A2 m (En.qa2 e.evs)) (hin : ∀ i, i < 8 -> Gm.tyIn (e.inp i)) (h : Fd.apply s e = some u) :
 Calls Tryz.prog 21 #[.agg (Im.cells s.g (.slice A n c) s.r), .agg (En.cells e (.slice A2 m c2))] w (SOut u.g u.r 0 w) :=
 (qeQ u s e A A2 n c m c2 w hty hn60 hn hr hm hm63 hE hin h).mono fun _ _ hh => hh.out
theorem qhx (s : Fd.S) (e : En.E) (A A2 : Option Addr) (n c m c2 : Nat) (w : World) (hty : Gm.ty s.g) (hn60 : n <= 60) (hn : n = s.g.qaa.length) (hr : Lies w w.heap.size 6 A n (Gm.qad s.g.qaa)) (hm : m = e.evs.length) (hm63 : m <= maxLen) (hE : Lies w w.heap.size 4 A2 m (En.qa2 e.evs)) (hin : ∀ i, i < 8 -> Gm.tyIn (e.inp i)) (h : Fd.apply s e = none) :
 Calls Tryz.prog 21 #[.agg (Im.cells s.g (.slice A n c) s.r), .agg (En.cells e (.slice A2 m c2))] w (SOut s.g s.r 1 w) := by
 have hmf : ∀ (fn : Fn) (first cap : Array Value) (w : World), (Instr.makeFunc fn first cap).run Tryz.prog w = .ok (.func fn first cap) w := fun _ _ _ _ => rfl
 have S1 := qh (((Box.made w 38 (Im.cells s.g (.slice A n c) s.r)).alloc (.cells (En.cells e (.slice A2 m c2)) 52)).alloc (.cells Im.zero 38))
 have E1 := qh ((Box.qaq (n := w.heap.size + 1) (w.alloc (.cells (Im.cells s.g (.slice A n c) s.r) 38)) 52 (En.cells e (.slice A2 m c2)) (by simp)).alloc (.cells Im.zero 38))
 have N1 := qh (Box.qaq (n := w.heap.size + 1 + 1) ((w.alloc (.cells (Im.cells s.g (.slice A n c) s.r) 38)).alloc (.cells (En.cells e (.slice A2 m c2)) 52)) 38 Im.zero (by simp))
 have K1 := qh ((qap w (.cells (Im.cells s.g (.slice A n c) s.r) 38) (.cells (En.cells e (.slice A2 m c2)) 52)).alloc (by simp <;> omega) (.cells Im.zero 38))
 have L1 := qh ((hr.below K1.out).wider K1.out.size)
 have EE := qh ((hE.below K1.out).wider K1.out.size)
 have ca := qh (qe5 s.g s.r A n c w.heap.size (w.heap.size + 1) _ hn60 hn L1.out (fun W hW => qlw s e A A2 n c m c2 w.heap.size (w.heap.size + 1) W hty hn60 hn ((L1.out.below hW).wider hW.size) hm hm63 ((EE.out.below hW).wider hW.size) hin (S1.out.below hW S1.out.lt) (E1.out.below hW E1.out.lt) h))
 clear hty hr hE hn hm hm63 hin h
 go_enter Tryz.func21, Tryz.ntmps21
 go_wp2_with (first | (with_reducible refine qaz rfl rfl ?_) | ((with_reducible refine qak rfl rfl ?_); apply qaC.mk rfl; (focus (with_reducible exact S1.out)); dsimp only) | (go_at_call 47; ((with_reducible refine ((ca).out).mono ?_); rintro x w2 ⟨A1, c1, rfl, hL, hb⟩; have N2 := qh (N1.out.below hb N1.out.lt); have K2 := qh (K1.out.trans (hb.mono K1.out.size)); have L2 := qh hL; clear hb hL)) | ((with_reducible refine qaI rfl rfl ?_); apply qcj.mk rfl rfl; (focus (with_reducible exact N2.out)); (focus (exact Im.qaO)); (focus rfl)))
 refine bodyPost_ret (v := .tuple #[.agg (Im.cells s.g (.slice A1 s.g.qaa.length c1) s.r), .int .i64 1]) ?_ ?_ ?_
 · exact results_cell_tmp (p := 4) (q := 5) rfl _ _ _ _ (Im.cells s.g (.slice A1 s.g.qaa.length c1) s.r) _ rfl (Box.row N2.out _) Tryz.underlying38 rfl (by rw [Im.qaf]; exact qax)
 · rfl
 · exact ⟨A1, c1, rfl, L2.out.qcM rfl N2.out _, Below.setRow' K2.out (by omega) _⟩
namespace Fd
theorem Fine.ty {s : S} (h : Fine s) : Gm.ty s.g := ⟨by have := h.ok.1.1; have := h.ok.1.2.1; unfold Gm.i64; omega, h.dice, fun i hi => (h.ok.1.2.2.2.1 i hi).ty, fun i hi => (h.ok.1.2.2.2.2 i hi).ty⟩
theorem Fine.few {s : S} (h : Fine s) : s.g.qaa.length <= 60 := by have := h.ok.1.2.2.1; omega
end Fd
structure Rn (w : World) (Bn : Nat) (g : Gm.G) (s : Value) (r : Ros.R) (W : World) : Prop where
 nx : Box W Bn 38 (Im.cells g s r)
 out : Box W w.heap.size 38 Im.zero
 far : w.heap.size < Bn
 below : Below w.heap.size w W
section
variable {w W W' : World} {Bn : Nat} {g : Gm.G} {s : Value} {r : Ros.R}
end
theorem qb8 {ops : Array Oper} {Q : Exit -> Act -> World -> Prop} {o : Oper} {rest : List Oper} {a : Act} {x y : Operand} {v : World} {old : Array Value} {g : Gm.G} {s : Value} {r : Ros.R} (hgd : o.guard = none) (ho : o.op = .store 38 x y) (hx : a.eval x = .pointer (some ⟨v.heap.size, 0, none⟩)) (hy : a.eval y = .agg (Im.cells g s r))
 (hold : old.size = 76) (hs : s.oneCell' = true) (h : wpList Tryz.prog ops Q rest (a.put o.dst undef) (v.alloc (.cells (Im.cells g s r) 38))) : wpList Tryz.prog ops Q (o :: rest) a (v.alloc (.cells old 38)) :=
 qbv hgd ho hx hy rfl rfl (by rw [Im.qaf]; exact qax) (by rw [Im.qaf]; exact hold) (qoq _ _ _ hs) h
end Go.Proofs.YtmiopphcfdlneaaGreat
namespace Go.Proofs.YtmiopphcfdlneaaGreat.Co
open Go Go.RowKit
noncomputable def st (r : Ros.R) (q : Nat -> Qu.M) (s : Fd.S) (k : Nat) : Fd.S := (goN r q k (s, [])).1
noncomputable def row (r : Ros.R) (q : Nat -> Qu.M) (s : Fd.S) (n : Nat) : List Fd.S := (List.range (n + 1)).map (st r q s)
structure Way (r : Ros.R) (q : Nat -> Qu.M) (s : Fd.S) (n : Nat) : Prop where
 fine : Fd.Fine s
 ros : s.r = r
 q : ∀ k, k < 8 -> qdv (q k) s.g.frame
 top : s.g.frame + n <= 1048576
section
variable {r : Ros.R} {q : Nat -> Qu.M} {s : Fd.S} {n : Nat}
theorem Way.less (h : Way r q s n) {k : Nat} (hk : k <= n) : Way r q s k := ⟨h.fine, h.ros, h.q, by have := h.top; omega⟩
theorem Way.st (h : Way r q s n) (k : Nat) (hk : k <= n) : Fd.Fine (st r q s k) /\ (Co.st r q s k).r = r /\ (Co.st r q s k).g.frame = s.g.frame + k := by
 obtain ⟨t, l, e, h1, h2, h3, _⟩ := qfu h.q k s [] h.fine h.ros (by have := h.top; omega)
 unfold Co.st
 rw [e]
 exact ⟨h1, h2, h3⟩
theorem Way.next (h : Way r q s n) (k : Nat) (hk : k < n) : on1 r q (Co.st r q s k) = some (Co.st r q s (k + 1)) := by
 obtain ⟨h1, h2, h3⟩ := h.st k (by omega)
 have hn := qfq h1 h2 h.q (by have := h.top; omega)
 rw [hn]
 have hadd := qk9 r q k 1 (s, []) (fun _ _ _ => .inr trivial) _ rfl fun c hc => by
  obtain ⟨g1, g2, g3⟩ := h.st c (by omega)
  exact ⟨_, qfq g1 g2 h.q (show (Co.st r q s c).g.frame < 1048576 by have := h.top; omega)⟩
 have e : goN r q 1 (goN r q k (s, [])) = match on1 r q (goN r q k (s, [])).1 with | some t => (t, (goN r q k (s, [])).2 ++ [vec r q (goN r q k (s, [])).1.g.frame]) | none => goN r q k (s, []) := by
  rfl
 have hn' : on1 r q (goN r q k (s, [])).1 = some ⟨Gm.step (vec r q (Co.st r q s k).g.frame) (Co.st r q s k).g, (Co.st r q s k).r⟩ := hn
 rw [hn'] at e
 show some _ = some (goN r q (k + 1) (s, [])).1
 rw [hadd, e]
theorem Way.apply (h : Way r q s n) (k : Nat) (hk : k < n) : Fd.apply (Co.st r q s k) ⟨s.g.frame + k, [], vec r q (s.g.frame + k)⟩ = some (Co.st r q s (k + 1)) := by
 have := h.next k hk
 unfold on1 at this
 rwa [(h.st k (by omega)).2.2] at this
theorem qfi (r : Ros.R) (q : Nat -> Qu.M) (s : Fd.S) (n : Nat) : (row r q s n).length = n + 1 := by unfold row; rw [List.length_map, List.length_range]
theorem qnR (r : Ros.R) (q : Nat -> Qu.M) (s : Fd.S) (n i : Nat) (hi : i <= n) : (row r q s n)[i]? = some (Co.st r q s i) := by
 unfold row
 rw [List.getElem?_map, List.getElem?_range (by omega)]; rfl
theorem qpd (r : Ros.R) (q : Nat -> Qu.M) (s : Fd.S) (n : Nat) : row r q s (n + 1) = row r q s n ++ [Co.st r q s (n + 1)] := by
 unfold row
 rw [List.range_succ (n := n + 1), List.map_append]; rfl
theorem qdp (r : Ros.R) (q : Nat -> Qu.M) (s : Fd.S) (n : Nat) : Rg.first (row r q s n) = s.g.frame := by
 unfold row
 rw [List.range_succ_eq_map]; rfl
theorem qin (r : Ros.R) (q : Nat -> Qu.M) (s : Fd.S) (n : Nat) : Rg.last (row r q s n) = s.g.frame + n := by
 unfold Rg.last
 rw [qdp, qfi]; push_cast; omega
theorem Way.ok (h : Way r q s n) (h8 : n <= 8) : Rg.Ok (row r q s n) := by
 refine ⟨fun e => ?_, by rw [qfi]; omega, fun t ht => ?_, fun i t ht => ?_⟩
 · have := congrArg List.length e
   rw [qfi] at this
   simp at this
 · obtain ⟨i, hi⟩ := List.getElem?_of_mem ht
   have hlt := (List.getElem?_eq_some_iff.1 hi).1
   rw [qfi] at hlt
   rw [qnR r q s n i (by omega)] at hi
   injection hi with hi
   subst hi
   exact ⟨(h.st i (by omega)).1.ok, (h.st i (by omega)).1.ty⟩
 · have hlt := (List.getElem?_eq_some_iff.1 ht).1
   rw [qfi] at hlt
   rw [qnR r q s n i (by omega)] at ht
   injection ht with ht
   subst ht
   rw [qdp]
   exact (h.st i (by omega)).2.2
theorem qnP (r : Ros.R) (q : Nat -> Qu.M) (s : Fd.S) (n i : Nat) (hi : i <= n) : Rg.hasB (row r q s n) (s.g.frame + i) = true := by
 rw [Rg.qjU, qdp, qin]; omega
theorem qf5 (r : Ros.R) (q : Nat -> Qu.M) (s : Fd.S) (n i : Nat) (hi : i <= n) : Rg.at_ (row r q s n) (s.g.frame + i) = some (Co.st r q s i) := by
 unfold Rg.at_
 rw [if_pos (qnP r q s n i hi), qdp, show (s.g.frame + (i : Int) - s.g.frame).toNat = i by omega, qnR r q s n i hi]
theorem qip (r : Ros.R) (q : Nat -> Qu.M) (s : Fd.S) (n i : Nat) (hi : i <= n) : Rg.cut (row r q s n) (s.g.frame + i) = row r q s i := by
 unfold Rg.cut
 rw [if_pos (qnP r q s n i hi), qdp, show (s.g.frame + (i : Int) - s.g.frame).toNat = i by omega]
 unfold row
 rw [<- List.map_take]
 congr 1
 exact List.ext_getElem? fun j => by
  rw [List.getElem?_take]
  by_cases hj : j < i + 1
  · rw [if_pos hj, List.getElem?_range (by omega), List.getElem?_range hj]
  · rw [if_neg hj, List.getElem?_eq_none (by rw [List.length_range]; omega)]
theorem Way.push (h : Way r q s n) (k : Nat) (hk : k < n) (h8 : n <= 8) : Rg.pushB (row r q s k) (Co.st r q s (k + 1)) = true /\ Rg.push (row r q s k) (Co.st r q s (k + 1)) = row r q s (k + 1) := by
 have hb : Rg.pushB (row r q s k) (Co.st r q s (k + 1)) = true := Rg.qgJ (h.st (k + 1) (by omega)).1.ok (by rw [qin, (h.st (k + 1) (by omega)).2.2]; push_cast; omega) (by rw [qfi]; omega)
 exact ⟨hb, by rw [Rg.qix hb, qpd]⟩
theorem qnQ {q' : Nat -> Qu.M} (hs : Fd.Fine s) (n : Nat) (h : ∀ j : Int, s.g.frame <= j -> j < s.g.frame + n -> vec r q j = vec r q' j) : row r q s n = row r q' s n := by
 unfold row
 refine List.map_congr_left fun k hk => ?_
 have hk := List.mem_range.1 hk
 unfold Co.st
 rw [qg2 k s [] hs fun j h1 h2 => h j h1 (by omega)]
end
noncomputable def sts (m : M) : List Fd.S := row m.conf.r m.q m.conf (m.shown.g.frame - m.conf.g.frame).toNat
theorem Ok.way {m : M} (h : Ok m) : Way m.conf.r m.q m.conf (m.shown.g.frame - m.conf.g.frame).toNat :=
 ⟨h.conf, rfl, h.q, by have := h.low; have := h.shown.ok.1.2.1; omega⟩
theorem Ok.rows {m : M} (h : Ok m) : Rg.Ok (sts m) := h.way.ok (by have := h.low; omega)
theorem qgo (m : M) : Rg.first (sts m) = m.conf.g.frame := qdp _ _ _ _
theorem Ok.last {m : M} (h : Ok m) : Rg.last (sts m) = m.shown.g.frame := by unfold sts; rw [qin]; have := h.low; omega
theorem qc9 (m : M) : Rg.at_ (sts m) (Rg.first (sts m)) = some m.conf := by
 rw [qgo]
 have := qf5 m.conf.r m.q m.conf (m.shown.g.frame - m.conf.g.frame).toNat 0 (Nat.zero_le _)
 rw [show m.conf.g.frame + ((0 : Nat) : Int) = m.conf.g.frame by omega] at this
 exact this
theorem Ok.qnr {m : M} (h : Ok m) : Rg.at_ (sts m) (Rg.last (sts m)) = some m.shown := by
 rw [h.last]
 have := qf5 m.conf.r m.q m.conf (m.shown.g.frame - m.conf.g.frame).toNat _ (Nat.le_refl _)
 rw [show m.conf.g.frame + (((m.shown.g.frame - m.conf.g.frame).toNat : Nat) : Int) = m.shown.g.frame by have := h.low; omega] at this
 rw [sts, this]
 unfold Co.st
 rw [h.is]
theorem qpT {m : M} {fr : Int} (hc : Fd.Fine m.conf) (hq : ∀ k, k < 8 -> qdv (m.q k) m.conf.g.frame) (h1 : m.conf.g.frame <= fr) (h2 : fr <= m.conf.g.frame + 8) (h3 : fr <= 1048576) : sts (anew m fr) = row m.conf.r m.q m.conf (fr - m.conf.g.frame).toNat /\ Way m.conf.r m.q m.conf (fr - m.conf.g.frame).toNat := by
 obtain ⟨_, h4, h5, h6⟩ := qdX hc hq fr h1 h2 h3
 unfold sts
 rw [h4, h5, h6]
 exact ⟨rfl, hc, rfl, hq, by omega⟩
end Go.Proofs.YtmiopphcfdlneaaGreat.Co
namespace Go.Proofs.YtmiopphcfdlneaaGreat
open Go Go.RowKit
theorem qhg (p g : Int) (X : World) :
 Calls Tryz.prog 85 #[.agg #[.int .i64 p, .int .i64 g]] X fun e X' => e = .returned (.bool (decide (0 <= p))) /\ Below X.heap.size X X' := by
 go_enter Tryz.func85, Tryz.ntmps85
 go_wp2
 go_ret
 exact ⟨qal (by simp), qac _ _⟩
theorem qdw : (Tryz.prog.info? 34).map (·.size) = some 16 := by kernel_rfl
theorem qhK : (Tryz.prog.info? 36).map (·.size) = some 17 := by kernel_rfl
theorem qoK (g : Gm.G) (s : Value) (r : Ros.R) : (Im.cells g s r).extract 59 76 = Ros.cells r := by
 have hl : (Gm.cells g s).toList.length = 59 := by rw [Array.length_toList]; rfl
 apply Array.toList_inj.1
 rw [Array.toList_extract]
 unfold Im.cells
 rw [Array.toList_append, List.extract_eq_take_drop, List.drop_append, hl, List.drop_eq_nil_of_le (by omega), List.nil_append]
 rfl
theorem qg6 (g : Gm.G) (s : Value) (r : Ros.R) (W : World) : (Instr.field 38 (.agg (Im.cells g s r)) 1).run Tryz.prog W = .ok (.agg (Ros.cells r)) W := by
 have h := qoK g s r
 cases hq : Tryz.prog.info? 36 with
 | none => have := qhK; simp [hq] at this
 | some j =>
  have hs : j.size = 17 := by have := qhK; simpa [hq] using this
  simp [Instr.field, asAgg, part, isAgg, sizeOf, typeInfo, hq, hs, run_underlying (Tryz.underlying38) W, run_underlying (Tryz.underlying36) W, h]
theorem qet (r : Ros.R) (W : World) : (Instr.field 36 (.agg (Ros.cells r)) 1).run Tryz.prog W = .ok (.agg (Ros.qaP r).toArray) W := by
 have h : (Ros.cells r).extract 1 17 = (Ros.qaP r).toArray := rfl
 cases hq : Tryz.prog.info? 34 with
 | none => have := qdw; simp [hq] at this
 | some j =>
  have hs : j.size = 16 := by have := qdw; simpa [hq] using this
  simp [Instr.field, asAgg, part, isAgg, sizeOf, typeInfo, hq, hs, run_underlying (Tryz.underlying36) W, run_underlying (Tryz.underlying34) W, h]
section
variable {RP : qcJ} {QP : QuP} (CR : qdM RP) (CQ : qcq QP) {b B : Nat} {F : Nat -> Prop} {m : Ck.K} {X : World}
include CR CQ
def hasB (r : Ros.R) (slot gen : Int) : Bool := decide (0 <= slot /\ slot < 8 /\ 0 <= r.peer slot.toNat /\ r.gen slot.toNat = gen)
theorem qj9 (ho : Rg.Ok m.M) (s : Fd.S) (hs : Rg.at_ m.M (Rg.first m.M) = some s) (slot gen : Int) (h : qaS RP QP b F B m X) :
 Calls Tryz.prog 57 #[.pointer (some ⟨B, 0, none⟩), .int .i64 slot, .int .i64 gen] X fun e X' => e = .returned (.bool (hasB s.r slot gen)) /\ Below X.heap.size X X' := by
 have cc := qh (qdu CR CQ ho s hs h)
 clear h ho hs
 by_cases h1 : slot < 0
 · have hb : hasB s.r slot gen = false := decide_eq_false (by omega)
   rw [hb]
   go_enter Tryz.func57, Tryz.ntmps57
   go_wp2_with fail
   go_ret
   exact ⟨rfl, Below.refl _ _⟩
 by_cases h2 : 8 <= slot
 · have hb : hasB s.r slot gen = false := decide_eq_false (by omega)
   rw [hb]
   go_enter Tryz.func57, Tryz.ntmps57
   go_wp2_with fail
   go_ret
   exact ⟨rfl, Below.refl _ _⟩
 obtain ⟨k, rfl⟩ : ∃ k : Nat, slot = k := ⟨slot.toNat, by omega⟩
 have hk : k < 8 := by omega
 have h2' : (k : Int) < 8 := by omega
 obtain ⟨pk, hpk⟩ : ∃ p, p = s.r.peer k := ⟨_, rfl⟩
 obtain ⟨gk, hgk⟩ : ∃ p, p = s.r.gen k := ⟨_, rfl⟩
 have hb : hasB s.r k gen = (decide (0 <= pk) && (gk == gen)) := by
  unfold hasB
  rw [Int.toNat_natCast, <- hpk, <- hgk, Bool.eq_iff_iff]
  simp
  intro _ _
  omega
 have HB := qh hb
 have xf := fun (A : Option Addr) (c : Nat) (W : World) => show (Instr.field 38 (.agg (Rg.St.arr ⟨s.g, s.r, A, c⟩)) 1).run Tryz.prog W = .ok (.agg (Ros.cells s.r)) W from qg6 s.g (.slice A s.g.qaa.length c) s.r W
 have xs := qet s.r
 have xi := qd2 s.r k hk
 rw [<- hpk, <- hgk] at xi
 have ct := fun W => qh (qhg pk gk W)
 rw [HB.out]
 clear hpk hgk HB hb hk
 by_cases h0 : 0 <= pk
 · have hd : decide (0 <= pk) = true := decide_eq_true h0
   rw [hd] at ct ⊢
   clear hd h0
   go_enter Tryz.func57, Tryz.ntmps57
   go_wp2_with (first
    | (go_at_call 18; ((with_reducible refine ((cc).out).mono ?_); rintro e w1 ⟨A, c, rfl, hsh, hb1⟩; have K1 := qh hb1; have xg := xf A c; clear hsh hb1))
    | (go_at_call 85; ((with_reducible refine ((ct _).out).mono ?_); rintro e w2 ⟨rfl, hb2⟩; have g2 : w2.cell? ⟨w1.heap.size, 1, none⟩ = some (.int .i64 gk) := ((Box.made w1 33 #[.int .i64 pk, .int .i64 gk]).below hb2 (by simp)).cell 1; have K2 := qh ((K1.out.trans ((qac w1 _).mono K1.out.size)).trans (hb2.mono (Nat.le_trans K1.out.size (qac w1 _).size))); clear hb2)))
   go_ret
   exact ⟨rfl, K2.out⟩
 · have hd : decide (0 <= pk) = false := decide_eq_false h0
   rw [hd] at ct ⊢
   clear hd h0
   go_enter Tryz.func57, Tryz.ntmps57
   go_wp2_with (first
    | (go_at_call 18; ((with_reducible refine ((cc).out).mono ?_); rintro e w1 ⟨A, c, rfl, hsh, hb1⟩; have K1 := qh hb1; have xg := xf A c; clear hsh hb1))
    | (go_at_call 85; ((with_reducible refine ((ct _).out).mono ?_); rintro e w2 ⟨rfl, hb2⟩; have g2 : w2.cell? ⟨w1.heap.size, 1, none⟩ = some (.int .i64 gk) := ((Box.made w1 33 #[.int .i64 pk, .int .i64 gk]).below hb2 (by simp)).cell 1; have K2 := qh ((K1.out.trans ((qac w1 _).mono K1.out.size)).trans (hb2.mono (Nat.le_trans K1.out.size (qac w1 _).size))); clear hb2)))
   go_ret
   exact ⟨rfl, K2.out⟩
end
theorem qiT : (Tryz.prog.info? 34).map (·.zero) = some (some (.agg (Ros.qaP Im.R0).toArray)) := by kernel_rfl
theorem qhh : (Tryz.prog.info? 49).map (·.zero) = some (some (.agg (Gm.qai fun _ => Co.in0).toArray)) := by kernel_rfl
theorem qdG : (Tryz.prog.info? 49).map (·.size) = some 24 := by kernel_rfl
theorem qh2 (f : Nat -> Gm.In) : (Gm.qai f).toArray.all (·.oneCell') = true := by
 simp [Gm.qai, Gm.In.cells, Value.oneCell']
theorem qkb (r : Ros.R) : (Ros.qaP r).toArray.all (·.oneCell') = true := by
 simp [Ros.qaP, Ros.pair, Value.oneCell']
section
variable {ops : Array Oper} {Q : Exit -> Act -> World -> Prop} {rest : List Oper} {o : Oper} {a : Act} {w : World}
theorem qhy (hgd : o.guard = none) (ho : o.op = .alloc 34)
 (h : wpList Tryz.prog ops Q rest (a.put o.dst (.pointer (some ⟨w.heap.size, 0, none⟩))) (w.alloc (.cells (Ros.qaP Im.R0).toArray 34))) : wpList Tryz.prog ops Q (o :: rest) a w :=
 qbB hgd ho qiT rfl h
theorem qfQ (hgd : o.guard = none) (ho : o.op = .alloc 49)
 (h : wpList Tryz.prog ops Q rest (a.put o.dst (.pointer (some ⟨w.heap.size, 0, none⟩))) (w.alloc (.cells (Gm.qai fun _ => Co.in0).toArray 49))) : wpList Tryz.prog ops Q (o :: rest) a w :=
 qbB hgd ho qhh rfl h
theorem qe0 {x y : Operand} {v : World} {old : Array Value} {r : Ros.R} (hgd : o.guard = none) (ho : o.op = .store 34 x y) (hx : a.eval x = .pointer (some ⟨v.heap.size, 0, none⟩)) (hy : a.eval y = .agg (Ros.qaP r).toArray)
 (hold : old.size = 16) (h : wpList Tryz.prog ops Q rest (a.put o.dst undef) (v.alloc (.cells (Ros.qaP r).toArray 34))) : wpList Tryz.prog ops Q (o :: rest) a (v.alloc (.cells old 34)) :=
 qbv hgd ho hx hy rfl rfl qdw hold (qkb r) h
def qi0 (ops : Array Oper) (Q : Exit -> Act -> World -> Prop) (rest : List Oper) (dst : Option Tmp) (p : Value) (a : Act) (w : World) : Prop :=
 ∃ (B : Nat) (ps : Nat -> Gm.In), p = .pointer (some ⟨B, 0, none⟩) /\ Box w B 49 (Gm.qai ps).toArray /\ wpList Tryz.prog ops Q rest (a.put dst (.agg (Gm.qai ps).toArray)) w
theorem qi0.mk {dst : Option Tmp} {p : Value} {B : Nat} {ps : Nat -> Gm.In} (hp : p = .pointer (some ⟨B, 0, none⟩)) (hB : Box w B 49 (Gm.qai ps).toArray) (h : wpList Tryz.prog ops Q rest (a.put dst (.agg (Gm.qai ps).toArray)) w) : qi0 ops Q rest dst p a w := ⟨B, ps, hp, hB, h⟩
theorem qlj {x : Operand} (hgd : o.guard = none) (ho : o.op = .load 49 x) (h : qi0 ops Q rest o.dst (a.eval x) a w) : wpList Tryz.prog ops Q (o :: rest) a w := by
 obtain ⟨B, ps, hx, hB, h⟩ := h
 exact qbO hgd ho hx hB Tryz.underlying49 rfl qdG h
def qfd (ops : Array Oper) (Q : Exit -> Act -> World -> Prop) (rest : List Oper) (dst : Option Tmp) (p : Value) (a : Act) (w : World) : Prop :=
 ∃ (B : Nat) (r : Ros.R), p = .pointer (some ⟨B, 0, none⟩) /\ Box w B 34 (Ros.qaP r).toArray /\ wpList Tryz.prog ops Q rest (a.put dst (.agg (Ros.qaP r).toArray)) w
theorem qfd.mk {dst : Option Tmp} {p : Value} {B : Nat} {r : Ros.R} (hp : p = .pointer (some ⟨B, 0, none⟩)) (hB : Box w B 34 (Ros.qaP r).toArray) (h : wpList Tryz.prog ops Q rest (a.put dst (.agg (Ros.qaP r).toArray)) w) : qfd ops Q rest dst p a w := ⟨B, r, hp, hB, h⟩
theorem qiU {x : Operand} (hgd : o.guard = none) (ho : o.op = .load 34 x) (h : qfd ops Q rest o.dst (a.eval x) a w) : wpList Tryz.prog ops Q (o :: rest) a w := by
 obtain ⟨B, ps, hx, hB, h⟩ := h
 exact qbO hgd ho hx hB Tryz.underlying34 rfl qdw h
def qgi (ops : Array Oper) (Q : Exit -> Act -> World -> Prop) (rest : List Oper) (dst : Option Tmp) (p v : Value) (a : Act) (w : World) : Prop :=
 ∃ (B : Nat) (ps qs : Nat -> Gm.In), p = .pointer (some ⟨B, 0, none⟩) /\ v = .agg (Gm.qai qs).toArray /\ Box w B 49 (Gm.qai ps).toArray /\ wpList Tryz.prog ops Q rest (a.put dst undef) (w.setRow B (Gm.qai qs).toArray)
theorem qgi.mk {dst : Option Tmp} {p v : Value} {B : Nat} {ps qs : Nat -> Gm.In} (hp : p = .pointer (some ⟨B, 0, none⟩)) (hv : v = .agg (Gm.qai qs).toArray) (hB : Box w B 49 (Gm.qai ps).toArray) (h : wpList Tryz.prog ops Q rest (a.put dst undef) (w.setRow B (Gm.qai qs).toArray)) : qgi ops Q rest dst p v a w := ⟨B, ps, qs, hp, hv, hB, h⟩
theorem qka {x y : Operand} (hgd : o.guard = none) (ho : o.op = .store 49 x y) (h : qgi ops Q rest o.dst (a.eval x) (a.eval y) a w) : wpList Tryz.prog ops Q (o :: rest) a w := by
 obtain ⟨B, ps, qs, hx, hy, hB, h⟩ := h
 exact qbw hgd ho hx hy hB qdG rfl (qh2 qs) h
end
theorem qoH (f g : Nat -> Gm.In) (k : Nat) (hk : k < 8) (p : Gm.In) (he : ∀ j, j < 8 -> g j = if j = k then p else f j) : (((Gm.qai f).toArray.setIfInBounds (k * 3) (.int .i8 p.x)).setIfInBounds (k * 3 + 1) (.int .i8 p.y)).setIfInBounds (k * 3 + 2) (.int .u8 p.b) = (Gm.qai g).toArray := by
 have e0 := he 0 (by omega)
 have e1 := he 1 (by omega)
 have e2 := he 2 (by omega)
 have e3 := he 3 (by omega)
 have e4 := he 4 (by omega)
 have e5 := he 5 (by omega)
 have e6 := he 6 (by omega)
 have e7 := he 7 (by omega)
 unfold Gm.qai
 rw [e0, e1, e2, e3, e4, e5, e6, e7]
 match k, hk with
 | 0, _ | 1, _ | 2, _ | 3, _ | 4, _ | 5, _ | 6, _ | 7, _ => rfl
theorem qli (fn : Fn) (first cap : Array Value) (w : World) : (Instr.makeFunc fn first cap).run Tryz.prog w = .ok (.func fn first cap) w := rfl
def qqU (r : Ros.R) (B S P : Nat) (X : World) : Prop := Box X S 34 (Ros.qaP r).toArray /\ Box X P 41 #[.pointer (some ⟨B, 0, none⟩)] /\ S ≠ P
def vecV (S P : Nat) : Value := .func (.func 84) #[] #[.pointer (some ⟨S, 0, none⟩), .pointer (some ⟨P, 0, none⟩)]
section
variable {RP : qcJ} {QP : QuP} (CR : qdM RP) (CQ : qcq QP) {b B : Nat} {F : Nat -> Prop} {m : Ck.K} {X : World}
include CR CQ
theorem qeZ (ho : Rg.Ok m.M) (s : Fd.S) (hs : Rg.at_ m.M (Rg.first m.M) = some s) (h : qaS RP QP b F B m X) :
 Calls Tryz.prog 45 #[.pointer (some ⟨B, 0, none⟩)] X fun e X' => ∃ S P, e = .returned (vecV S P) /\ qqU s.r B S P X' /\ X.heap.size <= S /\ X.heap.size <= P /\ Below X.heap.size X X' := by
 obtain ⟨X1, hX1⟩ : ∃ X1, X1 = X.alloc (.cells #[.pointer (some ⟨B, 0, none⟩)] 41) := ⟨_, rfl⟩
 have hb1 : Below X.heap.size X X1 := by rw [hX1]; exact qac X _
 have B1 := qh (show Box X1 X.heap.size 41 #[.pointer (some ⟨B, 0, none⟩)] by rw [hX1]; exact Box.made _ _ _)
 have cc := qh (qdu CR CQ ho s hs (h.kept CR CQ hb1))
 have k1 : X1.cell? ⟨X.heap.size, 0, none⟩ = some (.pointer (some ⟨B, 0, none⟩)) := B1.out.cell 0
 have K1 := qh hb1
 have HX := qh hX1
 have hmf := qli
 have xf := fun (A : Option Addr) (c : Nat) (W : World) => show (Instr.field 38 (.agg (Rg.St.arr ⟨s.g, s.r, A, c⟩)) 1).run Tryz.prog W = .ok (.agg (Ros.cells s.r)) W from qg6 s.g (.slice A s.g.qaa.length c) s.r W
 have xs := qet s.r
 clear hX1 hb1 h hs ho
 go_enter Tryz.func45, Tryz.ntmps45
 go_upto_region 1 with fail
 rw [<- HX.out]
 go_wp2_with (first
  | (go_at_call 18; ((with_reducible refine ((cc).out).mono ?_); rintro e w1 ⟨A, c, rfl, hsh, hb2⟩; have K2 := qh hb2; have xg := xf A c; clear hsh hb2))
  | (with_reducible refine qhy rfl rfl ?_)
  | (with_reducible refine qe0 rfl rfl rfl rfl rfl ?_))
 go_ret
 have hz := K2.out.size
 have hz1 : X1.heap.size = X.heap.size + 1 := by rw [HX.out]; simp
 refine ⟨w1.heap.size, X.heap.size, rfl, ⟨Box.made _ _ _, (B1.out.below K2.out B1.out.lt).alloc _, by omega⟩, by omega, Nat.le_refl _, ?_⟩
 exact (K1.out.trans (K2.out.mono K1.out.size)).trans ((qac w1 _).mono (Nat.le_trans K1.out.size K2.out.size))
theorem qj7 (r : Ros.R) (S P : Nat) (f : Int) (hf : 0 <= f /\ f <= 1099511627776) (hq : ∀ k, k < 8 -> (m.q k).Ok) (h : qaS RP QP b F B m X) (hv : qqU r B S P X) :
 Calls Tryz.prog 84 #[.int .i64 f, .pointer (some ⟨S, 0, none⟩), .pointer (some ⟨P, 0, none⟩)] X fun e X' => e = .returned (.agg (Gm.qai (Co.vec r m.q f)).toArray) /\ Below X.heap.size X X' := by
 obtain ⟨hS, hP, _⟩ := hv
 obtain ⟨X1, hX1⟩ : ∃ X1, X1 = X.alloc (.cells (Gm.qai fun _ => Co.in0).toArray 49) := ⟨_, rfl⟩
 obtain ⟨X2, hX2⟩ : ∃ X2, X2 = X1.alloc (.cells (Gm.qai fun _ => Co.in0).toArray 49) := ⟨_, rfl⟩
 have hb1 : Below X.heap.size X X1 := by rw [hX1]; exact qac X _
 have hz1 : X1.heap.size = X.heap.size + 1 := by rw [hX1]; simp
 have hb2 : Below X.heap.size X X2 := by rw [hX2]; exact hb1.trans ((qac X1 _).mono hb1.size)
 have R2 := qh (show Box X2 X.heap.size 49 (Gm.qai fun _ => Co.in0).toArray by rw [hX2]; exact (show Box X1 _ _ _ by rw [hX1]; exact Box.made _ _ _).alloc _)
 have D2 := qh (show Box X2 (X.heap.size + 1) 49 (Gm.qai fun _ => Co.in0).toArray by rw [hX2, <- hz1]; exact Box.made _ _ _)
 have K2 := qh hb2
 have HC := qh h
 have HS := qh hS
 have HP := qh hP
 have HQ := qh hq
 have hSl := hS.lt
 have hPl := hP.lt
 have hBl := h.box.lt
 have H1 := qh hX1
 have H2 := qh hX2
 have s8 : X2.cell? ⟨S, 0, none⟩ = some (.int .i64 (r.peer 0)) := (hS.below hb2 hS.lt).cell 0
 have LS := qh (hS.below hb2 hS.lt)
 have LZ := qh hz1
 clear hX1 hX2 hb1 hb2 h hS hP hq s8 hz1
 go_enter Tryz.func84, Tryz.ntmps84
 go_upto_region 1 with (with_reducible refine qfQ rfl rfl ?_)
 rw [<- H1.out]
 go_upto_region 2 with (with_reducible refine qfQ rfl rfl ?_)
 rw [<- H2.out]
 rw [LZ.out]
 go_wp2_with ((with_reducible refine qiU rfl rfl ?_); apply qfd.mk rfl; (focus (with_reducible exact LS.out)))
 clear LS
 go_loopw [9] (fun i wr => ∃ k : Nat, k <= 8 /\ i = .int .i64 k /\ Box wr X.heap.size 49 (Gm.qai fun _ => Co.in0).toArray /\ Box wr (X.heap.size + 1) 49 (Gm.qai fun j => if j < k then Co.vec r m.q f j else Co.in0).toArray /\ Below X.heap.size X wr) (fun i _ => 8 - (intOf i).toNat)
 case atStart => exact ⟨0, Nat.zero_le _, rfl, R2.out, D2.out, K2.out⟩
 case round =>
  obtain ⟨k, hk, rfl, hR, hD, hW⟩ := hrel
  have RR := qh hR
  have DD := qh hD
  have KW := qh hW
  clear hR hD hW R2 D2
  by_cases hlt : k < 8
  · have hk8 : (k : Int) < 8 := by omega
    obtain ⟨pk, hpk⟩ : ∃ p, p = r.peer k := ⟨_, rfl⟩
    have PK := qh hpk
    have xi := qd2 r k hlt
    rw [<- hpk] at xi
    have ct := fun W => qh (qhg pk (r.gen k) W)
    have HCW := qh (HC.out.kept CR CQ KW.out)
    have hw1 := show IntKind.i64.wrap ((k : Int) + 1) = (k : Int) + 1 by rw [IntKind.wrap_i64]; omega
    clear hpk
    by_cases h0 : 0 <= pk
    · rw [decide_eq_true h0] at ct
      have hqk := HQ.out k hlt
      have CA := qh (fun W (hW : Below X.heap.size X W) => (HC.out.kept CR CQ hW).qat CQ k hlt hqk f hf)
      have kB := qh (show ∀ W, Below X.heap.size X W -> W.cell? ⟨B, 1 + k, none⟩ = some (.pointer (some ⟨m.Q k, 0, none⟩)) from fun W hW => ((HC.out.kept CR CQ hW).box.cell (1 + k)).trans (Ck.qaY _ _ k hlt))
      have E0 := Gm.qbe (fun j => if j < k then Co.vec r m.q f j else Co.in0) k 0 hlt (by omega)
      have E1 := Gm.qbe (fun j => if j < k then Co.vec r m.q f j else Co.in0) k 1 hlt (by omega)
      have E2 := Gm.qbe (fun j => if j < k then Co.vec r m.q f j else Co.in0) k 2 hlt (by omega)
      rw [if_neg (Nat.lt_irrefl k)] at E0 E1 E2
      have HE0 := qh E0
      have HE1 := qh E1
      have HE2 := qh E2
      obtain ⟨iv, hiv⟩ : ∃ i, i = (Qu.at_ (m.q k) f).1 := ⟨_, rfl⟩
      have HI := qh hiv
      rw [<- hiv] at CA
      generalize (Qu.at_ (m.q k) f).2 = fl at CA
      obtain ⟨ix, iy, ib⟩ := iv
      unfold Qu.qao at CA
      dsimp only at CA
      have H0 := qh h0
      clear E0 E1 E2 hiv hqk h0
      go_wp2_with (first
       | (go_at_call 85; ((with_reducible refine ((ct _).out).mono ?_); rintro e w2 ⟨rfl, hb2⟩; have KB := qh (((qac wr _).trans (hb2.mono (qac wr _).size))); have KX := qh (KW.out.trans (KB.out.mono KW.out.size)); have kp := (HP.out.below KX.out HP.out.lt).cell 0; have kq := kB.out w2 KX.out; have ca := qh (CA.out w2 KX.out); clear hb2))
       | (go_at_call 86; ((with_reducible refine ((ca).out).mono ?_); rintro e w3 ⟨rfl, hb3⟩; have KY := qh (KB.out.trans (hb3.mono KB.out.size)); have B3 := qh (DD.out.below KY.out DD.out.lt); have d0 : w3.cell? ⟨X.heap.size + 1, k * 3, none⟩ = some (.int .i8 0) := (B3.out.cell (k * 3)).trans HE0.out; have d1 : w3.cell? ⟨X.heap.size + 1, k * 3 + 1, none⟩ = some (.int .i8 0) := (B3.out.cell (k * 3 + 1)).trans HE1.out; have d2 : w3.cell? ⟨X.heap.size + 1, k * 3 + 2, none⟩ = some (.int .u8 0) := (B3.out.cell (k * 3 + 2)).trans HE2.out; have fr := B3.out.free; have lr := B3.out.lt; clear hb3)))
      go_roundw
      case rel =>
       have ne : X.heap.size ≠ X.heap.size + 1 := by omega
       have hup := qoH (fun j => if j < k then Co.vec r m.q f j else Co.in0) (fun j => if j < k + 1 then Co.vec r m.q f j else Co.in0) k hlt ⟨ix, iy, ib⟩ (fun j hj => by
        by_cases hjk : j = k
        · subst hjk
          rw [if_pos rfl, if_pos (by omega)]
          unfold Co.vec
          have h0 : 0 <= r.peer j := by have := PK.out; have := H0.out; omega
          rw [if_pos ⟨hj, h0⟩, <- HI.out]
        · rw [if_neg hjk]
          by_cases hjl : j < k
          · rw [if_pos hjl, if_pos (by omega)]
          · rw [if_neg hjl, if_neg (by omega)])
       refine ⟨k + 1, by omega, by go_num, ((((RR.out.below KY.out RR.out.lt).far (p := ⟨X.heap.size + 1, k * 3, none⟩) ne _).far (p := ⟨X.heap.size + 1, k * 3 + 1, none⟩) ne _).far (p := ⟨X.heap.size + 1, k * 3 + 2, none⟩) ne _), ?_, ?_⟩
       · rw [<- hup]
         exact ((B3.out.put _ _).put _ _).put _ _
       · exact (((KW.out.trans (KY.out.mono KW.out.size)).setCell (p := ⟨X.heap.size + 1, k * 3, none⟩) (Nat.le_succ _) _).setCell (p := ⟨X.heap.size + 1, k * 3 + 1, none⟩) (Nat.le_succ _) _).setCell (p := ⟨X.heap.size + 1, k * 3 + 2, none⟩) (Nat.le_succ _) _
      case measure => simp [intOf]; omega
    · rw [decide_eq_false h0] at ct
      go_wp2_with (go_at_call 85; ((with_reducible refine ((ct _).out).mono ?_); rintro e w2 ⟨rfl, hb2⟩; have KB := qh (((qac wr _).trans (hb2.mono (qac wr _).size))); clear hb2))
      go_roundw
      case rel =>
       refine ⟨k + 1, by omega, by go_num, RR.out.below KB.out RR.out.lt, ?_, KW.out.trans (KB.out.mono KW.out.size)⟩
       have he : (Gm.qai fun j => if j < k + 1 then Co.vec r m.q f j else Co.in0) = (Gm.qai fun j => if j < k then Co.vec r m.q f j else Co.in0) := En.qeN fun j hj => by
        by_cases hjk : j < k
        · rw [if_pos hjk, if_pos (by omega)]
        · rw [if_neg hjk]
          split
          · obtain rfl : j = k := by omega
            unfold Co.vec
            rw [if_neg (by rw [<- PK.out]; omega)]
          · rfl
       rw [he]
       exact DD.out.below KB.out DD.out.lt
      case measure => simp [intOf]; omega
  · have hk8 : ¬ (k : Int) < 8 := by omega
    obtain rfl : k = 8 := by omega
    have he : (Gm.qai fun j => if j < 8 then Co.vec r m.q f j else Co.in0) = Gm.qai (Co.vec r m.q f) := En.qeN fun j hj => by rw [if_pos hj]
    have D8 := qh (he ▸ DD.out)
    clear DD he
    go_wp2_with (first | ((with_reducible refine qlj rfl rfl ?_); apply qi0.mk rfl; (focus (with_reducible exact D8.out))) | ((with_reducible refine qka rfl rfl ?_); apply qgi.mk rfl rfl; (focus (with_reducible exact RR.out))))
    refine bodyPost_ret (v := .agg (Gm.qai (Co.vec r m.q f)).toArray) ?_ ?_ ?_
    · exact results_cell_row rfl _ _ _ _ (Gm.qai (Co.vec r m.q f)).toArray (0, 0) _ rfl (RR.out.row _).is Tryz.underlying49 rfl qdG
    · rfl
    · exact ⟨rfl, Below.setRow' KW.out (Nat.le_refl _) _⟩
end
open Go.RowKit Go.Shelf
namespace Fd
def in0 : Nat -> Gm.In := fun _ => ⟨0, 0, 0⟩
section
variable {d : Int} {k : Nat} {p : Int} {ps : Nat -> Gm.In}
end
end Fd
def Im.Eq (g h : Gm.G) (r q : Ros.R) : Prop := Gm.Eq g h /\ r.version = q.version /\ ∀ k, k < 8 -> r.peer k = q.peer k /\ r.gen k = q.gen k
section
variable {ops : Array Oper} {Q : Exit -> Act -> World -> Prop} {o : Oper} {rest : List Oper} {a : Act} {w : World} {x y : Operand}
end
theorem qj5 (f : Int) (A : Option Addr) (n c : Nat) (evs : List En.Ev) : Tryz.prog.built 52 [(0, .int .i64 f), (1, .slice A n c)] = some (En.cells ⟨f, evs, Fd.in0⟩ (.slice A n c)) := by kernel_rfl
theorem qeX : Tryz.prog.built 52 [] = some (En.cells ⟨0, [], Fd.in0⟩ (.slice none 0 0)) := by kernel_rfl
theorem qlf (f : Int) : Tryz.prog.built 52 [(0, .int .i64 f)] = some (En.cells ⟨f, [], Fd.in0⟩ (.slice none 0 0)) := by kernel_rfl
section
variable {ops : Array Oper} {rest : List Oper} {o : Oper} {a : Act} {w : World} {Q : Exit -> Act -> World -> Prop} {x y : Operand} {dst : Option Tmp} {v u : Value}
end
end Go.Proofs.YtmiopphcfdlneaaGreat