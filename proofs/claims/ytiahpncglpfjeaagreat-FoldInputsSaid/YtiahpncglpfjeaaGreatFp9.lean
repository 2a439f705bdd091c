/-
Several texts in one: Se Sf Sg Ol Ls Sh Sj Si.
-/
import Derived.Test.YtiahpncglpfjeaaGreatFp8
namespace Go.Proofs.YtiahpncglpfjeaaGreat
open Go.RowKit Go.Shelf
set_option linter.unusedVariables false
set_option linter.unusedSimpArgs false


namespace Fd
theorem changes_snoc (s : S) (l : List En.Ev) (k : Nat) (hk : k < l.length) : changes s (l.take (k + 1)) = (changes s (l.take k)).bind fun t => change t l[k] := by
  rw [List.take_succ_eq_append_getElem hk, changes_append]
  congr 1
  funext t
  exact changes_one t _
theorem changes_go {s t : S} {l : List En.Ev} {k : Nat} (hk : k < l.length) (h : changes s (l.take k) = some t) (hv : MayEv t l[k]) : changes s (l.take (k + 1)) = some (after t l[k]) := by
  rw [changes_snoc s l k hk, h, Option.bind_some, change_yes hv]
theorem changes_stop {s t : S} {l : List En.Ev} {k : Nat} (hk : k < l.length) (h : changes s (l.take k) = some t) (hv : ¬ MayEv t l[k]) : changes s l = none := by
  rw [← List.take_append_drop k l, changes_append, h, Option.bind_some, List.drop_eq_getElem_cons hk, changes_cons, change_no hv]
  rfl
theorem apply_stop {s : S} {e : En.E} (hm : May s e) (h : changes s e.evs = none) : apply s e = none := by rw [apply_yes hm, h]; rfl
theorem apply_idle {s t : S} {e : En.E} (hm : May s e) (h : changes s e.evs = some t) (hi : ¬ Idle t.r e.inp) : apply s e = none := by rw [apply_yes hm, h, Option.bind_some, if_neg hi]
theorem apply_done {s t : S} {e : En.E} (hm : May s e) (h : changes s e.evs = some t) (hi : Idle t.r e.inp) : apply s e = some ⟨Gm.step e.inp t.g, t.r⟩ := by rw [apply_yes hm, h, Option.bind_some, if_pos hi]
end Fd
/-- What lies there while an entry is done. -/
structure Bh (w : World) (g : Gm.G) (s : Value) (r : Ros.R) (e : En.E) (sl : Value) (W : World) : Prop where
  st : Box W w.heap.size 35 (Im.cells g s r)
  en : Box W (w.heap.size + 1) 42 (En.cells e sl)
  out : Box W (w.heap.size + 1 + 1) 35 Im.zero
  below : Below w.heap.size w W
section
variable {w W W' : World} {g : Gm.G} {s : Value} {r : Ros.R} {e : En.E} {sl : Value}
theorem Bh.call (h : Bh w g s r e sl W) (hb : Below W.heap.size W W') : Bh w g s r e sl W' :=
  ⟨h.st.below hb h.st.lt, h.en.below hb h.en.lt, h.out.below hb h.out.lt, h.below.trans (hb.mono h.below.size)⟩
theorem Bh.alloc (h : Bh w g s r e sl W) (o : Obj) : Bh w g s r e sl (W.alloc o) := h.call (one_below W o)
theorem Bh.store {g' : Gm.G} {s' : Value} {r' : Ros.R} (h : Bh w g s r e sl W) : Bh w g' s' r' e sl (W.setRow w.heap.size (Im.cells g' s' r')) :=
  ⟨h.st.row _, h.en.row_far (by omega) _, h.out.row_far (by omega) _, Below.setRow' h.below (Nat.le_refl _) _⟩
end
theorem bh_start (w : World) (g : Gm.G) (s : Value) (r : Ros.R) (e : En.E) (sl : Value) : Bh w g s r e sl (((w.alloc (.cells (Im.cells g s r) 35)).alloc (.cells (En.cells e sl) 42)).alloc (.cells Im.zero 35)) :=
  ⟨((Box.made w 35 (Im.cells g s r)).alloc (.cells (En.cells e sl) 42)).alloc (.cells Im.zero 35), (Box.made_at (n := w.heap.size + 1) (w.alloc (.cells (Im.cells g s r) 35)) 42 (En.cells e sl) (by simp)).alloc (.cells Im.zero 35), Box.made_at _ _ _ (by simp),
    (two_below' w (.cells (Im.cells g s r) 35) (.cells (En.cells e sl) 42)).alloc (by simp <;> omega) (.cells Im.zero 35)⟩
theorem in_eql (x y b : Int) (w : World) : (binOp .eql 39 (.agg #[.int .i8 x, .int .i8 y, .int .u8 b]) (.agg #[.int .i8 0, .int .i8 0, .int .u8 0])).run Tryz.prog w = .ok (.bool (En.zero ⟨x, y, b⟩)) w := by
  have h : (Op.equalIn 10000 39 (.agg #[.int .i8 x, .int .i8 y, .int .u8 b]) (.agg #[.int .i8 0, .int .i8 0, .int .u8 0])).run Tryz.prog w = .ok (En.zero ⟨x, y, b⟩) w := by
    by_cases h1 : x = 0
    · by_cases h2 : y = 0
      · by_cases h3 : b = 0
        · subst h1 h2 h3; go_simp <;> simp [En.zero]
        · have h4 : (b == 0) = false := by simpa using h3
          subst h1 h2; go_simp <;> simp [h4, h3, En.zero]
      · have h4 : (y == 0) = false := by simpa using h2
        subst h1; go_simp <;> simp [h4, h2, En.zero]
    · have h4 : (x == 0) = false := by simpa using h1
      go_simp <;> simp [h4, h1, En.zero]
  generalize #[Value.int .i8 x, .int .i8 y, .int .u8 b] = F at *
  generalize #[Value.int .i8 0, .int .i8 0, .int .u8 0] = G at *
  go_simp
/-- What an entry leaves: the state behind it, or a fault. -/
def Behind (s : Fd.S) (e : En.E) (w : World) (r : Ending) (w' : World) : Prop :=
  (∃ u, Fd.apply s e = some u ∧ SOne u.g u.r w r w') ∨ (Fd.apply s e = none ∧ Thrown 1 w r w')

set_option maxRecDepth 100000 in
set_option maxHeartbeats 2000000 in
theorem behind_no (s : Fd.S) (e : En.E) (A A2 : Option Addr) (n c m c2 : Nat) (w : World) (hty : Gm.ty s.g) (hn60 : n ≤ 60) (hn : n = s.g.shots.length) (hr : Lies w w.heap.size 6 A n (Gm.shotCells s.g.shots)) (hm : m = e.evs.length) (hm63 : m ≤ maxLen) (hE : Lies w w.heap.size 4 A2 m (En.evCells e.evs)) (hno : ¬ Fd.May s e) :
    Calls Tryz.prog 29 #[.agg (Im.cells s.g (.slice A n c) s.r), .agg (En.cells e (.slice A2 m c2))] w (Thrown 1 w) := by
  have B0 := Lib.hid (bh_start w s.g (.slice A n c) s.r e (.slice A2 m c2))
  have L0 := Lib.hid ((hr.below B0.out.below).wider B0.out.below.size)
  have E0 := Lib.hid ((hE.below B0.out.below).wider B0.out.below.size)
  have cm := Lib.hid (foldmay_any s.g s.r A n c _ hty (by unfold maxLen; omega) hn L0.out)
  have ce := fun X hX => Lib.hid (enmay_any e A2 m c2 X hm hm63 hX)
  have ct := fun X => Lib.hid (needthat_no X)
  have cy := fun X => Lib.hid (needthat_yes X)
  by_cases hok : Im.Ok s.g s.r
  · have HOK := Lib.hid hok
    by_cases hen : En.Ok e
    · have hfr : (e.frame == s.g.frame) = false := by simpa using fun h => hno ⟨hok, hen, h⟩
      simp only [decide_eq_true hen] at ce
      have hs0 : (Im.cells s.g (.slice A n c) s.r)[0]? = some (.int .i64 s.g.frame) := (Im.cells_g _ _ _ 0 (by omega)).trans (Gm.cells_0 _ _)
      have he0 := En.cells_0 e (.slice A2 m c2)
      clear hok hen hno hr hn hm hm63 hE hty
      go_enter Tryz.func29, Tryz.ntmps29
      go_wp2_with (first | (with_reducible refine alloc_state rfl rfl ?_) | ((with_reducible refine im_load_state rfl rfl ?_); apply LoadIm.mk rfl; (focus (with_reducible exact B0.out.st)); dsimp only) | (go_at_call 14; ((with_reducible refine ((cm).out).mono ?_); rintro x w1 ⟨⟨v, rfl, hv⟩, hb⟩; obtain rfl : v = true := hv.2 HOK.out; have B1 := Lib.hid (B0.out.call hb); have E1 := Lib.hid ((E0.out.below hb).wider hb.size); have L1 := Lib.hid (L0.out.call hb); clear hb hv)) | ((with_reducible refine en_load_g ?_ rfl ?_); (focus first | rfl | kernel_rfl | simp [Region.wanted, yielded]); apply LoadEn.mk rfl; (focus (with_reducible exact B1.out.en)); dsimp only) | (go_at_call 58; ((with_reducible refine ((ce _ E1.out).out).mono ?_); rintro x w2 ⟨rfl, hb⟩; have B2 := Lib.hid (B1.out.call hb); have k2s := B2.out.st.cell 0; have k2e := B2.out.en.cell 0; have L2 := Lib.hid (L1.out.call hb); clear hb)) | (go_at_call 57; ((with_reducible refine ((ct _).out).mono ?_); rintro x w3 ⟨rfl, hb⟩; have K3 := Lib.hid (B2.out.below.trans (hb.mono B2.out.below.size)); clear hb)))
      exact ⟨rfl, rfl, K3.out⟩
    · simp only [decide_eq_false hen] at ce
      clear hok hen hno hr hn hm hm63 hE hty
      go_enter Tryz.func29, Tryz.ntmps29
      go_wp2_with (first | (with_reducible refine alloc_state rfl rfl ?_) | ((with_reducible refine im_load_state rfl rfl ?_); apply LoadIm.mk rfl; (focus (with_reducible exact B0.out.st)); dsimp only) | (go_at_call 14; ((with_reducible refine ((cm).out).mono ?_); rintro x w1 ⟨⟨v, rfl, hv⟩, hb⟩; obtain rfl : v = true := hv.2 HOK.out; have B1 := Lib.hid (B0.out.call hb); have E1 := Lib.hid ((E0.out.below hb).wider hb.size); have L1 := Lib.hid (L0.out.call hb); clear hb hv)) | ((with_reducible refine en_load_g ?_ rfl ?_); (focus first | rfl | kernel_rfl | simp [Region.wanted, yielded]); apply LoadEn.mk rfl; (focus (with_reducible exact B1.out.en)); dsimp only) | (go_at_call 58; ((with_reducible refine ((ce _ E1.out).out).mono ?_); rintro x w2 ⟨rfl, hb⟩; have B2 := Lib.hid (B1.out.call hb); have k2s := B2.out.st.cell 0; have k2e := B2.out.en.cell 0; have L2 := Lib.hid (L1.out.call hb); clear hb)) | (go_at_call 57; ((with_reducible refine ((ct _).out).mono ?_); rintro x w3 ⟨rfl, hb⟩; have K3 := Lib.hid (B2.out.below.trans (hb.mono B2.out.below.size)); clear hb)))
      exact ⟨rfl, rfl, K3.out⟩
  · have HOK := Lib.hid hok
    clear hok hno hr hn hm hm63 hE hty
    go_enter Tryz.func29, Tryz.ntmps29
    go_wp2_with (first | (with_reducible refine alloc_state rfl rfl ?_) | ((with_reducible refine im_load_state rfl rfl ?_); apply LoadIm.mk rfl; (focus (with_reducible exact B0.out.st)); dsimp only) | (go_at_call 14; ((with_reducible refine ((cm).out).mono ?_); rintro x w1 ⟨⟨v, rfl, hv⟩, hb⟩; obtain rfl : v = false := (by cases v <;> first | rfl | exact absurd (hv.1 rfl) HOK.out); have B1 := Lib.hid (B0.out.call hb); have E1 := Lib.hid ((E0.out.below hb).wider hb.size); have L1 := Lib.hid (L0.out.call hb); clear hb hv)) | (go_at_call 57; ((with_reducible refine ((ct _).out).mono ?_); rintro x w3 ⟨rfl, hb⟩; have K3 := Lib.hid (B1.out.below.trans (hb.mono B1.out.below.size)); clear hb)))
    exact ⟨rfl, rfl, K3.out⟩

set_option maxRecDepth 100000 in
set_option maxHeartbeats 4000000 in
theorem behind_go (s : Fd.S) (e : En.E) (A A2 : Option Addr) (n c m c2 : Nat) (w : World) (hty : Gm.ty s.g) (hn60 : n ≤ 60) (hn : n = s.g.shots.length) (hr : Lies w w.heap.size 6 A n (Gm.shotCells s.g.shots)) (hm : m = e.evs.length) (hm63 : m ≤ maxLen) (hE : Lies w w.heap.size 4 A2 m (En.evCells e.evs)) (hin : ∀ i, i < 8 → Gm.tyIn (e.inp i)) (hmay : Fd.May s e) :
    Calls Tryz.prog 29 #[.agg (Im.cells s.g (.slice A n c) s.r), .agg (En.cells e (.slice A2 m c2))] w (Behind s e w) := by
  have B0 := Lib.hid (bh_start w s.g (.slice A n c) s.r e (.slice A2 m c2))
  have L0 := Lib.hid ((hr.below B0.out.below).wider B0.out.below.size)
  have E0 := Lib.hid ((hE.below B0.out.below).wider B0.out.below.size)
  have cm := Lib.hid (foldmay_any s.g s.r A n c _ hty (by unfold maxLen; omega) hn L0.out)
  have ce := fun X hX => Lib.hid (enmay_any e A2 m c2 X hm hm63 hX)
  have ct := fun X => Lib.hid (needthat_no X)
  have cy := fun X => Lib.hid (needthat_yes X)
  have hfine : Fd.Fine s := ⟨hmay.1, hty.2.1⟩
  have HF := Lib.hid hfine
  have HM := Lib.hid hmay
  have HE := Lib.hid hE
  have hN := Lib.hid hn
  have hMN := Lib.hid hm
  have m63 : (m : Int) ≤ 9223372036854775807 := by unfold maxLen at hm63; omega
  have hfr : (e.frame == s.g.frame) = true := by simpa using hmay.2.2
  simp only [decide_eq_true hmay.2.1] at ce
  have hs0 : (Im.cells s.g (.slice A n c) s.r)[0]? = some (.int .i64 s.g.frame) := (Im.cells_g _ _ _ 0 (by omega)).trans (Gm.cells_0 _ _)
  have he0 := En.cells_0 e (.slice A2 m c2)
  have he1 := En.cells_1 e (.slice A2 m c2)
  clear hmay hr hn hm hm63 hE hty hfine
  go_enter Tryz.func29, Tryz.ntmps29
  go_upto_region 2 with (first | (with_reducible refine alloc_state rfl rfl ?_) | ((with_reducible refine im_load_state rfl rfl ?_); apply LoadIm.mk rfl; (focus (with_reducible exact B0.out.st)); dsimp only) | (go_at_call 14; ((with_reducible refine ((cm).out).mono ?_); rintro x w1 ⟨⟨v, rfl, hv⟩, hb⟩; obtain rfl : v = true := hv.2 HM.out.1; have B1 := Lib.hid (B0.out.call hb); have E1 := Lib.hid ((E0.out.below hb).wider hb.size); have L1 := Lib.hid (L0.out.call hb); clear hb hv)) | ((with_reducible refine en_load_g ?_ rfl ?_); (focus first | rfl | kernel_rfl | simp [Region.wanted, yielded]); apply LoadEn.mk rfl; (focus (with_reducible exact B1.out.en)); dsimp only) | (go_at_call 58; ((with_reducible refine ((ce _ E1.out).out).mono ?_); rintro x w2 ⟨rfl, hb⟩; have B2 := Lib.hid (B1.out.call hb); have k2s := B2.out.st.cell 0; have k2e := B2.out.en.cell 0; have L2 := Lib.hid (L1.out.call hb); clear hb)) | (go_at_call 57; ((with_reducible refine ((cy _).out).mono ?_); rintro x w3 ⟨rfl, hb⟩; have B3 := Lib.hid (B2.out.call hb); have k3 := B3.out.en.cell 1; have L3 := Lib.hid (L2.out.call hb); clear hb k2s k2e)))
  clear B0 L0 E0 cm ce B1 E1 L1 B2 L2
  have hn := hN.out
  subst hn
  go_wp2
  go_loopw [29] (fun i wr => ∃ (k : Nat) (t : Fd.S) (A' : Option Addr) (c' : Nat), k ≤ m ∧ i = .int .i64 k ∧ Fd.changes s (e.evs.take k) = some t ∧ Bh w t.g (.slice A' t.g.shots.length c') t.r e (.slice A2 m c2) wr ∧ Lies wr wr.heap.size 6 A' t.g.shots.length (Gm.shotCells t.g.shots)) (fun i _ => m - (intOf i).toNat)
  case atStart => exact ⟨0, s, A, c, Nat.zero_le _, rfl, rfl, B3.out, L3.out⟩
  case round =>
    obtain ⟨k, t, A', c', hk, rfl, hch, hB, hL⟩ := hrel
    clear B3 L3 k3 hs0 he0 hfr
    by_cases hlt : k < m
    · have hk8 : (k : Int) < m := by omega
      have hkl : k < e.evs.length := by have := hMN.out; omega
      obtain ⟨ad, rfl, hbl, e0, e1, e2, e3⟩ := evs_at (HE.out.below hB.below) hMN.out k hkl
      have hok := En.row_mem e.evs (-1) HM.out.2.1.row e.evs[k] (List.getElem_mem hkl)
      have hft := (HF.out.changes hch).1
      have hgo := Lib.hid (fun hv : Fd.MayEv t e.evs[k] => Fd.changes_go hkl hch hv)
      have hst := Lib.hid (fun hv : ¬ Fd.MayEv t e.evs[k] => Fd.apply_stop HM.out (Fd.changes_stop hkl hch hv))
      have cy' := fun X (hv : Fd.MayEv t e.evs[k]) hX => Lib.hid (change_yes t e.evs[k] A' t.g.shots.length c' X hft hv rfl hX)
      have cn' := fun X (hv : ¬ Fd.MayEv t e.evs[k]) => Lib.hid (change_no t e.evs[k] A' t.g.shots.length c' X hok hv)
      generalize hv : e.evs[k] = v at e0 e1 e2 e3 hgo hst cy' cn' hok
      have sz := hB.below.size
      have ltA : ad.block < wr.heap.size := by omega
      have ltP : w.heap.size < wr.heap.size := hB.st.lt
      have B4 := fun o => Lib.hid (hB.alloc o)
      have L4 := fun o => Lib.hid (hL.call (one_below wr o))
      by_cases hev : Fd.MayEv t v
      · have cs := fun X hX => cy' X hev hX
        have HG := Lib.hid (hgo.out hev)
        generalize hu : Fd.after t v = u at cs HG
        obtain ⟨vk, vs, vg, vp⟩ := v
        dsimp only at e0 e1 e2 e3 cs
        clear hu hgo hst cy' cn' hv hev hok hch hB hL hft
        go_wp2_with (first | ((with_reducible refine im_load_state rfl rfl ?_); apply LoadIm.mk rfl; (focus (with_reducible exact (B4 _).out.st)); dsimp only) | (go_at_call 59; ((with_reducible refine ((cs _ (L4 _).out).out).mono ?_); rintro x w5 ⟨A5, c5, rfl, hL5, hb⟩; have B5 := Lib.hid ((B4 _).out.call hb); have B6 := Lib.hid (B5.out.store (g' := u.g) (s' := .slice A5 u.g.shots.length c5) (r' := u.r)); have L6 := Lib.hid (hL5.state_row rfl B5.out.st (Im.cells u.g (.slice A5 u.g.shots.length c5) u.r)); clear hb hL5)) | ((with_reducible refine im_store_state rfl rfl ?_); apply StoreS.mk rfl rfl; (focus (with_reducible exact B5.out.st)); (focus (exact Im.cells_size _ _ _)); (focus rfl)))
        go_roundw
        case rel => exact ⟨k + 1, u, A5, c5, by omega, by go_num, HG.out, B6.out, L6.out⟩
        case measure => simp [intOf]; omega
      · have cs := fun X => cn' X hev
        have HG := Lib.hid (hst.out hev)
        obtain ⟨vk, vs, vg, vp⟩ := v
        dsimp only at e0 e1 e2 e3 cs
        clear hgo hst cy' cn' hv hev hok hch hB hL hft
        go_wp2_with (first | ((with_reducible refine im_load_state rfl rfl ?_); apply LoadIm.mk rfl; (focus (with_reducible exact (B4 _).out.st)); dsimp only) | (go_at_call 59; ((with_reducible refine ((cs _).out).mono ?_); rintro x w5 ⟨rfl, hb⟩; have K5 := Lib.hid ((B4 _).out.below.trans (hb.mono (B4 _).out.below.size)); clear hb)))
        exact ⟨rfl, .inr ⟨HG.out, rfl, K5.out⟩⟩
    · have hk8 : ¬ (k : Int) < m := by omega
      obtain rfl : k = m := by omega
      obtain ⟨k0, hk0⟩ : ∃ k0, k0 = k := ⟨_, rfl⟩
      rw [hMN.out, List.take_length] at hch
      have HC := Lib.hid hch
      rw [← hk0] at hB
      have B3 := Lib.hid hB
      have L3 := Lib.hid hL
      have HT := Lib.hid (HF.out.changes hch)
      clear hch hB hL
      go_wp2_with ((with_reducible refine en_load_ins rfl rfl ?_); apply LoadEn.mk rfl; (focus (with_reducible exact B3.out.en)); dsimp only)
      go_loopw [39] (fun i wr => ∃ k : Nat, k ≤ 8 ∧ i = .int .i64 k ∧ Bh w t.g (.slice A' t.g.shots.length c') t.r e (.slice A2 k0 c2) wr ∧ Lies wr wr.heap.size 6 A' t.g.shots.length (Gm.shotCells t.g.shots) ∧ ∀ j, j < k → t.r.peer j < 0 → En.zero (e.inp j) = true) (fun i _ => 8 - (intOf i).toNat)
      case atStart => exact ⟨0, by omega, rfl, B3.out, L3.out, fun j hj => absurd hj (Nat.not_lt_zero j)⟩
      case round =>
        obtain ⟨k, hk, rfl, hB, hL, hall⟩ := hrel
        clear B3 L3
        by_cases hlt : k < 8
        · have hk8 : (k : Int) < 8 := by omega
          have hpart := in_index e.inp k hlt
          have hcell : ∀ o, (wr.alloc o).cell? ⟨w.heap.size, 60 + k * 2, none⟩ = some (.int .i64 (t.r.peer k)) := fun o => ((hB.st.alloc o).cell _).trans (Im.cells_peer t.g _ t.r k hlt)
          have hnext := Lib.hid (fun (h : t.r.peer k < 0 → En.zero (e.inp k) = true) => show ∀ j, j < k + 1 → t.r.peer j < 0 → En.zero (e.inp j) = true from fun j hj => by
            by_cases ej : j = k
            · rw [ej]; exact h
            · exact hall j (by omega))
          have hbad := Lib.hid (fun (h : t.r.peer k < 0) (h' : En.zero (e.inp k) = false) => Fd.apply_idle HM.out HC.out (fun hi => by have := hi k hlt h; rw [h'] at this; cases this))
          obtain ⟨p, hp⟩ : ∃ p, p = e.inp k := ⟨_, rfl⟩
          rw [← hp] at hpart hnext hbad
          obtain ⟨x, y, b⟩ := p
          dsimp only at hpart
          have hq := fun W => in_eql x y b W
          generalize hzz : En.zero ⟨x, y, b⟩ = z at hq hnext hbad
          obtain ⟨pk, hpk⟩ : ∃ pk, pk = t.r.peer k := ⟨_, rfl⟩
          rw [← hpk] at hcell hnext hbad
          have B4 := fun o => Lib.hid (hB.alloc o)
          have L4 := fun o => Lib.hid (hL.call (one_below wr o))
          have sz : w.heap.size ≤ wr.heap.size := hB.below.size
          have ltP : w.heap.size < wr.heap.size := hB.st.lt
          clear hp hpk hall hB hL hzz
          by_cases hp0 : 0 ≤ pk
          · have hn := Lib.hid (hnext.out (fun h => absurd h (by omega)))
            clear hnext hbad
            go_wp2_with (go_at_call 57; ((with_reducible refine ((cy _).out).mono ?_); rintro x w5 ⟨rfl, hb⟩; have B5 := Lib.hid ((B4 _).out.call hb); have L5 := Lib.hid ((L4 _).out.call hb); clear hb))
            go_roundw
            case rel => exact ⟨k + 1, by omega, by go_num, B5.out, L5.out, hn.out⟩
            case measure => simp [intOf]; omega
          · cases z
            · have hn := Lib.hid (hbad.out (by omega) rfl)
              clear hnext hbad
              go_wp2_with (go_at_call 57; ((with_reducible refine ((ct _).out).mono ?_); rintro x w5 ⟨rfl, hb⟩; have K5 := Lib.hid ((B4 _).out.below.trans (hb.mono (B4 _).out.below.size)); clear hb))
              exact ⟨rfl, .inr ⟨hn.out, rfl, K5.out⟩⟩
            · have hn := Lib.hid (hnext.out (fun _ => rfl))
              clear hnext hbad
              go_wp2_with (go_at_call 57; ((with_reducible refine ((cy _).out).mono ?_); rintro x w5 ⟨rfl, hb⟩; have B5 := Lib.hid ((B4 _).out.call hb); have L5 := Lib.hid ((L4 _).out.call hb); clear hb))
              go_roundw
              case rel => exact ⟨k + 1, by omega, by go_num, B5.out, L5.out, hn.out⟩
              case measure => simp [intOf]; omega
        · have hk8 : ¬ (k : Int) < 8 := by omega
          obtain rfl : k = 8 := by omega
          have HR := Lib.hid (Fd.apply_done HM.out HC.out hall)
          have hstep := fun X hX => Lib.hid (step_yes e.inp t.g A' t.g.shots.length c' X HT.out.1.ok.1 (by have := HT.out.2; have := HM.out.2.1.frame; have := HM.out.2.2; omega) HT.out.1.dice hin rfl hX)
          have cn := fun X => Lib.hid (need_ok X)
          have B6 := Lib.hid hB
          have L6 := Lib.hid hL
          generalize hG : Gm.step e.inp t.g = G at hstep HR
          clear hall hB hL hG
          go_upto_region 14 with (first | ((with_reducible refine im_load_game rfl rfl ?_); apply LoadIm.mk rfl; (focus (with_reducible exact B6.out.st)); dsimp only) | ((with_reducible refine en_load_ins rfl rfl ?_); apply LoadEn.mk rfl; (focus (with_reducible exact B6.out.en)); dsimp only) | (go_at_call 60; ((with_reducible refine ((hstep _ L6.out).out).mono ?_); rintro x w7 ⟨A7, c7, rfl, hL, hb⟩; have B7 := Lib.hid ((B6.out.call hb).alloc (.cells (Gm.cells G (.slice A7 G.shots.length c7)) 28)); have L7 := Lib.hid (hL.call (one_below w7 (.cells (Gm.cells G (.slice A7 G.shots.length c7)) 28))); have G7 := Lib.hid (Box.made w7 28 (Gm.cells G (.slice A7 G.shots.length c7))); clear hb hL)) | (refine wpList_alloc_game rfl rfl ?_) | (refine wpList_store_game_new rfl rfl rfl rfl rfl rfl ?_) | (go_at_call 61; ((with_reducible refine ((cn _).out).mono ?_); rintro x w8 ⟨rfl, hb⟩; have B8 := Lib.hid (B7.out.call hb); have L8 := Lib.hid (L7.out.call hb); have G8 := Lib.hid (G7.out.below hb G7.out.lt); have B9 := Lib.hid (B8.out.store (g' := G) (s' := .slice A7 G.shots.length c7) (r' := t.r)); have L9 := Lib.hid (L8.out.state_row rfl B8.out.st (Im.cells G (.slice A7 G.shots.length c7) t.r)); clear hb)))
          go_wp2_with (first | ((with_reducible refine load_gate rfl rfl ?_); apply LoadGame.mk rfl; (with_reducible exact G8.out)) | ((with_reducible refine im_store_game rfl rfl ?_); apply StoreG.mk rfl rfl; (focus (with_reducible exact B8.out.st)); (focus rfl)) | ((with_reducible refine im_load_state rfl rfl ?_); apply LoadIm.mk rfl; (focus (with_reducible exact B9.out.st)); dsimp only) | ((with_reducible refine im_store_state rfl rfl ?_); apply StoreS.mk rfl rfl; (focus (with_reducible exact B9.out.out)); (focus (exact Im.zero_size)); (focus rfl)))
          refine bodyPost_ret (v := .agg (Im.cells G (.slice A7 G.shots.length c7) t.r)) ?_ ?_ ?_
          · exact results_cell_row rfl _ _ _ _ (Im.cells G (.slice A7 G.shots.length c7) t.r) (0, 0) _ rfl (B9.out.out.row _).is Tryz.underlying35 rfl (by rw [Im.cells_size]; exact state_info)
          · rfl
          · exact .inl ⟨_, HR.out, A7, c7, rfl, L9.out.zero_row rfl B9.out.out _, Below.setRow' B9.out.below (by omega) _⟩
end Go.Proofs.YtiahpncglpfjeaaGreat
namespace Go.Proofs.YtiahpncglpfjeaaGreat
open Go.RowKit Go.Shelf
set_option linter.unusedVariables false
set_option linter.unusedSimpArgs false


theorem fault_is (W : World) (v : Value) : (Instr.typeAssert (.iface 97 v) 20 97 true).run Tryz.prog W = .ok (.tuple #[v, .bool true]) W := by kernel_rfl
set_option maxRecDepth 100000 in
set_option maxHeartbeats 1000000 in
theorem catch_fault (g : Gm.G) (r : Ros.R) (A : Option Addr) (n c Bs Bn Bc : Nat) (code y : Int) (older : List PanicEntry) (w : World) (Z : Array Value) (hZ : Z.size = 76) (hn60 : n ≤ 60) (hn : n = g.shots.length) (hr : Lies w w.heap.size 6 A n (Gm.shotCells g.shots))
    (hs : Box w Bs 35 (Im.cells g (.slice A n c) r)) (hb : Box w Bn 35 Z) (hc : Box w Bc 3 #[.int .i64 y]) :
    CallsD Tryz.prog 56 #[.pointer (some ⟨Bs, 0, none⟩), .pointer (some ⟨Bn, 0, none⟩), .pointer (some ⟨Bc, 0, none⟩)] (.panicking ({ v := .iface 97 (.int .i64 code), recovered := false } :: older)) w fun e u' w' =>
      e = .returned (.tuple #[]) ∧ u' = .panicking ({ v := .iface 97 (.int .i64 code), recovered := true } :: older) ∧
        ∃ A' c' w1, w' = (w1.setRow Bn (Im.cells g (.slice A' n c') r)).setCell ⟨Bc, 0, none⟩ (.int .i64 code) ∧ Lies w1 w1.heap.size 6 A' n (Gm.shotCells g.shots) ∧ Below w.heap.size w w1 := by
  have ne : Bn ≠ Bc := Box.apart hb hc (by decide)
  have co := Lib.hid (foldown_any g r A n c w hn60 hn hr)
  have HS := Lib.hid hs
  have HB := Lib.hid hb
  have HC := Lib.hid hc
  have HN := Lib.hid hn
  clear hs hb hc hr hn
  refine callsD_of_wpS Tryz.func56 rfl fun c₀ cs hu => ?_
  apply wpS_seq
  apply wpS_region
  simp [wpOpsS, go_sem, recoverD, hu, Tryz.ntmps56, Exit.thenS]
  have hta := fun W => fault_is W (.int .i64 code)
  refine wpS_of_wp ?_
  simp only [Array.replicate_succ, Array.replicate_zero, List.push_toArray, List.append_toArray, List.nil_append, List.cons_append, List.setIfInBounds_toArray, List.set_cons_succ, List.set_cons_zero]
  go_wp2_with (first | ((with_reducible refine im_load_state rfl rfl ?_); apply LoadIm.mk rfl; (focus (with_reducible exact HS.out)); dsimp only) | (go_at_call 42; ((with_reducible refine ((co).out).mono ?_); rintro x w1 ⟨A1, c1, rfl, hL, hK⟩; have S1 := Lib.hid (HB.out.below hK HB.out.lt); have D1 := HC.out.below hK HC.out.lt; have D2 := Lib.hid (D1.row_far (fun e => ne e.symm) (Im.cells g (.slice A1 g.shots.length c1) r)); have k2 := D2.out.cell 0; have f2 := D2.out.free 0; have L1 := Lib.hid hL; have K1 := Lib.hid hK; clear hL hK D1)) | ((with_reducible refine im_store_state rfl rfl ?_); apply StoreS.mk rfl rfl; (focus (with_reducible exact S1.out)); (focus (exact hZ)); (focus rfl)))
  have hn := HN.out
  subst hn
  simp [bodyPostS, results, Tryz.results56]
  exact ⟨A1, c1, w1, rfl, L1.out, K1.out⟩

set_option maxRecDepth 100000 in
theorem catch_idle_fold (p q s : Addr) (w : World) :
    CallsD Tryz.prog 56 #[.pointer (some s), .pointer (some p), .pointer (some q)] .returning w fun e u' w' => e = .returned (.tuple #[]) ∧ u' = .returning ∧ w' = w := by
  refine callsD_of_wpS Tryz.func56 rfl fun c₀ cs hu => ?_
  apply wpS_seq
  apply wpS_region
  simp [wpOpsS, go_sem, recoverD, hu, Tryz.ntmps56, Exit.thenS]
  refine wpS_of_wp ?_
  simp only [Array.replicate_succ, Array.replicate_zero, List.push_toArray, List.append_toArray, List.nil_append, List.cons_append, List.setIfInBounds_toArray, List.set_cons_succ, List.set_cons_zero]
  go_wp2
  cases c₀
  simp_all [bodyPostS, results, Tryz.results56]
end Go.Proofs.YtiahpncglpfjeaaGreat
namespace Go.Proofs.YtiahpncglpfjeaaGreat
open Go.RowKit Go.Shelf
set_option linter.unusedVariables false
set_option linter.unusedSimpArgs false


theorem behind_is {s u : Fd.S} {e : En.E} {w w' : World} {r : Ending} (h : Fd.apply s e = some u) (hB : Behind s e w r w') : SOne u.g u.r w r w' := by
  unfold Behind at hB
  rw [h] at hB
  rcases hB with ⟨v, hv, h2⟩ | ⟨hno, _⟩
  · obtain rfl : u = v := Option.some.inj hv
    exact h2
  · cases hno
theorem behind_not {s : Fd.S} {e : En.E} {w w' : World} {r : Ending} (h : Fd.apply s e = none) (hB : Behind s e w r w') : Thrown 1 w r w' := by
  unfold Behind at hB
  rw [h] at hB
  rcases hB with ⟨v, hv, h2⟩ | ⟨_, h2⟩
  · cases hv
  · exact h2
theorem behind_some (s u : Fd.S) (e : En.E) (A A2 : Option Addr) (n c m c2 : Nat) (w : World) (hty : Gm.ty s.g) (hn60 : n ≤ 60) (hn : n = s.g.shots.length) (hr : Lies w w.heap.size 6 A n (Gm.shotCells s.g.shots)) (hm : m = e.evs.length) (hm63 : m ≤ maxLen) (hE : Lies w w.heap.size 4 A2 m (En.evCells e.evs)) (hin : ∀ i, i < 8 → Gm.tyIn (e.inp i)) (h : Fd.apply s e = some u) :
    Calls Tryz.prog 29 #[.agg (Im.cells s.g (.slice A n c) s.r), .agg (En.cells e (.slice A2 m c2))] w (SOne u.g u.r w) := by
  exact (behind_go s e A A2 n c m c2 w hty hn60 hn hr hm hm63 hE hin (Fd.apply_some h).1).mono fun r w' hB => behind_is h hB
theorem behind_none (s : Fd.S) (e : En.E) (A A2 : Option Addr) (n c m c2 : Nat) (w : World) (hty : Gm.ty s.g) (hn60 : n ≤ 60) (hn : n = s.g.shots.length) (hr : Lies w w.heap.size 6 A n (Gm.shotCells s.g.shots)) (hm : m = e.evs.length) (hm63 : m ≤ maxLen) (hE : Lies w w.heap.size 4 A2 m (En.evCells e.evs)) (hin : ∀ i, i < 8 → Gm.tyIn (e.inp i)) (h : Fd.apply s e = none) :
    Calls Tryz.prog 29 #[.agg (Im.cells s.g (.slice A n c) s.r), .agg (En.cells e (.slice A2 m c2))] w (Thrown 1 w) := by
  by_cases hmay : Fd.May s e
  · exact (behind_go s e A A2 n c m c2 w hty hn60 hn hr hm hm63 hE hin hmay).mono fun r w' hB => behind_not h hB
  · exact behind_no s e A A2 n c m c2 w hty hn60 hn hr hm hm63 hE hmay

set_option maxHeartbeats 1000000 in
theorem apply1_some (u : Fd.S) (s : Fd.S) (e : En.E) (A A2 : Option Addr) (n c m c2 Bs Be : Nat) (w : World) (hty : Gm.ty s.g) (hn60 : n ≤ 60) (hn : n = s.g.shots.length) (hr : Lies w w.heap.size 6 A n (Gm.shotCells s.g.shots)) (hm : m = e.evs.length) (hm63 : m ≤ maxLen) (hE : Lies w w.heap.size 4 A2 m (En.evCells e.evs)) (hin : ∀ i, i < 8 → Gm.tyIn (e.inp i)) (hB : Box w Bs 35 (Im.cells s.g (.slice A n c) s.r)) (hBe : Box w Be 42 (En.cells e (.slice A2 m c2))) (h : Fd.apply s e = some u) :
    Calls Tryz.prog 28 #[.pointer (some ⟨Bs, 0, none⟩), .pointer (some ⟨Be, 0, none⟩)] w (SOne u.g u.r w) := by
  have N0 := Lib.hid (Box.made w 35 Im.zero)
  have K0 := Lib.hid (one_below w (.cells Im.zero 35))
  have B1 := Lib.hid (hB.alloc (.cells Im.zero 35))
  have E1 := Lib.hid (hBe.alloc (.cells Im.zero 35))
  have cb := Lib.hid (behind_some s u e A A2 n c m c2 _ hty hn60 hn (hr.call K0.out) hm hm63 ((hE.below K0.out).wider K0.out.size) hin h)
  clear hty hr hE hn hm hm63 hin h hB hBe
  go_enter Tryz.func28, Tryz.ntmps28
  go_wp2_with (first | (with_reducible refine alloc_state rfl rfl ?_) | ((with_reducible refine im_load_state rfl rfl ?_); apply LoadIm.mk rfl; (focus (with_reducible exact B1.out)); dsimp only) | ((with_reducible refine en_load rfl rfl ?_); apply LoadEn.mk rfl; (focus (with_reducible exact E1.out)); dsimp only) | (go_at_call 29; ((with_reducible refine ((cb).out).mono ?_); rintro x w2 ⟨A1, c1, rfl, hL, hb⟩; have N2 := Lib.hid (N0.out.below hb N0.out.lt); have K2 := Lib.hid (K0.out.trans (hb.mono K0.out.size)); have L2 := Lib.hid hL; clear hb hL)) | ((with_reducible refine im_store_state rfl rfl ?_); apply StoreS.mk rfl rfl; (focus (with_reducible exact N2.out)); (focus (exact Im.zero_size)); (focus rfl)))
  refine bodyPost_ret (v := .agg (Im.cells u.g (.slice A1 u.g.shots.length c1) u.r)) ?_ ?_ ?_
  · exact results_cell_row rfl _ _ _ _ (Im.cells u.g (.slice A1 u.g.shots.length c1) u.r) (0, 0) _ rfl (N2.out.row _).is Tryz.underlying35 rfl (by rw [Im.cells_size]; exact state_info)
  · rfl
  · exact ⟨A1, c1, rfl, L2.out.zero_row rfl N2.out _, Below.setRow' K2.out (Nat.le_refl _) _⟩
set_option maxHeartbeats 1000000 in
theorem apply1_none (s : Fd.S) (e : En.E) (A A2 : Option Addr) (n c m c2 Bs Be : Nat) (w : World) (hty : Gm.ty s.g) (hn60 : n ≤ 60) (hn : n = s.g.shots.length) (hr : Lies w w.heap.size 6 A n (Gm.shotCells s.g.shots)) (hm : m = e.evs.length) (hm63 : m ≤ maxLen) (hE : Lies w w.heap.size 4 A2 m (En.evCells e.evs)) (hin : ∀ i, i < 8 → Gm.tyIn (e.inp i)) (hB : Box w Bs 35 (Im.cells s.g (.slice A n c) s.r)) (hBe : Box w Be 42 (En.cells e (.slice A2 m c2))) (h : Fd.apply s e = none) :
    Calls Tryz.prog 28 #[.pointer (some ⟨Bs, 0, none⟩), .pointer (some ⟨Be, 0, none⟩)] w (Thrown 1 w) := by
  have K0 := Lib.hid (one_below w (.cells Im.zero 35))
  have B1 := Lib.hid (hB.alloc (.cells Im.zero 35))
  have E1 := Lib.hid (hBe.alloc (.cells Im.zero 35))
  have cb := Lib.hid (behind_none s e A A2 n c m c2 _ hty hn60 hn (hr.call K0.out) hm hm63 ((hE.below K0.out).wider K0.out.size) hin h)
  clear hty hr hE hn hm hm63 hin h hB hBe
  go_enter Tryz.func28, Tryz.ntmps28
  go_wp2_with (first | (with_reducible refine alloc_state rfl rfl ?_) | ((with_reducible refine im_load_state rfl rfl ?_); apply LoadIm.mk rfl; (focus (with_reducible exact B1.out)); dsimp only) | ((with_reducible refine en_load rfl rfl ?_); apply LoadEn.mk rfl; (focus (with_reducible exact E1.out)); dsimp only) | (go_at_call 29; ((with_reducible refine ((cb).out).mono ?_); rintro x w2 ⟨rfl, hb⟩; have K2 := Lib.hid (K0.out.trans (hb.mono K0.out.size)); clear hb)))
  exact ⟨rfl, rfl, K2.out⟩

/-- A list of shots lies in no block of one number. -/
theorem Lies.int_cell {w : World} {n Bc : Nat} {A : Option Addr} {l : List Gm.Shot} {y : Int} (h : Lies w w.heap.size 6 A n (Gm.shotCells l)) (hn : n = l.length) (hC : Box w Bc 3 #[.int .i64 y]) (v : Value) : Lies (w.setCell ⟨Bc, 0, none⟩ v) (w.setCell ⟨Bc, 0, none⟩ v).heap.size 6 A n (Gm.shotCells l) := by
  refine ⟨h.len, fun hn0 => by obtain ⟨ad, e, hb⟩ := h.start hn0; exact ⟨ad, e, by rw [World.size_setCell]; exact hb⟩, fun ad e h0 j u hu => ?_⟩
  have hne : ad.block ≠ Bc := fun eb => by
    subst hn
    have hlt : 0 < l.length := by omega
    have hc := h.cell ad e h0
    have e1 := hc 1 (.int .i32 l[0].x) (by have := Gm.shotCells_at l 0 1 hlt (by omega); simpa [Gm.Shot.cells] using this)
    rw [show ad.add 1 = ⟨ad.block, ad.off + 1, none⟩ from rfl, eb, hC.cell] at e1
    have := (Array.getElem?_eq_some_iff.1 e1).1
    simp at this
  rw [World.cell?_of_block (w := w) (by rw [add_block]; exact heap_setCell_other w ⟨Bc, 0, none⟩ _ v hne)]
  exact h.cell ad e h0 j u hu

set_option maxRecDepth 100000 in
set_option maxHeartbeats 1000000 in
theorem attempt_apply_some (g g' : Gm.G) (r r' : Ros.R) (A : Option Addr) (n c Bs Be : Nat) (w : World) (hcall : ∀ W, Below w.heap.size w W → Calls Tryz.prog 28 #[.pointer (some ⟨Bs, 0, none⟩), .pointer (some ⟨Be, 0, none⟩)] W (SOne g' r' W)) :
    Calls Tryz.prog 27 #[.agg (Im.cells g (.slice A n c) r), .func (.func 28) #[] #[.pointer (some ⟨Bs, 0, none⟩), .pointer (some ⟨Be, 0, none⟩)]] w (SOut g' r' 0 w) := by
  have hmf : ∀ (fn : Fn) (first cap : Array Value) (w : World), (Instr.makeFunc fn first cap).run Tryz.prog w = .ok (.func fn first cap) w := fun _ _ _ _ => rfl
  have S1 := Lib.hid (((Box.made w 35 (Im.cells g (.slice A n c) r)).alloc (.cells Im.zero 35)).alloc (.cells #[.int .i64 0] 3))
  have N1 := Lib.hid ((Box.made_at (n := w.heap.size + 1) (w.alloc (.cells (Im.cells g (.slice A n c) r) 35)) 35 Im.zero (by simp)).alloc (.cells #[.int .i64 0] 3))
  have C1 := Lib.hid (Box.made_at (n := w.heap.size + 1 + 1) ((w.alloc (.cells (Im.cells g (.slice A n c) r) 35)).alloc (.cells Im.zero 35)) 3 #[.int .i64 0] (by simp))
  have K1 := Lib.hid ((two_below' w (.cells (Im.cells g (.slice A n c) r) 35) (.cells Im.zero 35)).alloc (by simp <;> omega) (.cells #[.int .i64 0] 3))
  have cl := Lib.hid (hcall _ K1.out)
  clear hcall
  go_enter_defers Tryz.func27, Tryz.ntmps27
  go_wp2_with (first | (with_reducible refine alloc_state rfl rfl ?_) | (go_at_call 28; ((with_reducible refine ((cl).out).mono ?_); rintro x w2 ⟨A1, c1, rfl, hL, hb⟩; have N2 := Lib.hid (N1.out.below hb N1.out.lt); have C2 := C1.out.below hb C1.out.lt; have C3 := Lib.hid (C2.row_far (show w.heap.size + 1 + 1 ≠ w.heap.size + 1 by omega) (Im.cells g' (.slice A1 g'.shots.length c1) r')); have k3 := C3.out.cell 0; have f3 := C3.out.free 0; have K2 := Lib.hid (K1.out.trans (hb.mono K1.out.size)); have L2 := Lib.hid hL; clear hb hL C2)) | ((with_reducible refine im_store_state rfl rfl ?_); apply StoreS.mk rfl rfl; (focus (with_reducible exact N2.out)); (focus (exact Im.zero_size)); (focus rfl)))
  have ne : w.heap.size + 1 ≠ w.heap.size + 1 + 1 := by omega
  have N4 := (N2.out.row (Im.cells g' (.slice A1 g'.shots.length c1) r')).far (p := ⟨w.heap.size + 1 + 1, 0, none⟩) ne (.int .i64 0)
  have C4 := C3.out.put 0 (.int .i64 0)
  have K4 := (Below.setRow' (g := w.heap.size + 1) K2.out (Nat.le_succ _) (Im.cells g' (.slice A1 g'.shots.length c1) r')).setCell (p := ⟨w.heap.size + 1 + 1, 0, none⟩) (by show w.heap.size ≤ w.heap.size + 1 + 1; omega) (.int .i64 0)
  have L4 := (L2.out.zero_row rfl N2.out (Im.cells g' (.slice A1 g'.shots.length c1) r')).int_cell rfl C3.out (.int .i64 0)
  refine leaves_cons (f := 56) (args := #[.pointer (some ⟨w.heap.size, 0, none⟩), .pointer (some ⟨w.heap.size + 1, 0, none⟩), .pointer (some ⟨w.heap.size + 1 + 1, 0, none⟩)]) (by simp) (by simp [go_sem]) ?_
  refine (catch_idle_fold _ _ _ _).mono ?_
  rintro e u' w'' ⟨rfl, rfl, rfl⟩
  have hr := fun (tmps : Array Value) h1 h2 => results_cells2 (fn := Tryz.f27) (p := 4) (q := 5) rfl tmps _ (w.heap.size + 1) (w.heap.size + 1 + 1) 35 (Im.cells g' (.slice A1 g'.shots.length c1) r') _ 0 h1 h2 N4 (by simpa using C4) Tryz.underlying35 rfl (by rw [Im.cells_size]; exact state_info)
  show Leaves Tryz.prog _ _ _ [] .returning _
  exact ⟨_, hr _ rfl rfl, A1, c1, rfl, L4, K4⟩

set_option maxRecDepth 100000 in
set_option maxHeartbeats 1000000 in
theorem attempt_apply_none (g : Gm.G) (r : Ros.R) (A : Option Addr) (n c Bs Be : Nat) (w : World) (hn60 : n ≤ 60) (hn : n = g.shots.length) (hr : Lies w w.heap.size 6 A n (Gm.shotCells g.shots)) (hcall : ∀ W, Below w.heap.size w W → Calls Tryz.prog 28 #[.pointer (some ⟨Bs, 0, none⟩), .pointer (some ⟨Be, 0, none⟩)] W (Thrown 1 W)) :
    Calls Tryz.prog 27 #[.agg (Im.cells g (.slice A n c) r), .func (.func 28) #[] #[.pointer (some ⟨Bs, 0, none⟩), .pointer (some ⟨Be, 0, none⟩)]] w (SOut g r 1 w) := by
  have hmf : ∀ (fn : Fn) (first cap : Array Value) (w : World), (Instr.makeFunc fn first cap).run Tryz.prog w = .ok (.func fn first cap) w := fun _ _ _ _ => rfl
  have S1 := Lib.hid (((Box.made w 35 (Im.cells g (.slice A n c) r)).alloc (.cells Im.zero 35)).alloc (.cells #[.int .i64 0] 3))
  have N1 := Lib.hid ((Box.made_at (n := w.heap.size + 1) (w.alloc (.cells (Im.cells g (.slice A n c) r) 35)) 35 Im.zero (by simp)).alloc (.cells #[.int .i64 0] 3))
  have C1 := Lib.hid (Box.made_at (n := w.heap.size + 1 + 1) ((w.alloc (.cells (Im.cells g (.slice A n c) r) 35)).alloc (.cells Im.zero 35)) 3 #[.int .i64 0] (by simp))
  have K1 := Lib.hid ((two_below' w (.cells (Im.cells g (.slice A n c) r) 35) (.cells Im.zero 35)).alloc (by simp <;> omega) (.cells #[.int .i64 0] 3))
  have cl := Lib.hid (hcall _ K1.out)
  have HR := Lib.hid ((hr.below K1.out).wider K1.out.size)
  have HN := Lib.hid hn
  clear hcall hr hn
  go_enter_defers Tryz.func27, Tryz.ntmps27
  go_wp2_with (first | (with_reducible refine alloc_state rfl rfl ?_) | (go_at_call 28; ((with_reducible refine ((cl).out).mono ?_); rintro x w2 ⟨rfl, hb⟩; have S2 := Lib.hid (S1.out.below hb S1.out.lt); have N2 := Lib.hid (N1.out.below hb N1.out.lt); have C2 := Lib.hid (C1.out.below hb C1.out.lt); have K2 := Lib.hid (K1.out.trans (hb.mono K1.out.size)); have L2 := Lib.hid (HR.out.call hb); clear hb)))
  refine leaves_cons (f := 56) (args := #[.pointer (some ⟨w.heap.size, 0, none⟩), .pointer (some ⟨w.heap.size + 1, 0, none⟩), .pointer (some ⟨w.heap.size + 1 + 1, 0, none⟩)]) (by simp) (by simp [go_sem]) ?_
  refine (catch_fault g r A n c w.heap.size (w.heap.size + 1) (w.heap.size + 1 + 1) 1 0 [] w2 Im.zero Im.zero_size hn60 HN.out L2.out S2.out N2.out C2.out).mono ?_
  rintro e u' w'' ⟨rfl, rfl, A1, c1, w3, rfl, hL, hb⟩
  have hn := HN.out
  subst hn
  have N3 := N2.out.below hb N2.out.lt
  have C3 := (C2.out.below hb C2.out.lt).row_far (show w.heap.size + 1 + 1 ≠ w.heap.size + 1 by omega) (Im.cells g (.slice A1 g.shots.length c1) r)
  have ne : w.heap.size + 1 ≠ w.heap.size + 1 + 1 := by omega
  have N4 := (N3.row (Im.cells g (.slice A1 g.shots.length c1) r)).far (p := ⟨w.heap.size + 1 + 1, 0, none⟩) ne (.int .i64 1)
  have C4 := C3.put 0 (.int .i64 1)
  have K3 := K2.out.trans (hb.mono K2.out.size)
  have K4 := (Below.setRow' (g := w.heap.size + 1) K3 (Nat.le_succ _) (Im.cells g (.slice A1 g.shots.length c1) r)).setCell (p := ⟨w.heap.size + 1 + 1, 0, none⟩) (by show w.heap.size ≤ w.heap.size + 1 + 1; omega) (.int .i64 1)
  have L4 := (hL.zero_row rfl N3 (Im.cells g (.slice A1 g.shots.length c1) r)).int_cell rfl C3 (.int .i64 1)
  have hr := fun (tmps : Array Value) h1 h2 => results_cells2 (fn := Tryz.f27) (p := 4) (q := 5) rfl tmps _ (w.heap.size + 1) (w.heap.size + 1 + 1) 35 (Im.cells g (.slice A1 g.shots.length c1) r) _ 1 h1 h2 N4 (by simpa using C4) Tryz.underlying35 rfl (by rw [Im.cells_size]; exact state_info)
  show Leaves Tryz.prog _ _ _ [] .returning _
  exact ⟨_, hr _ rfl rfl, A1, c1, rfl, L4, K4⟩

set_option maxHeartbeats 1000000 in
theorem foldapply_some (u : Fd.S) (s : Fd.S) (e : En.E) (A A2 : Option Addr) (n c m c2 : Nat) (w : World) (hty : Gm.ty s.g) (hn60 : n ≤ 60) (hn : n = s.g.shots.length) (hr : Lies w w.heap.size 6 A n (Gm.shotCells s.g.shots)) (hm : m = e.evs.length) (hm63 : m ≤ maxLen) (hE : Lies w w.heap.size 4 A2 m (En.evCells e.evs)) (hin : ∀ i, i < 8 → Gm.tyIn (e.inp i)) (h : Fd.apply s e = some u) :
    Calls Tryz.prog 12 #[.agg (Im.cells s.g (.slice A n c) s.r), .agg (En.cells e (.slice A2 m c2))] w (SOut u.g u.r 0 w) := by
  have hmf : ∀ (fn : Fn) (first cap : Array Value) (w : World), (Instr.makeFunc fn first cap).run Tryz.prog w = .ok (.func fn first cap) w := fun _ _ _ _ => rfl
  have S1 := Lib.hid (((Box.made w 35 (Im.cells s.g (.slice A n c) s.r)).alloc (.cells (En.cells e (.slice A2 m c2)) 42)).alloc (.cells Im.zero 35))
  have E1 := Lib.hid ((Box.made_at (n := w.heap.size + 1) (w.alloc (.cells (Im.cells s.g (.slice A n c) s.r) 35)) 42 (En.cells e (.slice A2 m c2)) (by simp)).alloc (.cells Im.zero 35))
  have N1 := Lib.hid (Box.made_at (n := w.heap.size + 1 + 1) ((w.alloc (.cells (Im.cells s.g (.slice A n c) s.r) 35)).alloc (.cells (En.cells e (.slice A2 m c2)) 42)) 35 Im.zero (by simp))
  have K1 := Lib.hid ((two_below' w (.cells (Im.cells s.g (.slice A n c) s.r) 35) (.cells (En.cells e (.slice A2 m c2)) 42)).alloc (by simp <;> omega) (.cells Im.zero 35))
  have L1 := Lib.hid ((hr.below K1.out).wider K1.out.size)
  have EE := Lib.hid ((hE.below K1.out).wider K1.out.size)
  have ca := Lib.hid (attempt_apply_some s.g u.g s.r u.r A n c w.heap.size (w.heap.size + 1) _ (fun W hW => apply1_some u s e A A2 n c m c2 w.heap.size (w.heap.size + 1) W hty hn60 hn ((L1.out.below hW).wider hW.size) hm hm63 ((EE.out.below hW).wider hW.size) hin (S1.out.below hW S1.out.lt) (E1.out.below hW E1.out.lt) h))
  clear hty hr hE hn hm hm63 hin h
  go_enter Tryz.func12, Tryz.ntmps12
  go_wp2_with (first | (with_reducible refine alloc_state rfl rfl ?_) | ((with_reducible refine im_load_state rfl rfl ?_); apply LoadIm.mk rfl; (focus (with_reducible exact S1.out)); dsimp only) | (go_at_call 27; ((with_reducible refine ((ca).out).mono ?_); rintro x w2 ⟨A1, c1, rfl, hL, hb⟩; have N2 := Lib.hid (N1.out.below hb N1.out.lt); have K2 := Lib.hid (K1.out.trans (hb.mono K1.out.size)); have L2 := Lib.hid hL; clear hb hL)) | ((with_reducible refine im_store_state rfl rfl ?_); apply StoreS.mk rfl rfl; (focus (with_reducible exact N2.out)); (focus (exact Im.zero_size)); (focus rfl)))
  refine bodyPost_ret (v := .tuple #[.agg (Im.cells u.g (.slice A1 u.g.shots.length c1) u.r), .int .i64 0]) ?_ ?_ ?_
  · exact results_cell_tmp (p := 4) (q := 5) rfl _ _ _ _ (Im.cells u.g (.slice A1 u.g.shots.length c1) u.r) _ rfl (Box.row N2.out _) Tryz.underlying35 rfl (by rw [Im.cells_size]; exact state_info)
  · rfl
  · exact ⟨A1, c1, rfl, L2.out.zero_row rfl N2.out _, Below.setRow' K2.out (by omega) _⟩

set_option maxHeartbeats 1000000 in
theorem foldapply_none (s : Fd.S) (e : En.E) (A A2 : Option Addr) (n c m c2 : Nat) (w : World) (hty : Gm.ty s.g) (hn60 : n ≤ 60) (hn : n = s.g.shots.length) (hr : Lies w w.heap.size 6 A n (Gm.shotCells s.g.shots)) (hm : m = e.evs.length) (hm63 : m ≤ maxLen) (hE : Lies w w.heap.size 4 A2 m (En.evCells e.evs)) (hin : ∀ i, i < 8 → Gm.tyIn (e.inp i)) (h : Fd.apply s e = none) :
    Calls Tryz.prog 12 #[.agg (Im.cells s.g (.slice A n c) s.r), .agg (En.cells e (.slice A2 m c2))] w (SOut s.g s.r 1 w) := by
  have hmf : ∀ (fn : Fn) (first cap : Array Value) (w : World), (Instr.makeFunc fn first cap).run Tryz.prog w = .ok (.func fn first cap) w := fun _ _ _ _ => rfl
  have S1 := Lib.hid (((Box.made w 35 (Im.cells s.g (.slice A n c) s.r)).alloc (.cells (En.cells e (.slice A2 m c2)) 42)).alloc (.cells Im.zero 35))
  have E1 := Lib.hid ((Box.made_at (n := w.heap.size + 1) (w.alloc (.cells (Im.cells s.g (.slice A n c) s.r) 35)) 42 (En.cells e (.slice A2 m c2)) (by simp)).alloc (.cells Im.zero 35))
  have N1 := Lib.hid (Box.made_at (n := w.heap.size + 1 + 1) ((w.alloc (.cells (Im.cells s.g (.slice A n c) s.r) 35)).alloc (.cells (En.cells e (.slice A2 m c2)) 42)) 35 Im.zero (by simp))
  have K1 := Lib.hid ((two_below' w (.cells (Im.cells s.g (.slice A n c) s.r) 35) (.cells (En.cells e (.slice A2 m c2)) 42)).alloc (by simp <;> omega) (.cells Im.zero 35))
  have L1 := Lib.hid ((hr.below K1.out).wider K1.out.size)
  have EE := Lib.hid ((hE.below K1.out).wider K1.out.size)
  have ca := Lib.hid (attempt_apply_none s.g s.r A n c w.heap.size (w.heap.size + 1) _ hn60 hn L1.out (fun W hW => apply1_none s e A A2 n c m c2 w.heap.size (w.heap.size + 1) W hty hn60 hn ((L1.out.below hW).wider hW.size) hm hm63 ((EE.out.below hW).wider hW.size) hin (S1.out.below hW S1.out.lt) (E1.out.below hW E1.out.lt) h))
  clear hty hr hE hn hm hm63 hin h
  go_enter Tryz.func12, Tryz.ntmps12
  go_wp2_with (first | (with_reducible refine alloc_state rfl rfl ?_) | ((with_reducible refine im_load_state rfl rfl ?_); apply LoadIm.mk rfl; (focus (with_reducible exact S1.out)); dsimp only) | (go_at_call 27; ((with_reducible refine ((ca).out).mono ?_); rintro x w2 ⟨A1, c1, rfl, hL, hb⟩; have N2 := Lib.hid (N1.out.below hb N1.out.lt); have K2 := Lib.hid (K1.out.trans (hb.mono K1.out.size)); have L2 := Lib.hid hL; clear hb hL)) | ((with_reducible refine im_store_state rfl rfl ?_); apply StoreS.mk rfl rfl; (focus (with_reducible exact N2.out)); (focus (exact Im.zero_size)); (focus rfl)))
  refine bodyPost_ret (v := .tuple #[.agg (Im.cells s.g (.slice A1 s.g.shots.length c1) s.r), .int .i64 1]) ?_ ?_ ?_
  · exact results_cell_tmp (p := 4) (q := 5) rfl _ _ _ _ (Im.cells s.g (.slice A1 s.g.shots.length c1) s.r) _ rfl (Box.row N2.out _) Tryz.underlying35 rfl (by rw [Im.cells_size]; exact state_info)
  · rfl
  · exact ⟨A1, c1, rfl, L2.out.zero_row rfl N2.out _, Below.setRow' K2.out (by omega) _⟩
end Go.Proofs.YtiahpncglpfjeaaGreat
namespace Go.Proofs.YtiahpncglpfjeaaGreat
open Go.RowKit
set_option linter.unusedVariables false

section
variable {P : Program} {ops : Array Oper} {rest : List Oper} {o : Oper} {a : Act} {w : World} {Q : Exit → Act → World → Prop}
theorem run_loadVar_any (w : World) (ad : Addr) (ty : TypeId) (cs : List Value) (d : TypeDesc) (hc : ∀ j v, cs[j]? = some v → w.cell? (ad.add j) = some v)
    (hu : P.underlying ty = some d) (hd : d.isRow = true) (hi : (P.info? ty).map (·.size) = some cs.length) :
    (loadVar ty ad).run P w = .ok (.agg cs.toArray) w := by
  have hl : (loadCells ad cs.length).run P w = .ok cs.toArray w := run_loadCells_list (P := P) w ad cs hc
  cases hq : P.info? ty with
  | none => simp [hq] at hi
  | some i =>
    have hs : i.size = cs.length := by simpa [hq] using hi
    have hagg : (isAgg ty).run P w = .ok true w := by
      unfold isAgg
      rw [Sem.run_bind, run_underlying hu w]
      cases d <;> simp_all
    simp [loadVar, Sem.run_bind, hagg, sizeOf, typeInfo, hq, hs, hl]
/-- What the load of a struct at an address wants. -/
def LoadAt (P : Program) (ops : Array Oper) (Q : Exit → Act → World → Prop) (rest : List Oper) (dst : Option Tmp) (p : Value) (size : Nat) (a : Act) (w : World) : Prop :=
  ∃ (ad : Addr) (cs : List Value), p = .pointer (some ad) ∧ (∀ j v, cs[j]? = some v → w.cell? (ad.add j) = some v) ∧ cs.length = size ∧ wpList P ops Q rest (a.put dst (.agg cs.toArray)) w
theorem LoadAt.mk {dst : Option Tmp} {p : Value} {size : Nat} {ad : Addr} {cs : List Value} (hp : p = .pointer (some ad)) (hc : ∀ j v, cs[j]? = some v → w.cell? (ad.add j) = some v) (hs : cs.length = size) (h : wpList P ops Q rest (a.put dst (.agg cs.toArray)) w) : LoadAt P ops Q rest dst p size a w := ⟨ad, cs, hp, hc, hs, h⟩
theorem load_at_gate {ty : TypeId} {x : Operand} {size : Nat} {d : TypeDesc} (hgd : o.guard = none) (ho : o.op = .load ty x) (hu : P.underlying ty = some d) (hd : d.isRow = true) (hi : (P.info? ty).map (·.size) = some size) (h : LoadAt P ops Q rest o.dst (a.eval x) size a w) : wpList P ops Q (o :: rest) a w := by
  obtain ⟨ad, cs, hx, hc, hs, h⟩ := h
  refine wpList_plain hgd fun _ hK => ?_
  unfold Oper.wp execOp
  simp only [ho, hx, Instr.loadAt, Instr.sureAddr, Sem.run_bind, Sem.run_pure, Result.andThen_ok, run_loadVar_any w ad ty cs d hc hu hd (by rw [hi, hs])]
  exact hK _ _ h
end
end Go.Proofs.YtiahpncglpfjeaaGreat
namespace En
open Go
def zeroC : Array Value := cells ⟨0, [], in0⟩ (.slice none 0 0)
theorem zeroC_size : zeroC.size = 26 := rfl
/-- An entry, and where its events lie. -/
structure S where
  e : E
  adr : Option Addr
  cap : Nat
def S.sl (q : S) : Value := .slice q.adr q.e.evs.length q.cap
def S.cells (q : S) : List Value := (En.cells q.e q.sl).toList
def sCells (l : List S) : List Value := l.flatMap S.cells
theorem S.cells_len (q : S) : q.cells.length = 26 := rfl
theorem S.cells_arr (q : S) : q.cells.toArray = En.cells q.e q.sl := by unfold S.cells; exact Array.toArray_toList
theorem sCells_len (l : List S) : (sCells l).length = l.length * 26 := by
  induction l with
  | nil => rfl
  | cons s l ih => unfold sCells at *; rw [List.flatMap_cons, List.length_append, ih, List.length_cons, S.cells_len]; omega
theorem sCells_at (l : List S) (k j : Nat) (hk : k < l.length) (hj : j < 26) : (sCells l)[k * 26 + j]? = l[k].cells[j]? := by
  induction l generalizing k with
  | nil => simp at hk
  | cons s l ih =>
    unfold sCells at *
    rw [List.flatMap_cons]
    match k with
    | 0 => rw [List.getElem?_append_left (by rw [S.cells_len]; omega)]; simp
    | k + 1 =>
      rw [List.getElem?_append_right (by rw [S.cells_len]; omega)]
      have := ih k (by simpa using hk)
      rw [show (k + 1) * 26 + j - s.cells.length = k * 26 + j from by rw [S.cells_len]; omega, this]
      simp
end En
namespace Go.Proofs.YtiahpncglpfjeaaGreat
open Go.RowKit Go.Shelf
set_option linter.unusedVariables false
set_option linter.unusedSimpArgs false

theorem en_zero : (Tryz.prog.info? 42).map (·.zero) = some (some (.agg En.zeroC)) := by kernel_rfl
theorem alloc_en {ops : Array Oper} {Q : Exit → Act → World → Prop} {o : Oper} {rest : List Oper} {a : Act} {w : World} (hgd : o.guard = none) (ho : o.op = .alloc 42)
    (h : wpList Tryz.prog ops Q rest (a.put o.dst (.pointer (some ⟨w.heap.size, 0, none⟩))) (w.alloc (.cells En.zeroC 42))) : wpList Tryz.prog ops Q (o :: rest) a w :=
  wpList_alloc_z hgd ho en_zero rfl h
theorem en_info26 : (Tryz.prog.info? 42).map (·.size) = some 26 := en_info
theorem en_store_new {ops : Array Oper} {Q : Exit → Act → World → Prop} {o : Oper} {rest : List Oper} {a : Act} {x y : Operand} {v : World} {old : Array Value} {e : En.E} {s : Value} (hgd : o.guard = none) (ho : o.op = .store 42 x y) (hx : a.eval x = .pointer (some ⟨v.heap.size, 0, none⟩)) (hy : a.eval y = .agg (En.cells e s))
    (hold : old.size = 26) (hs : s.oneCell' = true) (h : wpList Tryz.prog ops Q rest (a.put o.dst undef) (v.alloc (.cells (En.cells e s) 42))) : wpList Tryz.prog ops Q (o :: rest) a (v.alloc (.cells old 42)) :=
  wpList_store_new hgd ho hx hy rfl rfl en_info (by rw [En.cells_size]; exact hold) (En.cells_one _ _ hs) h

/-- Entries lie one behind the other, and the events of each. -/
structure LiesS (w : World) (B : Nat) (A : Option Addr) (n : Nat) (l : List En.S) : Prop where
  row : Lies w B 26 A n (En.sCells l)
  each : ∀ q ∈ l, Lies w B 4 q.adr q.e.evs.length (En.evCells q.e.evs)
  few : ∀ q ∈ l, q.e.evs.length ≤ maxLen
section
variable {w w' : World} {B B' n : Nat} {A : Option Addr} {l : List En.S}
theorem LiesS.below (h : LiesS w B A n l) (hb : Below B w w') : LiesS w' B A n l := ⟨h.row.below hb, fun q hq => (h.each q hq).below hb, h.few⟩
theorem LiesS.wider (h : LiesS w B A n l) (hB : B ≤ B') : LiesS w B' A n l := ⟨h.row.wider hB, fun q hq => (h.each q hq).wider hB, h.few⟩
theorem LiesS.len (h : LiesS w B A n l) : l.length = n := by have := h.row.len; rw [En.sCells_len] at this; omega
theorem LiesS.nil : LiesS w B A 0 [] := ⟨⟨rfl, fun h => absurd rfl h, fun _ _ h => absurd rfl h⟩, fun q h => (by cases h), fun q h => (by cases h)⟩
theorem LiesS.at (h : LiesS w B A n l) (k : Nat) (hk : k < l.length) : ∃ ad, A = some ad ∧ ad.block < B ∧ ∀ j v, l[k].cells[j]? = some v → w.cell? ((ad.add (k * 26)).add j) = some v := by
  have hn := h.len
  obtain ⟨ad, rfl, hb⟩ := h.row.start (by omega)
  refine ⟨ad, rfl, hb, fun j v hv => ?_⟩
  have hj : j < 26 := by have := (List.getElem?_eq_some_iff.1 hv).1; rwa [En.S.cells_len] at this
  rw [add_twice]
  exact h.row.cell ad rfl (by omega) _ v (by rw [En.sCells_at l k j hk hj, hv])
theorem LiesS.take (h : LiesS w B A n l) (k : Nat) (hk : k ≤ n) : LiesS w B A k (l.take k) := by
  have hn := h.len
  refine ⟨⟨by rw [En.sCells_len, List.length_take]; omega, fun h0 => h.row.start (by omega), fun ad e h0 j u hu => ?_⟩, fun q hq => h.each q (List.mem_of_mem_take hq), fun q hq => h.few q (List.mem_of_mem_take hq)⟩
  have hj : j < k * 26 := by have := (List.getElem?_eq_some_iff.1 hu).1; rw [En.sCells_len, List.length_take] at this; omega
  refine h.row.cell ad e (by omega) j u ?_
  have h1 := En.sCells_at l (j / 26) (j % 26) (by omega) (by omega)
  have h2 := En.sCells_at (l.take k) (j / 26) (j % 26) (by rw [List.length_take]; omega) (by omega)
  rw [show j / 26 * 26 + j % 26 = j by omega] at h1 h2
  rw [h1, ← hu, h2]
  congr 2
  simp
end

end Go.Proofs.YtiahpncglpfjeaaGreat
namespace Go.Proofs.YtiahpncglpfjeaaGreat
open Go.RowKit Go.Shelf
set_option linter.unusedVariables false
set_option linter.unusedSimpArgs false


namespace Fd
def es (l : List En.S) : List En.E := l.map (·.e)
theorem es_at (l : List En.S) (k : Nat) (h : k < (es l).length) (h' : k < l.length) : (es l)[k] = l[k].e := List.getElem_map _
theorem run_snoc (s : S) (l : List En.E) (k : Nat) (hk : k < l.length) : run s (l.take (k + 1)) = (run s (l.take k)).bind fun t => Fd.apply t l[k] := by
  rw [List.take_succ_eq_append_getElem hk, run_append]
  congr 1
  funext t
  exact run_one t _
theorem run_go {s t u : S} {l : List En.E} {k : Nat} (hk : k < l.length) (h : run s (l.take k) = some t) (hv : Fd.apply t l[k] = some u) : run s (l.take (k + 1)) = some u := by
  rw [run_snoc s l k hk, h, Option.bind_some, hv]
theorem run_stop {s t : S} {l : List En.E} {k : Nat} (hk : k < l.length) (h : run s (l.take k) = some t) (hv : Fd.apply t l[k] = none) : run s l = none := by
  rw [← List.take_append_drop k l, run_append, h, Option.bind_some, List.drop_eq_getElem_cons hk, run_cons, hv]
  rfl
theorem Fine.ty {s : S} (h : Fine s) : Gm.ty s.g := ⟨by have := h.ok.1.1; have := h.ok.1.2.1; unfold Gm.i64; omega, h.dice, fun i hi => (h.ok.1.2.2.2.1 i hi).ty, fun i hi => (h.ok.1.2.2.2.2 i hi).ty⟩
theorem Fine.few {s : S} (h : Fine s) : s.g.shots.length ≤ 60 := by have := h.ok.1.2.2.1; omega
end Fd
/-- What lies there while a log is done. -/
structure Rn (w : World) (Bn : Nat) (g : Gm.G) (s : Value) (r : Ros.R) (W : World) : Prop where
  nx : Box W Bn 35 (Im.cells g s r)
  out : Box W w.heap.size 35 Im.zero
  far : w.heap.size < Bn
  below : Below w.heap.size w W
section
variable {w W W' : World} {Bn : Nat} {g : Gm.G} {s : Value} {r : Ros.R}
theorem Rn.call (h : Rn w Bn g s r W) (hb : Below W.heap.size W W') : Rn w Bn g s r W' :=
  ⟨h.nx.below hb h.nx.lt, h.out.below hb h.out.lt, h.far, h.below.trans (hb.mono h.below.size)⟩
theorem Rn.alloc (h : Rn w Bn g s r W) (o : Obj) : Rn w Bn g s r (W.alloc o) := h.call (one_below W o)
theorem Rn.store {g' : Gm.G} {s' : Value} {r' : Ros.R} (h : Rn w Bn g s r W) : Rn w Bn g' s' r' (W.setRow Bn (Im.cells g' s' r')) :=
  ⟨h.nx.row _, h.out.row_far (by have := h.far; omega) _, h.far, Below.setRow' h.below (Nat.le_of_lt h.far) _⟩
end
theorem im_store_new {ops : Array Oper} {Q : Exit → Act → World → Prop} {o : Oper} {rest : List Oper} {a : Act} {x y : Operand} {v : World} {old : Array Value} {g : Gm.G} {s : Value} {r : Ros.R} (hgd : o.guard = none) (ho : o.op = .store 35 x y) (hx : a.eval x = .pointer (some ⟨v.heap.size, 0, none⟩)) (hy : a.eval y = .agg (Im.cells g s r))
    (hold : old.size = 76) (hs : s.oneCell' = true) (h : wpList Tryz.prog ops Q rest (a.put o.dst undef) (v.alloc (.cells (Im.cells g s r) 35))) : wpList Tryz.prog ops Q (o :: rest) a (v.alloc (.cells old 35)) :=
  wpList_store_new hgd ho hx hy rfl rfl (by rw [Im.cells_size]; exact state_info) (by rw [Im.cells_size]; exact hold) (im_one _ _ _ hs) h
def Logged (s : Fd.S) (l : List En.S) (w : World) (r : Ending) (w' : World) : Prop :=
  (∃ u, Fd.run s (Fd.es l) = some u ∧ SOne u.g u.r w r w') ∨ (Fd.run s (Fd.es l) = none ∧ Thrown 1 w r w')
theorem logged_is {s u : Fd.S} {l : List En.S} {w w' : World} {r : Ending} (h : Fd.run s (Fd.es l) = some u) (hB : Logged s l w r w') : SOne u.g u.r w r w' := by
  unfold Logged at hB
  rw [h] at hB
  rcases hB with ⟨v, hv, h2⟩ | ⟨hno, _⟩
  · obtain rfl : u = v := Option.some.inj hv
    exact h2
  · cases hno
set_option maxRecDepth 100000 in
set_option maxHeartbeats 4000000 in
theorem run1_any (s : Fd.S) (l : List En.S) (A AL : Option Addr) (n c m cl Bs Bl : Nat) (w : World) (hs : Fd.Fine s) (hn : n = s.g.shots.length) (hr : Lies w w.heap.size 6 A n (Gm.shotCells s.g.shots)) (hm63 : m ≤ maxLen) (hl : LiesS w w.heap.size AL m l) (hin : ∀ q ∈ l, ∀ i, i < 8 → Gm.tyIn (q.e.inp i))
    (hB : Box w Bs 35 (Im.cells s.g (.slice A n c) s.r)) (hBl : Box w Bl 52 #[.slice AL m cl]) :
    Calls Tryz.prog 41 #[.pointer (some ⟨Bs, 0, none⟩), .pointer (some ⟨Bl, 0, none⟩)] w (Logged s l w) := by
  have N0 := Lib.hid (Box.made w 35 Im.zero)
  have K0 := Lib.hid (one_below w (.cells Im.zero 35))
  have B1 := Lib.hid (hB.alloc (.cells Im.zero 35))
  have L1 := Lib.hid (hBl.alloc (.cells Im.zero 35))
  have co := Lib.hid (foldown_any s.g s.r A n c _ (by rw [hn]; exact hs.few) hn (hr.call K0.out))
  have HS := Lib.hid hs
  have HL := Lib.hid hl
  have HI := Lib.hid hin
  have HM := Lib.hid (show m = l.length from hl.len.symm)
  have m63 : (m : Int) ≤ 9223372036854775807 := by unfold maxLen at hm63; omega
  clear hs hr hn hm63 hl hin hB hBl
  go_enter Tryz.func41, Tryz.ntmps41
  go_upto_region 2 with (first | (with_reducible refine alloc_state rfl rfl ?_) | ((with_reducible refine im_load_state rfl rfl ?_); apply LoadIm.mk rfl; (focus (with_reducible exact B1.out)); dsimp only) | (go_at_call 42; ((with_reducible refine ((co).out).mono ?_); rintro x w1 ⟨A1, c1, rfl, hL, hb⟩; have R1 := Lib.hid (show Rn w w1.heap.size s.g (.slice A1 s.g.shots.length c1) s.r (w1.alloc (.cells (Im.cells s.g (.slice A1 s.g.shots.length c1) s.r) 35)) from ⟨Box.made _ _ _, (N0.out.below hb N0.out.lt).alloc _, Nat.lt_of_lt_of_le N0.out.lt hb.size, ((K0.out.trans (hb.mono K0.out.size))).alloc (Nat.le_trans K0.out.size hb.size) _⟩); have LL := Lib.hid (hL.call (one_below w1 (.cells (Im.cells s.g (.slice A1 s.g.shots.length c1) s.r) 35))); have L2 := (((L1.out.below hb L1.out.lt)).alloc (.cells (Im.cells s.g (.slice A1 s.g.shots.length c1) s.r) 35)).cell 0; clear hb hL)) | (with_reducible refine im_store_new rfl rfl rfl rfl Im.zero_size rfl ?_))
  generalize hBn : w1.heap.size = Bn at R1
  go_wp2
  go_loopw [10] (fun i wr => ∃ (k : Nat) (t : Fd.S) (A' : Option Addr) (c' : Nat), k ≤ m ∧ i = .int .i64 k ∧ Fd.run s ((Fd.es l).take k) = some t ∧ Rn w Bn t.g (.slice A' t.g.shots.length c') t.r wr ∧ Lies wr wr.heap.size 6 A' t.g.shots.length (Gm.shotCells t.g.shots)) (fun i _ => m - (intOf i).toNat)
  case atStart => exact ⟨0, s, A1, c1, Nat.zero_le _, rfl, rfl, R1.out, LL.out⟩
  case round =>
    obtain ⟨k, t, A', c', hk, rfl, hch, hR, hL⟩ := hrel
    clear R1 LL L2 N0 K0 B1 L1 co
    by_cases hlt : k < m
    · have hk8 : (k : Int) < m := by omega
      have hkl : k < l.length := by have := HM.out; omega
      have hke : k < (Fd.es l).length := by unfold Fd.es; rw [List.length_map]; exact hkl
      have hge : (Fd.es l)[k] = l[k].e := Fd.es_at l k hke hkl
      have hb := hR.below
      obtain ⟨ad, rfl, hbl, a0⟩ := (HL.out.below hb).at k hkl
      have he1 := (HL.out.below hb).each l[k] (List.getElem_mem hkl)
      have hf1 := HL.out.few l[k] (List.getElem_mem hkl)
      have hty := HI.out l[k] (List.getElem_mem hkl)
      have hft := (HS.out.run hch).1
      have hgo := fun (u : Fd.S) (h : Fd.apply t l[k].e = some u) => Fd.run_go hke hch (hge ▸ h)
      have hst := fun (h : Fd.apply t l[k].e = none) => Fd.run_stop hke hch (hge ▸ h)
      generalize l[k] = u at a0 he1 hf1 hty hgo hst
      have sz := hb.size
      have LA := Lib.hid a0
      have ltA : (ad.add (k * 26)).block < wr.heap.size := by rw [add_block]; exact Nat.lt_of_lt_of_le hbl sz
      have ltP : Bn < wr.heap.size := hR.nx.lt
      have P1 := Lib.hid (Box.made wr 42 (En.cells u.e u.sl))
      have R2 := Lib.hid (hR.alloc (.cells (En.cells u.e u.sl) 42))
      have L2 := Lib.hid (hL.call (one_below wr (.cells (En.cells u.e u.sl) 42)))
      have E2 := Lib.hid ((he1.wider sz).below (one_below wr (.cells (En.cells u.e u.sl) 42)) |>.wider (one_below wr (.cells (En.cells u.e u.sl) 42)).size)
      cases hap : Fd.apply t u.e with
      | none =>
        have cb := Lib.hid (show Calls Tryz.prog 29 #[.agg (Im.cells t.g (.slice A' t.g.shots.length c') t.r), .agg (En.cells u.e u.sl)] (wr.alloc (.cells (En.cells u.e u.sl) 42)) (Thrown 1 (wr.alloc (.cells (En.cells u.e u.sl) 42))) from behind_none t u.e A' u.adr t.g.shots.length c' u.e.evs.length u.cap _ hft.ty hft.few rfl L2.out rfl hf1 E2.out hty hap)
        have HN := Lib.hid (hst hap)
        clear hgo hst hap hft hty hf1 he1 a0 hch hR hL hb hge
        go_wp2_with (first | (with_reducible refine alloc_en rfl rfl ?_) | ((with_reducible refine load_at_gate rfl rfl Tryz.underlying42 rfl en_info26 ?_); (apply LoadAt.mk rfl LA.out (En.S.cells_len _); rw [En.S.cells_arr])) | (with_reducible refine en_store_new rfl rfl rfl rfl En.zeroC_size rfl ?_) | ((with_reducible refine en_load rfl rfl ?_); apply LoadEn.mk rfl; (focus (with_reducible exact P1.out)); dsimp only) | ((with_reducible refine im_load_state rfl rfl ?_); apply LoadIm.mk rfl; (focus (with_reducible exact R2.out.nx)); dsimp only) | (go_at_call 29; ((with_reducible refine ((cb).out).mono ?_); rintro x w5 ⟨rfl, hb⟩; have K5 := Lib.hid (R2.out.below.trans (hb.mono R2.out.below.size)); clear hb)))
        exact ⟨rfl, .inr ⟨HN.out, rfl, K5.out⟩⟩
      | some v =>
        have cb := Lib.hid (show Calls Tryz.prog 29 #[.agg (Im.cells t.g (.slice A' t.g.shots.length c') t.r), .agg (En.cells u.e u.sl)] (wr.alloc (.cells (En.cells u.e u.sl) 42)) (SOne v.g v.r (wr.alloc (.cells (En.cells u.e u.sl) 42))) from behind_some t v u.e A' u.adr t.g.shots.length c' u.e.evs.length u.cap _ hft.ty hft.few rfl L2.out rfl hf1 E2.out hty hap)
        have HG := Lib.hid (hgo v hap)
        clear hgo hst hap hft hty hf1 he1 a0 hch hR hL hb hge
        go_wp2_with (first | (with_reducible refine alloc_en rfl rfl ?_) | ((with_reducible refine load_at_gate rfl rfl Tryz.underlying42 rfl en_info26 ?_); (apply LoadAt.mk rfl LA.out (En.S.cells_len _); rw [En.S.cells_arr])) | (with_reducible refine en_store_new rfl rfl rfl rfl En.zeroC_size rfl ?_) | ((with_reducible refine en_load rfl rfl ?_); apply LoadEn.mk rfl; (focus (with_reducible exact P1.out)); dsimp only) | ((with_reducible refine im_load_state rfl rfl ?_); apply LoadIm.mk rfl; (focus (with_reducible exact R2.out.nx)); dsimp only) | (go_at_call 29; ((with_reducible refine ((cb).out).mono ?_); rintro x w5 ⟨A5, c5, rfl, hL5, hb⟩; have R5 := Lib.hid (R2.out.call hb); have R6 := Lib.hid (R5.out.store (g' := v.g) (s' := .slice A5 v.g.shots.length c5) (r' := v.r)); have L6 := Lib.hid (hL5.state_row rfl R5.out.nx (Im.cells v.g (.slice A5 v.g.shots.length c5) v.r)); clear hb hL5)) | ((with_reducible refine im_store_state rfl rfl ?_); apply StoreS.mk rfl rfl; (focus (with_reducible exact R5.out.nx)); (focus (exact Im.cells_size _ _ _)); (focus rfl)))
        go_roundw
        case rel => exact ⟨k + 1, v, A5, c5, by omega, by go_num, HG.out, R6.out, L6.out⟩
        case measure => simp [intOf]; omega
    · have hk8 : ¬ (k : Int) < m := by omega
      obtain rfl : k = m := by omega
      have hlen : (Fd.es l).length = k := by unfold Fd.es; rw [List.length_map]; exact HM.out.symm
      have hfull : (Fd.es l).take k = Fd.es l := List.take_of_length_le (by omega)
      rw [hfull] at hch
      have HC := Lib.hid hch
      have R2 := Lib.hid hR
      have L2 := Lib.hid hL
      clear hch hR hL hlen hfull
      go_wp2_with (first | ((with_reducible refine im_load_state rfl rfl ?_); apply LoadIm.mk rfl; (focus (with_reducible exact R2.out.nx)); dsimp only) | ((with_reducible refine im_store_state rfl rfl ?_); apply StoreS.mk rfl rfl; (focus (with_reducible exact R2.out.out)); (focus (exact Im.zero_size)); (focus rfl)))
      refine bodyPost_ret (v := .agg (Im.cells t.g (.slice A' t.g.shots.length c') t.r)) ?_ ?_ ?_
      · exact results_cell_row rfl _ _ _ _ (Im.cells t.g (.slice A' t.g.shots.length c') t.r) (0, 0) _ rfl (R2.out.out.row _).is Tryz.underlying35 rfl (by rw [Im.cells_size]; exact state_info)
      · rfl
      · exact .inl ⟨t, HC.out, A', c', rfl, L2.out.zero_row rfl R2.out.out _, Below.setRow' R2.out.below (Nat.le_refl _) _⟩

set_option maxRecDepth 100000 in
set_option maxHeartbeats 1000000 in
theorem attempt_run_some (g g' : Gm.G) (r r' : Ros.R) (A : Option Addr) (n c Bs Be : Nat) (w : World) (hcall : ∀ W, Below w.heap.size w W → Calls Tryz.prog 41 #[.pointer (some ⟨Bs, 0, none⟩), .pointer (some ⟨Be, 0, none⟩)] W (SOne g' r' W)) :
    Calls Tryz.prog 27 #[.agg (Im.cells g (.slice A n c) r), .func (.func 41) #[] #[.pointer (some ⟨Bs, 0, none⟩), .pointer (some ⟨Be, 0, none⟩)]] w (SOut g' r' 0 w) := by
  have hmf : ∀ (fn : Fn) (first cap : Array Value) (w : World), (Instr.makeFunc fn first cap).run Tryz.prog w = .ok (.func fn first cap) w := fun _ _ _ _ => rfl
  have S1 := Lib.hid (((Box.made w 35 (Im.cells g (.slice A n c) r)).alloc (.cells Im.zero 35)).alloc (.cells #[.int .i64 0] 3))
  have N1 := Lib.hid ((Box.made_at (n := w.heap.size + 1) (w.alloc (.cells (Im.cells g (.slice A n c) r) 35)) 35 Im.zero (by simp)).alloc (.cells #[.int .i64 0] 3))
  have C1 := Lib.hid (Box.made_at (n := w.heap.size + 1 + 1) ((w.alloc (.cells (Im.cells g (.slice A n c) r) 35)).alloc (.cells Im.zero 35)) 3 #[.int .i64 0] (by simp))
  have K1 := Lib.hid ((two_below' w (.cells (Im.cells g (.slice A n c) r) 35) (.cells Im.zero 35)).alloc (by simp <;> omega) (.cells #[.int .i64 0] 3))
  have cl := Lib.hid (hcall _ K1.out)
  clear hcall
  go_enter_defers Tryz.func27, Tryz.ntmps27
  go_wp2_with (first | (with_reducible refine alloc_state rfl rfl ?_) | (go_at_call 41; ((with_reducible refine ((cl).out).mono ?_); rintro x w2 ⟨A1, c1, rfl, hL, hb⟩; have N2 := Lib.hid (N1.out.below hb N1.out.lt); have C2 := C1.out.below hb C1.out.lt; have C3 := Lib.hid (C2.row_far (show w.heap.size + 1 + 1 ≠ w.heap.size + 1 by omega) (Im.cells g' (.slice A1 g'.shots.length c1) r')); have k3 := C3.out.cell 0; have f3 := C3.out.free 0; have K2 := Lib.hid (K1.out.trans (hb.mono K1.out.size)); have L2 := Lib.hid hL; clear hb hL C2)) | ((with_reducible refine im_store_state rfl rfl ?_); apply StoreS.mk rfl rfl; (focus (with_reducible exact N2.out)); (focus (exact Im.zero_size)); (focus rfl)))
  have ne : w.heap.size + 1 ≠ w.heap.size + 1 + 1 := by omega
  have N4 := (N2.out.row (Im.cells g' (.slice A1 g'.shots.length c1) r')).far (p := ⟨w.heap.size + 1 + 1, 0, none⟩) ne (.int .i64 0)
  have C4 := C3.out.put 0 (.int .i64 0)
  have K4 := (Below.setRow' (g := w.heap.size + 1) K2.out (Nat.le_succ _) (Im.cells g' (.slice A1 g'.shots.length c1) r')).setCell (p := ⟨w.heap.size + 1 + 1, 0, none⟩) (by show w.heap.size ≤ w.heap.size + 1 + 1; omega) (.int .i64 0)
  have L4 := (L2.out.zero_row rfl N2.out (Im.cells g' (.slice A1 g'.shots.length c1) r')).int_cell rfl C3.out (.int .i64 0)
  refine leaves_cons (f := 56) (args := #[.pointer (some ⟨w.heap.size, 0, none⟩), .pointer (some ⟨w.heap.size + 1, 0, none⟩), .pointer (some ⟨w.heap.size + 1 + 1, 0, none⟩)]) (by simp) (by simp [go_sem]) ?_
  refine (catch_idle_fold _ _ _ _).mono ?_
  rintro e u' w'' ⟨rfl, rfl, rfl⟩
  have hr := fun (tmps : Array Value) h1 h2 => results_cells2 (fn := Tryz.f27) (p := 4) (q := 5) rfl tmps _ (w.heap.size + 1) (w.heap.size + 1 + 1) 35 (Im.cells g' (.slice A1 g'.shots.length c1) r') _ 0 h1 h2 N4 (by simpa using C4) Tryz.underlying35 rfl (by rw [Im.cells_size]; exact state_info)
  show Leaves Tryz.prog _ _ _ [] .returning _
  exact ⟨_, hr _ rfl rfl, A1, c1, rfl, L4, K4⟩

set_option maxHeartbeats 1000000 in
theorem foldrun_some (u : Fd.S) (s : Fd.S) (l : List En.S) (A AL : Option Addr) (n c m cl : Nat) (w : World) (hs : Fd.Fine s) (hn : n = s.g.shots.length) (hr : Lies w w.heap.size 6 A n (Gm.shotCells s.g.shots)) (hm63 : m ≤ maxLen) (hl : LiesS w w.heap.size AL m l) (hin : ∀ q ∈ l, ∀ i, i < 8 → Gm.tyIn (q.e.inp i)) (h : Fd.run s (Fd.es l) = some u) :
    Calls Tryz.prog 19 #[.agg (Im.cells s.g (.slice A n c) s.r), .slice AL m cl] w (SOut u.g u.r 0 w) := by
  have hmf : ∀ (fn : Fn) (first cap : Array Value) (w : World), (Instr.makeFunc fn first cap).run Tryz.prog w = .ok (.func fn first cap) w := fun _ _ _ _ => rfl
  have S1 := Lib.hid (((Box.made w 35 (Im.cells s.g (.slice A n c) s.r)).alloc (.cells #[.slice AL m cl] 52)).alloc (.cells Im.zero 35))
  have E1 := Lib.hid ((Box.made_at (n := w.heap.size + 1) (w.alloc (.cells (Im.cells s.g (.slice A n c) s.r) 35)) 52 #[.slice AL m cl] (by simp)).alloc (.cells Im.zero 35))
  have N1 := Lib.hid (Box.made_at (n := w.heap.size + 1 + 1) ((w.alloc (.cells (Im.cells s.g (.slice A n c) s.r) 35)).alloc (.cells #[.slice AL m cl] 52)) 35 Im.zero (by simp))
  have K1 := Lib.hid ((two_below' w (.cells (Im.cells s.g (.slice A n c) s.r) 35) (.cells #[.slice AL m cl] 52)).alloc (by simp <;> omega) (.cells Im.zero 35))
  have L1 := Lib.hid ((hr.below K1.out).wider K1.out.size)
  have LL := Lib.hid ((hl.below K1.out).wider K1.out.size)
  have ca := Lib.hid (attempt_run_some s.g u.g s.r u.r A n c w.heap.size (w.heap.size + 1) _ (fun W hW => (run1_any s l A AL n c m cl w.heap.size (w.heap.size + 1) W hs hn ((L1.out.below hW).wider hW.size) hm63 ((LL.out.below hW).wider hW.size) hin (S1.out.below hW S1.out.lt) (E1.out.below hW E1.out.lt)).mono fun r w' hB => logged_is h hB))
  clear hs hr hl hn hm63 hin h
  go_enter Tryz.func19, Tryz.ntmps19
  go_wp2_with (first | (with_reducible refine alloc_state rfl rfl ?_) | ((with_reducible refine im_load_state rfl rfl ?_); apply LoadIm.mk rfl; (focus (with_reducible exact S1.out)); dsimp only) | (go_at_call 27; ((with_reducible refine ((ca).out).mono ?_); rintro x w2 ⟨A1, c1, rfl, hL, hb⟩; have N2 := Lib.hid (N1.out.below hb N1.out.lt); have K2 := Lib.hid (K1.out.trans (hb.mono K1.out.size)); have L2 := Lib.hid hL; clear hb hL)) | ((with_reducible refine im_store_state rfl rfl ?_); apply StoreS.mk rfl rfl; (focus (with_reducible exact N2.out)); (focus (exact Im.zero_size)); (focus rfl)))
  refine bodyPost_ret (v := .tuple #[.agg (Im.cells u.g (.slice A1 u.g.shots.length c1) u.r), .int .i64 0]) ?_ ?_ ?_
  · exact results_cell_tmp (p := 4) (q := 5) rfl _ _ _ _ (Im.cells u.g (.slice A1 u.g.shots.length c1) u.r) _ rfl (Box.row N2.out _) Tryz.underlying35 rfl (by rw [Im.cells_size]; exact state_info)
  · rfl
  · exact ⟨A1, c1, rfl, L2.out.zero_row rfl N2.out _, Below.setRow' K2.out (by omega) _⟩

end Go.Proofs.YtiahpncglpfjeaaGreat
namespace Go.Proofs.YtiahpncglpfjeaaGreat
open Go.RowKit Go.Shelf
set_option linter.unusedVariables false
set_option linter.unusedSimpArgs false
namespace Fd
def evJ (k : Nat) (p : Int) : En.Ev := ⟨1, k, 1, p⟩
def evL (k : Nat) (p : Int) : En.Ev := ⟨2, k, 1, p⟩
def in0 : Nat → Gm.In := fun _ => ⟨0, 0, 0⟩
/-- Behind a Join at frame 0. -/
def joined (d : Int) (k : Nat) (p : Int) (ps : Nat → Gm.In) : S := ⟨Gm.step ps (Gm.spawn (Gm.new d) k), Ros.take Ros.new k p⟩
def left (d : Int) (k : Nat) (p : Int) (ps : Nat → Gm.In) : S := ⟨Gm.step in0 (Gm.remove (joined d k p ps).g k), Ros.give (Ros.take Ros.new k p) k⟩
theorem new_ok : Ros.Ok Ros.new := by decide +kernel
theorem take_may {k : Nat} {p : Int} (hk : k < 8) (hp : 0 ≤ p ∧ p < 12) : Ros.MayTake Ros.new k p := by
  refine ⟨⟨⟨⟨new_ok, by show (0 : Int) < 1073741824; decide⟩, by omega, by omega⟩, hp, ?_⟩, rfl, by show (0 : Int) ≠ 60000; decide⟩
  unfold Ros.of
  rw [if_pos ⟨new_ok, hp.1, hp.2⟩]
  refine Ros.seatOf_none fun y hy => ?_
  show (-1 : Int) ≠ p
  omega
theorem row_one {v : En.Ev} (h : En.evOk v) : En.Row (-1) [v] := ⟨⟨h, by have := (En.place_lt h).1; omega⟩, trivial⟩
theorem row_nil : En.Row (-1) [] := trivial
theorem zero_ok {p : Gm.In} (h : En.zero p = true) : En.inOk p := by
  rw [En.zero_is h]; unfold En.inOk; dsimp only; omega
/-- An input of a slot that nobody has is no entry. -/
theorem start_busy {d : Int} {k : Nat} {ps : Nat → Gm.In} (hk : k < 8) (hz : En.zero (ps k) = false) (fr : Int) (l : List En.Ev) (hl : l = []) : apply (start d) ⟨fr, l, ps⟩ = none := by
  subst hl
  by_cases hm : May (start d) ⟨fr, [], ps⟩
  · exact apply_idle hm (changes_nil _) (fun hi => by have := hi k hk (by show (-1 : Int) < 0; decide); rw [hz] at this; cases this)
  · exact apply_no hm
section
variable {d : Int} {k : Nat} {p : Int} {ps : Nat → Gm.In}
theorem join_change (hk : k < 8) (hp : 0 ≤ p ∧ p < 12) : changes (start d) [evJ k p] = some ⟨Gm.spawn (Gm.new d) k, Ros.take Ros.new k p⟩ := by
  have hv : MayEv (start d) (evJ k p) := .inl ⟨rfl, take_may hk hp, rfl⟩
  rw [changes_one, change_yes hv]
  rfl
theorem join_one (hd : 0 ≤ d ∧ d ≤ 18446744073709551615) (hk : k < 8) (hp : 0 ≤ p ∧ p < 12) (hin : ∀ i, i < 8 → En.inOk (ps i)) (hz : ∀ i, i < 8 → i ≠ k → En.zero (ps i) = true) : apply (start d) ⟨0, [evJ k p], ps⟩ = some (joined d k p ps) := by
  have hm : May (start d) ⟨0, [evJ k p], ps⟩ := ⟨(start_fine hd).ok, ⟨by dsimp only; omega, row_one ⟨.inr rfl, by show 0 ≤ (k : Int) ∧ (k : Int) < 8; omega, by show 1 ≤ (1 : Int) ∧ (1 : Int) ≤ 60000; decide, hp⟩, hin⟩, rfl⟩
  rw [apply_done hm (join_change hk hp) (fun i hi hn => ?_)]
  · rfl
  · by_cases e : i = k
    · subst e
      have : Ros.upd Ros.new.peer i p i < 0 := hn
      rw [Ros.upd_same] at this
      omega
    · exact hz i hi e
/-- With another one's input there is no entry. -/
theorem join_busy (hk : k < 8) (hp : 0 ≤ p ∧ p < 12) {j : Nat} (hj : j < 8) (hjk : j ≠ k) (hz : En.zero (ps j) = false) : apply (start d) ⟨0, [evJ k p], ps⟩ = none := by
  by_cases hm : May (start d) ⟨0, [evJ k p], ps⟩
  · exact apply_idle hm (join_change hk hp) (fun hi => by
      have := hi j hj (by show Ros.upd Ros.new.peer k p j < 0; rw [Ros.upd_other _ _ hjk]; show (-1 : Int) < 0; decide)
      rw [hz] at this; cases this)
  · exact apply_no hm
theorem joined_fine (hd : 0 ≤ d ∧ d ≤ 18446744073709551615) (hk : k < 8) (hp : 0 ≤ p ∧ p < 12) : Fine (joined d k p ps) ∧ (joined d k p ps).g.frame = 1 ∧ ((joined d k p ps).g.ship k).on = true := by
  have h1 := ((start_fine hd).changes (join_change hk hp)).1
  obtain ⟨h2, h3⟩ := h1.step ps (by show (0 : Int) < 1048576; decide)
  refine ⟨h2, h3.trans rfl, ?_⟩
  refine Eq.trans (h2.ok.2.2 k hk) (decide_eq_true ?_)
  show 0 ≤ Ros.upd Ros.new.peer k p k
  rw [Ros.upd_same]; exact hp.1
theorem joined_peer : (joined d k p ps).r.peer k = p := Ros.upd_same _ _ _
theorem joined_gen : (joined d k p ps).r.gen k = 1 := (Ros.upd_same _ _ _).trans rfl
/-- An entry of another frame makes nothing. -/
theorem joined_late (hd : 0 ≤ d ∧ d ≤ 18446744073709551615) (hk : k < 8) (hp : 0 ≤ p ∧ p < 12) {e : En.E} (he : e.frame = 0) : apply (joined d k p ps) e = none :=
  apply_no fun h => by have := h.2.2; rw [(joined_fine hd hk hp).2.1, he] at this; cases this
theorem leave_change (hd : 0 ≤ d ∧ d ≤ 18446744073709551615) (hk : k < 8) (hp : 0 ≤ p ∧ p < 12) : changes (joined d k p ps) [evL k p] = some ⟨Gm.remove (joined d k p ps).g k, Ros.give (Ros.take Ros.new k p) k⟩ := by
  have hf := joined_fine (ps := ps) hd hk hp
  have hv : MayEv (joined d k p ps) (evL k p) := .inr ⟨rfl, ⟨⟨⟨hf.1.ok.2.1, by show (0 : Int) + 1 < 1073741824; decide⟩, by show (0 : Int) ≤ k; omega, by show (k : Int) < 8; omega⟩, by show (joined d k p ps).r.peer k ≠ -1; rw [joined_peer]; omega⟩, joined_peer, joined_gen⟩
  rw [changes_one, change_yes hv]
  rfl
theorem give_peer (j : Nat) : (Ros.give (Ros.take Ros.new k p) k).peer j = -1 := by
  show Ros.upd (Ros.upd Ros.new.peer k p) k (-1) j = -1
  by_cases e : j = k
  · rw [e, Ros.upd_same]
  · rw [Ros.upd_other _ _ e, Ros.upd_other _ _ e]; rfl
theorem leave_one (hd : 0 ≤ d ∧ d ≤ 18446744073709551615) (hk : k < 8) (hp : 0 ≤ p ∧ p < 12) : apply (joined d k p ps) ⟨1, [evL k p], in0⟩ = some (left d k p ps) := by
  have hf := joined_fine (ps := ps) hd hk hp
  have hm : May (joined d k p ps) ⟨1, [evL k p], in0⟩ := ⟨hf.1.ok, ⟨by show 0 ≤ (1 : Int) ∧ (1 : Int) < 1048576; decide, row_one ⟨.inl rfl, by show 0 ≤ (k : Int) ∧ (k : Int) < 8; omega, by show 1 ≤ (1 : Int) ∧ (1 : Int) ≤ 60000; decide, hp⟩, fun i hi => zero_ok rfl⟩, hf.2.1.symm⟩
  rw [apply_done hm (leave_change hd hk hp) (fun i hi hn => rfl)]
  rfl
theorem leave_busy (hd : 0 ≤ d ∧ d ≤ 18446744073709551615) (hk : k < 8) (hp : 0 ≤ p ∧ p < 12) {qs : Nat → Gm.In} {j : Nat} (hj : j < 8) (hz : En.zero (qs j) = false) : apply (joined d k p ps) ⟨1, [evL k p], qs⟩ = none := by
  by_cases hm : May (joined d k p ps) ⟨1, [evL k p], qs⟩
  · exact apply_idle hm (leave_change hd hk hp) (fun hi => by
      have := hi j hj (by show (Ros.give (Ros.take Ros.new k p) k).peer j < 0; rw [give_peer]; decide)
      rw [hz] at this; cases this)
  · exact apply_no hm
theorem left_fine (hd : 0 ≤ d ∧ d ≤ 18446744073709551615) (hk : k < 8) (hp : 0 ≤ p ∧ p < 12) : Fine (left d k p ps) ∧ ((left d k p ps).g.ship k).on = false ∧ (left d k p ps).r.peer k = -1 ∧ (left d k p ps).r.gen k = 1 := by
  have h := (joined_fine (ps := ps) hd hk hp).1.apply (leave_one hd hk hp)
  refine ⟨h.1, ?_, give_peer k, joined_gen (d := d) (p := p) (ps := ps)⟩
  refine Eq.trans (h.1.ok.2.2 k hk) (decide_eq_false ?_)
  show ¬ 0 ≤ (Ros.give (Ros.take Ros.new k p) k).peer k
  rw [give_peer]; decide
end
/-- Two frames in which nothing is done. -/
def idle1 (d : Int) : S := ⟨Gm.step in0 (Gm.new d), Ros.new⟩
def idle2 (d : Int) : S := ⟨Gm.step in0 (idle1 d).g, Ros.new⟩
theorem idle_step {s : S} (hs : Fine s) (fr : Int) (hfr : fr = s.g.frame) (h0 : 0 ≤ fr ∧ fr < 1048576) : apply s ⟨fr, [], in0⟩ = some ⟨Gm.step in0 s.g, s.r⟩ := by
  have hm : May s ⟨fr, [], in0⟩ := ⟨hs.ok, ⟨h0, row_nil, fun i hi => zero_ok rfl⟩, hfr⟩
  rw [apply_done hm (changes_nil _) (fun i hi hn => rfl)]
theorem idle_run {d : Int} (hd : 0 ≤ d ∧ d ≤ 18446744073709551615) : run (start d) [⟨0, [], in0⟩, ⟨1, [], in0⟩] = some (idle2 d) ∧ (idle2 d).g.frame = 2 := by
  have h1 := (start_fine hd).step in0 (by show (0 : Int) < 1048576; decide)
  have e1 : apply (start d) ⟨0, [], in0⟩ = some (idle1 d) := idle_step (start_fine hd) 0 rfl (by decide)
  have e2 : apply (idle1 d) ⟨1, [], in0⟩ = some (idle2 d) := idle_step (s := idle1 d) h1.1 1 h1.2.symm (by decide)
  refine ⟨by rw [run_cons, e1, Option.bind_some, run_one, e2], ?_⟩
  have h2 := h1.1.step in0 (by rw [h1.2]; show (0 : Int) + 1 < 1048576; decide)
  exact h2.2.trans (by rw [h1.2]; rfl)
end Fd
end Go.Proofs.YtiahpncglpfjeaaGreat
namespace Go.Proofs.YtiahpncglpfjeaaGreat
open Go.RowKit Go.Shelf
set_option linter.unusedVariables false
set_option linter.unusedSimpArgs false


set_option maxRecDepth 100000 in
set_option maxHeartbeats 4000000 in
theorem equal_any (l m : List Gm.Shot) (A B : Option Addr) (n n' c d : Nat) (w : World) (hn : n = l.length) (hm : n' = m.length) (n64 : n ≤ maxLen) (m64 : n' ≤ maxLen) (hr : Lies w w.heap.size 6 A n (Gm.shotCells l)) (hq : Lies w w.heap.size 6 B n' (Gm.shotCells m)) :
    Calls Tryz.prog 78 #[.slice A n c, .slice B n' d] w fun e w' => (∃ v, e = .returned (.bool v) ∧ (v = true ↔ l = m)) ∧ Below w.heap.size w w' := by
  have hN := Lib.hid hn
  have hM := Lib.hid hm
  have n63 : (n : Int) ≤ 9223372036854775807 := by unfold maxLen at n64; omega
  have m63 : (n' : Int) ≤ 9223372036854775807 := by unfold maxLen at m64; omega
  clear hn hm n64 m64
  by_cases hnn : n = n'
  · subst hnn
    go_enter Tryz.func78, Tryz.ntmps78
    go_wp2
    go_loopw [13] (fun i wr => ∃ k : Nat, k ≤ n ∧ i = .int .i64 k ∧ Below w.heap.size w wr ∧ ∀ j, j < k → l[j]? = m[j]?) (fun i _ => n - (intOf i).toNat)
    case atStart => exact ⟨0, by omega, rfl, Below.refl _ _, fun j hj => absurd hj (Nat.not_lt_zero j)⟩
    case round =>
      obtain ⟨k, hk, rfl, hb, hall⟩ := hrel
      have HALL := Lib.hid hall
      clear hall
      by_cases hlt : k < n
      · have hkg : k < l.length := by have := hN.out; omega
        have hkh : k < m.length := by have := hM.out; omega
        obtain ⟨ad, rfl, hbl, a0, a1, a2, a3, a4, a5⟩ := shots_at (hr.below hb) hN.out k hkg
        obtain ⟨bd, rfl, hbm, c0, c1, c2, c3, c4, c5⟩ := shots_at (hq.below hb) hM.out k hkh
        have HS := Lib.hid (show l = m → l[k]'hkg = m[k]'hkh from fun e => by simp only [e])
        have HT := Lib.hid (show l[k]'hkg = m[k]'hkh → ∀ j, j < k + 1 → l[j]? = m[j]? from fun e j hj => by
          by_cases ej : j = k
          · subst ej
            rw [List.getElem?_eq_getElem hkg, List.getElem?_eq_getElem hkh, e]
          · exact HALL.out j (by omega))
        have hsn := fun W => shot_neq (l[k]'hkg) (m[k]'hkh) W
        have hiff := @Gm.Shot.eqB_iff (l[k]'hkg) (m[k]'hkh)
        generalize l[k]'hkg = s at a0 a1 a2 a3 a4 a5 HS HT hsn hiff
        generalize m[k]'hkh = t at c0 c1 c2 c3 c4 c5 HS HT hsn hiff
        obtain ⟨owner, x, y, vx, vy, left⟩ := s
        obtain ⟨owner2, p, q, vp, vq, left2⟩ := t
        dsimp only at a0 a1 a2 a3 a4 a5 c0 c1 c2 c3 c4 c5
        simp only [Gm.Shot.cells] at hsn
        have hk8 : (k : Int) < n := by omega
        have HBB := Lib.hid hb
        clear hr hq hb
        cases hse : Gm.Shot.eqB ⟨owner, x, y, vx, vy, left⟩ ⟨owner2, p, q, vp, vq, left2⟩
        · rw [hse] at hsn hiff
          have hno := Lib.hid (show ¬ l = m from fun e => by have := hiff.2 (HS.out e); cases this)
          clear hse hiff
          go_upto_region 6 with fail
          go_quiet (fail)
          go_wp2
          go_ret
          exact ⟨by first | exact ⟨false, rfl, by simp; exact hno.out⟩ | exact .inl ⟨rfl, hno.out⟩, draws_below HBB.out _⟩
        · rw [hse] at hsn hiff
          have hn2 := Lib.hid (HT.out (hiff.1 rfl))
          clear hse hiff
          go_upto_region 6 with fail
          go_quiet (fail)
          go_wp2
          go_roundw
          case rel => exact ⟨k + 1, by omega, by go_num, draws_below HBB.out _, hn2.out⟩
          case measure => simp [intOf]; omega
      · have hk8 : ¬ (k : Int) < n := by omega
        have hyes := Lib.hid (show l = m from List.ext_getElem? fun j => by
          by_cases hj : j < n
          · exact HALL.out j (by omega)
          · rw [List.getElem?_eq_none (by have := hN.out; omega), List.getElem?_eq_none (by have := hM.out; omega)])
        have HBB := Lib.hid hb
        clear hr hq hb
        go_wp2
        go_ret
        exact ⟨by first | exact ⟨true, rfl, by simp; exact hyes.out⟩ | exact .inr ⟨rfl, hyes.out⟩, HBB.out⟩
  · have hno := Lib.hid (show ¬ l = m from fun e => hnn (by rw [hN.out, hM.out, e]))
    have hne : ((n : Int) != n') = true := by simp; omega
    clear hr hq hnn
    go_enter Tryz.func78, Tryz.ntmps78
    go_wp2
    go_ret
    exact ⟨by first | exact ⟨false, rfl, by simp; exact hno.out⟩ | exact .inl ⟨rfl, hno.out⟩, Below.refl _ _⟩

set_option maxRecDepth 100000 in
set_option maxHeartbeats 4000000 in
theorem same_any (g h : Gm.G) (A B : Option Addr) (n m c d : Nat) (w : World) (hn : n = g.shots.length) (hm : m = h.shots.length) (hr : Lies w w.heap.size 6 A n (Gm.shotCells g.shots)) (hq : Lies w w.heap.size 6 B m (Gm.shotCells h.shots))
    (n64 : n ≤ maxLen) (m64 : m ≤ maxLen) :
    Calls Tryz.prog 39 #[.agg (Gm.cells g (.slice A n c)), .agg (Gm.cells h (.slice B m d))] w fun e w' => (∃ v, e = .returned (.bool v) ∧ (v = true ↔ Gm.Eq g h)) ∧ Below w.heap.size w w' := by
  have b1 : Box ((w.alloc (.cells (Gm.cells g (.slice A n c)) 28)).alloc (.cells (Gm.cells h (.slice B m d)) 28)) w.heap.size 28 (Gm.cells g (.slice A n c)) := (Box.made _ _ _).alloc _
  have b2 : Box ((w.alloc (.cells (Gm.cells g (.slice A n c)) 28)).alloc (.cells (Gm.cells h (.slice B m d)) 28)) (w.heap.size + 1) 28 (Gm.cells h (.slice B m d)) := Box.made_at _ _ _ (by simp)
  have hb0 := two_below' w (.cells (Gm.cells g (.slice A n c)) 28) (.cells (Gm.cells h (.slice B m d)) 28)
  have ce := Lib.hid (equal_any g.shots h.shots A B n m c d _ hn hm n64 m64 ((hr.below hb0).wider hb0.size) ((hq.below hb0).wider hb0.size))
  have g0 := Gm.cells_0 g (.slice A n c)
  have g1 := Gm.cells_1 g (.slice A n c)
  have g58 := Gm.cells_58 g (.slice A n c)
  have h0 := Gm.cells_0 h (.slice B m d)
  have h1 := Gm.cells_1 h (.slice B m d)
  have h58 := Gm.cells_58 h (.slice B m d)
  have k1 := b1.cell
  have k2 := b2.cell
  have hB1 := Lib.hid b1
  have hB2 := Lib.hid b2
  have HB := Lib.hid hb0
  have HE := Lib.hid (show Gm.Eq g h ↔ g.frame = h.frame ∧ g.dice = h.dice ∧ (∀ i, i < 8 → g.ship i = h.ship i) ∧ g.shots = h.shots from Iff.rfl)
  have hse := @Gm.shipsEq_iff g.ship h.ship
  have hsh := fun W => ships_eql g.ship h.ship W
  generalize Gm.shipsEq g.ship h.ship = z at hse hsh
  clear b1 b2 hb0 hr hq hn hm
  by_cases e1 : g.frame = h.frame
  · rw [← e1] at h0
    by_cases e2 : g.dice = h.dice
    · rw [← e2] at h1
      cases z
      · have hno := Lib.hid (show ¬ Gm.Eq g h from fun e => by have := hse.2 e.2.2.1; cases this)
        clear hse e1 e2 HE ce
        go_enter Tryz.func39, Tryz.ntmps39
        go_wp2_with (first | (refine wpList_load_part_g (by first | rfl | kernel_rfl | simp [Region.wanted, yielded]) (ty := 25) rfl rfl hB1.out _ (ships_part _ _) Tryz.underlying25 rfl ships_info ?_) | (refine wpList_load_part_g (by first | rfl | kernel_rfl | simp [Region.wanted, yielded]) (ty := 25) rfl rfl hB2.out _ (ships_part _ _) Tryz.underlying25 rfl ships_info ?_))
        go_ret
        exact ⟨by first | exact ⟨false, rfl, by simp; exact hno.out⟩ | exact .inl ⟨rfl, hno.out⟩, HB.out⟩
      · have HX := Lib.hid (show g.shots = h.shots ↔ Gm.Eq g h from ⟨fun e => ⟨e1, e2, hse.1 rfl, e⟩, fun e => e.2.2.2⟩)
        clear hse e1 e2 HE
        go_enter Tryz.func39, Tryz.ntmps39
        go_wp2_with (first | (refine wpList_load_part_g (by first | rfl | kernel_rfl | simp [Region.wanted, yielded]) (ty := 25) rfl rfl hB1.out _ (ships_part _ _) Tryz.underlying25 rfl ships_info ?_) | (refine wpList_load_part_g (by first | rfl | kernel_rfl | simp [Region.wanted, yielded]) (ty := 25) rfl rfl hB2.out _ (ships_part _ _) Tryz.underlying25 rfl ships_info ?_) | (go_at_call 78; ((with_reducible refine ((ce).out).mono ?_); rintro e w1 ⟨⟨v, rfl, hv⟩, hb1⟩; have HV := Lib.hid hv; have K1 := Lib.hid (HB.out.trans (hb1.mono HB.out.size)); clear hv hb1)))
        all_goals
          go_ret
          first
            | exact ⟨⟨v, rfl, HV.out.trans HX.out⟩, K1.out⟩
            | exact ⟨HV.out.trans HX.out, K1.out⟩
            | exact ⟨⟨_, rfl, by simp; exact HV.out.trans HX.out⟩, K1.out⟩
            | trace_state
    · have hq2 : (g.dice == h.dice) = false := by simpa using e2
      have hno := Lib.hid (show ¬ Gm.Eq g h from fun e => e2 e.2.1)
      clear hse e1 e2 HE ce
      go_enter Tryz.func39, Tryz.ntmps39
      go_wp2
      go_ret
      exact ⟨by first | exact ⟨false, rfl, by simp; exact hno.out⟩ | exact .inl ⟨rfl, hno.out⟩, HB.out⟩
  · have hq2 : (g.frame == h.frame) = false := by simpa using e1
    have hno := Lib.hid (show ¬ Gm.Eq g h from fun e => e1 e.1)
    clear hse e1 HE ce
    go_enter Tryz.func39, Tryz.ntmps39
    go_wp2
    go_ret
    exact ⟨by first | exact ⟨false, rfl, by simp; exact hno.out⟩ | exact .inl ⟨rfl, hno.out⟩, HB.out⟩

/-- Two states are alike in all parts. -/
def Im.Eq (g h : Gm.G) (r q : Ros.R) : Prop := Gm.Eq g h ∧ r.version = q.version ∧ ∀ k, k < 8 → r.peer k = q.peer k ∧ r.gen k = q.gen k
set_option maxRecDepth 100000 in
set_option maxHeartbeats 4000000 in
theorem foldsame_any (g h : Gm.G) (r q : Ros.R) (A B : Option Addr) (n m c d : Nat) (w : World) (hn : n = g.shots.length) (hm : m = h.shots.length) (hr : Lies w w.heap.size 6 A n (Gm.shotCells g.shots)) (hq : Lies w w.heap.size 6 B m (Gm.shotCells h.shots))
    (n63 : n ≤ maxLen) (m63 : m ≤ maxLen) :
    Calls Tryz.prog 17 #[.agg (Im.cells g (.slice A n c) r), .agg (Im.cells h (.slice B m d) q)] w fun e w' => (∃ v, e = .returned (.bool v) ∧ (v = true ↔ (Gm.Eq g h ∧ r.version = q.version ∧ ∀ k, k < 8 → r.peer k = q.peer k ∧ r.gen k = q.gen k))) ∧ Below w.heap.size w w' := by
  have P0 := Lib.hid ((Box.made w 35 (Im.cells g (.slice A n c) r)).alloc (.cells (Im.cells h (.slice B m d) q) 35))
  have Q0 := Lib.hid (Box.made_at (n := w.heap.size + 1) (w.alloc (.cells (Im.cells g (.slice A n c) r) 35)) 35 (Im.cells h (.slice B m d) q) (by simp))
  have K0 := Lib.hid (two_below' w (.cells (Im.cells g (.slice A n c) r) 35) (.cells (Im.cells h (.slice B m d) q) 35))
  have cg := Lib.hid (same_any g h A B n m c d _ hn hm ((hr.below K0.out).wider K0.out.size) ((hq.below K0.out).wider K0.out.size) n63 m63)
  have he := fun W => ros_eql r q W
  have HI := Lib.hid (show (r.version == q.version && Ros.seatsEq r q) = true ↔ (r.version = q.version ∧ ∀ k, k < 8 → r.peer k = q.peer k ∧ r.gen k = q.gen k) by rw [Bool.and_eq_true, Ros.seatsEq_iff]; simp)
  generalize (r.version == q.version && Ros.seatsEq r q) = E at he HI
  clear hr hq hn hm
  go_enter Tryz.func17, Tryz.ntmps17
  go_wp2_with (first | ((with_reducible refine im_load_game rfl rfl ?_); apply LoadIm.mk rfl; (focus first | (with_reducible exact P0.out) | (with_reducible exact Q0.out)); dsimp only) | ((with_reducible refine im_load_ros_g ?_ rfl ?_); (focus first | rfl | kernel_rfl | simp [Region.wanted, yielded]); apply LoadIm.mk rfl; (focus first | (with_reducible exact P1.out) | (with_reducible exact Q1.out)); dsimp only) | (go_at_call 39; ((with_reducible refine (cg.out).mono ?_); rintro e w1 ⟨⟨v, rfl, hv⟩, hb⟩; have P1 := Lib.hid (P0.out.below hb P0.out.lt); have Q1 := Lib.hid (Q0.out.below hb Q0.out.lt); have K1 := Lib.hid (K0.out.trans (hb.mono K0.out.size)); have HV := Lib.hid hv; clear hb hv; cases v)))
  all_goals
    go_ret
    first
      | exact ⟨⟨false, rfl, by simp only [Bool.false_eq_true, false_iff]; exact fun x => by have := HV.out.2 x.1; simp at this⟩, K1.out⟩
      | exact ⟨⟨E, rfl, HI.out.trans ⟨fun x => ⟨HV.out.1 (by first | trivial | rfl), x⟩, fun x => x.2⟩⟩, K1.out⟩
      | exact ⟨by simp; exact fun x => absurd (HV.out.2 x) (by simp), K1.out⟩
      | exact ⟨by simp; exact HI.out.trans ⟨fun x => ⟨HV.out.1 (by first | trivial | rfl), x⟩, fun x => x.2⟩, K1.out⟩
      | trace_state
end Go.Proofs.YtiahpncglpfjeaaGreat
