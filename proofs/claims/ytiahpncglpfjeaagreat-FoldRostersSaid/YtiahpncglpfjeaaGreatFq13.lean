/-
Several texts in one: Ra Rat Sj Si Sk.
-/
import Derived.Test.YtiahpncglpfjeaaGreatFq12
namespace Go.Proofs.YtiahpncglpfjeaaGreat
open Go.RowKit Go.Shelf
set_option linter.unusedVariables false
set_option linter.unusedSimpArgs false


/-- What lies there while the document does an entry. -/
structure Pa (w : World) (g0 : Gm.G) (s0 : Value) (r0 : Ros.R) (e : En.E) (sl : Value) (Bn : Nat) (g : Gm.G) (s : Value) (r : Ros.R) (W : World) : Prop where
  st : Box W w.heap.size 35 (Im.cells g0 s0 r0)
  en : Box W (w.heap.size + 1) 42 (En.cells e sl)
  out : Box W (w.heap.size + 1 + 1) 35 Im.zero
  nx : Box W Bn 35 (Im.cells g s r)
  far : w.heap.size + 1 + 1 < Bn
  below : Below w.heap.size w W
section
variable {w W W' : World} {g0 g : Gm.G} {s0 s : Value} {r0 r : Ros.R} {e : En.E} {sl : Value} {Bn : Nat}
theorem Pa.call (h : Pa w g0 s0 r0 e sl Bn g s r W) (hb : Below W.heap.size W W') : Pa w g0 s0 r0 e sl Bn g s r W' :=
  ⟨h.st.below hb h.st.lt, h.en.below hb h.en.lt, h.out.below hb h.out.lt, h.nx.below hb h.nx.lt, h.far, h.below.trans (hb.mono h.below.size)⟩
theorem Pa.alloc (h : Pa w g0 s0 r0 e sl Bn g s r W) (o : Obj) : Pa w g0 s0 r0 e sl Bn g s r (W.alloc o) := h.call (one_below W o)
theorem Pa.store {g' : Gm.G} {s' : Value} {r' : Ros.R} (h : Pa w g0 s0 r0 e sl Bn g s r W) : Pa w g0 s0 r0 e sl Bn g' s' r' (W.setRow Bn (Im.cells g' s' r')) :=
  ⟨h.st.row_far (by have := h.far; omega) _, h.en.row_far (by have := h.far; omega) _, h.out.row_far (by have := h.far; omega) _, h.nx.row _, h.far, Below.setRow' h.below (by have := h.far; omega) _⟩
theorem Pa.game {B' : Nat} {cs : Array Value} {c0 : Array Value} (h : Pa w g0 s0 r0 e sl Bn g s r W) (hG : Box W B' 28 c0) (hl : w.heap.size ≤ B') : Pa w g0 s0 r0 e sl Bn g s r (W.setRow B' cs) :=
  ⟨h.st.row_far (Box.apart h.st hG (by decide)) _, h.en.row_far (Box.apart h.en hG (by decide)) _, h.out.row_far (Box.apart h.out hG (by decide)) _, h.nx.row_far (Box.apart h.nx hG (by decide)) _, h.far, Below.setRow' h.below hl _⟩
end
theorem refspawn_out (g : Gm.G) (A : Option Addr) (n c i : Nat) (w : World) (hg : Gm.ok g) (hd : 0 ≤ g.dice ∧ g.dice ≤ 18446744073709551615) (hn : n = g.shots.length) (hr : Lies w w.heap.size 6 A n (Gm.shotCells g.shots)) (hi : i < 8) (ho : (g.ship i).on = false) :
    Calls Tryz.prog 33 #[.agg (Gm.cells g (.slice A n c)), .int .i64 i] w (Out (Gm.spawn g i) 0 w) :=
  (refspawn_yes g A n c i w hg hd hn hr hi ho).mono fun e w' h => ⟨A, c, by rw [h.1, hn]; rfl, by have := hr.call h.2; rw [hn] at this; exact this, h.2⟩
theorem in_neq10 (x y b : Int) (w : World) : (binOp .neq 39 (.agg #[.int .i8 x, .int .i8 y, .int .u8 b]) (.agg #[.int .i8 0, .int .i8 0, .int .u8 0])).run Tryz.prog w = .ok (.bool (!En.zero ⟨x, y, b⟩)) w := by
  have h : (Op.equalIn 10000 39 (.agg #[.int .i8 x, .int .i8 y, .int .u8 b]) (.agg #[.int .i8 0, .int .i8 0, .int .u8 0])).run Tryz.prog w = .ok (En.zero ⟨x, y, b⟩) w := by
    by_cases h1 : x = 0
    · by_cases h2 : y = 0
      · by_cases h3 : b = 0
        · subst h1 h2 h3; go_simp <;> simp [En.zero]
        · have h4 : (b == 0) = false := by simpa using h3
          subst h1 h2; go_simp <;> simp [h4, h3, En.zero]
      · have h4 : (y == 0) = false := by simpa using h2
        subst h1; go_simp <;> simp [h4, h2, En.zero]
    · have h4 : (x == 0) = false := by simpa using h1
      go_simp <;> simp [h4, h1, En.zero]
  generalize #[Value.int .i8 x, .int .i8 y, .int .u8 b] = F at *
  generalize #[Value.int .i8 0, .int .i8 0, .int .u8 0] = G at *
  go_simp
/-- What an entry leaves, to the document. -/
def RefBehind (s : Fd.S) (e : En.E) (w : World) (r : Ending) (w' : World) : Prop :=
  (∃ u, Fd.apply s e = some u ∧ SOut u.g u.r 0 w r w') ∨ (Fd.apply s e = none ∧ SOut s.g s.r 1 w r w')
theorem refbehind_is {s u : Fd.S} {e : En.E} {w w' : World} {r : Ending} (h : Fd.apply s e = some u) (hB : RefBehind s e w r w') : SOut u.g u.r 0 w r w' := by
  unfold RefBehind at hB
  rw [h] at hB
  rcases hB with ⟨v, hv, h2⟩ | ⟨hno, _⟩
  · obtain rfl : u = v := Option.some.inj hv
    exact h2
  · cases hno
theorem refbehind_not {s : Fd.S} {e : En.E} {w w' : World} {r : Ending} (h : Fd.apply s e = none) (hB : RefBehind s e w r w') : SOut s.g s.r 1 w r w' := by
  unfold RefBehind at hB
  rw [h] at hB
  rcases hB with ⟨v, hv, h2⟩ | ⟨_, h2⟩
  · cases hv
  · exact h2
set_option maxRecDepth 100000 in
set_option maxHeartbeats 4000000 in
theorem refapply_may (s : Fd.S) (e : En.E) (A A2 : Option Addr) (n c m c2 : Nat) (w : World) (hty : Gm.ty s.g) (hn63 : n ≤ maxLen) (hn : n = s.g.shots.length) (hr : Lies w w.heap.size 6 A n (Gm.shotCells s.g.shots)) (hm : m = e.evs.length) (hm63 : m ≤ maxLen) (hE : Lies w w.heap.size 4 A2 m (En.evCells e.evs)) (hin : ∀ i, i < 8 → Gm.tyIn (e.inp i)) (hno : ¬ Fd.May s e) :
    Calls Tryz.prog 13 #[.agg (Im.cells s.g (.slice A n c) s.r), .agg (En.cells e (.slice A2 m c2))] w (SOut s.g s.r 1 w) := by
  have B0 := Lib.hid (bh_start w s.g (.slice A n c) s.r e (.slice A2 m c2))
  have L0 := Lib.hid ((hr.below B0.out.below).wider B0.out.below.size)
  have E0 := Lib.hid ((hE.below B0.out.below).wider B0.out.below.size)
  have cm := Lib.hid (refstate_any s.g s.r A n c _ hty hn hn63 L0.out)
  have ce := fun X hX => Lib.hid (refmayen_any e A2 m c2 X hm hm63 hin hX)
  have hN := Lib.hid hn
  by_cases hok : Im.Ok s.g s.r
  · have HOK := Lib.hid hok
    by_cases hen : En.Ok e
    · have hfr : (e.frame != s.g.frame) = true := by simpa using fun h => hno ⟨hok, hen, h⟩
      simp only [decide_eq_true hen] at ce
      have hs0 : (Im.cells s.g (.slice A n c) s.r)[0]? = some (.int .i64 s.g.frame) := (Im.cells_g _ _ _ 0 (by omega)).trans (Gm.cells_0 _ _)
      have he0 := En.cells_0 e (.slice A2 m c2)
      clear hok hen hno hr hn hm hm63 hE hty
      go_enter Tryz.func13, Tryz.ntmps13
      go_wp2_with (first | (with_reducible refine alloc_state rfl rfl ?_) | ((with_reducible refine im_load_state rfl rfl ?_); apply LoadIm.mk rfl; (focus first | (with_reducible exact B0.out.st) | (with_reducible exact B2.out.st)); dsimp only) | (go_at_call 15; ((with_reducible refine ((cm).out).mono ?_); rintro x w1 ⟨⟨v, rfl, hv⟩, hb⟩; obtain rfl : v = true := hv.2 HOK.out; have B1 := Lib.hid (B0.out.call hb); have E1 := Lib.hid ((E0.out.below hb).wider hb.size); have L1 := Lib.hid (L0.out.call hb); clear hb hv)) | ((with_reducible refine en_load_g ?_ rfl ?_); (focus first | rfl | (simp [Region.wanted, yielded]; done)); apply LoadEn.mk rfl; (focus (with_reducible exact B1.out.en)); dsimp only) | (go_at_call 30; ((with_reducible refine ((ce _ E1.out).out).mono ?_); rintro x w2 ⟨rfl, hb⟩; have B2 := Lib.hid (B1.out.call hb); have k2s := B2.out.st.cell 0; have k2e := B2.out.en.cell 0; have L2 := Lib.hid (L1.out.call hb); clear hb)) | ((with_reducible refine im_store_state rfl rfl ?_); apply StoreS.mk rfl rfl; (focus (with_reducible exact B2.out.out)); (focus (exact Im.zero_size)); (focus rfl)))
      have hn := hN.out
      subst hn
      refine bodyPost_ret (v := .tuple #[.agg (Im.cells s.g (.slice A s.g.shots.length c) s.r), .int .i64 1]) ?_ ?_ ?_
      · exact results_cell_tmp (p := 4) (q := 5) rfl _ _ _ _ (Im.cells s.g (.slice A s.g.shots.length c) s.r) _ rfl (Box.row B2.out.out _) Tryz.underlying35 rfl (by rw [Im.cells_size]; exact state_info)
      · rfl
      · exact ⟨A, c, rfl, L2.out.zero_row rfl B2.out.out _, Below.setRow' B2.out.below (by omega) _⟩
    · simp only [decide_eq_false hen] at ce
      clear hok hen hno hr hn hm hm63 hE hty
      go_enter Tryz.func13, Tryz.ntmps13
      go_wp2_with (first | (with_reducible refine alloc_state rfl rfl ?_) | ((with_reducible refine im_load_state rfl rfl ?_); apply LoadIm.mk rfl; (focus first | (with_reducible exact B0.out.st) | (with_reducible exact B2.out.st)); dsimp only) | (go_at_call 15; ((with_reducible refine ((cm).out).mono ?_); rintro x w1 ⟨⟨v, rfl, hv⟩, hb⟩; obtain rfl : v = true := hv.2 HOK.out; have B1 := Lib.hid (B0.out.call hb); have E1 := Lib.hid ((E0.out.below hb).wider hb.size); have L1 := Lib.hid (L0.out.call hb); clear hb hv)) | ((with_reducible refine en_load_g ?_ rfl ?_); (focus first | rfl | (simp [Region.wanted, yielded]; done)); apply LoadEn.mk rfl; (focus (with_reducible exact B1.out.en)); dsimp only) | (go_at_call 30; ((with_reducible refine ((ce _ E1.out).out).mono ?_); rintro x w2 ⟨rfl, hb⟩; have B2 := Lib.hid (B1.out.call hb); have k2s := B2.out.st.cell 0; have k2e := B2.out.en.cell 0; have L2 := Lib.hid (L1.out.call hb); clear hb)) | ((with_reducible refine im_store_state rfl rfl ?_); apply StoreS.mk rfl rfl; (focus (with_reducible exact B2.out.out)); (focus (exact Im.zero_size)); (focus rfl)))
      have hn := hN.out
      subst hn
      refine bodyPost_ret (v := .tuple #[.agg (Im.cells s.g (.slice A s.g.shots.length c) s.r), .int .i64 1]) ?_ ?_ ?_
      · exact results_cell_tmp (p := 4) (q := 5) rfl _ _ _ _ (Im.cells s.g (.slice A s.g.shots.length c) s.r) _ rfl (Box.row B2.out.out _) Tryz.underlying35 rfl (by rw [Im.cells_size]; exact state_info)
      · rfl
      · exact ⟨A, c, rfl, L2.out.zero_row rfl B2.out.out _, Below.setRow' B2.out.below (by omega) _⟩
  · have HOK := Lib.hid hok
    clear hok hno hr hn hm hm63 hE hty
    go_enter Tryz.func13, Tryz.ntmps13
    go_wp2_with (first | (with_reducible refine alloc_state rfl rfl ?_) | ((with_reducible refine im_load_state rfl rfl ?_); apply LoadIm.mk rfl; (focus first | (with_reducible exact B0.out.st) | (with_reducible exact B1.out.st)); dsimp only) | (go_at_call 15; ((with_reducible refine ((cm).out).mono ?_); rintro x w1 ⟨⟨v, rfl, hv⟩, hb⟩; obtain rfl : v = false := (by cases v <;> first | rfl | exact absurd (hv.1 rfl) HOK.out); have B1 := Lib.hid (B0.out.call hb); have E1 := Lib.hid ((E0.out.below hb).wider hb.size); have L1 := Lib.hid (L0.out.call hb); clear hb hv)) | ((with_reducible refine im_store_state rfl rfl ?_); apply StoreS.mk rfl rfl; (focus (with_reducible exact B1.out.out)); (focus (exact Im.zero_size)); (focus rfl)))
    have hn := hN.out
    subst hn
    refine bodyPost_ret (v := .tuple #[.agg (Im.cells s.g (.slice A s.g.shots.length c) s.r), .int .i64 1]) ?_ ?_ ?_
    · exact results_cell_tmp (p := 4) (q := 5) rfl _ _ _ _ (Im.cells s.g (.slice A s.g.shots.length c) s.r) _ rfl (Box.row B1.out.out _) Tryz.underlying35 rfl (by rw [Im.cells_size]; exact state_info)
    · rfl
    · exact ⟨A, c, rfl, L1.out.zero_row rfl B1.out.out _, Below.setRow' B1.out.below (by omega) _⟩

set_option maxRecDepth 100000 in
set_option maxHeartbeats 8000000 in
theorem refapply_go (s : Fd.S) (e : En.E) (A A2 : Option Addr) (n c m c2 : Nat) (w : World) (hty : Gm.ty s.g) (hn63 : n ≤ maxLen) (hn : n = s.g.shots.length) (hr : Lies w w.heap.size 6 A n (Gm.shotCells s.g.shots)) (hm : m = e.evs.length) (hm63 : m ≤ maxLen) (hE : Lies w w.heap.size 4 A2 m (En.evCells e.evs)) (hin : ∀ i, i < 8 → Gm.tyIn (e.inp i)) (hmay : Fd.May s e) :
    Calls Tryz.prog 13 #[.agg (Im.cells s.g (.slice A n c) s.r), .agg (En.cells e (.slice A2 m c2))] w (RefBehind s e w) := by
  have B0 := Lib.hid (bh_start w s.g (.slice A n c) s.r e (.slice A2 m c2))
  have L0 := Lib.hid ((hr.below B0.out.below).wider B0.out.below.size)
  have E0 := Lib.hid ((hE.below B0.out.below).wider B0.out.below.size)
  have cm := Lib.hid (refstate_any s.g s.r A n c _ hty hn hn63 L0.out)
  have ce := fun X hX => Lib.hid (refmayen_any e A2 m c2 X hm hm63 hin hX)
  have hfine : Fd.Fine s := ⟨hmay.1, hty.2.1⟩
  have HF := Lib.hid hfine
  have HM := Lib.hid hmay
  have HE := Lib.hid hE
  have HR := Lib.hid hr
  have hN := Lib.hid hn
  have hMN := Lib.hid hm
  have m63 : (m : Int) ≤ 9223372036854775807 := by unfold maxLen at hm63; omega
  have hfr : (e.frame != s.g.frame) = false := by simpa using hmay.2.2
  simp only [decide_eq_true hmay.2.1] at ce
  have hs0 : (Im.cells s.g (.slice A n c) s.r)[0]? = some (.int .i64 s.g.frame) := (Im.cells_g _ _ _ 0 (by omega)).trans (Gm.cells_0 _ _)
  have he0 := En.cells_0 e (.slice A2 m c2)
  clear hmay hr hn hm hm63 hE hty hfine
  go_enter Tryz.func13, Tryz.ntmps13
  go_upto_region 4 with (first | (with_reducible refine alloc_state rfl rfl ?_) | ((with_reducible refine im_load_state rfl rfl ?_); apply LoadIm.mk rfl; (focus first | (with_reducible exact B0.out.st) | (with_reducible exact B2.out.st)); dsimp only) | (go_at_call 15; ((with_reducible refine ((cm).out).mono ?_); rintro x w1 ⟨⟨v, rfl, hv⟩, hb⟩; obtain rfl : v = true := hv.2 HM.out.1; have B1 := Lib.hid (B0.out.call hb); have E1 := Lib.hid ((E0.out.below hb).wider hb.size); have L1 := Lib.hid (L0.out.call hb); clear hb hv)) | ((with_reducible refine en_load_g ?_ rfl ?_); (focus first | rfl | (simp [Region.wanted, yielded]; done)); apply LoadEn.mk rfl; (focus (with_reducible exact B1.out.en)); dsimp only) | (go_at_call 30; ((with_reducible refine ((ce _ E1.out).out).mono ?_); rintro x w2 ⟨rfl, hb⟩; have B2 := Lib.hid (B1.out.call hb); have k2s := B2.out.st.cell 0; have k2e := B2.out.en.cell 0; have P2 := Lib.hid (show Pa w s.g (.slice A n c) s.r e (.slice A2 m c2) w2.heap.size s.g (.slice A n c) s.r (w2.alloc (.cells (Im.cells s.g (.slice A n c) s.r) 35)) from ⟨B2.out.st.alloc _, B2.out.en.alloc _, B2.out.out.alloc _, Box.made _ _ _, B2.out.out.lt, B2.out.below.alloc B2.out.below.size _⟩); have L2 := Lib.hid ((L1.out.call hb).call (one_below w2 (.cells (Im.cells s.g (.slice A n c) s.r) 35))); clear hb)) | (with_reducible refine im_store_new rfl rfl rfl rfl Im.zero_size rfl ?_))
  clear B0 L0 E0 cm ce B1 E1 L1 B2 k2s k2e hs0 he0 hfr
  have hn := hN.out
  subst hn
  generalize hW2 : w2.alloc (.cells (Im.cells s.g (.slice A s.g.shots.length c) s.r) 35) = W2 at P2 L2 ⊢
  generalize w2.heap.size = Bn at P2 ⊢
  clear hW2
  go_wp2
  go_loopw [7] (fun i wr => ∃ (k : Nat) (t : Fd.S) (A' : Option Addr) (c' : Nat), k ≤ m ∧ i = .int .i64 k ∧ Fd.changes s (e.evs.take k) = some t ∧ Pa w s.g (.slice A s.g.shots.length c) s.r e (.slice A2 m c2) Bn t.g (.slice A' t.g.shots.length c') t.r wr ∧ Lies wr wr.heap.size 6 A' t.g.shots.length (Gm.shotCells t.g.shots)) (fun i _ => m - (intOf i).toNat)
  case atStart => exact ⟨0, s, A, c, Nat.zero_le _, rfl, rfl, P2.out, L2.out⟩
  case round =>
    obtain ⟨k, t, A', c', hk, rfl, hch, hB, hL⟩ := hrel
    clear P2 L2
    have en1 := (hB.en.cell 1).trans (En.cells_1 e (.slice A2 m c2))
    by_cases hlt : k < m
    · have hk8 : (k : Int) < m := by omega
      have hkl : k < e.evs.length := by have := hMN.out; omega
      obtain ⟨ad, rfl, hbl, e0, e1, e2, e3⟩ := evs_at (HE.out.below hB.below) hMN.out k hkl
      have hok := En.row_mem e.evs (-1) HM.out.2.1.row e.evs[k] (List.getElem_mem hkl)
      have hft := (HF.out.changes hch).1
      have hgo := Lib.hid (fun hv : Fd.MayEv t e.evs[k] => Fd.changes_go hkl hch hv)
      have hst := Lib.hid (fun hv : ¬ Fd.MayEv t e.evs[k] => Fd.apply_stop HM.out (Fd.changes_stop hkl hch hv))
      have cy' := fun X (hv : Fd.MayEv t e.evs[k]) => Lib.hid (refevent_yes t e.evs[k] X hv)
      have cn' := fun X (hv : ¬ Fd.MayEv t e.evs[k]) => Lib.hid (refevent_no t e.evs[k] X hok hv)
      have HFT := Lib.hid hft
      generalize hv : e.evs[k] = v at e0 e1 e2 e3 hgo hst cy' cn' hok
      have sz := hB.below.size
      have ltA : ad.block < wr.heap.size := by omega
      have ltP : Bn < wr.heap.size := hB.nx.lt
      have P4 := fun o => Lib.hid (hB.alloc o)
      have L4 := fun o => Lib.hid (hL.call (one_below wr o))
      have V4 := Lib.hid (Box.made wr 61 #[.int .i64 v.kind, .int .i64 v.slot, .int .i64 v.gen, .int .i64 v.peer])
      have r0 := (HR.out.below hB.below)
      have L0 := Lib.hid r0
      clear r0
      by_cases hev : Fd.MayEv t v
      · have cs := fun X => cy' X hev
        have HG := Lib.hid (hgo.out hev)
        clear hgo hst cy' cn' hv hok hch hB hL hft
        rcases hev with ⟨hk1, ht, hg1⟩ | ⟨hk1, ht, hp1, hg1⟩
        · obtain ⟨j, hj8, ej, ej', hpj, ht', hp0⟩ := Fd.take_on ht
          have hau : Fd.after t v = ⟨Gm.spawn t.g j, Ros.take t.r j v.peer⟩ := by unfold Fd.after; rw [if_pos hk1, ej']
          have hoff : (t.g.ship j).on = false := (HFT.out.ok.2.2 j hj8).trans (decide_eq_false (by omega))
          have cg := fun X hX => Lib.hid (refspawn_out t.g A' t.g.shots.length c' j X HFT.out.ok.1 HFT.out.dice rfl hX hj8 hoff)
          rw [hau] at HG
          simp only [hau] at cs
          obtain ⟨vk, vs, vg, vp⟩ := v
          dsimp only at e0 e1 e2 e3 cs hk1 ej V4 HG
          subst hk1 ej
          clear ht ht' hg1 hpj hp0 hau hoff ej'
          generalize hRR : Ros.take t.r j vp = RR at cs HG
          generalize hGG : Gm.spawn t.g j = GG at cg HG
          clear hRR hGG
          go_upto_region 12 with (first | ((with_reducible refine row_load rfl rfl Tryz.underlying61 rfl ?_); apply LoadRow.mk rfl; (focus (with_reducible exact V4.out)); (focus (exact ev4_size))) | ((with_reducible refine im_load_ros rfl rfl ?_); apply LoadIm.mk rfl; (focus (with_reducible exact (P4 _).out.nx)); dsimp only) | (go_at_call 31; ((with_reducible refine ((cs _).out).mono ?_); rintro x w5 ⟨rfl, hb⟩; have P5 := Lib.hid (((P4 _).out.call hb).alloc (.cells (Ros.cells RR) 33)); have V5 := Lib.hid ((V4.out.below hb V4.out.lt).alloc (.cells (Ros.cells RR) 33)); have R5 := Lib.hid (Box.made w5 33 (Ros.cells RR)); have L5 := Lib.hid (((L4 _).out.call hb).call (one_below w5 (.cells (Ros.cells RR) 33))); have P6 := Lib.hid (P5.out.store (g' := t.g) (s' := .slice A' t.g.shots.length c') (r' := RR)); have V6 := Lib.hid (V5.out.row_far (Box.apart V5.out P5.out.nx (by decide)) (Im.cells t.g (.slice A' t.g.shots.length c') RR)); have L6 := Lib.hid (L5.out.state_row rfl P5.out.nx (Im.cells t.g (.slice A' t.g.shots.length c') RR)); clear hb)) | (with_reducible refine ros_alloc rfl rfl ?_) | ((with_reducible refine ros_store_new rfl rfl rfl rfl rfl ?_)) | ((with_reducible refine ros_load rfl rfl ?_); apply LoadRow.mk rfl; (focus (with_reducible exact R5.out)); (focus (exact ros_info))) | ((with_reducible refine im_store_ros rfl rfl ?_); apply StoreR.mk rfl rfl; (focus (with_reducible exact P5.out.nx))))
          generalize hW6 : (w5.alloc (.cells (Ros.cells RR) 33)).setRow Bn (Im.cells t.g (.slice A' t.g.shots.length c') RR) = W6 at P6 V6 L6 ⊢
          clear hW6 P5 V5 L5 R5 P4 V4 L4 cs e0 e1 e2 e3
          have P7 := Lib.hid (P6.out.alloc (.cells (Gm.cells t.g (.slice A' t.g.shots.length c')) 28))
          have V7 := Lib.hid (V6.out.alloc (.cells (Gm.cells t.g (.slice A' t.g.shots.length c')) 28))
          have L7 := Lib.hid (L6.out.call (one_below W6 (.cells (Gm.cells t.g (.slice A' t.g.shots.length c')) 28)))
          have G7 := Lib.hid (Box.made W6 28 (Gm.cells t.g (.slice A' t.g.shots.length c')))
          have z7 := Lib.hid P6.out.below.size
          go_upto_region 13 with (first | ((with_reducible refine im_load_game rfl rfl ?_); apply LoadIm.mk rfl; (focus (with_reducible exact P6.out.nx)); dsimp only) | (refine wpList_alloc_game rfl rfl ?_) | (refine wpList_store_game_new rfl rfl rfl rfl rfl rfl ?_))
          try simp only [World.size_alloc]
          generalize hW7 : W6.alloc (.cells (Gm.cells t.g (.slice A' t.g.shots.length c')) 28) = W7 at P7 V7 L7 G7 ⊢
          generalize W6.heap.size = bg at G7 z7 ⊢
          clear hW7 P6 V6 L6
          have v7 := V7.out.cell
          go_upto_region 16 with (first | ((with_reducible refine load_gate rfl rfl ?_); apply LoadGame.mk rfl; (with_reducible exact G7.out)) | (go_at_call 33; ((with_reducible refine ((cg _ L7.out).out).mono ?_); rintro x w8 ⟨A8, c8, rfl, hL8, hb⟩; have P8 := Lib.hid (P7.out.call hb); have G8 := Lib.hid (G7.out.below hb G7.out.lt); have L8 := Lib.hid hL8; clear hb hL8)) | ((with_reducible refine store_gate rfl rfl ?_); apply StoreGame.mk rfl rfl rfl; (with_reducible exact G8.out)))
          have P9 := Lib.hid (P8.out.game (cs := Gm.cells GG (.slice A8 GG.shots.length c8)) G8.out z7.out)
          have G9 := Lib.hid (G8.out.row (Gm.cells GG (.slice A8 GG.shots.length c8)))
          have L9 := Lib.hid (L8.out.game_row rfl G8.out (Gm.cells GG (.slice A8 GG.shots.length c8)))
          try simp only [World.size_alloc]
          generalize hW9 : w8.setRow bg (Gm.cells GG (.slice A8 GG.shots.length c8)) = W9 at P9 G9 L9 ⊢
          clear hW9 P8 G8 L8 P7 V7 L7 G7 v7 cg
          have P10 := Lib.hid (P9.out.store (g' := GG) (s' := .slice A8 GG.shots.length c8) (r' := RR))
          have L10 := Lib.hid (L9.out.state_row rfl P9.out.nx (Im.cells GG (.slice A8 GG.shots.length c8) RR))
          go_wp2_with (first | ((with_reducible refine load_gate rfl rfl ?_); apply LoadGame.mk rfl; (with_reducible exact G9.out)) | ((with_reducible refine im_store_game rfl rfl ?_); apply StoreG.mk rfl rfl; (focus (with_reducible exact P9.out.nx)); (focus rfl)))
          go_roundw
          case rel => exact ⟨k + 1, ⟨GG, RR⟩, A8, c8, by omega, by go_num, HG.out, P10.out, L10.out⟩
          case measure => simp [intOf]; omega
        · obtain ⟨j, hj8, ej, ej', hpj, ht'⟩ := Fd.give_on ht
          have hau : Fd.after t v = ⟨Gm.remove t.g j, Ros.give t.r j⟩ := by unfold Fd.after; rw [if_neg (by omega), ej']
          have hon : (t.g.ship j).on = true := (HFT.out.ok.2.2 j hj8).trans (decide_eq_true hpj)
          have cg := fun X hX => Lib.hid (refremove_yes t.g A' t.g.shots.length c' j X HFT.out.ok.1 rfl hX hj8 hon)
          rw [hau] at HG
          simp only [hau] at cs
          obtain ⟨vk, vs, vg, vp⟩ := v
          dsimp only at e0 e1 e2 e3 cs hk1 ej V4 HG
          subst hk1 ej
          clear ht ht' hg1 hpj hp1 hau hon ej'
          generalize hRR : Ros.give t.r j = RR at cs HG
          generalize hGG : Gm.remove t.g j = GG at cg HG
          clear hRR hGG
          go_upto_region 12 with (first | ((with_reducible refine row_load rfl rfl Tryz.underlying61 rfl ?_); apply LoadRow.mk rfl; (focus (with_reducible exact V4.out)); (focus (exact ev4_size))) | ((with_reducible refine im_load_ros rfl rfl ?_); apply LoadIm.mk rfl; (focus (with_reducible exact (P4 _).out.nx)); dsimp only) | (go_at_call 31; ((with_reducible refine ((cs _).out).mono ?_); rintro x w5 ⟨rfl, hb⟩; have P5 := Lib.hid (((P4 _).out.call hb).alloc (.cells (Ros.cells RR) 33)); have V5 := Lib.hid ((V4.out.below hb V4.out.lt).alloc (.cells (Ros.cells RR) 33)); have R5 := Lib.hid (Box.made w5 33 (Ros.cells RR)); have L5 := Lib.hid (((L4 _).out.call hb).call (one_below w5 (.cells (Ros.cells RR) 33))); have P6 := Lib.hid (P5.out.store (g' := t.g) (s' := .slice A' t.g.shots.length c') (r' := RR)); have V6 := Lib.hid (V5.out.row_far (Box.apart V5.out P5.out.nx (by decide)) (Im.cells t.g (.slice A' t.g.shots.length c') RR)); have L6 := Lib.hid (L5.out.state_row rfl P5.out.nx (Im.cells t.g (.slice A' t.g.shots.length c') RR)); clear hb)) | (with_reducible refine ros_alloc rfl rfl ?_) | ((with_reducible refine ros_store_new rfl rfl rfl rfl rfl ?_)) | ((with_reducible refine ros_load rfl rfl ?_); apply LoadRow.mk rfl; (focus (with_reducible exact R5.out)); (focus (exact ros_info))) | ((with_reducible refine im_store_ros rfl rfl ?_); apply StoreR.mk rfl rfl; (focus (with_reducible exact P5.out.nx))))
          generalize hW6 : (w5.alloc (.cells (Ros.cells RR) 33)).setRow Bn (Im.cells t.g (.slice A' t.g.shots.length c') RR) = W6 at P6 V6 L6 ⊢
          clear hW6 P5 V5 L5 R5 P4 V4 L4 cs e0 e1 e2 e3
          have P7 := Lib.hid (P6.out.alloc (.cells (Gm.cells t.g (.slice A' t.g.shots.length c')) 28))
          have V7 := Lib.hid (V6.out.alloc (.cells (Gm.cells t.g (.slice A' t.g.shots.length c')) 28))
          have L7 := Lib.hid (L6.out.call (one_below W6 (.cells (Gm.cells t.g (.slice A' t.g.shots.length c')) 28)))
          have G7 := Lib.hid (Box.made W6 28 (Gm.cells t.g (.slice A' t.g.shots.length c')))
          have z7 := Lib.hid P6.out.below.size
          go_upto_region 13 with (first | ((with_reducible refine im_load_game rfl rfl ?_); apply LoadIm.mk rfl; (focus (with_reducible exact P6.out.nx)); dsimp only) | (refine wpList_alloc_game rfl rfl ?_) | (refine wpList_store_game_new rfl rfl rfl rfl rfl rfl ?_))
          try simp only [World.size_alloc]
          generalize hW7 : W6.alloc (.cells (Gm.cells t.g (.slice A' t.g.shots.length c')) 28) = W7 at P7 V7 L7 G7 ⊢
          generalize W6.heap.size = bg at G7 z7 ⊢
          clear hW7 P6 V6 L6
          have v7 := V7.out.cell
          go_upto_region 16 with (first | ((with_reducible refine load_gate rfl rfl ?_); apply LoadGame.mk rfl; (with_reducible exact G7.out)) | (go_at_call 32; ((with_reducible refine ((cg _ L7.out).out).mono ?_); rintro x w8 ⟨A8, c8, rfl, hL8, hb⟩; have P8 := Lib.hid (P7.out.call hb); have G8 := Lib.hid (G7.out.below hb G7.out.lt); have L8 := Lib.hid hL8; clear hb hL8)) | ((with_reducible refine store_gate rfl rfl ?_); apply StoreGame.mk rfl rfl rfl; (with_reducible exact G8.out)))
          have P9 := Lib.hid (P8.out.game (cs := Gm.cells GG (.slice A8 GG.shots.length c8)) G8.out z7.out)
          have G9 := Lib.hid (G8.out.row (Gm.cells GG (.slice A8 GG.shots.length c8)))
          have L9 := Lib.hid (L8.out.game_row rfl G8.out (Gm.cells GG (.slice A8 GG.shots.length c8)))
          try simp only [World.size_alloc]
          generalize hW9 : w8.setRow bg (Gm.cells GG (.slice A8 GG.shots.length c8)) = W9 at P9 G9 L9 ⊢
          clear hW9 P8 G8 L8 P7 V7 L7 G7 v7 cg
          have P10 := Lib.hid (P9.out.store (g' := GG) (s' := .slice A8 GG.shots.length c8) (r' := RR))
          have L10 := Lib.hid (L9.out.state_row rfl P9.out.nx (Im.cells GG (.slice A8 GG.shots.length c8) RR))
          go_wp2_with (first | ((with_reducible refine load_gate rfl rfl ?_); apply LoadGame.mk rfl; (with_reducible exact G9.out)) | ((with_reducible refine im_store_game rfl rfl ?_); apply StoreG.mk rfl rfl; (focus (with_reducible exact P9.out.nx)); (focus rfl)))
          go_roundw
          case rel => exact ⟨k + 1, ⟨GG, RR⟩, A8, c8, by omega, by go_num, HG.out, P10.out, L10.out⟩
          case measure => simp [intOf]; omega
      · have cs := fun X => cn' X hev
        have HG := Lib.hid (hst.out hev)
        obtain ⟨vk, vs, vg, vp⟩ := v
        dsimp only at e0 e1 e2 e3 cs V4
        clear hgo hst cy' cn' hv hev hok hch hB hL hft
        go_wp2_with (first | ((with_reducible refine row_load rfl rfl Tryz.underlying61 rfl ?_); apply LoadRow.mk rfl; (focus (with_reducible exact V4.out)); (focus (exact ev4_size))) | ((with_reducible refine im_load_ros rfl rfl ?_); apply LoadIm.mk rfl; (focus (with_reducible exact (P4 _).out.nx)); dsimp only) | (go_at_call 31; ((with_reducible refine ((cs _).out).mono ?_); rintro x w5 ⟨rfl, hb⟩; have P5 := Lib.hid (((P4 _).out.call hb).alloc (.cells (Ros.cells t.r) 33)); have L5 := Lib.hid (((L0.out.below ((one_below wr _).mono sz)).below (hb.mono (Nat.le_trans sz (one_below wr _).size))).below ((one_below w5 (.cells (Ros.cells t.r) 33)).mono (Nat.le_trans (Nat.le_trans sz (one_below wr _).size) hb.size))); clear hb)) | (with_reducible refine ros_alloc rfl rfl ?_) | ((with_reducible refine ros_store_new rfl rfl rfl rfl rfl ?_)) | ((with_reducible refine im_load_state rfl rfl ?_); apply LoadIm.mk rfl; (focus (with_reducible exact P5.out.st)); dsimp only) | ((with_reducible refine im_store_state rfl rfl ?_); apply StoreS.mk rfl rfl; (focus (with_reducible exact P5.out.out)); (focus (exact Im.zero_size)); (focus rfl)))
        refine bodyPost_ret (v := .tuple #[.agg (Im.cells s.g (.slice A s.g.shots.length c) s.r), .int .i64 1]) ?_ ?_ ?_
        · exact results_cell_tmp (p := 4) (q := 5) rfl _ _ _ _ (Im.cells s.g (.slice A s.g.shots.length c) s.r) _ rfl (Box.row P5.out.out _) Tryz.underlying35 rfl (by rw [Im.cells_size]; exact state_info)
        · rfl
        · exact .inr ⟨HG.out, A, c, rfl, (L5.out.wider P5.out.below.size).zero_row rfl P5.out.out _, Below.setRow' P5.out.below (by omega) _⟩
    · have hk8 : ¬ (k : Int) < m := by omega
      obtain rfl : k = m := by omega
      obtain ⟨k0, hk0⟩ : ∃ k0, k0 = k := ⟨_, rfl⟩
      rw [hMN.out, List.take_length] at hch
      have HC := Lib.hid hch
      rw [← hk0] at hB
      have P3 := Lib.hid hB
      have L3 := Lib.hid hL
      have HT := Lib.hid (HF.out.changes hch)
      clear hch hB hL
      go_wp2
      go_loopw [13] (fun i wr => ∃ k : Nat, k ≤ 8 ∧ i = .int .i64 k ∧ Pa w s.g (.slice A s.g.shots.length c) s.r e (.slice A2 k0 c2) Bn t.g (.slice A' t.g.shots.length c') t.r wr ∧ Lies wr wr.heap.size 6 A' t.g.shots.length (Gm.shotCells t.g.shots) ∧ ∀ j, j < k → t.r.peer j < 0 → En.zero (e.inp j) = true) (fun i _ => 8 - (intOf i).toNat)
      case atStart => exact ⟨0, by omega, rfl, P3.out, L3.out, fun j hj => absurd hj (Nat.not_lt_zero j)⟩
      case round =>
        obtain ⟨k, hk, rfl, hB, hL, hall⟩ := hrel
        clear P3 L3 en1
        by_cases hlt : k < 8
        · have hk8 : (k : Int) < 8 := by omega
          have c0 := (hB.nx.cell (60 + k * 2)).trans (Im.cells_peer t.g _ t.r k hlt)
          have i0 := (hB.en.cell (2 + k * 3)).trans (En.cells_in e _ k 0 hlt (by omega))
          have i1 := (hB.en.cell (2 + k * 3 + 1)).trans (En.cells_in e _ k 1 hlt (by omega))
          have i2 := (hB.en.cell (2 + k * 3 + 2)).trans (En.cells_in e _ k 2 hlt (by omega))
          have hnext := Lib.hid (fun (h : t.r.peer k < 0 → En.zero (e.inp k) = true) => show ∀ j, j < k + 1 → t.r.peer j < 0 → En.zero (e.inp j) = true from fun j hj => by
            by_cases ej : j = k
            · rw [ej]; exact h
            · exact hall j (by omega))
          have hbad := Lib.hid (fun (h : t.r.peer k < 0) (h' : En.zero (e.inp k) = false) => Fd.apply_idle HM.out HC.out (fun hi => by have := hi k hlt h; rw [h'] at this; cases this))
          obtain ⟨p, hp⟩ : ∃ p, p = e.inp k := ⟨_, rfl⟩
          rw [← hp] at i0 i1 i2 hnext hbad
          obtain ⟨x, y, b⟩ := p
          simp only [Gm.In.cells, List.getElem?_cons_zero, List.getElem?_cons_succ, Nat.add_zero] at i0 i1 i2
          have hq := fun W => in_neq10 x y b W
          generalize hzz : En.zero ⟨x, y, b⟩ = z at hq hnext hbad
          obtain ⟨pk, hpk⟩ : ∃ pk, pk = t.r.peer k := ⟨_, rfl⟩
          rw [← hpk] at c0 hnext hbad
          have P5 := Lib.hid hB
          have L5 := Lib.hid hL
          have O5 := Lib.hid ((HR.out.below hB.below).wider hB.below.size)
          clear hp hpk hall hB hL hzz
          by_cases hp0 : pk < 0
          · cases z
            · have hn := Lib.hid (hbad.out hp0 rfl)
              clear hnext hbad
              go_wp2_with (first | ((with_reducible refine im_load_state rfl rfl ?_); apply LoadIm.mk rfl; (focus (with_reducible exact P5.out.st)); dsimp only) | ((with_reducible refine im_store_state rfl rfl ?_); apply StoreS.mk rfl rfl; (focus (with_reducible exact P5.out.out)); (focus (exact Im.zero_size)); (focus rfl)))
              refine bodyPost_ret (v := .tuple #[.agg (Im.cells s.g (.slice A s.g.shots.length c) s.r), .int .i64 1]) ?_ ?_ ?_
              · exact results_cell_tmp (p := 4) (q := 5) rfl _ _ _ _ (Im.cells s.g (.slice A s.g.shots.length c) s.r) _ rfl (Box.row P5.out.out _) Tryz.underlying35 rfl (by rw [Im.cells_size]; exact state_info)
              · rfl
              · exact .inr ⟨hn.out, A, c, rfl, O5.out.zero_row rfl P5.out.out _, Below.setRow' P5.out.below (by omega) _⟩
            · have hn := Lib.hid (hnext.out (fun _ => rfl))
              clear hnext hbad
              go_wp2
              go_roundw
              case rel => exact ⟨k + 1, by omega, by go_num, P5.out, L5.out, hn.out⟩
              case measure => simp [intOf]; omega
          · have hn := Lib.hid (hnext.out (fun h => absurd h hp0))
            clear hnext hbad
            go_wp2
            go_roundw
            case rel => exact ⟨k + 1, by omega, by go_num, P5.out, L5.out, hn.out⟩
            case measure => simp [intOf]; omega
        · have hk8 : ¬ (k : Int) < 8 := by omega
          obtain rfl : k = 8 := by omega
          have HD := Lib.hid (Fd.apply_done HM.out HC.out hall)
          have hstep := fun X hX => Lib.hid (refstep_yes e.inp t.g A' t.g.shots.length c' X HT.out.1.ok.1 (by have := HT.out.2; have := HM.out.2.1.frame; have := HM.out.2.2; omega) HT.out.1.dice hin rfl hX)
          have P6 := Lib.hid hB
          have L6 := Lib.hid hL
          generalize hG : Gm.step e.inp t.g = G at hstep HD
          clear hall hB hL hG
          go_upto_region 25 with (first | ((with_reducible refine im_load_game rfl rfl ?_); apply LoadIm.mk rfl; (focus (with_reducible exact P6.out.nx)); dsimp only) | ((with_reducible refine en_load_ins rfl rfl ?_); apply LoadEn.mk rfl; (focus (with_reducible exact P6.out.en)); dsimp only) | (go_at_call 34; ((with_reducible refine ((hstep _ L6.out).out).mono ?_); rintro x w7 ⟨A7, c7, rfl, hL, hb⟩; have P7 := Lib.hid ((P6.out.call hb).alloc (.cells (Gm.cells G (.slice A7 G.shots.length c7)) 28)); have L7 := Lib.hid (hL.call (one_below w7 (.cells (Gm.cells G (.slice A7 G.shots.length c7)) 28))); have G7 := Lib.hid (Box.made w7 28 (Gm.cells G (.slice A7 G.shots.length c7))); have P9 := Lib.hid (P7.out.store (g' := G) (s' := .slice A7 G.shots.length c7) (r' := t.r)); have L9 := Lib.hid (L7.out.state_row rfl P7.out.nx (Im.cells G (.slice A7 G.shots.length c7) t.r)); clear hb hL)) | (refine wpList_alloc_game rfl rfl ?_) | (refine wpList_store_game_new rfl rfl rfl rfl rfl rfl ?_))
          go_wp2_with (first | ((with_reducible refine load_gate rfl rfl ?_); apply LoadGame.mk rfl; (with_reducible exact G7.out)) | ((with_reducible refine im_store_game rfl rfl ?_); apply StoreG.mk rfl rfl; (focus (with_reducible exact P7.out.nx)); (focus rfl)) | ((with_reducible refine im_load_state rfl rfl ?_); apply LoadIm.mk rfl; (focus (with_reducible exact P9.out.nx)); dsimp only) | ((with_reducible refine im_store_state rfl rfl ?_); apply StoreS.mk rfl rfl; (focus (with_reducible exact P9.out.out)); (focus (exact Im.zero_size)); (focus rfl)))
          refine bodyPost_ret (v := .tuple #[.agg (Im.cells G (.slice A7 G.shots.length c7) t.r), .int .i64 0]) ?_ ?_ ?_
          · exact results_cell_tmp (p := 4) (q := 5) rfl _ _ _ _ (Im.cells G (.slice A7 G.shots.length c7) t.r) _ rfl (Box.row P9.out.out _) Tryz.underlying35 rfl (by rw [Im.cells_size]; exact state_info)
          · rfl
          · exact .inl ⟨_, HD.out, A7, c7, rfl, L9.out.zero_row rfl P9.out.out _, Below.setRow' P9.out.below (by omega) _⟩
theorem refapply_some (s u : Fd.S) (e : En.E) (A A2 : Option Addr) (n c m c2 : Nat) (w : World) (hty : Gm.ty s.g) (hn63 : n ≤ maxLen) (hn : n = s.g.shots.length) (hr : Lies w w.heap.size 6 A n (Gm.shotCells s.g.shots)) (hm : m = e.evs.length) (hm63 : m ≤ maxLen) (hE : Lies w w.heap.size 4 A2 m (En.evCells e.evs)) (hin : ∀ i, i < 8 → Gm.tyIn (e.inp i)) (h : Fd.apply s e = some u) :
    Calls Tryz.prog 13 #[.agg (Im.cells s.g (.slice A n c) s.r), .agg (En.cells e (.slice A2 m c2))] w (SOut u.g u.r 0 w) :=
  (refapply_go s e A A2 n c m c2 w hty hn63 hn hr hm hm63 hE hin (Fd.apply_some h).1).mono fun r w' hB => refbehind_is h hB
theorem refapply_none (s : Fd.S) (e : En.E) (A A2 : Option Addr) (n c m c2 : Nat) (w : World) (hty : Gm.ty s.g) (hn63 : n ≤ maxLen) (hn : n = s.g.shots.length) (hr : Lies w w.heap.size 6 A n (Gm.shotCells s.g.shots)) (hm : m = e.evs.length) (hm63 : m ≤ maxLen) (hE : Lies w w.heap.size 4 A2 m (En.evCells e.evs)) (hin : ∀ i, i < 8 → Gm.tyIn (e.inp i)) (h : Fd.apply s e = none) :
    Calls Tryz.prog 13 #[.agg (Im.cells s.g (.slice A n c) s.r), .agg (En.cells e (.slice A2 m c2))] w (SOut s.g s.r 1 w) := by
  by_cases hmay : Fd.May s e
  · exact (refapply_go s e A A2 n c m c2 w hty hn63 hn hr hm hm63 hE hin hmay).mono fun r w' hB => refbehind_not h hB
  · exact refapply_may s e A A2 n c m c2 w hty hn63 hn hr hm hm63 hE hin hmay
end Go.Proofs.YtiahpncglpfjeaaGreat
namespace Go.Proofs.YtiahpncglpfjeaaGreat
open Go Go.RowKit Go.Shelf
set_option linter.unusedVariables false
set_option linter.unusedSimpArgs false

/-- A state and a code handed back; its shots lie in a block of shots. -/
def SOutT (g' : Gm.G) (r' : Ros.R) (code : Int) (w : World) (e : Ending) (w' : World) : Prop :=
  ∃ A c, e = .returned (.tuple #[.agg (Im.cells g' (.slice A g'.shots.length c) r'), .int .i64 code]) ∧ Lies w' w'.heap.size 6 A g'.shots.length (Gm.shotCells g'.shots) ∧ Typed w' 90 A ∧ Below w.heap.size w w'
def RefBehindT (s : Fd.S) (e : En.E) (w : World) (r : Ending) (w' : World) : Prop :=
  (∃ u, Fd.apply s e = some u ∧ SOutT u.g u.r 0 w r w') ∨ (Fd.apply s e = none ∧ SOut s.g s.r 1 w r w')
theorem refbehindt_is {s u : Fd.S} {e : En.E} {w w' : World} {r : Ending} (h : Fd.apply s e = some u) (hB : RefBehindT s e w r w') : SOutT u.g u.r 0 w r w' := by
  unfold RefBehindT at hB
  rw [h] at hB
  rcases hB with ⟨v, hv, h2⟩ | ⟨hno, _⟩
  · obtain rfl : u = v := Option.some.inj hv
    exact h2
  · cases hno
set_option maxRecDepth 100000 in
set_option maxHeartbeats 4000000 in
theorem refapply_own_go (s : Fd.S) (e : En.E) (A A2 : Option Addr) (n c m c2 : Nat) (w : World) (hty : Gm.ty s.g) (hn63 : n ≤ maxLen) (hn : n = s.g.shots.length) (hr : Lies w w.heap.size 6 A n (Gm.shotCells s.g.shots)) (hm : m = e.evs.length) (hm63 : m ≤ maxLen) (hE : Lies w w.heap.size 4 A2 m (En.evCells e.evs)) (hin : ∀ i, i < 8 → Gm.tyIn (e.inp i)) (hmay : Fd.May s e) :
    Calls Tryz.prog 13 #[.agg (Im.cells s.g (.slice A n c) s.r), .agg (En.cells e (.slice A2 m c2))] w (RefBehindT s e w) := by
  have B0 := Lib.hid (bh_start w s.g (.slice A n c) s.r e (.slice A2 m c2))
  have L0 := Lib.hid ((hr.below B0.out.below).wider B0.out.below.size)
  have E0 := Lib.hid ((hE.below B0.out.below).wider B0.out.below.size)
  have cm := Lib.hid (refstate_any s.g s.r A n c _ hty hn hn63 L0.out)
  have ce := fun X hX => Lib.hid (refmayen_any e A2 m c2 X hm hm63 hin hX)
  have hfine : Fd.Fine s := ⟨hmay.1, hty.2.1⟩
  have HF := Lib.hid hfine
  have HM := Lib.hid hmay
  have HE := Lib.hid hE
  have HR := Lib.hid hr
  have hN := Lib.hid hn
  have hMN := Lib.hid hm
  have m63 : (m : Int) ≤ 9223372036854775807 := by unfold maxLen at hm63; omega
  have hfr : (e.frame != s.g.frame) = false := by simpa using hmay.2.2
  simp only [decide_eq_true hmay.2.1] at ce
  have hs0 : (Im.cells s.g (.slice A n c) s.r)[0]? = some (.int .i64 s.g.frame) := (Im.cells_g _ _ _ 0 (by omega)).trans (Gm.cells_0 _ _)
  have he0 := En.cells_0 e (.slice A2 m c2)
  clear hmay hr hn hm hm63 hE hty hfine
  go_enter Tryz.func13, Tryz.ntmps13
  go_upto_region 4 with (first | (with_reducible refine alloc_state rfl rfl ?_) | ((with_reducible refine im_load_state rfl rfl ?_); apply LoadIm.mk rfl; (focus first | (with_reducible exact B0.out.st) | (with_reducible exact B2.out.st)); dsimp only) | (go_at_call 15; ((with_reducible refine ((cm).out).mono ?_); rintro x w1 ⟨⟨v, rfl, hv⟩, hb⟩; obtain rfl : v = true := hv.2 HM.out.1; have B1 := Lib.hid (B0.out.call hb); have E1 := Lib.hid ((E0.out.below hb).wider hb.size); have L1 := Lib.hid (L0.out.call hb); clear hb hv)) | ((with_reducible refine en_load_g ?_ rfl ?_); (focus first | rfl | (simp [Region.wanted, yielded]; done)); apply LoadEn.mk rfl; (focus (with_reducible exact B1.out.en)); dsimp only) | (go_at_call 30; ((with_reducible refine ((ce _ E1.out).out).mono ?_); rintro x w2 ⟨rfl, hb⟩; have B2 := Lib.hid (B1.out.call hb); have k2s := B2.out.st.cell 0; have k2e := B2.out.en.cell 0; have P2 := Lib.hid (show Pa w s.g (.slice A n c) s.r e (.slice A2 m c2) w2.heap.size s.g (.slice A n c) s.r (w2.alloc (.cells (Im.cells s.g (.slice A n c) s.r) 35)) from ⟨B2.out.st.alloc _, B2.out.en.alloc _, B2.out.out.alloc _, Box.made _ _ _, B2.out.out.lt, B2.out.below.alloc B2.out.below.size _⟩); have L2 := Lib.hid ((L1.out.call hb).call (one_below w2 (.cells (Im.cells s.g (.slice A n c) s.r) 35))); clear hb)) | (with_reducible refine im_store_new rfl rfl rfl rfl Im.zero_size rfl ?_))
  clear B0 L0 E0 cm ce B1 E1 L1 B2 k2s k2e hs0 he0 hfr
  have hn := hN.out
  subst hn
  generalize hW2 : w2.alloc (.cells (Im.cells s.g (.slice A s.g.shots.length c) s.r) 35) = W2 at P2 L2 ⊢
  generalize w2.heap.size = Bn at P2 ⊢
  clear hW2
  go_wp2
  go_loopw [7] (fun i wr => ∃ (k : Nat) (t : Fd.S) (A' : Option Addr) (c' : Nat), k ≤ m ∧ i = .int .i64 k ∧ Fd.changes s (e.evs.take k) = some t ∧ Pa w s.g (.slice A s.g.shots.length c) s.r e (.slice A2 m c2) Bn t.g (.slice A' t.g.shots.length c') t.r wr ∧ Lies wr wr.heap.size 6 A' t.g.shots.length (Gm.shotCells t.g.shots)) (fun i _ => m - (intOf i).toNat)
  case atStart => exact ⟨0, s, A, c, Nat.zero_le _, rfl, rfl, P2.out, L2.out⟩
  case round =>
    obtain ⟨k, t, A', c', hk, rfl, hch, hB, hL⟩ := hrel
    clear P2 L2
    have en1 := (hB.en.cell 1).trans (En.cells_1 e (.slice A2 m c2))
    by_cases hlt : k < m
    · have hk8 : (k : Int) < m := by omega
      have hkl : k < e.evs.length := by have := hMN.out; omega
      obtain ⟨ad, rfl, hbl, e0, e1, e2, e3⟩ := evs_at (HE.out.below hB.below) hMN.out k hkl
      have hok := En.row_mem e.evs (-1) HM.out.2.1.row e.evs[k] (List.getElem_mem hkl)
      have hft := (HF.out.changes hch).1
      have hgo := Lib.hid (fun hv : Fd.MayEv t e.evs[k] => Fd.changes_go hkl hch hv)
      have hst := Lib.hid (fun hv : ¬ Fd.MayEv t e.evs[k] => Fd.apply_stop HM.out (Fd.changes_stop hkl hch hv))
      have cy' := fun X (hv : Fd.MayEv t e.evs[k]) => Lib.hid (refevent_yes t e.evs[k] X hv)
      have cn' := fun X (hv : ¬ Fd.MayEv t e.evs[k]) => Lib.hid (refevent_no t e.evs[k] X hok hv)
      have HFT := Lib.hid hft
      generalize hv : e.evs[k] = v at e0 e1 e2 e3 hgo hst cy' cn' hok
      have sz := hB.below.size
      have ltA : ad.block < wr.heap.size := by omega
      have ltP : Bn < wr.heap.size := hB.nx.lt
      have P4 := fun o => Lib.hid (hB.alloc o)
      have L4 := fun o => Lib.hid (hL.call (one_below wr o))
      have V4 := Lib.hid (Box.made wr 61 #[.int .i64 v.kind, .int .i64 v.slot, .int .i64 v.gen, .int .i64 v.peer])
      have r0 := (HR.out.below hB.below)
      have L0 := Lib.hid r0
      clear r0
      by_cases hev : Fd.MayEv t v
      · have cs := fun X => cy' X hev
        have HG := Lib.hid (hgo.out hev)
        clear hgo hst cy' cn' hv hok hch hB hL hft
        rcases hev with ⟨hk1, ht, hg1⟩ | ⟨hk1, ht, hp1, hg1⟩
        · obtain ⟨j, hj8, ej, ej', hpj, ht', hp0⟩ := Fd.take_on ht
          have hau : Fd.after t v = ⟨Gm.spawn t.g j, Ros.take t.r j v.peer⟩ := by unfold Fd.after; rw [if_pos hk1, ej']
          have hoff : (t.g.ship j).on = false := (HFT.out.ok.2.2 j hj8).trans (decide_eq_false (by omega))
          have cg := fun X hX => Lib.hid (refspawn_out t.g A' t.g.shots.length c' j X HFT.out.ok.1 HFT.out.dice rfl hX hj8 hoff)
          rw [hau] at HG
          simp only [hau] at cs
          obtain ⟨vk, vs, vg, vp⟩ := v
          dsimp only at e0 e1 e2 e3 cs hk1 ej V4 HG
          subst hk1 ej
          clear ht ht' hg1 hpj hp0 hau hoff ej'
          generalize hRR : Ros.take t.r j vp = RR at cs HG
          generalize hGG : Gm.spawn t.g j = GG at cg HG
          clear hRR hGG
          go_upto_region 12 with (first | ((with_reducible refine row_load rfl rfl Tryz.underlying61 rfl ?_); apply LoadRow.mk rfl; (focus (with_reducible exact V4.out)); (focus (exact ev4_size))) | ((with_reducible refine im_load_ros rfl rfl ?_); apply LoadIm.mk rfl; (focus (with_reducible exact (P4 _).out.nx)); dsimp only) | (go_at_call 31; ((with_reducible refine ((cs _).out).mono ?_); rintro x w5 ⟨rfl, hb⟩; have P5 := Lib.hid (((P4 _).out.call hb).alloc (.cells (Ros.cells RR) 33)); have V5 := Lib.hid ((V4.out.below hb V4.out.lt).alloc (.cells (Ros.cells RR) 33)); have R5 := Lib.hid (Box.made w5 33 (Ros.cells RR)); have L5 := Lib.hid (((L4 _).out.call hb).call (one_below w5 (.cells (Ros.cells RR) 33))); have P6 := Lib.hid (P5.out.store (g' := t.g) (s' := .slice A' t.g.shots.length c') (r' := RR)); have V6 := Lib.hid (V5.out.row_far (Box.apart V5.out P5.out.nx (by decide)) (Im.cells t.g (.slice A' t.g.shots.length c') RR)); have L6 := Lib.hid (L5.out.state_row rfl P5.out.nx (Im.cells t.g (.slice A' t.g.shots.length c') RR)); clear hb)) | (with_reducible refine ros_alloc rfl rfl ?_) | ((with_reducible refine ros_store_new rfl rfl rfl rfl rfl ?_)) | ((with_reducible refine ros_load rfl rfl ?_); apply LoadRow.mk rfl; (focus (with_reducible exact R5.out)); (focus (exact ros_info))) | ((with_reducible refine im_store_ros rfl rfl ?_); apply StoreR.mk rfl rfl; (focus (with_reducible exact P5.out.nx))))
          generalize hW6 : (w5.alloc (.cells (Ros.cells RR) 33)).setRow Bn (Im.cells t.g (.slice A' t.g.shots.length c') RR) = W6 at P6 V6 L6 ⊢
          clear hW6 P5 V5 L5 R5 P4 V4 L4 cs e0 e1 e2 e3
          have P7 := Lib.hid (P6.out.alloc (.cells (Gm.cells t.g (.slice A' t.g.shots.length c')) 28))
          have V7 := Lib.hid (V6.out.alloc (.cells (Gm.cells t.g (.slice A' t.g.shots.length c')) 28))
          have L7 := Lib.hid (L6.out.call (one_below W6 (.cells (Gm.cells t.g (.slice A' t.g.shots.length c')) 28)))
          have G7 := Lib.hid (Box.made W6 28 (Gm.cells t.g (.slice A' t.g.shots.length c')))
          have z7 := Lib.hid P6.out.below.size
          go_upto_region 13 with (first | ((with_reducible refine im_load_game rfl rfl ?_); apply LoadIm.mk rfl; (focus (with_reducible exact P6.out.nx)); dsimp only) | (refine wpList_alloc_game rfl rfl ?_) | (refine wpList_store_game_new rfl rfl rfl rfl rfl rfl ?_))
          try simp only [World.size_alloc]
          generalize hW7 : W6.alloc (.cells (Gm.cells t.g (.slice A' t.g.shots.length c')) 28) = W7 at P7 V7 L7 G7 ⊢
          generalize W6.heap.size = bg at G7 z7 ⊢
          clear hW7 P6 V6 L6
          have v7 := V7.out.cell
          go_upto_region 16 with (first | ((with_reducible refine load_gate rfl rfl ?_); apply LoadGame.mk rfl; (with_reducible exact G7.out)) | (go_at_call 33; ((with_reducible refine ((cg _ L7.out).out).mono ?_); rintro x w8 ⟨A8, c8, rfl, hL8, hb⟩; have P8 := Lib.hid (P7.out.call hb); have G8 := Lib.hid (G7.out.below hb G7.out.lt); have L8 := Lib.hid hL8; clear hb hL8)) | ((with_reducible refine store_gate rfl rfl ?_); apply StoreGame.mk rfl rfl rfl; (with_reducible exact G8.out)))
          have P9 := Lib.hid (P8.out.game (cs := Gm.cells GG (.slice A8 GG.shots.length c8)) G8.out z7.out)
          have G9 := Lib.hid (G8.out.row (Gm.cells GG (.slice A8 GG.shots.length c8)))
          have L9 := Lib.hid (L8.out.game_row rfl G8.out (Gm.cells GG (.slice A8 GG.shots.length c8)))
          try simp only [World.size_alloc]
          generalize hW9 : w8.setRow bg (Gm.cells GG (.slice A8 GG.shots.length c8)) = W9 at P9 G9 L9 ⊢
          clear hW9 P8 G8 L8 P7 V7 L7 G7 v7 cg
          have P10 := Lib.hid (P9.out.store (g' := GG) (s' := .slice A8 GG.shots.length c8) (r' := RR))
          have L10 := Lib.hid (L9.out.state_row rfl P9.out.nx (Im.cells GG (.slice A8 GG.shots.length c8) RR))
          go_wp2_with (first | ((with_reducible refine load_gate rfl rfl ?_); apply LoadGame.mk rfl; (with_reducible exact G9.out)) | ((with_reducible refine im_store_game rfl rfl ?_); apply StoreG.mk rfl rfl; (focus (with_reducible exact P9.out.nx)); (focus rfl)))
          go_roundw
          case rel => exact ⟨k + 1, ⟨GG, RR⟩, A8, c8, by omega, by go_num, HG.out, P10.out, L10.out⟩
          case measure => simp [intOf]; omega
        · obtain ⟨j, hj8, ej, ej', hpj, ht'⟩ := Fd.give_on ht
          have hau : Fd.after t v = ⟨Gm.remove t.g j, Ros.give t.r j⟩ := by unfold Fd.after; rw [if_neg (by omega), ej']
          have hon : (t.g.ship j).on = true := (HFT.out.ok.2.2 j hj8).trans (decide_eq_true hpj)
          have cg := fun X hX => Lib.hid (refremove_yes t.g A' t.g.shots.length c' j X HFT.out.ok.1 rfl hX hj8 hon)
          rw [hau] at HG
          simp only [hau] at cs
          obtain ⟨vk, vs, vg, vp⟩ := v
          dsimp only at e0 e1 e2 e3 cs hk1 ej V4 HG
          subst hk1 ej
          clear ht ht' hg1 hpj hp1 hau hon ej'
          generalize hRR : Ros.give t.r j = RR at cs HG
          generalize hGG : Gm.remove t.g j = GG at cg HG
          clear hRR hGG
          go_upto_region 12 with (first | ((with_reducible refine row_load rfl rfl Tryz.underlying61 rfl ?_); apply LoadRow.mk rfl; (focus (with_reducible exact V4.out)); (focus (exact ev4_size))) | ((with_reducible refine im_load_ros rfl rfl ?_); apply LoadIm.mk rfl; (focus (with_reducible exact (P4 _).out.nx)); dsimp only) | (go_at_call 31; ((with_reducible refine ((cs _).out).mono ?_); rintro x w5 ⟨rfl, hb⟩; have P5 := Lib.hid (((P4 _).out.call hb).alloc (.cells (Ros.cells RR) 33)); have V5 := Lib.hid ((V4.out.below hb V4.out.lt).alloc (.cells (Ros.cells RR) 33)); have R5 := Lib.hid (Box.made w5 33 (Ros.cells RR)); have L5 := Lib.hid (((L4 _).out.call hb).call (one_below w5 (.cells (Ros.cells RR) 33))); have P6 := Lib.hid (P5.out.store (g' := t.g) (s' := .slice A' t.g.shots.length c') (r' := RR)); have V6 := Lib.hid (V5.out.row_far (Box.apart V5.out P5.out.nx (by decide)) (Im.cells t.g (.slice A' t.g.shots.length c') RR)); have L6 := Lib.hid (L5.out.state_row rfl P5.out.nx (Im.cells t.g (.slice A' t.g.shots.length c') RR)); clear hb)) | (with_reducible refine ros_alloc rfl rfl ?_) | ((with_reducible refine ros_store_new rfl rfl rfl rfl rfl ?_)) | ((with_reducible refine ros_load rfl rfl ?_); apply LoadRow.mk rfl; (focus (with_reducible exact R5.out)); (focus (exact ros_info))) | ((with_reducible refine im_store_ros rfl rfl ?_); apply StoreR.mk rfl rfl; (focus (with_reducible exact P5.out.nx))))
          generalize hW6 : (w5.alloc (.cells (Ros.cells RR) 33)).setRow Bn (Im.cells t.g (.slice A' t.g.shots.length c') RR) = W6 at P6 V6 L6 ⊢
          clear hW6 P5 V5 L5 R5 P4 V4 L4 cs e0 e1 e2 e3
          have P7 := Lib.hid (P6.out.alloc (.cells (Gm.cells t.g (.slice A' t.g.shots.length c')) 28))
          have V7 := Lib.hid (V6.out.alloc (.cells (Gm.cells t.g (.slice A' t.g.shots.length c')) 28))
          have L7 := Lib.hid (L6.out.call (one_below W6 (.cells (Gm.cells t.g (.slice A' t.g.shots.length c')) 28)))
          have G7 := Lib.hid (Box.made W6 28 (Gm.cells t.g (.slice A' t.g.shots.length c')))
          have z7 := Lib.hid P6.out.below.size
          go_upto_region 13 with (first | ((with_reducible refine im_load_game rfl rfl ?_); apply LoadIm.mk rfl; (focus (with_reducible exact P6.out.nx)); dsimp only) | (refine wpList_alloc_game rfl rfl ?_) | (refine wpList_store_game_new rfl rfl rfl rfl rfl rfl ?_))
          try simp only [World.size_alloc]
          generalize hW7 : W6.alloc (.cells (Gm.cells t.g (.slice A' t.g.shots.length c')) 28) = W7 at P7 V7 L7 G7 ⊢
          generalize W6.heap.size = bg at G7 z7 ⊢
          clear hW7 P6 V6 L6
          have v7 := V7.out.cell
          go_upto_region 16 with (first | ((with_reducible refine load_gate rfl rfl ?_); apply LoadGame.mk rfl; (with_reducible exact G7.out)) | (go_at_call 32; ((with_reducible refine ((cg _ L7.out).out).mono ?_); rintro x w8 ⟨A8, c8, rfl, hL8, hb⟩; have P8 := Lib.hid (P7.out.call hb); have G8 := Lib.hid (G7.out.below hb G7.out.lt); have L8 := Lib.hid hL8; clear hb hL8)) | ((with_reducible refine store_gate rfl rfl ?_); apply StoreGame.mk rfl rfl rfl; (with_reducible exact G8.out)))
          have P9 := Lib.hid (P8.out.game (cs := Gm.cells GG (.slice A8 GG.shots.length c8)) G8.out z7.out)
          have G9 := Lib.hid (G8.out.row (Gm.cells GG (.slice A8 GG.shots.length c8)))
          have L9 := Lib.hid (L8.out.game_row rfl G8.out (Gm.cells GG (.slice A8 GG.shots.length c8)))
          try simp only [World.size_alloc]
          generalize hW9 : w8.setRow bg (Gm.cells GG (.slice A8 GG.shots.length c8)) = W9 at P9 G9 L9 ⊢
          clear hW9 P8 G8 L8 P7 V7 L7 G7 v7 cg
          have P10 := Lib.hid (P9.out.store (g' := GG) (s' := .slice A8 GG.shots.length c8) (r' := RR))
          have L10 := Lib.hid (L9.out.state_row rfl P9.out.nx (Im.cells GG (.slice A8 GG.shots.length c8) RR))
          go_wp2_with (first | ((with_reducible refine load_gate rfl rfl ?_); apply LoadGame.mk rfl; (with_reducible exact G9.out)) | ((with_reducible refine im_store_game rfl rfl ?_); apply StoreG.mk rfl rfl; (focus (with_reducible exact P9.out.nx)); (focus rfl)))
          go_roundw
          case rel => exact ⟨k + 1, ⟨GG, RR⟩, A8, c8, by omega, by go_num, HG.out, P10.out, L10.out⟩
          case measure => simp [intOf]; omega
      · have cs := fun X => cn' X hev
        have HG := Lib.hid (hst.out hev)
        obtain ⟨vk, vs, vg, vp⟩ := v
        dsimp only at e0 e1 e2 e3 cs V4
        clear hgo hst cy' cn' hv hev hok hch hB hL hft
        go_wp2_with (first | ((with_reducible refine row_load rfl rfl Tryz.underlying61 rfl ?_); apply LoadRow.mk rfl; (focus (with_reducible exact V4.out)); (focus (exact ev4_size))) | ((with_reducible refine im_load_ros rfl rfl ?_); apply LoadIm.mk rfl; (focus (with_reducible exact (P4 _).out.nx)); dsimp only) | (go_at_call 31; ((with_reducible refine ((cs _).out).mono ?_); rintro x w5 ⟨rfl, hb⟩; have P5 := Lib.hid (((P4 _).out.call hb).alloc (.cells (Ros.cells t.r) 33)); have L5 := Lib.hid (((L0.out.below ((one_below wr _).mono sz)).below (hb.mono (Nat.le_trans sz (one_below wr _).size))).below ((one_below w5 (.cells (Ros.cells t.r) 33)).mono (Nat.le_trans (Nat.le_trans sz (one_below wr _).size) hb.size))); clear hb)) | (with_reducible refine ros_alloc rfl rfl ?_) | ((with_reducible refine ros_store_new rfl rfl rfl rfl rfl ?_)) | ((with_reducible refine im_load_state rfl rfl ?_); apply LoadIm.mk rfl; (focus (with_reducible exact P5.out.st)); dsimp only) | ((with_reducible refine im_store_state rfl rfl ?_); apply StoreS.mk rfl rfl; (focus (with_reducible exact P5.out.out)); (focus (exact Im.zero_size)); (focus rfl)))
        refine bodyPost_ret (v := .tuple #[.agg (Im.cells s.g (.slice A s.g.shots.length c) s.r), .int .i64 1]) ?_ ?_ ?_
        · exact results_cell_tmp (p := 4) (q := 5) rfl _ _ _ _ (Im.cells s.g (.slice A s.g.shots.length c) s.r) _ rfl (Box.row P5.out.out _) Tryz.underlying35 rfl (by rw [Im.cells_size]; exact state_info)
        · rfl
        · exact .inr ⟨HG.out, A, c, rfl, (L5.out.wider P5.out.below.size).zero_row rfl P5.out.out _, Below.setRow' P5.out.below (by omega) _⟩
    · have hk8 : ¬ (k : Int) < m := by omega
      obtain rfl : k = m := by omega
      obtain ⟨k0, hk0⟩ : ∃ k0, k0 = k := ⟨_, rfl⟩
      rw [hMN.out, List.take_length] at hch
      have HC := Lib.hid hch
      rw [← hk0] at hB
      have P3 := Lib.hid hB
      have L3 := Lib.hid hL
      have HT := Lib.hid (HF.out.changes hch)
      clear hch hB hL
      go_wp2
      go_loopw [13] (fun i wr => ∃ k : Nat, k ≤ 8 ∧ i = .int .i64 k ∧ Pa w s.g (.slice A s.g.shots.length c) s.r e (.slice A2 k0 c2) Bn t.g (.slice A' t.g.shots.length c') t.r wr ∧ Lies wr wr.heap.size 6 A' t.g.shots.length (Gm.shotCells t.g.shots) ∧ ∀ j, j < k → t.r.peer j < 0 → En.zero (e.inp j) = true) (fun i _ => 8 - (intOf i).toNat)
      case atStart => exact ⟨0, by omega, rfl, P3.out, L3.out, fun j hj => absurd hj (Nat.not_lt_zero j)⟩
      case round =>
        obtain ⟨k, hk, rfl, hB, hL, hall⟩ := hrel
        clear P3 L3 en1
        by_cases hlt : k < 8
        · have hk8 : (k : Int) < 8 := by omega
          have c0 := (hB.nx.cell (60 + k * 2)).trans (Im.cells_peer t.g _ t.r k hlt)
          have i0 := (hB.en.cell (2 + k * 3)).trans (En.cells_in e _ k 0 hlt (by omega))
          have i1 := (hB.en.cell (2 + k * 3 + 1)).trans (En.cells_in e _ k 1 hlt (by omega))
          have i2 := (hB.en.cell (2 + k * 3 + 2)).trans (En.cells_in e _ k 2 hlt (by omega))
          have hnext := Lib.hid (fun (h : t.r.peer k < 0 → En.zero (e.inp k) = true) => show ∀ j, j < k + 1 → t.r.peer j < 0 → En.zero (e.inp j) = true from fun j hj => by
            by_cases ej : j = k
            · rw [ej]; exact h
            · exact hall j (by omega))
          have hbad := Lib.hid (fun (h : t.r.peer k < 0) (h' : En.zero (e.inp k) = false) => Fd.apply_idle HM.out HC.out (fun hi => by have := hi k hlt h; rw [h'] at this; cases this))
          obtain ⟨p, hp⟩ : ∃ p, p = e.inp k := ⟨_, rfl⟩
          rw [← hp] at i0 i1 i2 hnext hbad
          obtain ⟨x, y, b⟩ := p
          simp only [Gm.In.cells, List.getElem?_cons_zero, List.getElem?_cons_succ, Nat.add_zero] at i0 i1 i2
          have hq := fun W => in_neq10 x y b W
          generalize hzz : En.zero ⟨x, y, b⟩ = z at hq hnext hbad
          obtain ⟨pk, hpk⟩ : ∃ pk, pk = t.r.peer k := ⟨_, rfl⟩
          rw [← hpk] at c0 hnext hbad
          have P5 := Lib.hid hB
          have L5 := Lib.hid hL
          have O5 := Lib.hid ((HR.out.below hB.below).wider hB.below.size)
          clear hp hpk hall hB hL hzz
          by_cases hp0 : pk < 0
          · cases z
            · have hn := Lib.hid (hbad.out hp0 rfl)
              clear hnext hbad
              go_wp2_with (first | ((with_reducible refine im_load_state rfl rfl ?_); apply LoadIm.mk rfl; (focus (with_reducible exact P5.out.st)); dsimp only) | ((with_reducible refine im_store_state rfl rfl ?_); apply StoreS.mk rfl rfl; (focus (with_reducible exact P5.out.out)); (focus (exact Im.zero_size)); (focus rfl)))
              refine bodyPost_ret (v := .tuple #[.agg (Im.cells s.g (.slice A s.g.shots.length c) s.r), .int .i64 1]) ?_ ?_ ?_
              · exact results_cell_tmp (p := 4) (q := 5) rfl _ _ _ _ (Im.cells s.g (.slice A s.g.shots.length c) s.r) _ rfl (Box.row P5.out.out _) Tryz.underlying35 rfl (by rw [Im.cells_size]; exact state_info)
              · rfl
              · exact .inr ⟨hn.out, A, c, rfl, O5.out.zero_row rfl P5.out.out _, Below.setRow' P5.out.below (by omega) _⟩
            · have hn := Lib.hid (hnext.out (fun _ => rfl))
              clear hnext hbad
              go_wp2
              go_roundw
              case rel => exact ⟨k + 1, by omega, by go_num, P5.out, L5.out, hn.out⟩
              case measure => simp [intOf]; omega
          · have hn := Lib.hid (hnext.out (fun h => absurd h hp0))
            clear hnext hbad
            go_wp2
            go_roundw
            case rel => exact ⟨k + 1, by omega, by go_num, P5.out, L5.out, hn.out⟩
            case measure => simp [intOf]; omega
        · have hk8 : ¬ (k : Int) < 8 := by omega
          obtain rfl : k = 8 := by omega
          have HD := Lib.hid (Fd.apply_done HM.out HC.out hall)
          have hstep := fun X hX => Lib.hid (refstep_own e.inp t.g A' t.g.shots.length c' X HT.out.1.ok.1 (by have := HT.out.2; have := HM.out.2.1.frame; have := HM.out.2.2; omega) HT.out.1.dice hin rfl hX)
          have P6 := Lib.hid hB
          have L6 := Lib.hid hL
          generalize hG : Gm.step e.inp t.g = G at hstep HD
          clear hall hB hL hG
          go_upto_region 25 with (first | ((with_reducible refine im_load_game rfl rfl ?_); apply LoadIm.mk rfl; (focus (with_reducible exact P6.out.nx)); dsimp only) | ((with_reducible refine en_load_ins rfl rfl ?_); apply LoadEn.mk rfl; (focus (with_reducible exact P6.out.en)); dsimp only) | (go_at_call 34; ((with_reducible refine ((hstep _ L6.out).out).mono ?_); rintro x w7 ⟨A7, c7, rfl, hL, hT, hb⟩; have P7 := Lib.hid ((P6.out.call hb).alloc (.cells (Gm.cells G (.slice A7 G.shots.length c7)) 28)); have L7 := Lib.hid (hL.call (one_below w7 (.cells (Gm.cells G (.slice A7 G.shots.length c7)) 28))); have T9 := Lib.hid ((hT.call (one_below w7 (.cells (Gm.cells G (.slice A7 G.shots.length c7)) 28))).row P7.out.nx (Im.cells G (.slice A7 G.shots.length c7) t.r)); have G7 := Lib.hid (Box.made w7 28 (Gm.cells G (.slice A7 G.shots.length c7))); have P9 := Lib.hid (P7.out.store (g' := G) (s' := .slice A7 G.shots.length c7) (r' := t.r)); have L9 := Lib.hid (L7.out.state_row rfl P7.out.nx (Im.cells G (.slice A7 G.shots.length c7) t.r)); clear hb hL hT)) | (refine wpList_alloc_game rfl rfl ?_) | (refine wpList_store_game_new rfl rfl rfl rfl rfl rfl ?_))
          go_wp2_with (first | ((with_reducible refine load_gate rfl rfl ?_); apply LoadGame.mk rfl; (with_reducible exact G7.out)) | ((with_reducible refine im_store_game rfl rfl ?_); apply StoreG.mk rfl rfl; (focus (with_reducible exact P7.out.nx)); (focus rfl)) | ((with_reducible refine im_load_state rfl rfl ?_); apply LoadIm.mk rfl; (focus (with_reducible exact P9.out.nx)); dsimp only) | ((with_reducible refine im_store_state rfl rfl ?_); apply StoreS.mk rfl rfl; (focus (with_reducible exact P9.out.out)); (focus (exact Im.zero_size)); (focus rfl)))
          refine bodyPost_ret (v := .tuple #[.agg (Im.cells G (.slice A7 G.shots.length c7) t.r), .int .i64 0]) ?_ ?_ ?_
          · exact results_cell_tmp (p := 4) (q := 5) rfl _ _ _ _ (Im.cells G (.slice A7 G.shots.length c7) t.r) _ rfl (Box.row P9.out.out _) Tryz.underlying35 rfl (by rw [Im.cells_size]; exact state_info)
          · rfl
          · exact .inl ⟨_, HD.out, A7, c7, rfl, L9.out.zero_row rfl P9.out.out _, T9.out.row P9.out.out _, Below.setRow' P9.out.below (by omega) _⟩
theorem refapply_own (s u : Fd.S) (e : En.E) (A A2 : Option Addr) (n c m c2 : Nat) (w : World) (hty : Gm.ty s.g) (hn63 : n ≤ maxLen) (hn : n = s.g.shots.length) (hr : Lies w w.heap.size 6 A n (Gm.shotCells s.g.shots)) (hm : m = e.evs.length) (hm63 : m ≤ maxLen) (hE : Lies w w.heap.size 4 A2 m (En.evCells e.evs)) (hin : ∀ i, i < 8 → Gm.tyIn (e.inp i)) (h : Fd.apply s e = some u) :
    Calls Tryz.prog 13 #[.agg (Im.cells s.g (.slice A n c) s.r), .agg (En.cells e (.slice A2 m c2))] w (SOutT u.g u.r 0 w) :=
  (refapply_own_go s e A A2 n c m c2 w hty hn63 hn hr hm hm63 hE hin (Fd.apply_some h).1).mono fun r w' hB => refbehindt_is h hB
end Go.Proofs.YtiahpncglpfjeaaGreat
namespace Go.Proofs.YtiahpncglpfjeaaGreat
open Go.RowKit Go.Shelf
set_option linter.unusedVariables false
set_option linter.unusedSimpArgs false
namespace Fd
def evJ (k : Nat) (p : Int) : En.Ev := ⟨1, k, 1, p⟩
def in0 : Nat → Gm.In := fun _ => ⟨0, 0, 0⟩
/-- Behind a Join at frame 0. -/
def joined (d : Int) (k : Nat) (p : Int) (ps : Nat → Gm.In) : S := ⟨Gm.step ps (Gm.spawn (Gm.new d) k), Ros.take Ros.new k p⟩
def left (d : Int) (k : Nat) (p : Int) (ps : Nat → Gm.In) : S := ⟨Gm.step in0 (Gm.remove (joined d k p ps).g k), Ros.give (Ros.take Ros.new k p) k⟩
theorem new_ok : Ros.Ok Ros.new := by decide +kernel
theorem take_may {k : Nat} {p : Int} (hk : k < 8) (hp : 0 ≤ p ∧ p < 12) : Ros.MayTake Ros.new k p := by
  refine ⟨⟨⟨⟨new_ok, by show (0 : Int) < 1073741824; decide⟩, by omega, by omega⟩, hp, ?_⟩, rfl, by show (0 : Int) ≠ 60000; decide⟩
  unfold Ros.of
  rw [if_pos ⟨new_ok, hp.1, hp.2⟩]
  refine Ros.seatOf_none fun y hy => ?_
  show (-1 : Int) ≠ p
  omega
theorem row_one {v : En.Ev} (h : En.evOk v) : En.Row (-1) [v] := ⟨⟨h, by have := (En.place_lt h).1; omega⟩, trivial⟩
theorem row_nil : En.Row (-1) [] := trivial
theorem zero_ok {p : Gm.In} (h : En.zero p = true) : En.inOk p := by
  rw [En.zero_is h]; unfold En.inOk; dsimp only; omega
section
variable {d : Int} {k : Nat} {p : Int} {ps : Nat → Gm.In}
theorem join_change (hk : k < 8) (hp : 0 ≤ p ∧ p < 12) : changes (start d) [evJ k p] = some ⟨Gm.spawn (Gm.new d) k, Ros.take Ros.new k p⟩ := by
  have hv : MayEv (start d) (evJ k p) := .inl ⟨rfl, take_may hk hp, rfl⟩
  rw [changes_one, change_yes hv]
  rfl
theorem join_one (hd : 0 ≤ d ∧ d ≤ 18446744073709551615) (hk : k < 8) (hp : 0 ≤ p ∧ p < 12) (hin : ∀ i, i < 8 → En.inOk (ps i)) (hz : ∀ i, i < 8 → i ≠ k → En.zero (ps i) = true) : apply (start d) ⟨0, [evJ k p], ps⟩ = some (joined d k p ps) := by
  have hm : May (start d) ⟨0, [evJ k p], ps⟩ := ⟨(start_fine hd).ok, ⟨by dsimp only; omega, row_one ⟨.inr rfl, by show 0 ≤ (k : Int) ∧ (k : Int) < 8; omega, by show 1 ≤ (1 : Int) ∧ (1 : Int) ≤ 60000; decide, hp⟩, hin⟩, rfl⟩
  rw [apply_done hm (join_change hk hp) (fun i hi hn => ?_)]
  · rfl
  · by_cases e : i = k
    · subst e
      have : Ros.upd Ros.new.peer i p i < 0 := hn
      rw [Ros.upd_same] at this
      omega
    · exact hz i hi e
/-- With another one's input there is no entry. -/
theorem join_busy (hk : k < 8) (hp : 0 ≤ p ∧ p < 12) {j : Nat} (hj : j < 8) (hjk : j ≠ k) (hz : En.zero (ps j) = false) : apply (start d) ⟨0, [evJ k p], ps⟩ = none := by
  by_cases hm : May (start d) ⟨0, [evJ k p], ps⟩
  · exact apply_idle hm (join_change hk hp) (fun hi => by
      have := hi j hj (by show Ros.upd Ros.new.peer k p j < 0; rw [Ros.upd_other _ _ hjk]; show (-1 : Int) < 0; decide)
      rw [hz] at this; cases this)
  · exact apply_no hm
theorem joined_fine (hd : 0 ≤ d ∧ d ≤ 18446744073709551615) (hk : k < 8) (hp : 0 ≤ p ∧ p < 12) : Fine (joined d k p ps) ∧ (joined d k p ps).g.frame = 1 ∧ ((joined d k p ps).g.ship k).on = true := by
  have h1 := ((start_fine hd).changes (join_change hk hp)).1
  obtain ⟨h2, h3⟩ := h1.step ps (by show (0 : Int) < 1048576; decide)
  refine ⟨h2, h3.trans rfl, ?_⟩
  refine Eq.trans (h2.ok.2.2 k hk) (decide_eq_true ?_)
  show 0 ≤ Ros.upd Ros.new.peer k p k
  rw [Ros.upd_same]; exact hp.1
theorem joined_peer : (joined d k p ps).r.peer k = p := Ros.upd_same _ _ _
/-- An entry of another frame makes nothing. -/
theorem joined_late (hd : 0 ≤ d ∧ d ≤ 18446744073709551615) (hk : k < 8) (hp : 0 ≤ p ∧ p < 12) {e : En.E} (he : e.frame = 0) : apply (joined d k p ps) e = none :=
  apply_no fun h => by have := h.2.2; rw [(joined_fine hd hk hp).2.1, he] at this; cases this
end
/-- Two frames in which nothing is done. -/
def idle1 (d : Int) : S := ⟨Gm.step in0 (Gm.new d), Ros.new⟩
def idle2 (d : Int) : S := ⟨Gm.step in0 (idle1 d).g, Ros.new⟩
theorem idle_step {s : S} (hs : Fine s) (fr : Int) (hfr : fr = s.g.frame) (h0 : 0 ≤ fr ∧ fr < 1048576) : apply s ⟨fr, [], in0⟩ = some ⟨Gm.step in0 s.g, s.r⟩ := by
  have hm : May s ⟨fr, [], in0⟩ := ⟨hs.ok, ⟨h0, row_nil, fun i hi => zero_ok rfl⟩, hfr⟩
  rw [apply_done hm (changes_nil _) (fun i hi hn => rfl)]
theorem idle_run {d : Int} (hd : 0 ≤ d ∧ d ≤ 18446744073709551615) : run (start d) [⟨0, [], in0⟩, ⟨1, [], in0⟩] = some (idle2 d) ∧ (idle2 d).g.frame = 2 := by
  have h1 := (start_fine hd).step in0 (by show (0 : Int) < 1048576; decide)
  have e1 : apply (start d) ⟨0, [], in0⟩ = some (idle1 d) := idle_step (start_fine hd) 0 rfl (by decide)
  have e2 : apply (idle1 d) ⟨1, [], in0⟩ = some (idle2 d) := idle_step (s := idle1 d) h1.1 1 h1.2.symm (by decide)
  refine ⟨by rw [run_cons, e1, Option.bind_some, run_one, e2], ?_⟩
  have h2 := h1.1.step in0 (by rw [h1.2]; show (0 : Int) + 1 < 1048576; decide)
  exact h2.2.trans (by rw [h1.2]; rfl)
end Fd
end Go.Proofs.YtiahpncglpfjeaaGreat
namespace Go.Proofs.YtiahpncglpfjeaaGreat
open Go.RowKit Go.Shelf
set_option linter.unusedVariables false
set_option linter.unusedSimpArgs false


set_option maxRecDepth 100000 in
set_option maxHeartbeats 4000000 in
theorem equal_any (l m : List Gm.Shot) (A B : Option Addr) (n n' c d : Nat) (w : World) (hn : n = l.length) (hm : n' = m.length) (n64 : n ≤ maxLen) (m64 : n' ≤ maxLen) (hr : Lies w w.heap.size 6 A n (Gm.shotCells l)) (hq : Lies w w.heap.size 6 B n' (Gm.shotCells m)) :
    Calls Tryz.prog 78 #[.slice A n c, .slice B n' d] w fun e w' => (∃ v, e = .returned (.bool v) ∧ (v = true ↔ l = m)) ∧ Below w.heap.size w w' := by
  have hN := Lib.hid hn
  have hM := Lib.hid hm
  have n63 : (n : Int) ≤ 9223372036854775807 := by unfold maxLen at n64; omega
  have m63 : (n' : Int) ≤ 9223372036854775807 := by unfold maxLen at m64; omega
  clear hn hm n64 m64
  by_cases hnn : n = n'
  · subst hnn
    go_enter Tryz.func78, Tryz.ntmps78
    go_wp2
    go_loopw [13] (fun i wr => ∃ k : Nat, k ≤ n ∧ i = .int .i64 k ∧ Below w.heap.size w wr ∧ ∀ j, j < k → l[j]? = m[j]?) (fun i _ => n - (intOf i).toNat)
    case atStart => exact ⟨0, by omega, rfl, Below.refl _ _, fun j hj => absurd hj (Nat.not_lt_zero j)⟩
    case round =>
      obtain ⟨k, hk, rfl, hb, hall⟩ := hrel
      have HALL := Lib.hid hall
      clear hall
      by_cases hlt : k < n
      · have hkg : k < l.length := by have := hN.out; omega
        have hkh : k < m.length := by have := hM.out; omega
        obtain ⟨ad, rfl, hbl, a0, a1, a2, a3, a4, a5⟩ := shots_at (hr.below hb) hN.out k hkg
        obtain ⟨bd, rfl, hbm, c0, c1, c2, c3, c4, c5⟩ := shots_at (hq.below hb) hM.out k hkh
        have HS := Lib.hid (show l = m → l[k]'hkg = m[k]'hkh from fun e => by simp only [e])
        have HT := Lib.hid (show l[k]'hkg = m[k]'hkh → ∀ j, j < k + 1 → l[j]? = m[j]? from fun e j hj => by
          by_cases ej : j = k
          · subst ej
            rw [List.getElem?_eq_getElem hkg, List.getElem?_eq_getElem hkh, e]
          · exact HALL.out j (by omega))
        have hsn := fun W => shot_neq (l[k]'hkg) (m[k]'hkh) W
        have hiff := @Gm.Shot.eqB_iff (l[k]'hkg) (m[k]'hkh)
        generalize l[k]'hkg = s at a0 a1 a2 a3 a4 a5 HS HT hsn hiff
        generalize m[k]'hkh = t at c0 c1 c2 c3 c4 c5 HS HT hsn hiff
        obtain ⟨owner, x, y, vx, vy, left⟩ := s
        obtain ⟨owner2, p, q, vp, vq, left2⟩ := t
        dsimp only at a0 a1 a2 a3 a4 a5 c0 c1 c2 c3 c4 c5
        simp only [Gm.Shot.cells] at hsn
        have hk8 : (k : Int) < n := by omega
        have HBB := Lib.hid hb
        clear hr hq hb
        cases hse : Gm.Shot.eqB ⟨owner, x, y, vx, vy, left⟩ ⟨owner2, p, q, vp, vq, left2⟩
        · rw [hse] at hsn hiff
          have hno := Lib.hid (show ¬ l = m from fun e => by have := hiff.2 (HS.out e); cases this)
          clear hse hiff
          go_upto_region 6 with fail
          go_quiet (fail)
          go_wp2
          go_ret
          exact ⟨by first | exact ⟨false, rfl, by simp; exact hno.out⟩ | exact .inl ⟨rfl, hno.out⟩, draws_below HBB.out _⟩
        · rw [hse] at hsn hiff
          have hn2 := Lib.hid (HT.out (hiff.1 rfl))
          clear hse hiff
          go_upto_region 6 with fail
          go_quiet (fail)
          go_wp2
          go_roundw
          case rel => exact ⟨k + 1, by omega, by go_num, draws_below HBB.out _, hn2.out⟩
          case measure => simp [intOf]; omega
      · have hk8 : ¬ (k : Int) < n := by omega
        have hyes := Lib.hid (show l = m from List.ext_getElem? fun j => by
          by_cases hj : j < n
          · exact HALL.out j (by omega)
          · rw [List.getElem?_eq_none (by have := hN.out; omega), List.getElem?_eq_none (by have := hM.out; omega)])
        have HBB := Lib.hid hb
        clear hr hq hb
        go_wp2
        go_ret
        exact ⟨by first | exact ⟨true, rfl, by simp; exact hyes.out⟩ | exact .inr ⟨rfl, hyes.out⟩, HBB.out⟩
  · have hno := Lib.hid (show ¬ l = m from fun e => hnn (by rw [hN.out, hM.out, e]))
    have hne : ((n : Int) != n') = true := by simp; omega
    clear hr hq hnn
    go_enter Tryz.func78, Tryz.ntmps78
    go_wp2
    go_ret
    exact ⟨by first | exact ⟨false, rfl, by simp; exact hno.out⟩ | exact .inl ⟨rfl, hno.out⟩, Below.refl _ _⟩

set_option maxRecDepth 100000 in
set_option maxHeartbeats 4000000 in
theorem same_any (g h : Gm.G) (A B : Option Addr) (n m c d : Nat) (w : World) (hn : n = g.shots.length) (hm : m = h.shots.length) (hr : Lies w w.heap.size 6 A n (Gm.shotCells g.shots)) (hq : Lies w w.heap.size 6 B m (Gm.shotCells h.shots))
    (n64 : n ≤ maxLen) (m64 : m ≤ maxLen) :
    Calls Tryz.prog 39 #[.agg (Gm.cells g (.slice A n c)), .agg (Gm.cells h (.slice B m d))] w fun e w' => (∃ v, e = .returned (.bool v) ∧ (v = true ↔ Gm.Eq g h)) ∧ Below w.heap.size w w' := by
  have b1 : Box ((w.alloc (.cells (Gm.cells g (.slice A n c)) 28)).alloc (.cells (Gm.cells h (.slice B m d)) 28)) w.heap.size 28 (Gm.cells g (.slice A n c)) := (Box.made _ _ _).alloc _
  have b2 : Box ((w.alloc (.cells (Gm.cells g (.slice A n c)) 28)).alloc (.cells (Gm.cells h (.slice B m d)) 28)) (w.heap.size + 1) 28 (Gm.cells h (.slice B m d)) := Box.made_at _ _ _ (by simp)
  have hb0 := two_below' w (.cells (Gm.cells g (.slice A n c)) 28) (.cells (Gm.cells h (.slice B m d)) 28)
  have ce := Lib.hid (equal_any g.shots h.shots A B n m c d _ hn hm n64 m64 ((hr.below hb0).wider hb0.size) ((hq.below hb0).wider hb0.size))
  have g0 := Gm.cells_0 g (.slice A n c)
  have g1 := Gm.cells_1 g (.slice A n c)
  have g58 := Gm.cells_58 g (.slice A n c)
  have h0 := Gm.cells_0 h (.slice B m d)
  have h1 := Gm.cells_1 h (.slice B m d)
  have h58 := Gm.cells_58 h (.slice B m d)
  have k1 := b1.cell
  have k2 := b2.cell
  have hB1 := Lib.hid b1
  have hB2 := Lib.hid b2
  have HB := Lib.hid hb0
  have HE := Lib.hid (show Gm.Eq g h ↔ g.frame = h.frame ∧ g.dice = h.dice ∧ (∀ i, i < 8 → g.ship i = h.ship i) ∧ g.shots = h.shots from Iff.rfl)
  have hse := @Gm.shipsEq_iff g.ship h.ship
  have hsh := fun W => ships_eql g.ship h.ship W
  generalize Gm.shipsEq g.ship h.ship = z at hse hsh
  clear b1 b2 hb0 hr hq hn hm
  by_cases e1 : g.frame = h.frame
  · rw [← e1] at h0
    by_cases e2 : g.dice = h.dice
    · rw [← e2] at h1
      cases z
      · have hno := Lib.hid (show ¬ Gm.Eq g h from fun e => by have := hse.2 e.2.2.1; cases this)
        clear hse e1 e2 HE ce
        go_enter Tryz.func39, Tryz.ntmps39
        go_wp2_with (first | (refine wpList_load_part_g (by first | rfl | kernel_rfl | simp [Region.wanted, yielded]) (ty := 25) rfl rfl hB1.out _ (ships_part _ _) Tryz.underlying25 rfl ships_info ?_) | (refine wpList_load_part_g (by first | rfl | kernel_rfl | simp [Region.wanted, yielded]) (ty := 25) rfl rfl hB2.out _ (ships_part _ _) Tryz.underlying25 rfl ships_info ?_))
        go_ret
        exact ⟨by first | exact ⟨false, rfl, by simp; exact hno.out⟩ | exact .inl ⟨rfl, hno.out⟩, HB.out⟩
      · have HX := Lib.hid (show g.shots = h.shots ↔ Gm.Eq g h from ⟨fun e => ⟨e1, e2, hse.1 rfl, e⟩, fun e => e.2.2.2⟩)
        clear hse e1 e2 HE
        go_enter Tryz.func39, Tryz.ntmps39
        go_wp2_with (first | (refine wpList_load_part_g (by first | rfl | kernel_rfl | simp [Region.wanted, yielded]) (ty := 25) rfl rfl hB1.out _ (ships_part _ _) Tryz.underlying25 rfl ships_info ?_) | (refine wpList_load_part_g (by first | rfl | kernel_rfl | simp [Region.wanted, yielded]) (ty := 25) rfl rfl hB2.out _ (ships_part _ _) Tryz.underlying25 rfl ships_info ?_) | (go_at_call 78; ((with_reducible refine ((ce).out).mono ?_); rintro e w1 ⟨⟨v, rfl, hv⟩, hb1⟩; have HV := Lib.hid hv; have K1 := Lib.hid (HB.out.trans (hb1.mono HB.out.size)); clear hv hb1)))
        all_goals
          go_ret
          first
            | exact ⟨⟨v, rfl, HV.out.trans HX.out⟩, K1.out⟩
            | exact ⟨HV.out.trans HX.out, K1.out⟩
            | exact ⟨⟨_, rfl, by simp; exact HV.out.trans HX.out⟩, K1.out⟩
            | trace_state
    · have hq2 : (g.dice == h.dice) = false := by simpa using e2
      have hno := Lib.hid (show ¬ Gm.Eq g h from fun e => e2 e.2.1)
      clear hse e1 e2 HE ce
      go_enter Tryz.func39, Tryz.ntmps39
      go_wp2
      go_ret
      exact ⟨by first | exact ⟨false, rfl, by simp; exact hno.out⟩ | exact .inl ⟨rfl, hno.out⟩, HB.out⟩
  · have hq2 : (g.frame == h.frame) = false := by simpa using e1
    have hno := Lib.hid (show ¬ Gm.Eq g h from fun e => e1 e.1)
    clear hse e1 HE ce
    go_enter Tryz.func39, Tryz.ntmps39
    go_wp2
    go_ret
    exact ⟨by first | exact ⟨false, rfl, by simp; exact hno.out⟩ | exact .inl ⟨rfl, hno.out⟩, HB.out⟩

/-- Two states are alike in all parts. -/
def Im.Eq (g h : Gm.G) (r q : Ros.R) : Prop := Gm.Eq g h ∧ r.version = q.version ∧ ∀ k, k < 8 → r.peer k = q.peer k ∧ r.gen k = q.gen k
set_option maxRecDepth 100000 in
set_option maxHeartbeats 4000000 in
theorem foldsame_any (g h : Gm.G) (r q : Ros.R) (A B : Option Addr) (n m c d : Nat) (w : World) (hn : n = g.shots.length) (hm : m = h.shots.length) (hr : Lies w w.heap.size 6 A n (Gm.shotCells g.shots)) (hq : Lies w w.heap.size 6 B m (Gm.shotCells h.shots))
    (n63 : n ≤ maxLen) (m63 : m ≤ maxLen) :
    Calls Tryz.prog 17 #[.agg (Im.cells g (.slice A n c) r), .agg (Im.cells h (.slice B m d) q)] w fun e w' => (∃ v, e = .returned (.bool v) ∧ (v = true ↔ (Gm.Eq g h ∧ r.version = q.version ∧ ∀ k, k < 8 → r.peer k = q.peer k ∧ r.gen k = q.gen k))) ∧ Below w.heap.size w w' := by
  have P0 := Lib.hid ((Box.made w 35 (Im.cells g (.slice A n c) r)).alloc (.cells (Im.cells h (.slice B m d) q) 35))
  have Q0 := Lib.hid (Box.made_at (n := w.heap.size + 1) (w.alloc (.cells (Im.cells g (.slice A n c) r) 35)) 35 (Im.cells h (.slice B m d) q) (by simp))
  have K0 := Lib.hid (two_below' w (.cells (Im.cells g (.slice A n c) r) 35) (.cells (Im.cells h (.slice B m d) q) 35))
  have cg := Lib.hid (same_any g h A B n m c d _ hn hm ((hr.below K0.out).wider K0.out.size) ((hq.below K0.out).wider K0.out.size) n63 m63)
  have he := fun W => ros_eql r q W
  have HI := Lib.hid (show (r.version == q.version && Ros.seatsEq r q) = true ↔ (r.version = q.version ∧ ∀ k, k < 8 → r.peer k = q.peer k ∧ r.gen k = q.gen k) by rw [Bool.and_eq_true, Ros.seatsEq_iff]; simp)
  generalize (r.version == q.version && Ros.seatsEq r q) = E at he HI
  clear hr hq hn hm
  go_enter Tryz.func17, Tryz.ntmps17
  go_wp2_with (first | ((with_reducible refine im_load_game rfl rfl ?_); apply LoadIm.mk rfl; (focus first | (with_reducible exact P0.out) | (with_reducible exact Q0.out)); dsimp only) | ((with_reducible refine im_load_ros_g ?_ rfl ?_); (focus first | rfl | kernel_rfl | simp [Region.wanted, yielded]); apply LoadIm.mk rfl; (focus first | (with_reducible exact P1.out) | (with_reducible exact Q1.out)); dsimp only) | (go_at_call 39; ((with_reducible refine (cg.out).mono ?_); rintro e w1 ⟨⟨v, rfl, hv⟩, hb⟩; have P1 := Lib.hid (P0.out.below hb P0.out.lt); have Q1 := Lib.hid (Q0.out.below hb Q0.out.lt); have K1 := Lib.hid (K0.out.trans (hb.mono K0.out.size)); have HV := Lib.hid hv; clear hb hv; cases v)))
  all_goals
    go_ret
    first
      | exact ⟨⟨false, rfl, by simp only [Bool.false_eq_true, false_iff]; exact fun x => by have := HV.out.2 x.1; simp at this⟩, K1.out⟩
      | exact ⟨⟨E, rfl, HI.out.trans ⟨fun x => ⟨HV.out.1 (by first | trivial | rfl), x⟩, fun x => x.2⟩⟩, K1.out⟩
      | exact ⟨by simp; exact fun x => absurd (HV.out.2 x) (by simp), K1.out⟩
      | exact ⟨by simp; exact HI.out.trans ⟨fun x => ⟨HV.out.1 (by first | trivial | rfl), x⟩, fun x => x.2⟩, K1.out⟩
      | trace_state
end Go.Proofs.YtiahpncglpfjeaaGreat
namespace Go.Proofs.YtiahpncglpfjeaaGreat
open Go.RowKit Go.Shelf
set_option linter.unusedVariables false
set_option linter.unusedSimpArgs false


section
variable {ops : Array Oper} {Q : Exit → Act → World → Prop} {o : Oper} {rest : List Oper} {a : Act} {w : World} {x y : Operand}
theorem im_load_state_g (hw : Region.wanted o (yielded ops a.tmps) = true) (ho : o.op = .load 35 x) (h : LoadIm ops Q rest o.dst (a.eval x) 0 (fun g s r => Im.cells g s r) a w) : wpList Tryz.prog ops Q (o :: rest) a w := by
  obtain ⟨B, g, s, r, hx, hB, h⟩ := h
  refine wpList_load_part_g hw ho hx hB (Im.cells g s r).toList (fun j v hv => ?_) Tryz.underlying35 rfl (by rw [Array.length_toList, Im.cells_size]; exact state_info) (by rw [Array.toArray_toList]; exact h)
  rw [Nat.zero_add]
  simpa using hv
end
theorem en_built_evs (A : Option Addr) (n c : Nat) (evs : List En.Ev) : Tryz.prog.built 42 [(1, .slice A n c)] = some (En.cells ⟨0, evs, Fd.in0⟩ (.slice A n c)) := by kernel_rfl
theorem en_built_none : Tryz.prog.built 42 [] = some (En.cells ⟨0, [], Fd.in0⟩ (.slice none 0 0)) := by kernel_rfl
theorem en_built_fr (f : Int) : Tryz.prog.built 42 [(0, .int .i64 f)] = some (En.cells ⟨f, [], Fd.in0⟩ (.slice none 0 0)) := by kernel_rfl
theorem Lies.boxed4 {W : World} {S n size : Nat} {t : TypeId} {xs : List Value} (h : Box W S t xs.toArray) (hl : xs.length = n * size) : Lies W W.heap.size size (some ⟨S, 0, none⟩) n xs :=
  ⟨hl, fun _ => ⟨_, rfl, h.lt⟩, fun ad e _ j u hj => by
    injection e with e
    subst e
    rw [show (⟨S, 0, none⟩ : Addr).add j = ⟨S, j, none⟩ by unfold Addr.add; split <;> simp_all, h.cell]
    simpa using hj⟩
theorem Lies.none_ {W : World} {B size : Nat} {A : Option Addr} : Lies W B size A 0 [] := ⟨by simp, fun h => absurd rfl h, fun _ _ h => absurd rfl h⟩
/-- A literal slice of two entries. -/
theorem en_fill2 (e f : En.E) (A B : Option Addr) (n m c d : Nat) : Instr.fill (fun i => some (i * 26, 26)) ((Array.range (2 * 26)).map ((Value.agg En.zeroC).cells[· % (Value.agg En.zeroC).cells.size]!)) [(0, .agg (En.cells e (.slice A n c))), (1, .agg (En.cells f (.slice B m d)))] = some (En.cells e (.slice A n c) ++ En.cells f (.slice B m d)) := by kernel_rfl
theorem en_two (q r : En.S) : En.cells q.e q.sl ++ En.cells r.e r.sl = (En.sCells [q, r]).toArray := by
  unfold En.sCells
  rw [List.flatMap_cons, List.flatMap_cons, List.flatMap_nil, List.append_nil, ← En.S.cells_arr, ← En.S.cells_arr, List.append_toArray]
section
variable {ops : Array Oper} {rest : List Oper} {o : Oper} {a : Act} {w : World} {Q : Exit → Act → World → Prop} {x y : Operand} {dst : Option Tmp} {v u : Value}
def BuildEn2 (ops : Array Oper) (Q : Exit → Act → World → Prop) (rest : List Oper) (dst : Option Tmp) (v u : Value) (a : Act) (w : World) : Prop :=
  ∃ (q r : En.S), v = .agg (En.cells q.e q.sl) ∧ u = .agg (En.cells r.e r.sl) ∧ wpList Tryz.prog ops Q rest (a.put dst (.slice (some ⟨w.heap.size, 0, none⟩) 2 2)) (w.alloc (.cells (En.sCells [q, r]).toArray 42))
theorem BuildEn2.mk {q r : En.S} (hv : v = .agg (En.cells q.e q.sl)) (hu : u = .agg (En.cells r.e r.sl)) (h : wpList Tryz.prog ops Q rest (a.put dst (.slice (some ⟨w.heap.size, 0, none⟩) 2 2)) (w.alloc (.cells (En.sCells [q, r]).toArray 42))) : BuildEn2 ops Q rest dst v u a w := ⟨q, r, hv, hu, h⟩
theorem en_build2 (hgd : o.guard = none) (ho : o.op = .buildSlice 52 2 #[(0, x), (1, y)]) (h : BuildEn2 ops Q rest o.dst (a.eval x) (a.eval y) a w) : wpList Tryz.prog ops Q (o :: rest) a w := by
  obtain ⟨q, r, hv, hu, h⟩ := h
  refine wpList_plain hgd fun _ hK => ?_
  have hr : (Instr.buildSlice 52 2 #[(0, .agg (En.cells q.e q.sl)), (1, .agg (En.cells r.e r.sl))]).run Tryz.prog w = .ok (.slice (some ⟨w.heap.size, 0, none⟩) 2 2) (w.alloc (.cells (En.sCells [q, r]).toArray 42)) := by
    have h1 := en_info
    have h2 := en_zero
    cases hq : Tryz.prog.info? 42 with
    | none => rw [hq] at h1; cases h1
    | some ie =>
      rw [hq] at h1 h2
      have hs : ie.size = 26 := by simpa using h1
      have hz : ie.zero = some (.agg En.zeroC) := by simpa using h2
      exact run_buildSlice w _ _ 2 _ _ ie (.agg En.zeroC) Tryz.underlying52 hq hz (by rw [hs]; decide) (by rw [hs]; decide) (by rw [hs, ← en_two]; exact en_fill2 q.e r.e q.adr r.adr q.e.evs.length r.e.evs.length q.cap r.cap)
  unfold Oper.wp execOp
  simp only [ho, List.map_toArray, List.map_cons, List.map_nil, hv, hu, Sem.run_bind, hr, Result.andThen_ok, Sem.run_pure]
  exact hK _ _ h
end

def Fd.eJ (k : Nat) (p : Int) (ps : Nat → Gm.In) : En.E := ⟨0, [Fd.evJ k p], ps⟩
def Fd.eI (f : Int) : En.E := ⟨f, [], Fd.in0⟩
theorem en_built_J (A : Option Addr) (n c k : Nat) (p : Int) : Tryz.prog.built 42 [(1, .slice A n c)] = some (En.cells (Fd.eJ k p Fd.in0) (.slice A n c)) := en_built_evs A n c [Fd.evJ k p]
theorem en_built_I (f : Int) : Tryz.prog.built 42 [(0, .int .i64 f)] = some (En.cells (Fd.eI f) (.slice none 0 0)) := en_built_fr f
theorem en_built_I0 : Tryz.prog.built 42 [] = some (En.cells (Fd.eI 0) (.slice none 0 0)) := en_built_none
theorem told_set (s : Value) : (En.cells (Fd.eJ 0 2 Fd.in0) s).setIfInBounds 16 (.int .u8 1) = En.cells (Fd.eJ 0 2 (En.upd Fd.in0 4 ⟨0, 0, 1⟩)) s := rfl
theorem told_16 (s : Value) : (En.cells (Fd.eJ 0 2 Fd.in0) s)[16]? = some (.int .u8 0) := rfl
theorem in0_tyin : ∀ i, i < 8 → Gm.tyIn (Fd.in0 i) := fun i _ => by unfold Gm.tyIn Fd.in0; dsimp only; omega
theorem upd_tyin (j : Nat) (p : Gm.In) (hp : Gm.tyIn p) : ∀ i, i < 8 → Gm.tyIn (En.upd Fd.in0 j p i) := fun i hi => by
  unfold En.upd; split
  · exact hp
  · exact in0_tyin i hi
theorem start_new (d : Int) (hd : 0 ≤ d ∧ d ≤ 18446744073709551615) : Gm.ty (Gm.new d) := (Fd.start_fine hd).ty
set_option maxRecDepth 100000 in
set_option maxHeartbeats 4000000 in
theorem told10_any (w : World) :
    Calls Tryz.prog 11 #[] w fun e w' => e = .returned (.bool true) ∧ Below w.heap.size w w' := by
  have cs := fun X => Lib.hid (foldstart_any ⟨#[97]⟩ X (by decide))
  have hd := Dn.seed_bd (ByteArray.mk #[97]).data.toList
  generalize Dn.seed (ByteArray.mk #[97]).data.toList = d at cs hd
  have HD := Lib.hid hd
  have ty0 := Lib.hid (start_new d hd)
  clear hd
  go_enter Tryz.func11, Tryz.ntmps11
  go_upto_region 2 with (first | (go_at_call 20; ((with_reducible refine ((cs _).out).mono ?_); rintro x w1 ⟨rfl, hb⟩; have S1 := Lib.hid (Box.made w1 35 (Im.cells (Gm.new d) (.slice none 0 0) Ros.new)); have K1 := Lib.hid (hb.alloc hb.size (.cells (Im.cells (Gm.new d) (.slice none 0 0) Ros.new) 35)); clear hb)) | (with_reducible refine alloc_state rfl rfl ?_) | (with_reducible refine im_store_new rfl rfl rfl rfl Im.zero_size rfl ?_))
  generalize hW1 : w1.alloc (.cells (Im.cells (Gm.new d) (.slice none 0 0) Ros.new) 35) = W1 at S1 K1 ⊢
  generalize w1.heap.size = b1 at S1 ⊢
  have V2 := Lib.hid ((Box.made W1 61 #[.int .i64 1, .int .i64 0, .int .i64 1, .int .i64 2]).alloc (.cells (En.cells (Fd.eJ 0 2 Fd.in0) (.slice (some ⟨W1.heap.size, 0, none⟩) 1 1)) 42))
  have E2 := Lib.hid (Box.made_at (n := W1.heap.size + 1) (W1.alloc (.cells #[.int .i64 1, .int .i64 0, .int .i64 1, .int .i64 2] 61)) 42 (En.cells (Fd.eJ 0 2 Fd.in0) (.slice (some ⟨W1.heap.size, 0, none⟩) 1 1)) (by simp))
  have D2 := two_below' W1 (.cells #[.int .i64 1, .int .i64 0, .int .i64 1, .int .i64 2] 61) (.cells (En.cells (Fd.eJ 0 2 Fd.in0) (.slice (some ⟨W1.heap.size, 0, none⟩) 1 1)) 42)
  have S2 := Lib.hid (S1.out.below D2 S1.out.lt)
  have K2 := Lib.hid (K1.out.trans (D2.mono K1.out.size))
  have l2 := S1.out.lt
  have HB1 := Lib.hid K1.out.size
  clear D2 S1 K1 hW1
  go_upto_region 3 with (first | (refine wpList_build_is rfl (t := 42) (vs := [(1, .slice (some ⟨W1.heap.size, 0, none⟩) 1 1)]) rfl rfl (en_built_J _ _ _ 0 2) ?_) | (with_reducible refine alloc_en rfl rfl ?_) | (with_reducible refine en_store_new rfl rfl rfl rfl En.zeroC_size rfl ?_))
  simp only [World.size_alloc]
  generalize hW2 : (W1.alloc (.cells #[.int .i64 1, .int .i64 0, .int .i64 1, .int .i64 2] 61)).alloc (.cells (En.cells (Fd.eJ 0 2 Fd.in0) (.slice (some ⟨W1.heap.size, 0, none⟩) 1 1)) 42) = W2 at V2 E2 S2 K2 ⊢
  have HBE := Lib.hid (show w.heap.size ≤ W1.heap.size + 1 from Nat.le_succ_of_le HB1.out)
  generalize W1.heap.size + 1 = be at E2 HBE ⊢
  generalize W1.heap.size = bv at V2 E2 ⊢
  clear hW2 l2 HB1
  have T0 := Lib.hid (Fd.joined_fine (d := d) (k := 0) (p := 2) (ps := Fd.in0) HD.out (by decide) (by decide))
  have T0p := Lib.hid (Fd.joined_peer (d := d) (k := 0) (p := 2) (ps := Fd.in0))
  have ca1 := fun X (hV : Box X bv 61 #[.int .i64 1, .int .i64 0, .int .i64 1, .int .i64 2]) => Lib.hid (show Calls Tryz.prog 12 #[.agg (Im.cells (Gm.new d) (.slice none 0 0) Ros.new), .agg (En.cells (Fd.eJ 0 2 Fd.in0) (.slice (some ⟨bv, 0, none⟩) 1 1))] X (SOut (Fd.joined d 0 2 Fd.in0).g (Fd.joined d 0 2 Fd.in0).r 0 X) from
    foldapply_some (Fd.joined d 0 2 Fd.in0) (Fd.start d) (Fd.eJ 0 2 Fd.in0) none (some ⟨bv, 0, none⟩) 0 0 1 1 X ty0.out (by decide) rfl Lies.none_ rfl (by decide) (Lies.boxed4 (n := 1) hV rfl) in0_tyin (Fd.join_one HD.out (by decide) (by decide) (fun i hi => Fd.zero_ok rfl) (fun i hi _ => rfl)))
  have ca2 := fun X A c (hV : Box X bv 61 #[.int .i64 1, .int .i64 0, .int .i64 1, .int .i64 2]) hL => Lib.hid (show Calls Tryz.prog 12 #[.agg (Im.cells (Fd.joined d 0 2 Fd.in0).g (.slice A (Fd.joined d 0 2 Fd.in0).g.shots.length c) (Fd.joined d 0 2 Fd.in0).r), .agg (En.cells (Fd.eJ 0 2 Fd.in0) (.slice (some ⟨bv, 0, none⟩) 1 1))] X (SOut (Fd.joined d 0 2 Fd.in0).g (Fd.joined d 0 2 Fd.in0).r 1 X) from
    foldapply_none (Fd.joined d 0 2 Fd.in0) (Fd.eJ 0 2 Fd.in0) A (some ⟨bv, 0, none⟩) _ c 1 1 X T0.out.1.ty T0.out.1.few rfl hL rfl (by decide) (Lies.boxed4 (n := 1) hV rfl) in0_tyin (Fd.joined_late HD.out (by decide) (by decide) rfl))
  have ca3 := fun X (hV : Box X bv 61 #[.int .i64 1, .int .i64 0, .int .i64 1, .int .i64 2]) => Lib.hid (show Calls Tryz.prog 12 #[.agg (Im.cells (Gm.new d) (.slice none 0 0) Ros.new), .agg (En.cells (Fd.eJ 0 2 (En.upd Fd.in0 4 ⟨0, 0, 1⟩)) (.slice (some ⟨bv, 0, none⟩) 1 1))] X (SOut (Gm.new d) Ros.new 1 X) from
    foldapply_none (Fd.start d) (Fd.eJ 0 2 (En.upd Fd.in0 4 ⟨0, 0, 1⟩)) none (some ⟨bv, 0, none⟩) 0 0 1 1 X ty0.out (by decide) rfl Lies.none_ rfl (by decide) (Lies.boxed4 (n := 1) hV rfl) (upd_tyin 4 _ (by unfold Gm.tyIn; dsimp only; omega)) (Fd.join_busy (j := 4) (by decide) (by decide) (by decide) (by decide) rfl))
  have t_on : Hid (∀ s, (Im.cells (Fd.joined d 0 2 Fd.in0).g s (Fd.joined d 0 2 Fd.in0).r)[2]? = some (.bool true)) := Lib.hid fun s => (Im.cells_ship _ s _ 0 0 (by decide) (by decide)).trans (by show some (Value.bool ((Fd.joined d 0 2 Fd.in0).g.ship 0).on) = _; rw [T0.out.2.2])
  have t_fr : Hid (∀ s, (Im.cells (Fd.joined d 0 2 Fd.in0).g s (Fd.joined d 0 2 Fd.in0).r)[0]? = some (.int .i64 1)) := Lib.hid fun s => ((Im.cells_g _ s _ 0 (by decide)).trans (Gm.cells_0 _ s)).trans (by rw [T0.out.2.1])
  have t_pe : Hid (∀ s, (Im.cells (Fd.joined d 0 2 Fd.in0).g s (Fd.joined d 0 2 Fd.in0).r)[60]? = some (.int .i64 2)) := Lib.hid fun s => (Im.cells_peer _ s _ 0 (by decide)).trans (by rw [T0p.out])
  generalize Fd.joined d 0 2 Fd.in0 = T at ca1 ca2 t_on t_fr t_pe
  clear T0 T0p
  go_upto_region 4 with (first | ((with_reducible refine im_load_state rfl rfl ?_); apply LoadIm.mk rfl; (focus first | (with_reducible exact S2.out)); dsimp only) | ((with_reducible refine en_load rfl rfl ?_); apply LoadEn.mk rfl; (focus first | (with_reducible exact E2.out)); dsimp only) | (go_at_call 12; ((with_reducible refine ((ca1 _ V2.out).out).mono ?_); rintro x w3 ⟨A3, cA3, rfl, hL, hb⟩; have S3 := Lib.hid ((S2.out.below hb S2.out.lt).alloc (.cells (Im.cells T.g (.slice A3 T.g.shots.length cA3) T.r) 35)); have E3 := Lib.hid ((E2.out.below hb E2.out.lt).alloc (.cells (Im.cells T.g (.slice A3 T.g.shots.length cA3) T.r) 35)); have V3 := Lib.hid ((V2.out.below hb V2.out.lt).alloc (.cells (Im.cells T.g (.slice A3 T.g.shots.length cA3) T.r) 35)); have K3 := Lib.hid ((K2.out.trans (hb.mono K2.out.size)).alloc (Nat.le_trans K2.out.size hb.size) (.cells (Im.cells T.g (.slice A3 T.g.shots.length cA3) T.r) 35)); have B3 := Lib.hid (Box.made w3 35 (Im.cells T.g (.slice A3 T.g.shots.length cA3) T.r)); have L3 := Lib.hid (hL.call (one_below w3 (.cells (Im.cells T.g (.slice A3 T.g.shots.length cA3) T.r) 35))); clear hb hL)) | (with_reducible refine alloc_state rfl rfl ?_) | (with_reducible refine im_store_new rfl rfl rfl rfl Im.zero_size rfl ?_))
  generalize hWn : w3.alloc (.cells (Im.cells T.g (.slice A3 T.g.shots.length cA3) T.r) 35) = W3 at S3 E3 V3 L3 B3 K3 ⊢
  generalize w3.heap.size = b3 at B3 ⊢
  clear hWn
  clear S2 E2 V2 K2 ca1
  go_upto_region 5 with (first | ((with_reducible refine im_load_state rfl rfl ?_); apply LoadIm.mk rfl; (focus first | (with_reducible exact B3.out)); dsimp only) | ((with_reducible refine en_load rfl rfl ?_); apply LoadEn.mk rfl; (focus first | (with_reducible exact E3.out)); dsimp only) | (go_at_call 12; ((with_reducible refine ((ca2 _ _ _ V3.out L3.out).out).mono ?_); rintro x w3 ⟨A4, cA4, rfl, hL, hb⟩; have S4 := Lib.hid ((S3.out.below hb S3.out.lt).alloc (.cells (Im.cells T.g (.slice A4 T.g.shots.length cA4) T.r) 35)); have E4 := Lib.hid ((E3.out.below hb E3.out.lt).alloc (.cells (Im.cells T.g (.slice A4 T.g.shots.length cA4) T.r) 35)); have V4 := Lib.hid ((V3.out.below hb V3.out.lt).alloc (.cells (Im.cells T.g (.slice A4 T.g.shots.length cA4) T.r) 35)); have T4 := Lib.hid ((B3.out.below hb B3.out.lt).alloc (.cells (Im.cells T.g (.slice A4 T.g.shots.length cA4) T.r) 35)); have K4 := Lib.hid ((K3.out.trans (hb.mono K3.out.size)).alloc (Nat.le_trans K3.out.size hb.size) (.cells (Im.cells T.g (.slice A4 T.g.shots.length cA4) T.r) 35)); have B4 := Lib.hid (Box.made w3 35 (Im.cells T.g (.slice A4 T.g.shots.length cA4) T.r)); have L4 := Lib.hid (hL.call (one_below w3 (.cells (Im.cells T.g (.slice A4 T.g.shots.length cA4) T.r) 35))); clear hb hL)) | (with_reducible refine alloc_state rfl rfl ?_) | (with_reducible refine im_store_new rfl rfl rfl rfl Im.zero_size rfl ?_))
  generalize hWn : w3.alloc (.cells (Im.cells T.g (.slice A4 T.g.shots.length cA4) T.r) 35) = W4 at S4 E4 V4 T4 L4 B4 K4 ⊢
  generalize w3.heap.size = b4 at B4 ⊢
  clear hWn
  clear S3 E3 V3 K3 ca2 B3 L3 L4 B4
  have e4 := (E4.out.cell 16).trans (told_16 _)
  have f4 := E4.out.free 16
  have E5 := Lib.hid (show Box (W4.setCell ⟨be, 16, none⟩ (.int .u8 1)) be 42 (En.cells (Fd.eJ 0 2 (En.upd Fd.in0 4 ⟨0, 0, 1⟩)) (.slice (some ⟨bv, 0, none⟩) 1 1)) from told_set (.slice (some ⟨bv, 0, none⟩) 1 1) ▸ E4.out.put 16 (.int .u8 1))
  have S5 := Lib.hid (S4.out.far (p := ⟨be, 16, none⟩) (Box.apart S4.out E4.out (by decide)) (.int .u8 1))
  have V5 := Lib.hid (V4.out.far (p := ⟨be, 16, none⟩) (Box.apart V4.out E4.out (by decide)) (.int .u8 1))
  have T5 := Lib.hid (T4.out.far (p := ⟨be, 16, none⟩) (Box.apart T4.out E4.out (by decide)) (.int .u8 1))
  have hbe : Hid (w.heap.size ≤ be) := HBE
  have K5 := Lib.hid (K4.out.setCell (p := ⟨be, 16, none⟩) hbe.out (.int .u8 1))
  go_upto_region 6 with fail
  generalize hW5 : W4.setCell ⟨be, 16, none⟩ (.int .u8 1) = W5 at E5 S5 V5 T5 K5 ⊢
  clear hW5 e4 f4 E4 S4 V4 T4 K4
  go_upto_region 7 with (first | ((with_reducible refine im_load_state rfl rfl ?_); apply LoadIm.mk rfl; (focus first | (with_reducible exact S5.out)); dsimp only) | ((with_reducible refine en_load rfl rfl ?_); apply LoadEn.mk rfl; (focus first | (with_reducible exact E5.out)); dsimp only) | (go_at_call 12; ((with_reducible refine ((ca3 _ V5.out).out).mono ?_); rintro x w3 ⟨A6, cA6, rfl, hL, hb⟩; have S6 := Lib.hid ((S5.out.below hb S5.out.lt).alloc (.cells (Im.cells (Gm.new d) (.slice A6 (Gm.new d).shots.length cA6) Ros.new) 35)); have T6 := Lib.hid ((T5.out.below hb T5.out.lt).alloc (.cells (Im.cells (Gm.new d) (.slice A6 (Gm.new d).shots.length cA6) Ros.new) 35)); have K6 := Lib.hid ((K5.out.trans (hb.mono K5.out.size)).alloc (Nat.le_trans K5.out.size hb.size) (.cells (Im.cells (Gm.new d) (.slice A6 (Gm.new d).shots.length cA6) Ros.new) 35)); have B6 := Lib.hid (Box.made w3 35 (Im.cells (Gm.new d) (.slice A6 (Gm.new d).shots.length cA6) Ros.new)); have L6 := Lib.hid (hL.call (one_below w3 (.cells (Im.cells (Gm.new d) (.slice A6 (Gm.new d).shots.length cA6) Ros.new) 35))); clear hb hL)) | (with_reducible refine alloc_state rfl rfl ?_) | (with_reducible refine im_store_new rfl rfl rfl rfl Im.zero_size rfl ?_))
  generalize hWn : w3.alloc (.cells (Im.cells (Gm.new d) (.slice A6 (Gm.new d).shots.length cA6) Ros.new) 35) = W6 at S6 T6 L6 B6 K6 ⊢
  generalize w3.heap.size = b6 at B6 ⊢
  clear hWn
  clear S5 V5 T5 K5 E5 ca3
  have hrun := Fd.idle_run HD.out
  have cr := fun X (hB : Box X W6.heap.size 42 (En.sCells [⟨Fd.eI 0, none, 0⟩, ⟨Fd.eI 1, none, 0⟩]).toArray) => Lib.hid (show Calls Tryz.prog 19 #[.agg (Im.cells (Gm.new d) (.slice none 0 0) Ros.new), .slice (some ⟨W6.heap.size, 0, none⟩) 2 2] X (SOut (Fd.idle2 d).g (Fd.idle2 d).r 0 X) from
    foldrun_some (Fd.idle2 d) (Fd.start d) [⟨Fd.eI 0, none, 0⟩, ⟨Fd.eI 1, none, 0⟩] none (some ⟨W6.heap.size, 0, none⟩) 0 0 2 2 X (Fd.start_fine HD.out) rfl Lies.none_ (by decide) ⟨Lies.boxed4 (n := 2) hB rfl, fun q hq => (by rcases List.mem_cons.1 hq with rfl | hq; exact Lies.none_; rcases List.mem_cons.1 hq with rfl | hq; exact Lies.none_; cases hq), fun q hq => (by rcases List.mem_cons.1 hq with rfl | hq; exact Nat.zero_le _; rcases List.mem_cons.1 hq with rfl | hq; exact Nat.zero_le _; cases hq)⟩ (fun q hq => (by rcases List.mem_cons.1 hq with rfl | hq; exact in0_tyin; rcases List.mem_cons.1 hq with rfl | hq; exact in0_tyin; cases hq)) hrun.1)
  have v_fr : Hid (∀ s, (Im.cells (Fd.idle2 d).g s (Fd.idle2 d).r)[0]? = some (.int .i64 2)) := Lib.hid fun s => ((Im.cells_g _ s _ 0 (by decide)).trans (Gm.cells_0 _ s)).trans (by rw [hrun.2])
  have M7 := Lib.hid (Box.made W6 42 (En.sCells [⟨Fd.eI 0, none, 0⟩, ⟨Fd.eI 1, none, 0⟩]).toArray)
  have D7 := one_below W6 (.cells (En.sCells [⟨Fd.eI 0, none, 0⟩, ⟨Fd.eI 1, none, 0⟩]).toArray 42)
  have S7 := Lib.hid (S6.out.alloc (.cells (En.sCells [⟨Fd.eI 0, none, 0⟩, ⟨Fd.eI 1, none, 0⟩]).toArray 42))
  have T7 := Lib.hid (T6.out.alloc (.cells (En.sCells [⟨Fd.eI 0, none, 0⟩, ⟨Fd.eI 1, none, 0⟩]).toArray 42))
  have U7 := Lib.hid (B6.out.alloc (.cells (En.sCells [⟨Fd.eI 0, none, 0⟩, ⟨Fd.eI 1, none, 0⟩]).toArray 42))
  have K7 := Lib.hid (K6.out.trans (D7.mono K6.out.size))
  generalize Fd.idle2 d = V at cr v_fr
  clear hrun D7 K6
  go_upto_region 8 with (first | ((with_reducible refine im_load_state rfl rfl ?_); apply LoadIm.mk rfl; (focus first | (with_reducible exact S6.out) | (with_reducible exact S7.out)); dsimp only) | (refine wpList_build_is rfl (t := 42) (vs := []) rfl rfl (en_built_I0) ?_) | (refine wpList_build_is rfl (t := 42) (vs := [(0, .int .i64 1)]) rfl rfl (en_built_I 1) ?_) | ((with_reducible refine en_build2 rfl rfl ?_); (refine BuildEn2.mk (q := ⟨Fd.eI 0, none, 0⟩) (r := ⟨Fd.eI 1, none, 0⟩) rfl rfl ?_)) | (go_at_call 19; ((with_reducible refine ((cr _ M7.out).out).mono ?_); rintro x w3 ⟨A8, cA8, rfl, hL, hb⟩; have S8 := Lib.hid ((S7.out.below hb S7.out.lt).alloc (.cells (Im.cells V.g (.slice A8 V.g.shots.length cA8) V.r) 35)); have T8 := Lib.hid ((T7.out.below hb T7.out.lt).alloc (.cells (Im.cells V.g (.slice A8 V.g.shots.length cA8) V.r) 35)); have U8 := Lib.hid ((U7.out.below hb U7.out.lt).alloc (.cells (Im.cells V.g (.slice A8 V.g.shots.length cA8) V.r) 35)); have K8 := Lib.hid ((K7.out.trans (hb.mono K7.out.size)).alloc (Nat.le_trans K7.out.size hb.size) (.cells (Im.cells V.g (.slice A8 V.g.shots.length cA8) V.r) 35)); have B8 := Lib.hid (Box.made w3 35 (Im.cells V.g (.slice A8 V.g.shots.length cA8) V.r)); have L8 := Lib.hid (hL.call (one_below w3 (.cells (Im.cells V.g (.slice A8 V.g.shots.length cA8) V.r) 35))); clear hb hL)) | (with_reducible refine alloc_state rfl rfl ?_) | (with_reducible refine im_store_new rfl rfl rfl rfl Im.zero_size rfl ?_))
  generalize hWn : w3.alloc (.cells (Im.cells V.g (.slice A8 V.g.shots.length cA8) V.r) 35) = W8 at S8 T8 U8 L8 B8 K8 ⊢
  generalize w3.heap.size = b8 at B8 ⊢
  clear hWn
  clear S7 T7 U7 K7 M7 cr L8
  have t1 := (T8.out.cell 2).trans (t_on.out _)
  have t2 := (T8.out.cell 0).trans (t_fr.out _)
  have t3 := (T8.out.cell 60).trans (t_pe.out _)
  have v1 := fun X (h : Below W8.heap.size W8 X) => ((B8.out.below h B8.out.lt).cell 0).trans (v_fr.out _)
  have csm := fun X A c n (hn : n = (Gm.new d).shots.length) => Lib.hid (foldsame_any (Gm.new d) (Gm.new d) Ros.new Ros.new A none n 0 c 0 X hn rfl (by subst hn; exact Lies.none_) Lies.none_ (by subst hn; exact Nat.zero_le _) (Nat.zero_le _))
  have cmy := fun X => Lib.hid (foldmay_any (Gm.new d) Ros.new none 0 0 X ty0.out (Nat.zero_le _) rfl Lies.none_)
  have OK := Lib.hid (Fd.start_fine HD.out).ok
  go_wp2_with (first | ((with_reducible refine im_load_state_g ?_ rfl ?_); (focus first | rfl | kernel_rfl | simp [Region.wanted, yielded]); apply LoadIm.mk rfl; (focus first | (with_reducible exact S8.out) | (with_reducible exact U8.out) | (with_reducible exact S9.out)); dsimp only) | (go_at_call 17; ((with_reducible refine ((csm _ _ _ _ rfl).out).mono ?_); rintro x w9 ⟨⟨v, rfl, hv⟩, hb⟩; obtain rfl : v = true := hv.2 ⟨Gm.Eq.refl _, rfl, fun _ _ => ⟨rfl, rfl⟩⟩; have S9 := Lib.hid (S8.out.below hb S8.out.lt); have v9 := v1 _ hb; have K9 := Lib.hid (K8.out.trans (hb.mono K8.out.size)); clear hb hv)) | (go_at_call 14; ((with_reducible refine ((cmy _).out).mono ?_); rintro x w10 ⟨⟨v, rfl, hv⟩, hb⟩; obtain rfl : v = true := hv.2 OK.out; have K10 := Lib.hid (K9.out.trans (hb.mono K9.out.size)); clear hb hv)))
  go_ret
  exact ⟨rfl, K10.out⟩
end Go.Proofs.YtiahpncglpfjeaaGreat
