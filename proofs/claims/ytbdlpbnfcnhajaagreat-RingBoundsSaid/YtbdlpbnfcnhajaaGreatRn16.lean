/-
Several texts in one: Rgw Rgy Rpa Rpb Rpc Rpd Rpe Rpf.
-/
import Derived.Test.YtbdlpbnfcnhajaaGreatRn15
set_option maxRecDepth 100000
set_option maxHeartbeats 8000000
set_option linter.unusedVariables false
set_option linter.unusedSimpArgs false
namespace Go.Proofs.YtbdlpbnfcnhajaaGreat
open Go.RowKit Go.Shelf
structure Rb (LP : RingP) (w : World) (Br : Nat) (S : Nat → Fd.S) (bs k : Nat) (L : List Rg.St) (AO : Option Addr) (cO : Nat) (X : World) : Prop where
 ex : ∃ q G, AllSt LP w Br (Rg.ringM S 0 (min k 8 + 1)) L AO cO bs q G X ∧ q.s = S k ∧ (∀ g, (Value.slice AO L.length cO).ownBlock = some g → q.g.shots.length ≠ 0 → ∀ ad, q.A = some ad → ad.block ≠ g)
 all : L.map Rg.St.s = Rg.ringM S 0 (k + 1)
theorem Rb.len {LP : RingP} {w : World} {Br : Nat} {S : Nat → Fd.S} {bs k : Nat} {L : List Rg.St} {AO : Option Addr} {cO : Nat} {X : World} (h : Rb LP w Br S bs k L AO cO X) : L.length = k + 1 := by
 have := congrArg List.length h.all
 rwa [List.length_map, Rg.ringM_len] at this
theorem rb_push {S : Nat → Fd.S} {m k : Nat} (LN : Rg.Line S m) (hk : k < m) : Rg.pushB (Rg.ringM S 0 (min k 8 + 1)) (S (k + 1)) = decide ((k : Int) < 8) ∧ Rg.push (Rg.ringM S 0 (min k 8 + 1)) (S (k + 1)) = Rg.ringM S 0 (min (k + 1) 8 + 1) := by
 by_cases h : k < 8
 · rw [show min k 8 = k by omega, show min (k + 1) 8 = k + 1 by omega, decide_eq_true (show (k : Int) < 8 by omega)]
   exact Rg.ringM_push LN (by omega) (by omega) (by omega)
 · rw [show min k 8 = 8 by omega, show min (k + 1) 8 = 8 by omega, decide_eq_false (show ¬ (k : Int) < 8 by omega)]
   exact Rg.ringM_full _ (by omega)
def q00 (d : Int) : Rg.St := ⟨Gm.new d, Ros.new, none, 0⟩
theorem rb_start {LP : RingP} {w1 w3 w6 : World} {Br bs ao : Nat} {S : Nat → Fd.S} {d : Int} (S0 : S 0 = Fd.start d) (hold : P15 LP w1 Br [Fd.start d] (fun j => w1.heap.size ≤ j ∧ j < w3.heap.size) w6) (row : w6.ownsRow w1.heap.size 40 76 (.slice (some ⟨ao, 0, none⟩) 1 1) 1 (Rg.St.cells (q00 d))) (h1 : w1.heap.size ≤ ao) (h2 : ao < w3.heap.size) (h3 : bs < ao) (st : Box w6 bs 40 (Rg.St.arr (q00 d))) (h4 : w1.heap.size ≤ bs) (h5 : bs < w3.heap.size) : Rb LP w1 Br S bs 0 [q00 d] (some ⟨ao, 0, none⟩) 1 w6 := by
 have e1 : [Fd.start d] = Rg.ringM S 0 1 := by show [Fd.start d] = [S 0]; rw [S0]
 have hnone : (q00 d).A = none := rfl
 have hlen : (q00 d).g.shots.length = 0 := rfl
 have hl : Lies w6 w6.heap.size 6 (q00 d).A (q00 d).g.shots.length (Gm.shotCells (q00 d).g.shots) := Lies.none_
 refine ⟨⟨q00 d, _, ⟨e1 ▸ hold, ?_, fun g e => ?_, fun g e x hx h0 ad ea => ?_, fun x hx => ?_, st, ⟨h4, h5⟩, Nat.one_pos, hl, fun h0 => absurd hlen h0⟩, S0.symm, fun g e h0 => absurd hlen h0⟩, e1⟩
 · rw [List.flatMap_cons, List.flatMap_nil, List.append_nil]
   exact row
 · have e2 : some ao = some g := e
   injection e2 with e2
   subst e2
   exact ⟨⟨h1, h2⟩, by omega⟩
 · obtain rfl := List.mem_singleton.1 hx
   exact absurd hlen h0
 · obtain rfl := List.mem_singleton.1 hx
   exact ⟨hl, fun h0 => absurd hlen h0⟩
theorem bounds15_main {LP : RingP} (C : RingC LP) (seed : ByteArray) (l : List Fd.Turn) (A : Option Addr) (n c : Nat) (cut drp : Int) (w : World) (hsz : seed.size ≤ 20) (hn : n = l.length) (hn20 : n ≤ 20) (hl : Lies w w.heap.size 25 A n (l.flatMap Fd.Turn.cells)) (hty : ∀ q ∈ l, q.ty) :
 Calls Tryz.prog 4 #[.string seed, .slice A n c, .int .i64 cut, .int .i64 drp] w fun e w' => e = .returned (.bool true) ∧ Below w.heap.size w w' := by
 have h63 : seed.size ≤ maxLen := by unfold maxLen; omega
 have hs20 : (seed.size : Int) ≤ 20 := by omega
 have hn1 : (n : Int) ≤ 20 := by omega
 have cm := qh (make_any seed l A n c _ w h63 rfl hn (by omega) hl hty)
 have hd := Dn.seed_bd seed.data.toList
 have cs := fun X => qh (foldstart_any seed X h63)
 generalize Dn.seed seed.data.toList = d at cm hd cs
 have HD := qh hd
 clear hd hl hty hn
 go_enter Tryz.func4, Tryz.ntmps4
 go_upto_region 4 with (go_at_call 7; ((with_reducible refine ((cm).out).mono ?_); rintro x w1 ⟨A1, c1, log, u, rfl, hL, hT, hrun, hlen, hb, hcap⟩; have L1 := qh hL; have T1 := qh hT; have RU := qh hrun; have K1 := qh hb; have LE := qh hlen; clear hL hT hrun hb hcap hlen))
 have b1 := Below.refl w1.heap.size w1
 have TY := qh (Fd.start_fine HD.out).ty
 go_upto_region 5 with (first | (go_at_call 25; ((with_reducible refine ((cs _).out).mono ?_); rintro x w2 ⟨rfl, hb⟩; have S2 := qh (Box.made w2 40 (Im.cells (Gm.new d) (.slice none 0 0) Ros.new)); have K2 := qh (hb.alloc hb.size (.cells (Im.cells (Gm.new d) (.slice none 0 0) Ros.new) 40)); have G2 := qh hb.size; clear hb)) | (with_reducible refine alloc_state rfl rfl ?_) | (with_reducible refine im_store_new rfl rfl rfl rfl Im.zero_size rfl ?_))
 generalize hW2 : w2.alloc (.cells (Im.cells (Gm.new d) (.slice none 0 0) Ros.new) 40) = W2 at S2 K2 ⊢
 generalize w2.heap.size = bs at S2 G2 ⊢
 clear hW2 cm cs b1
 go_upto_region 6 with (first | ((with_reducible refine im_load_state rfl rfl ?_); apply LoadIm.mk rfl; (focus (with_reducible exact S2.out)); dsimp only) | (with_reducible refine st_build1 (g := Gm.new d) (s := .slice none 0 0) (r := Ros.new) rfl rfl rfl ?_))
 have k3 := one_below W2 (.cells (Im.cells (Gm.new d) (.slice none 0 0) Ros.new) 40)
 have S3 := qh (S2.out.below k3 S2.out.lt)
 have K3 := qh (K2.out.trans (k3.mono K2.out.size))
 have O3 := qh (show (W2.alloc (.cells (Im.cells (Gm.new d) (.slice none 0 0) Ros.new) 40)).ownsRow w1.heap.size 40 76 (.slice (some ⟨W2.heap.size, 0, none⟩) 1 1) 1 (Rg.St.cells (q00 d)) from World.ownsRow_lit (base := w1.heap.size) (e := 40) (size := 76) W2 (Im.cells (Gm.new d) (.slice none 0 0) Ros.new) 1 K2.out.size (by unfold maxLen; omega) (by rw [Im.cells_size]))
 have NB := qh (show bs < W2.heap.size from S2.out.lt)
 have ZB := qh (show W2.heap.size < (W2.alloc (.cells (Im.cells (Gm.new d) (.slice none 0 0) Ros.new) 40)).heap.size by simp)
 have ZC := qh (show w1.heap.size ≤ W2.heap.size from K2.out.size)
 generalize hao : W2.heap.size = ao at O3 NB ZB ZC ⊢
 generalize W2.alloc (.cells (Im.cells (Gm.new d) (.slice none 0 0) Ros.new) 40) = W3 at *
 clear hao k3 S2 K2
 have cn := qh (show Calls Tryz.prog 10 #[.agg (Im.cells (Gm.new d) (.slice none 0 0) Ros.new)] W3 (fun e X' => ∃ B, e = .returned (.pointer (some ⟨B, 0, none⟩)) ∧ P15 LP w1 B [Fd.start d] (fun j => w1.heap.size ≤ j ∧ j < W3.heap.size) X' ∧ Below W3.heap.size W3 X') from P15.new C (w := w1) (G := fun j => w1.heap.size ≤ j ∧ j < W3.heap.size) ⟨Gm.new d, Ros.new, none, 0⟩ TY.out (Fd.start_fine HD.out).ok Lies.none_ K3.out (fun j hj => hj))
 go_upto_region 7 with (first | ((with_reducible refine im_load_state rfl rfl ?_); apply LoadIm.mk rfl; (focus (with_reducible exact S3.out)); dsimp only) | (go_at_call 10; ((with_reducible refine ((cn).out).mono ?_); rintro x w6 ⟨Br, rfl, h6, hb6⟩; have H6 := qh h6; have B6 := qh hb6; clear h6 hb6)))
 obtain ⟨S, hS⟩ : ∃ S, S = Rg.stAt d (Fd.es log) := ⟨_, rfl⟩
 obtain ⟨m, hm⟩ : ∃ m, m = log.length := ⟨_, rfl⟩
 have HM := qh hm
 have ml : (Fd.es log).length = m := by rw [hm]; exact List.length_map _
 have LN := qh (show Rg.Line S m from ⟨fun j hj => by rw [hS]; exact Rg.stAt_fine HD.out RU.out j, fun j hj => by rw [hS]; exact Rg.stAt_frame HD.out RU.out j (by rw [ml]; exact hj)⟩)
 have SP := qh (show ∀ j (hj : j < log.length), Fd.apply (S j) (log[j]).e = some (S (j + 1)) from fun j hj => by
  have := Rg.stAt_step RU.out j (by rw [ml]; omega)
  rw [Fd.es_at log j (by rw [ml]; omega) hj] at this
  rw [hS]
  exact this)
 have S0 : S 0 = Fd.start d := by rw [hS]; rfl
 have Z0 := qh S0
 rw [← hm]
 have hm20 : m ≤ 20 := by have := LE.out; omega
 have hll := qh (show LiesS w1 w1.heap.size A1 m log from HM.out ▸ L1.out)
 have R0 := qh (rb_start (LP := LP) (S := S) (d := d) S0 H6.out (own_below O3.out B6.out (Nat.le_refl _)) ZC.out ZB.out NB.out (S3.out.below B6.out S3.out.lt) G2.out S3.out.lt)
 clear hS hm ml S0 cn H6 B6 S3 K3 O3 NB ZB ZC
 go_wp2_with fail
 go_loopw [11, 13] (fun al i wr => ∃ (k : Nat) (L : List Rg.St) (AO : Option Addr) (cO : Nat), k ≤ m ∧ i = .int .i64 k ∧ al = .slice AO L.length cO ∧ Rb LP w1 Br S bs k L AO cO wr) (fun _ i _ => m - (intOf i).toNat)
 case atStart => exact ⟨0, _, _, 1, Nat.zero_le _, rfl, rfl, R0.out⟩
 case round =>
  clear R0
  obtain ⟨k, L, AO, cO, hk, rfl, rfl, hR⟩ := hrel
  have RR := qh hR
  clear hR
  by_cases hlt : k < m
  · have hk8 : (k : Int) < m := by omega
    have hkl : k < log.length := by have := HM.out; omega
    obtain ⟨ad, hA1, hblk, hrow⟩ := hll.out.at k hkl
    subst hA1
    obtain ⟨q, G, hAS, hqs, hqd⟩ := RR.out.ex
    have AS := qh hAS
    have QS := qh hqs
    have QD := qh hqd
    have AL := qh RR.out.all
    have LL := qh RR.out.len
    have hap := SP.out k hkl
    rw [← hqs] at hap
    have hTq := T1.out log[k] (List.getElem_mem hkl)
    have hEq := hll.out.each log[k] (List.getElem_mem hkl)
    have hFq := hll.out.few log[k] (List.getElem_mem hkl)
    generalize log[k] = ev at hrow hap hTq hEq hFq
    obtain ⟨T, hT⟩ : ∃ T, T = S (k + 1) := ⟨_, rfl⟩
    rw [← hT] at hap
    have TT := qh hT
    have AP := qh hap
    have fq := qh (show Fd.Fine q.s by rw [hqs]; exact LN.out.fine k (by omega))
    have HBX := qh (fun X (hX : Below wr.heap.size wr X) => (show Box X bs 40 (Im.cells q.g (.slice q.A q.g.shots.length q.c) q.r) from AS.out.st.below hX AS.out.st.lt))
    have EX := qh (fun (X : World) (hX : Below wr.heap.size wr X) (j : Nat) (v : Value) (hv : ev.cells[j]? = some v) => ((AS.out.hold.down.trans (hX.mono AS.out.hold.down.size)).cell (p := (ad.add (k * 26)).add j) (by rw [add_block, add_block]; exact hblk)).trans (hrow j v hv))
    have CA := qh (fun X (hX : Below wr.heap.size wr X) => show Calls Tryz.prog 26 #[.agg (Im.cells q.g (.slice q.A q.g.shots.length q.c) q.r), .agg (En.cells ev.e ev.sl)] X (SOutN T.g T.r 0 X) from foldapply_new T q.s ev.e q.A ev.adr q.g.shots.length q.c ev.e.evs.length ev.cap X fq.out.ty fq.out.few rfl ((AS.out.qs.1.below hX).wider hX.size) rfl hFq ((hEq.below (AS.out.hold.down.trans (hX.mono AS.out.hold.down.size))).wider (AS.out.hold.down.trans (hX.mono AS.out.hold.down.size)).size) hTq AP.out)
    clear hAS hqs hqd hap hT hTq hEq hFq hrow RR
    go_upto_region 12 with fail
    refine Rz.wp_region_z (by kernel_rfl) 5 11 (by kernel_rfl) (fun X => Below wr.heap.size wr X) (fun j vm => stN T.g T.r 0 wr.heap.size (j - 5) (fun k => vm (5 + k))) ((Below.refl _ _).drew) ?hvd ?_
    case hvd =>
     intro j vm vm' X h1 h2 he hV
     obtain rfl | rfl | rfl | rfl | rfl | rfl : j = 5 ∨ j = 6 ∨ j = 7 ∨ j = 8 ∨ j = 9 ∨ j = 10 := by omega
     · exact stN_congr hV (by omega) (he 5 (.inl rfl)) (fun h => absurd h (by decide))
     · exact stN_congr hV (by omega) (he 6 (.inl rfl)) (fun h => absurd h (by decide))
     · exact stN_congr hV (by omega) (he 7 (.inl rfl)) (fun h => absurd h (by decide))
     · exact stN_congr hV (by omega) (he 8 (.inl rfl)) (fun h => absurd h (by decide))
     · exact stN_congr hV (by omega) (he 9 (.inl rfl)) (fun h => absurd h (by decide))
     · exact stN_congr hV (by omega) (he 10 (.inl rfl)) (fun _ => he 9 (.inr (by kernel_rfl)))
    simp only [List.take_succ_cons, List.take_zero, List.drop_succ_cons, List.drop_zero, Nat.reduceSub]
    apply Rz.head_op; focus (intro W hW; exact exec_load_state rfl rfl (HBX.out W hW))
    apply Rz.head_op; focus (intro W hW; clear hW; go_simp; first | done | rfl)
    apply Rz.head_op; focus (intro W hW; clear hW; go_simp; first | done | rfl)
    apply Rz.head_op; focus (intro W hW; clear hW; go_simp; first | done | rfl)
    apply Rz.head_op; focus (intro W hW; refine exec_load_entry (ad := ad.add (k * 26)) ev rfl ?_ (EX.out W hW); clear hW; go_simp; first | done | rfl)
    refine Rz.head_split (fun A => A.tmps.size = 186) (by simp only [Rz.put_size]; rfl) ?_ ?_ ?_
    · intro vm X hX hV
      simp only [Rz.putAll]
      clear hV
      refine gives_call (f := 26) (args := #[.agg (Im.cells q.g (.slice q.A q.g.shots.length q.c) q.r), .agg (En.cells ev.e ev.sl)]) ?_ ((CA.out X hX).mono ?_)
      · go_simp
        first | done | rfl
      · rintro e w' ⟨A2, c2, rfl, hl, hb, hN⟩
        exact ⟨_, rfl, ⟨A2, c2, by simp [Rz.upd], ⟨hl, hN.mono hX.size⟩⟩, hX.trans (hb.mono hX.size), fun j _ _ _ h => stN_below h hb⟩
    · intro A hAs
      refine ⟨?_, ?_, ?_, ?_, ?_, trivial⟩
      · intro vm X hX hV
        obtain ⟨A2, c2, e, hl⟩ := stN_0 (hV 5 (by omega) (by omega) (by kernel_rfl))
        refine gives_val (w' := X) (Rz.exec_move (v := vm 5) rfl ?_) ⟨⟨A2, c2, by simpa [Rz.upd] using e, hl⟩, hX, fun j _ _ _ h => h⟩
        simp only [Rz.putAll]
        rw [Rz.put_none, Rz.put_other (by decide), Rz.put_other (by decide), Rz.put_other (by decide), Rz.put_other (by decide), Rz.put_same (by rw [hAs]; decide)]
      · intro vm X hX hV
        obtain ⟨A2, c2, e, hl⟩ := stN_1 (hV 6 (by omega) (by omega) (by kernel_rfl))
        refine gives_val (w' := X) (Rz.exec_extract (v := .agg (Im.cells T.g (.slice A2 (T.g).shots.length c2) T.r)) (vs := #[.agg (Im.cells T.g (.slice A2 (T.g).shots.length c2) T.r), .int .i64 0]) rfl ?_ rfl) ⟨⟨A2, c2, by simp [Rz.upd], hl⟩, hX, fun j _ _ _ h => h⟩
        simp only [Rz.putAll]
        rw [Rz.put_none, Rz.put_other (by decide), Rz.put_other (by decide), Rz.put_other (by decide), Rz.put_same (by simp only [Rz.put_size, hAs]; decide)]
        exact e
      · intro vm X hX hV
        obtain ⟨A2, c2, e, hl⟩ := stN_1 (hV 6 (by omega) (by omega) (by kernel_rfl))
        refine gives_val (w' := X) (Rz.exec_extract (v := .int .i64 0) (vs := #[.agg (Im.cells T.g (.slice A2 (T.g).shots.length c2) T.r), .int .i64 0]) rfl ?_ rfl) ⟨by simp [Rz.upd, stN], hX, fun j _ _ _ h => h⟩
        simp only [Rz.putAll]
        rw [Rz.put_none, Rz.put_other (by decide), Rz.put_other (by decide), Rz.put_other (by decide), Rz.put_same (by simp only [Rz.put_size, hAs]; decide)]
        exact e
      · intro vm X hX hV
        exact gives_val (exec_alloc_z rfl state_zero rfl) ⟨⟨_, Im.G0, none, 0, 0, Im.R0, by simp [Rz.upd], hX.size, Box.made _ _ _⟩, hX.alloc hX.size _, fun j _ _ _ h => stN_below h (one_below _ _)⟩
      · intro vm X hX hV
        obtain ⟨B, g', A', m', c', r', e4, hbB, hB⟩ := stN_4 (hV 9 (by omega) (by omega) (by kernel_rfl))
        obtain ⟨A2, c2, e2, hl⟩ := stN_2 (hV 7 (by omega) (by omega) (by kernel_rfl))
        have e4' : vm 9 = .pointer (some ⟨B, 0, none⟩) := e4
        have e2' : vm 7 = .agg (Im.cells T.g (.slice A2 (T.g).shots.length c2) T.r) := e2
        refine gives_skip (exec_store_blk (B := B) (cs := Im.cells T.g (.slice A2 (T.g).shots.length c2) T.r) rfl ?_ ?_ hB (by rw [Im.cells_size]; exact state_info) (by rw [Im.cells_size, Im.cells_size]) (state_one rfl)) ⟨⟨B, A2, c2, by simpa [Rz.upd] using e4', hbB, hB.row _, hl.state_row rfl hB _⟩, Below.setRow' hX hbB _, fun j h1 h2 h3 h => stN_row h (by omega) e4 hB⟩
        · simp only [Rz.putAll]
          rw [Rz.put_none, Rz.put_same (by simp only [Rz.put_size, hAs]; decide)]
          exact e4'
        · simp only [Rz.putAll]
          rw [Rz.put_none, Rz.put_other (by decide), Rz.put_other (by decide), Rz.put_same (by simp only [Rz.put_size, hAs]; decide)]
          exact e2'
    · intro vm X hX hV
      obtain ⟨BX, A2, c2, e4, hbB, hBX, hl⟩ := stN_5 (hV 10 (by omega) (by omega))
      have e3 := stN_3 (hV 8 (by omega) (by omega))
      clear hV
      simp only [Nat.reduceAdd] at e4 e3
      simp only [Rz.putAll, Nat.reduceAdd, e4, e3]
      generalize vm 5 = v5
      generalize vm 6 = v6
      generalize vm 7 = v7
      generalize vm 10 = v10
      have HT := qh hBX
      have HL := qh hl
      have HK := qh (show Below wr.heap.size wr X from hX)
      have HB := qh hbB
      clear hBX hl hX hbB e4 e3 HBX EX CA
      simp only [Act.put, List.setIfInBounds_toArray, List.set_cons_succ, List.set_cons_zero]
      have AS1 := qh (AS.out.call C.ob HK.out)
      have GB := qh (show (fun j => G j ∨ (wr.heap.size ≤ j ∧ j < X.heap.size)) BX from .inr ⟨HB.out, HT.out.lt⟩)
      have GX := qh (show T.g.shots.length ≠ 0 → ∀ ad, A2 = some ad → (G ad.block ∨ (wr.heap.size ≤ ad.block ∧ ad.block < X.heap.size)) ∧ ∀ g, (Value.slice AO L.length cO).ownBlock = some g → ad.block ≠ g from fun h0 ad e => by
       have h1 := HL.out.new h0 ad e
       obtain ⟨ad', e', hb'⟩ := HL.out.lies.start h0
       rw [e] at e'; injection e' with e'; subst e'
       exact ⟨.inr ⟨h1, hb'⟩, fun g eg => by have := (AS.out.hold.lt (AS.out.rowG g eg).1).2; omega⟩)
      have FT := qh (show Fd.Fine T by rw [TT.out]; exact LN.out.fine (k + 1) (by omega))
      have hpu := rb_push LN.out hlt
      rw [← TT.out] at hpu
      have cp := qh (show Calls Tryz.prog 12 #[.pointer (some ⟨Br, 0, none⟩), .agg (Im.cells T.g (.slice A2 T.g.shots.length c2) T.r)] X (fun e X' => e = .returned (.bool (decide ((k : Int) < 8))) ∧ P15 LP w1 Br (Rg.ringM S 0 (min (k + 1) 8 + 1)) (fun j => G j ∨ (wr.heap.size ≤ j ∧ j < X.heap.size)) X' ∧ KeptO (fun j => G j ∨ (wr.heap.size ≤ j ∧ j < X.heap.size)) X X' ∧ X.heap.size ≤ X'.heap.size) from by
       have h := P15.push_size C (Rg.ringM_ok LN.out (by omega) (by omega) (by omega)) ⟨T.g, T.r, A2, c2⟩ FT.out.ty (by have := FT.out.few; show T.g.shots.length ≤ maxLen; unfold maxLen; omega) AS1.out.hold HL.out.lies
       rw [show (Rg.St.s ⟨T.g, T.r, A2, c2⟩) = T from rfl, hpu.1, hpu.2] at h
       exact h)
      clear hpu
      go_upto_region 15 with (first | ((with_reducible refine im_load_state_g ?_ rfl ?_); (focus first | rfl | kernel_rfl | simp [Region.wanted, yielded]); apply LoadIm.mk rfl; (focus (with_reducible exact HT.out)); dsimp only) | (go_at_call 12; ((with_reducible refine ((cp).out).mono ?_); rintro x13 Y ⟨rfl, hp1, hp2, hp3⟩; have AS2 := qh (AS1.out.says hp1 hp2 hp3); have HT2 := qh (hp2.box GB.out HT.out); have HL2 := qh (lies_kept HL.out.lies hp3 (fun h0 ad e => hp2 _ (GX.out h0 ad e).1)); have SZ2 := qh hp3; clear hp1 hp2 hp3)))
      have NBX := qh (show BX ≠ bs from fun e => by have h1 := (AS.out.hold.lt AS.out.stG).2; have h2 := HB.out; omega)
      have AS3 := qh (AS2.out.store C.ob (x := ⟨T.g, T.r, A2, c2⟩) HL2.out (fun h0 ad e => (GX.out h0 ad e).1))
      have HS2 := AS2.out.st
      have ARR := qh (show Rg.St.arr ⟨T.g, T.r, A2, c2⟩ = Im.cells T.g (.slice A2 T.g.shots.length c2) T.r from rfl)
      rw [ARR.out] at AS3
      have HT3 := qh (HT2.out.row_far NBX.out (Im.cells T.g (.slice A2 T.g.shots.length c2) T.r))
      clear cp AS1 HL HT AS
      go_upto_region 16 with (first | ((with_reducible refine im_load_state rfl rfl ?_); apply LoadIm.mk rfl; (focus (with_reducible exact HT2.out)); dsimp only) | ((with_reducible refine im_store_state rfl rfl ?_); apply StoreS.mk rfl rfl; (focus exact HS2); (focus (exact q.size)); (focus rfl)))
      clear HS2 AS2 HT2 HL2
      generalize Y.setRow bs (Im.cells T.g (.slice A2 T.g.shots.length c2) T.r) = Z at *
      obtain ⟨A5, c5, W5, r5, G5, AS5⟩ := AS3.out.appended C.ob (x := ⟨T.g, T.r, A2, c2⟩) AS3.out.qs.1 (fun h0 ad e => GX.out h0 ad e) (by have := LL.out; omega) (fun h0 ad e => (GX.out h0 ad e).2) 42
      rw [ARR.out] at r5
      go_wp2_with (first | ((with_reducible refine im_load_state rfl rfl ?_); apply LoadIm.mk rfl; (focus (with_reducible exact HT3.out)); dsimp only) | (with_reducible refine st_build1 (g := T.g) (s := .slice A2 T.g.shots.length c2) (r := T.r) rfl rfl rfl ?_) | ((refine append_run (x := .tmp 68) (y := .tmp 70) rfl rfl rfl rfl r5 ?_)))
      go_roundw
      case rel =>
       refine ⟨k + 1, L ++ [⟨T.g, T.r, A2, c2⟩], A5, c5, by omega, by go_num, by rw [List.length_append]; rfl, ⟨⟨(⟨T.g, T.r, A2, c2⟩ : Rg.St), G5, AS5, (show Rg.St.s ⟨T.g, T.r, A2, c2⟩ = S (k + 1) from TT.out), fun g eg h0 ad e => AS5.rowD g eg _ (List.mem_append_right _ (List.mem_singleton_self _)) h0 ad e⟩, ?_⟩⟩
       rw [List.map_append, AL.out, Rg.ringM_succ (k := k + 1)]
       show _ ++ [T] = _
       rw [TT.out]
      case measure => simp [intOf]; omega
  · obtain rfl : k = m := by omega
    have hki : ¬ (k : Int) < (k : Int) := by omega
    obtain ⟨q, G, hAS, hqs, hqd⟩ := RR.out.ex
    have AL := qh RR.out.all
    have LL := qh RR.out.len
    obtain ⟨n0, hn0⟩ : ∃ n0 : Nat, n0 = min k 8 + 1 := ⟨_, rfl⟩
    rw [← hn0] at hAS
    have A0 := qh (show AllX LP w1 Br (Rg.ringM S 0 n0) L AO cO bs wr from ⟨q, G, hAS⟩)
    clear hAS hqs hqd RR
    have hN : (if (8 : Int) < (k : Int) then (8 : Int) else (k : Int)) + 1 = (n0 : Int) := by split <;> omega
    have n1 : 1 ≤ n0 := by omega
    have n9 : n0 ≤ 9 := by omega
    have nk : n0 ≤ k + 1 := by omega
    obtain ⟨cc, hcn, hce⟩ : ∃ cc : Nat, cc < n0 ∧ wrap64 ((IntKind.u64.wrap cut).tmod (n0 : Int)) = (cc : Int) := by
     rw [wrap_u64']
     obtain ⟨z, hz⟩ : ∃ z, z = cut % 18446744073709551616 := ⟨_, rfl⟩
     have hz0 : 0 ≤ z := by omega
     have h1 := Int.emod_nonneg z (show (n0 : Int) ≠ 0 by omega)
     have h2 := Int.emod_lt_of_pos z (show (0 : Int) < (n0 : Int) by omega)
     rw [← hz]
     rw [Int.tmod_eq_emod_of_nonneg hz0, IntWalk.wrap64_in _ (by omega)]
     exact ⟨(z % (n0 : Int)).toNat, by omega, by omega⟩
    obtain ⟨dd, hdc, hde⟩ : ∃ dd : Nat, dd ≤ cc ∧ wrap64 ((IntKind.u64.wrap drp).tmod ((cc : Int) + 1)) = (dd : Int) := by
     rw [wrap_u64']
     obtain ⟨z, hz⟩ : ∃ z, z = drp % 18446744073709551616 := ⟨_, rfl⟩
     have hz0 : 0 ≤ z := by omega
     have h1 := Int.emod_nonneg z (show (cc : Int) + 1 ≠ 0 by omega)
     have h2 := Int.emod_lt_of_pos z (show (0 : Int) < (cc : Int) + 1 by omega)
     rw [← hz]
     rw [Int.tmod_eq_emod_of_nonneg hz0, IntWalk.wrap64_in _ (by omega)]
     exact ⟨(z % ((cc : Int) + 1)).toNat, by omega, by omega⟩
    have k0 := LN.out
    have o0 := Rg.ringM_ok k0 (a := 0) (k := n0) (by omega) (by omega) (by omega)
    have l0 := qh (fun X (h : AllX LP w1 Br (Rg.ringM S 0 n0) L AO cO bs X) => show Calls Tryz.prog 22 #[.pointer (some ⟨Br, 0, none⟩)] X (fun e X' => e = .returned (.int .i64 (n0 : Int)) ∧ AllX LP w1 Br (Rg.ringM S 0 n0) L AO cO bs X') from by have := AllX.len C o0 h; rw [Rg.ringM_len] at this; exact this)
    have f0 := qh (fun X (h : AllX LP w1 Br (Rg.ringM S 0 n0) L AO cO bs X) => show Calls Tryz.prog 23 #[.pointer (some ⟨Br, 0, none⟩)] X (fun e X' => e = .returned (.int .i64 0) ∧ AllX LP w1 Br (Rg.ringM S 0 n0) L AO cO bs X') from by have := AllX.first C o0 h; rw [Rg.ringM_first k0 (by omega) (by omega)] at this; exact this)
    have t0 := qh (fun X (h : AllX LP w1 Br (Rg.ringM S 0 n0) L AO cO bs X) => show Calls Tryz.prog 24 #[.pointer (some ⟨Br, 0, none⟩)] X (fun e X' => e = .returned (.int .i64 ((n0 : Int) - 1)) ∧ AllX LP w1 Br (Rg.ringM S 0 n0) L AO cO bs X') from by have := AllX.last C o0 h; rw [Rg.ringM_last k0 (by omega) (by omega), show ((0 + n0 - 1 : Nat) : Int) = (n0 : Int) - 1 by omega] at this; exact this)
    clear k0 o0
    have HN := qh hN
    have HC := qh hce
    have HD2 := qh hde
    clear hce hde hN hn0
    go_upto_region 18 with fail
    have hN := HN.out
    simp only [hN]
    clear hN HN
    generalize (if (8 : Int) < (k : Int) then (8 : Int) else (k : Int)) = mn
    go_upto_region 20 with (first | (go_at_call 22; ((with_reducible refine ((l0).out _ A0.out).mono ?_); rintro x X1 ⟨rfl, h⟩; have Y1 := qh h; clear h)) | (go_at_call 23; ((with_reducible refine ((f0).out _ Y1.out).mono ?_); rintro x X2 ⟨rfl, h⟩; have Y2 := qh h; clear h)) | (go_at_call 24; ((with_reducible refine ((t0).out _ Y2.out).mono ?_); rintro x X3 ⟨rfl, h⟩; have Y3 := qh h; clear h)))
    clear l0 f0 t0 Y1 Y2 A0
    go_upto_region 21 with fail
    have hce := HC.out
    simp only [hce]
    clear hce HC
    go_upto_region 22 with fail
    have hde := HD2.out
    simp only [hde]
    clear hde HD2
    have k0 := LN.out
    have o0 := Rg.ringM_ok k0 (a := 0) (k := n0) (by omega) (by omega) (by omega)
    have o1 := Rg.ringM_ok k0 (a := 0) (k := cc + 1) (by omega) (by omega) (by omega)
    have o2 := Rg.ringM_ok k0 (a := dd) (k := cc + 1 - dd) (by omega) (by omega) (by omega)
    have c1 := qh (fun X (h : AllX LP w1 Br (Rg.ringM S 0 n0) L AO cO bs X) => show Calls Tryz.prog 15 #[.pointer (some ⟨Br, 0, none⟩), .int .i64 (cc : Int)] X (fun e X' => e = .returned (.bool true) ∧ AllX LP w1 Br (Rg.ringM S 0 (cc + 1)) L AO cO bs X') from by have := AllX.cut C o0 (cc : Int) (by omega) h; rw [(Rg.ringM_cut k0 nk hcn).1, (Rg.ringM_cut k0 nk hcn).2] at this; exact this)
    have d1 := qh (fun X (h : AllX LP w1 Br (Rg.ringM S 0 (cc + 1)) L AO cO bs X) => show Calls Tryz.prog 17 #[.pointer (some ⟨Br, 0, none⟩), .int .i64 (dd : Int)] X (fun e X' => e = .returned (.bool true) ∧ AllX LP w1 Br (Rg.ringM S dd (cc + 1 - dd)) L AO cO bs X') from by have := AllX.drop C o1 (dd : Int) (by omega) h; rw [(Rg.ringM_drop k0 (show cc + 1 ≤ k + 1 by omega) (show dd < cc + 1 by omega)).1, (Rg.ringM_drop k0 (show cc + 1 ≤ k + 1 by omega) (show dd < cc + 1 by omega)).2] at this; exact this)
    have l2 := qh (fun X (h : AllX LP w1 Br (Rg.ringM S dd (cc + 1 - dd)) L AO cO bs X) => show Calls Tryz.prog 22 #[.pointer (some ⟨Br, 0, none⟩)] X (fun e X' => e = .returned (.int .i64 ((cc : Int) - (dd : Int) + 1)) ∧ AllX LP w1 Br (Rg.ringM S dd (cc + 1 - dd)) L AO cO bs X') from by have := AllX.len C o2 h; rw [Rg.ringM_len, show ((cc + 1 - dd : Nat) : Int) = (cc : Int) - (dd : Int) + 1 by omega] at this; exact this)
    have f2 := qh (fun X (h : AllX LP w1 Br (Rg.ringM S dd (cc + 1 - dd)) L AO cO bs X) => show Calls Tryz.prog 23 #[.pointer (some ⟨Br, 0, none⟩)] X (fun e X' => e = .returned (.int .i64 (dd : Int)) ∧ AllX LP w1 Br (Rg.ringM S dd (cc + 1 - dd)) L AO cO bs X') from by have := AllX.first C o2 h; rw [Rg.ringM_first k0 (by omega) (by omega)] at this; exact this)
    have t2 := qh (fun X (h : AllX LP w1 Br (Rg.ringM S dd (cc + 1 - dd)) L AO cO bs X) => show Calls Tryz.prog 24 #[.pointer (some ⟨Br, 0, none⟩)] X (fun e X' => e = .returned (.int .i64 (cc : Int)) ∧ AllX LP w1 Br (Rg.ringM S dd (cc + 1 - dd)) L AO cO bs X') from by have := AllX.last C o2 h; rw [Rg.ringM_last k0 (by omega) (by omega), show ((dd + (cc + 1 - dd) - 1 : Nat) : Int) = (cc : Int) by omega] at this; exact this)
    have c2 := qh (fun X (h : AllX LP w1 Br (Rg.ringM S dd (cc + 1 - dd)) L AO cO bs X) => show Calls Tryz.prog 15 #[.pointer (some ⟨Br, 0, none⟩), .int .i64 ((cc : Int) + 1)] X (fun e X' => e = .returned (.bool false) ∧ AllX LP w1 Br (Rg.ringM S dd (cc + 1 - dd)) L AO cO bs X') from by have := AllX.cut C o2 ((cc : Int) + 1) (by omega) h; have hh := Rg.ringM_no k0 (a := dd) (k := cc + 1 - dd) (f := (cc : Int) + 1) (by omega) (by omega) (by omega); rw [hh.1, hh.2.1] at this; exact this)
    have d2 := qh (fun (hz : 0 < dd) X (h : AllX LP w1 Br (Rg.ringM S dd (cc + 1 - dd)) L AO cO bs X) => show Calls Tryz.prog 17 #[.pointer (some ⟨Br, 0, none⟩), .int .i64 ((dd : Int) - 1)] X (fun e X' => e = .returned (.bool false) ∧ AllX LP w1 Br (Rg.ringM S dd (cc + 1 - dd)) L AO cO bs X') from by have := AllX.drop C o2 ((dd : Int) - 1) (by omega) h; have hh := Rg.ringM_no k0 (a := dd) (k := cc + 1 - dd) (f := (dd : Int) - 1) (by omega) (by omega) (by omega); rw [hh.1, hh.2.2.1] at this; exact this)
    clear k0 o0 o1 o2
    go_upto_region 24 with (first | (go_at_call 15; ((with_reducible refine ((c1).out _ Y3.out).mono ?_); rintro x X4 ⟨rfl, h⟩; have AX := qh h; clear h)) | (go_at_call 17; ((with_reducible refine ((d1).out _ AX.out).mono ?_); rintro x X5 ⟨rfl, h⟩; have AX := qh h; clear h)) | (go_at_call 22; ((with_reducible refine ((l2).out _ AX.out).mono ?_); rintro x X6 ⟨rfl, h⟩; have AX := qh h; clear h)) | (go_at_call 23; ((with_reducible refine ((f2).out _ AX.out).mono ?_); rintro x X7 ⟨rfl, h⟩; have AX := qh h; clear h)) | (go_at_call 24; ((with_reducible refine ((t2).out _ AX.out).mono ?_); rintro x X8 ⟨rfl, h⟩; have AX := qh h; clear h)) | (go_at_call 15; ((with_reducible refine ((c2).out _ AX.out).mono ?_); rintro x X9 ⟨rfl, h⟩; have AX := qh h; clear h)) | (go_at_call 17; ((with_reducible refine ((d2).out (by assumption) _ AX.out).mono ?_); rintro x XA ⟨rfl, h⟩; have AX := qh h; clear h)))
    · clear c1 d1 l2 f2 t2 c2 d2 Y3
      go_wp2_with fail
      go_loopw [19] (fun i wr => ∃ f : Nat, f ≤ n0 ∧ i = .int .i64 f ∧ AllX LP w1 Br (Rg.ringM S dd (cc + 1 - dd)) L AO cO bs wr) (fun i _ => n0 - (intOf i).toNat)
      case atStart => exact ⟨0, Nat.zero_le _, rfl, AX.out⟩
      case round =>
       clear AX
       obtain ⟨f, hf, rfl, hA⟩ := hrel
       have AX := qh hA
       clear hA
       by_cases hlt : f < n0
       · have hfi : (f : Int) < (n0 : Int) := by omega
         have o2 := Rg.ringM_ok LN.out (a := dd) (k := cc + 1 - dd) (by omega) (by omega) (by omega)
         by_cases hin : dd ≤ f ∧ f ≤ cc
         · have hi1 : (dd : Int) ≤ (f : Int) := by omega
           have hi2 : (f : Int) ≤ (cc : Int) := by omega
           have hfl : f < L.length := by have := LL.out; omega
           have hfs : (f : Int) < (L.length : Int) := by omega
           obtain ⟨u, hu, hus⟩ : ∃ u, L[f]? = some u ∧ u.s = S f := by
            have h1 := congrArg (fun l => l[f]?) AL.out
            simp only [List.getElem?_map] at h1
            rw [Rg.ringM_at (by omega), Nat.zero_add, List.getElem?_eq_getElem hfl] at h1
            rw [List.getElem?_eq_getElem hfl]
            exact ⟨_, rfl, Option.some.inj h1⟩
           have a1 := qh (AllX.at_yes C o2 (f : Int) u.s (by rw [Rg.ringM_yes LN.out (by omega) (by omega) (by omega) (by omega), hus]) AX.out)
           have ft := qh (show Fd.Fine u.s by rw [hus]; exact LN.out.fine f (by omega))
           have US := qh hus
           have UU := qh hu
           clear hu hus o2
           go_upto_region 28 with (first | (go_at_call 19; ((with_reducible refine ((a1).out).mono ?_); rintro x X5 ⟨ht, h⟩; obtain ⟨A5, c5, R5, rfl, hr5, hx5, hy5, hz5⟩ := told_rows ht; have L5 := qh (rows6_lies hr5 rfl (fun p hp => (hx5 p hp).1) hy5); have Y5 := qh h; clear ht h hr5 hx5 hy5 hz5)) | (with_reducible refine alloc_state rfl rfl ?_) | (with_reducible refine im_store_new rfl rfl rfl rfl Im.zero_size rfl ?_))
           have kk := one_below X5 (.cells (Im.cells u.s.g (.slice A5 u.s.g.shots.length c5) u.s.r) 40)
           have B5 := qh (Box.made X5 40 (Im.cells u.s.g (.slice A5 u.s.g.shots.length c5) u.s.r))
           have AX := qh (Y5.out.call C kk)
           have L6 := qh (L5.out.call kk)
           clear kk Y5 L5 a1
           generalize hW5 : X5.alloc (.cells (Im.cells u.s.g (.slice A5 u.s.g.shots.length c5) u.s.r) 40) = W5 at *
           generalize X5.heap.size = b5 at *
           clear hW5
           have RW := qh AX.out.row
           obtain ⟨ad, hAO, _⟩ := RW.out.row.start (by omega)
           subst hAO
           have n63 : u.s.g.shots.length ≤ maxLen := by have := ft.out.few; unfold maxLen; omega
           have um : u ∈ L := List.mem_of_getElem? UU.out
           have ZP := qh (fun q : Ext W5.heap.size W5 => B5.out.below q.h B5.out.lt)
           have ZC := qh (fun (q : Ext W5.heap.size W5) (j : Nat) (v : Value) (hv : u.cells[j]? = some v) => show q.w.cell? ((ad.add (f * 76)).add j) = some v from by
            have hj : j < 76 := by have := (List.getElem?_eq_some_iff.1 hv).1; rwa [u.len] at this
            have hg := UU.out
            rw [List.getElem?_eq_getElem hfl] at hg
            rw [st_at (RW.out.row.below q.h) rfl f hfl j hj, Option.some.inj hg]
            exact hv)
           have ZS := qh (fun q : Ext W5.heap.size W5 => show Calls Tryz.prog 27 #[.agg (Im.cells u.s.g (.slice A5 u.s.g.shots.length c5) u.s.r), .agg (Im.cells u.g (.slice u.A u.g.shots.length u.c) u.r)] q.w (fun r' w' => r' = .returned (.bool true) ∧ Below q.w.heap.size q.w w') from (foldsame_any u.s.g u.g u.s.r u.r A5 u.A u.s.g.shots.length u.g.shots.length c5 u.c q.w rfl rfl ((L6.out.below q.h).wider q.h.size) (((RW.out.shots u um).below q.h).wider q.h.size) n63 n63).mono fun r' w' h => by obtain ⟨⟨v, h1, h2⟩, h3⟩ := h; obtain rfl : v = true := h2.2 ⟨Gm.Eq.refl _, rfl, fun _ _ => ⟨rfl, rfl⟩⟩; exact ⟨h1, h3⟩)
           clear RW B5 L6 n63 um
           refine wp_region_ext W5.heap.size W5 (by kernel_rfl) (by kernel_rfl) (Below.refl _ _) ?_
           repeat (first | (go_big_quiet_want; (first | (refine fq_state rfl rfl ZP.out ?_) | (refine fq_state_at rfl rfl ZC.out ?_)); simp only [Act.put, List.setIfInBounds_toArray, List.set_cons_succ, List.set_cons_zero]; go_big_quiet_on) | go_big_quiet_step ((go_at_call 27; with_reducible exact Calls.ext_of (Nat.le_refl _) (ZS.out _))))
           refine wpQuiet_nil ?_
           intro _ hw'
           obtain ⟨q9, hw''⟩ := hw'
           subst hw''
           have AX := qh (AX.out.call C q9.h)
           clear ZP ZC ZS
           go_wp2_with fail
           go_roundw
           case rel => exact ⟨f + 1, by omega, by go_num, AX.out⟩
           case measure => simp [intOf]; omega
         · have hh := Rg.ringM_no LN.out (a := dd) (k := cc + 1 - dd) (f := (f : Int)) (by omega) (by omega) (by omega)
           have a1 := qh (show Calls Tryz.prog 19 #[.pointer (some ⟨Br, 0, none⟩), .int .i64 (f : Int)] wr (fun e X' => e = .returned (.tuple #[.agg (Im.cells Im.G0 (.slice none 0 0) Im.R0), .bool false]) ∧ AllX LP w1 Br (Rg.ringM S dd (cc + 1 - dd)) L AO cO bs X') from AllX.at_no C o2 (f : Int) (by omega) hh.2.2.2 AX.out)
           clear hh o2
           rcases (show ¬ (dd : Int) ≤ (f : Int) ∨ ((dd : Int) ≤ (f : Int) ∧ ¬ (f : Int) ≤ (cc : Int)) by omega) with hi1 | ⟨hi1, hi2⟩
           · have hj1 : (f : Int) < (dd : Int) := by omega
             have hj2 : f < dd := by omega
             have hj3 : ¬ dd ≤ f := by omega
             go_upto_region 28 with (first | (go_at_call 19; ((with_reducible refine ((a1).out).mono ?_); rintro x X5 ⟨rfl, h⟩; have Y5 := qh h; clear h)) | (with_reducible refine alloc_state rfl rfl ?_) | (with_reducible refine im_store_new rfl rfl rfl rfl Im.zero_size rfl ?_))
             have AX := qh (Y5.out.call C (one_below X5 (.cells (Im.cells Im.G0 (.slice none 0 0) Im.R0) 40)))
             clear Y5 a1
             generalize hW5 : X5.alloc (.cells (Im.cells Im.G0 (.slice none 0 0) Im.R0) 40) = W5 at *
             generalize X5.heap.size = b5 at *
             clear hW5
             refine wp_region_ext W5.heap.size W5 (by kernel_rfl) (by kernel_rfl) (Below.refl _ _) ?_
             repeat (go_big_quiet_step (fail))
             refine wpQuiet_nil ?_
             intro _ hw'
             obtain ⟨q9, hw''⟩ := hw'
             subst hw''
             have AX := qh (AX.out.call C q9.h)
             go_wp2_with fail
             go_roundw
             case rel => exact ⟨f + 1, by omega, by go_num, AX.out⟩
             case measure => simp [intOf]; omega
           · have hj1 : (cc : Int) < (f : Int) := by omega
             have hj2 : cc < f := by omega
             have hj3 : ¬ f ≤ cc := by omega
             have hj4 : dd ≤ f := by omega
             go_upto_region 28 with (first | (go_at_call 19; ((with_reducible refine ((a1).out).mono ?_); rintro x X5 ⟨rfl, h⟩; have Y5 := qh h; clear h)) | (with_reducible refine alloc_state rfl rfl ?_) | (with_reducible refine im_store_new rfl rfl rfl rfl Im.zero_size rfl ?_))
             have AX := qh (Y5.out.call C (one_below X5 (.cells (Im.cells Im.G0 (.slice none 0 0) Im.R0) 40)))
             clear Y5 a1
             generalize hW5 : X5.alloc (.cells (Im.cells Im.G0 (.slice none 0 0) Im.R0) 40) = W5 at *
             generalize X5.heap.size = b5 at *
             clear hW5
             refine wp_region_ext W5.heap.size W5 (by kernel_rfl) (by kernel_rfl) (Below.refl _ _) ?_
             repeat (go_big_quiet_step (fail))
             refine wpQuiet_nil ?_
             intro _ hw'
             obtain ⟨q9, hw''⟩ := hw'
             subst hw''
             have AX := qh (AX.out.call C q9.h)
             go_wp2_with fail
             go_roundw
             case rel => exact ⟨f + 1, by omega, by go_num, AX.out⟩
             case measure => simp [intOf]; omega
       · have hfi : ¬ (f : Int) < (n0 : Int) := by omega
         have KX := qh AX.out.down
         clear AX
         go_wp2_with (go_at_call 6; ((with_reducible refine ((told15_any C _)).mono ?_); rintro x wz ⟨rfl, hz⟩; have KZ := qh (KX.out.trans (hz.mono KX.out.size)); clear hz))
         go_ret
         exact ⟨rfl, K1.out.trans (KZ.out.mono K1.out.size)⟩
    · clear c1 d1 l2 f2 t2 c2 d2 Y3
      go_wp2_with fail
      go_loopw [19] (fun i wr => ∃ f : Nat, f ≤ n0 ∧ i = .int .i64 f ∧ AllX LP w1 Br (Rg.ringM S dd (cc + 1 - dd)) L AO cO bs wr) (fun i _ => n0 - (intOf i).toNat)
      case atStart => exact ⟨0, Nat.zero_le _, rfl, AX.out⟩
      case round =>
       clear AX
       obtain ⟨f, hf, rfl, hA⟩ := hrel
       have AX := qh hA
       clear hA
       by_cases hlt : f < n0
       · have hfi : (f : Int) < (n0 : Int) := by omega
         have o2 := Rg.ringM_ok LN.out (a := dd) (k := cc + 1 - dd) (by omega) (by omega) (by omega)
         by_cases hin : dd ≤ f ∧ f ≤ cc
         · have hi1 : (dd : Int) ≤ (f : Int) := by omega
           have hi2 : (f : Int) ≤ (cc : Int) := by omega
           have hfl : f < L.length := by have := LL.out; omega
           have hfs : (f : Int) < (L.length : Int) := by omega
           obtain ⟨u, hu, hus⟩ : ∃ u, L[f]? = some u ∧ u.s = S f := by
            have h1 := congrArg (fun l => l[f]?) AL.out
            simp only [List.getElem?_map] at h1
            rw [Rg.ringM_at (by omega), Nat.zero_add, List.getElem?_eq_getElem hfl] at h1
            rw [List.getElem?_eq_getElem hfl]
            exact ⟨_, rfl, Option.some.inj h1⟩
           have a1 := qh (AllX.at_yes C o2 (f : Int) u.s (by rw [Rg.ringM_yes LN.out (by omega) (by omega) (by omega) (by omega), hus]) AX.out)
           have ft := qh (show Fd.Fine u.s by rw [hus]; exact LN.out.fine f (by omega))
           have US := qh hus
           have UU := qh hu
           clear hu hus o2
           go_upto_region 28 with (first | (go_at_call 19; ((with_reducible refine ((a1).out).mono ?_); rintro x X5 ⟨ht, h⟩; obtain ⟨A5, c5, R5, rfl, hr5, hx5, hy5, hz5⟩ := told_rows ht; have L5 := qh (rows6_lies hr5 rfl (fun p hp => (hx5 p hp).1) hy5); have Y5 := qh h; clear ht h hr5 hx5 hy5 hz5)) | (with_reducible refine alloc_state rfl rfl ?_) | (with_reducible refine im_store_new rfl rfl rfl rfl Im.zero_size rfl ?_))
           have kk := one_below X5 (.cells (Im.cells u.s.g (.slice A5 u.s.g.shots.length c5) u.s.r) 40)
           have B5 := qh (Box.made X5 40 (Im.cells u.s.g (.slice A5 u.s.g.shots.length c5) u.s.r))
           have AX := qh (Y5.out.call C kk)
           have L6 := qh (L5.out.call kk)
           clear kk Y5 L5 a1
           generalize hW5 : X5.alloc (.cells (Im.cells u.s.g (.slice A5 u.s.g.shots.length c5) u.s.r) 40) = W5 at *
           generalize X5.heap.size = b5 at *
           clear hW5
           have RW := qh AX.out.row
           obtain ⟨ad, hAO, _⟩ := RW.out.row.start (by omega)
           subst hAO
           have n63 : u.s.g.shots.length ≤ maxLen := by have := ft.out.few; unfold maxLen; omega
           have um : u ∈ L := List.mem_of_getElem? UU.out
           have ZP := qh (fun q : Ext W5.heap.size W5 => B5.out.below q.h B5.out.lt)
           have ZC := qh (fun (q : Ext W5.heap.size W5) (j : Nat) (v : Value) (hv : u.cells[j]? = some v) => show q.w.cell? ((ad.add (f * 76)).add j) = some v from by
            have hj : j < 76 := by have := (List.getElem?_eq_some_iff.1 hv).1; rwa [u.len] at this
            have hg := UU.out
            rw [List.getElem?_eq_getElem hfl] at hg
            rw [st_at (RW.out.row.below q.h) rfl f hfl j hj, Option.some.inj hg]
            exact hv)
           have ZS := qh (fun q : Ext W5.heap.size W5 => show Calls Tryz.prog 27 #[.agg (Im.cells u.s.g (.slice A5 u.s.g.shots.length c5) u.s.r), .agg (Im.cells u.g (.slice u.A u.g.shots.length u.c) u.r)] q.w (fun r' w' => r' = .returned (.bool true) ∧ Below q.w.heap.size q.w w') from (foldsame_any u.s.g u.g u.s.r u.r A5 u.A u.s.g.shots.length u.g.shots.length c5 u.c q.w rfl rfl ((L6.out.below q.h).wider q.h.size) (((RW.out.shots u um).below q.h).wider q.h.size) n63 n63).mono fun r' w' h => by obtain ⟨⟨v, h1, h2⟩, h3⟩ := h; obtain rfl : v = true := h2.2 ⟨Gm.Eq.refl _, rfl, fun _ _ => ⟨rfl, rfl⟩⟩; exact ⟨h1, h3⟩)
           clear RW B5 L6 n63 um
           refine wp_region_ext W5.heap.size W5 (by kernel_rfl) (by kernel_rfl) (Below.refl _ _) ?_
           repeat (first | (go_big_quiet_want; (first | (refine fq_state rfl rfl ZP.out ?_) | (refine fq_state_at rfl rfl ZC.out ?_)); simp only [Act.put, List.setIfInBounds_toArray, List.set_cons_succ, List.set_cons_zero]; go_big_quiet_on) | go_big_quiet_step ((go_at_call 27; with_reducible exact Calls.ext_of (Nat.le_refl _) (ZS.out _))))
           refine wpQuiet_nil ?_
           intro _ hw'
           obtain ⟨q9, hw''⟩ := hw'
           subst hw''
           have AX := qh (AX.out.call C q9.h)
           clear ZP ZC ZS
           go_wp2_with fail
           go_roundw
           case rel => exact ⟨f + 1, by omega, by go_num, AX.out⟩
           case measure => simp [intOf]; omega
         · have hh := Rg.ringM_no LN.out (a := dd) (k := cc + 1 - dd) (f := (f : Int)) (by omega) (by omega) (by omega)
           have a1 := qh (show Calls Tryz.prog 19 #[.pointer (some ⟨Br, 0, none⟩), .int .i64 (f : Int)] wr (fun e X' => e = .returned (.tuple #[.agg (Im.cells Im.G0 (.slice none 0 0) Im.R0), .bool false]) ∧ AllX LP w1 Br (Rg.ringM S dd (cc + 1 - dd)) L AO cO bs X') from AllX.at_no C o2 (f : Int) (by omega) hh.2.2.2 AX.out)
           clear hh o2
           rcases (show ¬ (dd : Int) ≤ (f : Int) ∨ ((dd : Int) ≤ (f : Int) ∧ ¬ (f : Int) ≤ (cc : Int)) by omega) with hi1 | ⟨hi1, hi2⟩
           · exfalso; omega
           · have hj1 : (cc : Int) < (f : Int) := by omega
             have hj2 : cc < f := by omega
             have hj3 : ¬ f ≤ cc := by omega
             have hj4 : dd ≤ f := by omega
             go_upto_region 28 with (first | (go_at_call 19; ((with_reducible refine ((a1).out).mono ?_); rintro x X5 ⟨rfl, h⟩; have Y5 := qh h; clear h)) | (with_reducible refine alloc_state rfl rfl ?_) | (with_reducible refine im_store_new rfl rfl rfl rfl Im.zero_size rfl ?_))
             have AX := qh (Y5.out.call C (one_below X5 (.cells (Im.cells Im.G0 (.slice none 0 0) Im.R0) 40)))
             clear Y5 a1
             generalize hW5 : X5.alloc (.cells (Im.cells Im.G0 (.slice none 0 0) Im.R0) 40) = W5 at *
             generalize X5.heap.size = b5 at *
             clear hW5
             refine wp_region_ext W5.heap.size W5 (by kernel_rfl) (by kernel_rfl) (Below.refl _ _) ?_
             repeat (go_big_quiet_step (fail))
             refine wpQuiet_nil ?_
             intro _ hw'
             obtain ⟨q9, hw''⟩ := hw'
             subst hw''
             have AX := qh (AX.out.call C q9.h)
             go_wp2_with fail
             go_roundw
             case rel => exact ⟨f + 1, by omega, by go_num, AX.out⟩
             case measure => simp [intOf]; omega
       · have hfi : ¬ (f : Int) < (n0 : Int) := by omega
         have KX := qh AX.out.down
         clear AX
         go_wp2_with (go_at_call 6; ((with_reducible refine ((told15_any C _)).mono ?_); rintro x wz ⟨rfl, hz⟩; have KZ := qh (KX.out.trans (hz.mono KX.out.size)); clear hz))
         go_ret
         exact ⟨rfl, K1.out.trans (KZ.out.mono K1.out.size)⟩
open Go Go.RowKit Go.Shelf
theorem bounds15_law {LP : RingP} (C : RingC LP) (seed : ByteArray) (l : List Fd.Turn) (A : Option Addr) (n c : Nat) (cut drp : Int) (w : World) (hsz : seed.size ≤ maxLen) (hn : n = l.length) (hn63 : n ≤ maxLen) (hl : Lies w w.heap.size 25 A n (l.flatMap Fd.Turn.cells)) (hty : ∀ q ∈ l, q.ty) :
 Calls Tryz.prog 4 #[.string seed, .slice A n c, .int .i64 cut, .int .i64 drp] w fun e w' => e = .returned (.bool true) ∧ Below w.heap.size w w' := by
 by_cases h20 : seed.size ≤ 20
 · have hs : (seed.size : Int) ≤ 20 := by omega
   by_cases hhi : n ≤ 20
   · exact bounds15_main C seed l A n c cut drp w h20 hn hhi hl hty
   · have hn1 : ¬ (n : Int) ≤ 20 := by omega
     have ct := fun X => qh (told15_any C X)
     clear hl hty hn hsz hn63
     go_enter Tryz.func4, Tryz.ntmps4
     go_wp2_with (go_at_call 6; ((with_reducible refine ((ct _).out).mono ?_); rintro e w1 ⟨rfl, hb⟩))
     go_ret
     exact ⟨rfl, hb⟩
 · have hs : ¬ (seed.size : Int) ≤ 20 := by omega
   have ct := fun X => qh (told15_any C X)
   clear hl hty hn hsz hn63
   go_enter Tryz.func4, Tryz.ntmps4
   go_wp2_with (go_at_call 6; ((with_reducible refine ((ct _).out).mono ?_); rintro e w1 ⟨rfl, hb⟩))
   go_ret
   exact ⟨rfl, hb⟩
open Go.RowKit
structure PRow (g : Nat) (L : List Rg.St) (X : World) : Prop where
 few : L.length ≤ 9
 row : ∃ cur : Array Value, Box X g 40 cur ∧ cur.size = 684 ∧ cur.toList.take (L.length * 76) = L.flatMap Rg.St.cells
structure PrgR (b : Nat) (F : Nat → Prop) (B : Nat) (M : List Fd.S) (X : World) : Prop where
 box : ∃ g L, M = L.map Rg.St.s ∧ Box X B 89 #[.slice (some ⟨g, 0, none⟩) L.length 9] ∧ PRow g L X ∧ F g ∧ ∀ q ∈ L, Lies X X.heap.size 6 q.A q.g.shots.length (Gm.shotCells q.g.shots) ∧ (q.g.shots.length ≠ 0 → ∀ ad, q.A = some ad → F ad.block ∧ ad.block ≠ g ∧ ad.block ≠ B)
 own : F B
 up : ∀ k, F k → b ≤ k ∧ k < X.heap.size
section
variable {g : Nat} {L : List Rg.St} {X X' : World}
theorem PRow.lt (h : PRow g L X) : g < X.heap.size := by obtain ⟨cur, hB, _⟩ := h.row; exact hB.lt
theorem PRow.kept (h : PRow g L X) (hk : X'.heap[g]? = X.heap[g]?) : PRow g L X' := by
 obtain ⟨cur, hB, h1, h2⟩ := h.row
 exact ⟨h.few, cur, ⟨hk.trans hB.is⟩, h1, h2⟩
theorem PRow.lies (h : PRow g L X) : Lies X X.heap.size 76 (some ⟨g, 0, none⟩) L.length (L.flatMap Rg.St.cells) := by
 obtain ⟨cur, hB, h1, h2⟩ := h.row
 refine ⟨flat_len (cells := Rg.St.cells) (c := 76) Rg.St.len L, fun _ => ⟨_, rfl, hB.lt⟩, fun ad e _ j u hj => ?_⟩
 injection e with e
 subst e
 rw [Addr.add_lit, Nat.zero_add, hB.cell j]
 rw [← h2, List.getElem?_take] at hj
 split at hj
 · rw [← Array.getElem?_toList]; exact hj
 · cases hj
end
theorem PrgR.obj : ObjC PrgR := by
 refine ⟨fun h => h.up, fun {b F B m X G X'} h hK hd => ?_⟩
 obtain ⟨g, L, e, hB, hR, hg, hs⟩ := h.box
 have hk : ∀ j, F j → X'.heap[j]? = X.heap[j]? := fun j hj => hK.block j (h.up j hj).2 (hd j hj)
 exact ⟨⟨g, L, e, ⟨(hk B h.own).trans hB.is⟩, hR.kept (hk g hg), hg, fun q hq => ⟨lies_kept (hs q hq).1 hK.size fun h0 ad e => hk _ ((hs q hq).2 h0 ad e).1, (hs q hq).2⟩⟩, h.own, fun k hk => ⟨(h.up k hk).1, Nat.lt_of_lt_of_le (h.up k hk).2 hK.size⟩⟩
theorem im_shots {w : World} {B : Nat} {g : Gm.G} {s : Value} {r : Ros.R} (h : Box w B 40 (Im.cells g s r)) (s' : Value) : Box (w.setCell ⟨B, 58, none⟩ s') B 40 (Im.cells g s' r) := by
 have := h.put 58 s'
 rwa [Im.cells_shots] at this
theorem im_at58 (g : Gm.G) (s : Value) (r : Ros.R) : (Im.cells g s r)[58]? = some s := by
 rw [Im.cells_g g s r 58 (by decide)]
 exact Gm.cells_58 g s
theorem rgown_any (q : Rg.St) (hn : q.g.shots.length ≤ 60) (X : World) (hL : Lies X X.heap.size 6 q.A q.g.shots.length (Gm.shotCells q.g.shots)) :
 Calls Tryz.prog 44 #[.agg q.arr] X fun e X' => ∃ A' c', e = .returned (.agg (Rg.St.arr ⟨q.g, q.r, A', c'⟩)) ∧ X'.ownsRow X.heap.size 72 6 (.slice A' q.g.shots.length c') q.g.shots.length (Gm.shotCells q.g.shots) ∧ Below X.heap.size X X' := by
 obtain ⟨g, r, A, c⟩ := q
 dsimp only at hn hL ⊢
 obtain ⟨X2, hX2⟩ : ∃ X2, X2 = (X.alloc (.cells (Im.cells g (.slice A g.shots.length c) r) 40)).alloc (.cells Im.zero 40) := ⟨_, rfl⟩
 have b1 : Box X2 X.heap.size 40 (Im.cells g (.slice A g.shots.length c) r) := by rw [hX2]; exact (Box.made _ _ _).alloc _
 have b2 : Box X2 (X.heap.size + 1) 40 Im.zero := by rw [hX2]; exact Box.made_at _ _ _ (by simp)
 have hb0 : Below X.heap.size X X2 := by rw [hX2]; exact two_below' X _ _
 have hs2 : X2.heap.size = X.heap.size + 2 := by rw [hX2]; simp
 have c1 := qh (clone_any g.shots A g.shots.length c X2 rfl hn ((hL.below hb0).wider hb0.size))
 have k58 : X2.cell? ⟨X.heap.size, 58, none⟩ = some (.slice A g.shots.length c) := (b1.cell 58).trans (im_at58 _ _ _)
 have HX := qh hX2
 have HB := qh hb0
 have B1 := qh b1
 have B2 := qh b2
 have HS := qh hs2
 unfold Rg.St.arr
 dsimp only
 clear hL b1 b2 hb0 hX2 hs2
 generalize hnn : g.shots.length = n at *
 go_enter Tryz.func44, Tryz.ntmps44
 go_upto_region 1 with (with_reducible refine alloc_state rfl rfl ?_)
 rw [← HX.out]
 go_wp2_with (first
  | (go_at_call 69; ((with_reducible refine ((c1).out).mono ?_); rintro e w1 ⟨A', c', rfl, ho, hb⟩; have D1 := B1.out.below hb (by have := HS.out; omega); have D2 := B2.out.below hb (by have := HS.out; omega); have k1 : w1.cell? ⟨X.heap.size, 58, none⟩ = some (.slice A n c) := (D1.cell 58).trans (im_at58 _ _ _); have f1 := D1.free 58; have O1 := qh ho; have HB1 := qh (HB.out.trans (hb.mono HB.out.size)); have F1 := qh (im_shots D1 (.slice A' n c')); have ne1 : X.heap.size + 1 ≠ X.heap.size := (by omega); have F2 := qh (D2.far (p := ⟨X.heap.size, 58, none⟩) ne1 (.slice A' n c')); have nO := qh (D1.unowned ho (by decide)); have nO2 := qh (D2.unowned ho (by decide)); clear D1 D2 ho hb ne1))
  | ((with_reducible refine im_load_state rfl rfl ?_); apply LoadIm.mk rfl; (focus (with_reducible exact F1.out)); dsimp only)
  | ((with_reducible refine im_store_state rfl rfl ?_); apply StoreS.mk rfl rfl; (focus (with_reducible exact F2.out)); (focus exact Im.zero_size); (focus rfl)))
 refine bodyPost_ret (v := .agg (Im.cells g (.slice A' n c') r)) ?_ ?_ ?_
 · exact results_cell_row rfl _ _ _ _ (Im.cells g (.slice A' n c') r) (0, 0) _ rfl (Box.row F2.out _).is Tryz.underlying40 rfl (by rw [Im.cells_size]; exact state_info)
 · rfl
 · refine ⟨A', c', rfl, ?_, ?_⟩
   · have h := own_setRow (ownsRow_setCell_other (a := ⟨X.heap.size, 58, none⟩) O1.out nO.out (.slice A' n c')) nO2.out (Im.cells g (.slice A' n c') r)
     exact own_rebase h (by have := HS.out; omega)
   · exact Below.setRow' (HB1.out.setCell (p := ⟨X.heap.size, 58, none⟩) (by simp) _) (by omega) _
theorem findcl_any (q : Rg.St) (f : Int) (P : Nat) (X : World) (hP : Box X P 3 #[.int .i64 f]) :
 Calls Tryz.prog 68 #[.agg q.arr, .pointer (some ⟨P, 0, none⟩)] X fun e X' => e = .returned (.bool (q.g.frame == f)) ∧ Below X.heap.size X X' := by
 obtain ⟨X1, hX1⟩ : ∃ X1, X1 = X.alloc (.cells q.arr 40) := ⟨_, rfl⟩
 have hb : Below X.heap.size X X1 := by rw [hX1]; exact one_below _ _
 have k0 : X1.cell? ⟨X.heap.size, 0, none⟩ = some (.int .i64 q.g.frame) := by rw [hX1]; exact ((Box.made _ _ _).cell 0).trans q.first
 have kP : X1.cell? ⟨P, 0, none⟩ = some (.int .i64 f) := (hP.below hb hP.lt).cell 0
 have HB := qh hb
 have HX := qh hX1
 clear hb hX1 hP
 generalize q.g.frame = fr at *
 generalize q.arr = arr at *
 go_enter Tryz.func68, Tryz.ntmps68
 go_upto_region 1 with fail
 rw [← HX.out]
 go_wp2_with fail
 go_ret
 exact ⟨rfl, HB.out⟩
theorem rgidx_any (g : Nat) (L : List Rg.St) (f v : Int) (hv : Rg.PlaceSays L f v) (P : Nat) (X : World) (hR : PRow g L X) (hP : Box X P 3 #[.int .i64 f]) :
 Calls Tryz.prog 67 #[.slice (some ⟨g, 0, none⟩) L.length 9, .func (.func 68) #[] #[.pointer (some ⟨P, 0, none⟩)]] X fun e X' => e = .returned (.int .i64 v) ∧ Below X.heap.size X X' := by
 have hlt9 := hR.few
 obtain ⟨ad, had⟩ : ∃ ad, ad = (⟨g, 0, none⟩ : Addr) := ⟨_, rfl⟩
 have HR := qh (show Lies X X.heap.size 76 (some ad) L.length (L.flatMap Rg.St.cells) from by rw [had]; exact hR.lies)
 rw [← had]
 have HV := qh hv
 have HP := qh hP
 have ct := fun q X' hP => qh (findcl_any q f P X' hP)
 clear hv hR hP had
 go_enter Tryz.func67, Tryz.ntmps67
 go_wp2_with fail
 go_loopw [5, 8] (fun _ i wr => ∃ k : Nat, k ≤ L.length ∧ i = .int .i64 k ∧ Below X.heap.size X wr ∧ ∀ x ∈ L.take k, x.g.frame ≠ f) (fun _ i _ => L.length - (intOf i).toNat)
 case atStart => exact ⟨0, Nat.zero_le _, rfl, Below.refl _ _, fun y hy => absurd hy List.not_mem_nil⟩
 case round =>
  obtain ⟨k, hk, rfl, hW, hbf⟩ := hrel
  have HW := qh hW
  have HBF := qh hbf
  clear hbf hW
  by_cases hlt : k < L.length
  · have hlti : (k : Int) < L.length := by omega
    have hq : L[k]? = some L[k] := List.getElem?_eq_getElem hlt
    have Q := qh (st_at ((HR.out.below HW.out).wider HW.out.size) rfl k hlt)
    have hPw := HP.out.below HW.out HP.out.lt
    have hct := ct (L[k]) wr hPw
    have HQ := qh hq
    clear hq hPw
    generalize L[k] = q at *
    have ea : q.arr = Im.cells q.g (.slice q.A q.g.shots.length q.c) q.r := rfl
    rw [ea] at hct
    clear ea
    cases hf : (q.g.frame == f)
    · rw [hf] at hct
      have HF := qh (show q.g.frame ≠ f by simpa using hf)
      clear hf
      go_wp2_with (first
       | (refine st_load_at rfl rfl ?_; apply LoadSt.mk (q := q) rfl (fun j hj => Q.out j hj))
       | (go_at_call 68; ((with_reducible refine ((hct).out).mono ?_); rintro e w5 ⟨rfl, hb5⟩; have HB5 := qh hb5; clear hb5)))
      go_roundw
      case rel => exact ⟨k + 1, by omega, by go_num, HW.out.trans (HB5.out.mono HW.out.size), Rg.place_next HQ.out HF.out HBF.out⟩
      case measure => simp [intOf]; omega
    · rw [hf] at hct
      have HF := qh (show q.g.frame = f by simpa using hf)
      clear hf
      go_wp2_with (first
       | (refine st_load_at rfl rfl ?_; apply LoadSt.mk (q := q) rfl (fun j hj => Q.out j hj))
       | (go_at_call 68; ((with_reducible refine ((hct).out).mono ?_); rintro e w5 ⟨rfl, hb5⟩; have HB5 := qh hb5; clear hb5)))
      go_ret
      exact ⟨by rw [Rg.place_hit HV.out HQ.out HF.out HBF.out]; rfl, HW.out.trans (HB5.out.mono HW.out.size)⟩
  · obtain rfl : k = L.length := by omega
    have hlti : ¬ (L.length : Int) < L.length := by omega
    go_wp2_with fail
    go_ret
    exact ⟨by rw [Rg.place_none HV.out (fun y hy => HBF.out y (by rw [List.take_length]; exact hy))]; rfl, HW.out⟩
theorem rgfind_any (B g : Nat) (L : List Rg.St) (f v : Int) (hv : Rg.PlaceSays L f v) (X : World) (hB : Box X B 89 #[.slice (some ⟨g, 0, none⟩) L.length 9]) (hR : PRow g L X) :
 Calls Tryz.prog 41 #[.pointer (some ⟨B, 0, none⟩), .int .i64 f] X fun e X' => e = .returned (.int .i64 v) ∧ Below X.heap.size X X' := by
 have hmf : ∀ (fn : Fn) (first cap : Array Value) (w : World), (Instr.makeFunc fn first cap).run Tryz.prog w = .ok (.func fn first cap) w := fun _ _ _ _ => rfl
 obtain ⟨X1, hX1⟩ : ∃ X1, X1 = X.alloc (.cells #[.int .i64 f] 3) := ⟨_, rfl⟩
 have hb : Below X.heap.size X X1 := by rw [hX1]; exact one_below _ _
 have hP : Box X1 X.heap.size 3 #[.int .i64 f] := by rw [hX1]; exact Box.made _ _ _
 have k0 : X1.cell? ⟨B, 0, none⟩ = some (.slice (some ⟨g, 0, none⟩) L.length 9) := (hB.below hb hB.lt).cell 0
 have ci := qh (rgidx_any g L f v hv X.heap.size X1 (hR.kept (hb.block _ hR.lt)) hP)
 have HB := qh hb
 have HX := qh hX1
 clear hv hB hR hb hX1 hP
 go_enter Tryz.func41, Tryz.ntmps41
 go_upto_region 1 with fail
 rw [← HX.out]
 go_wp2_with (go_at_call 67; ((with_reducible refine ((ci).out).mono ?_); rintro e w5 ⟨rfl, hb5⟩; have HB5 := qh hb5; clear hb5))
 go_ret
 exact ⟨rfl, HB.out.trans (HB5.out.mono HB.out.size)⟩
theorem rgfind_nil (f : Int) (X : World) :
 Calls Tryz.prog 41 #[.pointer none, .int .i64 f] X fun e X' => e = .returned (.int .i64 (-1)) ∧ Below X.heap.size X X' := by
 go_enter Tryz.func41, Tryz.ntmps41
 go_wp2_with fail
 go_ret
 exact ⟨rfl, one_below _ _⟩
theorem rglen_any (B n c : Nat) (A : Option Addr) (X : World) (hB : X.cell? ⟨B, 0, none⟩ = some (.slice A n c)) :
 Calls Tryz.prog 22 #[.pointer (some ⟨B, 0, none⟩)] X fun e X' => e = .returned (.int .i64 (n : Nat)) ∧ X = X' := by
 go_enter Tryz.func22, Tryz.ntmps22
 go_wp2_with fail
 go_ret
 exact ⟨rfl, rfl⟩
theorem rglen_nil (X : World) :
 Calls Tryz.prog 22 #[.pointer none] X fun e X' => e = .returned (.int .i64 0) ∧ X = X' := by
 go_enter Tryz.func22, Tryz.ntmps22
 go_wp2_with fail
 go_ret
 exact ⟨rfl, rfl⟩
theorem rgfirst_any (B g k : Nat) (L : List Rg.St) (q : Rg.St) (hk : L.length = k + 1) (hq : L[0]? = some q) (X : World) (hB : Box X B 89 #[.slice (some ⟨g, 0, none⟩) L.length 9]) (hR : PRow g L X) :
 Calls Tryz.prog 23 #[.pointer (some ⟨B, 0, none⟩)] X fun e X' => e = .returned (.int .i64 q.g.frame) ∧ X = X' := by
 have cl := qh (rglen_any B L.length 9 _ X (hB.cell 0))
 have k0 : X.cell? ⟨B, 0, none⟩ = some (.slice (some ⟨g, 0, none⟩) L.length 9) := hB.cell 0
 obtain ⟨ad, had⟩ : ∃ ad, ad = (⟨g, 0, none⟩ : Addr) := ⟨_, rfl⟩
 have hl := hR.lies
 have hfew := hR.few
 rw [← had] at hl k0
 have hlt : 0 < L.length := by omega
 have hq0 : L[0] = q := by rw [List.getElem?_eq_getElem hlt] at hq; injection hq
 have kx := st_at hl rfl 0 hlt 0 (by decide)
 rw [hq0, show q.cells[0]? = some (.int .i64 q.g.frame) from by unfold Rg.St.cells; rw [Array.getElem?_toList]; exact q.first] at kx
 have kx0 : X.cell? (ad.add (0 * 76)) = some (.int .i64 q.g.frame) := kx
 have kx1 : X.cell? ad = some (.int .i64 q.g.frame) := kx
 have kx2 : X.cell? (ad.add 0) = some (.int .i64 q.g.frame) := kx
 rw [hk] at cl k0
 have hne : ((k : Int) + 1 == 0) = false := by simp; omega
 clear hB hR hl hq hq0 had hlt kx
 generalize q.g.frame = fr at *
 go_enter Tryz.func23, Tryz.ntmps23
 go_wp2_with (go_at_call 22; ((with_reducible refine ((cl).out).mono ?_); rintro e w5 ⟨rfl, rfl⟩))
 go_ret
 exact ⟨rfl, rfl⟩
theorem rglast_any (B g k : Nat) (L : List Rg.St) (q : Rg.St) (hk : L.length = k + 1) (hq : L[k]? = some q) (X : World) (hB : Box X B 89 #[.slice (some ⟨g, 0, none⟩) L.length 9]) (hR : PRow g L X) :
 Calls Tryz.prog 24 #[.pointer (some ⟨B, 0, none⟩)] X fun e X' => e = .returned (.int .i64 q.g.frame) ∧ Below X.heap.size X X' := by
 have cl := qh (rglen_any B L.length 9 _ X (hB.cell 0))
 have k0 : X.cell? ⟨B, 0, none⟩ = some (.slice (some ⟨g, 0, none⟩) L.length 9) := hB.cell 0
 obtain ⟨ad, had⟩ : ∃ ad, ad = (⟨g, 0, none⟩ : Addr) := ⟨_, rfl⟩
 have hl := hR.lies
 have hfew := hR.few
 rw [← had] at hl k0
 have hlt : k < L.length := by omega
 have hq0 : L[k] = q := by rw [List.getElem?_eq_getElem hlt] at hq; injection hq
 have kx := st_at hl rfl k hlt 0 (by decide)
 rw [hq0, show q.cells[0]? = some (.int .i64 q.g.frame) from by unfold Rg.St.cells; rw [Array.getElem?_toList]; exact q.first] at kx
 have kx0 : X.cell? (ad.add (k * 76)) = some (.int .i64 q.g.frame) := kx
 rw [hk] at cl k0
 have hne : ((k : Int) + 1 == 0) = false := by simp; omega
 have hwm : IntKind.i64.wrap (((k + 1 : Nat) : Int) - 1) = (k : Int) := by rw [IntKind.wrap_i64]; omega
 have hwm2 : wrap64 (k : Int) = (k : Int) := IntWalk.wrap64_in _ (by omega)
 have hkl : (k : Int) < (k : Int) + 1 := by omega
 clear hB hR hl hq hq0 had hlt kx
 generalize q.g.frame = fr at *
 go_enter Tryz.func24, Tryz.ntmps24
 go_upto_region 3 with (go_at_call 22; ((with_reducible refine ((cl).out).mono ?_); rintro e w5 ⟨rfl, rfl⟩))
 go_quiet (fail)
 go_wp2_with fail
 go_ret
 exact ⟨rfl, by first | exact Below.refl _ _ | exact draws_below (Below.refl _ _) _⟩
theorem rgat_none (B g : Nat) (L : List Rg.St) (f : Int) (hv : Rg.PlaceSays L f (-1)) (X : World) (hB : Box X B 89 #[.slice (some ⟨g, 0, none⟩) L.length 9]) (hR : PRow g L X) :
 Calls Tryz.prog 19 #[.pointer (some ⟨B, 0, none⟩), .int .i64 f] X fun e X' => e = .returned (.tuple #[.agg Im.zero, .bool false]) ∧ Below X.heap.size X X' := by
 obtain ⟨X1, hX1⟩ : ∃ X1, X1 = X.alloc (.cells Im.zero 40) := ⟨_, rfl⟩
 have hb1 : Below X.heap.size X X1 := by rw [hX1]; exact one_below X _
 have B0 := qh (show Box X1 X.heap.size 40 Im.zero by rw [hX1]; exact Box.made _ _ _)
 have cp := qh (rgfind_any B g L f (-1) hv X1 (hB.below hb1 hB.lt) (hR.kept (hb1.block _ hR.lt)))
 have K0 := qh hb1
 have HX := qh hX1
 clear hB hR hv hb1 hX1
 go_enter Tryz.func19, Tryz.ntmps19
 go_upto_region 1 with (with_reducible refine alloc_state rfl rfl ?_)
 rw [← HX.out]
 go_wp2_with (first
  | (go_at_call 41; ((with_reducible refine (cp).out.mono ?_); rintro e w1 ⟨rfl, hb⟩; have B1 := qh (B0.out.below hb B0.out.lt); have K1 := qh (K0.out.trans (hb.mono K0.out.size)); clear hb))
  | (refine wpList_build_is rfl (t := 40) (vs := []) rfl rfl state_built ?_)
  | ((with_reducible refine im_store_zero rfl rfl ?_); apply StoreZ.mk rfl rfl; (focus (with_reducible exact B1.out)); (focus exact Im.zero_size)))
 refine bodyPost_ret (v := .tuple #[.agg Im.zero, .bool false]) ?_ ?_ ?_
 · exact results_cell_tmp (p := 4) (q := 5) rfl _ _ _ _ Im.zero _ rfl (B1.out.row _) Tryz.underlying40 rfl (by rw [Im.zero_size]; exact state_info)
 · rfl
 · exact ⟨rfl, Below.setRow' K1.out (Nat.le_refl _) _⟩
theorem rgat_some (B g : Nat) (L : List Rg.St) (f : Int) (i : Nat) (hi : i < L.length) (hv : Rg.PlaceSays L f i) (X : World) (hB : Box X B 89 #[.slice (some ⟨g, 0, none⟩) L.length 9]) (hR : PRow g L X) (hn : (L[i]).g.shots.length ≤ 60) (hL : Lies X X.heap.size 6 (L[i]).A (L[i]).g.shots.length (Gm.shotCells (L[i]).g.shots)) :
 Calls Tryz.prog 19 #[.pointer (some ⟨B, 0, none⟩), .int .i64 f] X (ToldSt (L[i]).s X) := by
 have hfew := hR.few
 obtain ⟨X1, hX1⟩ : ∃ X1, X1 = X.alloc (.cells Im.zero 40) := ⟨_, rfl⟩
 have hb1 : Below X.heap.size X X1 := by rw [hX1]; exact one_below X _
 have hs1 : X1.heap.size = X.heap.size + 1 := by rw [hX1]; simp
 have B0 := qh (show Box X1 X.heap.size 40 Im.zero by rw [hX1]; exact Box.made _ _ _)
 have cp := qh (rgfind_any B g L f i hv X1 (hB.below hb1 hB.lt) (hR.kept (hb1.block _ hR.lt)))
 have hqe : ∃ q, q = L[i] := ⟨_, rfl⟩
 obtain ⟨q, hq⟩ := hqe
 rw [← hq] at hn hL ⊢
 have hl := hR.lies
 obtain ⟨ad, had⟩ : ∃ ad, ad = (⟨g, 0, none⟩ : Addr) := ⟨_, rfl⟩
 rw [← had] at hl
 have hst := st_at hl rfl i hi
 rw [← hq] at hst
 have hadb : ad.block < X.heap.size := by rw [had]; exact hR.lt
 have Q := qh (fun (w : World) (hb : Below X.heap.size X w) (j : Nat) (hj : j < 76) => show w.cell? ((ad.add (i * 76)).add j) = q.cells[j]? from (World.cell?_of_block (w := X) (by rw [add_block, add_block]; exact hb.block _ hadb)).trans (hst j hj))
 have k0 : ∀ w, Below X.heap.size X w → w.cell? ⟨B, 0, none⟩ = some (.slice (some ad) L.length 9) := fun w hb => by rw [had]; exact (hB.below hb hB.lt).cell 0
 have KK := qh k0
 have HL := qh hL
 have co := fun w hw => qh (show Calls Tryz.prog 44 #[.agg (Im.cells q.g (.slice q.A q.g.shots.length q.c) q.r)] w _ from rgown_any q hn w hw)
 have K0 := qh hb1
 have HX := qh hX1
 have HS := qh hs1
 have hil : (i : Int) < (L.length : Int) := by omega
 have hnn : ¬ (i : Int) < 0 := by omega
 clear hB hR hv hb1 hX1 hs1 hq hl hst hadb had k0 hL
 generalize L.length = n at *
 go_enter Tryz.func19, Tryz.ntmps19
 go_upto_region 1 with (with_reducible refine alloc_state rfl rfl ?_)
 rw [← HX.out]
 go_wp2_with (first
  | (go_at_call 41; ((with_reducible refine (cp).out.mono ?_); rintro e w1 ⟨rfl, hb⟩; have B1 := qh (B0.out.below hb B0.out.lt); have K1 := qh (K0.out.trans (hb.mono K0.out.size)); have k1 := KK.out w1 K1.out; have c1 := qh ((co w1 ((HL.out.below K1.out).wider K1.out.size)).out); have S1 := qh hb.size; clear hb))
  | (refine st_load_at rfl rfl ?_; apply LoadSt.mk (q := q) rfl (fun j hj => Q.out _ K1.out j hj))
  | (go_at_call 44; ((with_reducible refine (c1).out.mono ?_); rintro e w2 ⟨A', c', rfl, ho, hb⟩; have B2 := qh (B1.out.below hb B1.out.lt); have K2 := qh (K1.out.trans (hb.mono K1.out.size)); have O2 := qh ho; have N2 := qh (B2.out.unowned ho (by decide)); clear hb ho))
  | ((with_reducible refine im_store_state rfl rfl ?_); apply StoreS.mk rfl rfl; (focus (with_reducible exact B2.out)); (focus exact Im.zero_size); (focus rfl)))
 refine bodyPost_ret (v := .tuple #[.agg (Rg.St.arr ⟨q.g, q.r, A', c'⟩), .bool true]) ?_ ?_ ?_
 · exact results_cell_tmp (p := 4) (q := 5) rfl _ _ _ _ (Rg.St.arr ⟨q.g, q.r, A', c'⟩) _ rfl (B2.out.row _) Tryz.underlying40 rfl (by rw [Rg.St.size]; exact state_info)
 · rfl
 · have h := own_setRow O2.out N2.out (Rg.St.arr ⟨q.g, q.r, A', c'⟩)
   exact ⟨A', c', rfl, Lies.owned h, fun _ => own_rebase h K1.out.size, Below.setRow' K2.out (Nat.le_refl _) _⟩
theorem flat_take (L : List Rg.St) (i : Nat) (hi : i ≤ L.length) : (L.flatMap Rg.St.cells).take (i * 76) = (L.take i).flatMap Rg.St.cells := by
 have h : ((L.take i).flatMap Rg.St.cells).length = i * 76 := by
  rw [flat_len (cells := Rg.St.cells) (c := 76) Rg.St.len, List.length_take, Nat.min_eq_left hi]
 conv => lhs; rw [← List.take_append_drop i L, List.flatMap_append]
 exact List.take_left' h
theorem splice_size (cs : Array Value) (o : Nat) (vs : List Value) (h : o + vs.length ≤ cs.size) : (splice cs o vs).size = cs.size := by
 unfold splice
 simp only [List.size_toArray, List.length_append, List.length_take, List.length_drop, Array.length_toList]
 omega
section
variable {g : Nat} {L L' : List Rg.St} {w : World}
theorem PRow.set (h : PRow g L w) (o : Nat) (vs : List Value) (hb : o + vs.length ≤ 684) (h9 : L'.length ≤ 9) (hc : ∀ cur : List Value, cur.length = 684 → cur.take (L.length * 76) = L.flatMap Rg.St.cells → (cur.take o ++ vs ++ cur.drop (o + vs.length)).take (L'.length * 76) = L'.flatMap Rg.St.cells) : PRow g L' (w.setCells g o vs) := by
 obtain ⟨cur, hB, h1, h2⟩ := h.row
 refine ⟨h9, splice cur o vs, ?_, by rw [splice_size cur o vs (by omega)]; exact h1, ?_⟩
 · rw [setCells_row g _ vs o cur w hB.is (by omega)]
   exact hB.row _
 · have := hc cur.toList (by rw [Array.length_toList]; exact h1) h2
   unfold splice
   rw [List.toList_toArray]
   exact this
theorem PRow.behind (h : PRow g L w) (o : Nat) (vs : List Value) (ho : L.length * 76 ≤ o) (hb : o + vs.length ≤ 684) : PRow g L (w.setCells g o vs) :=
 h.set o vs hb h.few fun cur hl hc => by
  rw [List.append_assoc, List.take_append_of_le_length (by rw [List.length_take]; omega), List.take_take, Nat.min_eq_left ho]
  exact hc
theorem PRow.push (h : PRow g L w) (q : Rg.St) (h8 : L.length ≤ 8) : PRow g (L ++ [q]) (w.setCells g (L.length * 76) q.cells) :=
 h.set _ _ (by rw [q.len]; omega) (by rw [List.length_append]; simp; omega) fun cur hl hc => by
  rw [hc]
  have hf : (L.flatMap Rg.St.cells).length = L.length * 76 := flat_len (cells := Rg.St.cells) (c := 76) Rg.St.len L
  rw [List.take_left' (by rw [List.length_append, hf, q.len, List.length_append]; simp; omega)]
  rw [List.flatMap_append, List.flatMap_cons, List.flatMap_nil, List.append_nil]
theorem PRow.over (h : PRow g L w) (i j : Nat) (hij : i ≤ j) (hj : j ≤ L.length) : PRow g (L.take i ++ L.drop j) (w.setCells g (i * 76) ((L.drop j).flatMap Rg.St.cells)) := by
 have h9 := h.few
 have hf : ((L.drop j).flatMap Rg.St.cells).length = (L.length - j) * 76 := by rw [flat_len (cells := Rg.St.cells) (c := 76) Rg.St.len, List.length_drop]
 refine h.set _ _ (by rw [hf]; omega) (by rw [List.length_append, List.length_take, List.length_drop]; omega) fun cur hl hc => ?_
 have e : cur.take (i * 76) = (L.take i).flatMap Rg.St.cells := by
  rw [← flat_take L i (by omega), ← hc, List.take_take, Nat.min_eq_left (by omega)]
 rw [e, List.take_left' (by rw [List.length_append, hf, flat_len (cells := Rg.St.cells) (c := 76) Rg.St.len, List.length_append, List.length_take, List.length_drop]; omega), List.flatMap_append]
end
theorem KeepL.putsR {F : Nat → Prop} {X : World} {B : Nat} (hF : F B ∨ X.heap.size ≤ B) : ∀ (vs : List Value) (o : Nat) {X' : World} (h : KeepL F X X'), KeepL F X (X'.setCells B o vs)
 | [], _, _, h => h
 | v :: r, o, X', h => KeepL.putsR hF r (o + 1) (h.put hF o v)
theorem KeepL.wideR {F F' : Nat → Prop} {X X' : World} (h : KeepL F X X') (hs : ∀ j, F j → F' j) : KeepL F' X X' := ⟨h.os, h.tape, h.output, h.size, fun k hk hn => h.block k hk fun hf => hn (hs k hf)⟩
theorem exec_append_nine {o : Oper} {a : Act} {w : World} {x y : Operand} {g N : Nat} {L : List Rg.St} {q : Rg.St} (ho : o.op = .call { callee := .builtin .append, args := #[x, y], argTypes := #[42, 42] }) (hx : a.eval x = .slice (some ⟨g, 0, none⟩) L.length 9) (hy : a.eval y = .slice (some ⟨N, 0, none⟩) 1 1) (hR : PRow g L w) (h8 : L.length ≤ 8) (hB : Box w N 40 q.arr) :
 (execOp a.eval o).run Tryz.prog w = .ok (.value (.slice (some ⟨g, 0, none⟩) (L.length + 1) 9)) (w.setCells g (L.length * 76) q.cells) := by
 obtain ⟨i, hi, hz, hs, hby⟩ := st_bytes
 obtain ⟨cur, hC, h1, h2⟩ := hR.row
 have hrun := run_append_room_cells (P := Tryz.prog) w 42 o.type 40 i Tryz.underlying42 hi g 0 L.length 9 ⟨N, 0, none⟩ 1 1 q.cells (by rw [q.len, hs]) (fun j u hu => by
  rw [Addr.add_lit, Nat.zero_add, hB.cell j]
  unfold Rg.St.cells at hu
  rwa [Array.getElem?_toList] at hu) (st_one_cell q) (by omega) (fun j hj => by
  rw [hC.cell, Array.getElem?_eq_getElem (by rw [hs]; rw [q.len] at hj; omega)]; rfl) (fun j hj => hC.free _)
 rw [hs, Nat.zero_add] at hrun
 unfold execOp
 simp [ho, resolve, invoke, builtin, hx, hy, hrun, Result.andThen]
def putV (q : Rg.St) (L : List Rg.St) (g base : Nat) (j : Nat) (vm : Nat → Value) (w : World) : Prop :=
 match j with
 | 6 => ∃ A' c', vm 6 = .agg (Rg.St.arr ⟨q.g, q.r, A', c'⟩) ∧ Lies w w.heap.size 6 A' q.g.shots.length (Gm.shotCells q.g.shots) ∧ (q.g.shots.length ≠ 0 → ∀ ad, A' = some ad → base ≤ ad.block)
 | 7 => ∃ A' c' N, vm 6 = .agg (Rg.St.arr ⟨q.g, q.r, A', c'⟩) ∧ vm 7 = .slice (some ⟨N, 0, none⟩) 1 1 ∧ Box w N 40 (Rg.St.arr ⟨q.g, q.r, A', c'⟩) ∧ base ≤ N
 | 8 => ∃ A' c', vm 6 = .agg (Rg.St.arr ⟨q.g, q.r, A', c'⟩) ∧ vm 8 = .slice (some ⟨g, 0, none⟩) (L.length + 1) 9 ∧ PRow g (L ++ [⟨q.g, q.r, A', c'⟩]) w
 | _ => True
theorem putV_congr {q : Rg.St} {L : List Rg.St} {g base j : Nat} {vm vm' : Nat → Value} {w : World} (h : putV q L g base j vm w) (h1 : 6 ≤ j ∧ j < 9) (h6 : vm 6 = vm' 6) (hj : vm j = vm' j) : putV q L g base j vm' w := by
 obtain rfl | rfl | rfl : j = 6 ∨ j = 7 ∨ j = 8 := by omega
 · obtain ⟨A, c, e, h⟩ := h; exact ⟨A, c, h6 ▸ e, h⟩
 · obtain ⟨A, c, N, e, e2, h⟩ := h; exact ⟨A, c, N, h6 ▸ e, hj ▸ e2, h⟩
 · obtain ⟨A, c, e, e2, h⟩ := h; exact ⟨A, c, h6 ▸ e, hj ▸ e2, h⟩
theorem putV_below {q : Rg.St} {L : List Rg.St} {g base j : Nat} {vm : Nat → Value} {w w' : World} (h : putV q L g base j vm w) (hb : Below w.heap.size w w') (h1 : 6 ≤ j ∧ j < 9) : putV q L g base j vm w' := by
 obtain rfl | rfl | rfl : j = 6 ∨ j = 7 ∨ j = 8 := by omega
 · obtain ⟨A, c, e, h, h2⟩ := h; exact ⟨A, c, e, (h.below hb).wider hb.size, h2⟩
 · obtain ⟨A, c, N, e, e2, h, h2⟩ := h; exact ⟨A, c, N, e, e2, h.below hb h.lt, h2⟩
 · obtain ⟨A, c, e, e2, h⟩ := h; exact ⟨A, c, e, e2, h.kept (hb.block _ h.lt)⟩
theorem putV_row {q : Rg.St} {L : List Rg.St} {g base j : Nat} {vm : Nat → Value} {w w' : World} (h : putV q L g base j vm w) (hK : KeepL (fun k => k = g) w w') (hg : g < base) (h1 : 6 ≤ j ∧ j < 8) : putV q L g base j vm w' := by
 obtain rfl | rfl : j = 6 ∨ j = 7 := by omega
 · obtain ⟨A, c, e, h, h2⟩ := h
   refine ⟨A, c, e, lies_kept h hK.size fun h0 ad ea => ?_, h2⟩
   obtain ⟨ad', ea', hb'⟩ := h.start h0
   rw [ea] at ea'; injection ea' with ea'; subst ea'
   have := h2 h0 _ ea
   exact hK.block _ hb' (by omega)
 · obtain ⟨A, c, N, e, e2, h, h2⟩ := h; exact ⟨A, c, N, e, e2, ⟨(hK.block N h.lt (by omega)).trans h.is⟩, h2⟩
theorem arr_same {q : Rg.St} {A A' : Option Addr} {c c' : Nat} (h : Value.agg (Rg.St.arr ⟨q.g, q.r, A, c⟩) = .agg (Rg.St.arr ⟨q.g, q.r, A', c'⟩)) : A = A' ∧ c = c' := by
 injection h with h
 have h58 := congrArg (fun x : Array Value => x[58]?) h
 have e : some (Value.slice A q.g.shots.length c) = some (.slice A' q.g.shots.length c') := (im_at58 _ _ _).symm.trans (h58.trans (im_at58 _ _ _))
 injection e with e
 injection e with e1 e2 e3
 exact ⟨e1, e3⟩
theorem exec_fieldP {o : Oper} {a : Act} {w : World} {x : Operand} {B : Nat} (ho : o.op = .fieldAddr 89 x 0) (hx : a.eval x = .pointer (some ⟨B, 0, none⟩)) : (execOp a.eval o).run Tryz.prog w = .ok (.value (.pointer (some ⟨B, 0, none⟩))) w := by
 unfold execOp
 simp only [ho, hx]
 go_simp
theorem rgput_any (B g : Nat) (L : List Rg.St) (q : Rg.St) (h8 : L.length ≤ 8) (hn : q.g.shots.length ≤ 60) (X : World) (hB : Box X B 89 #[.slice (some ⟨g, 0, none⟩) L.length 9]) (hR : PRow g L X) (hL : Lies X X.heap.size 6 q.A q.g.shots.length (Gm.shotCells q.g.shots)) :
 Calls Tryz.prog 40 #[.pointer (some ⟨B, 0, none⟩), .agg q.arr] X fun e X' => e = .returned (.tuple #[]) ∧ ∃ A' c', Box X' B 89 #[.slice (some ⟨g, 0, none⟩) (L.length + 1) 9] ∧ PRow g (L ++ [⟨q.g, q.r, A', c'⟩]) X' ∧ Lies X' X'.heap.size 6 A' q.g.shots.length (Gm.shotCells q.g.shots) ∧ (q.g.shots.length ≠ 0 → ∀ ad, A' = some ad → X.heap.size ≤ ad.block) ∧ KeepL (fun k => k = g ∨ k = B) X X' := by
 have hBg : B ≠ g := by obtain ⟨cur, hC, _⟩ := hR.row; exact hB.apart hC (by decide)
 obtain ⟨X1, hX1⟩ : ∃ X1, X1 = X.alloc (.cells q.arr 40) := ⟨_, rfl⟩
 have hb1 : Below X.heap.size X X1 := by rw [hX1]; exact one_below X _
 have hs1 : X1.heap.size = X.heap.size + 1 := by rw [hX1]; simp
 have P1 := qh (show Box X1 X.heap.size 40 q.arr by rw [hX1]; exact Box.made _ _ _)
 have B1 := qh (hB.below hb1 hB.lt)
 have R1 := qh (hR.kept (hb1.block _ hR.lt))
 have hgl := hR.lt
 have hBl := hB.lt
 have L1 := qh ((hL.below hb1).wider hb1.size)
 have K1 := qh hb1
 have HX := qh hX1
 have HS := qh hs1
 have co := qh (fun w hw => show Calls Tryz.prog 44 #[.agg q.arr] w _ from rgown_any q hn w hw)
 have HBG := qh hBg
 clear hB hR hL hb1 hX1 hs1 hBg
 go_enter Tryz.func40, Tryz.ntmps40
 go_upto_region 1 with fail
 rw [← HX.out]
 have kB : ∀ W, KeepL (fun k => k = g) X1 W → Box W B 89 #[.slice (some ⟨g, 0, none⟩) L.length 9] := fun W hK => ⟨(hK.block B (B1.out.lt) HBG.out).trans B1.out.is⟩
 have kP : ∀ W, KeepL (fun k => k = g) X1 W → Box W X.heap.size 40 q.arr := fun W hK => ⟨(hK.block _ P1.out.lt (by omega)).trans P1.out.is⟩
 have KB := qh kB
 have KP := qh kP
 clear kB kP
 refine Rj.wp_region_j (by kernel_rfl) 6 9 (by kernel_rfl) (fun W => KeepL (fun k => k = g) X1 W ∧ PRow g L W) (fun j vm W => putV q L g X1.heap.size j vm W) (fun S vm W => (S 8 = true → S 6 = true) ∧ (S 8 = false → Below X1.heap.size X1 W)) ⟨(KeepL.refl _ _).call (Below.drew (Below.refl _ _)), R1.out.kept rfl⟩ (fun _ => ⟨fun h => (by cases h), fun _ => Below.drew (Below.refl _ _)⟩) (fun S vm vm' W he h => h) ?hvd ?_
 case hvd =>
  intro j vm vm' W h1 h2 he hV
  obtain rfl | rfl | rfl : j = 6 ∨ j = 7 ∨ j = 8 := by omega
  · exact putV_congr hV (by omega) (he 6 (.inl rfl)) (he 6 (.inl rfl))
  · exact putV_congr hV (by omega) (he 6 (.inr (by kernel_rfl))) (he 7 (.inl rfl))
  · exact putV_congr hV (by omega) (he 6 (.inr (by kernel_rfl))) (he 8 (.inl rfl))
 simp only [List.take_succ_cons, List.take_zero, List.drop_succ_cons, List.drop_zero, Nat.reduceSub]
 refine Rz.head_op (v := .pointer (some ⟨B, 0, none⟩)) (fun W hW => Rz.exec_move rfl rfl) ?_
 refine Rz.head_op (v := .pointer (some ⟨B, 0, none⟩)) (fun W hW => Rz.exec_move rfl rfl) ?_
 refine Rz.head_op (v := .pointer (some ⟨B, 0, none⟩)) (fun W hW => exec_nilCheckR rfl rfl) ?_
 refine Rz.head_op (v := .pointer (some ⟨B, 0, none⟩)) (fun W hW => exec_fieldP rfl rfl) ?_
 refine Rz.head_op (v := .slice (some ⟨g, 0, none⟩) L.length 9) (fun W hW => exec_loadR rfl rfl ((KB.out W hW.1).cell 0)) ?_
 refine Rz.head_op (v := .agg q.arr) (fun W hW => exec_load_st q rfl rfl (KP.out W hW.1)) ?_
 refine Rz.head_split (fun A => A.tmps.size = 15 ∧ A.eval (.tmp 8) = .slice (some ⟨g, 0, none⟩) L.length 9) ⟨rfl, rfl⟩ ?_ ?_ ?_
 · intro S vm W hW hSi hS hV hD
   simp only [Rz.putAll]
   have hd8 : S 8 = false := by
    cases h : S 8 with
    | false => rfl
    | true => have := hD.1 h; rw [hSi] at this; cases this
   have hWb := hD.2 hd8
   refine gives_call (f := 44) (args := #[.agg q.arr]) ?_ ((co.out W ((L1.out.below hWb).wider hWb.size)).mono ?_)
   · go_simp
   · rintro e w' ⟨A', c', rfl, ho, hb⟩
     refine ⟨_, rfl, ⟨A', c', by simp [Rz.upd], Lies.owned ho, fun h0 ad ea => ?_⟩, ⟨hW.1.call hb, hW.2.kept (hb.block _ hW.2.lt)⟩, fun j h1 h2 _ _ h => putV_below h hb ⟨h1, h2⟩, fun h => ?_, fun h => ?_⟩
     · obtain ⟨_, ⟨q0, hq0⟩ | ⟨gq, _, _, q0, hq, _⟩⟩ := ho
       · exact absurd hq0 h0
       · injection q0 with q0
         rw [q0] at ea
         injection ea with ea
         subst ea
         exact Nat.le_trans hWb.size hq
     · simp [Rj.also]
     · exact hWb.trans (hb.mono hWb.size)
 · intro A ⟨hAs, hA8⟩
   refine ⟨?_, ?_, trivial⟩
   · intro S vm W hW hSi hS hV hD
     have s6 := hS 6 (by omega) (by omega) (by kernel_rfl)
     obtain ⟨A', c', e6, _, _⟩ := hV 6 (by omega) (by omega) s6
     refine gives_val (exec_st_one ⟨q.g, q.r, A', c'⟩ rfl ?_) ⟨⟨A', c', W.heap.size, by simp [Rz.upd]; exact e6, by simp [Rz.upd], Box.made _ _ _, hW.1.size⟩, ⟨hW.1.call (one_below _ _), hW.2.kept (by exact (one_below W _).block _ hW.2.lt)⟩, fun j h1 h2 _ _ h => putV_below h (one_below _ _) ⟨h1, h2⟩, fun h => ?_, fun h => ?_⟩
     · simp only [Rz.putAll]
       repeat rw [Rz.put_other (by decide)]
       rw [Rz.put_same (by simp only [Rz.put_size, hAs]; decide)]
       exact e6
     · simp [Rj.also, s6]
     · have hd := hD.2 (by simpa [Rj.also] using h)
       exact hd.alloc hd.size _
   · intro S vm W hW hSi hS hV hD
     have s6 := hS 6 (by omega) (by omega) (by kernel_rfl)
     have s7 := hS 7 (by omega) (by omega) (by kernel_rfl)
     obtain ⟨A', c', N, e6, e7, hN, hNb⟩ := hV 7 (by omega) (by omega) s7
     have hk : KeepL (fun k => k = g) W (W.setCells g (L.length * 76) (Rg.St.cells ⟨q.g, q.r, A', c'⟩)) := KeepL.putsR (F := fun k => k = g) (B := g) (.inl rfl) _ _ (KeepL.refl _ _)
     refine gives_val (exec_append_nine (g := g) (N := N) (L := L) (q := ⟨q.g, q.r, A', c'⟩) rfl ?_ ?_ hW.2 h8 hN) ⟨⟨A', c', by simp [Rz.upd]; exact e6, by simp [Rz.upd], hW.2.push _ h8⟩, ⟨hW.1.trans hk (fun j hj => .inl hj), hW.2.behind _ _ (Nat.le_refl _) (by rw [Rg.St.len]; omega)⟩, fun j h1 h2 hne _ h => putV_row h hk (by have := HS.out; omega) (by omega), fun _ => ?_, fun h => ?_⟩
     · simp only [Rz.putAll]
       repeat rw [Rz.put_other (by decide)]
       exact hA8
     · simp only [Rz.putAll]
       repeat rw [Rz.put_other (by decide)]
       rw [Rz.put_same (by simp only [Rz.put_size, hAs]; decide)]
       exact e7
     · simp [Rj.also, s6]
     · simp [Rj.also] at h
 · intro S vm W hW hS hV hD
   obtain ⟨A', c', e6, hl6, ha6⟩ := hV 6 (by omega) (by omega)
   obtain ⟨A2, c2, e8, e8b, hR8⟩ := hV 8 (by omega) (by omega)
   obtain ⟨rfl, rfl⟩ := arr_same (e6.symm.trans e8)
   have BW := qh (KB.out W hW.1)
   have KW := qh hW.1
   have R8 := qh hR8
   have L6 := qh hl6
   have A6 := qh ha6
   have xf := BW.out.free 0
   have xl := BW.out.lt
   have xc := BW.out.cell 0
   clear hW hS hV hD hl6 ha6 hR8 e6 e8
   simp only [Rz.putAll, Nat.reduceAdd, e8b]
   generalize vm 6 = v6
   generalize vm 7 = v7
   clear e8b
   go_wp2_with fail
   (try simp only [Exit.inBlock, Exit.then])
   refine bodyPost_end (results_none rfl _ _ _) rfl ?_
   have hne : B ≠ g := HBG.out
   refine ⟨rfl, A', c', BW.out.put 0 _, R8.out.kept (heap_setCell_other _ _ _ _ (Ne.symm hne)), ?_, fun h0 ad ea => ?_, ?_⟩
   · refine lies_kept L6.out (by simp) fun h0 ad ea => heap_setCell_other _ _ _ _ ?_
     have := A6.out h0 ad ea
     have := HS.out
     show ad.block ≠ B
     omega
   · have := A6.out h0 ad ea
     have := HS.out
     omega
   · have h0 : KeepL (fun k => k = g ∨ k = B) X X1 := (KeepL.of_below' K1.out).wideR fun j hj => hj.elim
     have h1 : KeepL (fun k => k = g ∨ k = B) X W := h0.trans KW.out (fun j hj => .inl (.inl hj))
     exact h1.put (.inl (.inr rfl)) 0 _
theorem st_zero_run (w : World) : (zeroValue 40).run Tryz.prog w = .ok (.agg Im.zero) w := by
 obtain ⟨i, hi, hz, hs, hby⟩ := st_bytes
 simp [zeroValue, typeInfo, hi, hz]
theorem zero_cells_one (n : Nat) : ∀ u ∈ (Builtin.zeroCells Im.zero n).toList, u.oneCell' = true := by
 intro u hu
 have hz : Im.zero.all (·.oneCell') = true := by kernel_rfl
 unfold Builtin.zeroCells at hu
 rw [Array.toList_map] at hu
 obtain ⟨k, _, rfl⟩ := List.mem_map.1 hu
 have hk : k % Im.zero.size < Im.zero.size := Nat.mod_lt _ (by rw [Im.zero_size]; decide)
 rw [getElem!_pos Im.zero _ hk]
 exact Array.all_eq_true_iff_forall_mem.1 hz _ (Array.getElem_mem _)
theorem zero_cells_len (n : Nat) : (Builtin.zeroCells Im.zero n).toList.length = n * 76 := by
 unfold Builtin.zeroCells
 rw [Array.length_toList, Array.size_map, Array.size_range, Im.zero_size]
theorem PRow.clear_ {g : Nat} {L : List Rg.St} {w : World} (h : PRow g L w) (i n : Nat) (hi : i < n) (hn : n ≤ 9) (c : Nat) (ty : TypeId) :
 (Builtin.clear_ #[42] ty #[.slice (some ⟨g, i * 76, none⟩) (n - i) c]).run Tryz.prog w = .ok (.tuple #[]) (w.setCells g (i * 76) (Builtin.zeroCells Im.zero (n - i)).toList) := by
 obtain ⟨cur, hB, h1, h2⟩ := h.row
 have hst := run_storeCells_cells (P := Tryz.prog) g (i * 76) (Builtin.zeroCells Im.zero (n - i)).toList 0 w (fun j hj => by
  rw [zero_cells_len] at hj
  rw [hB.cell, Array.getElem?_eq_getElem (by omega)]; rfl) (fun j hj => hB.free _) (zero_cells_one _)
 simp only [Nat.add_zero] at hst
 obtain ⟨m, hm⟩ : ∃ m, n - i = m + 1 := ⟨n - i - 1, by omega⟩
 rw [hm] at hst ⊢
 have e2 : (Value.agg Tryz.zeroCells40).cells = Im.zero := rfl
 simp [Builtin.clear_, run_underlying Tryz.underlying42, st_zero_run, e2, hst]
theorem rgdel_any (g : Nat) (L : List Rg.St) (i j : Nat) (hij : i ≤ j) (hj : j ≤ L.length) (X : World) (hR : PRow g L X) :
 Calls Tryz.prog 42 #[.slice (some ⟨g, 0, none⟩) L.length 9, .int .i64 i, .int .i64 j] X fun e X' => e = .returned (.slice (some ⟨g, 0, none⟩) (i + (L.length - j)) 9) ∧ PRow g (L.take i ++ L.drop j) X' ∧ KeepL (fun k => k = g) X X' := by
 have h9 := hR.few
 have HR := qh hR
 have hi0 : (0 : Int) ≤ (i : Int) := by omega
 have hiji : (i : Int) ≤ (j : Int) := by omega
 have hji : (j : Int) ≤ (L.length : Int) := by omega
 have hn9 : (L.length : Int) ≤ 9 := by omega
 by_cases heq : i = j
 · subst heq
   have HE := qh (show L.take i ++ L.drop i = L from List.take_append_drop i L)
   have HN := qh (show i + (L.length - i) = L.length by omega)
   clear hR
   go_enter Tryz.func42, Tryz.ntmps42
   go_wp2_with fail
   all_goals (go_ret; exact ⟨rfl, HR.out, KeepL.refl _ _⟩)
 · obtain ⟨I, hI, hz, hs, hby⟩ := st_bytes
   obtain ⟨news, hnews⟩ : ∃ news, news = (L.drop j).flatMap Rg.St.cells := ⟨_, rfl⟩
   have hnl : news.length = (L.length - j) * 76 := by rw [hnews, flat_len (cells := Rg.St.cells) (c := 76) Rg.St.len, List.length_drop]
   have s1 := qh hnl
   have s2 := qh (show ∀ u ∈ news, u.oneCell' = true by rw [hnews]; exact st_cells_one _)
   have hlies := hR.lies
   have hsrc := qh (show ∀ (t : Nat) (u : Value), news[t]? = some u → X.drew.cell? (Addr.add ⟨g, j * 76, none⟩ t) = some u from fun t u hu => by
    rw [hnews, ← Nat.zero_add t, ← Nat.zero_mul 76, ← Nat.zero_add t] at hu
    have ht : t < (L.length - j) * 76 := by rw [← hnl, hnews]; have := (List.getElem?_eq_some_iff.1 hu).1; simpa using this
    have := hlies.cell _ rfl (by omega) (j * 76 + t) u (by rw [flat_st L j t hj]; simpa using hu)
    rw [Addr.add_lit] at this ⊢
    rw [Nat.zero_add] at this
    exact this)
   obtain ⟨cur, hB, hc1, hc2⟩ := hR.row
   have s3 := qh (show ∀ t, t < news.length → (X.drew.cell? ⟨g, 0 + i * 76 + t, none⟩).isSome = true ∧ X.drew.frozen? ⟨g, 0 + i * 76 + t, none⟩ = false from fun t ht => ⟨by
    show (X.cell? _).isSome = true
    rw [hB.cell, Array.getElem?_eq_getElem (by omega)]; rfl, hB.free _⟩)
   obtain ⟨W1, hW1⟩ : ∃ W1, W1 = X.drew.setCells g (0 + i * 76) news := ⟨_, rfl⟩
   have Q1 : PRow g (L.take i ++ L.drop j) W1 := by rw [hW1, hnews, Nat.zero_add]; exact (hR.kept (X' := X.drew) rfl).over i j (by omega) hj
   have K1 : KeepL (fun k => k = g) X W1 := by
    rw [hW1]
    exact KeepL.putsR (F := fun k => k = g) (.inl rfl) news (0 + i * 76) ((KeepL.refl _ X).call (Below.drew (Below.refl _ _)))
   obtain ⟨n, hn⟩ : ∃ n, n = L.length := ⟨_, rfl⟩
   obtain ⟨m, hm⟩ : ∃ m, m = i + (n - j) := ⟨_, rfl⟩
   have hlen2 : (L.take i ++ L.drop j).length = m := by rw [List.length_append, List.length_take, List.length_drop]; omega
   have hcl : ∀ ty c, (Builtin.clear_ #[42] ty #[.slice (some ⟨g, m * 76, none⟩) (n - m) c]).run Tryz.prog W1 = .ok (.tuple #[]) (W1.setCells g (m * 76) (Builtin.zeroCells Im.zero (n - m)).toList) := fun ty c => Q1.clear_ m n (by omega) (by omega) c ty
   have HQ := qh Q1
   have HK := qh K1
   have HW := qh hW1
   have HL2 := qh hlen2
   have hmn : m < n := by omega
   have hmi : (m : Int) ≤ (n : Int) := by omega
   have hne : ((i : Int) == (j : Int)) = false := by simp; omega
   have hroom : i + (n - j) ≤ 9 := by omega
   rw [← hn] at s1 hji hn9 h9 hj ⊢
   have HH := qh hn
   clear hlies hR hB hc1 hc2 Q1 K1 hW1 hlen2 hnl hnews hn hz hby
   go_enter Tryz.func42, Tryz.ntmps42
   have hni : ¬ n = i := by omega
   have hin : (i : Int) ≤ (n : Int) := by omega
   have hi9 : (i : Int) ≤ 9 := by omega
   have hj9i : (j : Int) ≤ 9 := by omega
   by_cases hj9 : j = 9
   · subst hj9
     obtain rfl : n = 9 := by omega
     obtain rfl : m = i := by omega
     clear hm
     have hnil : news = [] := List.eq_nil_of_length_eq_zero (by have h1 := s1.out; rw [h1])
     obtain rfl : W1 = X.drew := by rw [HW.out, hnil]; rfl
     clear hsrc
     go_wp2_with fail
     go_region
     go_wp2_with fail
     go_ret
     refine ⟨rfl, HQ.out.behind _ _ (by rw [HL2.out]; exact Nat.le_refl _) (by rw [zero_cells_len]; omega), KeepL.putsR (F := fun k => k = g) (.inl rfl) _ _ HK.out⟩
   · have hj9' : ¬ 9 = j := fun e => hj9 e.symm
     clear hj9
     subst hm
     go_wp2_with fail
     go_region_law (refine step_append_room rfl (.tmp 22) (.tmp 25) 42 rfl 40 I 76 Tryz.underlying42 hI hs g 0 i 9 (by simp [Act.eval, Act.put]) ⟨g, j * 76, none⟩ (n - j) (9 - j) news (by simp [Act.eval, Act.put, hj9']) s1.out hsrc.out s2.out hroom s3.out ?_; rw [← HW.out])
     go_wp2_with fail
     go_ret
     refine ⟨rfl, HQ.out.behind _ _ (by rw [HL2.out]; exact Nat.le_refl _) (by rw [zero_cells_len]; omega), KeepL.putsR (F := fun k => k = g) (.inl rfl) _ _ HK.out⟩
theorem rgcut_none (B g : Nat) (L : List Rg.St) (f : Int) (hv : Rg.PlaceSays L f (-1)) (X : World) (hB : Box X B 89 #[.slice (some ⟨g, 0, none⟩) L.length 9]) (hR : PRow g L X) :
 Calls Tryz.prog 15 #[.pointer (some ⟨B, 0, none⟩), .int .i64 f] X fun e X' => e = .returned (.bool false) ∧ Below X.heap.size X X' := by
 have cp := qh (rgfind_any B g L f (-1) hv X hB hR)
 clear hv hB hR
 go_enter Tryz.func15, Tryz.ntmps15
 go_wp2_with (go_at_call 41; ((with_reducible refine (cp).out.mono ?_); rintro e w1 ⟨rfl, hb⟩; have K1 := qh hb; clear hb))
 go_ret
 exact ⟨rfl, K1.out⟩
theorem rgdrop_none (B g : Nat) (L : List Rg.St) (f : Int) (hv : Rg.PlaceSays L f (-1)) (X : World) (hB : Box X B 89 #[.slice (some ⟨g, 0, none⟩) L.length 9]) (hR : PRow g L X) :
 Calls Tryz.prog 17 #[.pointer (some ⟨B, 0, none⟩), .int .i64 f] X fun e X' => e = .returned (.bool false) ∧ Below X.heap.size X X' := by
 have cp := qh (rgfind_any B g L f (-1) hv X hB hR)
 clear hv hB hR
 go_enter Tryz.func17, Tryz.ntmps17
 go_wp2_with (go_at_call 41; ((with_reducible refine (cp).out.mono ?_); rintro e w1 ⟨rfl, hb⟩; have K1 := qh hb; clear hb))
 go_ret
 exact ⟨rfl, K1.out⟩
theorem rgcut_nil (f : Int) (X : World) :
 Calls Tryz.prog 15 #[.pointer none, .int .i64 f] X fun e X' => e = .returned (.bool false) ∧ Below X.heap.size X X' := by
 have cp := qh (rgfind_nil f X)
 go_enter Tryz.func15, Tryz.ntmps15
 go_wp2_with (go_at_call 41; ((with_reducible refine (cp).out.mono ?_); rintro e w1 ⟨rfl, hb⟩; have K1 := qh hb; clear hb))
 go_ret
 exact ⟨rfl, K1.out⟩
theorem rgdrop_nil (f : Int) (X : World) :
 Calls Tryz.prog 17 #[.pointer none, .int .i64 f] X fun e X' => e = .returned (.bool false) ∧ Below X.heap.size X X' := by
 have cp := qh (rgfind_nil f X)
 go_enter Tryz.func17, Tryz.ntmps17
 go_wp2_with (go_at_call 41; ((with_reducible refine (cp).out.mono ?_); rintro e w1 ⟨rfl, hb⟩; have K1 := qh hb; clear hb))
 go_ret
 exact ⟨rfl, K1.out⟩
theorem rgdrop_some (B g : Nat) (L : List Rg.St) (f : Int) (i : Nat) (hi : i < L.length) (hv : Rg.PlaceSays L f i) (X : World) (hB : Box X B 89 #[.slice (some ⟨g, 0, none⟩) L.length 9]) (hR : PRow g L X) :
 Calls Tryz.prog 17 #[.pointer (some ⟨B, 0, none⟩), .int .i64 f] X fun e X' => e = .returned (.bool true) ∧ Box X' B 89 #[.slice (some ⟨g, 0, none⟩) (L.drop i).length 9] ∧ PRow g (L.drop i) X' ∧ KeepL (fun k => k = g ∨ k = B) X X' := by
 have hBg : B ≠ g := by obtain ⟨cur, hC, _⟩ := hR.row; exact hB.apart hC (by decide)
 have h9 := hR.few
 have cp := qh (rgfind_any B g L f i hv X hB hR)
 have hd : ∀ W, Below X.heap.size X W → Calls Tryz.prog 42 #[.slice (some ⟨g, 0, none⟩) L.length 9, .int .i64 0, .int .i64 i] W fun e X' => e = .returned (.slice (some ⟨g, 0, none⟩) (L.drop i).length 9) ∧ PRow g (L.drop i) X' ∧ KeepL (fun k => k = g) W X' := fun W hW => (rgdel_any g L 0 i (Nat.zero_le _) (by omega) W (hR.kept (hW.block _ hR.lt))).mono fun e X' h => by
  rw [Nat.zero_add, List.take_zero, List.nil_append] at h
  rw [List.length_drop]
  exact h
 have hD := qh hd
 have HB := qh hB
 have HBG := qh hBg
 have hnn : ¬ (i : Int) < 0 := by omega
 clear hv hR hd hB hBg
 generalize hLd : L.drop i = L' at *
 generalize L'.length = n' at *
 generalize L.length = n at *
 go_enter Tryz.func17, Tryz.ntmps17
 go_wp2_with (first
  | (go_at_call 41; ((with_reducible refine (cp).out.mono ?_); rintro e w1 ⟨rfl, hb⟩; have K1 := qh hb; have B1 := qh (HB.out.below hb HB.out.lt); have k1 := B1.out.cell 0; have c1 := qh (hD.out w1 hb); clear hb))
  | (go_at_call 42; ((with_reducible refine (c1).out.mono ?_); rintro e w2 ⟨rfl, hR2, hK2⟩; have R2 := qh hR2; have K2 := qh hK2; have B2 : Box w2 B 89 _ := (⟨(hK2.block B B1.out.lt HBG.out).trans B1.out.is⟩); clear k1 hR2 hK2; have k2 := B2.cell 0; have f2 := B2.free 0; have l2 := B2.lt; have HB2 := qh B2; clear B2)))
 go_ret
 have hne : B ≠ g := HBG.out
 refine ⟨rfl, HB2.out.put 0 _, R2.out.kept (heap_setCell_other _ _ _ _ (Ne.symm hne)), ?_⟩
 have h0 : KeepL (fun k => k = g ∨ k = B) X w1 := (KeepL.of_below' K1.out).wideR fun j hj => hj.elim
 have h1 : KeepL (fun k => k = g ∨ k = B) X w2 := h0.trans K2.out (fun j hj => .inl (.inl hj))
 exact h1.put (.inl (.inr rfl)) 0 _
theorem rgcut_some (B g : Nat) (L : List Rg.St) (f : Int) (i : Nat) (hi : i < L.length) (hv : Rg.PlaceSays L f i) (X : World) (hB : Box X B 89 #[.slice (some ⟨g, 0, none⟩) L.length 9]) (hR : PRow g L X) :
 Calls Tryz.prog 15 #[.pointer (some ⟨B, 0, none⟩), .int .i64 f] X fun e X' => e = .returned (.bool true) ∧ Box X' B 89 #[.slice (some ⟨g, 0, none⟩) (L.take (i + 1)).length 9] ∧ PRow g (L.take (i + 1)) X' ∧ KeepL (fun k => k = g ∨ k = B) X X' := by
 have hBg : B ≠ g := by obtain ⟨cur, hC, _⟩ := hR.row; exact hB.apart hC (by decide)
 have h9 := hR.few
 have cp := qh (rgfind_any B g L f i hv X hB hR)
 have hd : ∀ W, PRow g L W → Calls Tryz.prog 42 #[.slice (some ⟨g, 0, none⟩) L.length 9, .int .i64 ((i : Int) + 1), .int .i64 L.length] W fun e X' => e = .returned (.slice (some ⟨g, 0, none⟩) (L.take (i + 1)).length 9) ∧ PRow g (L.take (i + 1)) X' ∧ KeepL (fun k => k = g) W X' := fun W hW => by
  rw [show ((i : Int) + 1) = ((i + 1 : Nat) : Int) by omega]
  refine (rgdel_any g L (i + 1) L.length (by omega) (Nat.le_refl _) W hW).mono fun e X' h => ?_
  rw [Nat.sub_self, Nat.add_zero, List.drop_length, List.append_nil] at h
  rw [List.length_take, Nat.min_eq_left (by omega)]
  exact h
 have hD := qh hd
 have HB := qh hB
 have HR := qh hR
 have HBG := qh hBg
 have hnn : ¬ (i : Int) < 0 := by omega
 have hw1 : IntKind.i64.wrap ((i : Int) + 1) = (i : Int) + 1 := by rw [IntKind.wrap_i64]; omega
 clear hv hR hd hB hBg
 generalize hLd : L.take (i + 1) = L' at *
 generalize hn' : L'.length = n' at *
 generalize hnn2 : L.length = n at *
 go_enter Tryz.func15, Tryz.ntmps15
 go_upto_region 4 with (go_at_call 41; ((with_reducible refine (cp).out.mono ?_); rintro e w1 ⟨rfl, hb⟩; have K1 := qh hb; have B1 := qh (HB.out.below hb HB.out.lt); have R1 := qh (HR.out.kept (hb.block _ HR.out.lt)); clear hb))
 have KB := qh (show ∀ W, KeepL (fun k => k = g) w1 W → Box W B 89 #[.slice (some ⟨g, 0, none⟩) n 9] from fun W hK => ⟨(hK.block B (B1.out.lt) HBG.out).trans B1.out.is⟩)
 refine Rj.wp_region_j (by kernel_rfl) 12 13 (by kernel_rfl) (fun W => KeepL (fun k => k = g) w1 W) (fun j vm W => j = 12 → vm 12 = .slice (some ⟨g, 0, none⟩) n' 9 ∧ PRow g L' W) (fun S vm W => S 12 = false → PRow g L W) ((KeepL.refl _ _).call (Below.drew (Below.refl _ _))) (fun _ _ => R1.out.kept rfl) (fun S vm vm' W he h => h) (fun j vm vm' W h1 h2 he hV e => by subst e; rw [← he 12 (.inl rfl)]; exact hV rfl) ?_
 simp only [List.take_succ_cons, List.take_zero, List.drop_succ_cons, List.drop_zero, Nat.reduceSub]
 refine Rz.head_op (v := .pointer (some ⟨B, 0, none⟩)) (fun W hW => Rz.exec_move rfl rfl) ?_
 refine Rz.head_op (v := .pointer (some ⟨B, 0, none⟩)) (fun W hW => Rz.exec_move rfl rfl) ?_
 refine Rz.head_op (v := .pointer (some ⟨B, 0, none⟩)) (fun W hW => exec_nilCheckR rfl rfl) ?_
 refine Rz.head_op (v := .pointer (some ⟨B, 0, none⟩)) (fun W hW => exec_fieldP rfl rfl) ?_
 refine Rz.head_op (v := .slice (some ⟨g, 0, none⟩) n 9) (fun W hW => exec_loadR rfl rfl ((KB.out W hW).cell 0)) ?_
 simp only [Act.put, List.setIfInBounds_toArray, List.set_cons_succ, List.set_cons_zero]
 refine Rz.head_op (v := .int .i64 i) (fun W hW => Rz.exec_move rfl rfl) ?_
 refine Rz.head_op (v := .int .i64 ((i : Int) + 1)) (fun W hW => ?_) ?_
 · go_simp
 simp only [Act.put, List.setIfInBounds_toArray, List.set_cons_succ, List.set_cons_zero]
 refine Rz.head_op (v := .pointer (some ⟨B, 0, none⟩)) (fun W hW => Rz.exec_move rfl rfl) ?_
 refine Rz.head_op (v := .pointer (some ⟨B, 0, none⟩)) (fun W hW => exec_nilCheckR rfl rfl) ?_
 refine Rz.head_op (v := .pointer (some ⟨B, 0, none⟩)) (fun W hW => exec_fieldP rfl rfl) ?_
 refine Rz.head_op (v := .slice (some ⟨g, 0, none⟩) n 9) (fun W hW => exec_loadR rfl rfl ((KB.out W hW).cell 0)) ?_
 simp only [Act.put, List.setIfInBounds_toArray, List.set_cons_succ, List.set_cons_zero]
 refine Rz.head_op (v := .int .i64 n) (fun W hW => ?_) ?_
 · go_simp
 simp only [Act.put, List.setIfInBounds_toArray, List.set_cons_succ, List.set_cons_zero]
 refine Rz.head_split (fun A => True) trivial ?_ (fun _ _ => trivial) ?_
 · intro S vm W hW hSi hS hV hD'
   simp only [Rz.putAll]
   refine gives_call (f := 42) (args := #[.slice (some ⟨g, 0, none⟩) n 9, .int .i64 ((i : Int) + 1), .int .i64 n]) ?_ ((hD.out W (hD' hSi)).mono ?_)
   · go_simp
   · rintro e w' ⟨rfl, hR2, hK2⟩
     refine ⟨_, rfl, fun _ => ⟨by simp [Rz.upd], hR2⟩, hW.trans hK2 (fun j hj => .inl hj), fun j h1 h2 hne _ h => absurd (show j = 12 by omega) hne, fun h => ?_⟩
     simp [Rj.also] at h
 · intro S vm W hW hS hV hD'
   obtain ⟨e12, hR2⟩ := hV 12 (by omega) (by omega) rfl
   have BW := qh (KB.out W hW)
   have KW := qh hW
   have R2 := qh hR2
   have xf := BW.out.free 0
   have xl := BW.out.lt
   have xc := BW.out.cell 0
   clear hW hS hV hD' hR2
   simp only [Rz.putAll, Nat.reduceAdd, e12]
   clear e12
   go_wp2_with fail
   go_ret
   have hne : B ≠ g := HBG.out
   refine ⟨rfl, BW.out.put 0 _, R2.out.kept (heap_setCell_other _ _ _ _ (Ne.symm hne)), ?_⟩
   have h0 : KeepL (fun k => k = g ∨ k = B) X w1 := (KeepL.of_below' K1.out).wideR fun j hj => hj.elim
   have h1 : KeepL (fun k => k = g ∨ k = B) X W := h0.trans KW.out (fun j hj => .inl (.inl hj))
   exact h1.put (.inl (.inr rfl)) 0 _
end Go.Proofs.YtbdlpbnfcnhajaaGreat