/-
Several texts in one: Fru Frl.
-/
import Derived.Test.YtiahpncglpfjeaaGreatFq14
namespace Go.Proofs.YtiahpncglpfjeaaGreat
open Go Go.RowKit Go.Shelf
set_option linter.unusedVariables false
set_option linter.unusedSimpArgs false

theorem st_frame (g : Gm.G) (s : Value) (r : Ros.R) : (Im.cells g s r)[0]? = some (.int .i64 g.frame) := (Im.cells_g g s r 0 (by decide)).trans (Gm.cells_0 g s)
theorem exec_slice_from {o : Oper} {a : Act} {w : World} {x y : Operand} {A : Option Addr} {m c k : Nat} (ho : o.op = .slice 52 x (some y) none none) (hx : a.eval x = .slice A m c) (hy : a.eval y = .int .i64 (k : Int)) (hk : k ≤ m) (hc : m ≤ c) :
    (execOp a.eval o).run Tryz.prog w = .ok (.value (.slice (dropA A c k) (m - k) (c - k))) w := by
  unfold execOp
  simp only [ho, Option.map_some, Option.map_none, hx, hy, Sem.run_bind, run_sliceAt_slice w 52 _ _ _ _ ens_row, run_slice_from A m c k Tryz.underlying52 en_info26 hk hc, Result.andThen_ok]
  simp only [Sem.run_pure]
set_option maxRecDepth 100000 in
set_option maxHeartbeats 1000000 in
theorem runs10_main (seed : ByteArray) (l : List Fd.Turn) (A : Option Addr) (n c : Nat) (cut : Int) (w : World) (hsz : seed.size ≤ 20) (hn : n = l.length) (hn100 : n ≤ 100) (hl : Lies w w.heap.size 25 A n (l.flatMap Fd.Turn.cells)) (hty : ∀ q ∈ l, q.ty) :
    Calls Tryz.prog 4 #[.string seed, .slice A n c, .int .i64 cut] w fun e w' => e = .returned (.bool true) ∧ Below w.heap.size w w' := by
  have h63 : seed.size ≤ maxLen := by unfold maxLen; omega
  have hs20 : (seed.size : Int) ≤ 20 := by omega
  have hn1 : (n : Int) ≤ 100 := by omega
  have cm := Lib.hid (make_any seed l A n c _ w h63 rfl hn hn100 hl hty)
  have hd := Dn.seed_bd seed.data.toList
  have cs := fun X => Lib.hid (foldstart_any seed X h63)
  have cr := fun X => Lib.hid (start_any seed X h63)
  generalize Dn.seed seed.data.toList = d at cm hd cs cr
  have HD := Lib.hid hd
  clear hd hl hty hn
  go_enter Tryz.func4, Tryz.ntmps4
  go_upto_region 4 with (go_at_call 18; ((with_reducible refine ((cm).out).mono ?_); rintro x w1 ⟨A1, c1, log, u, rfl, hL, hT, hrun, hlen, hb, hcap⟩; have L1 := Lib.hid hL; have T1 := Lib.hid hT; have RU := Lib.hid hrun; have CP := Lib.hid hcap; have K1 := Lib.hid hb; have LE := Lib.hid hlen; clear hL hT hrun hb hcap hlen))
  obtain ⟨m, hm⟩ : ∃ m, m = log.length := ⟨_, rfl⟩
  have HM := Lib.hid hm
  rw [← hm]
  have hm100 : m ≤ 100 := by have := LE.out; omega
  clear hm
  have hm63 : m ≤ maxLen := by unfold maxLen; omega
  have hll := Lib.hid (show LiesS w1 w1.heap.size A1 m log from HM.out ▸ L1.out)
  obtain ⟨k, hkm, hkk⟩ : ∃ k : Nat, k ≤ m ∧ wrap64 ((IntKind.u64.wrap cut).tmod (↑m + 1)) = (k : Int) := by
    rw [wrap_u64']
    obtain ⟨z, hz⟩ : ∃ z, z = cut % 18446744073709551616 := ⟨_, rfl⟩
    rw [← hz]
    have hz0 : 0 ≤ z := by omega
    clear hz
    have h1 := Int.emod_nonneg z (show (m : Int) + 1 ≠ 0 by omega)
    have h2 := Int.emod_lt_of_pos z (show (0 : Int) < (m : Int) + 1 by omega)
    rw [Int.tmod_eq_emod_of_nonneg hz0, IntWalk.wrap64_in _ (by omega)]
    exact ⟨(z % ((m : Int) + 1)).toNat, by omega, by omega⟩
  obtain ⟨v, hv1, hv2⟩ : ∃ v, Fd.run (Fd.start d) (Fd.es (log.take k)) = some v ∧ Fd.run v (Fd.es (log.drop k)) = some u := by
    have h := RU.out
    rw [← List.take_append_drop k (Fd.es log), Fd.run_append] at h
    have e1 : Fd.es (log.take k) = (Fd.es log).take k := es_take log k
    have e2 : Fd.es (log.drop k) = (Fd.es log).drop k := es_drop log k
    rw [e1, e2]
    cases h1 : Fd.run (Fd.start d) ((Fd.es log).take k) with
    | none => rw [h1] at h; cases h
    | some v => rw [h1] at h; exact ⟨v, rfl, h⟩
  have V1 := Lib.hid hv1
  have V2 := Lib.hid hv2
  have FN := Lib.hid (Fd.start_fine HD.out)
  have LN := fun X => (show Lies X X.heap.size 6 none 0 (Gm.shotCells (Fd.start d).g.shots) from ⟨rfl, fun h => absurd rfl h, fun _ _ h => absurd rfl h⟩)
  have ca := fun X (hX : Below w1.heap.size w1 X) => Lib.hid (show Calls Tryz.prog 19 #[.agg (Im.cells (Gm.new d) (.slice none 0 0) Ros.new), .slice A1 m c1] X (SOut u.g u.r 0 X) from foldrun_some u (Fd.start d) log none A1 0 0 m c1 X FN.out rfl (LN X) hm63 ((hll.out.below hX).wider hX.size) T1.out RU.out)
  have cb := fun X (hX : Below w1.heap.size w1 X) => Lib.hid (show Calls Tryz.prog 21 #[.agg (Im.cells (Gm.new d) (.slice none 0 0) Ros.new), .slice A1 m c1] X (SOut u.g u.r 0 X) from refrun_some u (Fd.start d) log none A1 0 0 m c1 X FN.out rfl (LN X) hm63 ((hll.out.below hX).wider hX.size) T1.out RU.out)
  clear hv1 hv2
  have b1 := Below.refl w1.heap.size w1
  go_upto_region 5 with fail
  rw [hkk]
  go_upto_region 6 with (first | (with_reducible refine alloc_state rfl rfl ?_) | (with_reducible refine im_store_new rfl rfl rfl rfl Im.zero_size rfl ?_) | (go_at_call 20; ((with_reducible refine ((cs _).out).mono ?_); rintro x w2 ⟨rfl, hb⟩; have b2 := b1.trans hb; clear hb)) | (go_at_call 19; ((with_reducible refine ((ca _ b2).out).mono ?_); rintro x w3 ⟨A3, c3, rfl, hL, hb⟩; have S3 := Lib.hid (Box.made w3 35 (Im.cells u.g (.slice A3 u.g.shots.length c3) u.r)); have L3 := Lib.hid (hL.call (one_below w3 (.cells (Im.cells u.g (.slice A3 u.g.shots.length c3) u.r) 35))); have b3 := (b2.trans (hb.mono b2.size)).trans ((one_below w3 (.cells (Im.cells u.g (.slice A3 u.g.shots.length c3) u.r) 35)).mono (b2.trans (hb.mono b2.size)).size); clear hb hL)))
  generalize hW3 : w3.alloc (.cells (Im.cells u.g (.slice A3 u.g.shots.length c3) u.r) 35) = W3 at S3 L3 b3 ⊢
  generalize w3.heap.size = p3 at S3 ⊢
  clear hW3 b2 ca
  go_upto_region 7 with (first | (with_reducible refine alloc_state rfl rfl ?_) | (with_reducible refine im_store_new rfl rfl rfl rfl Im.zero_size rfl ?_) | (go_at_call 22; ((with_reducible refine ((cr _).out).mono ?_); rintro x w4 ⟨rfl, hb⟩; have S4 := Lib.hid (S3.out.below hb S3.out.lt); have L4 := Lib.hid ((L3.out.below hb).wider hb.size); have b4 := b3.trans (hb.mono b3.size); clear hb)) | (go_at_call 21; ((with_reducible refine ((cb _ b4).out).mono ?_); rintro x w5 ⟨A5, c5, rfl, hL, hb⟩; have S5 := Lib.hid ((S4.out.below hb S4.out.lt).alloc (.cells (Im.cells u.g (.slice A5 u.g.shots.length c5) u.r) 35)); have L5 := Lib.hid ((L4.out.call hb).call (one_below w5 (.cells (Im.cells u.g (.slice A5 u.g.shots.length c5) u.r) 35))); have T5 := Lib.hid (Box.made w5 35 (Im.cells u.g (.slice A5 u.g.shots.length c5) u.r)); have M5 := Lib.hid (hL.call (one_below w5 (.cells (Im.cells u.g (.slice A5 u.g.shots.length c5) u.r) 35))); have b5 := (b4.trans (hb.mono b4.size)).trans ((one_below w5 (.cells (Im.cells u.g (.slice A5 u.g.shots.length c5) u.r) 35)).mono (b4.trans (hb.mono b4.size)).size); clear hb hL)))
  generalize hW5 : w5.alloc (.cells (Im.cells u.g (.slice A5 u.g.shots.length c5) u.r) 35) = W5 at S5 L5 T5 M5 b5 ⊢
  generalize w5.heap.size = p5 at T5 ⊢
  clear hW5 b4 cb S3 L3 S4 L4 b3
  have CC := fun X (hX : Below W5.heap.size W5 X) => Lib.hid (show Calls Tryz.prog 19 #[.agg (Im.cells (Gm.new d) (.slice none 0 0) Ros.new), .slice A1 k c1] X (SOut v.g v.r 0 X) from foldrun_some v (Fd.start d) (log.take k) none A1 0 0 k c1 X FN.out rfl (LN X) (by omega) (((hll.out.below (b5.trans (hX.mono b5.size))).take k hkm).wider (b5.trans (hX.mono b5.size)).size) (fun q hq => T1.out q (List.mem_of_mem_take hq)) V1.out)
  have hkc : k ≤ c1 := by have h1 := CP.out; have h2 := HM.out; omega
  refine Rz.wp_region_z (by kernel_rfl) 1 11 (by kernel_rfl) (fun X => Below W5.heap.size W5 X) (fun j vm => rkV (.agg (Im.cells (Gm.new d) (.slice none 0 0) Ros.new)) A1 m c1 k v.g v.r W5.heap.size j vm) ((Below.refl _ _).drew) ?hvd ?_
  case hvd =>
    intro j vm vm' X h1 h2 he hV
    by_cases hj : j = 10
    · subst hj
      exact rkV_congr hV (by omega) (he 10 (.inl rfl)) (fun _ => he 9 (.inr (by kernel_rfl)))
    · exact rkV_congr hV (by omega) (he j (.inl rfl)) (fun e => absurd e hj)
  simp only [List.take_succ_cons, List.take_zero, List.drop_succ_cons, List.drop_zero, Nat.reduceSub]
  apply Rz.head_op
  focus (intro W hW; clear hW; go_simp; first | done | rfl)
  refine Rz.head_split (fun A => A.tmps.size = 110 ∧ A.eval (.tmp 7) = .slice A1 m c1 ∧ A.eval (.tmp 8) = .int .i64 (k : Int)) ⟨by simp only [Rz.put_size]; rfl, rfl, rfl⟩ ?_ ?_ ?_
  · intro vm X hX hV
    simp only [Rz.putAll]
    clear hV
    refine gives_call (f := 20) (args := #[.string seed]) ?_ ((cs X).out.mono ?_)
    · go_simp
      first | done | rfl
    · rintro e w' ⟨rfl, hb⟩
      exact ⟨_, rfl, by simp [Rz.upd, rkV], hX.trans (hb.mono hX.size), fun j _ _ _ h => rkV_below h hb⟩
  · intro A hAs
    obtain ⟨hS, h7, h8⟩ := hAs
    refine ⟨?_, ?_, ?_, ?_, ?_, ?_, ?_, ?_, ?_, trivial⟩
    · intro vm X hX hV
      refine gives_val (w' := X) (Rz.exec_move (v := .slice A1 m c1) rfl ?_) ⟨by simp [Rz.upd, rkV], hX, fun j _ _ _ h => h⟩
      simp only [Rz.putAll]; rw [Rz.put_none]; repeat rw [Rz.put_other (by decide)]
      exact h7
    · intro vm X hX hV
      refine gives_val (w' := X) (Rz.exec_move (v := .int .i64 (k : Int)) rfl ?_) ⟨by simp [Rz.upd, rkV], hX, fun j _ _ _ h => h⟩
      simp only [Rz.putAll]; rw [Rz.put_none]; repeat rw [Rz.put_other (by decide)]
      exact h8
    · intro vm X hX hV
      have e2 : vm 2 = .slice A1 m c1 := hV 2 (by omega) (by omega) (by kernel_rfl)
      have e3 : vm 3 = .int .i64 (k : Int) := hV 3 (by omega) (by omega) (by kernel_rfl)
      refine gives_val (w' := X) (exec_slice_to (A := A1) (m := m) (c := c1) (k := k) rfl ?_ ?_ hkc) ⟨by simp [Rz.upd, rkV], hX, fun j _ _ _ h => h⟩
      · simp only [Rz.putAll]; rw [Rz.put_none]; repeat rw [Rz.put_other (by decide)]
        rw [Rz.put_same (by simp only [Rz.put_size, hS]; decide)]
        exact e2
      · simp only [Rz.putAll]; rw [Rz.put_none]; repeat rw [Rz.put_other (by decide)]
        rw [Rz.put_same (by simp only [Rz.put_size, hS]; decide)]
        exact e3
    · intro vm X hX hV
      have e1 : vm 1 = .agg (Im.cells (Gm.new d) (.slice none 0 0) Ros.new) := hV 1 (by omega) (by omega) (by kernel_rfl)
      have e4 : vm 4 = .slice A1 k c1 := hV 4 (by omega) (by omega) (by kernel_rfl)
      refine gives_call (exec_call2 (vx := .agg (Im.cells (Gm.new d) (.slice none 0 0) Ros.new)) (vy := .slice A1 k c1) _ rfl ?_ ?_) ((CC X hX).out.mono ?_)
      · simp only [Rz.putAll]; rw [Rz.put_none]; repeat rw [Rz.put_other (by decide)]
        rw [Rz.put_same (by simp only [Rz.put_size, hS]; decide)]
        exact e1
      · simp only [Rz.putAll]; rw [Rz.put_none]; repeat rw [Rz.put_other (by decide)]
        rw [Rz.put_same (by simp only [Rz.put_size, hS]; decide)]
        exact e4
      · rintro e w' ⟨A2, c2, rfl, hl, hb⟩
        exact ⟨_, rfl, ⟨A2, c2, by simp [Rz.upd], hl⟩, hX.trans (hb.mono hX.size), fun j _ _ _ h => rkV_below h hb⟩
    · intro vm X hX hV
      obtain ⟨A2, c2, e, hl⟩ := stV_0 (show stV v.g v.r 0 W5.heap.size 0 (fun i => vm (5 + i)) X from hV 5 (by omega) (by omega) (by kernel_rfl))
      refine gives_val (w' := X) (Rz.exec_move (v := .tuple #[.agg (Im.cells v.g (.slice A2 v.g.shots.length c2) v.r), .int .i64 0]) rfl ?_) ⟨⟨A2, c2, by simp [Rz.upd], hl⟩, hX, fun j _ _ _ h => h⟩
      simp only [Rz.putAll]; rw [Rz.put_none]; repeat rw [Rz.put_other (by decide)]
      rw [Rz.put_same (by simp only [Rz.put_size, hS]; decide)]
      exact e
    · intro vm X hX hV
      obtain ⟨A2, c2, e, hl⟩ := stV_1 (show stV v.g v.r 0 W5.heap.size 1 (fun i => vm (5 + i)) X from hV 6 (by omega) (by omega) (by kernel_rfl))
      refine gives_val (w' := X) (Rz.exec_extract (v := .agg (Im.cells v.g (.slice A2 v.g.shots.length c2) v.r)) (vs := #[.agg (Im.cells v.g (.slice A2 v.g.shots.length c2) v.r), .int .i64 0]) rfl ?_ rfl) ⟨⟨A2, c2, by simp [Rz.upd], hl⟩, hX, fun j _ _ _ h => h⟩
      simp only [Rz.putAll]; rw [Rz.put_none]; repeat rw [Rz.put_other (by decide)]
      rw [Rz.put_same (by simp only [Rz.put_size, hS]; decide)]
      exact e
    · intro vm X hX hV
      obtain ⟨A2, c2, e, hl⟩ := stV_1 (show stV v.g v.r 0 W5.heap.size 1 (fun i => vm (5 + i)) X from hV 6 (by omega) (by omega) (by kernel_rfl))
      refine gives_val (w' := X) (Rz.exec_extract (v := .int .i64 0) (vs := #[.agg (Im.cells v.g (.slice A2 v.g.shots.length c2) v.r), .int .i64 0]) rfl ?_ rfl) ⟨by simp [Rz.upd, rkV, stV], hX, fun j _ _ _ h => h⟩
      simp only [Rz.putAll]; rw [Rz.put_none]; repeat rw [Rz.put_other (by decide)]
      rw [Rz.put_same (by simp only [Rz.put_size, hS]; decide)]
      exact e
    · intro vm X hX hV
      exact gives_val (exec_alloc_z rfl state_zero rfl) ⟨⟨_, Im.G0, none, 0, 0, Im.R0, by simp [Rz.upd], hX.size, Box.made _ _ _⟩, hX.alloc hX.size _, fun j _ _ _ h => rkV_below h (one_below _ _)⟩
    · intro vm X hX hV
      obtain ⟨B, g', A', m', c', r', e4, hbB, hB⟩ := stV_4 (show stV v.g v.r 0 W5.heap.size 4 (fun i => vm (5 + i)) X from hV 9 (by omega) (by omega) (by kernel_rfl))
      obtain ⟨A2, c2, e2, hl⟩ := stV_2 (show stV v.g v.r 0 W5.heap.size 2 (fun i => vm (5 + i)) X from hV 7 (by omega) (by omega) (by kernel_rfl))
      have e4' : vm 9 = .pointer (some ⟨B, 0, none⟩) := e4
      have e2' : vm 7 = .agg (Im.cells v.g (.slice A2 v.g.shots.length c2) v.r) := e2
      refine gives_skip (exec_store_blk (B := B) (cs := Im.cells v.g (.slice A2 v.g.shots.length c2) v.r) rfl ?_ ?_ hB (by rw [Im.cells_size]; exact state_info) (by rw [Im.cells_size, Im.cells_size]) (state_one rfl)) ⟨⟨B, A2, c2, by simpa [Rz.upd] using e4', hbB, hB.row _, hl.state_row rfl hB _⟩, Below.setRow' hX hbB _, fun j h1 h2 h3 h => rkV_row h (by omega) e4' hB⟩
      · simp only [Rz.putAll]; rw [Rz.put_none]; repeat rw [Rz.put_other (by decide)]
        rw [Rz.put_same (by simp only [Rz.put_size, hS]; decide)]
        exact e4'
      · simp only [Rz.putAll]; rw [Rz.put_none]; repeat rw [Rz.put_other (by decide)]
        rw [Rz.put_same (by simp only [Rz.put_size, hS]; decide)]
        exact e2'
  · intro vm W7 hX hV
    obtain ⟨B7, A7, c7, e4, hbB, hB7, hl7⟩ := stV_5 (show stV v.g v.r 0 W5.heap.size 5 (fun i => vm (5 + i)) W7 from hV 10 (by omega) (by omega))
    have e3 := stV_3 (show stV v.g v.r 0 W5.heap.size 3 (fun i => vm (5 + i)) W7 from hV 8 (by omega) (by omega))
    clear hV
    simp only [Nat.reduceAdd] at e4 e3
    simp only [Rz.putAll, Nat.reduceAdd, e4, e3]
    generalize vm 1 = v1'
    generalize vm 2 = v2'
    generalize vm 3 = v3'
    generalize vm 4 = v4'
    generalize vm 5 = v5'
    generalize vm 6 = v6'
    generalize vm 7 = v7'
    generalize vm 10 = v10'
    have b7 := b5.trans (hX.mono b5.size)
    have FV := Lib.hid ((FN.out.run V1.out).1)
    have hmc : m ≤ c1 := by have h1 := CP.out; have h2 := HM.out; omega
    have S7 := Lib.hid (S5.out.below hX S5.out.lt)
    have L7 := Lib.hid ((L5.out.below hX).wider hX.size)
    have T7 := Lib.hid (T5.out.below hX T5.out.lt)
    have M7 := Lib.hid ((M5.out.below hX).wider hX.size)
    have B7' := Lib.hid hB7
    have CD := Lib.hid (fun Y (hY : Below W7.heap.size W7 Y) => Lib.hid (foldrun_some u v (log.drop k) A7 (dropA A1 c1 k) v.g.shots.length c7 (m - k) (c1 - k) Y FV.out rfl ((hl7.below hY).wider hY.size) (by omega) (((hll.out.below (b7.trans (hY.mono b7.size))).drop k hkm hmc).wider (b7.trans (hY.mono b7.size)).size) (fun q hq => T1.out q (List.mem_of_mem_drop hq)) V2.out))
    have HBX := Lib.hid (fun Y (hY : Below W7.heap.size W7 Y) => hB7.below hY hB7.lt)
    clear e4 e3 hB7 CC S5 L5 T5 M5 hX
    go_upto_region 8 with fail
    refine Rz.wp_region_z (by kernel_rfl) 4 10 (by kernel_rfl) (fun X => Below W7.heap.size W7 X) (fun j vm => stV u.g u.r 0 W7.heap.size (j - 4) (fun k => vm (4 + k))) ((Below.refl _ _).drew) ?hvd ?_
    case hvd =>
      intro j vm vm' X h1 h2 he hV
      obtain rfl | rfl | rfl | rfl | rfl | rfl : j = 4 ∨ j = 5 ∨ j = 6 ∨ j = 7 ∨ j = 8 ∨ j = 9 := by omega
      · exact stV_congr hV (by omega) (he 4 (.inl rfl)) (fun h => absurd h (by decide))
      · exact stV_congr hV (by omega) (he 5 (.inl rfl)) (fun h => absurd h (by decide))
      · exact stV_congr hV (by omega) (he 6 (.inl rfl)) (fun h => absurd h (by decide))
      · exact stV_congr hV (by omega) (he 7 (.inl rfl)) (fun h => absurd h (by decide))
      · exact stV_congr hV (by omega) (he 8 (.inl rfl)) (fun h => absurd h (by decide))
      · exact stV_congr hV (by omega) (he 9 (.inl rfl)) (fun _ => he 8 (.inr (by kernel_rfl)))
    simp only [List.take_succ_cons, List.take_zero, List.drop_succ_cons, List.drop_zero, Nat.reduceSub]
    repeat (first
      | (apply Rz.head_op; focus (intro W hW; exact exec_load_state rfl rfl (HBX.out W hW)))
      | (apply Rz.head_op; focus (intro W hW; exact exec_slice_from (k := k) rfl rfl rfl hkm hmc))
      | (apply Rz.head_op; focus (intro W hW; clear hW; go_simp; first | done | rfl)))
    refine Rz.head_split (fun A => A.tmps.size = 110) (by simp only [Rz.put_size]; rfl) ?_ ?_ ?_
    · intro vm X hX hV
      simp only [Rz.putAll]
      clear hV
      refine gives_call (f := 19) (args := #[.agg (Im.cells v.g (.slice A7 v.g.shots.length c7) v.r), .slice (dropA A1 c1 k) (m - k) (c1 - k)]) ?_ ((CD.out X hX).mono ?_)
      · go_simp
        first | done | rfl
      · rintro e w' ⟨A2, c2, rfl, hl, hb⟩
        exact ⟨_, rfl, ⟨A2, c2, by simp [Rz.upd], hl⟩, hX.trans (hb.mono hX.size), fun j _ _ _ h => stV_below h hb⟩
    · intro A hAs
      clear CD HBX
      refine ⟨?_, ?_, ?_, ?_, ?_, trivial⟩
      · intro vm X hX hV
        obtain ⟨A2, c2, e, hl⟩ := stV_0 (hV 4 (by omega) (by omega) (by kernel_rfl))
        refine gives_val (w' := X) (Rz.exec_move (v := vm 4) rfl ?_) ⟨⟨A2, c2, by simpa [Rz.upd] using e, hl⟩, hX, fun j _ _ _ h => h⟩
        simp only [Rz.putAll]
        rw [Rz.put_none, Rz.put_other (by decide), Rz.put_other (by decide), Rz.put_other (by decide), Rz.put_other (by decide), Rz.put_same (by rw [hAs]; decide)]
      · intro vm X hX hV
        obtain ⟨A2, c2, e, hl⟩ := stV_1 (hV 5 (by omega) (by omega) (by kernel_rfl))
        refine gives_val (w' := X) (Rz.exec_extract (v := .agg (Im.cells u.g (.slice A2 (u.g).shots.length c2) u.r)) (vs := #[.agg (Im.cells u.g (.slice A2 (u.g).shots.length c2) u.r), .int .i64 0]) rfl ?_ rfl) ⟨⟨A2, c2, by simp [Rz.upd], hl⟩, hX, fun j _ _ _ h => h⟩
        simp only [Rz.putAll]
        rw [Rz.put_none, Rz.put_other (by decide), Rz.put_other (by decide), Rz.put_other (by decide), Rz.put_same (by simp only [Rz.put_size, hAs]; decide)]
        exact e
      · intro vm X hX hV
        obtain ⟨A2, c2, e, hl⟩ := stV_1 (hV 5 (by omega) (by omega) (by kernel_rfl))
        refine gives_val (w' := X) (Rz.exec_extract (v := .int .i64 0) (vs := #[.agg (Im.cells u.g (.slice A2 (u.g).shots.length c2) u.r), .int .i64 0]) rfl ?_ rfl) ⟨by simp [Rz.upd, stV], hX, fun j _ _ _ h => h⟩
        simp only [Rz.putAll]
        rw [Rz.put_none, Rz.put_other (by decide), Rz.put_other (by decide), Rz.put_other (by decide), Rz.put_same (by simp only [Rz.put_size, hAs]; decide)]
        exact e
      · intro vm X hX hV
        exact gives_val (exec_alloc_z rfl state_zero rfl) ⟨⟨_, Im.G0, none, 0, 0, Im.R0, by simp [Rz.upd], hX.size, Box.made _ _ _⟩, hX.alloc hX.size _, fun j _ _ _ h => stV_below h (one_below _ _)⟩
      · intro vm X hX hV
        obtain ⟨B, g', A', m', c', r', e4, hbB, hB⟩ := stV_4 (hV 8 (by omega) (by omega) (by kernel_rfl))
        obtain ⟨A2, c2, e2, hl⟩ := stV_2 (hV 6 (by omega) (by omega) (by kernel_rfl))
        have e4' : vm 8 = .pointer (some ⟨B, 0, none⟩) := e4
        have e2' : vm 6 = .agg (Im.cells u.g (.slice A2 (u.g).shots.length c2) u.r) := e2
        refine gives_skip (exec_store_blk (B := B) (cs := Im.cells u.g (.slice A2 (u.g).shots.length c2) u.r) rfl ?_ ?_ hB (by rw [Im.cells_size]; exact state_info) (by rw [Im.cells_size, Im.cells_size]) (state_one rfl)) ⟨⟨B, A2, c2, by simpa [Rz.upd] using e4', hbB, hB.row _, hl.state_row rfl hB _⟩, Below.setRow' hX hbB _, fun j h1 h2 h3 h => stV_row h (by omega) e4 hB⟩
        · simp only [Rz.putAll]
          rw [Rz.put_none, Rz.put_same (by simp only [Rz.put_size, hAs]; decide)]
          exact e4'
        · simp only [Rz.putAll]
          rw [Rz.put_none, Rz.put_other (by decide), Rz.put_other (by decide), Rz.put_same (by simp only [Rz.put_size, hAs]; decide)]
          exact e2'
    · intro vm X hX hV
      obtain ⟨BX, A2, c2, e4, hbB, hBX, hl⟩ := stV_5 (hV 9 (by omega) (by omega))
      have e3 := stV_3 (hV 7 (by omega) (by omega))
      clear hV
      simp only [Nat.reduceAdd] at e4 e3
      simp only [Rz.putAll, Nat.reduceAdd, e4, e3]
      generalize vm 4 = v4
      generalize vm 5 = v5
      generalize vm 6 = v6
      generalize vm 9 = v9
      have b8 := b7.trans (hX.mono b7.size)
      have S8 := Lib.hid (S7.out.below hX S7.out.lt)
      have T8 := Lib.hid (T7.out.below hX T7.out.lt)
      have B8 := Lib.hid (B7'.out.below hX B7'.out.lt)
      have X8 := Lib.hid hBX
      have L8 := Lib.hid ((L7.out.below hX).wider hX.size)
      have M8 := Lib.hid ((M7.out.below hX).wider hX.size)
      have N8 := Lib.hid hl
      have ct := fun Y => Lib.hid (told10_any Y)
      have FU := FN.out.run RU.out
      have FVV := FN.out.run V1.out
      have fU : u.g.frame = (m : Int) := by have h := FU.2; rw [show (Fd.es log).length = m from by unfold Fd.es; rw [List.length_map]; exact HM.out.symm] at h; rw [h]; show (0 : Int) + m = m; omega
      have fV : v.g.frame = (k : Int) := by have h := FVV.2; rw [show (Fd.es (log.take k)).length = k from by unfold Fd.es; rw [List.length_map, List.length_take, ← HM.out]; omega] at h; rw [h]; show (0 : Int) + k = k; omega
      have fU' : some (Value.int .i64 u.g.frame) = some (.int .i64 (m : Int)) := by rw [fU]
      have fV' : some (Value.int .i64 v.g.frame) = some (.int .i64 (k : Int)) := by rw [fV]
      have g63 : u.g.shots.length ≤ maxLen := by have := FU.1.few; unfold maxLen; omega
      have cq1 := fun Y (hY : Below X.heap.size X Y) => Lib.hid ((refsamest_any u.g u.g u.r u.r A3 A5 u.g.shots.length u.g.shots.length c3 c5 Y rfl rfl ((L8.out.below hY).wider hY.size) ((M8.out.below hY).wider hY.size) g63 g63).mono (fun r' w' h => show r' = .returned (.bool true) ∧ Below Y.heap.size Y w' by obtain ⟨⟨vv, h1, h2⟩, h3⟩ := h; obtain rfl : vv = true := h2.2 ⟨Gm.Eq.refl u.g, rfl, fun _ _ => ⟨rfl, rfl⟩⟩; exact ⟨h1, h3⟩))
      have cq2 := fun Y (hY : Below X.heap.size X Y) => Lib.hid ((refsamest_any u.g u.g u.r u.r A2 A3 u.g.shots.length u.g.shots.length c2 c3 Y rfl rfl ((N8.out.below hY).wider hY.size) ((L8.out.below hY).wider hY.size) g63 g63).mono (fun r' w' h => show r' = .returned (.bool true) ∧ Below Y.heap.size Y w' by obtain ⟨⟨vv, h1, h2⟩, h3⟩ := h; obtain rfl : vv = true := h2.2 ⟨Gm.Eq.refl u.g, rfl, fun _ _ => ⟨rfl, rfl⟩⟩; exact ⟨h1, h3⟩))
      have K8 := Lib.hid (K1.out.trans (b8.mono K1.out.size))
      clear e4 e3 hX hBX hbB hl FU FVV
      go_wp2_with (first | ((with_reducible refine im_load_state_g ?_ rfl ?_); (focus first | rfl | (simp [Region.wanted, yielded]; done)); apply LoadIm.mk rfl; (focus first | (with_reducible exact S9.out) | (with_reducible exact T9.out) | (with_reducible exact X10.out) | (with_reducible exact S10.out)); dsimp only) | (go_at_call 11; ((with_reducible refine ((ct _).out).mono ?_); rintro x w9 ⟨rfl, k9⟩; have S9 := Lib.hid (S8.out.below k9 S8.out.lt); have T9 := Lib.hid (T8.out.below k9 T8.out.lt); have B9 := Lib.hid (B8.out.below k9 B8.out.lt); have X9 := Lib.hid (X8.out.below k9 X8.out.lt))) | (go_at_call 16; ((with_reducible refine ((cq1 _ k9).out).mono ?_); rintro x w10 ⟨rfl, h10⟩; have k10 := k9.trans (h10.mono k9.size); have S10 := Lib.hid (S9.out.below h10 S9.out.lt); have T10 := Lib.hid (T9.out.below h10 T9.out.lt); have B10 := Lib.hid (B9.out.below h10 B9.out.lt); have X10 := Lib.hid (X9.out.below h10 X9.out.lt))) | (go_at_call 16; ((with_reducible refine ((cq2 _ k10).out).mono ?_); rintro x w11 ⟨rfl, h11⟩; have k11 := k10.trans (h11.mono k10.size); have S11 := Lib.hid (S10.out.below h11 S10.out.lt); have T11 := Lib.hid (T10.out.below h11 T10.out.lt); have B11 := Lib.hid (B10.out.below h11 B10.out.lt); have X11 := Lib.hid (X10.out.below h11 X10.out.lt); have f1 := (S11.out.cell 0).trans ((st_frame _ _ _).trans fU'); have f2 := (B11.out.cell 0).trans ((st_frame _ _ _).trans fV'); have K11 := Lib.hid (K8.out.trans (k11.mono K8.out.size)))))
      go_ret
      exact ⟨ret_bool (by simp), K11.out⟩
end Go.Proofs.YtiahpncglpfjeaaGreat
namespace Go.Proofs.YtiahpncglpfjeaaGreat
open Go Go.RowKit Go.Shelf
set_option linter.unusedVariables false
set_option linter.unusedSimpArgs false

set_option maxRecDepth 100000 in
set_option maxHeartbeats 1000000 in
theorem runs10_law (seed : ByteArray) (l : List Fd.Turn) (A : Option Addr) (n c : Nat) (cut : Int) (w : World) (hsz : seed.size ≤ maxLen) (hn : n = l.length) (hn63 : n ≤ maxLen) (hl : Lies w w.heap.size 25 A n (l.flatMap Fd.Turn.cells)) (hty : ∀ q ∈ l, q.ty) :
    Calls Tryz.prog 4 #[.string seed, .slice A n c, .int .i64 cut] w fun e w' => e = .returned (.bool true) ∧ Below w.heap.size w w' := by
  by_cases h20 : seed.size ≤ 20
  · by_cases h100 : n ≤ 100
    · exact runs10_main seed l A n c cut w h20 hn h100 hl hty
    · have hs : (seed.size : Int) ≤ 20 := by omega
      have hn1 : ¬ (n : Int) ≤ 100 := by omega
      have ct := fun X => Lib.hid (told10_any X)
      clear hl hty hn hsz hn63
      go_enter Tryz.func4, Tryz.ntmps4
      go_wp2_with (go_at_call 11; ((with_reducible refine ((ct _).out).mono ?_); rintro e w1 ⟨rfl, hb⟩))
      go_ret
      exact ⟨rfl, hb⟩
  · have hs : ¬ (seed.size : Int) ≤ 20 := by omega
    have ct := fun X => Lib.hid (told10_any X)
    clear hl hty hn hsz hn63
    go_enter Tryz.func4, Tryz.ntmps4
    go_wp2_with (go_at_call 11; ((with_reducible refine ((ct _).out).mono ?_); rintro e w1 ⟨rfl, hb⟩))
    go_ret
    exact ⟨rfl, hb⟩
end Go.Proofs.YtiahpncglpfjeaaGreat
