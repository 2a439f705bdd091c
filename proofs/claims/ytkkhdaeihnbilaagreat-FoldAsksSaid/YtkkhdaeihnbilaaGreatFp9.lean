/-
Several texts in one: Sh Sj Si Sk I3 I4.
-/
import Derived.Test.YtkkhdaeihnbilaaGreatFp8
namespace Go.Proofs.YtkkhdaeihnbilaaGreat
open Go.RowKit Go.Shelf
set_option linter.unusedVariables false
set_option linter.unusedSimpArgs false


namespace Fd
def es (l : List En.S) : List En.E := l.map (·.e)
theorem es_at (l : List En.S) (k : Nat) (h : k < (es l).length) (h' : k < l.length) : (es l)[k] = l[k].e := List.getElem_map _
theorem run_snoc (s : S) (l : List En.E) (k : Nat) (hk : k < l.length) : run s (l.take (k + 1)) = (run s (l.take k)).bind fun t => Fd.apply t l[k] := by
  rw [List.take_succ_eq_append_getElem hk, run_append]
  congr 1
  funext t
  exact run_one t _
theorem run_go {s t u : S} {l : List En.E} {k : Nat} (hk : k < l.length) (h : run s (l.take k) = some t) (hv : Fd.apply t l[k] = some u) : run s (l.take (k + 1)) = some u := by
  rw [run_snoc s l k hk, h, Option.bind_some, hv]
theorem run_stop {s t : S} {l : List En.E} {k : Nat} (hk : k < l.length) (h : run s (l.take k) = some t) (hv : Fd.apply t l[k] = none) : run s l = none := by
  rw [← List.take_append_drop k l, run_append, h, Option.bind_some, List.drop_eq_getElem_cons hk, run_cons, hv]
  rfl
theorem Fine.ty {s : S} (h : Fine s) : Gm.ty s.g := ⟨by have := h.ok.1.1; have := h.ok.1.2.1; unfold Gm.i64; omega, h.dice, fun i hi => (h.ok.1.2.2.2.1 i hi).ty, fun i hi => (h.ok.1.2.2.2.2 i hi).ty⟩
theorem Fine.few {s : S} (h : Fine s) : s.g.shots.length ≤ 60 := by have := h.ok.1.2.2.1; omega
end Fd
/-- What lies there while a log is done. -/
structure Rn (w : World) (Bn : Nat) (g : Gm.G) (s : Value) (r : Ros.R) (W : World) : Prop where
  nx : Box W Bn 35 (Im.cells g s r)
  out : Box W w.heap.size 35 Im.zero
  far : w.heap.size < Bn
  below : Below w.heap.size w W
section
variable {w W W' : World} {Bn : Nat} {g : Gm.G} {s : Value} {r : Ros.R}
theorem Rn.call (h : Rn w Bn g s r W) (hb : Below W.heap.size W W') : Rn w Bn g s r W' :=
  ⟨h.nx.below hb h.nx.lt, h.out.below hb h.out.lt, h.far, h.below.trans (hb.mono h.below.size)⟩
theorem Rn.alloc (h : Rn w Bn g s r W) (o : Obj) : Rn w Bn g s r (W.alloc o) := h.call (one_below W o)
theorem Rn.store {g' : Gm.G} {s' : Value} {r' : Ros.R} (h : Rn w Bn g s r W) : Rn w Bn g' s' r' (W.setRow Bn (Im.cells g' s' r')) :=
  ⟨h.nx.row _, h.out.row_far (by have := h.far; omega) _, h.far, Below.setRow' h.below (Nat.le_of_lt h.far) _⟩
end
theorem im_store_new {ops : Array Oper} {Q : Exit → Act → World → Prop} {o : Oper} {rest : List Oper} {a : Act} {x y : Operand} {v : World} {old : Array Value} {g : Gm.G} {s : Value} {r : Ros.R} (hgd : o.guard = none) (ho : o.op = .store 35 x y) (hx : a.eval x = .pointer (some ⟨v.heap.size, 0, none⟩)) (hy : a.eval y = .agg (Im.cells g s r))
    (hold : old.size = 76) (hs : s.oneCell' = true) (h : wpList Tryz.prog ops Q rest (a.put o.dst undef) (v.alloc (.cells (Im.cells g s r) 35))) : wpList Tryz.prog ops Q (o :: rest) a (v.alloc (.cells old 35)) :=
  wpList_store_new hgd ho hx hy rfl rfl (by rw [Im.cells_size]; exact state_info) (by rw [Im.cells_size]; exact hold) (im_one _ _ _ hs) h
def Logged (s : Fd.S) (l : List En.S) (w : World) (r : Ending) (w' : World) : Prop :=
  (∃ u, Fd.run s (Fd.es l) = some u ∧ SOne u.g u.r w r w') ∨ (Fd.run s (Fd.es l) = none ∧ Thrown 1 w r w')
theorem logged_is {s u : Fd.S} {l : List En.S} {w w' : World} {r : Ending} (h : Fd.run s (Fd.es l) = some u) (hB : Logged s l w r w') : SOne u.g u.r w r w' := by
  unfold Logged at hB
  rw [h] at hB
  rcases hB with ⟨v, hv, h2⟩ | ⟨hno, _⟩
  · obtain rfl : u = v := Option.some.inj hv
    exact h2
  · cases hno
set_option maxRecDepth 100000 in
set_option maxHeartbeats 4000000 in
theorem run1_any (s : Fd.S) (l : List En.S) (A AL : Option Addr) (n c m cl Bs Bl : Nat) (w : World) (hs : Fd.Fine s) (hn : n = s.g.shots.length) (hr : Lies w w.heap.size 6 A n (Gm.shotCells s.g.shots)) (hm63 : m ≤ maxLen) (hl : LiesS w w.heap.size AL m l) (hin : ∀ q ∈ l, ∀ i, i < 8 → Gm.tyIn (q.e.inp i))
    (hB : Box w Bs 35 (Im.cells s.g (.slice A n c) s.r)) (hBl : Box w Bl 52 #[.slice AL m cl]) :
    Calls Tryz.prog 41 #[.pointer (some ⟨Bs, 0, none⟩), .pointer (some ⟨Bl, 0, none⟩)] w (Logged s l w) := by
  have N0 := Lib.hid (Box.made w 35 Im.zero)
  have K0 := Lib.hid (one_below w (.cells Im.zero 35))
  have B1 := Lib.hid (hB.alloc (.cells Im.zero 35))
  have L1 := Lib.hid (hBl.alloc (.cells Im.zero 35))
  have co := Lib.hid (foldown_any s.g s.r A n c _ (by rw [hn]; exact hs.few) hn (hr.call K0.out))
  have HS := Lib.hid hs
  have HL := Lib.hid hl
  have HI := Lib.hid hin
  have HM := Lib.hid (show m = l.length from hl.len.symm)
  have m63 : (m : Int) ≤ 9223372036854775807 := by unfold maxLen at hm63; omega
  clear hs hr hn hm63 hl hin hB hBl
  go_enter Tryz.func41, Tryz.ntmps41
  go_upto_region 2 with (first | (with_reducible refine alloc_state rfl rfl ?_) | ((with_reducible refine im_load_state rfl rfl ?_); apply LoadIm.mk rfl; (focus (with_reducible exact B1.out)); dsimp only) | (go_at_call 42; ((with_reducible refine ((co).out).mono ?_); rintro x w1 ⟨A1, c1, rfl, hL, hb⟩; have R1 := Lib.hid (show Rn w w1.heap.size s.g (.slice A1 s.g.shots.length c1) s.r (w1.alloc (.cells (Im.cells s.g (.slice A1 s.g.shots.length c1) s.r) 35)) from ⟨Box.made _ _ _, (N0.out.below hb N0.out.lt).alloc _, Nat.lt_of_lt_of_le N0.out.lt hb.size, ((K0.out.trans (hb.mono K0.out.size))).alloc (Nat.le_trans K0.out.size hb.size) _⟩); have LL := Lib.hid (hL.call (one_below w1 (.cells (Im.cells s.g (.slice A1 s.g.shots.length c1) s.r) 35))); have L2 := (((L1.out.below hb L1.out.lt)).alloc (.cells (Im.cells s.g (.slice A1 s.g.shots.length c1) s.r) 35)).cell 0; clear hb hL)) | (with_reducible refine im_store_new rfl rfl rfl rfl Im.zero_size rfl ?_))
  generalize hBn : w1.heap.size = Bn at R1
  go_wp2
  go_loopw [10] (fun i wr => ∃ (k : Nat) (t : Fd.S) (A' : Option Addr) (c' : Nat), k ≤ m ∧ i = .int .i64 k ∧ Fd.run s ((Fd.es l).take k) = some t ∧ Rn w Bn t.g (.slice A' t.g.shots.length c') t.r wr ∧ Lies wr wr.heap.size 6 A' t.g.shots.length (Gm.shotCells t.g.shots)) (fun i _ => m - (intOf i).toNat)
  case atStart => exact ⟨0, s, A1, c1, Nat.zero_le _, rfl, rfl, R1.out, LL.out⟩
  case round =>
    obtain ⟨k, t, A', c', hk, rfl, hch, hR, hL⟩ := hrel
    clear R1 LL L2 N0 K0 B1 L1 co
    by_cases hlt : k < m
    · have hk8 : (k : Int) < m := by omega
      have hkl : k < l.length := by have := HM.out; omega
      have hke : k < (Fd.es l).length := by unfold Fd.es; rw [List.length_map]; exact hkl
      have hge : (Fd.es l)[k] = l[k].e := Fd.es_at l k hke hkl
      have hb := hR.below
      obtain ⟨ad, rfl, hbl, a0⟩ := (HL.out.below hb).at k hkl
      have he1 := (HL.out.below hb).each l[k] (List.getElem_mem hkl)
      have hf1 := HL.out.few l[k] (List.getElem_mem hkl)
      have hty := HI.out l[k] (List.getElem_mem hkl)
      have hft := (HS.out.run hch).1
      have hgo := fun (u : Fd.S) (h : Fd.apply t l[k].e = some u) => Fd.run_go hke hch (hge ▸ h)
      have hst := fun (h : Fd.apply t l[k].e = none) => Fd.run_stop hke hch (hge ▸ h)
      generalize l[k] = u at a0 he1 hf1 hty hgo hst
      have sz := hb.size
      have LA := Lib.hid a0
      have ltA : (ad.add (k * 26)).block < wr.heap.size := by rw [add_block]; exact Nat.lt_of_lt_of_le hbl sz
      have ltP : Bn < wr.heap.size := hR.nx.lt
      have P1 := Lib.hid (Box.made wr 42 (En.cells u.e u.sl))
      have R2 := Lib.hid (hR.alloc (.cells (En.cells u.e u.sl) 42))
      have L2 := Lib.hid (hL.call (one_below wr (.cells (En.cells u.e u.sl) 42)))
      have E2 := Lib.hid ((he1.wider sz).below (one_below wr (.cells (En.cells u.e u.sl) 42)) |>.wider (one_below wr (.cells (En.cells u.e u.sl) 42)).size)
      cases hap : Fd.apply t u.e with
      | none =>
        have cb := Lib.hid (show Calls Tryz.prog 29 #[.agg (Im.cells t.g (.slice A' t.g.shots.length c') t.r), .agg (En.cells u.e u.sl)] (wr.alloc (.cells (En.cells u.e u.sl) 42)) (Thrown 1 (wr.alloc (.cells (En.cells u.e u.sl) 42))) from behind_none t u.e A' u.adr t.g.shots.length c' u.e.evs.length u.cap _ hft.ty hft.few rfl L2.out rfl hf1 E2.out hty hap)
        have HN := Lib.hid (hst hap)
        clear hgo hst hap hft hty hf1 he1 a0 hch hR hL hb hge
        go_wp2_with (first | (with_reducible refine alloc_en rfl rfl ?_) | ((with_reducible refine load_at_gate rfl rfl Tryz.underlying42 rfl en_info26 ?_); (apply LoadAt.mk rfl LA.out (En.S.cells_len _); rw [En.S.cells_arr])) | (with_reducible refine en_store_new rfl rfl rfl rfl En.zeroC_size rfl ?_) | ((with_reducible refine en_load rfl rfl ?_); apply LoadEn.mk rfl; (focus (with_reducible exact P1.out)); dsimp only) | ((with_reducible refine im_load_state rfl rfl ?_); apply LoadIm.mk rfl; (focus (with_reducible exact R2.out.nx)); dsimp only) | (go_at_call 29; ((with_reducible refine ((cb).out).mono ?_); rintro x w5 ⟨rfl, hb⟩; have K5 := Lib.hid (R2.out.below.trans (hb.mono R2.out.below.size)); clear hb)))
        exact ⟨rfl, .inr ⟨HN.out, rfl, K5.out⟩⟩
      | some v =>
        have cb := Lib.hid (show Calls Tryz.prog 29 #[.agg (Im.cells t.g (.slice A' t.g.shots.length c') t.r), .agg (En.cells u.e u.sl)] (wr.alloc (.cells (En.cells u.e u.sl) 42)) (SOne v.g v.r (wr.alloc (.cells (En.cells u.e u.sl) 42))) from behind_some t v u.e A' u.adr t.g.shots.length c' u.e.evs.length u.cap _ hft.ty hft.few rfl L2.out rfl hf1 E2.out hty hap)
        have HG := Lib.hid (hgo v hap)
        clear hgo hst hap hft hty hf1 he1 a0 hch hR hL hb hge
        go_wp2_with (first | (with_reducible refine alloc_en rfl rfl ?_) | ((with_reducible refine load_at_gate rfl rfl Tryz.underlying42 rfl en_info26 ?_); (apply LoadAt.mk rfl LA.out (En.S.cells_len _); rw [En.S.cells_arr])) | (with_reducible refine en_store_new rfl rfl rfl rfl En.zeroC_size rfl ?_) | ((with_reducible refine en_load rfl rfl ?_); apply LoadEn.mk rfl; (focus (with_reducible exact P1.out)); dsimp only) | ((with_reducible refine im_load_state rfl rfl ?_); apply LoadIm.mk rfl; (focus (with_reducible exact R2.out.nx)); dsimp only) | (go_at_call 29; ((with_reducible refine ((cb).out).mono ?_); rintro x w5 ⟨A5, c5, rfl, hL5, hb⟩; have R5 := Lib.hid (R2.out.call hb); have R6 := Lib.hid (R5.out.store (g' := v.g) (s' := .slice A5 v.g.shots.length c5) (r' := v.r)); have L6 := Lib.hid (hL5.state_row rfl R5.out.nx (Im.cells v.g (.slice A5 v.g.shots.length c5) v.r)); clear hb hL5)) | ((with_reducible refine im_store_state rfl rfl ?_); apply StoreS.mk rfl rfl; (focus (with_reducible exact R5.out.nx)); (focus (exact Im.cells_size _ _ _)); (focus rfl)))
        go_roundw
        case rel => exact ⟨k + 1, v, A5, c5, by omega, by go_num, HG.out, R6.out, L6.out⟩
        case measure => simp [intOf]; omega
    · have hk8 : ¬ (k : Int) < m := by omega
      obtain rfl : k = m := by omega
      have hlen : (Fd.es l).length = k := by unfold Fd.es; rw [List.length_map]; exact HM.out.symm
      have hfull : (Fd.es l).take k = Fd.es l := List.take_of_length_le (by omega)
      rw [hfull] at hch
      have HC := Lib.hid hch
      have R2 := Lib.hid hR
      have L2 := Lib.hid hL
      clear hch hR hL hlen hfull
      go_wp2_with (first | ((with_reducible refine im_load_state rfl rfl ?_); apply LoadIm.mk rfl; (focus (with_reducible exact R2.out.nx)); dsimp only) | ((with_reducible refine im_store_state rfl rfl ?_); apply StoreS.mk rfl rfl; (focus (with_reducible exact R2.out.out)); (focus (exact Im.zero_size)); (focus rfl)))
      refine bodyPost_ret (v := .agg (Im.cells t.g (.slice A' t.g.shots.length c') t.r)) ?_ ?_ ?_
      · exact results_cell_row rfl _ _ _ _ (Im.cells t.g (.slice A' t.g.shots.length c') t.r) (0, 0) _ rfl (R2.out.out.row _).is Tryz.underlying35 rfl (by rw [Im.cells_size]; exact state_info)
      · rfl
      · exact .inl ⟨t, HC.out, A', c', rfl, L2.out.zero_row rfl R2.out.out _, Below.setRow' R2.out.below (Nat.le_refl _) _⟩

set_option maxRecDepth 100000 in
set_option maxHeartbeats 1000000 in
theorem attempt_run_some (g g' : Gm.G) (r r' : Ros.R) (A : Option Addr) (n c Bs Be : Nat) (w : World) (hcall : ∀ W, Below w.heap.size w W → Calls Tryz.prog 41 #[.pointer (some ⟨Bs, 0, none⟩), .pointer (some ⟨Be, 0, none⟩)] W (SOne g' r' W)) :
    Calls Tryz.prog 27 #[.agg (Im.cells g (.slice A n c) r), .func (.func 41) #[] #[.pointer (some ⟨Bs, 0, none⟩), .pointer (some ⟨Be, 0, none⟩)]] w (SOut g' r' 0 w) := by
  have hmf : ∀ (fn : Fn) (first cap : Array Value) (w : World), (Instr.makeFunc fn first cap).run Tryz.prog w = .ok (.func fn first cap) w := fun _ _ _ _ => rfl
  have S1 := Lib.hid (((Box.made w 35 (Im.cells g (.slice A n c) r)).alloc (.cells Im.zero 35)).alloc (.cells #[.int .i64 0] 3))
  have N1 := Lib.hid ((Box.made_at (n := w.heap.size + 1) (w.alloc (.cells (Im.cells g (.slice A n c) r) 35)) 35 Im.zero (by simp)).alloc (.cells #[.int .i64 0] 3))
  have C1 := Lib.hid (Box.made_at (n := w.heap.size + 1 + 1) ((w.alloc (.cells (Im.cells g (.slice A n c) r) 35)).alloc (.cells Im.zero 35)) 3 #[.int .i64 0] (by simp))
  have K1 := Lib.hid ((two_below' w (.cells (Im.cells g (.slice A n c) r) 35) (.cells Im.zero 35)).alloc (by simp <;> omega) (.cells #[.int .i64 0] 3))
  have cl := Lib.hid (hcall _ K1.out)
  clear hcall
  go_enter_defers Tryz.func27, Tryz.ntmps27
  go_wp2_with (first | (with_reducible refine alloc_state rfl rfl ?_) | (go_at_call 41; ((with_reducible refine ((cl).out).mono ?_); rintro x w2 ⟨A1, c1, rfl, hL, hb⟩; have N2 := Lib.hid (N1.out.below hb N1.out.lt); have C2 := C1.out.below hb C1.out.lt; have C3 := Lib.hid (C2.row_far (show w.heap.size + 1 + 1 ≠ w.heap.size + 1 by omega) (Im.cells g' (.slice A1 g'.shots.length c1) r')); have k3 := C3.out.cell 0; have f3 := C3.out.free 0; have K2 := Lib.hid (K1.out.trans (hb.mono K1.out.size)); have L2 := Lib.hid hL; clear hb hL C2)) | ((with_reducible refine im_store_state rfl rfl ?_); apply StoreS.mk rfl rfl; (focus (with_reducible exact N2.out)); (focus (exact Im.zero_size)); (focus rfl)))
  have ne : w.heap.size + 1 ≠ w.heap.size + 1 + 1 := by omega
  have N4 := (N2.out.row (Im.cells g' (.slice A1 g'.shots.length c1) r')).far (p := ⟨w.heap.size + 1 + 1, 0, none⟩) ne (.int .i64 0)
  have C4 := C3.out.put 0 (.int .i64 0)
  have K4 := (Below.setRow' (g := w.heap.size + 1) K2.out (Nat.le_succ _) (Im.cells g' (.slice A1 g'.shots.length c1) r')).setCell (p := ⟨w.heap.size + 1 + 1, 0, none⟩) (by show w.heap.size ≤ w.heap.size + 1 + 1; omega) (.int .i64 0)
  have L4 := (L2.out.zero_row rfl N2.out (Im.cells g' (.slice A1 g'.shots.length c1) r')).int_cell rfl C3.out (.int .i64 0)
  refine leaves_cons (f := 56) (args := #[.pointer (some ⟨w.heap.size, 0, none⟩), .pointer (some ⟨w.heap.size + 1, 0, none⟩), .pointer (some ⟨w.heap.size + 1 + 1, 0, none⟩)]) (by simp) (by simp [go_sem]) ?_
  refine (catch_idle_fold _ _ _ _).mono ?_
  rintro e u' w'' ⟨rfl, rfl, rfl⟩
  have hr := fun (tmps : Array Value) h1 h2 => results_cells2 (fn := Tryz.f27) (p := 4) (q := 5) rfl tmps _ (w.heap.size + 1) (w.heap.size + 1 + 1) 35 (Im.cells g' (.slice A1 g'.shots.length c1) r') _ 0 h1 h2 N4 (by simpa using C4) Tryz.underlying35 rfl (by rw [Im.cells_size]; exact state_info)
  show Leaves Tryz.prog _ _ _ [] .returning _
  exact ⟨_, hr _ rfl rfl, A1, c1, rfl, L4, K4⟩

set_option maxHeartbeats 1000000 in
theorem foldrun_some (u : Fd.S) (s : Fd.S) (l : List En.S) (A AL : Option Addr) (n c m cl : Nat) (w : World) (hs : Fd.Fine s) (hn : n = s.g.shots.length) (hr : Lies w w.heap.size 6 A n (Gm.shotCells s.g.shots)) (hm63 : m ≤ maxLen) (hl : LiesS w w.heap.size AL m l) (hin : ∀ q ∈ l, ∀ i, i < 8 → Gm.tyIn (q.e.inp i)) (h : Fd.run s (Fd.es l) = some u) :
    Calls Tryz.prog 19 #[.agg (Im.cells s.g (.slice A n c) s.r), .slice AL m cl] w (SOut u.g u.r 0 w) := by
  have hmf : ∀ (fn : Fn) (first cap : Array Value) (w : World), (Instr.makeFunc fn first cap).run Tryz.prog w = .ok (.func fn first cap) w := fun _ _ _ _ => rfl
  have S1 := Lib.hid (((Box.made w 35 (Im.cells s.g (.slice A n c) s.r)).alloc (.cells #[.slice AL m cl] 52)).alloc (.cells Im.zero 35))
  have E1 := Lib.hid ((Box.made_at (n := w.heap.size + 1) (w.alloc (.cells (Im.cells s.g (.slice A n c) s.r) 35)) 52 #[.slice AL m cl] (by simp)).alloc (.cells Im.zero 35))
  have N1 := Lib.hid (Box.made_at (n := w.heap.size + 1 + 1) ((w.alloc (.cells (Im.cells s.g (.slice A n c) s.r) 35)).alloc (.cells #[.slice AL m cl] 52)) 35 Im.zero (by simp))
  have K1 := Lib.hid ((two_below' w (.cells (Im.cells s.g (.slice A n c) s.r) 35) (.cells #[.slice AL m cl] 52)).alloc (by simp <;> omega) (.cells Im.zero 35))
  have L1 := Lib.hid ((hr.below K1.out).wider K1.out.size)
  have LL := Lib.hid ((hl.below K1.out).wider K1.out.size)
  have ca := Lib.hid (attempt_run_some s.g u.g s.r u.r A n c w.heap.size (w.heap.size + 1) _ (fun W hW => (run1_any s l A AL n c m cl w.heap.size (w.heap.size + 1) W hs hn ((L1.out.below hW).wider hW.size) hm63 ((LL.out.below hW).wider hW.size) hin (S1.out.below hW S1.out.lt) (E1.out.below hW E1.out.lt)).mono fun r w' hB => logged_is h hB))
  clear hs hr hl hn hm63 hin h
  go_enter Tryz.func19, Tryz.ntmps19
  go_wp2_with (first | (with_reducible refine alloc_state rfl rfl ?_) | ((with_reducible refine im_load_state rfl rfl ?_); apply LoadIm.mk rfl; (focus (with_reducible exact S1.out)); dsimp only) | (go_at_call 27; ((with_reducible refine ((ca).out).mono ?_); rintro x w2 ⟨A1, c1, rfl, hL, hb⟩; have N2 := Lib.hid (N1.out.below hb N1.out.lt); have K2 := Lib.hid (K1.out.trans (hb.mono K1.out.size)); have L2 := Lib.hid hL; clear hb hL)) | ((with_reducible refine im_store_state rfl rfl ?_); apply StoreS.mk rfl rfl; (focus (with_reducible exact N2.out)); (focus (exact Im.zero_size)); (focus rfl)))
  refine bodyPost_ret (v := .tuple #[.agg (Im.cells u.g (.slice A1 u.g.shots.length c1) u.r), .int .i64 0]) ?_ ?_ ?_
  · exact results_cell_tmp (p := 4) (q := 5) rfl _ _ _ _ (Im.cells u.g (.slice A1 u.g.shots.length c1) u.r) _ rfl (Box.row N2.out _) Tryz.underlying35 rfl (by rw [Im.cells_size]; exact state_info)
  · rfl
  · exact ⟨A1, c1, rfl, L2.out.zero_row rfl N2.out _, Below.setRow' K2.out (by omega) _⟩

end Go.Proofs.YtkkhdaeihnbilaaGreat
namespace Go.Proofs.YtkkhdaeihnbilaaGreat
open Go.RowKit Go.Shelf
set_option linter.unusedVariables false
set_option linter.unusedSimpArgs false
namespace Fd
def evJ (k : Nat) (p : Int) : En.Ev := ⟨1, k, 1, p⟩
def evL (k : Nat) (p : Int) : En.Ev := ⟨2, k, 1, p⟩
def in0 : Nat → Gm.In := fun _ => ⟨0, 0, 0⟩
/-- Behind a Join at frame 0. -/
def joined (d : Int) (k : Nat) (p : Int) (ps : Nat → Gm.In) : S := ⟨Gm.step ps (Gm.spawn (Gm.new d) k), Ros.take Ros.new k p⟩
def left (d : Int) (k : Nat) (p : Int) (ps : Nat → Gm.In) : S := ⟨Gm.step in0 (Gm.remove (joined d k p ps).g k), Ros.give (Ros.take Ros.new k p) k⟩
theorem new_ok : Ros.Ok Ros.new := by decide +kernel
theorem take_may {k : Nat} {p : Int} (hk : k < 8) (hp : 0 ≤ p ∧ p < 12) : Ros.MayTake Ros.new k p := by
  refine ⟨⟨⟨⟨new_ok, by show (0 : Int) < 1073741824; decide⟩, by omega, by omega⟩, hp, ?_⟩, rfl, by show (0 : Int) ≠ 60000; decide⟩
  unfold Ros.of
  rw [if_pos ⟨new_ok, hp.1, hp.2⟩]
  refine Ros.seatOf_none fun y hy => ?_
  show (-1 : Int) ≠ p
  omega
theorem row_one {v : En.Ev} (h : En.evOk v) : En.Row (-1) [v] := ⟨⟨h, by have := (En.place_lt h).1; omega⟩, trivial⟩
theorem row_nil : En.Row (-1) [] := trivial
theorem zero_ok {p : Gm.In} (h : En.zero p = true) : En.inOk p := by
  rw [En.zero_is h]; unfold En.inOk; dsimp only; omega
/-- An input of a slot that nobody has is no entry. -/
theorem start_busy {d : Int} {k : Nat} {ps : Nat → Gm.In} (hk : k < 8) (hz : En.zero (ps k) = false) (fr : Int) (l : List En.Ev) (hl : l = []) : apply (start d) ⟨fr, l, ps⟩ = none := by
  subst hl
  by_cases hm : May (start d) ⟨fr, [], ps⟩
  · exact apply_idle hm (changes_nil _) (fun hi => by have := hi k hk (by show (-1 : Int) < 0; decide); rw [hz] at this; cases this)
  · exact apply_no hm
section
variable {d : Int} {k : Nat} {p : Int} {ps : Nat → Gm.In}
theorem join_change (hk : k < 8) (hp : 0 ≤ p ∧ p < 12) : changes (start d) [evJ k p] = some ⟨Gm.spawn (Gm.new d) k, Ros.take Ros.new k p⟩ := by
  have hv : MayEv (start d) (evJ k p) := .inl ⟨rfl, take_may hk hp, rfl⟩
  rw [changes_one, change_yes hv]
  rfl
theorem join_one (hd : 0 ≤ d ∧ d ≤ 18446744073709551615) (hk : k < 8) (hp : 0 ≤ p ∧ p < 12) (hin : ∀ i, i < 8 → En.inOk (ps i)) (hz : ∀ i, i < 8 → i ≠ k → En.zero (ps i) = true) : apply (start d) ⟨0, [evJ k p], ps⟩ = some (joined d k p ps) := by
  have hm : May (start d) ⟨0, [evJ k p], ps⟩ := ⟨(start_fine hd).ok, ⟨by dsimp only; omega, row_one ⟨.inr rfl, by show 0 ≤ (k : Int) ∧ (k : Int) < 8; omega, by show 1 ≤ (1 : Int) ∧ (1 : Int) ≤ 60000; decide, hp⟩, hin⟩, rfl⟩
  rw [apply_done hm (join_change hk hp) (fun i hi hn => ?_)]
  · rfl
  · by_cases e : i = k
    · subst e
      have : Ros.upd Ros.new.peer i p i < 0 := hn
      rw [Ros.upd_same] at this
      omega
    · exact hz i hi e
/-- With another one's input there is no entry. -/
theorem join_busy (hk : k < 8) (hp : 0 ≤ p ∧ p < 12) {j : Nat} (hj : j < 8) (hjk : j ≠ k) (hz : En.zero (ps j) = false) : apply (start d) ⟨0, [evJ k p], ps⟩ = none := by
  by_cases hm : May (start d) ⟨0, [evJ k p], ps⟩
  · exact apply_idle hm (join_change hk hp) (fun hi => by
      have := hi j hj (by show Ros.upd Ros.new.peer k p j < 0; rw [Ros.upd_other _ _ hjk]; show (-1 : Int) < 0; decide)
      rw [hz] at this; cases this)
  · exact apply_no hm
theorem joined_fine (hd : 0 ≤ d ∧ d ≤ 18446744073709551615) (hk : k < 8) (hp : 0 ≤ p ∧ p < 12) : Fine (joined d k p ps) ∧ (joined d k p ps).g.frame = 1 ∧ ((joined d k p ps).g.ship k).on = true := by
  have h1 := ((start_fine hd).changes (join_change hk hp)).1
  obtain ⟨h2, h3⟩ := h1.step ps (by show (0 : Int) < 1048576; decide)
  refine ⟨h2, h3.trans rfl, ?_⟩
  refine Eq.trans (h2.ok.2.2 k hk) (decide_eq_true ?_)
  show 0 ≤ Ros.upd Ros.new.peer k p k
  rw [Ros.upd_same]; exact hp.1
theorem joined_peer : (joined d k p ps).r.peer k = p := Ros.upd_same _ _ _
theorem joined_gen : (joined d k p ps).r.gen k = 1 := (Ros.upd_same _ _ _).trans rfl
/-- An entry of another frame makes nothing. -/
theorem joined_late (hd : 0 ≤ d ∧ d ≤ 18446744073709551615) (hk : k < 8) (hp : 0 ≤ p ∧ p < 12) {e : En.E} (he : e.frame = 0) : apply (joined d k p ps) e = none :=
  apply_no fun h => by have := h.2.2; rw [(joined_fine hd hk hp).2.1, he] at this; cases this
theorem leave_change (hd : 0 ≤ d ∧ d ≤ 18446744073709551615) (hk : k < 8) (hp : 0 ≤ p ∧ p < 12) : changes (joined d k p ps) [evL k p] = some ⟨Gm.remove (joined d k p ps).g k, Ros.give (Ros.take Ros.new k p) k⟩ := by
  have hf := joined_fine (ps := ps) hd hk hp
  have hv : MayEv (joined d k p ps) (evL k p) := .inr ⟨rfl, ⟨⟨⟨hf.1.ok.2.1, by show (0 : Int) + 1 < 1073741824; decide⟩, by show (0 : Int) ≤ k; omega, by show (k : Int) < 8; omega⟩, by show (joined d k p ps).r.peer k ≠ -1; rw [joined_peer]; omega⟩, joined_peer, joined_gen⟩
  rw [changes_one, change_yes hv]
  rfl
theorem give_peer (j : Nat) : (Ros.give (Ros.take Ros.new k p) k).peer j = -1 := by
  show Ros.upd (Ros.upd Ros.new.peer k p) k (-1) j = -1
  by_cases e : j = k
  · rw [e, Ros.upd_same]
  · rw [Ros.upd_other _ _ e, Ros.upd_other _ _ e]; rfl
theorem leave_one (hd : 0 ≤ d ∧ d ≤ 18446744073709551615) (hk : k < 8) (hp : 0 ≤ p ∧ p < 12) : apply (joined d k p ps) ⟨1, [evL k p], in0⟩ = some (left d k p ps) := by
  have hf := joined_fine (ps := ps) hd hk hp
  have hm : May (joined d k p ps) ⟨1, [evL k p], in0⟩ := ⟨hf.1.ok, ⟨by show 0 ≤ (1 : Int) ∧ (1 : Int) < 1048576; decide, row_one ⟨.inl rfl, by show 0 ≤ (k : Int) ∧ (k : Int) < 8; omega, by show 1 ≤ (1 : Int) ∧ (1 : Int) ≤ 60000; decide, hp⟩, fun i hi => zero_ok rfl⟩, hf.2.1.symm⟩
  rw [apply_done hm (leave_change hd hk hp) (fun i hi hn => rfl)]
  rfl
theorem leave_busy (hd : 0 ≤ d ∧ d ≤ 18446744073709551615) (hk : k < 8) (hp : 0 ≤ p ∧ p < 12) {qs : Nat → Gm.In} {j : Nat} (hj : j < 8) (hz : En.zero (qs j) = false) : apply (joined d k p ps) ⟨1, [evL k p], qs⟩ = none := by
  by_cases hm : May (joined d k p ps) ⟨1, [evL k p], qs⟩
  · exact apply_idle hm (leave_change hd hk hp) (fun hi => by
      have := hi j hj (by show (Ros.give (Ros.take Ros.new k p) k).peer j < 0; rw [give_peer]; decide)
      rw [hz] at this; cases this)
  · exact apply_no hm
theorem left_fine (hd : 0 ≤ d ∧ d ≤ 18446744073709551615) (hk : k < 8) (hp : 0 ≤ p ∧ p < 12) : Fine (left d k p ps) ∧ ((left d k p ps).g.ship k).on = false ∧ (left d k p ps).r.peer k = -1 ∧ (left d k p ps).r.gen k = 1 := by
  have h := (joined_fine (ps := ps) hd hk hp).1.apply (leave_one hd hk hp)
  refine ⟨h.1, ?_, give_peer k, joined_gen (d := d) (p := p) (ps := ps)⟩
  refine Eq.trans (h.1.ok.2.2 k hk) (decide_eq_false ?_)
  show ¬ 0 ≤ (Ros.give (Ros.take Ros.new k p) k).peer k
  rw [give_peer]; decide
end
/-- Two frames in which nothing is done. -/
def idle1 (d : Int) : S := ⟨Gm.step in0 (Gm.new d), Ros.new⟩
def idle2 (d : Int) : S := ⟨Gm.step in0 (idle1 d).g, Ros.new⟩
theorem idle_step {s : S} (hs : Fine s) (fr : Int) (hfr : fr = s.g.frame) (h0 : 0 ≤ fr ∧ fr < 1048576) : apply s ⟨fr, [], in0⟩ = some ⟨Gm.step in0 s.g, s.r⟩ := by
  have hm : May s ⟨fr, [], in0⟩ := ⟨hs.ok, ⟨h0, row_nil, fun i hi => zero_ok rfl⟩, hfr⟩
  rw [apply_done hm (changes_nil _) (fun i hi hn => rfl)]
theorem idle_run {d : Int} (hd : 0 ≤ d ∧ d ≤ 18446744073709551615) : run (start d) [⟨0, [], in0⟩, ⟨1, [], in0⟩] = some (idle2 d) ∧ (idle2 d).g.frame = 2 := by
  have h1 := (start_fine hd).step in0 (by show (0 : Int) < 1048576; decide)
  have e1 : apply (start d) ⟨0, [], in0⟩ = some (idle1 d) := idle_step (start_fine hd) 0 rfl (by decide)
  have e2 : apply (idle1 d) ⟨1, [], in0⟩ = some (idle2 d) := idle_step (s := idle1 d) h1.1 1 h1.2.symm (by decide)
  refine ⟨by rw [run_cons, e1, Option.bind_some, run_one, e2], ?_⟩
  have h2 := h1.1.step in0 (by rw [h1.2]; show (0 : Int) + 1 < 1048576; decide)
  exact h2.2.trans (by rw [h1.2]; rfl)
end Fd
end Go.Proofs.YtkkhdaeihnbilaaGreat
namespace Go.Proofs.YtkkhdaeihnbilaaGreat
open Go.RowKit Go.Shelf
set_option linter.unusedVariables false
set_option linter.unusedSimpArgs false


set_option maxRecDepth 100000 in
set_option maxHeartbeats 4000000 in
theorem equal_any (l m : List Gm.Shot) (A B : Option Addr) (n n' c d : Nat) (w : World) (hn : n = l.length) (hm : n' = m.length) (n64 : n ≤ maxLen) (m64 : n' ≤ maxLen) (hr : Lies w w.heap.size 6 A n (Gm.shotCells l)) (hq : Lies w w.heap.size 6 B n' (Gm.shotCells m)) :
    Calls Tryz.prog 78 #[.slice A n c, .slice B n' d] w fun e w' => (∃ v, e = .returned (.bool v) ∧ (v = true ↔ l = m)) ∧ Below w.heap.size w w' := by
  have hN := Lib.hid hn
  have hM := Lib.hid hm
  have n63 : (n : Int) ≤ 9223372036854775807 := by unfold maxLen at n64; omega
  have m63 : (n' : Int) ≤ 9223372036854775807 := by unfold maxLen at m64; omega
  clear hn hm n64 m64
  by_cases hnn : n = n'
  · subst hnn
    go_enter Tryz.func78, Tryz.ntmps78
    go_wp2
    go_loopw [13] (fun i wr => ∃ k : Nat, k ≤ n ∧ i = .int .i64 k ∧ Below w.heap.size w wr ∧ ∀ j, j < k → l[j]? = m[j]?) (fun i _ => n - (intOf i).toNat)
    case atStart => exact ⟨0, by omega, rfl, Below.refl _ _, fun j hj => absurd hj (Nat.not_lt_zero j)⟩
    case round =>
      obtain ⟨k, hk, rfl, hb, hall⟩ := hrel
      have HALL := Lib.hid hall
      clear hall
      by_cases hlt : k < n
      · have hkg : k < l.length := by have := hN.out; omega
        have hkh : k < m.length := by have := hM.out; omega
        obtain ⟨ad, rfl, hbl, a0, a1, a2, a3, a4, a5⟩ := shots_at (hr.below hb) hN.out k hkg
        obtain ⟨bd, rfl, hbm, c0, c1, c2, c3, c4, c5⟩ := shots_at (hq.below hb) hM.out k hkh
        have HS := Lib.hid (show l = m → l[k]'hkg = m[k]'hkh from fun e => by simp only [e])
        have HT := Lib.hid (show l[k]'hkg = m[k]'hkh → ∀ j, j < k + 1 → l[j]? = m[j]? from fun e j hj => by
          by_cases ej : j = k
          · subst ej
            rw [List.getElem?_eq_getElem hkg, List.getElem?_eq_getElem hkh, e]
          · exact HALL.out j (by omega))
        have hsn := fun W => shot_neq (l[k]'hkg) (m[k]'hkh) W
        have hiff := @Gm.Shot.eqB_iff (l[k]'hkg) (m[k]'hkh)
        generalize l[k]'hkg = s at a0 a1 a2 a3 a4 a5 HS HT hsn hiff
        generalize m[k]'hkh = t at c0 c1 c2 c3 c4 c5 HS HT hsn hiff
        obtain ⟨owner, x, y, vx, vy, left⟩ := s
        obtain ⟨owner2, p, q, vp, vq, left2⟩ := t
        dsimp only at a0 a1 a2 a3 a4 a5 c0 c1 c2 c3 c4 c5
        simp only [Gm.Shot.cells] at hsn
        have hk8 : (k : Int) < n := by omega
        have HBB := Lib.hid hb
        clear hr hq hb
        cases hse : Gm.Shot.eqB ⟨owner, x, y, vx, vy, left⟩ ⟨owner2, p, q, vp, vq, left2⟩
        · rw [hse] at hsn hiff
          have hno := Lib.hid (show ¬ l = m from fun e => by have := hiff.2 (HS.out e); cases this)
          clear hse hiff
          go_upto_region 6 with fail
          go_quiet (fail)
          go_wp2
          go_ret
          exact ⟨by first | exact ⟨false, rfl, by simp; exact hno.out⟩ | exact .inl ⟨rfl, hno.out⟩, draws_below HBB.out _⟩
        · rw [hse] at hsn hiff
          have hn2 := Lib.hid (HT.out (hiff.1 rfl))
          clear hse hiff
          go_upto_region 6 with fail
          go_quiet (fail)
          go_wp2
          go_roundw
          case rel => exact ⟨k + 1, by omega, by go_num, draws_below HBB.out _, hn2.out⟩
          case measure => simp [intOf]; omega
      · have hk8 : ¬ (k : Int) < n := by omega
        have hyes := Lib.hid (show l = m from List.ext_getElem? fun j => by
          by_cases hj : j < n
          · exact HALL.out j (by omega)
          · rw [List.getElem?_eq_none (by have := hN.out; omega), List.getElem?_eq_none (by have := hM.out; omega)])
        have HBB := Lib.hid hb
        clear hr hq hb
        go_wp2
        go_ret
        exact ⟨by first | exact ⟨true, rfl, by simp; exact hyes.out⟩ | exact .inr ⟨rfl, hyes.out⟩, HBB.out⟩
  · have hno := Lib.hid (show ¬ l = m from fun e => hnn (by rw [hN.out, hM.out, e]))
    have hne : ((n : Int) != n') = true := by simp; omega
    clear hr hq hnn
    go_enter Tryz.func78, Tryz.ntmps78
    go_wp2
    go_ret
    exact ⟨by first | exact ⟨false, rfl, by simp; exact hno.out⟩ | exact .inl ⟨rfl, hno.out⟩, Below.refl _ _⟩

set_option maxRecDepth 100000 in
set_option maxHeartbeats 4000000 in
theorem same_any (g h : Gm.G) (A B : Option Addr) (n m c d : Nat) (w : World) (hn : n = g.shots.length) (hm : m = h.shots.length) (hr : Lies w w.heap.size 6 A n (Gm.shotCells g.shots)) (hq : Lies w w.heap.size 6 B m (Gm.shotCells h.shots))
    (n64 : n ≤ maxLen) (m64 : m ≤ maxLen) :
    Calls Tryz.prog 39 #[.agg (Gm.cells g (.slice A n c)), .agg (Gm.cells h (.slice B m d))] w fun e w' => (∃ v, e = .returned (.bool v) ∧ (v = true ↔ Gm.Eq g h)) ∧ Below w.heap.size w w' := by
  have b1 : Box ((w.alloc (.cells (Gm.cells g (.slice A n c)) 28)).alloc (.cells (Gm.cells h (.slice B m d)) 28)) w.heap.size 28 (Gm.cells g (.slice A n c)) := (Box.made _ _ _).alloc _
  have b2 : Box ((w.alloc (.cells (Gm.cells g (.slice A n c)) 28)).alloc (.cells (Gm.cells h (.slice B m d)) 28)) (w.heap.size + 1) 28 (Gm.cells h (.slice B m d)) := Box.made_at _ _ _ (by simp)
  have hb0 := two_below' w (.cells (Gm.cells g (.slice A n c)) 28) (.cells (Gm.cells h (.slice B m d)) 28)
  have ce := Lib.hid (equal_any g.shots h.shots A B n m c d _ hn hm n64 m64 ((hr.below hb0).wider hb0.size) ((hq.below hb0).wider hb0.size))
  have g0 := Gm.cells_0 g (.slice A n c)
  have g1 := Gm.cells_1 g (.slice A n c)
  have g58 := Gm.cells_58 g (.slice A n c)
  have h0 := Gm.cells_0 h (.slice B m d)
  have h1 := Gm.cells_1 h (.slice B m d)
  have h58 := Gm.cells_58 h (.slice B m d)
  have k1 := b1.cell
  have k2 := b2.cell
  have hB1 := Lib.hid b1
  have hB2 := Lib.hid b2
  have HB := Lib.hid hb0
  have HE := Lib.hid (show Gm.Eq g h ↔ g.frame = h.frame ∧ g.dice = h.dice ∧ (∀ i, i < 8 → g.ship i = h.ship i) ∧ g.shots = h.shots from Iff.rfl)
  have hse := @Gm.shipsEq_iff g.ship h.ship
  have hsh := fun W => ships_eql g.ship h.ship W
  generalize Gm.shipsEq g.ship h.ship = z at hse hsh
  clear b1 b2 hb0 hr hq hn hm
  by_cases e1 : g.frame = h.frame
  · rw [← e1] at h0
    by_cases e2 : g.dice = h.dice
    · rw [← e2] at h1
      cases z
      · have hno := Lib.hid (show ¬ Gm.Eq g h from fun e => by have := hse.2 e.2.2.1; cases this)
        clear hse e1 e2 HE ce
        go_enter Tryz.func39, Tryz.ntmps39
        go_wp2_with (first | (refine wpList_load_part_g (by first | rfl | kernel_rfl | simp [Region.wanted, yielded]) (ty := 25) rfl rfl hB1.out _ (ships_part _ _) Tryz.underlying25 rfl ships_info ?_) | (refine wpList_load_part_g (by first | rfl | kernel_rfl | simp [Region.wanted, yielded]) (ty := 25) rfl rfl hB2.out _ (ships_part _ _) Tryz.underlying25 rfl ships_info ?_))
        go_ret
        exact ⟨by first | exact ⟨false, rfl, by simp; exact hno.out⟩ | exact .inl ⟨rfl, hno.out⟩, HB.out⟩
      · have HX := Lib.hid (show g.shots = h.shots ↔ Gm.Eq g h from ⟨fun e => ⟨e1, e2, hse.1 rfl, e⟩, fun e => e.2.2.2⟩)
        clear hse e1 e2 HE
        go_enter Tryz.func39, Tryz.ntmps39
        go_wp2_with (first | (refine wpList_load_part_g (by first | rfl | kernel_rfl | simp [Region.wanted, yielded]) (ty := 25) rfl rfl hB1.out _ (ships_part _ _) Tryz.underlying25 rfl ships_info ?_) | (refine wpList_load_part_g (by first | rfl | kernel_rfl | simp [Region.wanted, yielded]) (ty := 25) rfl rfl hB2.out _ (ships_part _ _) Tryz.underlying25 rfl ships_info ?_) | (go_at_call 78; ((with_reducible refine ((ce).out).mono ?_); rintro e w1 ⟨⟨v, rfl, hv⟩, hb1⟩; have HV := Lib.hid hv; have K1 := Lib.hid (HB.out.trans (hb1.mono HB.out.size)); clear hv hb1)))
        all_goals
          go_ret
          first
            | exact ⟨⟨v, rfl, HV.out.trans HX.out⟩, K1.out⟩
            | exact ⟨HV.out.trans HX.out, K1.out⟩
            | exact ⟨⟨_, rfl, by simp; exact HV.out.trans HX.out⟩, K1.out⟩
            | trace_state
    · have hq2 : (g.dice == h.dice) = false := by simpa using e2
      have hno := Lib.hid (show ¬ Gm.Eq g h from fun e => e2 e.2.1)
      clear hse e1 e2 HE ce
      go_enter Tryz.func39, Tryz.ntmps39
      go_wp2
      go_ret
      exact ⟨by first | exact ⟨false, rfl, by simp; exact hno.out⟩ | exact .inl ⟨rfl, hno.out⟩, HB.out⟩
  · have hq2 : (g.frame == h.frame) = false := by simpa using e1
    have hno := Lib.hid (show ¬ Gm.Eq g h from fun e => e1 e.1)
    clear hse e1 HE ce
    go_enter Tryz.func39, Tryz.ntmps39
    go_wp2
    go_ret
    exact ⟨by first | exact ⟨false, rfl, by simp; exact hno.out⟩ | exact .inl ⟨rfl, hno.out⟩, HB.out⟩

/-- Two states are alike in all parts. -/
def Im.Eq (g h : Gm.G) (r q : Ros.R) : Prop := Gm.Eq g h ∧ r.version = q.version ∧ ∀ k, k < 8 → r.peer k = q.peer k ∧ r.gen k = q.gen k
set_option maxRecDepth 100000 in
set_option maxHeartbeats 4000000 in
theorem foldsame_any (g h : Gm.G) (r q : Ros.R) (A B : Option Addr) (n m c d : Nat) (w : World) (hn : n = g.shots.length) (hm : m = h.shots.length) (hr : Lies w w.heap.size 6 A n (Gm.shotCells g.shots)) (hq : Lies w w.heap.size 6 B m (Gm.shotCells h.shots))
    (n63 : n ≤ maxLen) (m63 : m ≤ maxLen) :
    Calls Tryz.prog 17 #[.agg (Im.cells g (.slice A n c) r), .agg (Im.cells h (.slice B m d) q)] w fun e w' => (∃ v, e = .returned (.bool v) ∧ (v = true ↔ (Gm.Eq g h ∧ r.version = q.version ∧ ∀ k, k < 8 → r.peer k = q.peer k ∧ r.gen k = q.gen k))) ∧ Below w.heap.size w w' := by
  have P0 := Lib.hid ((Box.made w 35 (Im.cells g (.slice A n c) r)).alloc (.cells (Im.cells h (.slice B m d) q) 35))
  have Q0 := Lib.hid (Box.made_at (n := w.heap.size + 1) (w.alloc (.cells (Im.cells g (.slice A n c) r) 35)) 35 (Im.cells h (.slice B m d) q) (by simp))
  have K0 := Lib.hid (two_below' w (.cells (Im.cells g (.slice A n c) r) 35) (.cells (Im.cells h (.slice B m d) q) 35))
  have cg := Lib.hid (same_any g h A B n m c d _ hn hm ((hr.below K0.out).wider K0.out.size) ((hq.below K0.out).wider K0.out.size) n63 m63)
  have he := fun W => ros_eql r q W
  have HI := Lib.hid (show (r.version == q.version && Ros.seatsEq r q) = true ↔ (r.version = q.version ∧ ∀ k, k < 8 → r.peer k = q.peer k ∧ r.gen k = q.gen k) by rw [Bool.and_eq_true, Ros.seatsEq_iff]; simp)
  generalize (r.version == q.version && Ros.seatsEq r q) = E at he HI
  clear hr hq hn hm
  go_enter Tryz.func17, Tryz.ntmps17
  go_wp2_with (first | ((with_reducible refine im_load_game rfl rfl ?_); apply LoadIm.mk rfl; (focus first | (with_reducible exact P0.out) | (with_reducible exact Q0.out)); dsimp only) | ((with_reducible refine im_load_ros_g ?_ rfl ?_); (focus first | rfl | kernel_rfl | simp [Region.wanted, yielded]); apply LoadIm.mk rfl; (focus first | (with_reducible exact P1.out) | (with_reducible exact Q1.out)); dsimp only) | (go_at_call 39; ((with_reducible refine (cg.out).mono ?_); rintro e w1 ⟨⟨v, rfl, hv⟩, hb⟩; have P1 := Lib.hid (P0.out.below hb P0.out.lt); have Q1 := Lib.hid (Q0.out.below hb Q0.out.lt); have K1 := Lib.hid (K0.out.trans (hb.mono K0.out.size)); have HV := Lib.hid hv; clear hb hv; cases v)))
  all_goals
    go_ret
    first
      | exact ⟨⟨false, rfl, by simp only [Bool.false_eq_true, false_iff]; exact fun x => by have := HV.out.2 x.1; simp at this⟩, K1.out⟩
      | exact ⟨⟨E, rfl, HI.out.trans ⟨fun x => ⟨HV.out.1 (by first | trivial | rfl), x⟩, fun x => x.2⟩⟩, K1.out⟩
      | exact ⟨by simp; exact fun x => absurd (HV.out.2 x) (by simp), K1.out⟩
      | exact ⟨by simp; exact HI.out.trans ⟨fun x => ⟨HV.out.1 (by first | trivial | rfl), x⟩, fun x => x.2⟩, K1.out⟩
      | trace_state
end Go.Proofs.YtkkhdaeihnbilaaGreat
namespace Go.Proofs.YtkkhdaeihnbilaaGreat
open Go.RowKit Go.Shelf
set_option linter.unusedVariables false
set_option linter.unusedSimpArgs false


section
variable {ops : Array Oper} {Q : Exit → Act → World → Prop} {o : Oper} {rest : List Oper} {a : Act} {w : World} {x y : Operand}
theorem im_load_state_g (hw : Region.wanted o (yielded ops a.tmps) = true) (ho : o.op = .load 35 x) (h : LoadIm ops Q rest o.dst (a.eval x) 0 (fun g s r => Im.cells g s r) a w) : wpList Tryz.prog ops Q (o :: rest) a w := by
  obtain ⟨B, g, s, r, hx, hB, h⟩ := h
  refine wpList_load_part_g hw ho hx hB (Im.cells g s r).toList (fun j v hv => ?_) Tryz.underlying35 rfl (by rw [Array.length_toList, Im.cells_size]; exact state_info) (by rw [Array.toArray_toList]; exact h)
  rw [Nat.zero_add]
  simpa using hv
end
theorem en_built_evs (A : Option Addr) (n c : Nat) (evs : List En.Ev) : Tryz.prog.built 42 [(1, .slice A n c)] = some (En.cells ⟨0, evs, Fd.in0⟩ (.slice A n c)) := by kernel_rfl
theorem en_built_fre (f : Int) (A : Option Addr) (n c : Nat) (evs : List En.Ev) : Tryz.prog.built 42 [(0, .int .i64 f), (1, .slice A n c)] = some (En.cells ⟨f, evs, Fd.in0⟩ (.slice A n c)) := by kernel_rfl
theorem en_built_none : Tryz.prog.built 42 [] = some (En.cells ⟨0, [], Fd.in0⟩ (.slice none 0 0)) := by kernel_rfl
theorem en_built_fr (f : Int) : Tryz.prog.built 42 [(0, .int .i64 f)] = some (En.cells ⟨f, [], Fd.in0⟩ (.slice none 0 0)) := by kernel_rfl
theorem Lies.boxed4 {W : World} {S n size : Nat} {t : TypeId} {xs : List Value} (h : Box W S t xs.toArray) (hl : xs.length = n * size) : Lies W W.heap.size size (some ⟨S, 0, none⟩) n xs :=
  ⟨hl, fun _ => ⟨_, rfl, h.lt⟩, fun ad e _ j u hj => by
    injection e with e
    subst e
    rw [show (⟨S, 0, none⟩ : Addr).add j = ⟨S, j, none⟩ by unfold Addr.add; split <;> simp_all, h.cell]
    simpa using hj⟩
theorem Lies.none_ {W : World} {B size : Nat} {A : Option Addr} : Lies W B size A 0 [] := ⟨by simp, fun h => absurd rfl h, fun _ _ h => absurd rfl h⟩
/-- A literal slice of two entries. -/
theorem en_fill2 (e f : En.E) (A B : Option Addr) (n m c d : Nat) : Instr.fill (fun i => some (i * 26, 26)) ((Array.range (2 * 26)).map ((Value.agg En.zeroC).cells[· % (Value.agg En.zeroC).cells.size]!)) [(0, .agg (En.cells e (.slice A n c))), (1, .agg (En.cells f (.slice B m d)))] = some (En.cells e (.slice A n c) ++ En.cells f (.slice B m d)) := by kernel_rfl
theorem en_two (q r : En.S) : En.cells q.e q.sl ++ En.cells r.e r.sl = (En.sCells [q, r]).toArray := by
  unfold En.sCells
  rw [List.flatMap_cons, List.flatMap_cons, List.flatMap_nil, List.append_nil, ← En.S.cells_arr, ← En.S.cells_arr, List.append_toArray]
section
variable {ops : Array Oper} {rest : List Oper} {o : Oper} {a : Act} {w : World} {Q : Exit → Act → World → Prop} {x y : Operand} {dst : Option Tmp} {v u : Value}
def BuildEn2 (ops : Array Oper) (Q : Exit → Act → World → Prop) (rest : List Oper) (dst : Option Tmp) (v u : Value) (a : Act) (w : World) : Prop :=
  ∃ (q r : En.S), v = .agg (En.cells q.e q.sl) ∧ u = .agg (En.cells r.e r.sl) ∧ wpList Tryz.prog ops Q rest (a.put dst (.slice (some ⟨w.heap.size, 0, none⟩) 2 2)) (w.alloc (.cells (En.sCells [q, r]).toArray 42))
theorem BuildEn2.mk {q r : En.S} (hv : v = .agg (En.cells q.e q.sl)) (hu : u = .agg (En.cells r.e r.sl)) (h : wpList Tryz.prog ops Q rest (a.put dst (.slice (some ⟨w.heap.size, 0, none⟩) 2 2)) (w.alloc (.cells (En.sCells [q, r]).toArray 42))) : BuildEn2 ops Q rest dst v u a w := ⟨q, r, hv, hu, h⟩
theorem en_build2 (hgd : o.guard = none) (ho : o.op = .buildSlice 52 2 #[(0, x), (1, y)]) (h : BuildEn2 ops Q rest o.dst (a.eval x) (a.eval y) a w) : wpList Tryz.prog ops Q (o :: rest) a w := by
  obtain ⟨q, r, hv, hu, h⟩ := h
  refine wpList_plain hgd fun _ hK => ?_
  have hr : (Instr.buildSlice 52 2 #[(0, .agg (En.cells q.e q.sl)), (1, .agg (En.cells r.e r.sl))]).run Tryz.prog w = .ok (.slice (some ⟨w.heap.size, 0, none⟩) 2 2) (w.alloc (.cells (En.sCells [q, r]).toArray 42)) := by
    have h1 := en_info
    have h2 := en_zero
    cases hq : Tryz.prog.info? 42 with
    | none => rw [hq] at h1; cases h1
    | some ie =>
      rw [hq] at h1 h2
      have hs : ie.size = 26 := by simpa using h1
      have hz : ie.zero = some (.agg En.zeroC) := by simpa using h2
      exact run_buildSlice w _ _ 2 _ _ ie (.agg En.zeroC) Tryz.underlying52 hq hz (by rw [hs]; decide) (by rw [hs]; decide) (by rw [hs, ← en_two]; exact en_fill2 q.e r.e q.adr r.adr q.e.evs.length r.e.evs.length q.cap r.cap)
  unfold Oper.wp execOp
  simp only [ho, List.map_toArray, List.map_cons, List.map_nil, hv, hu, Sem.run_bind, hr, Result.andThen_ok, Sem.run_pure]
  exact hK _ _ h
end

def Fd.eJ (k : Nat) (p : Int) (ps : Nat → Gm.In) : En.E := ⟨0, [Fd.evJ k p], ps⟩
def Fd.eI (f : Int) : En.E := ⟨f, [], Fd.in0⟩
theorem en_built_J (A : Option Addr) (n c k : Nat) (p : Int) : Tryz.prog.built 42 [(1, .slice A n c)] = some (En.cells (Fd.eJ k p Fd.in0) (.slice A n c)) := en_built_evs A n c [Fd.evJ k p]
theorem en_built_I (f : Int) : Tryz.prog.built 42 [(0, .int .i64 f)] = some (En.cells (Fd.eI f) (.slice none 0 0)) := en_built_fr f
theorem en_built_I0 : Tryz.prog.built 42 [] = some (En.cells (Fd.eI 0) (.slice none 0 0)) := en_built_none
theorem told_set (s : Value) : (En.cells (Fd.eJ 0 2 Fd.in0) s).setIfInBounds 16 (.int .u8 1) = En.cells (Fd.eJ 0 2 (En.upd Fd.in0 4 ⟨0, 0, 1⟩)) s := rfl
theorem told_16 (s : Value) : (En.cells (Fd.eJ 0 2 Fd.in0) s)[16]? = some (.int .u8 0) := rfl
theorem in0_tyin : ∀ i, i < 8 → Gm.tyIn (Fd.in0 i) := fun i _ => by unfold Gm.tyIn Fd.in0; dsimp only; omega
theorem upd_tyin (j : Nat) (p : Gm.In) (hp : Gm.tyIn p) : ∀ i, i < 8 → Gm.tyIn (En.upd Fd.in0 j p i) := fun i hi => by
  unfold En.upd; split
  · exact hp
  · exact in0_tyin i hi
theorem start_new (d : Int) (hd : 0 ≤ d ∧ d ≤ 18446744073709551615) : Gm.ty (Gm.new d) := (Fd.start_fine hd).ty
set_option maxRecDepth 100000 in
set_option maxHeartbeats 4000000 in
theorem told10_any (w : World) :
    Calls Tryz.prog 11 #[] w fun e w' => e = .returned (.bool true) ∧ Below w.heap.size w w' := by
  have cs := fun X => Lib.hid (foldstart_any ⟨#[97]⟩ X (by decide))
  have hd := Dn.seed_bd (ByteArray.mk #[97]).data.toList
  generalize Dn.seed (ByteArray.mk #[97]).data.toList = d at cs hd
  have HD := Lib.hid hd
  have ty0 := Lib.hid (start_new d hd)
  clear hd
  go_enter Tryz.func11, Tryz.ntmps11
  go_upto_region 2 with (first | (go_at_call 20; ((with_reducible refine ((cs _).out).mono ?_); rintro x w1 ⟨rfl, hb⟩; have S1 := Lib.hid (Box.made w1 35 (Im.cells (Gm.new d) (.slice none 0 0) Ros.new)); have K1 := Lib.hid (hb.alloc hb.size (.cells (Im.cells (Gm.new d) (.slice none 0 0) Ros.new) 35)); clear hb)) | (with_reducible refine alloc_state rfl rfl ?_) | (with_reducible refine im_store_new rfl rfl rfl rfl Im.zero_size rfl ?_))
  generalize hW1 : w1.alloc (.cells (Im.cells (Gm.new d) (.slice none 0 0) Ros.new) 35) = W1 at S1 K1 ⊢
  generalize w1.heap.size = b1 at S1 ⊢
  have V2 := Lib.hid ((Box.made W1 61 #[.int .i64 1, .int .i64 0, .int .i64 1, .int .i64 2]).alloc (.cells (En.cells (Fd.eJ 0 2 Fd.in0) (.slice (some ⟨W1.heap.size, 0, none⟩) 1 1)) 42))
  have E2 := Lib.hid (Box.made_at (n := W1.heap.size + 1) (W1.alloc (.cells #[.int .i64 1, .int .i64 0, .int .i64 1, .int .i64 2] 61)) 42 (En.cells (Fd.eJ 0 2 Fd.in0) (.slice (some ⟨W1.heap.size, 0, none⟩) 1 1)) (by simp))
  have D2 := two_below' W1 (.cells #[.int .i64 1, .int .i64 0, .int .i64 1, .int .i64 2] 61) (.cells (En.cells (Fd.eJ 0 2 Fd.in0) (.slice (some ⟨W1.heap.size, 0, none⟩) 1 1)) 42)
  have S2 := Lib.hid (S1.out.below D2 S1.out.lt)
  have K2 := Lib.hid (K1.out.trans (D2.mono K1.out.size))
  have l2 := S1.out.lt
  have HB1 := Lib.hid K1.out.size
  clear D2 S1 K1 hW1
  go_upto_region 3 with (first | (refine wpList_build_is rfl (t := 42) (vs := [(1, .slice (some ⟨W1.heap.size, 0, none⟩) 1 1)]) rfl rfl (en_built_J _ _ _ 0 2) ?_) | (with_reducible refine alloc_en rfl rfl ?_) | (with_reducible refine en_store_new rfl rfl rfl rfl En.zeroC_size rfl ?_))
  simp only [World.size_alloc]
  generalize hW2 : (W1.alloc (.cells #[.int .i64 1, .int .i64 0, .int .i64 1, .int .i64 2] 61)).alloc (.cells (En.cells (Fd.eJ 0 2 Fd.in0) (.slice (some ⟨W1.heap.size, 0, none⟩) 1 1)) 42) = W2 at V2 E2 S2 K2 ⊢
  have HBE := Lib.hid (show w.heap.size ≤ W1.heap.size + 1 from Nat.le_succ_of_le HB1.out)
  generalize W1.heap.size + 1 = be at E2 HBE ⊢
  generalize W1.heap.size = bv at V2 E2 ⊢
  clear hW2 l2 HB1
  have T0 := Lib.hid (Fd.joined_fine (d := d) (k := 0) (p := 2) (ps := Fd.in0) HD.out (by decide) (by decide))
  have T0p := Lib.hid (Fd.joined_peer (d := d) (k := 0) (p := 2) (ps := Fd.in0))
  have ca1 := fun X (hV : Box X bv 61 #[.int .i64 1, .int .i64 0, .int .i64 1, .int .i64 2]) => Lib.hid (show Calls Tryz.prog 12 #[.agg (Im.cells (Gm.new d) (.slice none 0 0) Ros.new), .agg (En.cells (Fd.eJ 0 2 Fd.in0) (.slice (some ⟨bv, 0, none⟩) 1 1))] X (SOut (Fd.joined d 0 2 Fd.in0).g (Fd.joined d 0 2 Fd.in0).r 0 X) from
    foldapply_some (Fd.joined d 0 2 Fd.in0) (Fd.start d) (Fd.eJ 0 2 Fd.in0) none (some ⟨bv, 0, none⟩) 0 0 1 1 X ty0.out (by decide) rfl Lies.none_ rfl (by decide) (Lies.boxed4 (n := 1) hV rfl) in0_tyin (Fd.join_one HD.out (by decide) (by decide) (fun i hi => Fd.zero_ok rfl) (fun i hi _ => rfl)))
  have ca2 := fun X A c (hV : Box X bv 61 #[.int .i64 1, .int .i64 0, .int .i64 1, .int .i64 2]) hL => Lib.hid (show Calls Tryz.prog 12 #[.agg (Im.cells (Fd.joined d 0 2 Fd.in0).g (.slice A (Fd.joined d 0 2 Fd.in0).g.shots.length c) (Fd.joined d 0 2 Fd.in0).r), .agg (En.cells (Fd.eJ 0 2 Fd.in0) (.slice (some ⟨bv, 0, none⟩) 1 1))] X (SOut (Fd.joined d 0 2 Fd.in0).g (Fd.joined d 0 2 Fd.in0).r 1 X) from
    foldapply_none (Fd.joined d 0 2 Fd.in0) (Fd.eJ 0 2 Fd.in0) A (some ⟨bv, 0, none⟩) _ c 1 1 X T0.out.1.ty T0.out.1.few rfl hL rfl (by decide) (Lies.boxed4 (n := 1) hV rfl) in0_tyin (Fd.joined_late HD.out (by decide) (by decide) rfl))
  have ca3 := fun X (hV : Box X bv 61 #[.int .i64 1, .int .i64 0, .int .i64 1, .int .i64 2]) => Lib.hid (show Calls Tryz.prog 12 #[.agg (Im.cells (Gm.new d) (.slice none 0 0) Ros.new), .agg (En.cells (Fd.eJ 0 2 (En.upd Fd.in0 4 ⟨0, 0, 1⟩)) (.slice (some ⟨bv, 0, none⟩) 1 1))] X (SOut (Gm.new d) Ros.new 1 X) from
    foldapply_none (Fd.start d) (Fd.eJ 0 2 (En.upd Fd.in0 4 ⟨0, 0, 1⟩)) none (some ⟨bv, 0, none⟩) 0 0 1 1 X ty0.out (by decide) rfl Lies.none_ rfl (by decide) (Lies.boxed4 (n := 1) hV rfl) (upd_tyin 4 _ (by unfold Gm.tyIn; dsimp only; omega)) (Fd.join_busy (j := 4) (by decide) (by decide) (by decide) (by decide) rfl))
  have t_on : Hid (∀ s, (Im.cells (Fd.joined d 0 2 Fd.in0).g s (Fd.joined d 0 2 Fd.in0).r)[2]? = some (.bool true)) := Lib.hid fun s => (Im.cells_ship _ s _ 0 0 (by decide) (by decide)).trans (by show some (Value.bool ((Fd.joined d 0 2 Fd.in0).g.ship 0).on) = _; rw [T0.out.2.2])
  have t_fr : Hid (∀ s, (Im.cells (Fd.joined d 0 2 Fd.in0).g s (Fd.joined d 0 2 Fd.in0).r)[0]? = some (.int .i64 1)) := Lib.hid fun s => ((Im.cells_g _ s _ 0 (by decide)).trans (Gm.cells_0 _ s)).trans (by rw [T0.out.2.1])
  have t_pe : Hid (∀ s, (Im.cells (Fd.joined d 0 2 Fd.in0).g s (Fd.joined d 0 2 Fd.in0).r)[60]? = some (.int .i64 2)) := Lib.hid fun s => (Im.cells_peer _ s _ 0 (by decide)).trans (by rw [T0p.out])
  generalize Fd.joined d 0 2 Fd.in0 = T at ca1 ca2 t_on t_fr t_pe
  clear T0 T0p
  go_upto_region 4 with (first | ((with_reducible refine im_load_state rfl rfl ?_); apply LoadIm.mk rfl; (focus first | (with_reducible exact S2.out)); dsimp only) | ((with_reducible refine en_load rfl rfl ?_); apply LoadEn.mk rfl; (focus first | (with_reducible exact E2.out)); dsimp only) | (go_at_call 12; ((with_reducible refine ((ca1 _ V2.out).out).mono ?_); rintro x w3 ⟨A3, cA3, rfl, hL, hb⟩; have S3 := Lib.hid ((S2.out.below hb S2.out.lt).alloc (.cells (Im.cells T.g (.slice A3 T.g.shots.length cA3) T.r) 35)); have E3 := Lib.hid ((E2.out.below hb E2.out.lt).alloc (.cells (Im.cells T.g (.slice A3 T.g.shots.length cA3) T.r) 35)); have V3 := Lib.hid ((V2.out.below hb V2.out.lt).alloc (.cells (Im.cells T.g (.slice A3 T.g.shots.length cA3) T.r) 35)); have K3 := Lib.hid ((K2.out.trans (hb.mono K2.out.size)).alloc (Nat.le_trans K2.out.size hb.size) (.cells (Im.cells T.g (.slice A3 T.g.shots.length cA3) T.r) 35)); have B3 := Lib.hid (Box.made w3 35 (Im.cells T.g (.slice A3 T.g.shots.length cA3) T.r)); have L3 := Lib.hid (hL.call (one_below w3 (.cells (Im.cells T.g (.slice A3 T.g.shots.length cA3) T.r) 35))); clear hb hL)) | (with_reducible refine alloc_state rfl rfl ?_) | (with_reducible refine im_store_new rfl rfl rfl rfl Im.zero_size rfl ?_))
  generalize hWn : w3.alloc (.cells (Im.cells T.g (.slice A3 T.g.shots.length cA3) T.r) 35) = W3 at S3 E3 V3 L3 B3 K3 ⊢
  generalize w3.heap.size = b3 at B3 ⊢
  clear hWn
  clear S2 E2 V2 K2 ca1
  go_upto_region 5 with (first | ((with_reducible refine im_load_state rfl rfl ?_); apply LoadIm.mk rfl; (focus first | (with_reducible exact B3.out)); dsimp only) | ((with_reducible refine en_load rfl rfl ?_); apply LoadEn.mk rfl; (focus first | (with_reducible exact E3.out)); dsimp only) | (go_at_call 12; ((with_reducible refine ((ca2 _ _ _ V3.out L3.out).out).mono ?_); rintro x w3 ⟨A4, cA4, rfl, hL, hb⟩; have S4 := Lib.hid ((S3.out.below hb S3.out.lt).alloc (.cells (Im.cells T.g (.slice A4 T.g.shots.length cA4) T.r) 35)); have E4 := Lib.hid ((E3.out.below hb E3.out.lt).alloc (.cells (Im.cells T.g (.slice A4 T.g.shots.length cA4) T.r) 35)); have V4 := Lib.hid ((V3.out.below hb V3.out.lt).alloc (.cells (Im.cells T.g (.slice A4 T.g.shots.length cA4) T.r) 35)); have T4 := Lib.hid ((B3.out.below hb B3.out.lt).alloc (.cells (Im.cells T.g (.slice A4 T.g.shots.length cA4) T.r) 35)); have K4 := Lib.hid ((K3.out.trans (hb.mono K3.out.size)).alloc (Nat.le_trans K3.out.size hb.size) (.cells (Im.cells T.g (.slice A4 T.g.shots.length cA4) T.r) 35)); have B4 := Lib.hid (Box.made w3 35 (Im.cells T.g (.slice A4 T.g.shots.length cA4) T.r)); have L4 := Lib.hid (hL.call (one_below w3 (.cells (Im.cells T.g (.slice A4 T.g.shots.length cA4) T.r) 35))); clear hb hL)) | (with_reducible refine alloc_state rfl rfl ?_) | (with_reducible refine im_store_new rfl rfl rfl rfl Im.zero_size rfl ?_))
  generalize hWn : w3.alloc (.cells (Im.cells T.g (.slice A4 T.g.shots.length cA4) T.r) 35) = W4 at S4 E4 V4 T4 L4 B4 K4 ⊢
  generalize w3.heap.size = b4 at B4 ⊢
  clear hWn
  clear S3 E3 V3 K3 ca2 B3 L3 L4 B4
  have e4 := (E4.out.cell 16).trans (told_16 _)
  have f4 := E4.out.free 16
  have E5 := Lib.hid (show Box (W4.setCell ⟨be, 16, none⟩ (.int .u8 1)) be 42 (En.cells (Fd.eJ 0 2 (En.upd Fd.in0 4 ⟨0, 0, 1⟩)) (.slice (some ⟨bv, 0, none⟩) 1 1)) from told_set (.slice (some ⟨bv, 0, none⟩) 1 1) ▸ E4.out.put 16 (.int .u8 1))
  have S5 := Lib.hid (S4.out.far (p := ⟨be, 16, none⟩) (Box.apart S4.out E4.out (by decide)) (.int .u8 1))
  have V5 := Lib.hid (V4.out.far (p := ⟨be, 16, none⟩) (Box.apart V4.out E4.out (by decide)) (.int .u8 1))
  have T5 := Lib.hid (T4.out.far (p := ⟨be, 16, none⟩) (Box.apart T4.out E4.out (by decide)) (.int .u8 1))
  have hbe : Hid (w.heap.size ≤ be) := HBE
  have K5 := Lib.hid (K4.out.setCell (p := ⟨be, 16, none⟩) hbe.out (.int .u8 1))
  go_upto_region 6 with fail
  generalize hW5 : W4.setCell ⟨be, 16, none⟩ (.int .u8 1) = W5 at E5 S5 V5 T5 K5 ⊢
  clear hW5 e4 f4 E4 S4 V4 T4 K4
  go_upto_region 7 with (first | ((with_reducible refine im_load_state rfl rfl ?_); apply LoadIm.mk rfl; (focus first | (with_reducible exact S5.out)); dsimp only) | ((with_reducible refine en_load rfl rfl ?_); apply LoadEn.mk rfl; (focus first | (with_reducible exact E5.out)); dsimp only) | (go_at_call 12; ((with_reducible refine ((ca3 _ V5.out).out).mono ?_); rintro x w3 ⟨A6, cA6, rfl, hL, hb⟩; have S6 := Lib.hid ((S5.out.below hb S5.out.lt).alloc (.cells (Im.cells (Gm.new d) (.slice A6 (Gm.new d).shots.length cA6) Ros.new) 35)); have T6 := Lib.hid ((T5.out.below hb T5.out.lt).alloc (.cells (Im.cells (Gm.new d) (.slice A6 (Gm.new d).shots.length cA6) Ros.new) 35)); have K6 := Lib.hid ((K5.out.trans (hb.mono K5.out.size)).alloc (Nat.le_trans K5.out.size hb.size) (.cells (Im.cells (Gm.new d) (.slice A6 (Gm.new d).shots.length cA6) Ros.new) 35)); have B6 := Lib.hid (Box.made w3 35 (Im.cells (Gm.new d) (.slice A6 (Gm.new d).shots.length cA6) Ros.new)); have L6 := Lib.hid (hL.call (one_below w3 (.cells (Im.cells (Gm.new d) (.slice A6 (Gm.new d).shots.length cA6) Ros.new) 35))); clear hb hL)) | (with_reducible refine alloc_state rfl rfl ?_) | (with_reducible refine im_store_new rfl rfl rfl rfl Im.zero_size rfl ?_))
  generalize hWn : w3.alloc (.cells (Im.cells (Gm.new d) (.slice A6 (Gm.new d).shots.length cA6) Ros.new) 35) = W6 at S6 T6 L6 B6 K6 ⊢
  generalize w3.heap.size = b6 at B6 ⊢
  clear hWn
  clear S5 V5 T5 K5 E5 ca3
  have hrun := Fd.idle_run HD.out
  have cr := fun X (hB : Box X W6.heap.size 42 (En.sCells [⟨Fd.eI 0, none, 0⟩, ⟨Fd.eI 1, none, 0⟩]).toArray) => Lib.hid (show Calls Tryz.prog 19 #[.agg (Im.cells (Gm.new d) (.slice none 0 0) Ros.new), .slice (some ⟨W6.heap.size, 0, none⟩) 2 2] X (SOut (Fd.idle2 d).g (Fd.idle2 d).r 0 X) from
    foldrun_some (Fd.idle2 d) (Fd.start d) [⟨Fd.eI 0, none, 0⟩, ⟨Fd.eI 1, none, 0⟩] none (some ⟨W6.heap.size, 0, none⟩) 0 0 2 2 X (Fd.start_fine HD.out) rfl Lies.none_ (by decide) ⟨Lies.boxed4 (n := 2) hB rfl, fun q hq => (by rcases List.mem_cons.1 hq with rfl | hq; exact Lies.none_; rcases List.mem_cons.1 hq with rfl | hq; exact Lies.none_; cases hq), fun q hq => (by rcases List.mem_cons.1 hq with rfl | hq; exact Nat.zero_le _; rcases List.mem_cons.1 hq with rfl | hq; exact Nat.zero_le _; cases hq)⟩ (fun q hq => (by rcases List.mem_cons.1 hq with rfl | hq; exact in0_tyin; rcases List.mem_cons.1 hq with rfl | hq; exact in0_tyin; cases hq)) hrun.1)
  have v_fr : Hid (∀ s, (Im.cells (Fd.idle2 d).g s (Fd.idle2 d).r)[0]? = some (.int .i64 2)) := Lib.hid fun s => ((Im.cells_g _ s _ 0 (by decide)).trans (Gm.cells_0 _ s)).trans (by rw [hrun.2])
  have M7 := Lib.hid (Box.made W6 42 (En.sCells [⟨Fd.eI 0, none, 0⟩, ⟨Fd.eI 1, none, 0⟩]).toArray)
  have D7 := one_below W6 (.cells (En.sCells [⟨Fd.eI 0, none, 0⟩, ⟨Fd.eI 1, none, 0⟩]).toArray 42)
  have S7 := Lib.hid (S6.out.alloc (.cells (En.sCells [⟨Fd.eI 0, none, 0⟩, ⟨Fd.eI 1, none, 0⟩]).toArray 42))
  have T7 := Lib.hid (T6.out.alloc (.cells (En.sCells [⟨Fd.eI 0, none, 0⟩, ⟨Fd.eI 1, none, 0⟩]).toArray 42))
  have U7 := Lib.hid (B6.out.alloc (.cells (En.sCells [⟨Fd.eI 0, none, 0⟩, ⟨Fd.eI 1, none, 0⟩]).toArray 42))
  have K7 := Lib.hid (K6.out.trans (D7.mono K6.out.size))
  generalize Fd.idle2 d = V at cr v_fr
  clear hrun D7 K6
  go_upto_region 8 with (first | ((with_reducible refine im_load_state rfl rfl ?_); apply LoadIm.mk rfl; (focus first | (with_reducible exact S6.out) | (with_reducible exact S7.out)); dsimp only) | (refine wpList_build_is rfl (t := 42) (vs := []) rfl rfl (en_built_I0) ?_) | (refine wpList_build_is rfl (t := 42) (vs := [(0, .int .i64 1)]) rfl rfl (en_built_I 1) ?_) | ((with_reducible refine en_build2 rfl rfl ?_); (refine BuildEn2.mk (q := ⟨Fd.eI 0, none, 0⟩) (r := ⟨Fd.eI 1, none, 0⟩) rfl rfl ?_)) | (go_at_call 19; ((with_reducible refine ((cr _ M7.out).out).mono ?_); rintro x w3 ⟨A8, cA8, rfl, hL, hb⟩; have S8 := Lib.hid ((S7.out.below hb S7.out.lt).alloc (.cells (Im.cells V.g (.slice A8 V.g.shots.length cA8) V.r) 35)); have T8 := Lib.hid ((T7.out.below hb T7.out.lt).alloc (.cells (Im.cells V.g (.slice A8 V.g.shots.length cA8) V.r) 35)); have U8 := Lib.hid ((U7.out.below hb U7.out.lt).alloc (.cells (Im.cells V.g (.slice A8 V.g.shots.length cA8) V.r) 35)); have K8 := Lib.hid ((K7.out.trans (hb.mono K7.out.size)).alloc (Nat.le_trans K7.out.size hb.size) (.cells (Im.cells V.g (.slice A8 V.g.shots.length cA8) V.r) 35)); have B8 := Lib.hid (Box.made w3 35 (Im.cells V.g (.slice A8 V.g.shots.length cA8) V.r)); have L8 := Lib.hid (hL.call (one_below w3 (.cells (Im.cells V.g (.slice A8 V.g.shots.length cA8) V.r) 35))); clear hb hL)) | (with_reducible refine alloc_state rfl rfl ?_) | (with_reducible refine im_store_new rfl rfl rfl rfl Im.zero_size rfl ?_))
  generalize hWn : w3.alloc (.cells (Im.cells V.g (.slice A8 V.g.shots.length cA8) V.r) 35) = W8 at S8 T8 U8 L8 B8 K8 ⊢
  generalize w3.heap.size = b8 at B8 ⊢
  clear hWn
  clear S7 T7 U7 K7 M7 cr L8
  have t1 := (T8.out.cell 2).trans (t_on.out _)
  have t2 := (T8.out.cell 0).trans (t_fr.out _)
  have t3 := (T8.out.cell 60).trans (t_pe.out _)
  have v1 := fun X (h : Below W8.heap.size W8 X) => ((B8.out.below h B8.out.lt).cell 0).trans (v_fr.out _)
  have csm := fun X A c n (hn : n = (Gm.new d).shots.length) => Lib.hid (foldsame_any (Gm.new d) (Gm.new d) Ros.new Ros.new A none n 0 c 0 X hn rfl (by subst hn; exact Lies.none_) Lies.none_ (by subst hn; exact Nat.zero_le _) (Nat.zero_le _))
  have cmy := fun X => Lib.hid (foldmay_any (Gm.new d) Ros.new none 0 0 X ty0.out (Nat.zero_le _) rfl Lies.none_)
  have OK := Lib.hid (Fd.start_fine HD.out).ok
  go_wp2_with (first | ((with_reducible refine im_load_state_g ?_ rfl ?_); (focus first | rfl | kernel_rfl | simp [Region.wanted, yielded]); apply LoadIm.mk rfl; (focus first | (with_reducible exact S8.out) | (with_reducible exact U8.out) | (with_reducible exact S9.out)); dsimp only) | (go_at_call 17; ((with_reducible refine ((csm _ _ _ _ rfl).out).mono ?_); rintro x w9 ⟨⟨v, rfl, hv⟩, hb⟩; obtain rfl : v = true := hv.2 ⟨Gm.Eq.refl _, rfl, fun _ _ => ⟨rfl, rfl⟩⟩; have S9 := Lib.hid (S8.out.below hb S8.out.lt); have v9 := v1 _ hb; have K9 := Lib.hid (K8.out.trans (hb.mono K8.out.size)); clear hb hv)) | (go_at_call 14; ((with_reducible refine ((cmy _).out).mono ?_); rintro x w10 ⟨⟨v, rfl, hv⟩, hb⟩; obtain rfl : v = true := hv.2 OK.out; have K10 := Lib.hid (K9.out.trans (hb.mono K9.out.size)); clear hb hv)))
  go_ret
  exact ⟨rfl, K10.out⟩
end Go.Proofs.YtkkhdaeihnbilaaGreat
namespace Go.Proofs.YtkkhdaeihnbilaaGreat
open Go.RowKit
set_option linter.unusedVariables false
set_option linter.unusedSimpArgs false

theorem ship_neq (s t : Gm.Ship) (w : World) : (binOp .neq 24 (.agg s.cells.toArray) (.agg t.cells.toArray)).run Tryz.prog w = .ok (.bool (!s.eqB t)) w := by
  simp only [binOp]
  simp [Op.equal, Op.maxDepth, ship_eq']

set_option maxRecDepth 100000 in
set_option maxHeartbeats 16000000 in
theorem refmay_any (g : Gm.G) (A : Option Addr) (n c : Nat) (w : World) (hty : Gm.ty g) (hn : n = g.shots.length) (hn63 : n ≤ maxLen) (hr : Lies w w.heap.size 6 A n (Gm.shotCells g.shots)) :
    Calls Tryz.prog 36 #[.agg (Gm.cells g (.slice A n c))] w fun e w' => (∃ v, e = .returned (.bool v) ∧ (v = true ↔ Gm.ok g)) ∧ Below w.heap.size w w' := by
  have hN : Hid (n = g.shots.length) := Lib.hid hn
  have n63 : (n : Int) ≤ 9223372036854775807 := by unfold maxLen at hn63; omega
  have hc : ∀ W : World, ∀ j, (W.alloc (.cells (Gm.cells g (.slice A n c)) 28)).cell? ⟨W.heap.size, j, none⟩ = (Gm.cells g (.slice A n c))[j]? := fun W j => (Box.made W _ _).cell j
  have h0 := Gm.cells_0 g (.slice A n c)
  have h58 := Gm.cells_58 g (.slice A n c)
  clear hn hn63
  by_cases hf : g.frame < 0
  · have d1 : decide (g.frame < 0) = true := decide_eq_true hf
    have hno := Lib.hid (show ¬ Gm.ok g from fun h => by have := h.1; omega)
    clear hr hf hty
    go_enter Tryz.func36, Tryz.ntmps36
    go_wp2
    go_ret
    exact ⟨by first | exact ⟨false, rfl, by simp; exact hno.out⟩ | exact .inl ⟨rfl, hno.out⟩, one_below _ _⟩
  have d1 : decide (g.frame < 0) = false := decide_eq_false hf
  by_cases hf2 : 1048576 < g.frame
  · have d2 : decide (1048576 < g.frame) = true := decide_eq_true hf2
    have hno := Lib.hid (show ¬ Gm.ok g from fun h => by have := h.2.1; omega)
    clear hr hf hf2 hty
    go_enter Tryz.func36, Tryz.ntmps36
    go_wp2
    go_ret
    exact ⟨by first | exact ⟨false, rfl, by simp; exact hno.out⟩ | exact .inl ⟨rfl, hno.out⟩, one_below _ _⟩
  have d2 : decide (1048576 < g.frame) = false := decide_eq_false hf2
  by_cases hf3 : 32 < (n : Int)
  · have d3 : decide (32 < (n : Int)) = true := decide_eq_true hf3
    have hno := Lib.hid (show ¬ Gm.ok g from fun h => by have := h.2.2.1; have := hN.out; omega)
    clear hr hf hf2 hf3 hty
    go_enter Tryz.func36, Tryz.ntmps36
    go_wp2
    go_ret
    exact ⟨by first | exact ⟨false, rfl, by simp; exact hno.out⟩ | exact .inl ⟨rfl, hno.out⟩, one_below _ _⟩
  have d3 : decide (32 < (n : Int)) = false := decide_eq_false hf3
  have HF := Lib.hid (show 0 ≤ g.frame ∧ g.frame ≤ 1048576 ∧ g.shots.length ≤ 32 from ⟨by omega, by omega, by have := hN.out; omega⟩)
  obtain ⟨_, _, hships, hshots⟩ := hty
  clear hf hf2 hf3
  go_enter Tryz.func36, Tryz.ntmps36
  go_wp2
  go_loopw [3] (fun i wr => ∃ k : Nat, k ≤ 8 ∧ i = .int .i64 k ∧ Box wr w.heap.size 28 (Gm.cells g (.slice A n c)) ∧ Below w.heap.size w wr ∧ ∀ j, j < k → Gm.okShip (g.ship j)) (fun i _ => 8 - (intOf i).toNat)
  case atStart => exact ⟨0, by omega, rfl, Box.made _ _ _, one_below _ _, fun j hj => absurd hj (Nat.not_lt_zero j)⟩
  case round =>
    obtain ⟨k, hk, rfl, hB, hb, hall⟩ := hrel
    have HALL := Lib.hid hall
    clear hall
    by_cases hlt : k < 8
    · have hcr := hB.cell
      have hlB := hB.lt
      have e0 := cells_at hcr hlt 0 (by omega)
      have e1 := cells_at hcr hlt 1 (by omega)
      have e2 := cells_at hcr hlt 2 (by omega)
      have e3 := cells_at hcr hlt 3 (by omega)
      have e4 := cells_at hcr hlt 4 (by omega)
      have e5 := cells_at hcr hlt 5 (by omega)
      have e6 := cells_at hcr hlt 6 (by omega)
      have ty := hships k hlt
      have HS := Lib.hid (show Gm.ok g → Gm.okShip (g.ship k) from fun h => h.2.2.2.1 k hlt)
      have HZ := Lib.hid (show Gm.okShip (g.ship k) → ∀ j, j < k + 1 → Gm.okShip (g.ship j) from fun h j hj => by
        by_cases e : j = k
        · rw [e]; exact h
        · exact HALL.out j (by omega))
      generalize g.ship k = s at e0 e1 e2 e3 e4 e5 e6 ty HS HZ
      obtain ⟨on, x, y, vx, vy, cool, score⟩ := s
      simp only [Gm.Ship.cells, List.getElem?_cons_zero, List.getElem?_cons_succ, Nat.add_zero] at e0 e1 e2 e3 e4 e5 e6
      obtain ⟨tx, ty, tvx, tvy, tc, ts⟩ := ty
      unfold Gm.i32 Gm.i64 at *
      dsimp only at tx ty tvx tvy tc ts
      have hk8 : (k : Int) < 8 := by omega
      have HB := Lib.hid hB
      have HBB := Lib.hid hb
      clear hc hcr hships hshots h0 h58 d1 d2 d3 hB hb
      cases on
      · by_cases hz : (⟨false, x, y, vx, vy, cool, score⟩ : Gm.Ship) = Gm.Ship.none
        · have ho := Lib.hid (HZ.out (by rw [hz]; refine ⟨.inr rfl, ?_, ?_, ?_, ?_, ?_, ?_, ?_, ?_⟩ <;> simp [Gm.Ship.none, Gm.inF, Gm.slow]))
          injection hz with z1 z2 z3 z4 z5 z6 z7
          subst z2 z3 z4 z5 z6 z7
          clear HS HZ tx ty tvx tvy tc ts
          go_wp2
          go_roundw
          case rel => exact ⟨k + 1, by omega, by go_num, HB.out.alloc _, HBB.out.alloc (Nat.le_of_lt hlB) _, ho.out⟩
          case measure => simp [intOf]; omega
        · have he := fun W => ship_neq ⟨false, x, y, vx, vy, cool, score⟩ Gm.Ship.none W
          rw [show (⟨false, x, y, vx, vy, cool, score⟩ : Gm.Ship).eqB Gm.Ship.none = false by
            cases hq : (⟨false, x, y, vx, vy, cool, score⟩ : Gm.Ship).eqB Gm.Ship.none
            · rfl
            · exact absurd (Gm.Ship.eqB_iff.1 hq) hz] at he
          simp only [Gm.Ship.cells, Gm.Ship.none, Bool.not_false] at he
          have hno := Lib.hid (show ¬ Gm.ok g from fun h => (HS.out h).1.elim (fun hh => absurd hh (by simp)) hz)
          clear HS HZ hz tx ty tvx tvy tc ts
          go_wp2
          go_ret
          exact ⟨by first | exact ⟨false, rfl, by simp; exact hno.out⟩ | exact .inl ⟨rfl, hno.out⟩, HBB.out.alloc (Nat.le_of_lt hlB) _⟩
      · skip
        have cx := fun X => Lib.hid (refin_any x tx X)
        have cy := fun X => Lib.hid (refin_any y ty X)
        have cvx := fun X => Lib.hid (refslow_any vx 524288 tvx (by omega) X)
        have cvy := fun X => Lib.hid (refslow_any vy 524288 tvy (by omega) X)
        obtain ⟨bx, hx⟩ : ∃ b, b = (decide (0 ≤ x) && decide (x < 16777216)) := ⟨_, rfl⟩
        obtain ⟨b_y, hy⟩ : ∃ b, b = (decide (0 ≤ y) && decide (y < 16777216)) := ⟨_, rfl⟩
        obtain ⟨bvx, hvx⟩ : ∃ b, b = (decide (-524288 ≤ vx) && decide (vx ≤ 524288)) := ⟨_, rfl⟩
        obtain ⟨bvy, hvy⟩ : ∃ b, b = (decide (-524288 ≤ vy) && decide (vy ≤ 524288)) := ⟨_, rfl⟩
        rw [← hx] at cx; rw [← hy] at cy; rw [← hvx] at cvx; rw [← hvy] at cvy
        have HX := Lib.hid (show bx = true ↔ Gm.inF x by rw [hx]; unfold Gm.inF; simp)
        have HY := Lib.hid (show b_y = true ↔ Gm.inF y by rw [hy]; unfold Gm.inF; simp)
        have HVX := Lib.hid (show bvx = true ↔ Gm.slow vx 524288 by rw [hvx]; unfold Gm.slow; simp)
        have HVY := Lib.hid (show bvy = true ↔ Gm.slow vy 524288 by rw [hvy]; unfold Gm.slow; simp)
        have HO := Lib.hid (show Gm.ok g → bx = true ∧ b_y = true ∧ bvx = true ∧ bvy = true ∧ 0 ≤ cool ∧ cool ≤ 10 ∧ 0 ≤ score ∧ score ≤ 1073741824 from fun h => by obtain ⟨_, h1, h2, h3, h4, h5, h6, h7, h8⟩ := HS.out h; exact ⟨HX.out.2 h1, HY.out.2 h2, HVX.out.2 h3, HVY.out.2 h4, h5, h6, h7, h8⟩)
        have HQ := Lib.hid (show (bx = true ∧ b_y = true ∧ bvx = true ∧ bvy = true ∧ 0 ≤ cool ∧ cool ≤ 10 ∧ 0 ≤ score ∧ score ≤ 1073741824) → ∀ j, j < k + 1 → Gm.okShip (g.ship j) from fun ⟨h1, h2, h3, h4, h5, h6, h7, h8⟩ => HZ.out ⟨.inl rfl, HX.out.1 h1, HY.out.1 h2, HVX.out.1 h3, HVY.out.1 h4, h5, h6, h7, h8⟩)
        clear hx hy hvx hvy HX HY HVX HVY HS HZ tx ty tvx tvy tc ts
        cases bx
        · have hno := Lib.hid (show ¬ Gm.ok g from fun h => by have := (HO.out h).1; simp at this)
          clear HO HQ
          go_wp2_with (first | (go_at_call 76; first | ((with_reducible refine ((cx _).out).mono ?_); rintro e v1 ⟨rfl, rfl⟩) | ((with_reducible refine ((cy _).out).mono ?_); rintro e v1 ⟨rfl, rfl⟩)) | (go_at_call 77; first | ((with_reducible refine ((cvx _).out).mono ?_); rintro e v1 ⟨rfl, rfl⟩) | ((with_reducible refine ((cvy _).out).mono ?_); rintro e v1 ⟨rfl, rfl⟩)))
          go_ret
          exact ⟨by first | exact ⟨false, rfl, by simp; exact hno.out⟩ | exact .inl ⟨rfl, hno.out⟩, HBB.out.alloc (Nat.le_of_lt hlB) _⟩
        cases b_y
        · have hno := Lib.hid (show ¬ Gm.ok g from fun h => by have := (HO.out h).2.1; simp at this)
          clear HO HQ
          go_wp2_with (first | (go_at_call 76; first | ((with_reducible refine ((cx _).out).mono ?_); rintro e v1 ⟨rfl, rfl⟩) | ((with_reducible refine ((cy _).out).mono ?_); rintro e v1 ⟨rfl, rfl⟩)) | (go_at_call 77; first | ((with_reducible refine ((cvx _).out).mono ?_); rintro e v1 ⟨rfl, rfl⟩) | ((with_reducible refine ((cvy _).out).mono ?_); rintro e v1 ⟨rfl, rfl⟩)))
          go_ret
          exact ⟨by first | exact ⟨false, rfl, by simp; exact hno.out⟩ | exact .inl ⟨rfl, hno.out⟩, HBB.out.alloc (Nat.le_of_lt hlB) _⟩
        cases bvx
        · have hno := Lib.hid (show ¬ Gm.ok g from fun h => by have := (HO.out h).2.2.1; simp at this)
          clear HO HQ
          go_wp2_with (first | (go_at_call 76; first | ((with_reducible refine ((cx _).out).mono ?_); rintro e v1 ⟨rfl, rfl⟩) | ((with_reducible refine ((cy _).out).mono ?_); rintro e v1 ⟨rfl, rfl⟩)) | (go_at_call 77; first | ((with_reducible refine ((cvx _).out).mono ?_); rintro e v1 ⟨rfl, rfl⟩) | ((with_reducible refine ((cvy _).out).mono ?_); rintro e v1 ⟨rfl, rfl⟩)))
          go_ret
          exact ⟨by first | exact ⟨false, rfl, by simp; exact hno.out⟩ | exact .inl ⟨rfl, hno.out⟩, HBB.out.alloc (Nat.le_of_lt hlB) _⟩
        cases bvy
        · have hno := Lib.hid (show ¬ Gm.ok g from fun h => by have := (HO.out h).2.2.2.1; simp at this)
          clear HO HQ
          go_wp2_with (first | (go_at_call 76; first | ((with_reducible refine ((cx _).out).mono ?_); rintro e v1 ⟨rfl, rfl⟩) | ((with_reducible refine ((cy _).out).mono ?_); rintro e v1 ⟨rfl, rfl⟩)) | (go_at_call 77; first | ((with_reducible refine ((cvx _).out).mono ?_); rintro e v1 ⟨rfl, rfl⟩) | ((with_reducible refine ((cvy _).out).mono ?_); rintro e v1 ⟨rfl, rfl⟩)))
          go_ret
          exact ⟨by first | exact ⟨false, rfl, by simp; exact hno.out⟩ | exact .inl ⟨rfl, hno.out⟩, HBB.out.alloc (Nat.le_of_lt hlB) _⟩
        by_cases q0 : cool < 0
        · have f0 : decide (cool < 0) = true := decide_eq_true q0
          have hno := Lib.hid (show ¬ Gm.ok g from fun h => by have := (HO.out h).2.2.2.2.1; omega)
          clear HO HQ q0
          go_wp2_with (first | (go_at_call 76; first | ((with_reducible refine ((cx _).out).mono ?_); rintro e v1 ⟨rfl, rfl⟩) | ((with_reducible refine ((cy _).out).mono ?_); rintro e v1 ⟨rfl, rfl⟩)) | (go_at_call 77; first | ((with_reducible refine ((cvx _).out).mono ?_); rintro e v1 ⟨rfl, rfl⟩) | ((with_reducible refine ((cvy _).out).mono ?_); rintro e v1 ⟨rfl, rfl⟩)))
          go_ret
          exact ⟨by first | exact ⟨false, rfl, by simp; exact hno.out⟩ | exact .inl ⟨rfl, hno.out⟩, HBB.out.alloc (Nat.le_of_lt hlB) _⟩
        have f0 : decide (cool < 0) = false := decide_eq_false q0
        by_cases q1 : 10 < cool
        · have f1 : decide (10 < cool) = true := decide_eq_true q1
          have hno := Lib.hid (show ¬ Gm.ok g from fun h => by have := (HO.out h).2.2.2.2.2.1; omega)
          clear HO HQ q0 q1
          go_wp2_with (first | (go_at_call 76; first | ((with_reducible refine ((cx _).out).mono ?_); rintro e v1 ⟨rfl, rfl⟩) | ((with_reducible refine ((cy _).out).mono ?_); rintro e v1 ⟨rfl, rfl⟩)) | (go_at_call 77; first | ((with_reducible refine ((cvx _).out).mono ?_); rintro e v1 ⟨rfl, rfl⟩) | ((with_reducible refine ((cvy _).out).mono ?_); rintro e v1 ⟨rfl, rfl⟩)))
          go_ret
          exact ⟨by first | exact ⟨false, rfl, by simp; exact hno.out⟩ | exact .inl ⟨rfl, hno.out⟩, HBB.out.alloc (Nat.le_of_lt hlB) _⟩
        have f1 : decide (10 < cool) = false := decide_eq_false q1
        by_cases q2 : score < 0
        · have f2 : decide (score < 0) = true := decide_eq_true q2
          have hno := Lib.hid (show ¬ Gm.ok g from fun h => by have := (HO.out h).2.2.2.2.2.2.1; omega)
          clear HO HQ q0 q1 q2
          go_wp2_with (first | (go_at_call 76; first | ((with_reducible refine ((cx _).out).mono ?_); rintro e v1 ⟨rfl, rfl⟩) | ((with_reducible refine ((cy _).out).mono ?_); rintro e v1 ⟨rfl, rfl⟩)) | (go_at_call 77; first | ((with_reducible refine ((cvx _).out).mono ?_); rintro e v1 ⟨rfl, rfl⟩) | ((with_reducible refine ((cvy _).out).mono ?_); rintro e v1 ⟨rfl, rfl⟩)))
          go_ret
          exact ⟨by first | exact ⟨false, rfl, by simp; exact hno.out⟩ | exact .inl ⟨rfl, hno.out⟩, HBB.out.alloc (Nat.le_of_lt hlB) _⟩
        have f2 : decide (score < 0) = false := decide_eq_false q2
        by_cases q3 : 1073741824 < score
        · have f3 : decide (1073741824 < score) = true := decide_eq_true q3
          have hno := Lib.hid (show ¬ Gm.ok g from fun h => by have := (HO.out h).2.2.2.2.2.2.2; omega)
          clear HO HQ q0 q1 q2 q3
          go_wp2_with (first | (go_at_call 76; first | ((with_reducible refine ((cx _).out).mono ?_); rintro e v1 ⟨rfl, rfl⟩) | ((with_reducible refine ((cy _).out).mono ?_); rintro e v1 ⟨rfl, rfl⟩)) | (go_at_call 77; first | ((with_reducible refine ((cvx _).out).mono ?_); rintro e v1 ⟨rfl, rfl⟩) | ((with_reducible refine ((cvy _).out).mono ?_); rintro e v1 ⟨rfl, rfl⟩)))
          go_ret
          exact ⟨by first | exact ⟨false, rfl, by simp; exact hno.out⟩ | exact .inl ⟨rfl, hno.out⟩, HBB.out.alloc (Nat.le_of_lt hlB) _⟩
        have f3 : decide (1073741824 < score) = false := decide_eq_false q3
        have ho := Lib.hid (HQ.out ⟨rfl, rfl, rfl, rfl, by omega, by omega, by omega, by omega⟩)
        clear HO HQ q0 q1 q2 q3
        go_wp2_with (first | (go_at_call 76; first | ((with_reducible refine ((cx _).out).mono ?_); rintro e v1 ⟨rfl, rfl⟩) | ((with_reducible refine ((cy _).out).mono ?_); rintro e v1 ⟨rfl, rfl⟩)) | (go_at_call 77; first | ((with_reducible refine ((cvx _).out).mono ?_); rintro e v1 ⟨rfl, rfl⟩) | ((with_reducible refine ((cvy _).out).mono ?_); rintro e v1 ⟨rfl, rfl⟩)))
        go_roundw
        case rel => exact ⟨k + 1, by omega, by go_num, HB.out.alloc _, HBB.out.alloc (Nat.le_of_lt hlB) _, ho.out⟩
        case measure => simp [intOf]; omega
    · have hk8 : ¬ (k : Int) < 8 := by omega
      have HA8 := Lib.hid (show ∀ j, j < 8 → Gm.okShip (g.ship j) from fun j hj => HALL.out j (by omega))
      have hcr := hB.cell
      have hlB := hB.lt
      clear hc hships h0 d1 d2 d3 HALL
      go_wp2
      go_loopw [5] (fun i wr => ∃ k : Nat, k ≤ n ∧ i = .int .i64 k ∧ Box wr w.heap.size 28 (Gm.cells g (.slice A n c)) ∧ Below w.heap.size w wr ∧ ∀ j (hj : j < g.shots.length), j < k → Gm.okShot (g.shots[j]'hj)) (fun i _ => n - (intOf i).toNat)
      case atStart => exact ⟨0, by omega, rfl, hB, hb, fun j _ hj => absurd hj (Nat.not_lt_zero j)⟩
      case round =>
        obtain ⟨m, hm, rfl, hB, hb, hall⟩ := hrel
        have HALL := Lib.hid hall
        clear hcr hlB hall
        have hcr := hB.cell
        have hlB := hB.lt
        by_cases hlt : m < n
        · have hml : m < g.shots.length := by have := hN.out; omega
          obtain ⟨ad, rfl, hbl, e0, e1, e2, e3, e4, e5⟩ := shots_at (hr.below hb) hN.out m hml
          have ty := hshots m hml
          have HS := Lib.hid (show Gm.ok g → Gm.okShot (g.shots[m]'hml) from fun h => h.2.2.2.2 m hml)
          have HZ := Lib.hid (show Gm.okShot (g.shots[m]'hml) → ∀ j (hj : j < g.shots.length), j < m + 1 → Gm.okShot (g.shots[j]'hj) from fun h j hjl hj => by
            by_cases e : j = m
            · subst e; exact h
            · exact HALL.out j hjl (by omega))
          generalize g.shots[m]'hml = s at e0 e1 e2 e3 e4 e5 ty HS HZ
          obtain ⟨owner, x, y, vx, vy, left⟩ := s
          dsimp only at e0 e1 e2 e3 e4 e5
          obtain ⟨to_, tx, ty, tvx, tvy, tl⟩ := ty
          unfold Gm.i32 Gm.i64 at *
          dsimp only at to_ tx ty tvx tvy tl
          have hmn : (m : Int) < n := by omega
          have HB := Lib.hid hB
          have HBB := Lib.hid hb
          clear hr hshots hb hB
          have cx := fun X => Lib.hid (refin_any x tx X)
          have cy := fun X => Lib.hid (refin_any y ty X)
          have cvx := fun X => Lib.hid (refslow_any vx 393216 tvx (by omega) X)
          have cvy := fun X => Lib.hid (refslow_any vy 393216 tvy (by omega) X)
          obtain ⟨bx, hx⟩ : ∃ b, b = (decide (0 ≤ x) && decide (x < 16777216)) := ⟨_, rfl⟩
          obtain ⟨b_y, hy⟩ : ∃ b, b = (decide (0 ≤ y) && decide (y < 16777216)) := ⟨_, rfl⟩
          obtain ⟨bvx, hvx⟩ : ∃ b, b = (decide (-393216 ≤ vx) && decide (vx ≤ 393216)) := ⟨_, rfl⟩
          obtain ⟨bvy, hvy⟩ : ∃ b, b = (decide (-393216 ≤ vy) && decide (vy ≤ 393216)) := ⟨_, rfl⟩
          rw [← hx] at cx; rw [← hy] at cy; rw [← hvx] at cvx; rw [← hvy] at cvy
          have HX := Lib.hid (show bx = true ↔ Gm.inF x by rw [hx]; unfold Gm.inF; simp)
          have HY := Lib.hid (show b_y = true ↔ Gm.inF y by rw [hy]; unfold Gm.inF; simp)
          have HVX := Lib.hid (show bvx = true ↔ Gm.slow vx 393216 by rw [hvx]; unfold Gm.slow; simp)
          have HVY := Lib.hid (show bvy = true ↔ Gm.slow vy 393216 by rw [hvy]; unfold Gm.slow; simp)
          have HO := Lib.hid (show Gm.ok g → bx = true ∧ b_y = true ∧ bvx = true ∧ bvy = true ∧ 0 ≤ owner ∧ owner < 8 ∧ 1 ≤ left ∧ left ≤ 24 from fun h => by obtain ⟨h5, h6, h1, h2, h3, h4, h7, h8⟩ := HS.out h; exact ⟨HX.out.2 h1, HY.out.2 h2, HVX.out.2 h3, HVY.out.2 h4, h5, h6, h7, h8⟩)
          have HQ := Lib.hid (show (bx = true ∧ b_y = true ∧ bvx = true ∧ bvy = true ∧ 0 ≤ owner ∧ owner < 8 ∧ 1 ≤ left ∧ left ≤ 24) → ∀ j (hj : j < g.shots.length), j < m + 1 → Gm.okShot (g.shots[j]'hj) from fun ⟨h1, h2, h3, h4, h5, h6, h7, h8⟩ => HZ.out ⟨h5, h6, HX.out.1 h1, HY.out.1 h2, HVX.out.1 h3, HVY.out.1 h4, h7, h8⟩)
          clear hx hy hvx hvy HX HY HVX HVY HS HZ tx ty tvx tvy to_ tl
          by_cases q0 : owner < 0
          · have f0 : decide (owner < 0) = true := decide_eq_true q0
            have hno := Lib.hid (show ¬ Gm.ok g from fun h => by have := (HO.out h).2.2.2.2.1; omega)
            clear HO HQ q0
            go_wp2_with (first | (go_at_call 76; first | ((with_reducible refine ((cx _).out).mono ?_); rintro e v1 ⟨rfl, rfl⟩) | ((with_reducible refine ((cy _).out).mono ?_); rintro e v1 ⟨rfl, rfl⟩)) | (go_at_call 77; first | ((with_reducible refine ((cvx _).out).mono ?_); rintro e v1 ⟨rfl, rfl⟩) | ((with_reducible refine ((cvy _).out).mono ?_); rintro e v1 ⟨rfl, rfl⟩)))
            go_ret
            exact ⟨by first | exact ⟨false, rfl, by simp; exact hno.out⟩ | exact .inl ⟨rfl, hno.out⟩, HBB.out.alloc (Nat.le_of_lt hlB) _⟩
          have f0 : decide (owner < 0) = false := decide_eq_false q0
          by_cases q1 : 8 ≤ owner
          · have f1 : decide (8 ≤ owner) = true := decide_eq_true q1
            have hno := Lib.hid (show ¬ Gm.ok g from fun h => by have := (HO.out h).2.2.2.2.2.1; omega)
            clear HO HQ q0 q1
            go_wp2_with (first | (go_at_call 76; first | ((with_reducible refine ((cx _).out).mono ?_); rintro e v1 ⟨rfl, rfl⟩) | ((with_reducible refine ((cy _).out).mono ?_); rintro e v1 ⟨rfl, rfl⟩)) | (go_at_call 77; first | ((with_reducible refine ((cvx _).out).mono ?_); rintro e v1 ⟨rfl, rfl⟩) | ((with_reducible refine ((cvy _).out).mono ?_); rintro e v1 ⟨rfl, rfl⟩)))
            go_ret
            exact ⟨by first | exact ⟨false, rfl, by simp; exact hno.out⟩ | exact .inl ⟨rfl, hno.out⟩, HBB.out.alloc (Nat.le_of_lt hlB) _⟩
          have f1 : decide (8 ≤ owner) = false := decide_eq_false q1
          cases bx
          · have hno := Lib.hid (show ¬ Gm.ok g from fun h => by have := (HO.out h).1; simp at this)
            clear HO HQ q0 q1
            go_wp2_with (first | (go_at_call 76; first | ((with_reducible refine ((cx _).out).mono ?_); rintro e v1 ⟨rfl, rfl⟩) | ((with_reducible refine ((cy _).out).mono ?_); rintro e v1 ⟨rfl, rfl⟩)) | (go_at_call 77; first | ((with_reducible refine ((cvx _).out).mono ?_); rintro e v1 ⟨rfl, rfl⟩) | ((with_reducible refine ((cvy _).out).mono ?_); rintro e v1 ⟨rfl, rfl⟩)))
            go_ret
            exact ⟨by first | exact ⟨false, rfl, by simp; exact hno.out⟩ | exact .inl ⟨rfl, hno.out⟩, HBB.out.alloc (Nat.le_of_lt hlB) _⟩
          cases b_y
          · have hno := Lib.hid (show ¬ Gm.ok g from fun h => by have := (HO.out h).2.1; simp at this)
            clear HO HQ q0 q1
            go_wp2_with (first | (go_at_call 76; first | ((with_reducible refine ((cx _).out).mono ?_); rintro e v1 ⟨rfl, rfl⟩) | ((with_reducible refine ((cy _).out).mono ?_); rintro e v1 ⟨rfl, rfl⟩)) | (go_at_call 77; first | ((with_reducible refine ((cvx _).out).mono ?_); rintro e v1 ⟨rfl, rfl⟩) | ((with_reducible refine ((cvy _).out).mono ?_); rintro e v1 ⟨rfl, rfl⟩)))
            go_ret
            exact ⟨by first | exact ⟨false, rfl, by simp; exact hno.out⟩ | exact .inl ⟨rfl, hno.out⟩, HBB.out.alloc (Nat.le_of_lt hlB) _⟩
          cases bvx
          · have hno := Lib.hid (show ¬ Gm.ok g from fun h => by have := (HO.out h).2.2.1; simp at this)
            clear HO HQ q0 q1
            go_wp2_with (first | (go_at_call 76; first | ((with_reducible refine ((cx _).out).mono ?_); rintro e v1 ⟨rfl, rfl⟩) | ((with_reducible refine ((cy _).out).mono ?_); rintro e v1 ⟨rfl, rfl⟩)) | (go_at_call 77; first | ((with_reducible refine ((cvx _).out).mono ?_); rintro e v1 ⟨rfl, rfl⟩) | ((with_reducible refine ((cvy _).out).mono ?_); rintro e v1 ⟨rfl, rfl⟩)))
            go_ret
            exact ⟨by first | exact ⟨false, rfl, by simp; exact hno.out⟩ | exact .inl ⟨rfl, hno.out⟩, HBB.out.alloc (Nat.le_of_lt hlB) _⟩
          cases bvy
          · have hno := Lib.hid (show ¬ Gm.ok g from fun h => by have := (HO.out h).2.2.2.1; simp at this)
            clear HO HQ q0 q1
            go_wp2_with (first | (go_at_call 76; first | ((with_reducible refine ((cx _).out).mono ?_); rintro e v1 ⟨rfl, rfl⟩) | ((with_reducible refine ((cy _).out).mono ?_); rintro e v1 ⟨rfl, rfl⟩)) | (go_at_call 77; first | ((with_reducible refine ((cvx _).out).mono ?_); rintro e v1 ⟨rfl, rfl⟩) | ((with_reducible refine ((cvy _).out).mono ?_); rintro e v1 ⟨rfl, rfl⟩)))
            go_ret
            exact ⟨by first | exact ⟨false, rfl, by simp; exact hno.out⟩ | exact .inl ⟨rfl, hno.out⟩, HBB.out.alloc (Nat.le_of_lt hlB) _⟩
          by_cases q2 : left < 1
          · have f2 : decide (left < 1) = true := decide_eq_true q2
            have hno := Lib.hid (show ¬ Gm.ok g from fun h => by have := (HO.out h).2.2.2.2.2.2.1; omega)
            clear HO HQ q0 q1 q2
            go_wp2_with (first | (go_at_call 76; first | ((with_reducible refine ((cx _).out).mono ?_); rintro e v1 ⟨rfl, rfl⟩) | ((with_reducible refine ((cy _).out).mono ?_); rintro e v1 ⟨rfl, rfl⟩)) | (go_at_call 77; first | ((with_reducible refine ((cvx _).out).mono ?_); rintro e v1 ⟨rfl, rfl⟩) | ((with_reducible refine ((cvy _).out).mono ?_); rintro e v1 ⟨rfl, rfl⟩)))
            go_ret
            exact ⟨by first | exact ⟨false, rfl, by simp; exact hno.out⟩ | exact .inl ⟨rfl, hno.out⟩, HBB.out.alloc (Nat.le_of_lt hlB) _⟩
          have f2 : decide (left < 1) = false := decide_eq_false q2
          by_cases q3 : 24 < left
          · have f3 : decide (24 < left) = true := decide_eq_true q3
            have hno := Lib.hid (show ¬ Gm.ok g from fun h => by have := (HO.out h).2.2.2.2.2.2.2; omega)
            clear HO HQ q0 q1 q2 q3
            go_wp2_with (first | (go_at_call 76; first | ((with_reducible refine ((cx _).out).mono ?_); rintro e v1 ⟨rfl, rfl⟩) | ((with_reducible refine ((cy _).out).mono ?_); rintro e v1 ⟨rfl, rfl⟩)) | (go_at_call 77; first | ((with_reducible refine ((cvx _).out).mono ?_); rintro e v1 ⟨rfl, rfl⟩) | ((with_reducible refine ((cvy _).out).mono ?_); rintro e v1 ⟨rfl, rfl⟩)))
            go_ret
            exact ⟨by first | exact ⟨false, rfl, by simp; exact hno.out⟩ | exact .inl ⟨rfl, hno.out⟩, HBB.out.alloc (Nat.le_of_lt hlB) _⟩
          have f3 : decide (24 < left) = false := decide_eq_false q3
          have ho := Lib.hid (HQ.out ⟨rfl, rfl, rfl, rfl, by omega, by omega, by omega, by omega⟩)
          clear HO HQ q0 q1 q2 q3
          go_wp2_with (first | (go_at_call 76; first | ((with_reducible refine ((cx _).out).mono ?_); rintro e v1 ⟨rfl, rfl⟩) | ((with_reducible refine ((cy _).out).mono ?_); rintro e v1 ⟨rfl, rfl⟩)) | (go_at_call 77; first | ((with_reducible refine ((cvx _).out).mono ?_); rintro e v1 ⟨rfl, rfl⟩) | ((with_reducible refine ((cvy _).out).mono ?_); rintro e v1 ⟨rfl, rfl⟩)))
          go_roundw
          case rel => exact ⟨m + 1, by omega, by go_num, HB.out.alloc _, HBB.out.alloc (Nat.le_of_lt hlB) _, ho.out⟩
          case measure => simp [intOf]; omega
        · have hmn : ¬ (m : Int) < n := by omega
          have hyes := Lib.hid (show Gm.ok g from ⟨HF.out.1, HF.out.2.1, HF.out.2.2, HA8.out, fun j hj => HALL.out j hj (by have := hN.out; omega)⟩)
          have HBB := Lib.hid hb
          clear hr hshots hb hB HALL
          go_wp2
          go_ret
          exact ⟨by first | exact ⟨true, rfl, by simp; exact hyes.out⟩ | exact .inr ⟨rfl, hyes.out⟩, HBB.out⟩
end Go.Proofs.YtkkhdaeihnbilaaGreat
namespace Go.Proofs.YtkkhdaeihnbilaaGreat
open Go.RowKit Go.Shelf
set_option linter.unusedVariables false
set_option linter.unusedSimpArgs false

set_option maxRecDepth 100000 in
set_option maxHeartbeats 8000000 in
theorem refros_may (r : Ros.R) (w : World) :
    Calls Tryz.prog 37 #[.agg (Ros.cells r)] w fun e w' => (∃ v, e = .returned (.bool v) ∧ (v = true ↔ Ros.Ok r)) ∧ Below w.heap.size w w' := by
  have hc : ∀ W : World, ∀ j, (W.alloc (.cells (Ros.cells r) 33)).cell? ⟨W.heap.size, j, none⟩ = (Ros.cells r)[j]? := fun W j => (Box.made W _ _).cell j
  have h0 := Ros.cells_0 r
  by_cases hv1 : r.version < 0
  · have d1 : decide (r.version < 0) = true := decide_eq_true hv1
    have hno := Lib.hid (show ¬ Ros.Ok r from fun h => by have := h.1; omega)
    clear hv1
    go_enter Tryz.func37, Tryz.ntmps37
    go_wp2
    go_ret
    exact ⟨by first | exact ⟨false, rfl, by simp; exact hno.out⟩ | exact .inl ⟨rfl, hno.out⟩, one_below _ _⟩
  have d1 : decide (r.version < 0) = false := decide_eq_false hv1
  by_cases hv2 : 1073741824 < r.version
  · have d2 : decide (1073741824 < r.version) = true := decide_eq_true hv2
    have hno := Lib.hid (show ¬ Ros.Ok r from fun h => by have := h.1; omega)
    clear hv1 hv2
    go_enter Tryz.func37, Tryz.ntmps37
    go_wp2
    go_ret
    exact ⟨by first | exact ⟨false, rfl, by simp; exact hno.out⟩ | exact .inl ⟨rfl, hno.out⟩, one_below _ _⟩
  have d2 : decide (1073741824 < r.version) = false := decide_eq_false hv2
  have HV := Lib.hid (show 0 ≤ r.version ∧ r.version ≤ 1073741824 from ⟨by omega, by omega⟩)
  clear hv1 hv2
  go_enter Tryz.func37, Tryz.ntmps37
  go_wp2
  go_loopw [3] (fun i wr => ∃ k : Nat, k ≤ 8 ∧ i = .int .i64 k ∧ Box wr w.heap.size 33 (Ros.cells r) ∧ Below w.heap.size w wr ∧ (∀ j, j < k → Ros.OkSeat r j) ∧ ∀ j i, j < i → i < k → r.peer j = -1 ∨ r.peer j ≠ r.peer i) (fun i _ => 8 - (intOf i).toNat)
  case atStart => exact ⟨0, by omega, rfl, Box.made _ _ _, one_below _ _, fun j hj => absurd hj (Nat.not_lt_zero j), fun j i _ hi => absurd hi (Nat.not_lt_zero i)⟩
  case round =>
    obtain ⟨k, hk, rfl, hB, hb, hall, hp⟩ := hrel
    have HALL := Lib.hid hall
    have HP := Lib.hid hp
    clear hall hp d1 d2 h0 hc
    by_cases hlt : k < 8
    · have hk8 : (k : Int) < 8 := by omega
      have rc := hB.cell
      have hlB := hB.lt
      have rp := Ros.cells_peer r k hlt
      have rg := Ros.cells_gen r k hlt
      have HS := Lib.hid (show Ros.Ok r → (0 ≤ r.gen k ∧ r.gen k ≤ 60000) ∧ (r.peer k = -1 ∨ ((0 ≤ r.peer k ∧ r.peer k < 12) ∧ 0 < r.gen k)) from fun h => h.seat k hlt)
      have HZ := Lib.hid (show (0 ≤ r.gen k ∧ r.gen k ≤ 60000) ∧ (r.peer k = -1 ∨ ((0 ≤ r.peer k ∧ r.peer k < 12) ∧ 0 < r.gen k)) → ∀ j, j < k + 1 → Ros.OkSeat r j from fun h j hj => by
        by_cases e : j = k
        · rw [e]; exact h
        · exact HALL.out j (by omega))
      obtain ⟨p, hpk⟩ : ∃ p, p = r.peer k := ⟨_, rfl⟩
      obtain ⟨g, hgk⟩ : ∃ g, g = r.gen k := ⟨_, rfl⟩
      rw [← hpk] at rp HS HZ
      rw [← hgk] at rg HS HZ
      have HPK := Lib.hid hpk
      have HB := Lib.hid hB
      have HBB := Lib.hid hb
      clear hpk hgk hB hb HALL
      by_cases q0 : p < -1
      · have f0 : decide (p < -1) = true := decide_eq_true q0
        have hno := Lib.hid (show ¬ Ros.Ok r from fun h => by have := HS.out h; omega)
        clear HS HZ q0
        go_wp2
        go_ret
        exact ⟨by first | exact ⟨false, rfl, by simp; exact hno.out⟩ | exact .inl ⟨rfl, hno.out⟩, HBB.out.alloc (Nat.le_of_lt hlB) _⟩
      have f0 : decide (p < -1) = false := decide_eq_false q0
      by_cases q1 : 12 ≤ p
      · have f1 : decide (12 ≤ p) = true := decide_eq_true q1
        have hno := Lib.hid (show ¬ Ros.Ok r from fun h => by have := HS.out h; omega)
        clear HS HZ q0 q1
        go_wp2
        go_ret
        exact ⟨by first | exact ⟨false, rfl, by simp; exact hno.out⟩ | exact .inl ⟨rfl, hno.out⟩, HBB.out.alloc (Nat.le_of_lt hlB) _⟩
      have f1 : decide (12 ≤ p) = false := decide_eq_false q1
      by_cases q2 : g < 0
      · have f2 : decide (g < 0) = true := decide_eq_true q2
        have hno := Lib.hid (show ¬ Ros.Ok r from fun h => by have := HS.out h; omega)
        clear HS HZ q0 q1 q2
        go_wp2
        go_ret
        exact ⟨by first | exact ⟨false, rfl, by simp; exact hno.out⟩ | exact .inl ⟨rfl, hno.out⟩, HBB.out.alloc (Nat.le_of_lt hlB) _⟩
      have f2 : decide (g < 0) = false := decide_eq_false q2
      by_cases q3 : 60000 < g
      · have f3 : decide (60000 < g) = true := decide_eq_true q3
        have hno := Lib.hid (show ¬ Ros.Ok r from fun h => by have := HS.out h; omega)
        clear HS HZ q0 q1 q2 q3
        go_wp2
        go_ret
        exact ⟨by first | exact ⟨false, rfl, by simp; exact hno.out⟩ | exact .inl ⟨rfl, hno.out⟩, HBB.out.alloc (Nat.le_of_lt hlB) _⟩
      have f3 : decide (60000 < g) = false := decide_eq_false q3
      by_cases q4 : 0 ≤ p
      · have f4 : decide (0 ≤ p) = true := decide_eq_true q4
        by_cases q5 : g < 1
        · have f5 : decide (g < 1) = true := decide_eq_true q5
          have hno := Lib.hid (show ¬ Ros.Ok r from fun h => by have := HS.out h; omega)
          clear HS HZ q0 q1 q2 q3 q4 q5
          go_wp2
          go_ret
          exact ⟨by first | exact ⟨false, rfl, by simp; exact hno.out⟩ | exact .inl ⟨rfl, hno.out⟩, HBB.out.alloc (Nat.le_of_lt hlB) _⟩
        have f5 : decide (g < 1) = false := decide_eq_false q5
        have hnew := Lib.hid (HZ.out (by omega))
        clear HS HZ q0 q1 q2 q3 q5
        go_wp2
        go_loopw [5] (fun i wr2 => ∃ m : Nat, m ≤ k ∧ i = .int .i64 m ∧ Box wr2 w.heap.size 33 (Ros.cells r) ∧ Box wr2 wr.heap.size 30 #[.int .i64 p, .int .i64 g] ∧ Below w.heap.size w wr2 ∧ ∀ j, j < m → r.peer j = -1 ∨ r.peer j ≠ p) (fun i _ => k - (intOf i).toNat)
        case atStart => exact ⟨0, by omega, rfl, HB.out.alloc _, Box.made _ _ _, HBB.out.alloc (Nat.le_of_lt hlB) _, fun j hj => absurd hj (Nat.not_lt_zero j)⟩
        case round =>
          obtain ⟨m, hm, rfl, hB2, hS2, hb2, hall2⟩ := hrel
          have HALL2 := Lib.hid hall2
          clear hall2 rc rp rg
          by_cases hmk : m < k
          · have hm8 : m < 8 := by omega
            have hm8' : (m : Int) < 8 := by omega
            have hmk' : (m : Int) < k := by omega
            have rc := hB2.cell
            have sc := hS2.cell
            have rp := Ros.cells_peer r m hm8
            have s0 : (#[.int .i64 p, .int .i64 g] : Array Value)[0]? = some (.int .i64 p) := rfl
            obtain ⟨q, hq⟩ : ∃ q, q = r.peer m := ⟨_, rfl⟩
            rw [← hq] at rp
            have HB2 := Lib.hid hB2
            have HS2 := Lib.hid hS2
            have HBB2 := Lib.hid hb2
            by_cases hqp : q = p
            · have hqe : (q == p) = true := by simpa using hqp
              have hno := Lib.hid (show ¬ Ros.Ok r from fun h => by
                have := (Ros.ok_iff.1 h).2.2 m k hmk hlt
                rw [← hq, ← HPK.out] at this
                omega)
              clear hq hqp hB2 hS2 hb2 q4
              go_upto_region 12 with fail
              go_quiet (fail)
              go_wp2
              go_ret
              exact ⟨by first | exact ⟨false, rfl, by simp; exact hno.out⟩ | exact .inl ⟨rfl, hno.out⟩, draws_below HBB2.out _⟩
            have hqe : (q == p) = false := by simpa using hqp
            have hn2 := Lib.hid (show ∀ j, j < m + 1 → r.peer j = -1 ∨ r.peer j ≠ p from fun j hj => by
              by_cases e : j = m
              · rw [e, ← hq]; exact .inr hqp
              · exact HALL2.out j (by omega))
            clear hq hB2 hS2 hb2 hqp q4
            go_upto_region 12 with fail
            go_quiet (fail)
            go_wp2
            go_roundw
            case rel => exact ⟨m + 1, by omega, by go_num, HB2.out.draws _, HS2.out.draws _, draws_below HBB2.out _, hn2.out⟩
            case measure => simp [intOf]; omega
          · have hmk' : ¬ (m : Int) < k := by omega
            have HB2 := Lib.hid hB2
            have HBB2 := Lib.hid hb2
            have hall3 := Lib.hid (show ∀ j i, j < i → i < k + 1 → r.peer j = -1 ∨ r.peer j ≠ r.peer i from fun j i hji hi => by
              by_cases e : i = k
              · rw [e, ← HPK.out]; exact HALL2.out j (by omega)
              · exact HP.out j i hji (by omega))
            clear hB2 hS2 hb2
            go_wp2
            go_roundw
            case rel => exact ⟨k + 1, by omega, by go_num, HB2.out, HBB2.out, hnew.out, hall3.out⟩
            case measure => simp [intOf]; omega
      · have f4 : decide (0 ≤ p) = false := decide_eq_false q4
        have hpm := Lib.hid (show p = -1 by omega)
        have hnew := Lib.hid (HZ.out (by omega))
        clear HS HZ q0 q1 q2 q3 
        go_wp2
        go_loopw [5] (fun i wr2 => ∃ m : Nat, m ≤ k ∧ i = .int .i64 m ∧ Box wr2 w.heap.size 33 (Ros.cells r) ∧ Box wr2 wr.heap.size 30 #[.int .i64 p, .int .i64 g] ∧ Below w.heap.size w wr2 ∧ ∀ j, j < m → r.peer j = -1 ∨ r.peer j ≠ p) (fun i _ => k - (intOf i).toNat)
        case atStart => exact ⟨0, by omega, rfl, HB.out.alloc _, Box.made _ _ _, HBB.out.alloc (Nat.le_of_lt hlB) _, fun j hj => absurd hj (Nat.not_lt_zero j)⟩
        case round =>
          obtain ⟨m, hm, rfl, hB2, hS2, hb2, hall2⟩ := hrel
          have HALL2 := Lib.hid hall2
          clear hall2 rc rp rg
          by_cases hmk : m < k
          · have hm8 : m < 8 := by omega
            have hm8' : (m : Int) < 8 := by omega
            have hmk' : (m : Int) < k := by omega
            have rc := hB2.cell
            have sc := hS2.cell
            have rp := Ros.cells_peer r m hm8
            have s0 : (#[.int .i64 p, .int .i64 g] : Array Value)[0]? = some (.int .i64 p) := rfl
            obtain ⟨q, hq⟩ : ∃ q, q = r.peer m := ⟨_, rfl⟩
            rw [← hq] at rp
            have HB2 := Lib.hid hB2
            have HS2 := Lib.hid hS2
            have HBB2 := Lib.hid hb2
            have hn2 := Lib.hid (show ∀ j, j < m + 1 → r.peer j = -1 ∨ r.peer j ≠ p from fun j hj => by
              by_cases e : j = m
              · rw [e, ← hq]; first | (by_cases e2 : q = -1; exact .inl e2; exact .inr (fun e3 => e2 (by have := hpm.out; omega)))
              · exact HALL2.out j (by omega))
            clear hq hB2 hS2 hb2 q4
            go_upto_region 12 with fail
            go_quiet (fail)
            go_wp2
            go_roundw
            case rel => exact ⟨m + 1, by omega, by go_num, HB2.out.draws _, HS2.out.draws _, draws_below HBB2.out _, hn2.out⟩
            case measure => simp [intOf]; omega
          · have hmk' : ¬ (m : Int) < k := by omega
            have HB2 := Lib.hid hB2
            have HBB2 := Lib.hid hb2
            have hall3 := Lib.hid (show ∀ j i, j < i → i < k + 1 → r.peer j = -1 ∨ r.peer j ≠ r.peer i from fun j i hji hi => by
              by_cases e : i = k
              · rw [e, ← HPK.out]; exact HALL2.out j (by omega)
              · exact HP.out j i hji (by omega))
            clear hB2 hS2 hb2
            go_wp2
            go_roundw
            case rel => exact ⟨k + 1, by omega, by go_num, HB2.out, HBB2.out, hnew.out, hall3.out⟩
            case measure => simp [intOf]; omega
    · have hk8 : ¬ (k : Int) < 8 := by omega
      have hyes := Lib.hid (show Ros.Ok r from Ros.ok_iff.2 ⟨HV.out, fun j hj => HALL.out j (by omega), fun j i hji hi => HP.out j i hji (by omega)⟩)
      have HBB := Lib.hid hb
      clear hB hb
      go_wp2
      go_ret
      exact ⟨by first | exact ⟨true, rfl, by simp; exact hyes.out⟩ | exact .inr ⟨rfl, hyes.out⟩, HBB.out⟩
end Go.Proofs.YtkkhdaeihnbilaaGreat
