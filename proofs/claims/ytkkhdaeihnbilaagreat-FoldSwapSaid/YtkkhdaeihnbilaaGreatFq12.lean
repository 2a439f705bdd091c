/-
Several texts in one: Sg Sh Ra Rat.
-/
import Derived.Test.YtkkhdaeihnbilaaGreatFq11
namespace Go.Proofs.YtkkhdaeihnbilaaGreat
open Go.RowKit Go.Shelf
set_option linter.unusedVariables false
set_option linter.unusedSimpArgs false


theorem behind_is {s u : Fd.S} {e : En.E} {w w' : World} {r : Ending} (h : Fd.apply s e = some u) (hB : Behind s e w r w') : SOne u.g u.r w r w' := by
  unfold Behind at hB
  rw [h] at hB
  rcases hB with ⟨v, hv, h2⟩ | ⟨hno, _⟩
  · obtain rfl : u = v := Option.some.inj hv
    exact h2
  · cases hno
theorem behind_not {s : Fd.S} {e : En.E} {w w' : World} {r : Ending} (h : Fd.apply s e = none) (hB : Behind s e w r w') : Thrown 1 w r w' := by
  unfold Behind at hB
  rw [h] at hB
  rcases hB with ⟨v, hv, h2⟩ | ⟨_, h2⟩
  · cases hv
  · exact h2
theorem behind_some (s u : Fd.S) (e : En.E) (A A2 : Option Addr) (n c m c2 : Nat) (w : World) (hty : Gm.ty s.g) (hn60 : n ≤ 60) (hn : n = s.g.shots.length) (hr : Lies w w.heap.size 6 A n (Gm.shotCells s.g.shots)) (hm : m = e.evs.length) (hm63 : m ≤ maxLen) (hE : Lies w w.heap.size 4 A2 m (En.evCells e.evs)) (hin : ∀ i, i < 8 → Gm.tyIn (e.inp i)) (h : Fd.apply s e = some u) :
    Calls Tryz.prog 29 #[.agg (Im.cells s.g (.slice A n c) s.r), .agg (En.cells e (.slice A2 m c2))] w (SOne u.g u.r w) := by
  exact (behind_go s e A A2 n c m c2 w hty hn60 hn hr hm hm63 hE hin (Fd.apply_some h).1).mono fun r w' hB => behind_is h hB
theorem behind_none (s : Fd.S) (e : En.E) (A A2 : Option Addr) (n c m c2 : Nat) (w : World) (hty : Gm.ty s.g) (hn60 : n ≤ 60) (hn : n = s.g.shots.length) (hr : Lies w w.heap.size 6 A n (Gm.shotCells s.g.shots)) (hm : m = e.evs.length) (hm63 : m ≤ maxLen) (hE : Lies w w.heap.size 4 A2 m (En.evCells e.evs)) (hin : ∀ i, i < 8 → Gm.tyIn (e.inp i)) (h : Fd.apply s e = none) :
    Calls Tryz.prog 29 #[.agg (Im.cells s.g (.slice A n c) s.r), .agg (En.cells e (.slice A2 m c2))] w (Thrown 1 w) := by
  by_cases hmay : Fd.May s e
  · exact (behind_go s e A A2 n c m c2 w hty hn60 hn hr hm hm63 hE hin hmay).mono fun r w' hB => behind_not h hB
  · exact behind_no s e A A2 n c m c2 w hty hn60 hn hr hm hm63 hE hmay

set_option maxHeartbeats 1000000 in
theorem apply1_some (u : Fd.S) (s : Fd.S) (e : En.E) (A A2 : Option Addr) (n c m c2 Bs Be : Nat) (w : World) (hty : Gm.ty s.g) (hn60 : n ≤ 60) (hn : n = s.g.shots.length) (hr : Lies w w.heap.size 6 A n (Gm.shotCells s.g.shots)) (hm : m = e.evs.length) (hm63 : m ≤ maxLen) (hE : Lies w w.heap.size 4 A2 m (En.evCells e.evs)) (hin : ∀ i, i < 8 → Gm.tyIn (e.inp i)) (hB : Box w Bs 35 (Im.cells s.g (.slice A n c) s.r)) (hBe : Box w Be 42 (En.cells e (.slice A2 m c2))) (h : Fd.apply s e = some u) :
    Calls Tryz.prog 28 #[.pointer (some ⟨Bs, 0, none⟩), .pointer (some ⟨Be, 0, none⟩)] w (SOne u.g u.r w) := by
  have N0 := Lib.hid (Box.made w 35 Im.zero)
  have K0 := Lib.hid (one_below w (.cells Im.zero 35))
  have B1 := Lib.hid (hB.alloc (.cells Im.zero 35))
  have E1 := Lib.hid (hBe.alloc (.cells Im.zero 35))
  have cb := Lib.hid (behind_some s u e A A2 n c m c2 _ hty hn60 hn (hr.call K0.out) hm hm63 ((hE.below K0.out).wider K0.out.size) hin h)
  clear hty hr hE hn hm hm63 hin h hB hBe
  go_enter Tryz.func28, Tryz.ntmps28
  go_wp2_with (first | (with_reducible refine alloc_state rfl rfl ?_) | ((with_reducible refine im_load_state rfl rfl ?_); apply LoadIm.mk rfl; (focus (with_reducible exact B1.out)); dsimp only) | ((with_reducible refine en_load rfl rfl ?_); apply LoadEn.mk rfl; (focus (with_reducible exact E1.out)); dsimp only) | (go_at_call 29; ((with_reducible refine ((cb).out).mono ?_); rintro x w2 ⟨A1, c1, rfl, hL, hb⟩; have N2 := Lib.hid (N0.out.below hb N0.out.lt); have K2 := Lib.hid (K0.out.trans (hb.mono K0.out.size)); have L2 := Lib.hid hL; clear hb hL)) | ((with_reducible refine im_store_state rfl rfl ?_); apply StoreS.mk rfl rfl; (focus (with_reducible exact N2.out)); (focus (exact Im.zero_size)); (focus rfl)))
  refine bodyPost_ret (v := .agg (Im.cells u.g (.slice A1 u.g.shots.length c1) u.r)) ?_ ?_ ?_
  · exact results_cell_row rfl _ _ _ _ (Im.cells u.g (.slice A1 u.g.shots.length c1) u.r) (0, 0) _ rfl (N2.out.row _).is Tryz.underlying35 rfl (by rw [Im.cells_size]; exact state_info)
  · rfl
  · exact ⟨A1, c1, rfl, L2.out.zero_row rfl N2.out _, Below.setRow' K2.out (Nat.le_refl _) _⟩
set_option maxHeartbeats 1000000 in
theorem apply1_none (s : Fd.S) (e : En.E) (A A2 : Option Addr) (n c m c2 Bs Be : Nat) (w : World) (hty : Gm.ty s.g) (hn60 : n ≤ 60) (hn : n = s.g.shots.length) (hr : Lies w w.heap.size 6 A n (Gm.shotCells s.g.shots)) (hm : m = e.evs.length) (hm63 : m ≤ maxLen) (hE : Lies w w.heap.size 4 A2 m (En.evCells e.evs)) (hin : ∀ i, i < 8 → Gm.tyIn (e.inp i)) (hB : Box w Bs 35 (Im.cells s.g (.slice A n c) s.r)) (hBe : Box w Be 42 (En.cells e (.slice A2 m c2))) (h : Fd.apply s e = none) :
    Calls Tryz.prog 28 #[.pointer (some ⟨Bs, 0, none⟩), .pointer (some ⟨Be, 0, none⟩)] w (Thrown 1 w) := by
  have K0 := Lib.hid (one_below w (.cells Im.zero 35))
  have B1 := Lib.hid (hB.alloc (.cells Im.zero 35))
  have E1 := Lib.hid (hBe.alloc (.cells Im.zero 35))
  have cb := Lib.hid (behind_none s e A A2 n c m c2 _ hty hn60 hn (hr.call K0.out) hm hm63 ((hE.below K0.out).wider K0.out.size) hin h)
  clear hty hr hE hn hm hm63 hin h hB hBe
  go_enter Tryz.func28, Tryz.ntmps28
  go_wp2_with (first | (with_reducible refine alloc_state rfl rfl ?_) | ((with_reducible refine im_load_state rfl rfl ?_); apply LoadIm.mk rfl; (focus (with_reducible exact B1.out)); dsimp only) | ((with_reducible refine en_load rfl rfl ?_); apply LoadEn.mk rfl; (focus (with_reducible exact E1.out)); dsimp only) | (go_at_call 29; ((with_reducible refine ((cb).out).mono ?_); rintro x w2 ⟨rfl, hb⟩; have K2 := Lib.hid (K0.out.trans (hb.mono K0.out.size)); clear hb)))
  exact ⟨rfl, rfl, K2.out⟩

/-- A list of shots lies in no block of one number. -/
theorem Lies.int_cell {w : World} {n Bc : Nat} {A : Option Addr} {l : List Gm.Shot} {y : Int} (h : Lies w w.heap.size 6 A n (Gm.shotCells l)) (hn : n = l.length) (hC : Box w Bc 3 #[.int .i64 y]) (v : Value) : Lies (w.setCell ⟨Bc, 0, none⟩ v) (w.setCell ⟨Bc, 0, none⟩ v).heap.size 6 A n (Gm.shotCells l) := by
  refine ⟨h.len, fun hn0 => by obtain ⟨ad, e, hb⟩ := h.start hn0; exact ⟨ad, e, by rw [World.size_setCell]; exact hb⟩, fun ad e h0 j u hu => ?_⟩
  have hne : ad.block ≠ Bc := fun eb => by
    subst hn
    have hlt : 0 < l.length := by omega
    have hc := h.cell ad e h0
    have e1 := hc 1 (.int .i32 l[0].x) (by have := Gm.shotCells_at l 0 1 hlt (by omega); simpa [Gm.Shot.cells] using this)
    rw [show ad.add 1 = ⟨ad.block, ad.off + 1, none⟩ from rfl, eb, hC.cell] at e1
    have := (Array.getElem?_eq_some_iff.1 e1).1
    simp at this
  rw [World.cell?_of_block (w := w) (by rw [add_block]; exact heap_setCell_other w ⟨Bc, 0, none⟩ _ v hne)]
  exact h.cell ad e h0 j u hu

set_option maxRecDepth 100000 in
set_option maxHeartbeats 1000000 in
theorem attempt_apply_some (g g' : Gm.G) (r r' : Ros.R) (A : Option Addr) (n c Bs Be : Nat) (w : World) (hcall : ∀ W, Below w.heap.size w W → Calls Tryz.prog 28 #[.pointer (some ⟨Bs, 0, none⟩), .pointer (some ⟨Be, 0, none⟩)] W (SOne g' r' W)) :
    Calls Tryz.prog 27 #[.agg (Im.cells g (.slice A n c) r), .func (.func 28) #[] #[.pointer (some ⟨Bs, 0, none⟩), .pointer (some ⟨Be, 0, none⟩)]] w (SOut g' r' 0 w) := by
  have hmf : ∀ (fn : Fn) (first cap : Array Value) (w : World), (Instr.makeFunc fn first cap).run Tryz.prog w = .ok (.func fn first cap) w := fun _ _ _ _ => rfl
  have S1 := Lib.hid (((Box.made w 35 (Im.cells g (.slice A n c) r)).alloc (.cells Im.zero 35)).alloc (.cells #[.int .i64 0] 3))
  have N1 := Lib.hid ((Box.made_at (n := w.heap.size + 1) (w.alloc (.cells (Im.cells g (.slice A n c) r) 35)) 35 Im.zero (by simp)).alloc (.cells #[.int .i64 0] 3))
  have C1 := Lib.hid (Box.made_at (n := w.heap.size + 1 + 1) ((w.alloc (.cells (Im.cells g (.slice A n c) r) 35)).alloc (.cells Im.zero 35)) 3 #[.int .i64 0] (by simp))
  have K1 := Lib.hid ((two_below' w (.cells (Im.cells g (.slice A n c) r) 35) (.cells Im.zero 35)).alloc (by simp <;> omega) (.cells #[.int .i64 0] 3))
  have cl := Lib.hid (hcall _ K1.out)
  clear hcall
  go_enter_defers Tryz.func27, Tryz.ntmps27
  go_wp2_with (first | (with_reducible refine alloc_state rfl rfl ?_) | (go_at_call 28; ((with_reducible refine ((cl).out).mono ?_); rintro x w2 ⟨A1, c1, rfl, hL, hb⟩; have N2 := Lib.hid (N1.out.below hb N1.out.lt); have C2 := C1.out.below hb C1.out.lt; have C3 := Lib.hid (C2.row_far (show w.heap.size + 1 + 1 ≠ w.heap.size + 1 by omega) (Im.cells g' (.slice A1 g'.shots.length c1) r')); have k3 := C3.out.cell 0; have f3 := C3.out.free 0; have K2 := Lib.hid (K1.out.trans (hb.mono K1.out.size)); have L2 := Lib.hid hL; clear hb hL C2)) | ((with_reducible refine im_store_state rfl rfl ?_); apply StoreS.mk rfl rfl; (focus (with_reducible exact N2.out)); (focus (exact Im.zero_size)); (focus rfl)))
  have ne : w.heap.size + 1 ≠ w.heap.size + 1 + 1 := by omega
  have N4 := (N2.out.row (Im.cells g' (.slice A1 g'.shots.length c1) r')).far (p := ⟨w.heap.size + 1 + 1, 0, none⟩) ne (.int .i64 0)
  have C4 := C3.out.put 0 (.int .i64 0)
  have K4 := (Below.setRow' (g := w.heap.size + 1) K2.out (Nat.le_succ _) (Im.cells g' (.slice A1 g'.shots.length c1) r')).setCell (p := ⟨w.heap.size + 1 + 1, 0, none⟩) (by show w.heap.size ≤ w.heap.size + 1 + 1; omega) (.int .i64 0)
  have L4 := (L2.out.zero_row rfl N2.out (Im.cells g' (.slice A1 g'.shots.length c1) r')).int_cell rfl C3.out (.int .i64 0)
  refine leaves_cons (f := 56) (args := #[.pointer (some ⟨w.heap.size, 0, none⟩), .pointer (some ⟨w.heap.size + 1, 0, none⟩), .pointer (some ⟨w.heap.size + 1 + 1, 0, none⟩)]) (by simp) (by simp [go_sem]) ?_
  refine (catch_idle_fold _ _ _ _).mono ?_
  rintro e u' w'' ⟨rfl, rfl, rfl⟩
  have hr := fun (tmps : Array Value) h1 h2 => results_cells2 (fn := Tryz.f27) (p := 4) (q := 5) rfl tmps _ (w.heap.size + 1) (w.heap.size + 1 + 1) 35 (Im.cells g' (.slice A1 g'.shots.length c1) r') _ 0 h1 h2 N4 (by simpa using C4) Tryz.underlying35 rfl (by rw [Im.cells_size]; exact state_info)
  show Leaves Tryz.prog _ _ _ [] .returning _
  exact ⟨_, hr _ rfl rfl, A1, c1, rfl, L4, K4⟩

set_option maxRecDepth 100000 in
set_option maxHeartbeats 1000000 in
theorem attempt_apply_none (g : Gm.G) (r : Ros.R) (A : Option Addr) (n c Bs Be : Nat) (w : World) (hn60 : n ≤ 60) (hn : n = g.shots.length) (hr : Lies w w.heap.size 6 A n (Gm.shotCells g.shots)) (hcall : ∀ W, Below w.heap.size w W → Calls Tryz.prog 28 #[.pointer (some ⟨Bs, 0, none⟩), .pointer (some ⟨Be, 0, none⟩)] W (Thrown 1 W)) :
    Calls Tryz.prog 27 #[.agg (Im.cells g (.slice A n c) r), .func (.func 28) #[] #[.pointer (some ⟨Bs, 0, none⟩), .pointer (some ⟨Be, 0, none⟩)]] w (SOut g r 1 w) := by
  have hmf : ∀ (fn : Fn) (first cap : Array Value) (w : World), (Instr.makeFunc fn first cap).run Tryz.prog w = .ok (.func fn first cap) w := fun _ _ _ _ => rfl
  have S1 := Lib.hid (((Box.made w 35 (Im.cells g (.slice A n c) r)).alloc (.cells Im.zero 35)).alloc (.cells #[.int .i64 0] 3))
  have N1 := Lib.hid ((Box.made_at (n := w.heap.size + 1) (w.alloc (.cells (Im.cells g (.slice A n c) r) 35)) 35 Im.zero (by simp)).alloc (.cells #[.int .i64 0] 3))
  have C1 := Lib.hid (Box.made_at (n := w.heap.size + 1 + 1) ((w.alloc (.cells (Im.cells g (.slice A n c) r) 35)).alloc (.cells Im.zero 35)) 3 #[.int .i64 0] (by simp))
  have K1 := Lib.hid ((two_below' w (.cells (Im.cells g (.slice A n c) r) 35) (.cells Im.zero 35)).alloc (by simp <;> omega) (.cells #[.int .i64 0] 3))
  have cl := Lib.hid (hcall _ K1.out)
  have HR := Lib.hid ((hr.below K1.out).wider K1.out.size)
  have HN := Lib.hid hn
  clear hcall hr hn
  go_enter_defers Tryz.func27, Tryz.ntmps27
  go_wp2_with (first | (with_reducible refine alloc_state rfl rfl ?_) | (go_at_call 28; ((with_reducible refine ((cl).out).mono ?_); rintro x w2 ⟨rfl, hb⟩; have S2 := Lib.hid (S1.out.below hb S1.out.lt); have N2 := Lib.hid (N1.out.below hb N1.out.lt); have C2 := Lib.hid (C1.out.below hb C1.out.lt); have K2 := Lib.hid (K1.out.trans (hb.mono K1.out.size)); have L2 := Lib.hid (HR.out.call hb); clear hb)))
  refine leaves_cons (f := 56) (args := #[.pointer (some ⟨w.heap.size, 0, none⟩), .pointer (some ⟨w.heap.size + 1, 0, none⟩), .pointer (some ⟨w.heap.size + 1 + 1, 0, none⟩)]) (by simp) (by simp [go_sem]) ?_
  refine (catch_fault g r A n c w.heap.size (w.heap.size + 1) (w.heap.size + 1 + 1) 1 0 [] w2 Im.zero Im.zero_size hn60 HN.out L2.out S2.out N2.out C2.out).mono ?_
  rintro e u' w'' ⟨rfl, rfl, A1, c1, w3, rfl, hL, hb⟩
  have hn := HN.out
  subst hn
  have N3 := N2.out.below hb N2.out.lt
  have C3 := (C2.out.below hb C2.out.lt).row_far (show w.heap.size + 1 + 1 ≠ w.heap.size + 1 by omega) (Im.cells g (.slice A1 g.shots.length c1) r)
  have ne : w.heap.size + 1 ≠ w.heap.size + 1 + 1 := by omega
  have N4 := (N3.row (Im.cells g (.slice A1 g.shots.length c1) r)).far (p := ⟨w.heap.size + 1 + 1, 0, none⟩) ne (.int .i64 1)
  have C4 := C3.put 0 (.int .i64 1)
  have K3 := K2.out.trans (hb.mono K2.out.size)
  have K4 := (Below.setRow' (g := w.heap.size + 1) K3 (Nat.le_succ _) (Im.cells g (.slice A1 g.shots.length c1) r)).setCell (p := ⟨w.heap.size + 1 + 1, 0, none⟩) (by show w.heap.size ≤ w.heap.size + 1 + 1; omega) (.int .i64 1)
  have L4 := (hL.zero_row rfl N3 (Im.cells g (.slice A1 g.shots.length c1) r)).int_cell rfl C3 (.int .i64 1)
  have hr := fun (tmps : Array Value) h1 h2 => results_cells2 (fn := Tryz.f27) (p := 4) (q := 5) rfl tmps _ (w.heap.size + 1) (w.heap.size + 1 + 1) 35 (Im.cells g (.slice A1 g.shots.length c1) r) _ 1 h1 h2 N4 (by simpa using C4) Tryz.underlying35 rfl (by rw [Im.cells_size]; exact state_info)
  show Leaves Tryz.prog _ _ _ [] .returning _
  exact ⟨_, hr _ rfl rfl, A1, c1, rfl, L4, K4⟩

set_option maxHeartbeats 1000000 in
theorem foldapply_some (u : Fd.S) (s : Fd.S) (e : En.E) (A A2 : Option Addr) (n c m c2 : Nat) (w : World) (hty : Gm.ty s.g) (hn60 : n ≤ 60) (hn : n = s.g.shots.length) (hr : Lies w w.heap.size 6 A n (Gm.shotCells s.g.shots)) (hm : m = e.evs.length) (hm63 : m ≤ maxLen) (hE : Lies w w.heap.size 4 A2 m (En.evCells e.evs)) (hin : ∀ i, i < 8 → Gm.tyIn (e.inp i)) (h : Fd.apply s e = some u) :
    Calls Tryz.prog 12 #[.agg (Im.cells s.g (.slice A n c) s.r), .agg (En.cells e (.slice A2 m c2))] w (SOut u.g u.r 0 w) := by
  have hmf : ∀ (fn : Fn) (first cap : Array Value) (w : World), (Instr.makeFunc fn first cap).run Tryz.prog w = .ok (.func fn first cap) w := fun _ _ _ _ => rfl
  have S1 := Lib.hid (((Box.made w 35 (Im.cells s.g (.slice A n c) s.r)).alloc (.cells (En.cells e (.slice A2 m c2)) 42)).alloc (.cells Im.zero 35))
  have E1 := Lib.hid ((Box.made_at (n := w.heap.size + 1) (w.alloc (.cells (Im.cells s.g (.slice A n c) s.r) 35)) 42 (En.cells e (.slice A2 m c2)) (by simp)).alloc (.cells Im.zero 35))
  have N1 := Lib.hid (Box.made_at (n := w.heap.size + 1 + 1) ((w.alloc (.cells (Im.cells s.g (.slice A n c) s.r) 35)).alloc (.cells (En.cells e (.slice A2 m c2)) 42)) 35 Im.zero (by simp))
  have K1 := Lib.hid ((two_below' w (.cells (Im.cells s.g (.slice A n c) s.r) 35) (.cells (En.cells e (.slice A2 m c2)) 42)).alloc (by simp <;> omega) (.cells Im.zero 35))
  have L1 := Lib.hid ((hr.below K1.out).wider K1.out.size)
  have EE := Lib.hid ((hE.below K1.out).wider K1.out.size)
  have ca := Lib.hid (attempt_apply_some s.g u.g s.r u.r A n c w.heap.size (w.heap.size + 1) _ (fun W hW => apply1_some u s e A A2 n c m c2 w.heap.size (w.heap.size + 1) W hty hn60 hn ((L1.out.below hW).wider hW.size) hm hm63 ((EE.out.below hW).wider hW.size) hin (S1.out.below hW S1.out.lt) (E1.out.below hW E1.out.lt) h))
  clear hty hr hE hn hm hm63 hin h
  go_enter Tryz.func12, Tryz.ntmps12
  go_wp2_with (first | (with_reducible refine alloc_state rfl rfl ?_) | ((with_reducible refine im_load_state rfl rfl ?_); apply LoadIm.mk rfl; (focus (with_reducible exact S1.out)); dsimp only) | (go_at_call 27; ((with_reducible refine ((ca).out).mono ?_); rintro x w2 ⟨A1, c1, rfl, hL, hb⟩; have N2 := Lib.hid (N1.out.below hb N1.out.lt); have K2 := Lib.hid (K1.out.trans (hb.mono K1.out.size)); have L2 := Lib.hid hL; clear hb hL)) | ((with_reducible refine im_store_state rfl rfl ?_); apply StoreS.mk rfl rfl; (focus (with_reducible exact N2.out)); (focus (exact Im.zero_size)); (focus rfl)))
  refine bodyPost_ret (v := .tuple #[.agg (Im.cells u.g (.slice A1 u.g.shots.length c1) u.r), .int .i64 0]) ?_ ?_ ?_
  · exact results_cell_tmp (p := 4) (q := 5) rfl _ _ _ _ (Im.cells u.g (.slice A1 u.g.shots.length c1) u.r) _ rfl (Box.row N2.out _) Tryz.underlying35 rfl (by rw [Im.cells_size]; exact state_info)
  · rfl
  · exact ⟨A1, c1, rfl, L2.out.zero_row rfl N2.out _, Below.setRow' K2.out (by omega) _⟩

set_option maxHeartbeats 1000000 in
theorem foldapply_none (s : Fd.S) (e : En.E) (A A2 : Option Addr) (n c m c2 : Nat) (w : World) (hty : Gm.ty s.g) (hn60 : n ≤ 60) (hn : n = s.g.shots.length) (hr : Lies w w.heap.size 6 A n (Gm.shotCells s.g.shots)) (hm : m = e.evs.length) (hm63 : m ≤ maxLen) (hE : Lies w w.heap.size 4 A2 m (En.evCells e.evs)) (hin : ∀ i, i < 8 → Gm.tyIn (e.inp i)) (h : Fd.apply s e = none) :
    Calls Tryz.prog 12 #[.agg (Im.cells s.g (.slice A n c) s.r), .agg (En.cells e (.slice A2 m c2))] w (SOut s.g s.r 1 w) := by
  have hmf : ∀ (fn : Fn) (first cap : Array Value) (w : World), (Instr.makeFunc fn first cap).run Tryz.prog w = .ok (.func fn first cap) w := fun _ _ _ _ => rfl
  have S1 := Lib.hid (((Box.made w 35 (Im.cells s.g (.slice A n c) s.r)).alloc (.cells (En.cells e (.slice A2 m c2)) 42)).alloc (.cells Im.zero 35))
  have E1 := Lib.hid ((Box.made_at (n := w.heap.size + 1) (w.alloc (.cells (Im.cells s.g (.slice A n c) s.r) 35)) 42 (En.cells e (.slice A2 m c2)) (by simp)).alloc (.cells Im.zero 35))
  have N1 := Lib.hid (Box.made_at (n := w.heap.size + 1 + 1) ((w.alloc (.cells (Im.cells s.g (.slice A n c) s.r) 35)).alloc (.cells (En.cells e (.slice A2 m c2)) 42)) 35 Im.zero (by simp))
  have K1 := Lib.hid ((two_below' w (.cells (Im.cells s.g (.slice A n c) s.r) 35) (.cells (En.cells e (.slice A2 m c2)) 42)).alloc (by simp <;> omega) (.cells Im.zero 35))
  have L1 := Lib.hid ((hr.below K1.out).wider K1.out.size)
  have EE := Lib.hid ((hE.below K1.out).wider K1.out.size)
  have ca := Lib.hid (attempt_apply_none s.g s.r A n c w.heap.size (w.heap.size + 1) _ hn60 hn L1.out (fun W hW => apply1_none s e A A2 n c m c2 w.heap.size (w.heap.size + 1) W hty hn60 hn ((L1.out.below hW).wider hW.size) hm hm63 ((EE.out.below hW).wider hW.size) hin (S1.out.below hW S1.out.lt) (E1.out.below hW E1.out.lt) h))
  clear hty hr hE hn hm hm63 hin h
  go_enter Tryz.func12, Tryz.ntmps12
  go_wp2_with (first | (with_reducible refine alloc_state rfl rfl ?_) | ((with_reducible refine im_load_state rfl rfl ?_); apply LoadIm.mk rfl; (focus (with_reducible exact S1.out)); dsimp only) | (go_at_call 27; ((with_reducible refine ((ca).out).mono ?_); rintro x w2 ⟨A1, c1, rfl, hL, hb⟩; have N2 := Lib.hid (N1.out.below hb N1.out.lt); have K2 := Lib.hid (K1.out.trans (hb.mono K1.out.size)); have L2 := Lib.hid hL; clear hb hL)) | ((with_reducible refine im_store_state rfl rfl ?_); apply StoreS.mk rfl rfl; (focus (with_reducible exact N2.out)); (focus (exact Im.zero_size)); (focus rfl)))
  refine bodyPost_ret (v := .tuple #[.agg (Im.cells s.g (.slice A1 s.g.shots.length c1) s.r), .int .i64 1]) ?_ ?_ ?_
  · exact results_cell_tmp (p := 4) (q := 5) rfl _ _ _ _ (Im.cells s.g (.slice A1 s.g.shots.length c1) s.r) _ rfl (Box.row N2.out _) Tryz.underlying35 rfl (by rw [Im.cells_size]; exact state_info)
  · rfl
  · exact ⟨A1, c1, rfl, L2.out.zero_row rfl N2.out _, Below.setRow' K2.out (by omega) _⟩
end Go.Proofs.YtkkhdaeihnbilaaGreat
namespace Go.Proofs.YtkkhdaeihnbilaaGreat
open Go.RowKit Go.Shelf
set_option linter.unusedVariables false
set_option linter.unusedSimpArgs false


namespace Fd
def es (l : List En.S) : List En.E := l.map (·.e)
theorem es_at (l : List En.S) (k : Nat) (h : k < (es l).length) (h' : k < l.length) : (es l)[k] = l[k].e := List.getElem_map _
theorem run_snoc (s : S) (l : List En.E) (k : Nat) (hk : k < l.length) : run s (l.take (k + 1)) = (run s (l.take k)).bind fun t => Fd.apply t l[k] := by
  rw [List.take_succ_eq_append_getElem hk, run_append]
  congr 1
  funext t
  exact run_one t _
theorem run_go {s t u : S} {l : List En.E} {k : Nat} (hk : k < l.length) (h : run s (l.take k) = some t) (hv : Fd.apply t l[k] = some u) : run s (l.take (k + 1)) = some u := by
  rw [run_snoc s l k hk, h, Option.bind_some, hv]
theorem run_stop {s t : S} {l : List En.E} {k : Nat} (hk : k < l.length) (h : run s (l.take k) = some t) (hv : Fd.apply t l[k] = none) : run s l = none := by
  rw [← List.take_append_drop k l, run_append, h, Option.bind_some, List.drop_eq_getElem_cons hk, run_cons, hv]
  rfl
theorem Fine.ty {s : S} (h : Fine s) : Gm.ty s.g := ⟨by have := h.ok.1.1; have := h.ok.1.2.1; unfold Gm.i64; omega, h.dice, fun i hi => (h.ok.1.2.2.2.1 i hi).ty, fun i hi => (h.ok.1.2.2.2.2 i hi).ty⟩
theorem Fine.few {s : S} (h : Fine s) : s.g.shots.length ≤ 60 := by have := h.ok.1.2.2.1; omega
end Fd
/-- What lies there while a log is done. -/
structure Rn (w : World) (Bn : Nat) (g : Gm.G) (s : Value) (r : Ros.R) (W : World) : Prop where
  nx : Box W Bn 35 (Im.cells g s r)
  out : Box W w.heap.size 35 Im.zero
  far : w.heap.size < Bn
  below : Below w.heap.size w W
section
variable {w W W' : World} {Bn : Nat} {g : Gm.G} {s : Value} {r : Ros.R}
theorem Rn.call (h : Rn w Bn g s r W) (hb : Below W.heap.size W W') : Rn w Bn g s r W' :=
  ⟨h.nx.below hb h.nx.lt, h.out.below hb h.out.lt, h.far, h.below.trans (hb.mono h.below.size)⟩
theorem Rn.alloc (h : Rn w Bn g s r W) (o : Obj) : Rn w Bn g s r (W.alloc o) := h.call (one_below W o)
theorem Rn.store {g' : Gm.G} {s' : Value} {r' : Ros.R} (h : Rn w Bn g s r W) : Rn w Bn g' s' r' (W.setRow Bn (Im.cells g' s' r')) :=
  ⟨h.nx.row _, h.out.row_far (by have := h.far; omega) _, h.far, Below.setRow' h.below (Nat.le_of_lt h.far) _⟩
end
theorem im_store_new {ops : Array Oper} {Q : Exit → Act → World → Prop} {o : Oper} {rest : List Oper} {a : Act} {x y : Operand} {v : World} {old : Array Value} {g : Gm.G} {s : Value} {r : Ros.R} (hgd : o.guard = none) (ho : o.op = .store 35 x y) (hx : a.eval x = .pointer (some ⟨v.heap.size, 0, none⟩)) (hy : a.eval y = .agg (Im.cells g s r))
    (hold : old.size = 76) (hs : s.oneCell' = true) (h : wpList Tryz.prog ops Q rest (a.put o.dst undef) (v.alloc (.cells (Im.cells g s r) 35))) : wpList Tryz.prog ops Q (o :: rest) a (v.alloc (.cells old 35)) :=
  wpList_store_new hgd ho hx hy rfl rfl (by rw [Im.cells_size]; exact state_info) (by rw [Im.cells_size]; exact hold) (im_one _ _ _ hs) h
def Logged (s : Fd.S) (l : List En.S) (w : World) (r : Ending) (w' : World) : Prop :=
  (∃ u, Fd.run s (Fd.es l) = some u ∧ SOne u.g u.r w r w') ∨ (Fd.run s (Fd.es l) = none ∧ Thrown 1 w r w')
theorem logged_is {s u : Fd.S} {l : List En.S} {w w' : World} {r : Ending} (h : Fd.run s (Fd.es l) = some u) (hB : Logged s l w r w') : SOne u.g u.r w r w' := by
  unfold Logged at hB
  rw [h] at hB
  rcases hB with ⟨v, hv, h2⟩ | ⟨hno, _⟩
  · obtain rfl : u = v := Option.some.inj hv
    exact h2
  · cases hno
set_option maxRecDepth 100000 in
set_option maxHeartbeats 4000000 in
theorem run1_any (s : Fd.S) (l : List En.S) (A AL : Option Addr) (n c m cl Bs Bl : Nat) (w : World) (hs : Fd.Fine s) (hn : n = s.g.shots.length) (hr : Lies w w.heap.size 6 A n (Gm.shotCells s.g.shots)) (hm63 : m ≤ maxLen) (hl : LiesS w w.heap.size AL m l) (hin : ∀ q ∈ l, ∀ i, i < 8 → Gm.tyIn (q.e.inp i))
    (hB : Box w Bs 35 (Im.cells s.g (.slice A n c) s.r)) (hBl : Box w Bl 52 #[.slice AL m cl]) :
    Calls Tryz.prog 41 #[.pointer (some ⟨Bs, 0, none⟩), .pointer (some ⟨Bl, 0, none⟩)] w (Logged s l w) := by
  have N0 := Lib.hid (Box.made w 35 Im.zero)
  have K0 := Lib.hid (one_below w (.cells Im.zero 35))
  have B1 := Lib.hid (hB.alloc (.cells Im.zero 35))
  have L1 := Lib.hid (hBl.alloc (.cells Im.zero 35))
  have co := Lib.hid (foldown_any s.g s.r A n c _ (by rw [hn]; exact hs.few) hn (hr.call K0.out))
  have HS := Lib.hid hs
  have HL := Lib.hid hl
  have HI := Lib.hid hin
  have HM := Lib.hid (show m = l.length from hl.len.symm)
  have m63 : (m : Int) ≤ 9223372036854775807 := by unfold maxLen at hm63; omega
  clear hs hr hn hm63 hl hin hB hBl
  go_enter Tryz.func41, Tryz.ntmps41
  go_upto_region 2 with (first | (with_reducible refine alloc_state rfl rfl ?_) | ((with_reducible refine im_load_state rfl rfl ?_); apply LoadIm.mk rfl; (focus (with_reducible exact B1.out)); dsimp only) | (go_at_call 42; ((with_reducible refine ((co).out).mono ?_); rintro x w1 ⟨A1, c1, rfl, hL, hb⟩; have R1 := Lib.hid (show Rn w w1.heap.size s.g (.slice A1 s.g.shots.length c1) s.r (w1.alloc (.cells (Im.cells s.g (.slice A1 s.g.shots.length c1) s.r) 35)) from ⟨Box.made _ _ _, (N0.out.below hb N0.out.lt).alloc _, Nat.lt_of_lt_of_le N0.out.lt hb.size, ((K0.out.trans (hb.mono K0.out.size))).alloc (Nat.le_trans K0.out.size hb.size) _⟩); have LL := Lib.hid (hL.call (one_below w1 (.cells (Im.cells s.g (.slice A1 s.g.shots.length c1) s.r) 35))); have L2 := (((L1.out.below hb L1.out.lt)).alloc (.cells (Im.cells s.g (.slice A1 s.g.shots.length c1) s.r) 35)).cell 0; clear hb hL)) | (with_reducible refine im_store_new rfl rfl rfl rfl Im.zero_size rfl ?_))
  generalize hBn : w1.heap.size = Bn at R1
  go_wp2
  go_loopw [10] (fun i wr => ∃ (k : Nat) (t : Fd.S) (A' : Option Addr) (c' : Nat), k ≤ m ∧ i = .int .i64 k ∧ Fd.run s ((Fd.es l).take k) = some t ∧ Rn w Bn t.g (.slice A' t.g.shots.length c') t.r wr ∧ Lies wr wr.heap.size 6 A' t.g.shots.length (Gm.shotCells t.g.shots)) (fun i _ => m - (intOf i).toNat)
  case atStart => exact ⟨0, s, A1, c1, Nat.zero_le _, rfl, rfl, R1.out, LL.out⟩
  case round =>
    obtain ⟨k, t, A', c', hk, rfl, hch, hR, hL⟩ := hrel
    clear R1 LL L2 N0 K0 B1 L1 co
    by_cases hlt : k < m
    · have hk8 : (k : Int) < m := by omega
      have hkl : k < l.length := by have := HM.out; omega
      have hke : k < (Fd.es l).length := by unfold Fd.es; rw [List.length_map]; exact hkl
      have hge : (Fd.es l)[k] = l[k].e := Fd.es_at l k hke hkl
      have hb := hR.below
      obtain ⟨ad, rfl, hbl, a0⟩ := (HL.out.below hb).at k hkl
      have he1 := (HL.out.below hb).each l[k] (List.getElem_mem hkl)
      have hf1 := HL.out.few l[k] (List.getElem_mem hkl)
      have hty := HI.out l[k] (List.getElem_mem hkl)
      have hft := (HS.out.run hch).1
      have hgo := fun (u : Fd.S) (h : Fd.apply t l[k].e = some u) => Fd.run_go hke hch (hge ▸ h)
      have hst := fun (h : Fd.apply t l[k].e = none) => Fd.run_stop hke hch (hge ▸ h)
      generalize l[k] = u at a0 he1 hf1 hty hgo hst
      have sz := hb.size
      have LA := Lib.hid a0
      have ltA : (ad.add (k * 26)).block < wr.heap.size := by rw [add_block]; exact Nat.lt_of_lt_of_le hbl sz
      have ltP : Bn < wr.heap.size := hR.nx.lt
      have P1 := Lib.hid (Box.made wr 42 (En.cells u.e u.sl))
      have R2 := Lib.hid (hR.alloc (.cells (En.cells u.e u.sl) 42))
      have L2 := Lib.hid (hL.call (one_below wr (.cells (En.cells u.e u.sl) 42)))
      have E2 := Lib.hid ((he1.wider sz).below (one_below wr (.cells (En.cells u.e u.sl) 42)) |>.wider (one_below wr (.cells (En.cells u.e u.sl) 42)).size)
      cases hap : Fd.apply t u.e with
      | none =>
        have cb := Lib.hid (show Calls Tryz.prog 29 #[.agg (Im.cells t.g (.slice A' t.g.shots.length c') t.r), .agg (En.cells u.e u.sl)] (wr.alloc (.cells (En.cells u.e u.sl) 42)) (Thrown 1 (wr.alloc (.cells (En.cells u.e u.sl) 42))) from behind_none t u.e A' u.adr t.g.shots.length c' u.e.evs.length u.cap _ hft.ty hft.few rfl L2.out rfl hf1 E2.out hty hap)
        have HN := Lib.hid (hst hap)
        clear hgo hst hap hft hty hf1 he1 a0 hch hR hL hb hge
        go_wp2_with (first | (with_reducible refine alloc_en rfl rfl ?_) | ((with_reducible refine load_at_gate rfl rfl Tryz.underlying42 rfl en_info26 ?_); (apply LoadAt.mk rfl LA.out (En.S.cells_len _); rw [En.S.cells_arr])) | (with_reducible refine en_store_new rfl rfl rfl rfl En.zeroC_size rfl ?_) | ((with_reducible refine en_load rfl rfl ?_); apply LoadEn.mk rfl; (focus (with_reducible exact P1.out)); dsimp only) | ((with_reducible refine im_load_state rfl rfl ?_); apply LoadIm.mk rfl; (focus (with_reducible exact R2.out.nx)); dsimp only) | (go_at_call 29; ((with_reducible refine ((cb).out).mono ?_); rintro x w5 ⟨rfl, hb⟩; have K5 := Lib.hid (R2.out.below.trans (hb.mono R2.out.below.size)); clear hb)))
        exact ⟨rfl, .inr ⟨HN.out, rfl, K5.out⟩⟩
      | some v =>
        have cb := Lib.hid (show Calls Tryz.prog 29 #[.agg (Im.cells t.g (.slice A' t.g.shots.length c') t.r), .agg (En.cells u.e u.sl)] (wr.alloc (.cells (En.cells u.e u.sl) 42)) (SOne v.g v.r (wr.alloc (.cells (En.cells u.e u.sl) 42))) from behind_some t v u.e A' u.adr t.g.shots.length c' u.e.evs.length u.cap _ hft.ty hft.few rfl L2.out rfl hf1 E2.out hty hap)
        have HG := Lib.hid (hgo v hap)
        clear hgo hst hap hft hty hf1 he1 a0 hch hR hL hb hge
        go_wp2_with (first | (with_reducible refine alloc_en rfl rfl ?_) | ((with_reducible refine load_at_gate rfl rfl Tryz.underlying42 rfl en_info26 ?_); (apply LoadAt.mk rfl LA.out (En.S.cells_len _); rw [En.S.cells_arr])) | (with_reducible refine en_store_new rfl rfl rfl rfl En.zeroC_size rfl ?_) | ((with_reducible refine en_load rfl rfl ?_); apply LoadEn.mk rfl; (focus (with_reducible exact P1.out)); dsimp only) | ((with_reducible refine im_load_state rfl rfl ?_); apply LoadIm.mk rfl; (focus (with_reducible exact R2.out.nx)); dsimp only) | (go_at_call 29; ((with_reducible refine ((cb).out).mono ?_); rintro x w5 ⟨A5, c5, rfl, hL5, hb⟩; have R5 := Lib.hid (R2.out.call hb); have R6 := Lib.hid (R5.out.store (g' := v.g) (s' := .slice A5 v.g.shots.length c5) (r' := v.r)); have L6 := Lib.hid (hL5.state_row rfl R5.out.nx (Im.cells v.g (.slice A5 v.g.shots.length c5) v.r)); clear hb hL5)) | ((with_reducible refine im_store_state rfl rfl ?_); apply StoreS.mk rfl rfl; (focus (with_reducible exact R5.out.nx)); (focus (exact Im.cells_size _ _ _)); (focus rfl)))
        go_roundw
        case rel => exact ⟨k + 1, v, A5, c5, by omega, by go_num, HG.out, R6.out, L6.out⟩
        case measure => simp [intOf]; omega
    · have hk8 : ¬ (k : Int) < m := by omega
      obtain rfl : k = m := by omega
      have hlen : (Fd.es l).length = k := by unfold Fd.es; rw [List.length_map]; exact HM.out.symm
      have hfull : (Fd.es l).take k = Fd.es l := List.take_of_length_le (by omega)
      rw [hfull] at hch
      have HC := Lib.hid hch
      have R2 := Lib.hid hR
      have L2 := Lib.hid hL
      clear hch hR hL hlen hfull
      go_wp2_with (first | ((with_reducible refine im_load_state rfl rfl ?_); apply LoadIm.mk rfl; (focus (with_reducible exact R2.out.nx)); dsimp only) | ((with_reducible refine im_store_state rfl rfl ?_); apply StoreS.mk rfl rfl; (focus (with_reducible exact R2.out.out)); (focus (exact Im.zero_size)); (focus rfl)))
      refine bodyPost_ret (v := .agg (Im.cells t.g (.slice A' t.g.shots.length c') t.r)) ?_ ?_ ?_
      · exact results_cell_row rfl _ _ _ _ (Im.cells t.g (.slice A' t.g.shots.length c') t.r) (0, 0) _ rfl (R2.out.out.row _).is Tryz.underlying35 rfl (by rw [Im.cells_size]; exact state_info)
      · rfl
      · exact .inl ⟨t, HC.out, A', c', rfl, L2.out.zero_row rfl R2.out.out _, Below.setRow' R2.out.below (Nat.le_refl _) _⟩

set_option maxRecDepth 100000 in
set_option maxHeartbeats 1000000 in
theorem attempt_run_some (g g' : Gm.G) (r r' : Ros.R) (A : Option Addr) (n c Bs Be : Nat) (w : World) (hcall : ∀ W, Below w.heap.size w W → Calls Tryz.prog 41 #[.pointer (some ⟨Bs, 0, none⟩), .pointer (some ⟨Be, 0, none⟩)] W (SOne g' r' W)) :
    Calls Tryz.prog 27 #[.agg (Im.cells g (.slice A n c) r), .func (.func 41) #[] #[.pointer (some ⟨Bs, 0, none⟩), .pointer (some ⟨Be, 0, none⟩)]] w (SOut g' r' 0 w) := by
  have hmf : ∀ (fn : Fn) (first cap : Array Value) (w : World), (Instr.makeFunc fn first cap).run Tryz.prog w = .ok (.func fn first cap) w := fun _ _ _ _ => rfl
  have S1 := Lib.hid (((Box.made w 35 (Im.cells g (.slice A n c) r)).alloc (.cells Im.zero 35)).alloc (.cells #[.int .i64 0] 3))
  have N1 := Lib.hid ((Box.made_at (n := w.heap.size + 1) (w.alloc (.cells (Im.cells g (.slice A n c) r) 35)) 35 Im.zero (by simp)).alloc (.cells #[.int .i64 0] 3))
  have C1 := Lib.hid (Box.made_at (n := w.heap.size + 1 + 1) ((w.alloc (.cells (Im.cells g (.slice A n c) r) 35)).alloc (.cells Im.zero 35)) 3 #[.int .i64 0] (by simp))
  have K1 := Lib.hid ((two_below' w (.cells (Im.cells g (.slice A n c) r) 35) (.cells Im.zero 35)).alloc (by simp <;> omega) (.cells #[.int .i64 0] 3))
  have cl := Lib.hid (hcall _ K1.out)
  clear hcall
  go_enter_defers Tryz.func27, Tryz.ntmps27
  go_wp2_with (first | (with_reducible refine alloc_state rfl rfl ?_) | (go_at_call 41; ((with_reducible refine ((cl).out).mono ?_); rintro x w2 ⟨A1, c1, rfl, hL, hb⟩; have N2 := Lib.hid (N1.out.below hb N1.out.lt); have C2 := C1.out.below hb C1.out.lt; have C3 := Lib.hid (C2.row_far (show w.heap.size + 1 + 1 ≠ w.heap.size + 1 by omega) (Im.cells g' (.slice A1 g'.shots.length c1) r')); have k3 := C3.out.cell 0; have f3 := C3.out.free 0; have K2 := Lib.hid (K1.out.trans (hb.mono K1.out.size)); have L2 := Lib.hid hL; clear hb hL C2)) | ((with_reducible refine im_store_state rfl rfl ?_); apply StoreS.mk rfl rfl; (focus (with_reducible exact N2.out)); (focus (exact Im.zero_size)); (focus rfl)))
  have ne : w.heap.size + 1 ≠ w.heap.size + 1 + 1 := by omega
  have N4 := (N2.out.row (Im.cells g' (.slice A1 g'.shots.length c1) r')).far (p := ⟨w.heap.size + 1 + 1, 0, none⟩) ne (.int .i64 0)
  have C4 := C3.out.put 0 (.int .i64 0)
  have K4 := (Below.setRow' (g := w.heap.size + 1) K2.out (Nat.le_succ _) (Im.cells g' (.slice A1 g'.shots.length c1) r')).setCell (p := ⟨w.heap.size + 1 + 1, 0, none⟩) (by show w.heap.size ≤ w.heap.size + 1 + 1; omega) (.int .i64 0)
  have L4 := (L2.out.zero_row rfl N2.out (Im.cells g' (.slice A1 g'.shots.length c1) r')).int_cell rfl C3.out (.int .i64 0)
  refine leaves_cons (f := 56) (args := #[.pointer (some ⟨w.heap.size, 0, none⟩), .pointer (some ⟨w.heap.size + 1, 0, none⟩), .pointer (some ⟨w.heap.size + 1 + 1, 0, none⟩)]) (by simp) (by simp [go_sem]) ?_
  refine (catch_idle_fold _ _ _ _).mono ?_
  rintro e u' w'' ⟨rfl, rfl, rfl⟩
  have hr := fun (tmps : Array Value) h1 h2 => results_cells2 (fn := Tryz.f27) (p := 4) (q := 5) rfl tmps _ (w.heap.size + 1) (w.heap.size + 1 + 1) 35 (Im.cells g' (.slice A1 g'.shots.length c1) r') _ 0 h1 h2 N4 (by simpa using C4) Tryz.underlying35 rfl (by rw [Im.cells_size]; exact state_info)
  show Leaves Tryz.prog _ _ _ [] .returning _
  exact ⟨_, hr _ rfl rfl, A1, c1, rfl, L4, K4⟩

set_option maxHeartbeats 1000000 in
theorem foldrun_some (u : Fd.S) (s : Fd.S) (l : List En.S) (A AL : Option Addr) (n c m cl : Nat) (w : World) (hs : Fd.Fine s) (hn : n = s.g.shots.length) (hr : Lies w w.heap.size 6 A n (Gm.shotCells s.g.shots)) (hm63 : m ≤ maxLen) (hl : LiesS w w.heap.size AL m l) (hin : ∀ q ∈ l, ∀ i, i < 8 → Gm.tyIn (q.e.inp i)) (h : Fd.run s (Fd.es l) = some u) :
    Calls Tryz.prog 19 #[.agg (Im.cells s.g (.slice A n c) s.r), .slice AL m cl] w (SOut u.g u.r 0 w) := by
  have hmf : ∀ (fn : Fn) (first cap : Array Value) (w : World), (Instr.makeFunc fn first cap).run Tryz.prog w = .ok (.func fn first cap) w := fun _ _ _ _ => rfl
  have S1 := Lib.hid (((Box.made w 35 (Im.cells s.g (.slice A n c) s.r)).alloc (.cells #[.slice AL m cl] 52)).alloc (.cells Im.zero 35))
  have E1 := Lib.hid ((Box.made_at (n := w.heap.size + 1) (w.alloc (.cells (Im.cells s.g (.slice A n c) s.r) 35)) 52 #[.slice AL m cl] (by simp)).alloc (.cells Im.zero 35))
  have N1 := Lib.hid (Box.made_at (n := w.heap.size + 1 + 1) ((w.alloc (.cells (Im.cells s.g (.slice A n c) s.r) 35)).alloc (.cells #[.slice AL m cl] 52)) 35 Im.zero (by simp))
  have K1 := Lib.hid ((two_below' w (.cells (Im.cells s.g (.slice A n c) s.r) 35) (.cells #[.slice AL m cl] 52)).alloc (by simp <;> omega) (.cells Im.zero 35))
  have L1 := Lib.hid ((hr.below K1.out).wider K1.out.size)
  have LL := Lib.hid ((hl.below K1.out).wider K1.out.size)
  have ca := Lib.hid (attempt_run_some s.g u.g s.r u.r A n c w.heap.size (w.heap.size + 1) _ (fun W hW => (run1_any s l A AL n c m cl w.heap.size (w.heap.size + 1) W hs hn ((L1.out.below hW).wider hW.size) hm63 ((LL.out.below hW).wider hW.size) hin (S1.out.below hW S1.out.lt) (E1.out.below hW E1.out.lt)).mono fun r w' hB => logged_is h hB))
  clear hs hr hl hn hm63 hin h
  go_enter Tryz.func19, Tryz.ntmps19
  go_wp2_with (first | (with_reducible refine alloc_state rfl rfl ?_) | ((with_reducible refine im_load_state rfl rfl ?_); apply LoadIm.mk rfl; (focus (with_reducible exact S1.out)); dsimp only) | (go_at_call 27; ((with_reducible refine ((ca).out).mono ?_); rintro x w2 ⟨A1, c1, rfl, hL, hb⟩; have N2 := Lib.hid (N1.out.below hb N1.out.lt); have K2 := Lib.hid (K1.out.trans (hb.mono K1.out.size)); have L2 := Lib.hid hL; clear hb hL)) | ((with_reducible refine im_store_state rfl rfl ?_); apply StoreS.mk rfl rfl; (focus (with_reducible exact N2.out)); (focus (exact Im.zero_size)); (focus rfl)))
  refine bodyPost_ret (v := .tuple #[.agg (Im.cells u.g (.slice A1 u.g.shots.length c1) u.r), .int .i64 0]) ?_ ?_ ?_
  · exact results_cell_tmp (p := 4) (q := 5) rfl _ _ _ _ (Im.cells u.g (.slice A1 u.g.shots.length c1) u.r) _ rfl (Box.row N2.out _) Tryz.underlying35 rfl (by rw [Im.cells_size]; exact state_info)
  · rfl
  · exact ⟨A1, c1, rfl, L2.out.zero_row rfl N2.out _, Below.setRow' K2.out (by omega) _⟩

end Go.Proofs.YtkkhdaeihnbilaaGreat
namespace Go.Proofs.YtkkhdaeihnbilaaGreat
open Go.RowKit Go.Shelf
set_option linter.unusedVariables false
set_option linter.unusedSimpArgs false


/-- What lies there while the document does an entry. -/
structure Pa (w : World) (g0 : Gm.G) (s0 : Value) (r0 : Ros.R) (e : En.E) (sl : Value) (Bn : Nat) (g : Gm.G) (s : Value) (r : Ros.R) (W : World) : Prop where
  st : Box W w.heap.size 35 (Im.cells g0 s0 r0)
  en : Box W (w.heap.size + 1) 42 (En.cells e sl)
  out : Box W (w.heap.size + 1 + 1) 35 Im.zero
  nx : Box W Bn 35 (Im.cells g s r)
  far : w.heap.size + 1 + 1 < Bn
  below : Below w.heap.size w W
section
variable {w W W' : World} {g0 g : Gm.G} {s0 s : Value} {r0 r : Ros.R} {e : En.E} {sl : Value} {Bn : Nat}
theorem Pa.call (h : Pa w g0 s0 r0 e sl Bn g s r W) (hb : Below W.heap.size W W') : Pa w g0 s0 r0 e sl Bn g s r W' :=
  ⟨h.st.below hb h.st.lt, h.en.below hb h.en.lt, h.out.below hb h.out.lt, h.nx.below hb h.nx.lt, h.far, h.below.trans (hb.mono h.below.size)⟩
theorem Pa.alloc (h : Pa w g0 s0 r0 e sl Bn g s r W) (o : Obj) : Pa w g0 s0 r0 e sl Bn g s r (W.alloc o) := h.call (one_below W o)
theorem Pa.store {g' : Gm.G} {s' : Value} {r' : Ros.R} (h : Pa w g0 s0 r0 e sl Bn g s r W) : Pa w g0 s0 r0 e sl Bn g' s' r' (W.setRow Bn (Im.cells g' s' r')) :=
  ⟨h.st.row_far (by have := h.far; omega) _, h.en.row_far (by have := h.far; omega) _, h.out.row_far (by have := h.far; omega) _, h.nx.row _, h.far, Below.setRow' h.below (by have := h.far; omega) _⟩
theorem Pa.game {B' : Nat} {cs : Array Value} {c0 : Array Value} (h : Pa w g0 s0 r0 e sl Bn g s r W) (hG : Box W B' 28 c0) (hl : w.heap.size ≤ B') : Pa w g0 s0 r0 e sl Bn g s r (W.setRow B' cs) :=
  ⟨h.st.row_far (Box.apart h.st hG (by decide)) _, h.en.row_far (Box.apart h.en hG (by decide)) _, h.out.row_far (Box.apart h.out hG (by decide)) _, h.nx.row_far (Box.apart h.nx hG (by decide)) _, h.far, Below.setRow' h.below hl _⟩
end
theorem refspawn_out (g : Gm.G) (A : Option Addr) (n c i : Nat) (w : World) (hg : Gm.ok g) (hd : 0 ≤ g.dice ∧ g.dice ≤ 18446744073709551615) (hn : n = g.shots.length) (hr : Lies w w.heap.size 6 A n (Gm.shotCells g.shots)) (hi : i < 8) (ho : (g.ship i).on = false) :
    Calls Tryz.prog 33 #[.agg (Gm.cells g (.slice A n c)), .int .i64 i] w (Out (Gm.spawn g i) 0 w) :=
  (refspawn_yes g A n c i w hg hd hn hr hi ho).mono fun e w' h => ⟨A, c, by rw [h.1, hn]; rfl, by have := hr.call h.2; rw [hn] at this; exact this, h.2⟩
theorem in_neq10 (x y b : Int) (w : World) : (binOp .neq 39 (.agg #[.int .i8 x, .int .i8 y, .int .u8 b]) (.agg #[.int .i8 0, .int .i8 0, .int .u8 0])).run Tryz.prog w = .ok (.bool (!En.zero ⟨x, y, b⟩)) w := by
  have h : (Op.equalIn 10000 39 (.agg #[.int .i8 x, .int .i8 y, .int .u8 b]) (.agg #[.int .i8 0, .int .i8 0, .int .u8 0])).run Tryz.prog w = .ok (En.zero ⟨x, y, b⟩) w := by
    by_cases h1 : x = 0
    · by_cases h2 : y = 0
      · by_cases h3 : b = 0
        · subst h1 h2 h3; go_simp <;> simp [En.zero]
        · have h4 : (b == 0) = false := by simpa using h3
          subst h1 h2; go_simp <;> simp [h4, h3, En.zero]
      · have h4 : (y == 0) = false := by simpa using h2
        subst h1; go_simp <;> simp [h4, h2, En.zero]
    · have h4 : (x == 0) = false := by simpa using h1
      go_simp <;> simp [h4, h1, En.zero]
  generalize #[Value.int .i8 x, .int .i8 y, .int .u8 b] = F at *
  generalize #[Value.int .i8 0, .int .i8 0, .int .u8 0] = G at *
  go_simp
/-- What an entry leaves, to the document. -/
def RefBehind (s : Fd.S) (e : En.E) (w : World) (r : Ending) (w' : World) : Prop :=
  (∃ u, Fd.apply s e = some u ∧ SOut u.g u.r 0 w r w') ∨ (Fd.apply s e = none ∧ SOut s.g s.r 1 w r w')
theorem refbehind_is {s u : Fd.S} {e : En.E} {w w' : World} {r : Ending} (h : Fd.apply s e = some u) (hB : RefBehind s e w r w') : SOut u.g u.r 0 w r w' := by
  unfold RefBehind at hB
  rw [h] at hB
  rcases hB with ⟨v, hv, h2⟩ | ⟨hno, _⟩
  · obtain rfl : u = v := Option.some.inj hv
    exact h2
  · cases hno
theorem refbehind_not {s : Fd.S} {e : En.E} {w w' : World} {r : Ending} (h : Fd.apply s e = none) (hB : RefBehind s e w r w') : SOut s.g s.r 1 w r w' := by
  unfold RefBehind at hB
  rw [h] at hB
  rcases hB with ⟨v, hv, h2⟩ | ⟨_, h2⟩
  · cases hv
  · exact h2
set_option maxRecDepth 100000 in
set_option maxHeartbeats 4000000 in
theorem refapply_may (s : Fd.S) (e : En.E) (A A2 : Option Addr) (n c m c2 : Nat) (w : World) (hty : Gm.ty s.g) (hn63 : n ≤ maxLen) (hn : n = s.g.shots.length) (hr : Lies w w.heap.size 6 A n (Gm.shotCells s.g.shots)) (hm : m = e.evs.length) (hm63 : m ≤ maxLen) (hE : Lies w w.heap.size 4 A2 m (En.evCells e.evs)) (hin : ∀ i, i < 8 → Gm.tyIn (e.inp i)) (hno : ¬ Fd.May s e) :
    Calls Tryz.prog 13 #[.agg (Im.cells s.g (.slice A n c) s.r), .agg (En.cells e (.slice A2 m c2))] w (SOut s.g s.r 1 w) := by
  have B0 := Lib.hid (bh_start w s.g (.slice A n c) s.r e (.slice A2 m c2))
  have L0 := Lib.hid ((hr.below B0.out.below).wider B0.out.below.size)
  have E0 := Lib.hid ((hE.below B0.out.below).wider B0.out.below.size)
  have cm := Lib.hid (refstate_any s.g s.r A n c _ hty hn hn63 L0.out)
  have ce := fun X hX => Lib.hid (refmayen_any e A2 m c2 X hm hm63 hin hX)
  have hN := Lib.hid hn
  by_cases hok : Im.Ok s.g s.r
  · have HOK := Lib.hid hok
    by_cases hen : En.Ok e
    · have hfr : (e.frame != s.g.frame) = true := by simpa using fun h => hno ⟨hok, hen, h⟩
      simp only [decide_eq_true hen] at ce
      have hs0 : (Im.cells s.g (.slice A n c) s.r)[0]? = some (.int .i64 s.g.frame) := (Im.cells_g _ _ _ 0 (by omega)).trans (Gm.cells_0 _ _)
      have he0 := En.cells_0 e (.slice A2 m c2)
      clear hok hen hno hr hn hm hm63 hE hty
      go_enter Tryz.func13, Tryz.ntmps13
      go_wp2_with (first | (with_reducible refine alloc_state rfl rfl ?_) | ((with_reducible refine im_load_state rfl rfl ?_); apply LoadIm.mk rfl; (focus first | (with_reducible exact B0.out.st) | (with_reducible exact B2.out.st)); dsimp only) | (go_at_call 15; ((with_reducible refine ((cm).out).mono ?_); rintro x w1 ⟨⟨v, rfl, hv⟩, hb⟩; obtain rfl : v = true := hv.2 HOK.out; have B1 := Lib.hid (B0.out.call hb); have E1 := Lib.hid ((E0.out.below hb).wider hb.size); have L1 := Lib.hid (L0.out.call hb); clear hb hv)) | ((with_reducible refine en_load_g ?_ rfl ?_); (focus first | rfl | (simp [Region.wanted, yielded]; done)); apply LoadEn.mk rfl; (focus (with_reducible exact B1.out.en)); dsimp only) | (go_at_call 30; ((with_reducible refine ((ce _ E1.out).out).mono ?_); rintro x w2 ⟨rfl, hb⟩; have B2 := Lib.hid (B1.out.call hb); have k2s := B2.out.st.cell 0; have k2e := B2.out.en.cell 0; have L2 := Lib.hid (L1.out.call hb); clear hb)) | ((with_reducible refine im_store_state rfl rfl ?_); apply StoreS.mk rfl rfl; (focus (with_reducible exact B2.out.out)); (focus (exact Im.zero_size)); (focus rfl)))
      have hn := hN.out
      subst hn
      refine bodyPost_ret (v := .tuple #[.agg (Im.cells s.g (.slice A s.g.shots.length c) s.r), .int .i64 1]) ?_ ?_ ?_
      · exact results_cell_tmp (p := 4) (q := 5) rfl _ _ _ _ (Im.cells s.g (.slice A s.g.shots.length c) s.r) _ rfl (Box.row B2.out.out _) Tryz.underlying35 rfl (by rw [Im.cells_size]; exact state_info)
      · rfl
      · exact ⟨A, c, rfl, L2.out.zero_row rfl B2.out.out _, Below.setRow' B2.out.below (by omega) _⟩
    · simp only [decide_eq_false hen] at ce
      clear hok hen hno hr hn hm hm63 hE hty
      go_enter Tryz.func13, Tryz.ntmps13
      go_wp2_with (first | (with_reducible refine alloc_state rfl rfl ?_) | ((with_reducible refine im_load_state rfl rfl ?_); apply LoadIm.mk rfl; (focus first | (with_reducible exact B0.out.st) | (with_reducible exact B2.out.st)); dsimp only) | (go_at_call 15; ((with_reducible refine ((cm).out).mono ?_); rintro x w1 ⟨⟨v, rfl, hv⟩, hb⟩; obtain rfl : v = true := hv.2 HOK.out; have B1 := Lib.hid (B0.out.call hb); have E1 := Lib.hid ((E0.out.below hb).wider hb.size); have L1 := Lib.hid (L0.out.call hb); clear hb hv)) | ((with_reducible refine en_load_g ?_ rfl ?_); (focus first | rfl | (simp [Region.wanted, yielded]; done)); apply LoadEn.mk rfl; (focus (with_reducible exact B1.out.en)); dsimp only) | (go_at_call 30; ((with_reducible refine ((ce _ E1.out).out).mono ?_); rintro x w2 ⟨rfl, hb⟩; have B2 := Lib.hid (B1.out.call hb); have k2s := B2.out.st.cell 0; have k2e := B2.out.en.cell 0; have L2 := Lib.hid (L1.out.call hb); clear hb)) | ((with_reducible refine im_store_state rfl rfl ?_); apply StoreS.mk rfl rfl; (focus (with_reducible exact B2.out.out)); (focus (exact Im.zero_size)); (focus rfl)))
      have hn := hN.out
      subst hn
      refine bodyPost_ret (v := .tuple #[.agg (Im.cells s.g (.slice A s.g.shots.length c) s.r), .int .i64 1]) ?_ ?_ ?_
      · exact results_cell_tmp (p := 4) (q := 5) rfl _ _ _ _ (Im.cells s.g (.slice A s.g.shots.length c) s.r) _ rfl (Box.row B2.out.out _) Tryz.underlying35 rfl (by rw [Im.cells_size]; exact state_info)
      · rfl
      · exact ⟨A, c, rfl, L2.out.zero_row rfl B2.out.out _, Below.setRow' B2.out.below (by omega) _⟩
  · have HOK := Lib.hid hok
    clear hok hno hr hn hm hm63 hE hty
    go_enter Tryz.func13, Tryz.ntmps13
    go_wp2_with (first | (with_reducible refine alloc_state rfl rfl ?_) | ((with_reducible refine im_load_state rfl rfl ?_); apply LoadIm.mk rfl; (focus first | (with_reducible exact B0.out.st) | (with_reducible exact B1.out.st)); dsimp only) | (go_at_call 15; ((with_reducible refine ((cm).out).mono ?_); rintro x w1 ⟨⟨v, rfl, hv⟩, hb⟩; obtain rfl : v = false := (by cases v <;> first | rfl | exact absurd (hv.1 rfl) HOK.out); have B1 := Lib.hid (B0.out.call hb); have E1 := Lib.hid ((E0.out.below hb).wider hb.size); have L1 := Lib.hid (L0.out.call hb); clear hb hv)) | ((with_reducible refine im_store_state rfl rfl ?_); apply StoreS.mk rfl rfl; (focus (with_reducible exact B1.out.out)); (focus (exact Im.zero_size)); (focus rfl)))
    have hn := hN.out
    subst hn
    refine bodyPost_ret (v := .tuple #[.agg (Im.cells s.g (.slice A s.g.shots.length c) s.r), .int .i64 1]) ?_ ?_ ?_
    · exact results_cell_tmp (p := 4) (q := 5) rfl _ _ _ _ (Im.cells s.g (.slice A s.g.shots.length c) s.r) _ rfl (Box.row B1.out.out _) Tryz.underlying35 rfl (by rw [Im.cells_size]; exact state_info)
    · rfl
    · exact ⟨A, c, rfl, L1.out.zero_row rfl B1.out.out _, Below.setRow' B1.out.below (by omega) _⟩

set_option maxRecDepth 100000 in
set_option maxHeartbeats 8000000 in
theorem refapply_go (s : Fd.S) (e : En.E) (A A2 : Option Addr) (n c m c2 : Nat) (w : World) (hty : Gm.ty s.g) (hn63 : n ≤ maxLen) (hn : n = s.g.shots.length) (hr : Lies w w.heap.size 6 A n (Gm.shotCells s.g.shots)) (hm : m = e.evs.length) (hm63 : m ≤ maxLen) (hE : Lies w w.heap.size 4 A2 m (En.evCells e.evs)) (hin : ∀ i, i < 8 → Gm.tyIn (e.inp i)) (hmay : Fd.May s e) :
    Calls Tryz.prog 13 #[.agg (Im.cells s.g (.slice A n c) s.r), .agg (En.cells e (.slice A2 m c2))] w (RefBehind s e w) := by
  have B0 := Lib.hid (bh_start w s.g (.slice A n c) s.r e (.slice A2 m c2))
  have L0 := Lib.hid ((hr.below B0.out.below).wider B0.out.below.size)
  have E0 := Lib.hid ((hE.below B0.out.below).wider B0.out.below.size)
  have cm := Lib.hid (refstate_any s.g s.r A n c _ hty hn hn63 L0.out)
  have ce := fun X hX => Lib.hid (refmayen_any e A2 m c2 X hm hm63 hin hX)
  have hfine : Fd.Fine s := ⟨hmay.1, hty.2.1⟩
  have HF := Lib.hid hfine
  have HM := Lib.hid hmay
  have HE := Lib.hid hE
  have HR := Lib.hid hr
  have hN := Lib.hid hn
  have hMN := Lib.hid hm
  have m63 : (m : Int) ≤ 9223372036854775807 := by unfold maxLen at hm63; omega
  have hfr : (e.frame != s.g.frame) = false := by simpa using hmay.2.2
  simp only [decide_eq_true hmay.2.1] at ce
  have hs0 : (Im.cells s.g (.slice A n c) s.r)[0]? = some (.int .i64 s.g.frame) := (Im.cells_g _ _ _ 0 (by omega)).trans (Gm.cells_0 _ _)
  have he0 := En.cells_0 e (.slice A2 m c2)
  clear hmay hr hn hm hm63 hE hty hfine
  go_enter Tryz.func13, Tryz.ntmps13
  go_upto_region 4 with (first | (with_reducible refine alloc_state rfl rfl ?_) | ((with_reducible refine im_load_state rfl rfl ?_); apply LoadIm.mk rfl; (focus first | (with_reducible exact B0.out.st) | (with_reducible exact B2.out.st)); dsimp only) | (go_at_call 15; ((with_reducible refine ((cm).out).mono ?_); rintro x w1 ⟨⟨v, rfl, hv⟩, hb⟩; obtain rfl : v = true := hv.2 HM.out.1; have B1 := Lib.hid (B0.out.call hb); have E1 := Lib.hid ((E0.out.below hb).wider hb.size); have L1 := Lib.hid (L0.out.call hb); clear hb hv)) | ((with_reducible refine en_load_g ?_ rfl ?_); (focus first | rfl | (simp [Region.wanted, yielded]; done)); apply LoadEn.mk rfl; (focus (with_reducible exact B1.out.en)); dsimp only) | (go_at_call 30; ((with_reducible refine ((ce _ E1.out).out).mono ?_); rintro x w2 ⟨rfl, hb⟩; have B2 := Lib.hid (B1.out.call hb); have k2s := B2.out.st.cell 0; have k2e := B2.out.en.cell 0; have P2 := Lib.hid (show Pa w s.g (.slice A n c) s.r e (.slice A2 m c2) w2.heap.size s.g (.slice A n c) s.r (w2.alloc (.cells (Im.cells s.g (.slice A n c) s.r) 35)) from ⟨B2.out.st.alloc _, B2.out.en.alloc _, B2.out.out.alloc _, Box.made _ _ _, B2.out.out.lt, B2.out.below.alloc B2.out.below.size _⟩); have L2 := Lib.hid ((L1.out.call hb).call (one_below w2 (.cells (Im.cells s.g (.slice A n c) s.r) 35))); clear hb)) | (with_reducible refine im_store_new rfl rfl rfl rfl Im.zero_size rfl ?_))
  clear B0 L0 E0 cm ce B1 E1 L1 B2 k2s k2e hs0 he0 hfr
  have hn := hN.out
  subst hn
  generalize hW2 : w2.alloc (.cells (Im.cells s.g (.slice A s.g.shots.length c) s.r) 35) = W2 at P2 L2 ⊢
  generalize w2.heap.size = Bn at P2 ⊢
  clear hW2
  go_wp2
  go_loopw [7] (fun i wr => ∃ (k : Nat) (t : Fd.S) (A' : Option Addr) (c' : Nat), k ≤ m ∧ i = .int .i64 k ∧ Fd.changes s (e.evs.take k) = some t ∧ Pa w s.g (.slice A s.g.shots.length c) s.r e (.slice A2 m c2) Bn t.g (.slice A' t.g.shots.length c') t.r wr ∧ Lies wr wr.heap.size 6 A' t.g.shots.length (Gm.shotCells t.g.shots)) (fun i _ => m - (intOf i).toNat)
  case atStart => exact ⟨0, s, A, c, Nat.zero_le _, rfl, rfl, P2.out, L2.out⟩
  case round =>
    obtain ⟨k, t, A', c', hk, rfl, hch, hB, hL⟩ := hrel
    clear P2 L2
    have en1 := (hB.en.cell 1).trans (En.cells_1 e (.slice A2 m c2))
    by_cases hlt : k < m
    · have hk8 : (k : Int) < m := by omega
      have hkl : k < e.evs.length := by have := hMN.out; omega
      obtain ⟨ad, rfl, hbl, e0, e1, e2, e3⟩ := evs_at (HE.out.below hB.below) hMN.out k hkl
      have hok := En.row_mem e.evs (-1) HM.out.2.1.row e.evs[k] (List.getElem_mem hkl)
      have hft := (HF.out.changes hch).1
      have hgo := Lib.hid (fun hv : Fd.MayEv t e.evs[k] => Fd.changes_go hkl hch hv)
      have hst := Lib.hid (fun hv : ¬ Fd.MayEv t e.evs[k] => Fd.apply_stop HM.out (Fd.changes_stop hkl hch hv))
      have cy' := fun X (hv : Fd.MayEv t e.evs[k]) => Lib.hid (refevent_yes t e.evs[k] X hv)
      have cn' := fun X (hv : ¬ Fd.MayEv t e.evs[k]) => Lib.hid (refevent_no t e.evs[k] X hok hv)
      have HFT := Lib.hid hft
      generalize hv : e.evs[k] = v at e0 e1 e2 e3 hgo hst cy' cn' hok
      have sz := hB.below.size
      have ltA : ad.block < wr.heap.size := by omega
      have ltP : Bn < wr.heap.size := hB.nx.lt
      have P4 := fun o => Lib.hid (hB.alloc o)
      have L4 := fun o => Lib.hid (hL.call (one_below wr o))
      have V4 := Lib.hid (Box.made wr 61 #[.int .i64 v.kind, .int .i64 v.slot, .int .i64 v.gen, .int .i64 v.peer])
      have r0 := (HR.out.below hB.below)
      have L0 := Lib.hid r0
      clear r0
      by_cases hev : Fd.MayEv t v
      · have cs := fun X => cy' X hev
        have HG := Lib.hid (hgo.out hev)
        clear hgo hst cy' cn' hv hok hch hB hL hft
        rcases hev with ⟨hk1, ht, hg1⟩ | ⟨hk1, ht, hp1, hg1⟩
        · obtain ⟨j, hj8, ej, ej', hpj, ht', hp0⟩ := Fd.take_on ht
          have hau : Fd.after t v = ⟨Gm.spawn t.g j, Ros.take t.r j v.peer⟩ := by unfold Fd.after; rw [if_pos hk1, ej']
          have hoff : (t.g.ship j).on = false := (HFT.out.ok.2.2 j hj8).trans (decide_eq_false (by omega))
          have cg := fun X hX => Lib.hid (refspawn_out t.g A' t.g.shots.length c' j X HFT.out.ok.1 HFT.out.dice rfl hX hj8 hoff)
          rw [hau] at HG
          simp only [hau] at cs
          obtain ⟨vk, vs, vg, vp⟩ := v
          dsimp only at e0 e1 e2 e3 cs hk1 ej V4 HG
          subst hk1 ej
          clear ht ht' hg1 hpj hp0 hau hoff ej'
          generalize hRR : Ros.take t.r j vp = RR at cs HG
          generalize hGG : Gm.spawn t.g j = GG at cg HG
          clear hRR hGG
          go_upto_region 12 with (first | ((with_reducible refine row_load rfl rfl Tryz.underlying61 rfl ?_); apply LoadRow.mk rfl; (focus (with_reducible exact V4.out)); (focus (exact ev4_size))) | ((with_reducible refine im_load_ros rfl rfl ?_); apply LoadIm.mk rfl; (focus (with_reducible exact (P4 _).out.nx)); dsimp only) | (go_at_call 31; ((with_reducible refine ((cs _).out).mono ?_); rintro x w5 ⟨rfl, hb⟩; have P5 := Lib.hid (((P4 _).out.call hb).alloc (.cells (Ros.cells RR) 33)); have V5 := Lib.hid ((V4.out.below hb V4.out.lt).alloc (.cells (Ros.cells RR) 33)); have R5 := Lib.hid (Box.made w5 33 (Ros.cells RR)); have L5 := Lib.hid (((L4 _).out.call hb).call (one_below w5 (.cells (Ros.cells RR) 33))); have P6 := Lib.hid (P5.out.store (g' := t.g) (s' := .slice A' t.g.shots.length c') (r' := RR)); have V6 := Lib.hid (V5.out.row_far (Box.apart V5.out P5.out.nx (by decide)) (Im.cells t.g (.slice A' t.g.shots.length c') RR)); have L6 := Lib.hid (L5.out.state_row rfl P5.out.nx (Im.cells t.g (.slice A' t.g.shots.length c') RR)); clear hb)) | (with_reducible refine ros_alloc rfl rfl ?_) | ((with_reducible refine ros_store_new rfl rfl rfl rfl rfl ?_)) | ((with_reducible refine ros_load rfl rfl ?_); apply LoadRow.mk rfl; (focus (with_reducible exact R5.out)); (focus (exact ros_info))) | ((with_reducible refine im_store_ros rfl rfl ?_); apply StoreR.mk rfl rfl; (focus (with_reducible exact P5.out.nx))))
          generalize hW6 : (w5.alloc (.cells (Ros.cells RR) 33)).setRow Bn (Im.cells t.g (.slice A' t.g.shots.length c') RR) = W6 at P6 V6 L6 ⊢
          clear hW6 P5 V5 L5 R5 P4 V4 L4 cs e0 e1 e2 e3
          have P7 := Lib.hid (P6.out.alloc (.cells (Gm.cells t.g (.slice A' t.g.shots.length c')) 28))
          have V7 := Lib.hid (V6.out.alloc (.cells (Gm.cells t.g (.slice A' t.g.shots.length c')) 28))
          have L7 := Lib.hid (L6.out.call (one_below W6 (.cells (Gm.cells t.g (.slice A' t.g.shots.length c')) 28)))
          have G7 := Lib.hid (Box.made W6 28 (Gm.cells t.g (.slice A' t.g.shots.length c')))
          have z7 := Lib.hid P6.out.below.size
          go_upto_region 13 with (first | ((with_reducible refine im_load_game rfl rfl ?_); apply LoadIm.mk rfl; (focus (with_reducible exact P6.out.nx)); dsimp only) | (refine wpList_alloc_game rfl rfl ?_) | (refine wpList_store_game_new rfl rfl rfl rfl rfl rfl ?_))
          try simp only [World.size_alloc]
          generalize hW7 : W6.alloc (.cells (Gm.cells t.g (.slice A' t.g.shots.length c')) 28) = W7 at P7 V7 L7 G7 ⊢
          generalize W6.heap.size = bg at G7 z7 ⊢
          clear hW7 P6 V6 L6
          have v7 := V7.out.cell
          go_upto_region 16 with (first | ((with_reducible refine load_gate rfl rfl ?_); apply LoadGame.mk rfl; (with_reducible exact G7.out)) | (go_at_call 33; ((with_reducible refine ((cg _ L7.out).out).mono ?_); rintro x w8 ⟨A8, c8, rfl, hL8, hb⟩; have P8 := Lib.hid (P7.out.call hb); have G8 := Lib.hid (G7.out.below hb G7.out.lt); have L8 := Lib.hid hL8; clear hb hL8)) | ((with_reducible refine store_gate rfl rfl ?_); apply StoreGame.mk rfl rfl rfl; (with_reducible exact G8.out)))
          have P9 := Lib.hid (P8.out.game (cs := Gm.cells GG (.slice A8 GG.shots.length c8)) G8.out z7.out)
          have G9 := Lib.hid (G8.out.row (Gm.cells GG (.slice A8 GG.shots.length c8)))
          have L9 := Lib.hid (L8.out.game_row rfl G8.out (Gm.cells GG (.slice A8 GG.shots.length c8)))
          try simp only [World.size_alloc]
          generalize hW9 : w8.setRow bg (Gm.cells GG (.slice A8 GG.shots.length c8)) = W9 at P9 G9 L9 ⊢
          clear hW9 P8 G8 L8 P7 V7 L7 G7 v7 cg
          have P10 := Lib.hid (P9.out.store (g' := GG) (s' := .slice A8 GG.shots.length c8) (r' := RR))
          have L10 := Lib.hid (L9.out.state_row rfl P9.out.nx (Im.cells GG (.slice A8 GG.shots.length c8) RR))
          go_wp2_with (first | ((with_reducible refine load_gate rfl rfl ?_); apply LoadGame.mk rfl; (with_reducible exact G9.out)) | ((with_reducible refine im_store_game rfl rfl ?_); apply StoreG.mk rfl rfl; (focus (with_reducible exact P9.out.nx)); (focus rfl)))
          go_roundw
          case rel => exact ⟨k + 1, ⟨GG, RR⟩, A8, c8, by omega, by go_num, HG.out, P10.out, L10.out⟩
          case measure => simp [intOf]; omega
        · obtain ⟨j, hj8, ej, ej', hpj, ht'⟩ := Fd.give_on ht
          have hau : Fd.after t v = ⟨Gm.remove t.g j, Ros.give t.r j⟩ := by unfold Fd.after; rw [if_neg (by omega), ej']
          have hon : (t.g.ship j).on = true := (HFT.out.ok.2.2 j hj8).trans (decide_eq_true hpj)
          have cg := fun X hX => Lib.hid (refremove_yes t.g A' t.g.shots.length c' j X HFT.out.ok.1 rfl hX hj8 hon)
          rw [hau] at HG
          simp only [hau] at cs
          obtain ⟨vk, vs, vg, vp⟩ := v
          dsimp only at e0 e1 e2 e3 cs hk1 ej V4 HG
          subst hk1 ej
          clear ht ht' hg1 hpj hp1 hau hon ej'
          generalize hRR : Ros.give t.r j = RR at cs HG
          generalize hGG : Gm.remove t.g j = GG at cg HG
          clear hRR hGG
          go_upto_region 12 with (first | ((with_reducible refine row_load rfl rfl Tryz.underlying61 rfl ?_); apply LoadRow.mk rfl; (focus (with_reducible exact V4.out)); (focus (exact ev4_size))) | ((with_reducible refine im_load_ros rfl rfl ?_); apply LoadIm.mk rfl; (focus (with_reducible exact (P4 _).out.nx)); dsimp only) | (go_at_call 31; ((with_reducible refine ((cs _).out).mono ?_); rintro x w5 ⟨rfl, hb⟩; have P5 := Lib.hid (((P4 _).out.call hb).alloc (.cells (Ros.cells RR) 33)); have V5 := Lib.hid ((V4.out.below hb V4.out.lt).alloc (.cells (Ros.cells RR) 33)); have R5 := Lib.hid (Box.made w5 33 (Ros.cells RR)); have L5 := Lib.hid (((L4 _).out.call hb).call (one_below w5 (.cells (Ros.cells RR) 33))); have P6 := Lib.hid (P5.out.store (g' := t.g) (s' := .slice A' t.g.shots.length c') (r' := RR)); have V6 := Lib.hid (V5.out.row_far (Box.apart V5.out P5.out.nx (by decide)) (Im.cells t.g (.slice A' t.g.shots.length c') RR)); have L6 := Lib.hid (L5.out.state_row rfl P5.out.nx (Im.cells t.g (.slice A' t.g.shots.length c') RR)); clear hb)) | (with_reducible refine ros_alloc rfl rfl ?_) | ((with_reducible refine ros_store_new rfl rfl rfl rfl rfl ?_)) | ((with_reducible refine ros_load rfl rfl ?_); apply LoadRow.mk rfl; (focus (with_reducible exact R5.out)); (focus (exact ros_info))) | ((with_reducible refine im_store_ros rfl rfl ?_); apply StoreR.mk rfl rfl; (focus (with_reducible exact P5.out.nx))))
          generalize hW6 : (w5.alloc (.cells (Ros.cells RR) 33)).setRow Bn (Im.cells t.g (.slice A' t.g.shots.length c') RR) = W6 at P6 V6 L6 ⊢
          clear hW6 P5 V5 L5 R5 P4 V4 L4 cs e0 e1 e2 e3
          have P7 := Lib.hid (P6.out.alloc (.cells (Gm.cells t.g (.slice A' t.g.shots.length c')) 28))
          have V7 := Lib.hid (V6.out.alloc (.cells (Gm.cells t.g (.slice A' t.g.shots.length c')) 28))
          have L7 := Lib.hid (L6.out.call (one_below W6 (.cells (Gm.cells t.g (.slice A' t.g.shots.length c')) 28)))
          have G7 := Lib.hid (Box.made W6 28 (Gm.cells t.g (.slice A' t.g.shots.length c')))
          have z7 := Lib.hid P6.out.below.size
          go_upto_region 13 with (first | ((with_reducible refine im_load_game rfl rfl ?_); apply LoadIm.mk rfl; (focus (with_reducible exact P6.out.nx)); dsimp only) | (refine wpList_alloc_game rfl rfl ?_) | (refine wpList_store_game_new rfl rfl rfl rfl rfl rfl ?_))
          try simp only [World.size_alloc]
          generalize hW7 : W6.alloc (.cells (Gm.cells t.g (.slice A' t.g.shots.length c')) 28) = W7 at P7 V7 L7 G7 ⊢
          generalize W6.heap.size = bg at G7 z7 ⊢
          clear hW7 P6 V6 L6
          have v7 := V7.out.cell
          go_upto_region 16 with (first | ((with_reducible refine load_gate rfl rfl ?_); apply LoadGame.mk rfl; (with_reducible exact G7.out)) | (go_at_call 32; ((with_reducible refine ((cg _ L7.out).out).mono ?_); rintro x w8 ⟨A8, c8, rfl, hL8, hb⟩; have P8 := Lib.hid (P7.out.call hb); have G8 := Lib.hid (G7.out.below hb G7.out.lt); have L8 := Lib.hid hL8; clear hb hL8)) | ((with_reducible refine store_gate rfl rfl ?_); apply StoreGame.mk rfl rfl rfl; (with_reducible exact G8.out)))
          have P9 := Lib.hid (P8.out.game (cs := Gm.cells GG (.slice A8 GG.shots.length c8)) G8.out z7.out)
          have G9 := Lib.hid (G8.out.row (Gm.cells GG (.slice A8 GG.shots.length c8)))
          have L9 := Lib.hid (L8.out.game_row rfl G8.out (Gm.cells GG (.slice A8 GG.shots.length c8)))
          try simp only [World.size_alloc]
          generalize hW9 : w8.setRow bg (Gm.cells GG (.slice A8 GG.shots.length c8)) = W9 at P9 G9 L9 ⊢
          clear hW9 P8 G8 L8 P7 V7 L7 G7 v7 cg
          have P10 := Lib.hid (P9.out.store (g' := GG) (s' := .slice A8 GG.shots.length c8) (r' := RR))
          have L10 := Lib.hid (L9.out.state_row rfl P9.out.nx (Im.cells GG (.slice A8 GG.shots.length c8) RR))
          go_wp2_with (first | ((with_reducible refine load_gate rfl rfl ?_); apply LoadGame.mk rfl; (with_reducible exact G9.out)) | ((with_reducible refine im_store_game rfl rfl ?_); apply StoreG.mk rfl rfl; (focus (with_reducible exact P9.out.nx)); (focus rfl)))
          go_roundw
          case rel => exact ⟨k + 1, ⟨GG, RR⟩, A8, c8, by omega, by go_num, HG.out, P10.out, L10.out⟩
          case measure => simp [intOf]; omega
      · have cs := fun X => cn' X hev
        have HG := Lib.hid (hst.out hev)
        obtain ⟨vk, vs, vg, vp⟩ := v
        dsimp only at e0 e1 e2 e3 cs V4
        clear hgo hst cy' cn' hv hev hok hch hB hL hft
        go_wp2_with (first | ((with_reducible refine row_load rfl rfl Tryz.underlying61 rfl ?_); apply LoadRow.mk rfl; (focus (with_reducible exact V4.out)); (focus (exact ev4_size))) | ((with_reducible refine im_load_ros rfl rfl ?_); apply LoadIm.mk rfl; (focus (with_reducible exact (P4 _).out.nx)); dsimp only) | (go_at_call 31; ((with_reducible refine ((cs _).out).mono ?_); rintro x w5 ⟨rfl, hb⟩; have P5 := Lib.hid (((P4 _).out.call hb).alloc (.cells (Ros.cells t.r) 33)); have L5 := Lib.hid (((L0.out.below ((one_below wr _).mono sz)).below (hb.mono (Nat.le_trans sz (one_below wr _).size))).below ((one_below w5 (.cells (Ros.cells t.r) 33)).mono (Nat.le_trans (Nat.le_trans sz (one_below wr _).size) hb.size))); clear hb)) | (with_reducible refine ros_alloc rfl rfl ?_) | ((with_reducible refine ros_store_new rfl rfl rfl rfl rfl ?_)) | ((with_reducible refine im_load_state rfl rfl ?_); apply LoadIm.mk rfl; (focus (with_reducible exact P5.out.st)); dsimp only) | ((with_reducible refine im_store_state rfl rfl ?_); apply StoreS.mk rfl rfl; (focus (with_reducible exact P5.out.out)); (focus (exact Im.zero_size)); (focus rfl)))
        refine bodyPost_ret (v := .tuple #[.agg (Im.cells s.g (.slice A s.g.shots.length c) s.r), .int .i64 1]) ?_ ?_ ?_
        · exact results_cell_tmp (p := 4) (q := 5) rfl _ _ _ _ (Im.cells s.g (.slice A s.g.shots.length c) s.r) _ rfl (Box.row P5.out.out _) Tryz.underlying35 rfl (by rw [Im.cells_size]; exact state_info)
        · rfl
        · exact .inr ⟨HG.out, A, c, rfl, (L5.out.wider P5.out.below.size).zero_row rfl P5.out.out _, Below.setRow' P5.out.below (by omega) _⟩
    · have hk8 : ¬ (k : Int) < m := by omega
      obtain rfl : k = m := by omega
      obtain ⟨k0, hk0⟩ : ∃ k0, k0 = k := ⟨_, rfl⟩
      rw [hMN.out, List.take_length] at hch
      have HC := Lib.hid hch
      rw [← hk0] at hB
      have P3 := Lib.hid hB
      have L3 := Lib.hid hL
      have HT := Lib.hid (HF.out.changes hch)
      clear hch hB hL
      go_wp2
      go_loopw [13] (fun i wr => ∃ k : Nat, k ≤ 8 ∧ i = .int .i64 k ∧ Pa w s.g (.slice A s.g.shots.length c) s.r e (.slice A2 k0 c2) Bn t.g (.slice A' t.g.shots.length c') t.r wr ∧ Lies wr wr.heap.size 6 A' t.g.shots.length (Gm.shotCells t.g.shots) ∧ ∀ j, j < k → t.r.peer j < 0 → En.zero (e.inp j) = true) (fun i _ => 8 - (intOf i).toNat)
      case atStart => exact ⟨0, by omega, rfl, P3.out, L3.out, fun j hj => absurd hj (Nat.not_lt_zero j)⟩
      case round =>
        obtain ⟨k, hk, rfl, hB, hL, hall⟩ := hrel
        clear P3 L3 en1
        by_cases hlt : k < 8
        · have hk8 : (k : Int) < 8 := by omega
          have c0 := (hB.nx.cell (60 + k * 2)).trans (Im.cells_peer t.g _ t.r k hlt)
          have i0 := (hB.en.cell (2 + k * 3)).trans (En.cells_in e _ k 0 hlt (by omega))
          have i1 := (hB.en.cell (2 + k * 3 + 1)).trans (En.cells_in e _ k 1 hlt (by omega))
          have i2 := (hB.en.cell (2 + k * 3 + 2)).trans (En.cells_in e _ k 2 hlt (by omega))
          have hnext := Lib.hid (fun (h : t.r.peer k < 0 → En.zero (e.inp k) = true) => show ∀ j, j < k + 1 → t.r.peer j < 0 → En.zero (e.inp j) = true from fun j hj => by
            by_cases ej : j = k
            · rw [ej]; exact h
            · exact hall j (by omega))
          have hbad := Lib.hid (fun (h : t.r.peer k < 0) (h' : En.zero (e.inp k) = false) => Fd.apply_idle HM.out HC.out (fun hi => by have := hi k hlt h; rw [h'] at this; cases this))
          obtain ⟨p, hp⟩ : ∃ p, p = e.inp k := ⟨_, rfl⟩
          rw [← hp] at i0 i1 i2 hnext hbad
          obtain ⟨x, y, b⟩ := p
          simp only [Gm.In.cells, List.getElem?_cons_zero, List.getElem?_cons_succ, Nat.add_zero] at i0 i1 i2
          have hq := fun W => in_neq10 x y b W
          generalize hzz : En.zero ⟨x, y, b⟩ = z at hq hnext hbad
          obtain ⟨pk, hpk⟩ : ∃ pk, pk = t.r.peer k := ⟨_, rfl⟩
          rw [← hpk] at c0 hnext hbad
          have P5 := Lib.hid hB
          have L5 := Lib.hid hL
          have O5 := Lib.hid ((HR.out.below hB.below).wider hB.below.size)
          clear hp hpk hall hB hL hzz
          by_cases hp0 : pk < 0
          · cases z
            · have hn := Lib.hid (hbad.out hp0 rfl)
              clear hnext hbad
              go_wp2_with (first | ((with_reducible refine im_load_state rfl rfl ?_); apply LoadIm.mk rfl; (focus (with_reducible exact P5.out.st)); dsimp only) | ((with_reducible refine im_store_state rfl rfl ?_); apply StoreS.mk rfl rfl; (focus (with_reducible exact P5.out.out)); (focus (exact Im.zero_size)); (focus rfl)))
              refine bodyPost_ret (v := .tuple #[.agg (Im.cells s.g (.slice A s.g.shots.length c) s.r), .int .i64 1]) ?_ ?_ ?_
              · exact results_cell_tmp (p := 4) (q := 5) rfl _ _ _ _ (Im.cells s.g (.slice A s.g.shots.length c) s.r) _ rfl (Box.row P5.out.out _) Tryz.underlying35 rfl (by rw [Im.cells_size]; exact state_info)
              · rfl
              · exact .inr ⟨hn.out, A, c, rfl, O5.out.zero_row rfl P5.out.out _, Below.setRow' P5.out.below (by omega) _⟩
            · have hn := Lib.hid (hnext.out (fun _ => rfl))
              clear hnext hbad
              go_wp2
              go_roundw
              case rel => exact ⟨k + 1, by omega, by go_num, P5.out, L5.out, hn.out⟩
              case measure => simp [intOf]; omega
          · have hn := Lib.hid (hnext.out (fun h => absurd h hp0))
            clear hnext hbad
            go_wp2
            go_roundw
            case rel => exact ⟨k + 1, by omega, by go_num, P5.out, L5.out, hn.out⟩
            case measure => simp [intOf]; omega
        · have hk8 : ¬ (k : Int) < 8 := by omega
          obtain rfl : k = 8 := by omega
          have HD := Lib.hid (Fd.apply_done HM.out HC.out hall)
          have hstep := fun X hX => Lib.hid (refstep_yes e.inp t.g A' t.g.shots.length c' X HT.out.1.ok.1 (by have := HT.out.2; have := HM.out.2.1.frame; have := HM.out.2.2; omega) HT.out.1.dice hin rfl hX)
          have P6 := Lib.hid hB
          have L6 := Lib.hid hL
          generalize hG : Gm.step e.inp t.g = G at hstep HD
          clear hall hB hL hG
          go_upto_region 25 with (first | ((with_reducible refine im_load_game rfl rfl ?_); apply LoadIm.mk rfl; (focus (with_reducible exact P6.out.nx)); dsimp only) | ((with_reducible refine en_load_ins rfl rfl ?_); apply LoadEn.mk rfl; (focus (with_reducible exact P6.out.en)); dsimp only) | (go_at_call 34; ((with_reducible refine ((hstep _ L6.out).out).mono ?_); rintro x w7 ⟨A7, c7, rfl, hL, hb⟩; have P7 := Lib.hid ((P6.out.call hb).alloc (.cells (Gm.cells G (.slice A7 G.shots.length c7)) 28)); have L7 := Lib.hid (hL.call (one_below w7 (.cells (Gm.cells G (.slice A7 G.shots.length c7)) 28))); have G7 := Lib.hid (Box.made w7 28 (Gm.cells G (.slice A7 G.shots.length c7))); have P9 := Lib.hid (P7.out.store (g' := G) (s' := .slice A7 G.shots.length c7) (r' := t.r)); have L9 := Lib.hid (L7.out.state_row rfl P7.out.nx (Im.cells G (.slice A7 G.shots.length c7) t.r)); clear hb hL)) | (refine wpList_alloc_game rfl rfl ?_) | (refine wpList_store_game_new rfl rfl rfl rfl rfl rfl ?_))
          go_wp2_with (first | ((with_reducible refine load_gate rfl rfl ?_); apply LoadGame.mk rfl; (with_reducible exact G7.out)) | ((with_reducible refine im_store_game rfl rfl ?_); apply StoreG.mk rfl rfl; (focus (with_reducible exact P7.out.nx)); (focus rfl)) | ((with_reducible refine im_load_state rfl rfl ?_); apply LoadIm.mk rfl; (focus (with_reducible exact P9.out.nx)); dsimp only) | ((with_reducible refine im_store_state rfl rfl ?_); apply StoreS.mk rfl rfl; (focus (with_reducible exact P9.out.out)); (focus (exact Im.zero_size)); (focus rfl)))
          refine bodyPost_ret (v := .tuple #[.agg (Im.cells G (.slice A7 G.shots.length c7) t.r), .int .i64 0]) ?_ ?_ ?_
          · exact results_cell_tmp (p := 4) (q := 5) rfl _ _ _ _ (Im.cells G (.slice A7 G.shots.length c7) t.r) _ rfl (Box.row P9.out.out _) Tryz.underlying35 rfl (by rw [Im.cells_size]; exact state_info)
          · rfl
          · exact .inl ⟨_, HD.out, A7, c7, rfl, L9.out.zero_row rfl P9.out.out _, Below.setRow' P9.out.below (by omega) _⟩
theorem refapply_some (s u : Fd.S) (e : En.E) (A A2 : Option Addr) (n c m c2 : Nat) (w : World) (hty : Gm.ty s.g) (hn63 : n ≤ maxLen) (hn : n = s.g.shots.length) (hr : Lies w w.heap.size 6 A n (Gm.shotCells s.g.shots)) (hm : m = e.evs.length) (hm63 : m ≤ maxLen) (hE : Lies w w.heap.size 4 A2 m (En.evCells e.evs)) (hin : ∀ i, i < 8 → Gm.tyIn (e.inp i)) (h : Fd.apply s e = some u) :
    Calls Tryz.prog 13 #[.agg (Im.cells s.g (.slice A n c) s.r), .agg (En.cells e (.slice A2 m c2))] w (SOut u.g u.r 0 w) :=
  (refapply_go s e A A2 n c m c2 w hty hn63 hn hr hm hm63 hE hin (Fd.apply_some h).1).mono fun r w' hB => refbehind_is h hB
theorem refapply_none (s : Fd.S) (e : En.E) (A A2 : Option Addr) (n c m c2 : Nat) (w : World) (hty : Gm.ty s.g) (hn63 : n ≤ maxLen) (hn : n = s.g.shots.length) (hr : Lies w w.heap.size 6 A n (Gm.shotCells s.g.shots)) (hm : m = e.evs.length) (hm63 : m ≤ maxLen) (hE : Lies w w.heap.size 4 A2 m (En.evCells e.evs)) (hin : ∀ i, i < 8 → Gm.tyIn (e.inp i)) (h : Fd.apply s e = none) :
    Calls Tryz.prog 13 #[.agg (Im.cells s.g (.slice A n c) s.r), .agg (En.cells e (.slice A2 m c2))] w (SOut s.g s.r 1 w) := by
  by_cases hmay : Fd.May s e
  · exact (refapply_go s e A A2 n c m c2 w hty hn63 hn hr hm hm63 hE hin hmay).mono fun r w' hB => refbehind_not h hB
  · exact refapply_may s e A A2 n c m c2 w hty hn63 hn hr hm hm63 hE hin hmay
end Go.Proofs.YtkkhdaeihnbilaaGreat
namespace Go.Proofs.YtkkhdaeihnbilaaGreat
open Go Go.RowKit Go.Shelf
set_option linter.unusedVariables false
set_option linter.unusedSimpArgs false

/-- A state and a code handed back; its shots lie in a block of shots. -/
def SOutT (g' : Gm.G) (r' : Ros.R) (code : Int) (w : World) (e : Ending) (w' : World) : Prop :=
  ∃ A c, e = .returned (.tuple #[.agg (Im.cells g' (.slice A g'.shots.length c) r'), .int .i64 code]) ∧ Lies w' w'.heap.size 6 A g'.shots.length (Gm.shotCells g'.shots) ∧ Typed w' 90 A ∧ Below w.heap.size w w'
def RefBehindT (s : Fd.S) (e : En.E) (w : World) (r : Ending) (w' : World) : Prop :=
  (∃ u, Fd.apply s e = some u ∧ SOutT u.g u.r 0 w r w') ∨ (Fd.apply s e = none ∧ SOut s.g s.r 1 w r w')
theorem refbehindt_is {s u : Fd.S} {e : En.E} {w w' : World} {r : Ending} (h : Fd.apply s e = some u) (hB : RefBehindT s e w r w') : SOutT u.g u.r 0 w r w' := by
  unfold RefBehindT at hB
  rw [h] at hB
  rcases hB with ⟨v, hv, h2⟩ | ⟨hno, _⟩
  · obtain rfl : u = v := Option.some.inj hv
    exact h2
  · cases hno
set_option maxRecDepth 100000 in
set_option maxHeartbeats 4000000 in
theorem refapply_own_go (s : Fd.S) (e : En.E) (A A2 : Option Addr) (n c m c2 : Nat) (w : World) (hty : Gm.ty s.g) (hn63 : n ≤ maxLen) (hn : n = s.g.shots.length) (hr : Lies w w.heap.size 6 A n (Gm.shotCells s.g.shots)) (hm : m = e.evs.length) (hm63 : m ≤ maxLen) (hE : Lies w w.heap.size 4 A2 m (En.evCells e.evs)) (hin : ∀ i, i < 8 → Gm.tyIn (e.inp i)) (hmay : Fd.May s e) :
    Calls Tryz.prog 13 #[.agg (Im.cells s.g (.slice A n c) s.r), .agg (En.cells e (.slice A2 m c2))] w (RefBehindT s e w) := by
  have B0 := Lib.hid (bh_start w s.g (.slice A n c) s.r e (.slice A2 m c2))
  have L0 := Lib.hid ((hr.below B0.out.below).wider B0.out.below.size)
  have E0 := Lib.hid ((hE.below B0.out.below).wider B0.out.below.size)
  have cm := Lib.hid (refstate_any s.g s.r A n c _ hty hn hn63 L0.out)
  have ce := fun X hX => Lib.hid (refmayen_any e A2 m c2 X hm hm63 hin hX)
  have hfine : Fd.Fine s := ⟨hmay.1, hty.2.1⟩
  have HF := Lib.hid hfine
  have HM := Lib.hid hmay
  have HE := Lib.hid hE
  have HR := Lib.hid hr
  have hN := Lib.hid hn
  have hMN := Lib.hid hm
  have m63 : (m : Int) ≤ 9223372036854775807 := by unfold maxLen at hm63; omega
  have hfr : (e.frame != s.g.frame) = false := by simpa using hmay.2.2
  simp only [decide_eq_true hmay.2.1] at ce
  have hs0 : (Im.cells s.g (.slice A n c) s.r)[0]? = some (.int .i64 s.g.frame) := (Im.cells_g _ _ _ 0 (by omega)).trans (Gm.cells_0 _ _)
  have he0 := En.cells_0 e (.slice A2 m c2)
  clear hmay hr hn hm hm63 hE hty hfine
  go_enter Tryz.func13, Tryz.ntmps13
  go_upto_region 4 with (first | (with_reducible refine alloc_state rfl rfl ?_) | ((with_reducible refine im_load_state rfl rfl ?_); apply LoadIm.mk rfl; (focus first | (with_reducible exact B0.out.st) | (with_reducible exact B2.out.st)); dsimp only) | (go_at_call 15; ((with_reducible refine ((cm).out).mono ?_); rintro x w1 ⟨⟨v, rfl, hv⟩, hb⟩; obtain rfl : v = true := hv.2 HM.out.1; have B1 := Lib.hid (B0.out.call hb); have E1 := Lib.hid ((E0.out.below hb).wider hb.size); have L1 := Lib.hid (L0.out.call hb); clear hb hv)) | ((with_reducible refine en_load_g ?_ rfl ?_); (focus first | rfl | (simp [Region.wanted, yielded]; done)); apply LoadEn.mk rfl; (focus (with_reducible exact B1.out.en)); dsimp only) | (go_at_call 30; ((with_reducible refine ((ce _ E1.out).out).mono ?_); rintro x w2 ⟨rfl, hb⟩; have B2 := Lib.hid (B1.out.call hb); have k2s := B2.out.st.cell 0; have k2e := B2.out.en.cell 0; have P2 := Lib.hid (show Pa w s.g (.slice A n c) s.r e (.slice A2 m c2) w2.heap.size s.g (.slice A n c) s.r (w2.alloc (.cells (Im.cells s.g (.slice A n c) s.r) 35)) from ⟨B2.out.st.alloc _, B2.out.en.alloc _, B2.out.out.alloc _, Box.made _ _ _, B2.out.out.lt, B2.out.below.alloc B2.out.below.size _⟩); have L2 := Lib.hid ((L1.out.call hb).call (one_below w2 (.cells (Im.cells s.g (.slice A n c) s.r) 35))); clear hb)) | (with_reducible refine im_store_new rfl rfl rfl rfl Im.zero_size rfl ?_))
  clear B0 L0 E0 cm ce B1 E1 L1 B2 k2s k2e hs0 he0 hfr
  have hn := hN.out
  subst hn
  generalize hW2 : w2.alloc (.cells (Im.cells s.g (.slice A s.g.shots.length c) s.r) 35) = W2 at P2 L2 ⊢
  generalize w2.heap.size = Bn at P2 ⊢
  clear hW2
  go_wp2
  go_loopw [7] (fun i wr => ∃ (k : Nat) (t : Fd.S) (A' : Option Addr) (c' : Nat), k ≤ m ∧ i = .int .i64 k ∧ Fd.changes s (e.evs.take k) = some t ∧ Pa w s.g (.slice A s.g.shots.length c) s.r e (.slice A2 m c2) Bn t.g (.slice A' t.g.shots.length c') t.r wr ∧ Lies wr wr.heap.size 6 A' t.g.shots.length (Gm.shotCells t.g.shots)) (fun i _ => m - (intOf i).toNat)
  case atStart => exact ⟨0, s, A, c, Nat.zero_le _, rfl, rfl, P2.out, L2.out⟩
  case round =>
    obtain ⟨k, t, A', c', hk, rfl, hch, hB, hL⟩ := hrel
    clear P2 L2
    have en1 := (hB.en.cell 1).trans (En.cells_1 e (.slice A2 m c2))
    by_cases hlt : k < m
    · have hk8 : (k : Int) < m := by omega
      have hkl : k < e.evs.length := by have := hMN.out; omega
      obtain ⟨ad, rfl, hbl, e0, e1, e2, e3⟩ := evs_at (HE.out.below hB.below) hMN.out k hkl
      have hok := En.row_mem e.evs (-1) HM.out.2.1.row e.evs[k] (List.getElem_mem hkl)
      have hft := (HF.out.changes hch).1
      have hgo := Lib.hid (fun hv : Fd.MayEv t e.evs[k] => Fd.changes_go hkl hch hv)
      have hst := Lib.hid (fun hv : ¬ Fd.MayEv t e.evs[k] => Fd.apply_stop HM.out (Fd.changes_stop hkl hch hv))
      have cy' := fun X (hv : Fd.MayEv t e.evs[k]) => Lib.hid (refevent_yes t e.evs[k] X hv)
      have cn' := fun X (hv : ¬ Fd.MayEv t e.evs[k]) => Lib.hid (refevent_no t e.evs[k] X hok hv)
      have HFT := Lib.hid hft
      generalize hv : e.evs[k] = v at e0 e1 e2 e3 hgo hst cy' cn' hok
      have sz := hB.below.size
      have ltA : ad.block < wr.heap.size := by omega
      have ltP : Bn < wr.heap.size := hB.nx.lt
      have P4 := fun o => Lib.hid (hB.alloc o)
      have L4 := fun o => Lib.hid (hL.call (one_below wr o))
      have V4 := Lib.hid (Box.made wr 61 #[.int .i64 v.kind, .int .i64 v.slot, .int .i64 v.gen, .int .i64 v.peer])
      have r0 := (HR.out.below hB.below)
      have L0 := Lib.hid r0
      clear r0
      by_cases hev : Fd.MayEv t v
      · have cs := fun X => cy' X hev
        have HG := Lib.hid (hgo.out hev)
        clear hgo hst cy' cn' hv hok hch hB hL hft
        rcases hev with ⟨hk1, ht, hg1⟩ | ⟨hk1, ht, hp1, hg1⟩
        · obtain ⟨j, hj8, ej, ej', hpj, ht', hp0⟩ := Fd.take_on ht
          have hau : Fd.after t v = ⟨Gm.spawn t.g j, Ros.take t.r j v.peer⟩ := by unfold Fd.after; rw [if_pos hk1, ej']
          have hoff : (t.g.ship j).on = false := (HFT.out.ok.2.2 j hj8).trans (decide_eq_false (by omega))
          have cg := fun X hX => Lib.hid (refspawn_out t.g A' t.g.shots.length c' j X HFT.out.ok.1 HFT.out.dice rfl hX hj8 hoff)
          rw [hau] at HG
          simp only [hau] at cs
          obtain ⟨vk, vs, vg, vp⟩ := v
          dsimp only at e0 e1 e2 e3 cs hk1 ej V4 HG
          subst hk1 ej
          clear ht ht' hg1 hpj hp0 hau hoff ej'
          generalize hRR : Ros.take t.r j vp = RR at cs HG
          generalize hGG : Gm.spawn t.g j = GG at cg HG
          clear hRR hGG
          go_upto_region 12 with (first | ((with_reducible refine row_load rfl rfl Tryz.underlying61 rfl ?_); apply LoadRow.mk rfl; (focus (with_reducible exact V4.out)); (focus (exact ev4_size))) | ((with_reducible refine im_load_ros rfl rfl ?_); apply LoadIm.mk rfl; (focus (with_reducible exact (P4 _).out.nx)); dsimp only) | (go_at_call 31; ((with_reducible refine ((cs _).out).mono ?_); rintro x w5 ⟨rfl, hb⟩; have P5 := Lib.hid (((P4 _).out.call hb).alloc (.cells (Ros.cells RR) 33)); have V5 := Lib.hid ((V4.out.below hb V4.out.lt).alloc (.cells (Ros.cells RR) 33)); have R5 := Lib.hid (Box.made w5 33 (Ros.cells RR)); have L5 := Lib.hid (((L4 _).out.call hb).call (one_below w5 (.cells (Ros.cells RR) 33))); have P6 := Lib.hid (P5.out.store (g' := t.g) (s' := .slice A' t.g.shots.length c') (r' := RR)); have V6 := Lib.hid (V5.out.row_far (Box.apart V5.out P5.out.nx (by decide)) (Im.cells t.g (.slice A' t.g.shots.length c') RR)); have L6 := Lib.hid (L5.out.state_row rfl P5.out.nx (Im.cells t.g (.slice A' t.g.shots.length c') RR)); clear hb)) | (with_reducible refine ros_alloc rfl rfl ?_) | ((with_reducible refine ros_store_new rfl rfl rfl rfl rfl ?_)) | ((with_reducible refine ros_load rfl rfl ?_); apply LoadRow.mk rfl; (focus (with_reducible exact R5.out)); (focus (exact ros_info))) | ((with_reducible refine im_store_ros rfl rfl ?_); apply StoreR.mk rfl rfl; (focus (with_reducible exact P5.out.nx))))
          generalize hW6 : (w5.alloc (.cells (Ros.cells RR) 33)).setRow Bn (Im.cells t.g (.slice A' t.g.shots.length c') RR) = W6 at P6 V6 L6 ⊢
          clear hW6 P5 V5 L5 R5 P4 V4 L4 cs e0 e1 e2 e3
          have P7 := Lib.hid (P6.out.alloc (.cells (Gm.cells t.g (.slice A' t.g.shots.length c')) 28))
          have V7 := Lib.hid (V6.out.alloc (.cells (Gm.cells t.g (.slice A' t.g.shots.length c')) 28))
          have L7 := Lib.hid (L6.out.call (one_below W6 (.cells (Gm.cells t.g (.slice A' t.g.shots.length c')) 28)))
          have G7 := Lib.hid (Box.made W6 28 (Gm.cells t.g (.slice A' t.g.shots.length c')))
          have z7 := Lib.hid P6.out.below.size
          go_upto_region 13 with (first | ((with_reducible refine im_load_game rfl rfl ?_); apply LoadIm.mk rfl; (focus (with_reducible exact P6.out.nx)); dsimp only) | (refine wpList_alloc_game rfl rfl ?_) | (refine wpList_store_game_new rfl rfl rfl rfl rfl rfl ?_))
          try simp only [World.size_alloc]
          generalize hW7 : W6.alloc (.cells (Gm.cells t.g (.slice A' t.g.shots.length c')) 28) = W7 at P7 V7 L7 G7 ⊢
          generalize W6.heap.size = bg at G7 z7 ⊢
          clear hW7 P6 V6 L6
          have v7 := V7.out.cell
          go_upto_region 16 with (first | ((with_reducible refine load_gate rfl rfl ?_); apply LoadGame.mk rfl; (with_reducible exact G7.out)) | (go_at_call 33; ((with_reducible refine ((cg _ L7.out).out).mono ?_); rintro x w8 ⟨A8, c8, rfl, hL8, hb⟩; have P8 := Lib.hid (P7.out.call hb); have G8 := Lib.hid (G7.out.below hb G7.out.lt); have L8 := Lib.hid hL8; clear hb hL8)) | ((with_reducible refine store_gate rfl rfl ?_); apply StoreGame.mk rfl rfl rfl; (with_reducible exact G8.out)))
          have P9 := Lib.hid (P8.out.game (cs := Gm.cells GG (.slice A8 GG.shots.length c8)) G8.out z7.out)
          have G9 := Lib.hid (G8.out.row (Gm.cells GG (.slice A8 GG.shots.length c8)))
          have L9 := Lib.hid (L8.out.game_row rfl G8.out (Gm.cells GG (.slice A8 GG.shots.length c8)))
          try simp only [World.size_alloc]
          generalize hW9 : w8.setRow bg (Gm.cells GG (.slice A8 GG.shots.length c8)) = W9 at P9 G9 L9 ⊢
          clear hW9 P8 G8 L8 P7 V7 L7 G7 v7 cg
          have P10 := Lib.hid (P9.out.store (g' := GG) (s' := .slice A8 GG.shots.length c8) (r' := RR))
          have L10 := Lib.hid (L9.out.state_row rfl P9.out.nx (Im.cells GG (.slice A8 GG.shots.length c8) RR))
          go_wp2_with (first | ((with_reducible refine load_gate rfl rfl ?_); apply LoadGame.mk rfl; (with_reducible exact G9.out)) | ((with_reducible refine im_store_game rfl rfl ?_); apply StoreG.mk rfl rfl; (focus (with_reducible exact P9.out.nx)); (focus rfl)))
          go_roundw
          case rel => exact ⟨k + 1, ⟨GG, RR⟩, A8, c8, by omega, by go_num, HG.out, P10.out, L10.out⟩
          case measure => simp [intOf]; omega
        · obtain ⟨j, hj8, ej, ej', hpj, ht'⟩ := Fd.give_on ht
          have hau : Fd.after t v = ⟨Gm.remove t.g j, Ros.give t.r j⟩ := by unfold Fd.after; rw [if_neg (by omega), ej']
          have hon : (t.g.ship j).on = true := (HFT.out.ok.2.2 j hj8).trans (decide_eq_true hpj)
          have cg := fun X hX => Lib.hid (refremove_yes t.g A' t.g.shots.length c' j X HFT.out.ok.1 rfl hX hj8 hon)
          rw [hau] at HG
          simp only [hau] at cs
          obtain ⟨vk, vs, vg, vp⟩ := v
          dsimp only at e0 e1 e2 e3 cs hk1 ej V4 HG
          subst hk1 ej
          clear ht ht' hg1 hpj hp1 hau hon ej'
          generalize hRR : Ros.give t.r j = RR at cs HG
          generalize hGG : Gm.remove t.g j = GG at cg HG
          clear hRR hGG
          go_upto_region 12 with (first | ((with_reducible refine row_load rfl rfl Tryz.underlying61 rfl ?_); apply LoadRow.mk rfl; (focus (with_reducible exact V4.out)); (focus (exact ev4_size))) | ((with_reducible refine im_load_ros rfl rfl ?_); apply LoadIm.mk rfl; (focus (with_reducible exact (P4 _).out.nx)); dsimp only) | (go_at_call 31; ((with_reducible refine ((cs _).out).mono ?_); rintro x w5 ⟨rfl, hb⟩; have P5 := Lib.hid (((P4 _).out.call hb).alloc (.cells (Ros.cells RR) 33)); have V5 := Lib.hid ((V4.out.below hb V4.out.lt).alloc (.cells (Ros.cells RR) 33)); have R5 := Lib.hid (Box.made w5 33 (Ros.cells RR)); have L5 := Lib.hid (((L4 _).out.call hb).call (one_below w5 (.cells (Ros.cells RR) 33))); have P6 := Lib.hid (P5.out.store (g' := t.g) (s' := .slice A' t.g.shots.length c') (r' := RR)); have V6 := Lib.hid (V5.out.row_far (Box.apart V5.out P5.out.nx (by decide)) (Im.cells t.g (.slice A' t.g.shots.length c') RR)); have L6 := Lib.hid (L5.out.state_row rfl P5.out.nx (Im.cells t.g (.slice A' t.g.shots.length c') RR)); clear hb)) | (with_reducible refine ros_alloc rfl rfl ?_) | ((with_reducible refine ros_store_new rfl rfl rfl rfl rfl ?_)) | ((with_reducible refine ros_load rfl rfl ?_); apply LoadRow.mk rfl; (focus (with_reducible exact R5.out)); (focus (exact ros_info))) | ((with_reducible refine im_store_ros rfl rfl ?_); apply StoreR.mk rfl rfl; (focus (with_reducible exact P5.out.nx))))
          generalize hW6 : (w5.alloc (.cells (Ros.cells RR) 33)).setRow Bn (Im.cells t.g (.slice A' t.g.shots.length c') RR) = W6 at P6 V6 L6 ⊢
          clear hW6 P5 V5 L5 R5 P4 V4 L4 cs e0 e1 e2 e3
          have P7 := Lib.hid (P6.out.alloc (.cells (Gm.cells t.g (.slice A' t.g.shots.length c')) 28))
          have V7 := Lib.hid (V6.out.alloc (.cells (Gm.cells t.g (.slice A' t.g.shots.length c')) 28))
          have L7 := Lib.hid (L6.out.call (one_below W6 (.cells (Gm.cells t.g (.slice A' t.g.shots.length c')) 28)))
          have G7 := Lib.hid (Box.made W6 28 (Gm.cells t.g (.slice A' t.g.shots.length c')))
          have z7 := Lib.hid P6.out.below.size
          go_upto_region 13 with (first | ((with_reducible refine im_load_game rfl rfl ?_); apply LoadIm.mk rfl; (focus (with_reducible exact P6.out.nx)); dsimp only) | (refine wpList_alloc_game rfl rfl ?_) | (refine wpList_store_game_new rfl rfl rfl rfl rfl rfl ?_))
          try simp only [World.size_alloc]
          generalize hW7 : W6.alloc (.cells (Gm.cells t.g (.slice A' t.g.shots.length c')) 28) = W7 at P7 V7 L7 G7 ⊢
          generalize W6.heap.size = bg at G7 z7 ⊢
          clear hW7 P6 V6 L6
          have v7 := V7.out.cell
          go_upto_region 16 with (first | ((with_reducible refine load_gate rfl rfl ?_); apply LoadGame.mk rfl; (with_reducible exact G7.out)) | (go_at_call 32; ((with_reducible refine ((cg _ L7.out).out).mono ?_); rintro x w8 ⟨A8, c8, rfl, hL8, hb⟩; have P8 := Lib.hid (P7.out.call hb); have G8 := Lib.hid (G7.out.below hb G7.out.lt); have L8 := Lib.hid hL8; clear hb hL8)) | ((with_reducible refine store_gate rfl rfl ?_); apply StoreGame.mk rfl rfl rfl; (with_reducible exact G8.out)))
          have P9 := Lib.hid (P8.out.game (cs := Gm.cells GG (.slice A8 GG.shots.length c8)) G8.out z7.out)
          have G9 := Lib.hid (G8.out.row (Gm.cells GG (.slice A8 GG.shots.length c8)))
          have L9 := Lib.hid (L8.out.game_row rfl G8.out (Gm.cells GG (.slice A8 GG.shots.length c8)))
          try simp only [World.size_alloc]
          generalize hW9 : w8.setRow bg (Gm.cells GG (.slice A8 GG.shots.length c8)) = W9 at P9 G9 L9 ⊢
          clear hW9 P8 G8 L8 P7 V7 L7 G7 v7 cg
          have P10 := Lib.hid (P9.out.store (g' := GG) (s' := .slice A8 GG.shots.length c8) (r' := RR))
          have L10 := Lib.hid (L9.out.state_row rfl P9.out.nx (Im.cells GG (.slice A8 GG.shots.length c8) RR))
          go_wp2_with (first | ((with_reducible refine load_gate rfl rfl ?_); apply LoadGame.mk rfl; (with_reducible exact G9.out)) | ((with_reducible refine im_store_game rfl rfl ?_); apply StoreG.mk rfl rfl; (focus (with_reducible exact P9.out.nx)); (focus rfl)))
          go_roundw
          case rel => exact ⟨k + 1, ⟨GG, RR⟩, A8, c8, by omega, by go_num, HG.out, P10.out, L10.out⟩
          case measure => simp [intOf]; omega
      · have cs := fun X => cn' X hev
        have HG := Lib.hid (hst.out hev)
        obtain ⟨vk, vs, vg, vp⟩ := v
        dsimp only at e0 e1 e2 e3 cs V4
        clear hgo hst cy' cn' hv hev hok hch hB hL hft
        go_wp2_with (first | ((with_reducible refine row_load rfl rfl Tryz.underlying61 rfl ?_); apply LoadRow.mk rfl; (focus (with_reducible exact V4.out)); (focus (exact ev4_size))) | ((with_reducible refine im_load_ros rfl rfl ?_); apply LoadIm.mk rfl; (focus (with_reducible exact (P4 _).out.nx)); dsimp only) | (go_at_call 31; ((with_reducible refine ((cs _).out).mono ?_); rintro x w5 ⟨rfl, hb⟩; have P5 := Lib.hid (((P4 _).out.call hb).alloc (.cells (Ros.cells t.r) 33)); have L5 := Lib.hid (((L0.out.below ((one_below wr _).mono sz)).below (hb.mono (Nat.le_trans sz (one_below wr _).size))).below ((one_below w5 (.cells (Ros.cells t.r) 33)).mono (Nat.le_trans (Nat.le_trans sz (one_below wr _).size) hb.size))); clear hb)) | (with_reducible refine ros_alloc rfl rfl ?_) | ((with_reducible refine ros_store_new rfl rfl rfl rfl rfl ?_)) | ((with_reducible refine im_load_state rfl rfl ?_); apply LoadIm.mk rfl; (focus (with_reducible exact P5.out.st)); dsimp only) | ((with_reducible refine im_store_state rfl rfl ?_); apply StoreS.mk rfl rfl; (focus (with_reducible exact P5.out.out)); (focus (exact Im.zero_size)); (focus rfl)))
        refine bodyPost_ret (v := .tuple #[.agg (Im.cells s.g (.slice A s.g.shots.length c) s.r), .int .i64 1]) ?_ ?_ ?_
        · exact results_cell_tmp (p := 4) (q := 5) rfl _ _ _ _ (Im.cells s.g (.slice A s.g.shots.length c) s.r) _ rfl (Box.row P5.out.out _) Tryz.underlying35 rfl (by rw [Im.cells_size]; exact state_info)
        · rfl
        · exact .inr ⟨HG.out, A, c, rfl, (L5.out.wider P5.out.below.size).zero_row rfl P5.out.out _, Below.setRow' P5.out.below (by omega) _⟩
    · have hk8 : ¬ (k : Int) < m := by omega
      obtain rfl : k = m := by omega
      obtain ⟨k0, hk0⟩ : ∃ k0, k0 = k := ⟨_, rfl⟩
      rw [hMN.out, List.take_length] at hch
      have HC := Lib.hid hch
      rw [← hk0] at hB
      have P3 := Lib.hid hB
      have L3 := Lib.hid hL
      have HT := Lib.hid (HF.out.changes hch)
      clear hch hB hL
      go_wp2
      go_loopw [13] (fun i wr => ∃ k : Nat, k ≤ 8 ∧ i = .int .i64 k ∧ Pa w s.g (.slice A s.g.shots.length c) s.r e (.slice A2 k0 c2) Bn t.g (.slice A' t.g.shots.length c') t.r wr ∧ Lies wr wr.heap.size 6 A' t.g.shots.length (Gm.shotCells t.g.shots) ∧ ∀ j, j < k → t.r.peer j < 0 → En.zero (e.inp j) = true) (fun i _ => 8 - (intOf i).toNat)
      case atStart => exact ⟨0, by omega, rfl, P3.out, L3.out, fun j hj => absurd hj (Nat.not_lt_zero j)⟩
      case round =>
        obtain ⟨k, hk, rfl, hB, hL, hall⟩ := hrel
        clear P3 L3 en1
        by_cases hlt : k < 8
        · have hk8 : (k : Int) < 8 := by omega
          have c0 := (hB.nx.cell (60 + k * 2)).trans (Im.cells_peer t.g _ t.r k hlt)
          have i0 := (hB.en.cell (2 + k * 3)).trans (En.cells_in e _ k 0 hlt (by omega))
          have i1 := (hB.en.cell (2 + k * 3 + 1)).trans (En.cells_in e _ k 1 hlt (by omega))
          have i2 := (hB.en.cell (2 + k * 3 + 2)).trans (En.cells_in e _ k 2 hlt (by omega))
          have hnext := Lib.hid (fun (h : t.r.peer k < 0 → En.zero (e.inp k) = true) => show ∀ j, j < k + 1 → t.r.peer j < 0 → En.zero (e.inp j) = true from fun j hj => by
            by_cases ej : j = k
            · rw [ej]; exact h
            · exact hall j (by omega))
          have hbad := Lib.hid (fun (h : t.r.peer k < 0) (h' : En.zero (e.inp k) = false) => Fd.apply_idle HM.out HC.out (fun hi => by have := hi k hlt h; rw [h'] at this; cases this))
          obtain ⟨p, hp⟩ : ∃ p, p = e.inp k := ⟨_, rfl⟩
          rw [← hp] at i0 i1 i2 hnext hbad
          obtain ⟨x, y, b⟩ := p
          simp only [Gm.In.cells, List.getElem?_cons_zero, List.getElem?_cons_succ, Nat.add_zero] at i0 i1 i2
          have hq := fun W => in_neq10 x y b W
          generalize hzz : En.zero ⟨x, y, b⟩ = z at hq hnext hbad
          obtain ⟨pk, hpk⟩ : ∃ pk, pk = t.r.peer k := ⟨_, rfl⟩
          rw [← hpk] at c0 hnext hbad
          have P5 := Lib.hid hB
          have L5 := Lib.hid hL
          have O5 := Lib.hid ((HR.out.below hB.below).wider hB.below.size)
          clear hp hpk hall hB hL hzz
          by_cases hp0 : pk < 0
          · cases z
            · have hn := Lib.hid (hbad.out hp0 rfl)
              clear hnext hbad
              go_wp2_with (first | ((with_reducible refine im_load_state rfl rfl ?_); apply LoadIm.mk rfl; (focus (with_reducible exact P5.out.st)); dsimp only) | ((with_reducible refine im_store_state rfl rfl ?_); apply StoreS.mk rfl rfl; (focus (with_reducible exact P5.out.out)); (focus (exact Im.zero_size)); (focus rfl)))
              refine bodyPost_ret (v := .tuple #[.agg (Im.cells s.g (.slice A s.g.shots.length c) s.r), .int .i64 1]) ?_ ?_ ?_
              · exact results_cell_tmp (p := 4) (q := 5) rfl _ _ _ _ (Im.cells s.g (.slice A s.g.shots.length c) s.r) _ rfl (Box.row P5.out.out _) Tryz.underlying35 rfl (by rw [Im.cells_size]; exact state_info)
              · rfl
              · exact .inr ⟨hn.out, A, c, rfl, O5.out.zero_row rfl P5.out.out _, Below.setRow' P5.out.below (by omega) _⟩
            · have hn := Lib.hid (hnext.out (fun _ => rfl))
              clear hnext hbad
              go_wp2
              go_roundw
              case rel => exact ⟨k + 1, by omega, by go_num, P5.out, L5.out, hn.out⟩
              case measure => simp [intOf]; omega
          · have hn := Lib.hid (hnext.out (fun h => absurd h hp0))
            clear hnext hbad
            go_wp2
            go_roundw
            case rel => exact ⟨k + 1, by omega, by go_num, P5.out, L5.out, hn.out⟩
            case measure => simp [intOf]; omega
        · have hk8 : ¬ (k : Int) < 8 := by omega
          obtain rfl : k = 8 := by omega
          have HD := Lib.hid (Fd.apply_done HM.out HC.out hall)
          have hstep := fun X hX => Lib.hid (refstep_own e.inp t.g A' t.g.shots.length c' X HT.out.1.ok.1 (by have := HT.out.2; have := HM.out.2.1.frame; have := HM.out.2.2; omega) HT.out.1.dice hin rfl hX)
          have P6 := Lib.hid hB
          have L6 := Lib.hid hL
          generalize hG : Gm.step e.inp t.g = G at hstep HD
          clear hall hB hL hG
          go_upto_region 25 with (first | ((with_reducible refine im_load_game rfl rfl ?_); apply LoadIm.mk rfl; (focus (with_reducible exact P6.out.nx)); dsimp only) | ((with_reducible refine en_load_ins rfl rfl ?_); apply LoadEn.mk rfl; (focus (with_reducible exact P6.out.en)); dsimp only) | (go_at_call 34; ((with_reducible refine ((hstep _ L6.out).out).mono ?_); rintro x w7 ⟨A7, c7, rfl, hL, hT, hb⟩; have P7 := Lib.hid ((P6.out.call hb).alloc (.cells (Gm.cells G (.slice A7 G.shots.length c7)) 28)); have L7 := Lib.hid (hL.call (one_below w7 (.cells (Gm.cells G (.slice A7 G.shots.length c7)) 28))); have T9 := Lib.hid ((hT.call (one_below w7 (.cells (Gm.cells G (.slice A7 G.shots.length c7)) 28))).row P7.out.nx (Im.cells G (.slice A7 G.shots.length c7) t.r)); have G7 := Lib.hid (Box.made w7 28 (Gm.cells G (.slice A7 G.shots.length c7))); have P9 := Lib.hid (P7.out.store (g' := G) (s' := .slice A7 G.shots.length c7) (r' := t.r)); have L9 := Lib.hid (L7.out.state_row rfl P7.out.nx (Im.cells G (.slice A7 G.shots.length c7) t.r)); clear hb hL hT)) | (refine wpList_alloc_game rfl rfl ?_) | (refine wpList_store_game_new rfl rfl rfl rfl rfl rfl ?_))
          go_wp2_with (first | ((with_reducible refine load_gate rfl rfl ?_); apply LoadGame.mk rfl; (with_reducible exact G7.out)) | ((with_reducible refine im_store_game rfl rfl ?_); apply StoreG.mk rfl rfl; (focus (with_reducible exact P7.out.nx)); (focus rfl)) | ((with_reducible refine im_load_state rfl rfl ?_); apply LoadIm.mk rfl; (focus (with_reducible exact P9.out.nx)); dsimp only) | ((with_reducible refine im_store_state rfl rfl ?_); apply StoreS.mk rfl rfl; (focus (with_reducible exact P9.out.out)); (focus (exact Im.zero_size)); (focus rfl)))
          refine bodyPost_ret (v := .tuple #[.agg (Im.cells G (.slice A7 G.shots.length c7) t.r), .int .i64 0]) ?_ ?_ ?_
          · exact results_cell_tmp (p := 4) (q := 5) rfl _ _ _ _ (Im.cells G (.slice A7 G.shots.length c7) t.r) _ rfl (Box.row P9.out.out _) Tryz.underlying35 rfl (by rw [Im.cells_size]; exact state_info)
          · rfl
          · exact .inl ⟨_, HD.out, A7, c7, rfl, L9.out.zero_row rfl P9.out.out _, T9.out.row P9.out.out _, Below.setRow' P9.out.below (by omega) _⟩
theorem refapply_own (s u : Fd.S) (e : En.E) (A A2 : Option Addr) (n c m c2 : Nat) (w : World) (hty : Gm.ty s.g) (hn63 : n ≤ maxLen) (hn : n = s.g.shots.length) (hr : Lies w w.heap.size 6 A n (Gm.shotCells s.g.shots)) (hm : m = e.evs.length) (hm63 : m ≤ maxLen) (hE : Lies w w.heap.size 4 A2 m (En.evCells e.evs)) (hin : ∀ i, i < 8 → Gm.tyIn (e.inp i)) (h : Fd.apply s e = some u) :
    Calls Tryz.prog 13 #[.agg (Im.cells s.g (.slice A n c) s.r), .agg (En.cells e (.slice A2 m c2))] w (SOutT u.g u.r 0 w) :=
  (refapply_own_go s e A A2 n c m c2 w hty hn63 hn hr hm hm63 hE hin (Fd.apply_some h).1).mono fun r w' hB => refbehindt_is h hB
end Go.Proofs.YtkkhdaeihnbilaaGreat
