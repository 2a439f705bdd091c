/-
The program's entry: Put.
-/
import Derived.Test.YtbihnmingedgfaaEx
namespace Go.Proofs.Ytbihnmingedgfaa
open Go.RowKit Go.Shelf
set_option linter.unusedVariables false
set_option linter.unusedSimpArgs false

theorem encatch_put (Bb Bc : Nat) (u : TypeId) (pv : Value) (older : List PanicEntry) (w : World) (x : Value) (hb : Box w Bb 54 #[x]) (y : Int) (hc : Box w Bc 3 #[.int .i64 y]) :
    CallsD Try.prog 90 #[.pointer (some ⟨Bb, 0, none⟩), .pointer (some ⟨Bc, 0, none⟩)] (.panicking ({ v := .iface u pv, recovered := false } :: older)) w fun e u' w' =>
      e = .returned (.tuple #[]) ∧ u' = .panicking ({ v := .iface u pv, recovered := true } :: older) ∧ w' = (w.setCell ⟨Bb, 0, none⟩ (.slice none 0 0)).setCell ⟨Bc, 0, none⟩ (.int .i64 1) := by
  have ne : Bb ≠ Bc := Box.apart hb hc (by decide)
  have c1 := hb.cell 0
  have f1 := hb.free 0
  have c2 := hc.cell 0
  have f2 := hc.free 0
  refine callsD_of_wpS Try.func90 rfl fun c₀ cs hu => ?_
  apply wpS_seq
  apply wpS_region
  simp [wpOpsS, go_sem, recoverD, hu, Try.ntmps90, Exit.thenS]
  refine wpS_cond (t := true) (by simp [Act.eval, Array.replicate]) ?_
  simp only [if_true]
  apply wpS_region
  have c2' : (w.setCell ⟨Bb, 0, none⟩ (.slice none 0 0)).cell? ⟨Bc, 0, none⟩ = some (.int .i64 y) := (hc.far (p := ⟨Bb, 0, none⟩) (fun e => ne e.symm) _).cell 0
  have f2' : (w.setCell ⟨Bb, 0, none⟩ (.slice none 0 0)).frozen? ⟨Bc, 0, none⟩ = false := (hc.far (p := ⟨Bb, 0, none⟩) (fun e => ne e.symm) _).free 0
  simp [wpOpsS, go_sem, c1, f1, c2', f2', bodyPostS, results, Try.results90]

theorem encatch_idle_put (p q : Addr) (w : World) :
    CallsD Try.prog 90 #[.pointer (some p), .pointer (some q)] .returning w fun e u' w' => e = .returned (.tuple #[]) ∧ u' = .returning ∧ w' = w := by
  refine callsD_of_wpS Try.func90 rfl fun c₀ cs hu => ?_
  apply wpS_seq
  apply wpS_region
  simp [wpOpsS, go_sem, recoverD, hu, Try.ntmps90, Exit.thenS]
  refine wpS_cond (t := false) (by simp [Act.eval, Array.replicate]) ?_
  simp only [Bool.false_eq_true, if_false]
  refine wpS_of_wp (wp_skip ?_)
  cases c₀
  simp_all [bodyPostS, results, Try.results90]

theorem enput_no (e : En.E) (A : Option Addr) (n c : Nat) (w : World) (hno : ¬ En.Ok e) (hn : n = e.evs.length) (hn63 : n ≤ maxLen) (hr : Lies w w.heap.size 4 A n (En.evCells e.evs)) :
    Calls Try.prog 42 #[.agg (En.cells e (.slice A n c))] w fun r w' => r = .returned (.tuple #[.slice none 0 0, .int .i64 1]) ∧ Below w.heap.size w w' := by
  have hmf : ∀ (fn : Fn) (first cap : Array Value) (w : World), (Instr.makeFunc fn first cap).run Try.prog w = .ok (.func fn first cap) w := fun _ _ _ _ => rfl
  have P1 := Lib.hid (((Box.made w 72 (En.cells e (.slice A n c))).alloc (.cells #[.slice none 0 0] 54)).alloc (.cells #[.int .i64 0] 3))
  have B1 := Lib.hid ((Box.made_at (n := w.heap.size + 1) (w.alloc (.cells (En.cells e (.slice A n c)) 72)) 54 #[.slice none 0 0] (by simp)).alloc (.cells #[.int .i64 0] 3))
  have C1 := Lib.hid (Box.made_at (n := w.heap.size + 1 + 1) ((w.alloc (.cells (En.cells e (.slice A n c)) 72)).alloc (.cells #[.slice none 0 0] 54)) 3 #[.int .i64 0] (by simp))
  have K1 := Lib.hid ((((Below.refl w.heap.size w).alloc (Nat.le_refl _) (.cells (En.cells e (.slice A n c)) 72)).alloc (by simp) (.cells #[.slice none 0 0] 54)).alloc (by simp <;> omega) (.cells #[.int .i64 0] 3))
  have hr1 := (hr.below K1.out).wider K1.out.size
  have cm := fun X hX => Lib.hid (enmay_any e A n c X hn hn63 hX)
  rw [decide_eq_false hno] at cm
  have HR := Lib.hid hr1
  have HN := Lib.hid hno
  clear hr hr1 hn hno
  go_enter_defers Try.func42, Try.ntmps42
  go_wp2_with (first | ((with_reducible refine en_load rfl rfl ?_); apply LoadEn.mk rfl; (focus (with_reducible exact P1.out)); dsimp only) | (go_at_call 43; ((with_reducible refine ((cm _ HR.out).out).mono ?_); rintro r w1 ⟨rfl, hb⟩; have C2 := Lib.hid (C1.out.below hb C1.out.lt); have B2 := Lib.hid (B1.out.below hb B1.out.lt); have K2 := Lib.hid (K1.out.trans (hb.mono K1.out.size)); clear hb)) | (go_at_call 76; ((with_reducible refine (need_no _ _).mono ?_); rintro r w2 ⟨rfl, rfl⟩)))
  refine leaves_cons (f := 90) (args := #[.pointer (some ⟨w.heap.size + 1, 0, none⟩), .pointer (some ⟨w.heap.size + 1 + 1, 0, none⟩)]) (by simp) (by simp [go_sem]) ?_
  refine (encatch_put (w.heap.size + 1) (w.heap.size + 1 + 1) _ _ [] _ _ B2.out _ C2.out).mono ?_
  have ne : w.heap.size + 1 ≠ w.heap.size + 1 + 1 := by omega
  have B4 := (B2.out.put 0 (.slice none 0 0)).far (p := ⟨w.heap.size + 1 + 1, 0, none⟩) ne (.int .i64 1)
  have C4 := (C2.out.far (p := ⟨w.heap.size + 1, 0, none⟩) (fun q => ne q.symm) (.slice none 0 0)).put 0 (.int .i64 1)
  have K4 := (K2.out.setCell (p := ⟨w.heap.size + 1, 0, none⟩) (Nat.le_succ _) (.slice none 0 0)).setCell (p := ⟨w.heap.size + 1 + 1, 0, none⟩) (by show w.heap.size ≤ w.heap.size + 1 + 1; omega) (.int .i64 1)
  have b4 := B4.cell 0
  have c4 := C4.cell 0
  simp at b4 c4
  rintro r u' w'' ⟨rfl, rfl, rfl⟩
  simp [Leaves, settle, results, Try.results42, go_sem, b4, c4]
  exact K4

theorem enput_yes (e : En.E) (A : Option Addr) (n c : Nat) (w : World) (hok : En.Ok e) (hty : ∀ i, i < 8 → Gm.tyIn (e.inp i)) (hn : n = e.evs.length) (hr : Lies w w.heap.size 4 A n (En.evCells e.evs)) :
    Calls Try.prog 42 #[.agg (En.cells e (.slice A n c))] w fun r w' => ∃ A' c', r = .returned (.tuple #[.slice A' (En.put e).length c', .int .i64 0]) ∧ (En.put e).length ≤ c' ∧ Lies w' w'.heap.size 1 A' (En.put e).length (Im.u8s (En.put e)) ∧ w'.ownsRow w.heap.size 5 1 (.slice A' (En.put e).length c') (En.put e).length (Im.u8s (En.put e)) ∧ Below w.heap.size w w' := by
  have hmf : ∀ (fn : Fn) (first cap : Array Value) (w : World), (Instr.makeFunc fn first cap).run Try.prog w = .ok (.func fn first cap) w := fun _ _ _ _ => rfl
  have P1 := Lib.hid (((Box.made w 72 (En.cells e (.slice A n c))).alloc (.cells #[.slice none 0 0] 54)).alloc (.cells #[.int .i64 0] 3))
  have B1 := Lib.hid ((Box.made_at (n := w.heap.size + 1) (w.alloc (.cells (En.cells e (.slice A n c)) 72)) 54 #[.slice none 0 0] (by simp)).alloc (.cells #[.int .i64 0] 3))
  have C1 := Lib.hid (Box.made_at (n := w.heap.size + 1 + 1) ((w.alloc (.cells (En.cells e (.slice A n c)) 72)).alloc (.cells #[.slice none 0 0] 54)) 3 #[.int .i64 0] (by simp))
  have K1 := Lib.hid ((((Below.refl w.heap.size w).alloc (Nat.le_refl _) (.cells (En.cells e (.slice A n c)) 72)).alloc (by simp) (.cells #[.slice none 0 0] 54)).alloc (by simp <;> omega) (.cells #[.int .i64 0] 3))
  have hr1 := (hr.below K1.out).wider K1.out.size
  have hr0 := hr.below K1.out
  have cm := fun X hX => Lib.hid (enmay_any e A n c X hn (by have := hok.count; rw [hn]; unfold maxLen; omega) hX)
  rw [decide_eq_true hok] at cm
  have cl := fun Bp X h1 h2 h3 h4 => Lib.hid (layentry_w e n A c w.heap.size [] w.heap.size (w.heap.size + 1) Bp X hn hok hty (Nat.le_succ _) (Nat.le_refl _) h1 h2 (by simp) h3 h4)
  have HR := Lib.hid hr1
  have H0 := Lib.hid hr0
  clear hr hr1 hr0 hn hok hty
  go_enter_defers Try.func42, Try.ntmps42
  go_wp2_with (first | ((with_reducible refine en_load rfl rfl ?_); apply LoadEn.mk rfl; (focus (with_reducible exact P1.out)); dsimp only) | (go_at_call 43; ((with_reducible refine ((cm _ HR.out).out).mono ?_); rintro r w1 ⟨rfl, hb⟩; have P2 := Lib.hid (P1.out.below hb P1.out.lt); have C2 := Lib.hid (C1.out.below hb C1.out.lt); have B2 := Lib.hid (B1.out.below hb B1.out.lt); have K2 := Lib.hid (K1.out.trans (hb.mono K1.out.size)); have H2 := Lib.hid (H0.out.below (hb.mono K1.out.size)); clear hb)) | (go_at_call 76; ((with_reducible refine (need_yes _ _).mono ?_); rintro r w2 ⟨rfl, rfl⟩)) | (go_at_call 79; ((with_reducible refine (writer_any _ _).mono ?_); rintro r w3 ⟨rfl, rfl⟩)) | (go_at_call 91; ((with_reducible refine ((cl _ _ (K2.out.alloc K2.out.size _).size (Wr.nil (Box.made _ _ _) (B2.out.alloc _)) (P2.out.alloc _) (H2.out.below ((one_below _ _).mono K2.out.size))).out).mono ?_); rintro r w3 ⟨rfl, hI, hb, hk⟩; rw [List.nil_append] at hI; have C3 := Lib.hid (hk _ _ _ (C2.out.alloc _) (by omega) (by decide) (by decide)); have K3 := Lib.hid ((K2.out.alloc K2.out.size _).trans hb); obtain ⟨h1, A', c', hB, ho⟩ := hI; have B3 := Lib.hid hB; have O3 := Lib.hid ho; have b3 := hB.cell 0; have f3 := hB.free 0; have c3 := (C3.out.far (p := ⟨w.heap.size + 1, 0, none⟩) (show w.heap.size + 1 + 1 ≠ w.heap.size + 1 by omega) (.slice A' (En.put e).length c')).cell 0; have g3 := (C3.out.far (p := ⟨w.heap.size + 1, 0, none⟩) (show w.heap.size + 1 + 1 ≠ w.heap.size + 1 by omega) (.slice A' (En.put e).length c')).free 0; clear h1 hB ho hb hk)))
  have ne : w.heap.size + 1 ≠ w.heap.size + 1 + 1 := by omega
  have B4 := (B3.out.put 0 (.slice A' (En.put e).length c')).far (p := ⟨w.heap.size + 1 + 1, 0, none⟩) ne (.int .i64 0)
  have C4 := (C3.out.far (p := ⟨w.heap.size + 1, 0, none⟩) (fun q => ne q.symm) (.slice A' (En.put e).length c')).put 0 (.int .i64 0)
  have K4 := (K3.out.setCell (p := ⟨w.heap.size + 1, 0, none⟩) (Nat.le_succ _) (.slice A' (En.put e).length c')).setCell (p := ⟨w.heap.size + 1 + 1, 0, none⟩) (by show w.heap.size ≤ w.heap.size + 1 + 1; omega) (.int .i64 0)
  have OW := ownsRow_setCell_other (a := ⟨w.heap.size + 1 + 1, 0, none⟩) (ownsRow_setCell_other (a := ⟨w.heap.size + 1, 0, none⟩) O3.out (B3.out.unowned O3.out (by decide)) (.slice A' (En.put e).length c')) ((C3.out.far (p := ⟨w.heap.size + 1, 0, none⟩) (fun q => ne q.symm) (.slice A' (En.put e).length c')).unowned (ownsRow_setCell_other (a := ⟨w.heap.size + 1, 0, none⟩) O3.out (B3.out.unowned O3.out (by decide)) (.slice A' (En.put e).length c')) (by decide)) (.int .i64 0)
  have O4 := Lies.owned OW
  have b4 := B4.cell 0
  have c4 := C4.cell 0
  simp at b4 c4
  refine leaves_cons (f := 90) (args := #[.pointer (some ⟨w.heap.size + 1, 0, none⟩), .pointer (some ⟨w.heap.size + 1 + 1, 0, none⟩)]) (by simp) (by simp [go_sem]) ?_
  refine (encatch_idle_put _ _ _).mono ?_
  rintro r u' w'' ⟨rfl, rfl, rfl⟩
  simp [Leaves, settle, results, Try.results42, go_sem, b4, c4]
  exact ⟨A', c', by first | rfl | exact ⟨rfl, rfl⟩ | simp, own_cap O3.out, O4.wider (by simp), OW, K4⟩
end Go.Proofs.Ytbihnmingedgfaa
