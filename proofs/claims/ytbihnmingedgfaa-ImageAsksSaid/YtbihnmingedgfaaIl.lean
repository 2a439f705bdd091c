/-
The program's image: Put, both ways.
-/
import Derived.Test.YtbihnmingedgfaaIk
namespace Go.Proofs.Ytbihnmingedgfaa
open Go.RowKit Go.Shelf
set_option linter.unusedVariables false
set_option linter.unusedSimpArgs false

section
variable {ops : Array Oper} {Q : Exit → Act → World → Prop} {o : Oper} {rest : List Oper} {a : Act} {w : World} {x : Operand}
theorem im_load_state (hgd : o.guard = none) (ho : o.op = .load 53 x) (h : LoadIm ops Q rest o.dst (a.eval x) 0 (fun g s r => Im.cells g s r) a w) : wpList Try.prog ops Q (o :: rest) a w := by
  obtain ⟨B, g, s, r, hx, hB, h⟩ := h
  refine wpList_load_part hgd ho hx hB (Im.cells g s r).toList (fun j v hv => ?_) Try.underlying53 rfl (by rw [Array.length_toList, Im.cells_size]; exact state_info) (by rw [Array.toArray_toList]; exact h)
  rw [Nat.zero_add]
  simpa using hv
end

theorem Im.put_le (g : Gm.G) (r : Ros.R) (h : g.shots.length ≤ 32) : (Im.put g r).length ≤ 64000 := by
  have e1 := Im.ships_le g.ship 8
  have e2 := Im.shots_len g.shots
  have e3 := Im.seats_len r 8
  unfold Im.put
  simp only [List.length_append, Im.bytesOf_len, e2, e3]
  omega

theorem put_no (g : Gm.G) (r : Ros.R) (A : Option Addr) (n c : Nat) (w : World) (hno : ¬ Im.Ok g r) (hty : Gm.ty g) (hn : n = g.shots.length) (hn63 : n ≤ maxLen) (hr : Lies w w.heap.size 6 A n (Gm.shotCells g.shots)) :
    Calls Try.prog 29 #[.agg (Im.cells g (.slice A n c) r)] w fun e w' => e = .returned (.tuple #[.slice none 0 0, .int .i64 1]) ∧ Below w.heap.size w w' := by
  have hmf : ∀ (fn : Fn) (first cap : Array Value) (w : World), (Instr.makeFunc fn first cap).run Try.prog w = .ok (.func fn first cap) w := fun _ _ _ _ => rfl
  have P1 := Lib.hid (((Box.made w 53 (Im.cells g (.slice A n c) r)).alloc (.cells #[.slice none 0 0] 54)).alloc (.cells #[.int .i64 0] 3))
  have B1 := Lib.hid ((Box.made_at (n := w.heap.size + 1) (w.alloc (.cells (Im.cells g (.slice A n c) r) 53)) 54 #[.slice none 0 0] (by simp)).alloc (.cells #[.int .i64 0] 3))
  have C1 := Lib.hid (Box.made_at (n := w.heap.size + 1 + 1) ((w.alloc (.cells (Im.cells g (.slice A n c) r) 53)).alloc (.cells #[.slice none 0 0] 54)) 3 #[.int .i64 0] (by simp))
  have K1 := Lib.hid ((((Below.refl w.heap.size w).alloc (Nat.le_refl _) (.cells (Im.cells g (.slice A n c) r) 53)).alloc (by simp) (.cells #[.slice none 0 0] 54)).alloc (by simp <;> omega) (.cells #[.int .i64 0] 3))
  have hr1 := (hr.below K1.out).wider K1.out.size
  have cm := fun X hX => Lib.hid (immay_any g r A n c X hty hn hn63 hX)
  have HR := Lib.hid hr1
  have HN := Lib.hid hno
  clear hr hr1 hn hty hno
  go_enter_defers Try.func29, Try.ntmps29
  go_wp2_with (first | ((with_reducible refine im_load_state rfl rfl ?_); apply LoadIm.mk rfl; (focus (with_reducible exact P1.out)); dsimp only) | (go_at_call 77; ((with_reducible refine ((cm _ HR.out).out).mono ?_); rintro e w1 ⟨⟨v, rfl, hv⟩, hb⟩; obtain rfl : v = false := (by cases v <;> first | rfl | exact absurd (hv.1 rfl) HN.out); have C2 := Lib.hid (C1.out.below hb C1.out.lt); have B2 := Lib.hid (B1.out.below hb B1.out.lt); have K2 := Lib.hid (K1.out.trans (hb.mono K1.out.size)); clear hb hv)) | (go_at_call 76; ((with_reducible refine (need_no _ _).mono ?_); rintro e w2 ⟨rfl, rfl⟩)))
  refine leaves_cons (f := 75) (args := #[.pointer (some ⟨w.heap.size + 1, 0, none⟩), .pointer (some ⟨w.heap.size + 1 + 1, 0, none⟩)]) (by simp) (by simp [go_sem]) ?_
  refine (catch_put (w.heap.size + 1) (w.heap.size + 1 + 1) _ _ [] _ _ B2.out _ C2.out).mono ?_
  have ne : w.heap.size + 1 ≠ w.heap.size + 1 + 1 := by omega
  have B4 := (B2.out.put 0 (.slice none 0 0)).far (p := ⟨w.heap.size + 1 + 1, 0, none⟩) ne (.int .i64 1)
  have C4 := (C2.out.far (p := ⟨w.heap.size + 1, 0, none⟩) (fun e => ne e.symm) (.slice none 0 0)).put 0 (.int .i64 1)
  have K4 := (K2.out.setCell (p := ⟨w.heap.size + 1, 0, none⟩) (Nat.le_succ _) (.slice none 0 0)).setCell (p := ⟨w.heap.size + 1 + 1, 0, none⟩) (by show w.heap.size ≤ w.heap.size + 1 + 1; omega) (.int .i64 1)
  have b4 := B4.cell 0
  have c4 := C4.cell 0
  simp at b4 c4
  rintro e u' w'' ⟨rfl, rfl, rfl⟩
  simp [Leaves, settle, results, Try.results29, go_sem, b4, c4]
  exact K4

theorem put_yes (g : Gm.G) (r : Ros.R) (A : Option Addr) (n c : Nat) (w : World) (hok : Im.Ok g r) (hd : 0 ≤ g.dice ∧ g.dice ≤ 18446744073709551615) (hn : n = g.shots.length) (hr : Lies w w.heap.size 6 A n (Gm.shotCells g.shots)) :
    Calls Try.prog 29 #[.agg (Im.cells g (.slice A n c) r)] w fun e w' => ∃ A' c', e = .returned (.tuple #[.slice A' (Im.put g r).length c', .int .i64 0]) ∧ Lies w' w'.heap.size 1 A' (Im.put g r).length (Im.u8s (Im.put g r)) ∧ Below w.heap.size w w' := by
  have hmf : ∀ (fn : Fn) (first cap : Array Value) (w : World), (Instr.makeFunc fn first cap).run Try.prog w = .ok (.func fn first cap) w := fun _ _ _ _ => rfl
  have hn32 : g.shots.length ≤ 32 := hok.1.2.2.1
  have hlen := Im.put_le g r hn32
  have P1 := Lib.hid (((Box.made w 53 (Im.cells g (.slice A n c) r)).alloc (.cells #[.slice none 0 0] 54)).alloc (.cells #[.int .i64 0] 3))
  have B1 := Lib.hid ((Box.made_at (n := w.heap.size + 1) (w.alloc (.cells (Im.cells g (.slice A n c) r) 53)) 54 #[.slice none 0 0] (by simp)).alloc (.cells #[.int .i64 0] 3))
  have C1 := Lib.hid (Box.made_at (n := w.heap.size + 1 + 1) ((w.alloc (.cells (Im.cells g (.slice A n c) r) 53)).alloc (.cells #[.slice none 0 0] 54)) 3 #[.int .i64 0] (by simp))
  have K1 := Lib.hid ((((Below.refl w.heap.size w).alloc (Nat.le_refl _) (.cells (Im.cells g (.slice A n c) r) 53)).alloc (by simp) (.cells #[.slice none 0 0] 54)).alloc (by simp <;> omega) (.cells #[.int .i64 0] 3))
  have hr1 := (hr.below K1.out).wider K1.out.size
  have hr0 := hr.below K1.out
  have cm := fun X hX => Lib.hid (immay_any g r A n c X ⟨by have := hok.1.1; have := hok.1.2.1; unfold Gm.i64; omega, hd, fun i hi => (hok.1.2.2.2.1 i hi).ty, fun i hi => (hok.1.2.2.2.2 i hi).ty⟩ hn (by rw [hn]; unfold maxLen; omega) hX)
  have cl := fun Bp X h1 h2 h3 h4 => Lib.hid (laystate_w g r n A c w.heap.size [] w.heap.size (w.heap.size + 1) Bp X hn hok.1 hd hok.2.1 (Nat.le_succ _) (Nat.le_refl _) h1 h2 (by simp) h3 h4)
  have HR := Lib.hid hr1
  have H0 := Lib.hid hr0
  have HN := Lib.hid hok
  have HD := Lib.hid hd
  have HL := Lib.hid hlen
  clear hr hr1 hr0 hn hok hd hn32 hlen
  go_enter_defers Try.func29, Try.ntmps29
  go_wp2_with (first | ((with_reducible refine im_load_state rfl rfl ?_); apply LoadIm.mk rfl; (focus (with_reducible exact P1.out)); dsimp only) | (go_at_call 77; ((with_reducible refine ((cm _ HR.out).out).mono ?_); rintro e w1 ⟨⟨v, rfl, hv⟩, hb⟩; obtain rfl : v = true := hv.2 HN.out; have P2 := Lib.hid (P1.out.below hb P1.out.lt); have C2 := Lib.hid (C1.out.below hb C1.out.lt); have B2 := Lib.hid (B1.out.below hb B1.out.lt); have K2 := Lib.hid (K1.out.trans (hb.mono K1.out.size)); have H2 := Lib.hid (H0.out.below (hb.mono K1.out.size)); clear hb hv)) | (go_at_call 76; ((with_reducible refine (need_yes _ _).mono ?_); rintro e w2 ⟨rfl, rfl⟩)) | (go_at_call 79; ((with_reducible refine (writer_any _ _).mono ?_); rintro e w3 ⟨rfl, rfl⟩)) | (go_at_call 78; ((with_reducible refine ((cl _ _ (K2.out.alloc K2.out.size _).size (Wr.nil (Box.made _ _ _) (B2.out.alloc _)) (P2.out.alloc _) (H2.out.below ((one_below _ _).mono K2.out.size))).out).mono ?_); rintro e w3 ⟨rfl, hI, hb, hk⟩; rw [List.nil_append] at hI; have C3 := Lib.hid (hk _ _ _ (C2.out.alloc _) (by omega) (by decide) (by decide)); have K3 := Lib.hid ((K2.out.alloc K2.out.size _).trans hb); obtain ⟨h1, A', c', hB, ho⟩ := hI; have B3 := Lib.hid hB; have O3 := Lib.hid ho; have b3 := hB.cell 0; have f3 := hB.free 0; have c3 := (C3.out.far (p := ⟨w.heap.size + 1, 0, none⟩) (show w.heap.size + 1 + 1 ≠ w.heap.size + 1 by omega) (.slice A' (Im.put g r).length c')).cell 0; have g3 := (C3.out.far (p := ⟨w.heap.size + 1, 0, none⟩) (show w.heap.size + 1 + 1 ≠ w.heap.size + 1 by omega) (.slice A' (Im.put g r).length c')).free 0; clear h1 hB ho hb hk)))
  have ne : w.heap.size + 1 ≠ w.heap.size + 1 + 1 := by omega
  have B4 := (B3.out.put 0 (.slice A' (Im.put g r).length c')).far (p := ⟨w.heap.size + 1 + 1, 0, none⟩) ne (.int .i64 0)
  have C4 := (C3.out.far (p := ⟨w.heap.size + 1, 0, none⟩) (fun e => ne e.symm) (.slice A' (Im.put g r).length c')).put 0 (.int .i64 0)
  have K4 := (K3.out.setCell (p := ⟨w.heap.size + 1, 0, none⟩) (Nat.le_succ _) (.slice A' (Im.put g r).length c')).setCell (p := ⟨w.heap.size + 1 + 1, 0, none⟩) (by show w.heap.size ≤ w.heap.size + 1 + 1; omega) (.int .i64 0)
  have O4 := Lies.owned (ownsRow_setCell_other (a := ⟨w.heap.size + 1 + 1, 0, none⟩) (ownsRow_setCell_other (a := ⟨w.heap.size + 1, 0, none⟩) O3.out (B3.out.unowned O3.out (by decide)) (.slice A' (Im.put g r).length c')) ((C3.out.far (p := ⟨w.heap.size + 1, 0, none⟩) (fun e => ne e.symm) (.slice A' (Im.put g r).length c')).unowned (ownsRow_setCell_other (a := ⟨w.heap.size + 1, 0, none⟩) O3.out (B3.out.unowned O3.out (by decide)) (.slice A' (Im.put g r).length c')) (by decide)) (.int .i64 0))
  have b4 := B4.cell 0
  have c4 := C4.cell 0
  simp at b4 c4
  refine leaves_cons (f := 75) (args := #[.pointer (some ⟨w.heap.size + 1, 0, none⟩), .pointer (some ⟨w.heap.size + 1 + 1, 0, none⟩)]) (by simp) (by simp [go_sem]) ?_
  refine (catch_idle_put _ _ _).mono ?_
  rintro e u' w'' ⟨rfl, rfl, rfl⟩
  simp [Leaves, settle, results, Try.results29, go_sem, b4, c4]
  exact ⟨O4.wider (by simp), K4⟩
end Go.Proofs.Ytbihnmingedgfaa
