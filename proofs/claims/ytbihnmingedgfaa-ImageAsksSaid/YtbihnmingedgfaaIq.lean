/-
Get where nothing can be read.
-/
import Derived.Test.YtbihnmingedgfaaIp
import Derived.Test.YtbihnmingedgfaaIz
namespace Go.Proofs.Ytbihnmingedgfaa
open Go.RowKit Go.Shelf
set_option linter.unusedVariables false
set_option linter.unusedSimpArgs false

namespace Im
def zero : Array Value := cells G0 (.slice none 0 0) R0
theorem zero_size : zero.size = 76 := cells_size _ _ _
end Im
theorem state_zero : (Try.prog.info? 53).map (·.zero) = some (some (.agg Im.zero)) := by kernel_rfl
theorem alloc_state {ops : Array Oper} {Q : Exit → Act → World → Prop} {o : Oper} {rest : List Oper} {a : Act} {w : World} (hgd : o.guard = none) (ho : o.op = .alloc 53)
    (h : wpList Try.prog ops Q rest (a.put o.dst (.pointer (some ⟨w.heap.size, 0, none⟩))) (w.alloc (.cells Im.zero 53))) : wpList Try.prog ops Q (o :: rest) a w :=
  wpList_alloc_z hgd ho state_zero rfl h
theorem state_built : Try.prog.built 53 [] = some Im.zero := by kernel_rfl
theorem ros_cells_one (r : Ros.R) : (Ros.cells r).all (·.oneCell') = true := by
  rw [Array.all_eq_true']
  intro x hx
  obtain ⟨n, rfl⟩ := Ros.cells_ints r x (by simpa using hx)
  rfl
theorem im_cells_one (g : Gm.G) (s : Value) (r : Ros.R) (hs : s.oneCell' = true) : (Im.cells g s r).all (·.oneCell') = true := by
  unfold Im.cells
  rw [Array.all_append, cells_one g s hs, ros_cells_one r]
  rfl
theorem zero_one : Im.zero.all (·.oneCell') = true := im_cells_one _ _ _ rfl

set_option maxHeartbeats 1000000 in
theorem catch_get (B Bc : Nat) (u : TypeId) (pv : Value) (older : List PanicEntry) (w : World) (Z : Array Value) (hZ : Z.size = 76) (hb : Box w B 53 Z) (y : Int) (hc : Box w Bc 3 #[.int .i64 y]) :
    CallsD Try.prog 83 #[.pointer (some ⟨B, 0, none⟩), .pointer (some ⟨Bc, 0, none⟩)] (.panicking ({ v := .iface u pv, recovered := false } :: older)) w fun e u' w' =>
      e = .returned (.tuple #[]) ∧ u' = .panicking ({ v := .iface u pv, recovered := true } :: older) ∧ w' = (w.setRow B Im.zero).setCell ⟨Bc, 0, none⟩ (.int .i64 2) := by
  have ne : B ≠ Bc := Box.apart hb hc (by decide)
  have HB := Lib.hid hb
  have HC := Lib.hid (hc.row_far (fun e => ne e.symm) Im.zero)
  have c2 := HC.out.cell 0
  have f2 := HC.out.free 0
  have HZ := Lib.hid hZ
  clear hb hc hZ
  refine callsD_of_wpS Try.func83 rfl fun c₀ cs hu => ?_
  apply wpS_seq
  apply wpS_region
  simp [wpOpsS, go_sem, recoverD, hu, Try.ntmps83, Exit.thenS]
  refine wpS_cond (t := true) (by simp [Act.eval, Array.replicate]) ?_
  simp only [if_true]
  refine wpS_of_wp ?_
  go_wp2_with (first | (refine wpList_build_is rfl (t := 53) (l := []) (vs := []) rfl rfl state_built ?_) | ((with_reducible refine blk_gate (t := 53) rfl rfl state_info ?_); apply StoreBlk.mk rfl rfl HB.out zero_one Im.zero_size HZ.out))
  simp [bodyPostS, results, Try.results83]

theorem catch_idle_get (p q : Addr) (w : World) :
    CallsD Try.prog 83 #[.pointer (some p), .pointer (some q)] .returning w fun e u' w' => e = .returned (.tuple #[]) ∧ u' = .returning ∧ w' = w := by
  refine callsD_of_wpS Try.func83 rfl fun c₀ cs hu => ?_
  apply wpS_seq
  apply wpS_region
  simp [wpOpsS, go_sem, recoverD, hu, Try.ntmps83, Exit.thenS]
  refine wpS_cond (t := false) (by simp [Act.eval, Array.replicate]) ?_
  simp only [Bool.false_eq_true, if_false]
  refine wpS_of_wp (wp_skip ?_)
  cases c₀
  simp_all [bodyPostS, results, Try.results83]

theorem read_no (z v0 : Int) (hz : 1 ≤ z) (A : Option Addr) (c Bb Bp : Nat) (w : World) (hp : Box w Bp 120 #[.pointer (some ⟨Bb, 0, none⟩)]) (hb : Box w Bb 54 #[.slice A 0 c]) :
    Calls Try.prog 130 #[.int .i64 z, .int .u64 v0, .pointer (some ⟨Bp, 0, none⟩)] w fun e w' => (∃ s, e = .panicked [{ v := .iface 9 (.string s), recovered := false }]) ∧ w = w' := by
  have b0 := hb.cell 0
  have p0 := hp.cell 0
  have hz0 : ¬ z ≤ 0 := by omega
  clear hb hp
  go_enter Try.func130, Try.ntmps130
  go_wp2_with (go_at_call 76; ((with_reducible refine (need_no _ _).mono ?_); rintro e w2 ⟨rfl, rfl⟩))
  first | exact ⟨rfl, ⟨_, rfl⟩, rfl⟩ | exact ⟨⟨_, rfl⟩, rfl⟩

theorem layint_no (z x : Int) (hz : 1 ≤ z) (A : Option Addr) (c Bb Bp P o : Nat) (t : TypeId) (cs : Array Value) (w : World) (hp : Box w Bp 120 #[.pointer (some ⟨Bb, 0, none⟩)]) (hb : Box w Bb 54 #[.slice A 0 c]) (hP : Box w P t cs) (ho : cs[o]? = some (.int .i64 x)) :
    Calls Try.prog 124 #[.func (.func 130) #[] #[.pointer (some ⟨Bp, 0, none⟩)], .int .i64 z, .pointer (some ⟨P, o, none⟩)] w fun e w' => (∃ s, e = .panicked [{ v := .iface 9 (.string s), recovered := false }]) ∧ w = w' := by
  have k0 := hP.cell o
  rw [ho] at k0
  have cr := fun v0 => Lib.hid (read_no z v0 hz A c Bb Bp w hp hb)
  clear hp hb hP ho hz
  go_enter Try.func124, Try.ntmps124
  go_wp2_with (go_at_call 130; ((with_reducible refine ((cr _).out).mono ?_); rintro e w2 ⟨⟨s, rfl⟩, rfl⟩))
  first | exact ⟨rfl, ⟨_, rfl⟩, rfl⟩ | exact ⟨⟨_, rfl⟩, rfl⟩

theorem laystate_no (A : Option Addr) (c Bb Bp P : Nat) (g : Gm.G) (s : Value) (r : Ros.R) (w : World) (hp : Box w Bp 120 #[.pointer (some ⟨Bb, 0, none⟩)]) (hb : Box w Bb 54 #[.slice A 0 c]) (hP : Box w P 53 (Im.cells g s r)) :
    Calls Try.prog 78 #[.func (.func 130) #[] #[.pointer (some ⟨Bp, 0, none⟩)], .pointer (some ⟨P, 0, none⟩)] w fun e w' => (∃ s, e = .panicked [{ v := .iface 9 (.string s), recovered := false }]) ∧ w = w' := by
  have c1 := Lib.hid (layint_no 4 g.frame (by decide) A c Bb Bp P 0 53 _ w hp hb hP ((Im.cells_g _ _ _ 0 (by omega)).trans (Gm.cells_0 _ _)))
  have ltP := hP.lt
  clear hp hb hP
  go_enter Try.func78, Try.ntmps78
  go_wp2_with (go_at_call 124; ((with_reducible refine (c1.out).mono ?_); rintro e w2 ⟨⟨s, rfl⟩, rfl⟩))
  first | exact ⟨rfl, ⟨_, rfl⟩, rfl⟩ | exact ⟨⟨_, rfl⟩, rfl⟩

set_option maxHeartbeats 1000000 in
/-- Nothing is got out of no bytes. -/
theorem get_nil (w : World) : Calls Try.prog 32 #[.slice none 0 0] w fun e w' => e = .returned (.tuple #[.agg Im.zero, .int .i64 2]) ∧ Below w.heap.size w w' := by
  have hmf : ∀ (fn : Fn) (first cap : Array Value) (w : World), (Instr.makeFunc fn first cap).run Try.prog w = .ok (.func fn first cap) w := fun _ _ _ _ => rfl
  have V1 := Lib.hid (((Box.made w 54 #[.slice none 0 0]).alloc (.cells Im.zero 53)).alloc (.cells #[.int .i64 0] 3))
  have B1 := Lib.hid ((Box.made_at (n := w.heap.size + 1) (w.alloc (.cells #[.slice none 0 0] 54)) 53 Im.zero (by simp)).alloc (.cells #[.int .i64 0] 3))
  have C1 := Lib.hid (Box.made_at (n := w.heap.size + 1 + 1) ((w.alloc (.cells #[.slice none 0 0] 54)).alloc (.cells Im.zero 53)) 3 #[.int .i64 0] (by simp))
  have K1 := Lib.hid ((((Below.refl w.heap.size w).alloc (Nat.le_refl _) (.cells #[.slice none 0 0] 54)).alloc (by simp) (.cells Im.zero 53)).alloc (by simp <;> omega) (.cells #[.int .i64 0] 3))
  go_enter_defers Try.func32, Try.ntmps32
  go_wp2_with (first | (with_reducible refine alloc_state rfl rfl ?_) | (go_at_call 84; ((with_reducible refine (reader_any _ _).mono ?_); rintro e w3 ⟨rfl, rfl⟩)) | (go_at_call 78; ((with_reducible refine (laystate_no none 0 w.heap.size (w.heap.size + 1 + 1 + 1) (w.heap.size + 1) Im.G0 (.slice none 0 0) Im.R0 _ (Box.made_at _ _ _ (by simp)) (V1.out.alloc _) (B1.out.alloc _)).mono ?_); rintro e w4 ⟨⟨s, rfl⟩, rfl⟩)))
  have ne : w.heap.size + 1 ≠ w.heap.size + 1 + 1 := by omega
  have B2 := Lib.hid (B1.out.alloc (.cells #[.pointer (some ⟨w.heap.size, 0, none⟩)] 120))
  have C2 := Lib.hid (C1.out.alloc (.cells #[.pointer (some ⟨w.heap.size, 0, none⟩)] 120))
  have K2 := Lib.hid (K1.out.alloc K1.out.size (.cells #[.pointer (some ⟨w.heap.size, 0, none⟩)] 120))
  have B4 := (B2.out.row Im.zero).far (p := ⟨w.heap.size + 1 + 1, 0, none⟩) ne (.int .i64 2)
  have C4 := (C2.out.row_far (fun e => ne e.symm) Im.zero).put 0 (.int .i64 2)
  have K4 := (Below.setRow' (g := w.heap.size + 1) K2.out (Nat.le_succ _) Im.zero).setCell (p := ⟨w.heap.size + 1 + 1, 0, none⟩) (by show w.heap.size ≤ w.heap.size + 1 + 1; omega) (.int .i64 2)
  refine leaves_cons (f := 83) (args := #[.pointer (some ⟨w.heap.size + 1, 0, none⟩), .pointer (some ⟨w.heap.size + 1 + 1, 0, none⟩)]) (by simp) (by simp [go_sem]) ?_
  refine (catch_get (w.heap.size + 1) (w.heap.size + 1 + 1) _ _ [] _ Im.zero Im.zero_size B2.out _ C2.out).mono ?_
  rintro e u' w'' ⟨rfl, rfl, rfl⟩
  have hr := fun (tmps : Array Value) h1 h2 => results_cells2 (fn := Try.f32) (p := 2) (q := 3) rfl tmps _ (w.heap.size + 1) (w.heap.size + 1 + 1) 53 Im.zero _ 2 h1 h2 B4 (by simpa using C4) Try.underlying53 rfl (by rw [Im.zero_size]; exact state_info)
  show Leaves Try.prog _ _ _ [] .returning _
  exact ⟨_, hr _ rfl rfl, rfl, K4⟩

set_option maxHeartbeats 1000000 in
/-- What Put wrote of a state without ships and shots is got again. -/
theorem get_bare (f d : Int) (r : Ros.R) (A : Option Addr) (n c : Nat) (w : World) (hf : 0 ≤ f ∧ f ≤ 1048576) (hd : 0 ≤ d ∧ d ≤ 18446744073709551615) (hok : Im.Ok (Im.bare f d) r) (hn : n = (Im.put (Im.bare f d) r).length) (hc : n ≤ c) (hL : Lies w w.heap.size 1 A n (Im.u8s (Im.put (Im.bare f d) r))) :
    Calls Try.prog 32 #[.slice A n c] w fun e w' => (∃ S, e = .returned (.tuple #[.agg (Im.cells (Im.bare f d) (.slice (some ⟨S, 0, none⟩) 0 0) r), .int .i64 0])) ∧ Below w.heap.size w w' := by
  have hmf : ∀ (fn : Fn) (first cap : Array Value) (w : World), (Instr.makeFunc fn first cap).run Try.prog w = .ok (.func fn first cap) w := fun _ _ _ _ => rfl
  have V1 := Lib.hid (((Box.made w 54 #[.slice A n c]).alloc (.cells Im.zero 53)).alloc (.cells #[.int .i64 0] 3))
  have B1 := Lib.hid ((Box.made_at (n := w.heap.size + 1) (w.alloc (.cells #[.slice A n c] 54)) 53 Im.zero (by simp)).alloc (.cells #[.int .i64 0] 3))
  have C1 := Lib.hid (Box.made_at (n := w.heap.size + 1 + 1) ((w.alloc (.cells #[.slice A n c] 54)).alloc (.cells Im.zero 53)) 3 #[.int .i64 0] (by simp))
  have K1 := Lib.hid ((((Below.refl w.heap.size w).alloc (Nat.le_refl _) (.cells #[.slice A n c] 54)).alloc (by simp) (.cells Im.zero 53)).alloc (by simp <;> omega) (.cells #[.int .i64 0] 3))
  have B2 := Lib.hid (B1.out.alloc (.cells #[.pointer (some ⟨w.heap.size, 0, none⟩)] 120))
  have C2 := Lib.hid (C1.out.alloc (.cells #[.pointer (some ⟨w.heap.size, 0, none⟩)] 120))
  have V2 := Lib.hid (V1.out.alloc (.cells #[.pointer (some ⟨w.heap.size, 0, none⟩)] 120))
  have K2 := Lib.hid (K1.out.alloc K1.out.size (.cells #[.pointer (some ⟨w.heap.size, 0, none⟩)] 120))
  have P2 := Box.made_at (n := w.heap.size + 1 + 1 + 1) (((w.alloc (.cells #[.slice A n c] 54)).alloc (.cells Im.zero 53)).alloc (.cells #[.int .i64 0] 3)) 120 #[.pointer (some ⟨w.heap.size, 0, none⟩)] (by simp)
  have L2 := hL.below K2.out
  have e : n = (Im.put (Im.bare f d) r ++ []).length := by rw [List.append_nil]; exact hn
  have RD : Rd w.heap.size w.heap.size (w.heap.size + 1 + 1 + 1) (Im.put (Im.bare f d) r ++ []) _ := ⟨P2, A, c, by rw [← e]; exact V2.out, by rw [← e]; exact hc, by rw [← e, List.append_nil]; exact L2⟩
  have cl := Lib.hid (laystate_bare_r f d r [] (w.heap.size + 1) w.heap.size w.heap.size _ _ hf hd hok.2.1 (Nat.le_refl _) (Nat.le_succ _) K2.out.size RD B2.out)
  have hty : Gm.ty (Im.bare f d) := ⟨by show Gm.i64 f; unfold Gm.i64; omega, hd, fun i hi => (hok.1.2.2.2.1 i hi).ty, fun i hi => absurd hi (Nat.not_lt_zero _)⟩
  have cm := fun S X => Lib.hid (immay_any (Im.bare f d) r (some ⟨S, 0, none⟩) 0 0 X hty rfl (Nat.zero_le _) Lies.empty)
  clear hty
  have HOK := Lib.hid hok
  clear hn hL L2 e RD hok P2
  go_enter_defers Try.func32, Try.ntmps32
  go_upto_region 3 with (first | (with_reducible refine alloc_state rfl rfl ?_) | (go_at_call 84; ((with_reducible refine (reader_any _ _).mono ?_); rintro e w3 ⟨rfl, rfl⟩)) | (go_at_call 78; ((with_reducible refine (cl.out).mono ?_); rintro e w4 ⟨rfl, hI, hK, S, hB⟩; obtain ⟨_, A4, c4, hV, _, _⟩ := hI; have v4 := hV.cell 0; have B4 := Lib.hid hB; have C4 := Lib.hid (hK.kb _ _ _ C2.out (by omega) (by decide) (by decide)); have K4 := Lib.hid (K2.out.trans hK.below); clear hV hB hK)))
  have c5 := cm S
  clear cl cm V1 B1 C1 K1 B2 C2 V2 K2
  go_wp2_with (first | (go_at_call 76; ((with_reducible refine (need_yes _ _).mono ?_); rintro e wn ⟨rfl, rfl⟩)) | (go_at_call 77; ((with_reducible refine ((c5 _).out).mono ?_); rintro e w5 ⟨⟨v, rfl, hv⟩, hb⟩; obtain rfl : v = true := hv.2 HOK.out; have B5 := Lib.hid (B4.out.below hb B4.out.lt); have C5 := Lib.hid (C4.out.below hb C4.out.lt); have K5 := Lib.hid (K4.out.trans (hb.mono K4.out.size)); have C6 := Lib.hid (C5.out.row_far (show w.heap.size + 1 + 1 ≠ w.heap.size + 1 by omega) (Im.cells (Im.bare f d) (.slice (some ⟨S, 0, none⟩) 0 0) r)); have c6 := C6.out.cell 0; have f6 := C6.out.free 0; clear hb hv)) | ((with_reducible refine im_load_state rfl rfl ?_); apply LoadIm.mk rfl; (focus first | (with_reducible exact B4.out) | (with_reducible exact B5.out)); dsimp only) | ((with_reducible refine blk_gate (t := 53) rfl rfl state_info ?_); apply StoreBlk.mk rfl rfl B5.out (im_cells_one _ _ _ rfl) (Im.cells_size _ _ _) (Im.cells_size _ _ _)))
  have ne : w.heap.size + 1 ≠ w.heap.size + 1 + 1 := by omega
  have B7 := (B5.out.row (Im.cells (Im.bare f d) (.slice (some ⟨S, 0, none⟩) 0 0) r)).far (p := ⟨w.heap.size + 1 + 1, 0, none⟩) ne (.int .i64 0)
  have C7 := C6.out.put 0 (.int .i64 0)
  have K7 := (Below.setRow' (g := w.heap.size + 1) K5.out (Nat.le_succ _) (Im.cells (Im.bare f d) (.slice (some ⟨S, 0, none⟩) 0 0) r)).setCell (p := ⟨w.heap.size + 1 + 1, 0, none⟩) (by show w.heap.size ≤ w.heap.size + 1 + 1; omega) (.int .i64 0)
  refine leaves_cons (f := 83) (args := #[.pointer (some ⟨w.heap.size + 1, 0, none⟩), .pointer (some ⟨w.heap.size + 1 + 1, 0, none⟩)]) (by simp) (by simp [go_sem]) ?_
  refine (catch_idle_get _ _ _).mono ?_
  rintro e u' w'' ⟨rfl, rfl, rfl⟩
  have hr := fun (tmps : Array Value) h1 h2 => results_cells2 (fn := Try.f32) (p := 2) (q := 3) rfl tmps _ (w.heap.size + 1) (w.heap.size + 1 + 1) 53 (Im.cells (Im.bare f d) (.slice (some ⟨S, 0, none⟩) 0 0) r) _ 0 h1 h2 B7 (by simpa using C7) Try.underlying53 rfl (by rw [Im.cells_size]; exact state_info)
  show Leaves Try.prog _ _ _ [] .returning _
  exact ⟨_, hr _ rfl rfl, ⟨S, rfl⟩, K7⟩
end Go.Proofs.Ytbihnmingedgfaa
