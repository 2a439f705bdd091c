/-
Several texts in one: Iq Dp Ds Iu Iy I2 Qa Rx Qb.
-/
import Derived.Test.YtghomofakpjglaaWi4
namespace Go.Proofs.Ytghomofakpjglaa
open Go.RowKit Go.Shelf
set_option linter.unusedVariables false
set_option linter.unusedSimpArgs false

namespace Im
def zero : Array Value := cells G0 (.slice none 0 0) R0
theorem zero_size : zero.size = 76 := cells_size _ _ _
end Im
theorem state_zero : (Try.prog.info? 35).map (·.zero) = some (some (.agg Im.zero)) := by kernel_rfl
theorem alloc_state {ops : Array Oper} {Q : Exit → Act → World → Prop} {o : Oper} {rest : List Oper} {a : Act} {w : World} (hgd : o.guard = none) (ho : o.op = .alloc 35)
    (h : wpList Try.prog ops Q rest (a.put o.dst (.pointer (some ⟨w.heap.size, 0, none⟩))) (w.alloc (.cells Im.zero 35))) : wpList Try.prog ops Q (o :: rest) a w :=
  wpList_alloc_z hgd ho state_zero rfl h
theorem state_built : Try.prog.built 35 [] = some Im.zero := by kernel_rfl
theorem ros_cells_one (r : Ros.R) : (Ros.cells r).all (·.oneCell') = true := by
  rw [Array.all_eq_true']
  intro x hx
  obtain ⟨n, rfl⟩ := Ros.cells_ints r x (by simpa using hx)
  rfl
theorem im_cells_one (g : Gm.G) (s : Value) (r : Ros.R) (hs : s.oneCell' = true) : (Im.cells g s r).all (·.oneCell') = true := by
  unfold Im.cells
  rw [Array.all_append, cells_one g s hs, ros_cells_one r]
  rfl
theorem zero_one : Im.zero.all (·.oneCell') = true := im_cells_one _ _ _ rfl

set_option maxHeartbeats 1000000 in
theorem catch_get (B Bc : Nat) (u : TypeId) (pv : Value) (older : List PanicEntry) (w : World) (Z : Array Value) (hZ : Z.size = 76) (hb : Box w B 35 Z) (y : Int) (hc : Box w Bc 3 #[.int .i64 y]) :
    CallsD Try.prog 45 #[.pointer (some ⟨B, 0, none⟩), .pointer (some ⟨Bc, 0, none⟩)] (.panicking ({ v := .iface u pv, recovered := false } :: older)) w fun e u' w' =>
      e = .returned (.tuple #[]) ∧ u' = .panicking ({ v := .iface u pv, recovered := true } :: older) ∧ w' = (w.setRow B Im.zero).setCell ⟨Bc, 0, none⟩ (.int .i64 2) := by
  have ne : B ≠ Bc := Box.apart hb hc (by decide)
  have HB := Lib.hid hb
  have HC := Lib.hid (hc.row_far (fun e => ne e.symm) Im.zero)
  have c2 := HC.out.cell 0
  have f2 := HC.out.free 0
  have HZ := Lib.hid hZ
  clear hb hc hZ
  refine callsD_of_wpS Try.func45 rfl fun c₀ cs hu => ?_
  apply wpS_seq
  apply wpS_region
  simp [wpOpsS, go_sem, recoverD, hu, Try.ntmps45, Exit.thenS]
  refine wpS_cond (t := true) (by simp [Act.eval, Array.replicate]) ?_
  simp only [if_true]
  refine wpS_of_wp ?_
  go_wp2_with (first | (refine wpList_build_is rfl (t := 35) (l := []) (vs := []) rfl rfl state_built ?_) | ((with_reducible refine blk_gate (t := 35) rfl rfl state_info ?_); apply StoreBlk.mk rfl rfl HB.out zero_one Im.zero_size HZ.out))
  simp [bodyPostS, results, Try.results45]

theorem catch_idle_get (p q : Addr) (w : World) :
    CallsD Try.prog 45 #[.pointer (some p), .pointer (some q)] .returning w fun e u' w' => e = .returned (.tuple #[]) ∧ u' = .returning ∧ w' = w := by
  refine callsD_of_wpS Try.func45 rfl fun c₀ cs hu => ?_
  apply wpS_seq
  apply wpS_region
  simp [wpOpsS, go_sem, recoverD, hu, Try.ntmps45, Exit.thenS]
  refine wpS_cond (t := false) (by simp [Act.eval, Array.replicate]) ?_
  simp only [Bool.false_eq_true, if_false]
  refine wpS_of_wp (wp_skip ?_)
  cases c₀
  simp_all [bodyPostS, results, Try.results45]

theorem read_no (z v0 : Int) (hz : 1 ≤ z) (A : Option Addr) (c Bb Bp : Nat) (w : World) (hp : Box w Bp 82 #[.pointer (some ⟨Bb, 0, none⟩)]) (hb : Box w Bb 36 #[.slice A 0 c]) :
    Calls Try.prog 76 #[.int .i64 z, .int .u64 v0, .pointer (some ⟨Bp, 0, none⟩)] w fun e w' => (∃ s, e = .panicked [{ v := .iface 9 (.string s), recovered := false }]) ∧ w = w' := by
  have b0 := hb.cell 0
  have p0 := hp.cell 0
  have hz0 : ¬ z ≤ 0 := by omega
  clear hb hp
  go_enter Try.func76, Try.ntmps76
  go_wp2_with (go_at_call 37; ((with_reducible refine (need_no _ _).mono ?_); rintro e w2 ⟨rfl, rfl⟩))
  first | exact ⟨rfl, ⟨_, rfl⟩, rfl⟩ | exact ⟨⟨_, rfl⟩, rfl⟩

theorem layint_no (z x : Int) (hz : 1 ≤ z) (A : Option Addr) (c Bb Bp P o : Nat) (t : TypeId) (cs : Array Value) (w : World) (hp : Box w Bp 82 #[.pointer (some ⟨Bb, 0, none⟩)]) (hb : Box w Bb 36 #[.slice A 0 c]) (hP : Box w P t cs) (ho : cs[o]? = some (.int .i64 x)) :
    Calls Try.prog 67 #[.func (.func 76) #[] #[.pointer (some ⟨Bp, 0, none⟩)], .int .i64 z, .pointer (some ⟨P, o, none⟩)] w fun e w' => (∃ s, e = .panicked [{ v := .iface 9 (.string s), recovered := false }]) ∧ w = w' := by
  have k0 := hP.cell o
  rw [ho] at k0
  have cr := fun v0 => Lib.hid (read_no z v0 hz A c Bb Bp w hp hb)
  clear hp hb hP ho hz
  go_enter Try.func67, Try.ntmps67
  go_wp2_with (go_at_call 76; ((with_reducible refine ((cr _).out).mono ?_); rintro e w2 ⟨⟨s, rfl⟩, rfl⟩))
  first | exact ⟨rfl, ⟨_, rfl⟩, rfl⟩ | exact ⟨⟨_, rfl⟩, rfl⟩

theorem laystate_no (A : Option Addr) (c Bb Bp P : Nat) (g : Gm.G) (s : Value) (r : Ros.R) (w : World) (hp : Box w Bp 82 #[.pointer (some ⟨Bb, 0, none⟩)]) (hb : Box w Bb 36 #[.slice A 0 c]) (hP : Box w P 35 (Im.cells g s r)) :
    Calls Try.prog 39 #[.func (.func 76) #[] #[.pointer (some ⟨Bp, 0, none⟩)], .pointer (some ⟨P, 0, none⟩)] w fun e w' => (∃ s, e = .panicked [{ v := .iface 9 (.string s), recovered := false }]) ∧ w = w' := by
  have c1 := Lib.hid (layint_no 4 g.frame (by decide) A c Bb Bp P 0 35 _ w hp hb hP ((Im.cells_g _ _ _ 0 (by omega)).trans (Gm.cells_0 _ _)))
  have ltP := hP.lt
  clear hp hb hP
  go_enter Try.func39, Try.ntmps39
  go_wp2_with (go_at_call 67; ((with_reducible refine (c1.out).mono ?_); rintro e w2 ⟨⟨s, rfl⟩, rfl⟩))
  first | exact ⟨rfl, ⟨_, rfl⟩, rfl⟩ | exact ⟨⟨_, rfl⟩, rfl⟩

set_option maxHeartbeats 1000000 in
/-- Nothing is got out of no bytes. -/
theorem get_nil (w : World) : Calls Try.prog 17 #[.slice none 0 0] w fun e w' => e = .returned (.tuple #[.agg Im.zero, .int .i64 2]) ∧ Below w.heap.size w w' := by
  have hmf : ∀ (fn : Fn) (first cap : Array Value) (w : World), (Instr.makeFunc fn first cap).run Try.prog w = .ok (.func fn first cap) w := fun _ _ _ _ => rfl
  have V1 := Lib.hid (((Box.made w 36 #[.slice none 0 0]).alloc (.cells Im.zero 35)).alloc (.cells #[.int .i64 0] 3))
  have B1 := Lib.hid ((Box.made_at (n := w.heap.size + 1) (w.alloc (.cells #[.slice none 0 0] 36)) 35 Im.zero (by simp)).alloc (.cells #[.int .i64 0] 3))
  have C1 := Lib.hid (Box.made_at (n := w.heap.size + 1 + 1) ((w.alloc (.cells #[.slice none 0 0] 36)).alloc (.cells Im.zero 35)) 3 #[.int .i64 0] (by simp))
  have K1 := Lib.hid ((((Below.refl w.heap.size w).alloc (Nat.le_refl _) (.cells #[.slice none 0 0] 36)).alloc (by simp) (.cells Im.zero 35)).alloc (by simp <;> omega) (.cells #[.int .i64 0] 3))
  go_enter_defers Try.func17, Try.ntmps17
  go_wp2_with (first | (with_reducible refine alloc_state rfl rfl ?_) | (go_at_call 46; ((with_reducible refine (reader_any _ _).mono ?_); rintro e w3 ⟨rfl, rfl⟩)) | (go_at_call 39; ((with_reducible refine (laystate_no none 0 w.heap.size (w.heap.size + 1 + 1 + 1) (w.heap.size + 1) Im.G0 (.slice none 0 0) Im.R0 _ (Box.made_at _ _ _ (by simp)) (V1.out.alloc _) (B1.out.alloc _)).mono ?_); rintro e w4 ⟨⟨s, rfl⟩, rfl⟩)))
  have ne : w.heap.size + 1 ≠ w.heap.size + 1 + 1 := by omega
  have B2 := Lib.hid (B1.out.alloc (.cells #[.pointer (some ⟨w.heap.size, 0, none⟩)] 82))
  have C2 := Lib.hid (C1.out.alloc (.cells #[.pointer (some ⟨w.heap.size, 0, none⟩)] 82))
  have K2 := Lib.hid (K1.out.alloc K1.out.size (.cells #[.pointer (some ⟨w.heap.size, 0, none⟩)] 82))
  have B4 := (B2.out.row Im.zero).far (p := ⟨w.heap.size + 1 + 1, 0, none⟩) ne (.int .i64 2)
  have C4 := (C2.out.row_far (fun e => ne e.symm) Im.zero).put 0 (.int .i64 2)
  have K4 := (Below.setRow' (g := w.heap.size + 1) K2.out (Nat.le_succ _) Im.zero).setCell (p := ⟨w.heap.size + 1 + 1, 0, none⟩) (by show w.heap.size ≤ w.heap.size + 1 + 1; omega) (.int .i64 2)
  refine leaves_cons (f := 45) (args := #[.pointer (some ⟨w.heap.size + 1, 0, none⟩), .pointer (some ⟨w.heap.size + 1 + 1, 0, none⟩)]) (by simp) (by simp [go_sem]) ?_
  refine (catch_get (w.heap.size + 1) (w.heap.size + 1 + 1) _ _ [] _ Im.zero Im.zero_size B2.out _ C2.out).mono ?_
  rintro e u' w'' ⟨rfl, rfl, rfl⟩
  have hr := fun (tmps : Array Value) h1 h2 => results_cells2 (fn := Try.f17) (p := 2) (q := 3) rfl tmps _ (w.heap.size + 1) (w.heap.size + 1 + 1) 35 Im.zero _ 2 h1 h2 B4 (by simpa using C4) Try.underlying35 rfl (by rw [Im.zero_size]; exact state_info)
  show Leaves Try.prog _ _ _ [] .returning _
  exact ⟨_, hr _ rfl rfl, rfl, K4⟩

end Go.Proofs.Ytghomofakpjglaa
namespace Go.Proofs.Ytghomofakpjglaa
open Go.RowKit
set_option linter.unusedVariables false

theorem wrap_u64' (n : Int) : IntKind.u64.wrap n = n % 18446744073709551616 := by simp [IntKind.wrap, IntKind.bits, IntKind.signed]
end Go.Proofs.Ytghomofakpjglaa
namespace Go.Proofs.Ytghomofakpjglaa
open Go.RowKit
set_option linter.unusedVariables false

theorem take_snoc (s : ByteArray) (k : Nat) (h : k < s.size) : s.data.toList.take (k + 1) = s.data.toList.take k ++ [s[k]] := by
  rw [List.take_succ_eq_append_getElem (by simpa using h)]; rfl

theorem mix_wraps (h c : Int) (wh : 0 ≤ h ∧ h ≤ 18446744073709551615) (wc : 0 ≤ c ∧ c ≤ 255) : IntKind.u64.wrap (bits .xor .u64 h c * 1099511628211) = Dn.mix h c := by
  rw [u64_xor h c wh.1 (Int.lt_of_le_of_lt wh.2 (by decide)) wc.1 (Int.lt_of_le_of_lt wc.2 (by decide)), wrap_u64']; rfl

set_option maxHeartbeats 400000 in
theorem refseed_any (s : ByteArray) (w : World) (hs : s.size ≤ maxLen) :
    Calls Try.prog 21 #[.string s] w fun e w' => e = .returned (.int .u64 (Dn.seed s.data.toList)) ∧ w = w' := by
  unfold maxLen at hs
  go_enter Try.func21, Try.ntmps21
  go_wp2
  go_loop [3, 4] (fun n i => ∃ k : Nat, k ≤ s.size ∧ i = .int .i64 k ∧ n = .int .u64 (Dn.seed (s.data.toList.take k))) (fun _ i => s.size - (intOf i).toNat)
  case atStart => exact ⟨0, Nat.zero_le _, rfl, rfl⟩
  case round =>
    obtain ⟨k, hk, rfl, rfl⟩ := hrel
    by_cases hlt : k < s.size
    · have hb := Dn.seed_bd (s.data.toList.take k)
      have hc : (s[k].toNat : Int) ≤ 255 := by have := s[k].toNat_lt; omega
      have hm := mix_wraps (Dn.seed (s.data.toList.take k)) (s[k].toNat : Int) hb (by omega)
      have HS : Hid (Dn.seed (s.data.toList.take (k + 1)) = Dn.mix (Dn.seed (s.data.toList.take k)) (s[k].toNat : Int)) := Lib.hid (by rw [take_snoc s k hlt, Dn.seed_snoc])
      go_wp2
      all_goals
        go_round
        case rel => exact ⟨k + 1, by omega, by go_num, by rw [HS.out]⟩
        case measure => simp [intOf]; omega
    · go_wp2
      go_ret
      exact ⟨ret_int (by rw [List.take_of_length_le (by simp; omega)]), rfl⟩

theorem bytes_cell (s : ByteArray) (cap k : Nat) (hk : k < s.size) : (bytesRow s cap)[k]? = some (.int .u8 (s[k].toNat : Int)) := by
  unfold bytesRow
  rw [Array.getElem?_append_left (by simpa using hk), Array.getElem?_map]
  rw [Array.getElem?_eq_getElem (by simpa using hk)]
  rfl

set_option maxHeartbeats 400000 in
theorem wheel_any (d b p : Int) (w : World) :
    Calls Try.prog 77 #[.int .u64 d, .int .u64 b, .int .u64 p] w fun e w' =>
      e = .returned (.func (.func 90) #[] #[.pointer (some ⟨w.heap.size, 0, none⟩), .pointer (some ⟨w.heap.size + 1, 0, none⟩), .pointer (some ⟨w.heap.size + 2, 0, none⟩)]) ∧
      w' = ((w.alloc (.cells #[.int .u64 d] 22)).alloc (.cells #[.int .u64 b] 22)).alloc (.cells #[.int .u64 p] 22) := by
  have hmf : ∀ (fn : Fn) (first cap : Array Value) (w : World), (Instr.makeFunc fn first cap).run Try.prog w = .ok (.func fn first cap) w := fun _ _ _ _ => rfl
  go_enter Try.func77, Try.ntmps77
  go_wp2
  go_ret
  exact ⟨rfl, rfl⟩

set_option maxHeartbeats 400000 in
theorem turn_seed (d c : Int) (wd : 0 ≤ d ∧ d ≤ 18446744073709551615) (wc : 0 ≤ c ∧ c ≤ 255) (B : Nat) (w : World)
    (h0 : w.heap[B]? = some (.cells #[.int .u64 d] 22 (0, 0))) (h1 : w.heap[B + 1]? = some (.cells #[.int .u64 1099511628211] 22 (0, 0))) (h2 : w.heap[B + 2]? = some (.cells #[.int .u64 0] 22 (0, 0))) :
    Calls Try.prog 90 #[.int .u64 c, .pointer (some ⟨B, 0, none⟩), .pointer (some ⟨B + 1, 0, none⟩), .pointer (some ⟨B + 2, 0, none⟩)] w fun e w' =>
      e = .returned (.int .u64 (Dn.mix d c)) ∧ w' = w.setCell ⟨B, 0, none⟩ (.int .u64 (Dn.mix d c)) := by
  have c0 := cell_of_one h0
  have c1 := cell_of_one h1
  have c2 := cell_of_one h2
  have f0 := free_of_one h0
  have hm := mix_wraps d c wd wc
  have hb := Dn.mix_bd d c
  clear h0 h1 h2
  go_enter Try.func90, Try.ntmps90
  go_wp2
  go_ret
  exact ⟨rfl, rfl⟩

/-- What a round of Seed finds. -/
def Seeding (s : ByteArray) (B : Nat) (w wr : World) (H : Int) : Prop :=
  wr.heap[B]? = some (.cells #[.int .u64 H] 22 (0, 0)) ∧ wr.heap[B + 1]? = some (.cells #[.int .u64 1099511628211] 22 (0, 0)) ∧ wr.heap[B + 2]? = some (.cells #[.int .u64 0] 22 (0, 0)) ∧
  (∀ k (h : k < s.size), wr.cell? ⟨B + 1 + 1 + 1, k, none⟩ = some (.int .u8 (s[k].toNat : Int))) ∧ Below B w wr
theorem Seeding.on {s : ByteArray} {B : Nat} {w wr : World} {H : Int} (h : Seeding s B w wr H) (H' : Int) : Seeding s B w (wr.setCell ⟨B, 0, none⟩ (.int .u64 H')) H' := by
  obtain ⟨h0, h1, h2, hc, hb⟩ := h
  refine ⟨one_setCell h0, (Below.heap_setCell _ _ _ _ (by simp)).trans h1, (Below.heap_setCell _ _ _ _ (by simp)).trans h2, fun k hk => ?_, hb.setCell (Nat.le_refl _) _⟩
  rw [World.cell?_of_block (w := wr) (Below.heap_setCell _ _ _ _ (show B + 1 + 1 + 1 ≠ B by omega))]
  exact hc k hk
theorem at_new (w : World) (o : Obj) (i : Nat) (h : i = w.heap.size) : (w.alloc o).heap[i]? = some o := by subst h; exact heap_alloc_new w o
theorem Seeding.start (s : ByteArray) (w : World) (cap : Nat) (q : Nat × Nat) (H : Int) :
    Seeding s w.heap.size w (((((w.alloc (.cells #[.int .u64 H] 22)).alloc (.cells #[.int .u64 1099511628211] 22)).alloc (.cells #[.int .u64 0] 22)).alloc (.cells (bytesRow s cap) 5 q)).drew) H := by
  refine ⟨?_, ?_, ?_, fun k hk => ?_, ((((((Below.refl _ _).alloc (Nat.le_refl _) _).alloc (by simp) _).alloc (by simp; omega) _).alloc (by simp; omega) _)).drew⟩
  · exact (heap_alloc_old _ _ (by simp; omega)).trans ((heap_alloc_old _ _ (by simp; omega)).trans ((heap_alloc_old _ _ (by simp)).trans (at_new _ _ _ rfl)))
  · exact (heap_alloc_old _ _ (by simp)).trans ((heap_alloc_old _ _ (by simp)).trans (at_new _ _ _ (by simp)))
  · exact (heap_alloc_old _ _ (by simp)).trans (at_new _ _ _ (by simp))
  · have h3 := at_new (((w.alloc (.cells #[.int .u64 H] 22)).alloc (.cells #[.int .u64 1099511628211] 22)).alloc (.cells #[.int .u64 0] 22)) (.cells (bytesRow s cap) 5 q) (w.heap.size + 1 + 1 + 1) (by simp)
    have h4 := bytes_cell s cap k hk
    generalize (((w.alloc (.cells #[.int .u64 H] 22)).alloc (.cells #[.int .u64 1099511628211] 22)).alloc (.cells #[.int .u64 0] 22)).alloc (.cells (bytesRow s cap) 5 q) = W at *
    show W.cell? _ = _
    simp [World.cell?, h3, h4]

set_option maxHeartbeats 400000 in
theorem seed_any (s : ByteArray) (w : World) (hs : s.size ≤ maxLen) :
    Calls Try.prog 52 #[.string s] w fun e w' => e = .returned (.int .u64 (Dn.seed s.data.toList)) ∧ Below w.heap.size w w' := by
  unfold maxLen at hs
  have kc := fun (w : World) => run_bytes_of_string (P := Try.prog) w 9 36 5 s Try.underlying9 Try.underlying36 Try.underlying5
  have hst := fun cap q => Lib.hid (Seeding.start s w cap q 14695981039346656037)
  go_enter Try.func52, Try.ntmps52
  go_wp2_with (go_at_call 77; refine (wheel_any _ _ _ _).mono ?_; rintro e w' ⟨rfl, rfl⟩)
  go_loopw [4, 11] (fun h i wr => ∃ k : Nat, k ≤ s.size ∧ i = .int .i64 k ∧ h = .int .u64 (Dn.seed (s.data.toList.take k)) ∧ Seeding s w.heap.size w wr (Dn.seed (s.data.toList.take k))) (fun _ i _ => s.size - (intOf i).toNat)
  case atStart => exact ⟨0, Nat.zero_le _, rfl, rfl, (hst _ _).out⟩
  case round =>
    obtain ⟨k, hk, rfl, rfl, hS⟩ := hrel
    by_cases hlt : k < s.size
    · obtain ⟨c, hc⟩ : ∃ c : Int, c = (s[k].toNat : Int) := ⟨_, rfl⟩
      have hcell := hS.2.2.2.1 k hlt
      rw [← hc] at hcell
      have wc : 0 ≤ c ∧ c ≤ 255 := by have := s[k].toNat_lt; omega
      have HS : Hid (Dn.seed (s.data.toList.take (k + 1)) = Dn.mix (Dn.seed (s.data.toList.take k)) c) := Lib.hid (by rw [take_snoc s k hlt, Dn.seed_snoc, hc])
      have ct := Lib.hid (turn_seed (Dn.seed (s.data.toList.take k)) c (Dn.seed_bd _) wc w.heap.size wr hS.1 hS.2.1 hS.2.2.1)
      have HN := Lib.hid (hS.on (Dn.mix (Dn.seed (s.data.toList.take k)) c))
      clear hS hc kc hst
      go_wp2_with (go_at_call 90; refine (ct.out).mono ?_; rintro e w' ⟨rfl, rfl⟩)
      all_goals
        go_roundw
        case rel => exact ⟨k + 1, by omega, by go_num, by rw [HS.out], by rw [HS.out]; exact HN.out⟩
        case measure => simp [intOf]; omega
    · have hb := hS.2.2.2.2
      clear hS kc hst
      go_wp2
      go_ret
      exact ⟨ret_int (by rw [List.take_of_length_le (by simp; omega)]), hb⟩
end Go.Proofs.Ytghomofakpjglaa
namespace Go.Proofs.Ytghomofakpjglaa
open Go.RowKit Go.Shelf
set_option linter.unusedVariables false
set_option linter.unusedSimpArgs false

def Im.r (k : Nat) : Ros.R := ⟨0, fun i => if i < k then -1 else 0, fun _ => 0⟩
theorem Im.r_put (k : Nat) (hk : k < 8) : (Ros.cells (Im.r k)).setIfInBounds (1 + k * 2) (.int .i64 (-1)) = Ros.cells (Im.r (k + 1)) := by
  rw [Ros.cells_setp _ k hk]
  refine Ros.cells_congr rfl (fun i hi => ?_) (fun i hi => rfl)
  show Ros.upd (Im.r k).peer k (-1) i = if i < k + 1 then -1 else 0
  unfold Ros.upd Im.r
  by_cases e : i = k
  · subst e; simp
  · rw [if_neg e]
    dsimp only
    by_cases h : i < k
    · rw [if_pos h, if_pos (by omega)]
    · rw [if_neg h, if_neg (by omega)]
theorem Im.r_8 : Ros.cells (Im.r 8) = Ros.cells Ros.new := rfl
set_option maxHeartbeats 1000000 in
theorem refros_any (w : World) : Calls Try.prog 64 #[] w fun e w' => e = .returned (.agg (Ros.cells Ros.new)) ∧ Below w.heap.size w w' := by
  have P0 := Lib.hid ((Box.made w 33 (Ros.cells rosZero)).alloc (.cells (Ros.cells rosZero) 33))
  have P1 := Lib.hid (Box.made_at (n := w.heap.size + 1) (w.alloc (.cells (Ros.cells rosZero) 33)) 33 (Ros.cells (Im.r 0)) (by simp))
  have K1 := Lib.hid (((Below.refl w.heap.size w).alloc (Nat.le_refl _) (.cells (Ros.cells rosZero) 33)).alloc (by simp) (.cells (Ros.cells rosZero) 33))
  go_enter Try.func64, Try.ntmps64
  go_wp2_with (with_reducible refine ros_alloc rfl rfl ?_)
  go_loopw [2] (fun i wr => ∃ k : Nat, k ≤ 8 ∧ i = .int .i64 k ∧ Box wr (w.heap.size + 1) 33 (Ros.cells (Im.r k)) ∧ Box wr w.heap.size 33 (Ros.cells rosZero) ∧ Below w.heap.size w wr) (fun i _ => 8 - (intOf i).toNat)
  case atStart => exact ⟨0, by omega, rfl, P1.out, P0.out, K1.out⟩
  case round =>
    obtain ⟨k, hk, rfl, hB, hZ, hK⟩ := hrel
    clear P0 P1 K1
    by_cases hlt : k < 8
    · have hk8 : (k : Int) < 8 := by omega
      have c0 := (hB.cell (1 + k * 2)).trans (Ros.cells_peer (Im.r k) k hlt)
      have f0 := hB.free (1 + k * 2)
      have hp := hB.put (1 + k * 2) (.int .i64 (-1))
      rw [Im.r_put k hlt] at hp
      have HB := Lib.hid hp
      have HZ := Lib.hid (hZ.far (p := ⟨w.heap.size + 1, 1 + k * 2, none⟩) (show w.heap.size ≠ w.heap.size + 1 by omega) (.int .i64 (-1)))
      have HK := Lib.hid (hK.setCell (p := ⟨w.heap.size + 1, 1 + k * 2, none⟩) (Nat.le_succ _) (.int .i64 (-1)))
      clear hB hZ hK hp
      go_wp2
      go_roundw
      case rel => exact ⟨k + 1, by omega, by go_num, HB.out, HZ.out, HK.out⟩
      case measure => simp [intOf]; omega
    · have hk8 : ¬ (k : Int) < 8 := by omega
      obtain rfl : k = 8 := by omega
      rw [Im.r_8] at hB
      have HB := Lib.hid hB
      have HZ := Lib.hid hZ
      have HK := Lib.hid hK
      clear hB hZ hK
      go_wp2_with (first | ((with_reducible refine ros_load rfl rfl ?_); apply LoadRow.mk rfl; (focus (with_reducible exact HB.out)); (focus (exact ros_info))) | ((with_reducible refine ros_store rfl rfl ?_); apply StoreRow.mk rfl rfl; (focus (with_reducible exact HZ.out)); (focus (exact ros_info)); (focus rfl); (focus (exact ros_one _))))
      refine bodyPost_ret (v := .agg (Ros.cells Ros.new)) ?_ ?_ ?_
      · exact results_cell_row rfl _ _ _ _ (Ros.cells Ros.new) (0, 0) _ rfl (HZ.out.row (Ros.cells Ros.new)).is Try.underlying33 rfl ros_info
      · rfl
      · exact ⟨rfl, Below.setRow' HK.out (Nat.le_refl _) (Ros.cells Ros.new)⟩

set_option maxRecDepth 100000 in
theorem refnew7_any (s : ByteArray) (w : World) (hs : s.size ≤ maxLen) :
    Calls Try.prog 63 #[.string s] w fun e w' => e = .returned (.agg (Gm.cells (Gm.new (Dn.seed s.data.toList)) (.slice none 0 0))) ∧ Below w.heap.size w w' := by
  have c1 := fun X => Lib.hid (refseed_any s X hs)
  have hr := Lib.hid (rfl : Try.f63.results = _)
  go_enter Try.func63, Try.ntmps63
  go_wp2_with (first | (go_at_call 21; ((with_reducible refine ((c1 _).out).mono ?_); rintro e w' ⟨rfl, rfl⟩)) | (refine wpList_alloc_z rfl (t := 28) rfl game_zero rfl ?_) | (refine wpList_build_is rfl (t := 28) (vs := [(1, .int .u64 (Dn.seed s.data.toList))]) rfl rfl (built_new _) ?_) | (refine wpList_store_new rfl (ty := 28) rfl rfl rfl rfl rfl game_info rfl (cells_one _ _ rfl) ?_))
  refine bodyPost_ret (v := .agg (Gm.cells (Gm.new (Dn.seed s.data.toList)) (.slice none 0 0))) ?_ ?_ ?_
  · exact results_cell_row rfl _ _ _ _ (Gm.cells (Gm.new (Dn.seed s.data.toList)) (.slice none 0 0)) (0, 0) _ rfl (Box.made _ _ _).is Try.underlying28 rfl game_info
  · rfl
  · exact ⟨rfl, one_below _ _⟩

theorem state_built2 (g : Gm.G) (s : Value) (r : Ros.R) : Try.prog.built 35 [(0, .agg (Gm.cells g s)), (1, .agg (Ros.cells r))] = some (Im.cells g s r) := by kernel_rfl

set_option maxHeartbeats 1000000 in
theorem start_any (s : ByteArray) (w : World) (hs : s.size ≤ maxLen) :
    Calls Try.prog 35 #[.string s] w fun e w' => e = .returned (.agg (Im.cells (Gm.new (Dn.seed s.data.toList)) (.slice none 0 0) Ros.new)) ∧ Below w.heap.size w w' := by
  have P1 := Lib.hid (Box.made w 35 Im.zero)
  have K1 := Lib.hid (one_below w (.cells Im.zero 35))
  have c1 := fun X => Lib.hid (refnew7_any s X hs)
  have c2 := fun X => Lib.hid (refros_any X)
  go_enter Try.func35, Try.ntmps35
  go_wp2_with (first | (with_reducible refine alloc_state rfl rfl ?_) | (go_at_call 63; ((with_reducible refine ((c1 _).out).mono ?_); rintro e w2 ⟨rfl, hb⟩; have P2 := Lib.hid (P1.out.below hb P1.out.lt); have K2 := Lib.hid (K1.out.trans (hb.mono K1.out.size)); clear hb)) | (go_at_call 64; ((with_reducible refine ((c2 _).out).mono ?_); rintro e w3 ⟨rfl, hb⟩; have P3 := Lib.hid (P2.out.below hb P2.out.lt); have K3 := Lib.hid (K2.out.trans (hb.mono K2.out.size)); clear hb)) | (refine wpList_build_is rfl (t := 35) (vs := [(0, .agg (Gm.cells (Gm.new (Dn.seed s.data.toList)) (.slice none 0 0))), (1, .agg (Ros.cells Ros.new))]) rfl rfl (state_built2 _ _ _) ?_) | ((with_reducible refine blk_gate (t := 35) rfl rfl state_info ?_); apply StoreBlk.mk rfl rfl P3.out (im_cells_one _ _ _ rfl) (Im.cells_size _ _ _) Im.zero_size))
  refine bodyPost_ret (v := .agg (Im.cells (Gm.new (Dn.seed s.data.toList)) (.slice none 0 0) Ros.new)) ?_ ?_ ?_
  · exact results_cell_row rfl _ _ _ _ (Im.cells (Gm.new (Dn.seed s.data.toList)) (.slice none 0 0) Ros.new) (0, 0) _ rfl (P3.out.row _).is Try.underlying35 rfl (by rw [Im.cells_size]; exact state_info)
  · rfl
  · exact ⟨rfl, Below.setRow' K3.out (Nat.le_refl _) _⟩

theorem sum_nil (w : World) : Calls Try.prog 20 #[.slice none 0 0] w fun e w' => e = .returned (.int .u64 14695981039346656037) ∧ Below w.heap.size w w' := by
  have hcv := fun (w : World) => run_convert_bytes_nil (P := Try.prog) (w := w) 36 5 Try.underlying36 Try.underlying5 0 0 9 Try.underlying9
  have cs := fun X => Lib.hid (seed_any ByteArray.empty X (Nat.zero_le _))
  rw [show Dn.seed ByteArray.empty.data.toList = 14695981039346656037 from rfl] at cs
  go_enter Try.func20, Try.ntmps20
  go_wp2_with (go_at_call 52; ((with_reducible refine ((cs _).out).mono ?_); rintro e w1 ⟨rfl, hb⟩))
  go_ret
  exact ⟨rfl, hb⟩

theorem of_no (g : Gm.G) (r : Ros.R) (A : Option Addr) (n c : Nat) (w : World) (hno : ¬ Im.Ok g r) (hty : Gm.ty g) (hn : n = g.shots.length) (hn63 : n ≤ maxLen) (hr : Lies w w.heap.size 6 A n (Gm.shotCells g.shots)) :
    Calls Try.prog 22 #[.agg (Im.cells g (.slice A n c) r)] w fun e w' => e = .returned (.int .u64 0) ∧ Below w.heap.size w w' := by
  have P0 := Lib.hid (Box.made w 35 (Im.cells g (.slice A n c) r))
  have K0 := Lib.hid (one_below w (.cells (Im.cells g (.slice A n c) r) 35))
  have cp := Lib.hid (put_no g r A n c _ hno hty hn hn63 ((hr.below K0.out).wider K0.out.size))
  clear hr hn hno hty
  go_enter Try.func22, Try.ntmps22
  go_wp2_with (first | ((with_reducible refine im_load_state rfl rfl ?_); apply LoadIm.mk rfl; (focus (with_reducible exact P0.out)); dsimp only) | (go_at_call 14; ((with_reducible refine (cp.out).mono ?_); rintro e w1 ⟨rfl, hb⟩; have K1 := Lib.hid (K0.out.trans (hb.mono K0.out.size)); clear hb)))
  go_ret
  exact ⟨rfl, K1.out⟩
end Go.Proofs.Ytghomofakpjglaa
namespace Go.Proofs.Ytghomofakpjglaa
open Go.RowKit Go.Shelf
set_option linter.unusedVariables false
set_option linter.unusedSimpArgs false

def Im.parts (x : Nat → Int) : Nat → List Value
  | 0 => []
  | k + 1 => Im.parts x k ++ [.int .i32 (x k)]
end Go.Proofs.Ytghomofakpjglaa
namespace Go.Proofs.Ytghomofakpjglaa
open Go.RowKit Go.Shelf
set_option linter.unusedVariables false
set_option linter.unusedSimpArgs false

theorem made_at (z : Array Value) (n i : Nat) (h : i < n) : (madeCells z n)[i]? = some (z[i % z.size]!) := by
  unfold madeCells
  rw [Array.getElem?_map, Array.getElem?_range, if_pos h]
  rfl
end Go.Proofs.Ytghomofakpjglaa
namespace Go.Proofs.Ytghomofakpjglaa
namespace Im
open Go Go.RowKit _root_.Im
set_option linter.unusedVariables false
set_option linter.unusedSimpArgs false

def decParts : Nat → List Int → List Int → Option (List Int × List Int)
  | 0, l, bs => some (l, bs)
  | n + 1, l, bs => (rdn 4 bs).bind fun q => decParts n (l ++ [IntKind.i32.wrap q.1]) q.2
def decShip (bs : List Int) : Option (Gm.Ship × List Int) :=
  (rdn 1 bs).bind fun o => if o.1 = 0 then some (Gm.Ship.none, o.2) else if o.1 = 1 then (decParts 4 [] o.2).bind fun f => (rdn 1 f.2).bind fun c => (rdn 4 c.2).bind fun s => some (⟨true, f.1.getD 0 0, f.1.getD 1 0, f.1.getD 2 0, f.1.getD 3 0, c.1, s.1⟩, s.2) else none
def decShips : Nat → Nat → (Nat → Gm.Ship) → List Int → Option ((Nat → Gm.Ship) × List Int)
  | _, 0, f, bs => some (f, bs)
  | k, n + 1, f, bs => (decShip bs).bind fun q => decShips (k + 1) n (Gm.upd f k q.1) q.2
def decShot (bs : List Int) : Option (Gm.Shot × List Int) :=
  (rdn 1 bs).bind fun o => (decParts 4 [] o.2).bind fun f => (rdn 1 f.2).bind fun t => some (⟨o.1, f.1.getD 0 0, f.1.getD 1 0, f.1.getD 2 0, f.1.getD 3 0, t.1⟩, t.2)
def decShots : Nat → List Gm.Shot → List Int → Option (List Gm.Shot × List Int)
  | 0, l, bs => some (l, bs)
  | n + 1, l, bs => (decShot bs).bind fun q => decShots n (l ++ [q.1]) q.2
def decRow (bs : List Int) : Option (List Gm.Shot × List Int) := (rdn 1 bs).bind fun n => decShots n.1.toNat [] n.2
def setSeat (r : Ros.R) (k : Nat) (p g : Int) : Ros.R := { r with peer := Ros.upd r.peer k p, gen := Ros.upd r.gen k g }
def decSeat (bs : List Int) : Option ((Int × Int) × List Int) := (rdn 1 bs).bind fun p => (rdn 2 p.2).bind fun g => some ((p.1 - 1, g.1), g.2)
def decSeats : Nat → Nat → Ros.R → List Int → Option (Ros.R × List Int)
  | _, 0, r, bs => some (r, bs)
  | k, n + 1, r, bs => (decSeat bs).bind fun q => decSeats (k + 1) n (setSeat r k q.1.1 q.1.2) q.2
def ships0 : Nat → Gm.Ship := fun _ => Gm.Ship.none
def dec (bs : List Int) : Option ((Gm.G × Ros.R) × List Int) :=
  (rdn 4 bs).bind fun f => (rdn 8 f.2).bind fun d => (decShips 0 8 ships0 d.2).bind fun s => (decRow s.2).bind fun l => (rdn 4 l.2).bind fun v => (decSeats 0 8 { R0 with version := v.1 } v.2).bind fun r => some ((⟨f.1, d.1, s.1, l.1⟩, r.1), r.2)
open Classical in
noncomputable def get (bs : List Int) : Option (Gm.G × Ros.R) := (dec bs).bind fun q => if q.2 = [] ∧ Ok q.1.1 q.1.2 then some q.1 else none

theorem mod1 {x : Int} (h : 0 ≤ x ∧ x < 256) : x % 2 ^ (8 * 1) = x := by omega
theorem back32 {x : Int} (h : -2147483648 ≤ x ∧ x ≤ 2147483647) : IntKind.i32.wrap (IntKind.u64.wrap x % 2 ^ (8 * 4)) = x := by rw [IntKind.wrap_u64, IntKind.wrap_i32]; omega
def parts' (l : List Int) : List Int := l.flatMap fun x => bytesOf 4 (IntKind.u64.wrap x)
theorem flight_parts (f : Nat → Int) : flight f 4 = parts' [f 0, f 1, f 2, f 3] := by simp [flight, parts']
theorem decParts_put : ∀ (l a rest : List Int), (∀ x ∈ l, -2147483648 ≤ x ∧ x ≤ 2147483647) → decParts l.length a (parts' l ++ rest) = some (a ++ l, rest)
  | [], a, rest, _ => by simp [decParts, parts']
  | x :: l, a, rest, h => by
    have e : parts' (x :: l) ++ rest = bytesOf 4 (IntKind.u64.wrap x) ++ (parts' l ++ rest) := by simp [parts']
    rw [e]
    show (rdn 4 (bytesOf 4 (IntKind.u64.wrap x) ++ (parts' l ++ rest))).bind _ = _
    rw [rdn_bytes, Option.bind_some, back32 (h x (by simp)), decParts_put l (a ++ [x]) rest fun u hu => h u (by simp [hu])]
    simp
theorem decShip_put {s : Gm.Ship} (h : Gm.okShip s) (rest : List Int) : decShip (ship s ++ rest) = some (s, rest) := by
  have ty := h.ty
  obtain ⟨h0, _, _, _, _, h5, h6, h7, h8⟩ := h
  obtain ⟨t1, t2, t3, t4, _, _⟩ := ty
  cases hon : s.on
  · have hs : s = Gm.Ship.none := by
      rcases h0 with h0 | h0
      · rw [hon] at h0; cases h0
      · exact h0
    subst hs
    show (rdn 1 (bytesOf 1 0 ++ rest)).bind _ = _
    rw [rdn_bytes, Option.bind_some]
    dsimp only
    rw [if_pos (by decide)]
  · unfold ship
    rw [if_pos hon, flight_parts]
    unfold decShip
    simp only [List.append_assoc]
    rw [rdn_bytes, Option.bind_some]
    dsimp only
    rw [if_neg (by decide), if_pos (by decide)]
    have := decParts_put [s.x, s.y, s.vx, s.vy] [] (bytesOf 1 s.cool ++ (bytesOf 4 s.score ++ rest)) (by
      intro x hx
      simp only [List.mem_cons, List.not_mem_nil, or_false] at hx
      unfold Gm.i32 at *
      rcases hx with rfl | rfl | rfl | rfl <;> assumption)
    rw [show ([s.x, s.y, s.vx, s.vy] : List Int).length = 4 from rfl] at this
    (try dsimp only)
    rw [this, Option.bind_some, rdn_bytes, Option.bind_some, rdn_bytes, Option.bind_some]
    dsimp only
    rw [mod1 (by omega), show s.score % 2 ^ (8 * 4) = s.score by omega]
    obtain ⟨on, x, y, vx, vy, c, sc⟩ := s
    dsimp only at hon
    subst hon
    rfl
theorem decShips_put (g : Nat → Gm.Ship) : ∀ (n k : Nat) (f : Nat → Gm.Ship) (rest : List Int), (∀ i, k ≤ i → i < k + n → Gm.okShip (g i)) →
    ∃ f', decShips k n f (shipsFrom g k n ++ rest) = some (f', rest) ∧ (∀ i, k ≤ i → i < k + n → f' i = g i) ∧ (∀ i, i < k ∨ k + n ≤ i → f' i = f i)
  | 0, k, f, rest, _ => ⟨f, rfl, fun i _ _ => by omega, fun _ _ => rfl⟩
  | n + 1, k, f, rest, h => by
    unfold decShips shipsFrom
    rw [List.append_assoc, decShip_put (h k (by omega) (by omega)), Option.bind_some]
    obtain ⟨f', h1, h2, h3⟩ := decShips_put g n (k + 1) (Gm.upd f k (g k)) rest fun i a b => h i (by omega) (by omega)
    refine ⟨f', h1, fun i a b => ?_, fun i a => ?_⟩
    · by_cases e : i = k
      · subst e; rw [h3 i (by omega), Gm.upd_same]
      · exact h2 i (by omega) (by omega)
    · rw [h3 i (by omega), Gm.upd_other _ _ (by omega)]
theorem decShot_put {s : Gm.Shot} (h : Gm.okShot s) (rest : List Int) : decShot (shot s ++ rest) = some (s, rest) := by
  have ty := h.ty
  obtain ⟨h1, h2, _, _, _, _, h7, h8⟩ := h
  obtain ⟨_, t1, t2, t3, t4, _⟩ := ty
  unfold shot decShot
  rw [flight_parts]
  simp only [List.append_assoc]
  have := decParts_put [s.x, s.y, s.vx, s.vy] [] (bytesOf 1 s.left ++ rest) (by
    intro x hx
    simp only [List.mem_cons, List.not_mem_nil, or_false] at hx
    unfold Gm.i32 at *
    rcases hx with rfl | rfl | rfl | rfl <;> assumption)
  rw [show ([s.x, s.y, s.vx, s.vy] : List Int).length = 4 from rfl] at this
  rw [rdn_bytes, Option.bind_some]
  dsimp only
  rw [this, Option.bind_some, rdn_bytes, Option.bind_some]
  dsimp only
  rw [mod1 (by omega), mod1 (by omega)]
  rfl
theorem decShots_put : ∀ (l a : List Gm.Shot) (rest : List Int), (∀ s ∈ l, Gm.okShot s) → decShots l.length a (shots l ++ rest) = some (a ++ l, rest)
  | [], a, rest, _ => by simp [decShots, shots]
  | s :: l, a, rest, h => by
    have e : shots (s :: l) ++ rest = shot s ++ (shots l ++ rest) := by simp [shots]
    rw [e]
    show (decShot (shot s ++ (shots l ++ rest))).bind _ = _
    rw [decShot_put (h s (by simp)), Option.bind_some, decShots_put l (a ++ [s]) rest fun u hu => h u (by simp [hu])]
    simp
theorem decSeats_put (q : Ros.R) : ∀ (n k : Nat) (r : Ros.R) (rest : List Int), (∀ i, k ≤ i → i < k + n → Ros.OkSeat q i) →
    ∃ r', decSeats k n r (seatsFrom q k n ++ rest) = some (r', rest) ∧ r'.version = r.version ∧ (∀ i, k ≤ i → i < k + n → r'.peer i = q.peer i ∧ r'.gen i = q.gen i) ∧ (∀ i, i < k ∨ k + n ≤ i → r'.peer i = r.peer i ∧ r'.gen i = r.gen i)
  | 0, k, r, rest, _ => ⟨r, rfl, rfl, fun i _ _ => by omega, fun _ _ => ⟨rfl, rfl⟩⟩
  | n + 1, k, r, rest, h => by
    have hk := h k (by omega) (by omega)
    unfold Ros.OkSeat at hk
    unfold decSeats seatsFrom decSeat
    simp only [List.append_assoc]
    rw [rdn_bytes, Option.bind_some]
    dsimp only
    rw [rdn_bytes, Option.bind_some, Option.bind_some]
    dsimp only
    rw [mod1 (by omega), show q.gen k % 2 ^ (8 * 2) = q.gen k by omega, show q.peer k + 1 - 1 = q.peer k by omega]
    obtain ⟨r', h1, hv, h2, h3⟩ := decSeats_put q n (k + 1) (setSeat r k (q.peer k) (q.gen k)) rest fun i a b => h i (by omega) (by omega)
    refine ⟨r', h1, hv, fun i a b => ?_, fun i a => ?_⟩
    · by_cases e : i = k
      · subst e
        rw [(h3 i (by omega)).1, (h3 i (by omega)).2]
        exact ⟨Ros.upd_same _ _ _, Ros.upd_same _ _ _⟩
      · exact h2 i (by omega) (by omega)
    · rw [(h3 i (by omega)).1, (h3 i (by omega)).2]
      exact ⟨Ros.upd_other _ _ (by omega), Ros.upd_other _ _ (by omega)⟩
/-- Two states in all parts. -/
def Like (g : Gm.G) (r : Ros.R) (g' : Gm.G) (r' : Ros.R) : Prop := Gm.Eq g g' ∧ r.version = r'.version ∧ ∀ k, k < 8 → r.peer k = r'.peer k ∧ r.gen k = r'.gen k
theorem Like.refl (g : Gm.G) (r : Ros.R) : Like g r g r := ⟨Gm.Eq.refl g, rfl, fun _ _ => ⟨rfl, rfl⟩⟩
theorem Like.symm {g g' : Gm.G} {r r' : Ros.R} (h : Like g r g' r') : Like g' r' g r := ⟨⟨h.1.1.symm, h.1.2.1.symm, fun i hi => (h.1.2.2.1 i hi).symm, h.1.2.2.2.symm⟩, h.2.1.symm, fun k hk => ⟨(h.2.2 k hk).1.symm, (h.2.2 k hk).2.symm⟩⟩
theorem Ok.like {g g' : Gm.G} {r r' : Ros.R} (h : Ok g r) (k : Like g r g' r') : Ok g' r' := by
  obtain ⟨⟨a1, a2, a3, a4, a5⟩, h2, h3⟩ := h
  obtain ⟨⟨k1, k2, k3, k4⟩, k5, k6⟩ := k
  obtain ⟨b1, b2, b3⟩ := Ros.ok_iff.1 h2
  refine ⟨⟨by omega, by omega, by rw [← k4]; exact a3, fun i hi => by rw [← k3 i hi]; exact a4 i hi, ?_⟩, Ros.ok_iff.2 ⟨by omega, fun i hi => ?_, fun i j hij hj => ?_⟩, fun i hi => ?_⟩
  · rw [← k4]; exact a5
  · have := b2 i hi
    unfold Ros.OkSeat at *
    rw [← (k6 i hi).1, ← (k6 i hi).2]
    exact this
  · rw [← (k6 i (by omega)).1, ← (k6 j hj).1]
    exact b3 i j hij hj
  · rw [← k3 i hi, ← (k6 i hi).1]
    exact h3 i hi
theorem ships_congr {f g : Nat → Gm.Ship} : ∀ k, (∀ i, i < k → f i = g i) → ships f k = ships g k
  | 0, _ => rfl
  | k + 1, h => by unfold ships; rw [ships_congr k fun i hi => h i (by omega), h k (by omega)]
theorem seats_congr {q r : Ros.R} : ∀ k, (∀ i, i < k → q.peer i = r.peer i ∧ q.gen i = r.gen i) → seats q k = seats r k
  | 0, _ => rfl
  | k + 1, h => by unfold seats; rw [seats_congr k fun i hi => h i (by omega), (h k (by omega)).1, (h k (by omega)).2]
theorem put_like {g g' : Gm.G} {r r' : Ros.R} (k : Like g r g' r') : put g r = put g' r' := by
  obtain ⟨⟨k1, k2, k3, k4⟩, k5, k6⟩ := k
  unfold put
  rw [k1, k2, ships_congr 8 k3, k4, k5, seats_congr 8 k6]
theorem cells_like {g g' : Gm.G} {r r' : Ros.R} (k : Like g r g' r') (s : Value) : cells g s r = cells g' s r' := by
  obtain ⟨⟨k1, k2, k3, k4⟩, k5, k6⟩ := k
  unfold cells
  rw [Ros.cells_congr k5 (fun i hi => (k6 i hi).1) (fun i hi => (k6 i hi).2)]
  refine congrArg (· ++ Ros.cells r') ?_
  unfold Gm.cells Gm.shipCells
  rw [k1, k2, k3 0 (by omega), k3 1 (by omega), k3 2 (by omega), k3 3 (by omega), k3 4 (by omega), k3 5 (by omega), k3 6 (by omega), k3 7 (by omega)]
theorem put_from (g : Gm.G) (r : Ros.R) : put g r = bytesOf 4 g.frame ++ (bytesOf 8 g.dice ++ (shipsFrom g.ship 0 8 ++ (bytesOf 1 g.shots.length ++ (shots g.shots ++ (bytesOf 4 r.version ++ seatsFrom r 0 8))))) := by
  have e1 := ships_from g.ship 8 0
  have e2 := seats_from r 8 0
  rw [show 0 + 8 = 8 from rfl, show ships g.ship 0 = [] from rfl, List.nil_append] at e1
  rw [show 0 + 8 = 8 from rfl, show seats r 0 = [] from rfl, List.nil_append] at e2
  unfold put
  rw [← e1, ← e2]
  simp only [List.append_assoc]
theorem dec_put {g : Gm.G} {r : Ros.R} (h : Ok g r) (hd : 0 ≤ g.dice ∧ g.dice ≤ 18446744073709551615) (rest : List Int) : ∃ g' r', dec (put g r ++ rest) = some ((g', r'), rest) ∧ Like g r g' r' := by
  obtain ⟨⟨a1, a2, a3, a4, a5⟩, h2, h3⟩ := h
  obtain ⟨f', e1, e2, e3⟩ := decShips_put g.ship 8 0 ships0 (bytesOf 1 g.shots.length ++ (shots g.shots ++ (bytesOf 4 r.version ++ (seatsFrom r 0 8 ++ rest)))) fun i _ hi => a4 i (by omega)
  obtain ⟨r', s1, s2, s3, s4⟩ := decSeats_put r 8 0 { R0 with version := r.version } rest fun i _ hi => h2.seat i (by omega)
  have hv := h2.1
  refine ⟨⟨g.frame, g.dice, f', g.shots⟩, r', ?_, ⟨rfl, rfl, fun i hi => (e2 i (by omega) (by omega)).symm, rfl⟩, s2.symm, fun i hi => ⟨(s3 i (by omega) (by omega)).1.symm, (s3 i (by omega) (by omega)).2.symm⟩⟩
  rw [put_from]
  unfold dec decRow
  simp only [List.append_assoc]
  rw [rdn_bytes, Option.bind_some]
  dsimp only
  rw [rdn_bytes, Option.bind_some]
  dsimp only
  rw [e1, Option.bind_some]
  dsimp only
  rw [rdn_bytes, Option.bind_some]
  dsimp only
  rw [show (g.shots.length : Int) % 2 ^ (8 * 1) = g.shots.length by omega, Int.toNat_natCast, decShots_put _ _ _ (fun s hs => by
    obtain ⟨i, hi, rfl⟩ := List.getElem_of_mem hs
    exact a5 i hi), Option.bind_some]
  dsimp only
  rw [rdn_bytes, Option.bind_some]
  dsimp only
  rw [show r.version % 2 ^ (8 * 4) = r.version by omega, s1, Option.bind_some]
  dsimp only
  rw [show g.frame % 2 ^ (8 * 4) = g.frame by omega, show g.dice % 2 ^ (8 * 8) = g.dice by omega, List.nil_append]

theorem bytes32 {y : Int} (h : 0 ≤ y ∧ y < 2 ^ (8 * 4)) : bytesOf 4 (IntKind.u64.wrap (IntKind.i32.wrap y)) = bytesOf 4 y := by
  have e : ∀ v : Int, bytesOf 4 v = [v % 256, v / 256 % 256, v / 65536 % 256, v / 16777216 % 256] := fun v => by
    simp [bytesOf]
  rw [e, e, wrap_u64', IntKind.wrap_i32]
  simp only [List.cons.injEq, and_true]
  omega
theorem decParts_inv : ∀ (n : Nat) (a l bs rest : List Int), IsBytes bs → decParts n a bs = some (l, rest) → ∃ l', l = a ++ l' ∧ l'.length = n ∧ bs = parts' l' ++ rest ∧ IsBytes rest ∧ ∀ x ∈ l', -2147483648 ≤ x ∧ x ≤ 2147483647
  | 0, a, l, bs, rest, hB, h => by
    unfold decParts at h
    injection h with h
    injection h with e1 e2
    subst e1 e2
    exact ⟨[], by simp, rfl, rfl, hB, fun _ h => by cases h⟩
  | n + 1, a, l, bs, rest, hB, h => by
    unfold decParts at h
    obtain ⟨⟨y, b1⟩, h1, hq⟩ := Option.bind_eq_some_iff.1 h
    clear h
    obtain ⟨rfl, y0, y1, B1⟩ := rdn_inv hB h1
    obtain ⟨l', rfl, h2, h3, B2, t2⟩ := decParts_inv n _ l _ rest B1 hq
    subst h3
    refine ⟨IntKind.i32.wrap y :: l', by simp, by simp [h2], ?_, B2, fun u hu => ?_⟩
    · have e : parts' (IntKind.i32.wrap y :: l') = bytesOf 4 (IntKind.u64.wrap (IntKind.i32.wrap y)) ++ parts' l' := by simp [parts']
      rw [e, bytes32 ⟨y0, y1⟩, List.append_assoc]
    · rcases List.mem_cons.1 hu with rfl | hu
      · rw [IntKind.wrap_i32]; omega
      · exact t2 u hu
theorem four {l : List Int} (h : l.length = 4) : l = [l.getD 0 0, l.getD 1 0, l.getD 2 0, l.getD 3 0] := by
  match l, h with
  | [a, b, c, d], _ => rfl
theorem decShip_inv {bs rest : List Int} {s : Gm.Ship} (hB : IsBytes bs) (h : decShip bs = some (s, rest)) : bs = ship s ++ rest ∧ IsBytes rest ∧ Gm.tyShip s := by
  unfold decShip at h
  obtain ⟨⟨o, b1⟩, h1, h2⟩ := Option.bind_eq_some_iff.1 h
  clear h
  obtain ⟨rfl, o0, o1, B1⟩ := rdn_inv hB h1
  dsimp only at h2
  split at h2
  · rename_i ho
    injection h2 with h2
    injection h2 with e1 e2
    subst e1 e2 ho
    exact ⟨rfl, B1, by unfold Gm.tyShip Gm.i32 Gm.i64 Gm.Ship.none; dsimp only; omega⟩
  · split at h2
    · rename_i ho
      obtain ⟨⟨f, b2⟩, h3, h4⟩ := Option.bind_eq_some_iff.1 h2
      clear h2
      obtain ⟨⟨c, b3⟩, h5, h6⟩ := Option.bind_eq_some_iff.1 h4
      clear h4
      obtain ⟨⟨sc, b4⟩, h7, h8⟩ := Option.bind_eq_some_iff.1 h6
      clear h6
      injection h8 with h8
      injection h8 with e1 e2
      subst e1 e2 ho
      obtain ⟨l', e0, hl, rfl, B2, t2⟩ := decParts_inv _ _ _ _ _ B1 h3
      rw [List.nil_append] at e0
      subst e0
      obtain ⟨rfl, c0, c1, B3⟩ := rdn_inv B2 h5
      obtain ⟨rfl, s0, s1, B4⟩ := rdn_inv B3 h7
      refine ⟨?_, B4, ?_⟩
      · unfold ship
        rw [if_pos rfl, flight_parts]
        dsimp only
        conv => lhs; rw [four hl]
        simp only [List.append_assoc]
      · have hm : ∀ i, i < 4 → -2147483648 ≤ f.getD i 0 ∧ f.getD i 0 ≤ 2147483647 := fun i hi => by
          have e : f.getD i 0 = f[i]'(by omega) := by simp [List.getD, show i < f.length by omega]
          rw [e]
          exact t2 _ (List.getElem_mem _)
        exact ⟨hm 0 (by omega), hm 1 (by omega), hm 2 (by omega), hm 3 (by omega), by unfold Gm.i64; dsimp only at *; omega, by unfold Gm.i64; dsimp only at *; omega⟩
    · cases h2
theorem decShips_inv : ∀ (n k : Nat) (g f : Nat → Gm.Ship) (bs rest : List Int), IsBytes bs → decShips k n g bs = some (f, rest) →
    bs = shipsFrom f k n ++ rest ∧ IsBytes rest ∧ (∀ i, k ≤ i → i < k + n → Gm.tyShip (f i)) ∧ ∀ i, i < k ∨ k + n ≤ i → f i = g i
  | 0, k, g, f, bs, rest, hB, h => by
    unfold decShips at h
    injection h with h
    injection h with e1 e2
    subst e1 e2
    exact ⟨rfl, hB, fun i _ _ => by omega, fun _ _ => rfl⟩
  | n + 1, k, g, f, bs, rest, hB, h => by
    unfold decShips at h
    obtain ⟨⟨s, b1⟩, h1, hq⟩ := Option.bind_eq_some_iff.1 h
    clear h
    obtain ⟨rfl, B1, t1⟩ := decShip_inv hB h1
    obtain ⟨h2, B2, h3, h4⟩ := decShips_inv n (k + 1) (Gm.upd g k s) f b1 rest B1 hq
    have hk : f k = s := (h4 k (by omega)).trans (Gm.upd_same _ _ _)
    refine ⟨?_, B2, fun i a b => ?_, fun i a => ?_⟩
    · rw [h2]
      conv => rhs; unfold shipsFrom
      rw [hk, List.append_assoc]
    · by_cases e : i = k
      · subst e; rw [hk]; exact t1
      · exact h3 i (by omega) (by omega)
    · rw [h4 i (by omega), Gm.upd_other _ _ (by omega)]
theorem decShot_inv {bs rest : List Int} {s : Gm.Shot} (hB : IsBytes bs) (h : decShot bs = some (s, rest)) : bs = shot s ++ rest ∧ IsBytes rest ∧ Gm.tyShot s := by
  unfold decShot at h
  obtain ⟨⟨o, b1⟩, h1, h2⟩ := Option.bind_eq_some_iff.1 h
  clear h
  obtain ⟨⟨f, b2⟩, h3, h4⟩ := Option.bind_eq_some_iff.1 h2
  clear h2
  obtain ⟨⟨t, b3⟩, h5, h6⟩ := Option.bind_eq_some_iff.1 h4
  clear h4
  injection h6 with h6
  injection h6 with e1 e2
  subst e1 e2
  obtain ⟨rfl, o0, o1, B1⟩ := rdn_inv hB h1
  obtain ⟨l', e0, hl, rfl, B2, t2⟩ := decParts_inv _ _ _ _ _ B1 h3
  rw [List.nil_append] at e0
  subst e0
  obtain ⟨rfl, c0, c1, B3⟩ := rdn_inv B2 h5
  have hm : ∀ i, i < 4 → -2147483648 ≤ f.getD i 0 ∧ f.getD i 0 ≤ 2147483647 := fun i hi => by
    have e : f.getD i 0 = f[i]'(by omega) := by simp [List.getD, show i < f.length by omega]
    rw [e]
    exact t2 _ (List.getElem_mem _)
  refine ⟨?_, B3, ⟨by unfold Gm.i64; dsimp only at *; omega, hm 0 (by omega), hm 1 (by omega), hm 2 (by omega), hm 3 (by omega), by unfold Gm.i64; dsimp only at *; omega⟩⟩
  unfold shot
  rw [flight_parts]
  dsimp only
  conv => lhs; rw [four hl]
  simp only [List.append_assoc]
theorem decShots_inv : ∀ (n : Nat) (a l : List Gm.Shot) (bs rest : List Int), IsBytes bs → decShots n a bs = some (l, rest) → ∃ l', l = a ++ l' ∧ l'.length = n ∧ bs = shots l' ++ rest ∧ IsBytes rest ∧ ∀ s ∈ l', Gm.tyShot s
  | 0, a, l, bs, rest, hB, h => by
    unfold decShots at h
    injection h with h
    injection h with e1 e2
    subst e1 e2
    exact ⟨[], by simp, rfl, rfl, hB, fun _ h => by cases h⟩
  | n + 1, a, l, bs, rest, hB, h => by
    unfold decShots at h
    obtain ⟨⟨s, b1⟩, h1, hq⟩ := Option.bind_eq_some_iff.1 h
    clear h
    obtain ⟨rfl, B1, t1⟩ := decShot_inv hB h1
    obtain ⟨l', rfl, h2, h3, B2, t2⟩ := decShots_inv n _ l _ rest B1 hq
    subst h3
    refine ⟨s :: l', by simp, by simp [h2], by simp [shots], B2, fun u hu => ?_⟩
    rcases List.mem_cons.1 hu with rfl | hu
    · exact t1
    · exact t2 u hu
theorem decSeat_inv {bs rest : List Int} {p g : Int} (hB : IsBytes bs) (h : decSeat bs = some ((p, g), rest)) : bs = bytesOf 1 (p + 1) ++ (bytesOf 2 g ++ rest) ∧ IsBytes rest := by
  unfold decSeat at h
  obtain ⟨⟨x, b1⟩, h1, h2⟩ := Option.bind_eq_some_iff.1 h
  clear h
  obtain ⟨⟨y, b2⟩, h3, h4⟩ := Option.bind_eq_some_iff.1 h2
  clear h2
  injection h4 with h4
  injection h4 with e1 e2
  injection e1 with e1 e3
  subst e1 e2 e3
  obtain ⟨rfl, x0, x1, B1⟩ := rdn_inv hB h1
  obtain ⟨rfl, y0, y1, B2⟩ := rdn_inv B1 h3
  dsimp only
  rw [show x - 1 + 1 = x by omega]
  exact ⟨rfl, B2⟩
theorem decSeats_inv : ∀ (n k : Nat) (q r : Ros.R) (bs rest : List Int), IsBytes bs → decSeats k n q bs = some (r, rest) →
    bs = seatsFrom r k n ++ rest ∧ r.version = q.version ∧ ∀ i, i < k ∨ k + n ≤ i → r.peer i = q.peer i ∧ r.gen i = q.gen i
  | 0, k, q, r, bs, rest, hB, h => by
    unfold decSeats at h
    injection h with h
    injection h with e1 e2
    subst e1 e2
    exact ⟨rfl, rfl, fun _ _ => ⟨rfl, rfl⟩⟩
  | n + 1, k, q, r, bs, rest, hB, h => by
    unfold decSeats at h
    obtain ⟨⟨⟨p, g⟩, b1⟩, h1, hq⟩ := Option.bind_eq_some_iff.1 h
    clear h
    obtain ⟨rfl, B1⟩ := decSeat_inv hB h1
    obtain ⟨h2, hv, h4⟩ := decSeats_inv n (k + 1) (setSeat q k p g) r b1 rest B1 hq
    have hk := h4 k (by omega)
    have e1 : (setSeat q k p g).peer k = p := Ros.upd_same _ _ _
    have e2 : (setSeat q k p g).gen k = g := Ros.upd_same _ _ _
    refine ⟨?_, hv, fun i a => ?_⟩
    · rw [h2]
      conv => rhs; unfold seatsFrom
      rw [hk.1, hk.2, e1, e2]
      simp only [List.append_assoc]
    · have e3 : (setSeat q k p g).peer i = q.peer i := Ros.upd_other _ _ (by omega)
      have e4 : (setSeat q k p g).gen i = q.gen i := Ros.upd_other _ _ (by omega)
      rw [(h4 i (by omega)).1, (h4 i (by omega)).2, e3, e4]
      exact ⟨rfl, rfl⟩
theorem dec_inv {bs rest : List Int} {g : Gm.G} {r : Ros.R} (hB : IsBytes bs) (h : dec bs = some ((g, r), rest)) : bs = put g r ++ rest ∧ Gm.ty g ∧ g.shots.length ≤ 255 := by
  unfold dec decRow at h
  obtain ⟨⟨f, b1⟩, h1, ha⟩ := Option.bind_eq_some_iff.1 h
  clear h
  obtain ⟨⟨d, b2⟩, h2, hb⟩ := Option.bind_eq_some_iff.1 ha
  clear ha
  obtain ⟨⟨s, b3⟩, h3, hc⟩ := Option.bind_eq_some_iff.1 hb
  clear hb
  obtain ⟨⟨l, b5⟩, h4, hd⟩ := Option.bind_eq_some_iff.1 hc
  clear hc
  obtain ⟨⟨n, b4⟩, h5, he⟩ := Option.bind_eq_some_iff.1 h4
  clear h4
  obtain ⟨⟨v, b6⟩, h6, hf⟩ := Option.bind_eq_some_iff.1 hd
  clear hd
  obtain ⟨⟨q, b7⟩, h7, hg⟩ := Option.bind_eq_some_iff.1 hf
  clear hf
  injection hg with hg
  injection hg with e1 e2
  injection e1 with e1 e3
  subst e1 e2 e3
  dsimp only at h2 h3 h5 he h6 h7 ⊢
  obtain ⟨rfl, x1, y1, B1⟩ := rdn_inv hB h1
  obtain ⟨rfl, x2, y2, B2⟩ := rdn_inv B1 h2
  obtain ⟨rfl, B3, t3, _⟩ := decShips_inv _ _ _ _ _ _ B2 h3
  obtain ⟨rfl, x5, y5, B5⟩ := rdn_inv B3 h5
  obtain ⟨l', hl0, hl, rfl, B6, t6⟩ := decShots_inv _ _ _ _ _ B5 he
  rw [List.nil_append] at hl0
  subst hl0
  obtain ⟨rfl, x7, y7, B7⟩ := rdn_inv B6 h6
  obtain ⟨rfl, hv, _⟩ := decSeats_inv _ _ _ _ _ _ B7 h7
  have hn : (l.length : Int) = n := by rw [hl, Int.toNat_of_nonneg x5]
  have hv : q.version = v := hv
  refine ⟨?_, ⟨?_, ?_, fun i hi => t3 i (by omega) (by omega), fun i hi => t6 _ (List.getElem_mem hi)⟩, ?_⟩
  · rw [put_from]
    dsimp only
    rw [hn, hv]
    simp only [List.append_assoc]
  · unfold Gm.i64; dsimp only; omega
  · dsimp only; omega
  · (try dsimp only); omega

theorem get_put {g : Gm.G} {r : Ros.R} (h : Ok g r) (hd : 0 ≤ g.dice ∧ g.dice ≤ 18446744073709551615) : ∃ g' r', get (put g r) = some (g', r') ∧ Like g r g' r' := by
  obtain ⟨g', r', h1, h2⟩ := dec_put h hd []
  rw [List.append_nil] at h1
  refine ⟨g', r', ?_, h2⟩
  unfold get
  rw [h1, Option.bind_some, if_pos ⟨rfl, h.like h2⟩]
theorem get_some {bs : List Int} {g : Gm.G} {r : Ros.R} (hB : IsBytes bs) (h : get bs = some (g, r)) : Ok g r ∧ Gm.ty g ∧ put g r = bs := by
  unfold get at h
  obtain ⟨⟨⟨g', r'⟩, e⟩, h1, h2⟩ := Option.bind_eq_some_iff.1 h
  split at h2
  · rename_i hq
    injection h2 with h2
    injection h2 with e1 e2
    subst e1 e2
    obtain ⟨h3, h4, _⟩ := dec_inv hB h1
    dsimp only at hq h3 h4 ⊢
    rw [hq.1, List.append_nil] at h3
    exact ⟨hq.2, h4, h3.symm⟩
  · cases h2
theorem get_app {g : Gm.G} {r : Ros.R} (h : Ok g r) (hd : 0 ≤ g.dice ∧ g.dice ≤ 18446744073709551615) {rest : List Int} (hr : rest ≠ []) : get (put g r ++ rest) = none := by
  obtain ⟨g', r', h1, h2⟩ := dec_put h hd rest
  unfold get
  rw [h1, Option.bind_some, if_neg (fun q => hr q.1)]
theorem ship_bytes (s : Gm.Ship) : IsBytes (ship s) := by
  unfold ship
  split
  · rw [flight_parts]
    refine (bytesOf_bytes _ _).app (IsBytes.app ?_ ((bytesOf_bytes _ _).app (bytesOf_bytes _ _)))
    intro x hx
    unfold parts' at hx
    obtain ⟨y, _, hy⟩ := List.mem_flatMap.1 hx
    exact bytesOf_bytes _ _ x hy
  · exact bytesOf_bytes _ _
theorem shot_bytes (s : Gm.Shot) : IsBytes (shot s) := by
  unfold shot
  rw [flight_parts]
  refine (bytesOf_bytes _ _).app (IsBytes.app ?_ (bytesOf_bytes _ _))
  intro x hx
  unfold parts' at hx
  obtain ⟨y, _, hy⟩ := List.mem_flatMap.1 hx
  exact bytesOf_bytes _ _ x hy
theorem ships_bytes (f : Nat → Gm.Ship) : ∀ k, IsBytes (ships f k)
  | 0 => IsBytes.nil
  | k + 1 => (ships_bytes f k).app (ship_bytes _)
theorem seats_bytes (r : Ros.R) : ∀ k, IsBytes (seats r k)
  | 0 => IsBytes.nil
  | k + 1 => (seats_bytes r k).app ((bytesOf_bytes _ _).app (bytesOf_bytes _ _))
theorem put_bytes (g : Gm.G) (r : Ros.R) : IsBytes (put g r) := by
  unfold put
  refine (bytesOf_bytes _ _).app ((bytesOf_bytes _ _).app ((ships_bytes _ _).app (IsBytes.app ((bytesOf_bytes _ _).app ?_) ((bytesOf_bytes _ _).app (seats_bytes _ _)))))
  intro x hx
  unfold shots at hx
  obtain ⟨s, _, hy⟩ := List.mem_flatMap.1 hx
  exact shot_bytes s x hy
theorem get_cut {g : Gm.G} {r : Ros.R} (h : Ok g r) (hd : 0 ≤ g.dice ∧ g.dice ≤ 18446744073709551615) {k : Nat} (hk : k < (put g r).length) : get ((put g r).take k) = none := by
  cases hg : get ((put g r).take k) with
  | none => rfl
  | some o =>
    obtain ⟨g1, r1⟩ := o
    obtain ⟨h1, h2, h3⟩ := get_some ((put_bytes g r).take k) hg
    have h4 := get_app h1 h2.2.1 (rest := (put g r).drop k) (fun q => by have := congrArg List.length q; simp at this; omega)
    rw [h3, List.take_append_drop] at h4
    obtain ⟨g', r', h5, _⟩ := get_put h hd
    rw [h4] at h5
    cases h5
end Im
end Go.Proofs.Ytghomofakpjglaa
namespace Rx
open Go
/-- What a call that throws may leave. -/
abbrev Thr := List PanicEntry → World → Prop

def isHard (o : Oper) : Bool := match o.op with | .store .. => true | _ => false
def isMake (o : Oper) : Bool := match o.op with | .buildSlice .. | .alloc .. => true | .call c => (match c.callee with | .builtin .append | .value _ => true | _ => false) | _ => false
def isStore (o : Oper) : Bool := isHard o || isMake o
/-- The world is looked at, and left as it is. -/
def isLook (o : Oper) : Bool := match o.op with | .load .. | .nilCheck .. => true | _ => false
/-- Nothing of the world is asked. -/
def isFree (o : Oper) : Bool := match o.op with | .fieldAddr .. | .indexAddr .. | .move .. | .assign .. | .pick .. | .extract .. | .binOp .. | .unOp .. | .build .. | .convert .. => true | _ => false

theorem store_free {o : Oper} (h : isStore o = true) : isFree o = false := by
  unfold isStore isHard isMake at h
  unfold isFree
  generalize o.op = x at h ⊢
  cases x <;> first | rfl | (exact absurd h (by decide)) | (simp at h)
theorem store_look {o : Oper} (h : isStore o = true) : isLook o = false := by
  unfold isStore isHard isMake at h
  unfold isLook
  generalize o.op = x at h ⊢
  cases x <;> first | rfl | (exact absurd h (by decide)) | (simp at h)

/-- What an operation leaves: the value v, a world of C. -/
def Gives (P : Program) (X : Thr) (o : Oper) (a : Act) (w : World) (v : Value) (C : World → Prop) : Prop :=
  match (execOp a.eval o).run P w with
  | .ok (.value u) w1 => u = v ∧ C w1
  | .ok .skip w1 => undef = v ∧ C w1
  | .ok (.enter f args) w1 => Calls P f args w1 fun e w2 => (e = .returned v ∧ C w2) ∨ ∃ ch, e = .panicked ch ∧ X ch w2
  | _ => False

theorem Gives.wp {P : Program} {X : Thr} {o : Oper} {a : Act} {w : World} {v : Value} {C : World → Prop} {K : Act → World → Prop} {Q : Exit → Act → World → Prop} (h : Gives P X o a w v C) (hX : ∀ ch w', X ch w' → Q (.panic ch) a w') (hK : ∀ w', C w' → K (a.put o.dst v) w') : o.wp P a w K Q := by
  unfold Gives at h
  unfold Oper.wp
  generalize (execOp a.eval o).run P w = r at *
  cases r with
  | ok n w1 =>
    cases n <;> simp only [Oper.upon] at h ⊢
    case value u => obtain ⟨rfl, h⟩ := h; exact hK _ h
    case skip => obtain ⟨rfl, h⟩ := h; exact hK _ h
    case enter f args =>
      refine h.mono fun e w2 hq => ?_
      rcases hq with ⟨he, hw⟩ | ⟨ch, he, hw⟩
      · subst he; exact hK _ hw
      · subst he; exact hX _ _ hw
  | halt x w1 => cases h
theorem Gives.congr {P : Program} {X : Thr} {o : Oper} {a a' : Act} {w : World} {v : Value} {C : World → Prop} (h : Gives P X o a w v C) (he : execOp a'.eval o = execOp a.eval o) : Gives P X o a' w v C := by
  unfold Gives at *; rw [he]; exact h

/-- The walk in the order of the text: C is what is known of the world, D what is known of it till the next store, E what is known all the time; n is how many have been; the looks of st ask E alone. -/
def wpLex (P : Program) (X : Thr) (st : List Nat) (E : World → Prop) (Q : Act → (World → Prop) → Prop) : List Oper → Nat → Act → (World → Prop) → (World → Prop) → Prop
  | [], _, a, C, _ => Q a C
  | o :: rest, n, a, C, D =>
    if isStore o then ∃ v C' D', (∀ w, C w → Gives P X o a w v C') ∧ (isHard o = false → D' = D) ∧ (∀ w, C' w → D' w ∧ E w) ∧ wpLex P X st E Q rest (n + 1) (a.put o.dst v) C' D'
    else if isFree o then ∃ v, (∀ w, Gives P X o a w v (fun w' => w' = w)) ∧ wpLex P X st E Q rest (n + 1) (a.put o.dst v) C D
    else if isLook o then ∃ v, (∀ w, (if st.contains n then E w else D w) → Gives P X o a w v (fun w' => w' = w)) ∧ wpLex P X st E Q rest (n + 1) (a.put o.dst v) C D
    else ∃ v, (∀ w, C w → Gives P X o a w v C) ∧ wpLex P X st E Q rest (n + 1) (a.put o.dst v) C D

/-- A run in the order of the text, written out. -/
structure Run (P : Program) (X : Thr) (st : Nat → Bool) (E : World → Prop) (l : List Oper) (A : Nat → Act) (C D : Nat → World → Prop) (v : Nat → Value) : Prop where
  act : ∀ i o, l[i]? = some o → A (i + 1) = (A i).put o.dst (v i)
  store : ∀ i o, l[i]? = some o → isStore o = true → ∀ w, C i w → Gives P X o (A i) w (v i) (C (i + 1))
  free : ∀ i o, l[i]? = some o → isStore o = false → isFree o = true → C (i + 1) = C i ∧ ∀ w, Gives P X o (A i) w (v i) (fun w' => w' = w)
  look : ∀ i o, l[i]? = some o → isStore o = false → isFree o = false → isLook o = true → C (i + 1) = C i ∧ ∀ w, (if st i then E w else D i w) → Gives P X o (A i) w (v i) (fun w' => w' = w)
  read : ∀ i o, l[i]? = some o → isStore o = false → isFree o = false → isLook o = false → C (i + 1) = C i ∧ ∀ w, C i w → Gives P X o (A i) w (v i) (C i)
  soft : ∀ i o, l[i]? = some o → isHard o = false → D (i + 1) = D i
  held : ∀ i, i ≤ l.length → ∀ w, C i w → D i w ∧ E w

def consF {α : Type} (x : α) (f : Nat → α) : Nat → α
  | 0 => x
  | i + 1 => f i
theorem Run.cons {P : Program} {X : Thr} {st : Nat → Bool} {E : World → Prop} {l : List Oper} {o : Oper} {a : Act} {C D C1 D1 : World → Prop} {u : Value} {A : Nat → Act} {Cs Ds : Nat → World → Prop} {v : Nat → Value} (hr : Run P X (fun i => st (i + 1)) E l A Cs Ds v) (hA : A 0 = a.put o.dst u) (hC : Cs 0 = C1) (hD : Ds 0 = D1) (hCD : ∀ w, C w → D w ∧ E w)
    (h1 : isStore o = true → ∀ w, C w → Gives P X o a w u C1) (h2 : isStore o = false → isFree o = true → C1 = C ∧ ∀ w, Gives P X o a w u (fun w' => w' = w)) (h3 : isStore o = false → isFree o = false → isLook o = true → C1 = C ∧ ∀ w, (if st 0 then E w else D w) → Gives P X o a w u (fun w' => w' = w))
    (h4 : isStore o = false → isFree o = false → isLook o = false → C1 = C ∧ ∀ w, C w → Gives P X o a w u C) (h5 : isHard o = false → D1 = D) : Run P X st E (o :: l) (consF a A) (consF C Cs) (consF D Ds) (consF u v) := by
  refine ⟨?_, ?_, ?_, ?_, ?_, ?_, ?_⟩
  · intro i o' ho'
    cases i with
    | zero => simp at ho'; subst ho'; exact hA
    | succ i => exact hr.act i o' (by simpa using ho')
  · intro i o' ho'
    cases i with
    | zero => simp at ho'; subst ho'; intro hs w hw; show Gives P X o a w u (Cs 0); rw [hC]; exact h1 hs w hw
    | succ i => exact hr.store i o' (by simpa using ho')
  · intro i o' ho'
    cases i with
    | zero => simp at ho'; subst ho'; intro hs hf; exact ⟨hC.trans (h2 hs hf).1, (h2 hs hf).2⟩
    | succ i => exact hr.free i o' (by simpa using ho')
  · intro i o' ho'
    cases i with
    | zero => simp at ho'; subst ho'; intro hs hf hl; exact ⟨hC.trans (h3 hs hf hl).1, (h3 hs hf hl).2⟩
    | succ i => exact hr.look i o' (by simpa using ho')
  · intro i o' ho'
    cases i with
    | zero => simp at ho'; subst ho'; intro hs hf hl; exact ⟨hC.trans (h4 hs hf hl).1, (h4 hs hf hl).2⟩
    | succ i => exact hr.read i o' (by simpa using ho')
  · intro i o' ho'
    cases i with
    | zero => simp at ho'; subst ho'; intro hh; exact hD.trans (h5 hh)
    | succ i => exact hr.soft i o' (by simpa using ho')
  · intro i hi
    cases i with
    | zero => exact hCD
    | succ i => exact hr.held i (by simpa using hi)
theorem run_of_lex {P : Program} {X : Thr} {st : List Nat} {E : World → Prop} {Q : Act → (World → Prop) → Prop} : ∀ (l : List Oper) (n : Nat) (a : Act) (C D : World → Prop), (∀ w, C w → D w ∧ E w) → wpLex P X st E Q l n a C D →
    ∃ A Cs Ds v, Run P X (fun i => st.contains (n + i)) E l A Cs Ds v ∧ A 0 = a ∧ Cs 0 = C ∧ Ds 0 = D ∧ Q (A l.length) (Cs l.length)
  | [], n, a, C, D, hCD, h => ⟨fun _ => a, fun _ => C, fun _ => D, fun _ => undef, ⟨fun i o h => by simp at h, fun i o h => by simp at h, fun i o h => by simp at h, fun i o h => by simp at h, fun i o h => by simp at h, fun i o h => by simp at h, fun i _ w hw => hCD w hw⟩, rfl, rfl, rfl, h⟩
  | o :: l, n, a, C, D, hCD, h => by
    unfold wpLex at h
    have shift : (fun i => st.contains (n + 1 + i)) = fun i => (fun j => st.contains (n + j)) (i + 1) := funext fun i => by
      show st.contains (n + 1 + i) = st.contains (n + (i + 1)); rw [show n + 1 + i = n + (i + 1) by omega]
    by_cases hs : isStore o = true
    · rw [if_pos hs] at h
      obtain ⟨u, C', D', h1, hd, hcd, h2⟩ := h
      obtain ⟨A, Cs, Ds, v, hr, hA, hC, hD, hQ⟩ := run_of_lex l (n + 1) _ C' D' hcd h2
      rw [shift] at hr
      exact ⟨_, _, _, _, Run.cons (st := fun j => st.contains (n + j)) hr hA hC hD hCD (fun _ => h1) (fun e => by rw [hs] at e; cases e) (fun e => by rw [hs] at e; cases e) (fun e => by rw [hs] at e; cases e) hd, rfl, rfl, rfl, hQ⟩
    · have hs0 : isStore o = false := by simpa using hs
      have hh0 : isHard o = false := by simp [isStore] at hs0; exact hs0.1
      rw [if_neg hs] at h
      by_cases hf : isFree o = true
      · rw [if_pos hf] at h
        obtain ⟨u, h1, h2⟩ := h
        obtain ⟨A, Cs, Ds, v, hr, hA, hC, hD, hQ⟩ := run_of_lex l (n + 1) _ C D hCD h2
        rw [shift] at hr
        exact ⟨_, _, _, _, Run.cons (st := fun j => st.contains (n + j)) hr hA hC hD hCD (fun e => absurd e hs) (fun _ _ => ⟨rfl, h1⟩) (fun _ e => by rw [hf] at e; cases e) (fun _ e => by rw [hf] at e; cases e) (fun _ => rfl), rfl, rfl, rfl, hQ⟩
      · rw [if_neg hf] at h
        by_cases hl : isLook o = true
        · rw [if_pos hl] at h
          obtain ⟨u, h1, h2⟩ := h
          obtain ⟨A, Cs, Ds, v, hr, hA, hC, hD, hQ⟩ := run_of_lex l (n + 1) _ C D hCD h2
          rw [shift] at hr
          exact ⟨_, _, _, _, Run.cons (st := fun j => st.contains (n + j)) hr hA hC hD hCD (fun e => absurd e hs) (fun _ e => absurd e hf) (fun _ _ _ => ⟨rfl, h1⟩) (fun _ _ e => by rw [hl] at e; cases e) (fun _ => rfl), rfl, rfl, rfl, hQ⟩
        · rw [if_neg hl] at h
          obtain ⟨u, h1, h2⟩ := h
          obtain ⟨A, Cs, Ds, v, hr, hA, hC, hD, hQ⟩ := run_of_lex l (n + 1) _ C D hCD h2
          rw [shift] at hr
          exact ⟨_, _, _, _, Run.cons (st := fun j => st.contains (n + j)) hr hA hC hD hCD (fun e => absurd e hs) (fun _ e => absurd e hf) (fun _ _ e => absurd e hl) (fun _ _ _ => ⟨rfl, h1⟩) (fun _ => rfl), rfl, rfl, rfl, hQ⟩

section
variable {l : List Oper} {v : Nat → Value} {a0 : Act}
structure Shape (l : List Oper) (v : Nat → Value) (a0 : Act) (S : Nat → Bool) (a : Act) : Prop where
  size : a.tmps.size = a0.tmps.size
  defers : a.defers = a0.defers
  done : ∀ j o t, l[j]? = some o → o.dst = some t → S j = true → a.tmps[t]? = if t < a0.tmps.size then some (v j) else none
  rest : ∀ t, (∀ j o, l[j]? = some o → o.dst = some t → S j = false) → a.tmps[t]? = a0.tmps[t]?

def Distinct (l : List Oper) : Prop := ∀ (i j : Nat) (oi oj : Oper) (t : Tmp), l[i]? = some oi → l[j]? = some oj → oi.dst = some t → oj.dst = some t → i = j

theorem Shape.start : Shape l v a0 (fun _ => false) a0 := ⟨rfl, rfl, fun _ _ _ _ _ h => (by cases h), fun _ _ => rfl⟩
theorem Shape.put {S : Nat → Bool} {a : Act} (hd : Distinct l) (h : Shape l v a0 S a) {i : Nat} {o : Oper} (ho : l[i]? = some o) : Shape l v a0 (fun j => S j || j == i) (a.put o.dst (v i)) := by
  cases hdst : o.dst with
  | none =>
    refine ⟨h.size, h.defers, fun j oj t hj ht hS => ?_, fun t ht => ?_⟩
    · simp only [Bool.or_eq_true, beq_iff_eq] at hS
      rcases hS with hS | rfl
      · exact h.done j oj t hj ht hS
      · rw [ho] at hj; injection hj with hj; subst hj; rw [hdst] at ht; cases ht
    · exact h.rest t fun j oj hj ht' => by have := ht j oj hj ht'; simp at this; exact this.1
  | some d =>
    refine ⟨by simp [Act.put, h.size], h.defers, fun j oj t hj ht hS => ?_, fun t ht => ?_⟩
    · simp only [Act.put, Array.getElem?_setIfInBounds]
      by_cases htd : d = t
      · subst htd
        have : j = i := hd j i oj o d hj ho ht hdst
        subst this
        rw [if_pos rfl, h.size]
      · rw [if_neg htd]
        simp only [Bool.or_eq_true, beq_iff_eq] at hS
        rcases hS with hS | rfl
        · exact h.done j oj t hj ht hS
        · rw [ho] at hj; injection hj with hj; subst hj; rw [hdst] at ht; injection ht with ht; exact absurd ht htd
    · have hne : d ≠ t := fun e => by subst e; have := ht i o ho hdst; simp at this
      simp only [Act.put, Array.getElem?_setIfInBounds, if_neg hne]
      exact h.rest t fun j oj hj ht' => by have := ht j oj hj ht'; simp at this; exact this.1
theorem Shape.same {S S' : Nat → Bool} {a a' : Act} (h : Shape l v a0 S a) (h' : Shape l v a0 S' a') {t : Nat} (hS : ∀ j o, l[j]? = some o → o.dst = some t → S j = S' j) : a.tmps[t]? = a'.tmps[t]? := by
  by_cases hx : ∃ j o, l[j]? = some o ∧ o.dst = some t ∧ S j = true
  · obtain ⟨j, o, hj, ht, hs⟩ := hx
    rw [h.done j o t hj ht hs, h'.done j o t hj ht (by rw [← hS j o hj ht]; exact hs)]
  · have hn : ∀ j o, l[j]? = some o → o.dst = some t → S j = false := fun j o hj ht => by
      cases hs : S j
      · rfl
      · exact absurd ⟨j, o, hj, ht, hs⟩ hx
    rw [h.rest t hn, h'.rest t fun j o hj ht => by rw [← hS j o hj ht]; exact hn j o hj ht]
theorem Shape.ext {S S' : Nat → Bool} {a a' : Act} (h : Shape l v a0 S a) (h' : Shape l v a0 S' a') (hS : ∀ j o, l[j]? = some o → S j = S' j) : a = a' := by
  have ht : a.tmps = a'.tmps := Array.ext_getElem? fun t => h.same h' fun j o hj _ => hS j o hj
  have hd : a.defers = a'.defers := h.defers.trans h'.defers.symm
  cases a; cases a'; simp_all
theorem Shape.congr {S S' : Nat → Bool} {a : Act} (h : Shape l v a0 S a) (hS : ∀ j o, l[j]? = some o → S j = S' j) : Shape l v a0 S' a :=
  ⟨h.size, h.defers, fun j o t hj ht hs => h.done j o t hj ht (by rw [hS j o hj]; exact hs), fun t ht => h.rest t fun j o hj hd => by rw [hS j o hj]; exact ht j o hj hd⟩
theorem Run.shape {P : Program} {X : Thr} {st : Nat → Bool} {E : World → Prop} {A : Nat → Act} {C D : Nat → World → Prop} (hr : Run P X st E l A C D v) (hd : Distinct l) : ∀ k, k ≤ l.length → Shape l v (A 0) (fun j => decide (j < k)) (A k)
  | 0, _ => Shape.start.congr fun j o _ => by simp
  | k + 1, hk => by
    have ho : l[k]? = some (l[k]'(by omega)) := List.getElem?_eq_getElem (by omega)
    rw [hr.act k _ ho]
    refine ((Run.shape hr hd k (by omega)).put hd ho).congr fun j o _ => ?_
    rw [Bool.eq_iff_iff]; simp; omega
end

/-- Does i wait for j? As the table says. -/
def tb (b : Array Nat) (i j : Nat) : Bool := (b.getD i 0).testBit j
def pairB (st : List Nat) (l : List Oper) (b : Array Nat) (i j : Nat) : Bool :=
  match l[i]?, l[j]? with
  | some oi, some oj =>
    (!(tb b i j) || oi.after.any fun e => Region.binds .any e && (e.on == j || tb b e.on j)) &&
    (i == j || ((match oi.dst, oj.dst with | some d, some d' => d != d' | _, _ => true) &&
      (match oj.dst with | some d => !(oi.looksAt l.toArray).contains d || (if j < i then tb b i j else tb b j i) | none => true) &&
      (!isStore oj || isFree oi || (isLook oi && (!isHard oj || st.contains i)) || (if j < i then tb b i j else tb b j i))))
  | _, _ => true
def oneB (l : List Oper) (i : Nat) : Bool :=
  match l[i]? with
  | some o => o.guard.isNone && !(isStore o && isFree o) && o.after.all fun e => !Region.binds .any e || decide (e.on < i)
  | none => true
def okB (st : List Nat) (l : List Oper) : Bool :=
  Region.noSelect l.toArray && ((List.range l.length).all fun i => oneB l i && (List.range l.length).all fun j => pairB st l (Region.before l.toArray) i j)

structure Ok (st : List Nat) (l : List Oper) (cl : Nat → Nat → Bool) : Prop where
  sel : Region.noSelect l.toArray = true
  guard : ∀ (i : Nat) (o : Oper), l[i]? = some o → o.guard = none
  down : ∀ (i : Nat) (o : Oper), l[i]? = some o → ∀ e ∈ o.after, Region.binds .any e = true → e.on < i
  cert : ∀ (i j : Nat) (o oj : Oper), l[i]? = some o → l[j]? = some oj → cl i j = true → ∃ e ∈ o.after, Region.binds .any e = true ∧ (e.on = j ∨ cl e.on j = true)
  dist : Distinct l
  looks : ∀ (i j : Nat) (oi oj : Oper) (t : Tmp), l[i]? = some oi → l[j]? = some oj → i ≠ j → oj.dst = some t → t ∈ oi.looksAt l.toArray → (if j < i then cl i j else cl j i) = true
  store : ∀ (i j : Nat) (oi oj : Oper), l[i]? = some oi → l[j]? = some oj → i ≠ j → isStore oj = true → isFree oi = false → (isLook oi && (!isHard oj || st.contains i)) = false → (if j < i then cl i j else cl j i) = true
theorem Ok.of (st : List Nat) (l : List Oper) (h : okB st l = true) : Ok st l (tb (Region.before l.toArray)) := by
  simp only [okB, Bool.and_eq_true] at h
  obtain ⟨h0, h⟩ := h
  have h1 : ∀ i o, l[i]? = some o → oneB l i = true ∧ ∀ j oj, l[j]? = some oj → pairB st l (Region.before l.toArray) i j = true := fun i o ho => by
    have hi : i < l.length := (List.getElem?_eq_some_iff.1 ho).1
    have := List.all_eq_true.1 h i (List.mem_range.2 hi)
    simp only [Bool.and_eq_true] at this
    exact ⟨this.1, fun j oj hj => List.all_eq_true.1 this.2 j (List.mem_range.2 (List.getElem?_eq_some_iff.1 hj).1)⟩
  have one : ∀ i o, l[i]? = some o → (o.guard.isNone = true ∧ (!(isStore o && isFree o)) = true) ∧ (o.after.all fun e => !Region.binds .any e || decide (e.on < i)) = true := fun i o ho => by
    have := (h1 i o ho).1
    simp only [oneB, ho, Bool.and_eq_true] at this
    exact this
  have two : ∀ i j oi oj, l[i]? = some oi → l[j]? = some oj →
      (!(tb (Region.before l.toArray) i j) || oi.after.any fun e => Region.binds .any e && (e.on == j || tb (Region.before l.toArray) e.on j)) = true ∧
      (i == j || ((match oi.dst, oj.dst with | some d, some d' => d != d' | _, _ => true) &&
      (match oj.dst with | some d => !(oi.looksAt l.toArray).contains d || (if j < i then tb (Region.before l.toArray) i j else tb (Region.before l.toArray) j i) | none => true) &&
      (!isStore oj || isFree oi || (isLook oi && (!isHard oj || st.contains i)) || (if j < i then tb (Region.before l.toArray) i j else tb (Region.before l.toArray) j i)))) = true := fun i j oi oj hi hj => by
    have := (h1 i oi hi).2 j oj hj
    simp only [pairB, hi, hj, Bool.and_eq_true] at this
    exact this
  refine ⟨h0, fun i o ho => by simpa using (one i o ho).1.1, fun i o ho e he hb => ?_, fun i j o oj hi hj hc => ?_, fun i j oi oj t hi hj hdi hdj => ?_, fun i j oi oj t hi hj hne hdj ht => ?_, fun i j oi oj hi hj hne hs hf hlk => ?_⟩
  · have := (Array.all_eq_true_iff_forall_mem.1 (one i o ho).2) e he
    simpa [hb] using this
  · have := (two i j o oj hi hj).1
    rw [hc] at this
    simp at this
    obtain ⟨k, hk, h1, h2⟩ := this
    exact ⟨o.after[k], Array.getElem_mem hk, h1, h2⟩
  · by_cases hij : i = j
    · exact hij
    · have := (two i j oi oj hi hj).2
      simp [hij, hdi, hdj] at this
  · have := (two i j oi oj hi hj).2
    simp only [Bool.or_eq_true, beq_iff_eq, Bool.and_eq_true, hne, false_or, hdj] at this
    have h2 := this.1.2
    rcases h2 with h2 | h2
    · simp at h2; exact absurd ht h2
    · exact h2
  · have := (two i j oi oj hi hj).2
    simp only [Bool.or_eq_true, beq_iff_eq, Bool.and_eq_true, hne, false_or] at this
    rcases this.2 with ((h2 | h2) | h2) | h2
    · simp [hs] at h2
    · rw [hf] at h2; cases h2
    · simp only [h2.1, Bool.true_and] at hlk; have h3' := h2.2; simp only [Bool.or_eq_false_iff] at hlk; rcases h3' with h3 | h3
      · rw [hlk.1] at h3; cases h3
      · rw [hlk.2] at h3; cases h3
    · exact h2

/-- How many have not been. -/
def unl (f : Nat → Bool) : Nat → Nat
  | 0 => 0
  | k + 1 => unl f k + (if f k then 0 else 1)
theorem unl_le (f : Nat → Bool) : ∀ n, unl f n ≤ n
  | 0 => Nat.le_refl _
  | n + 1 => by have := unl_le f n; unfold unl; split <;> omega
theorem unl_zero {f : Nat → Bool} : ∀ {n}, unl f n = 0 → ∀ i, i < n → f i = true
  | 0, _, i, h => absurd h (by omega)
  | n + 1, h, i, hi => by
    unfold unl at h
    by_cases hfn : f n = true
    · rw [if_pos hfn] at h
      by_cases hin : i = n
      · rw [hin]; exact hfn
      · exact unl_zero (n := n) (by omega) i (by omega)
    · rw [if_neg hfn] at h; omega
theorem unl_congr {f g : Nat → Bool} : ∀ {n}, (∀ i, i < n → f i = g i) → unl f n = unl g n
  | 0, _ => rfl
  | n + 1, h => by unfold unl; rw [unl_congr (n := n) fun i hi => h i (by omega), h n (by omega)]
theorem unl_set {f g : Nat → Bool} {i : Nat} (h0 : f i = false) (h1 : g i = true) (ho : ∀ j, j ≠ i → g j = f j) : ∀ {n}, i < n → unl g n + 1 = unl f n
  | 0, h => absurd h (by omega)
  | n + 1, h => by
    unfold unl
    by_cases hin : i = n
    · subst hin
      rw [unl_congr (n := i) fun j hj => ho j (by omega), h0, h1]; simp
    · have := unl_set h0 h1 ho (n := n) (by omega)
      rw [ho n (by omega)]; omega

structure Inv (l : List Oper) (v : Nat → Value) (a0 : Act) (C : Nat → World → Prop) (listed : Array Bool) (a : Act) (w : World) : Prop where
  size : listed.size = l.length
  closed : ∀ (i : Nat) (o : Oper), l[i]? = some o → listed.getD i false = true → ∀ e ∈ o.after, Region.binds .any e = true → listed.getD e.on false = true
  shape : Shape l v a0 (fun j => listed.getD j false) a
  world : ∀ i, i ≤ l.length → (∀ (j : Nat) (o : Oper), l[j]? = some o → isStore o = true → listed.getD j false = decide (j < i)) → C i w

section
variable {P : Program} {X : Thr} {st : List Nat} {E : World → Prop} {l : List Oper} {A : Nat → Act} {C D : Nat → World → Prop} {v : Nat → Value} {cl : Nat → Nat → Bool} {listed : Array Bool} {a : Act} {w : World}
theorem Inv.down (ok : Ok st l cl) (h : Inv l v (A 0) C listed a w) : ∀ (n i j : Nat), i < n → (∃ o, l[i]? = some o) → (∃ o, l[j]? = some o) → cl i j = true → listed.getD i false = true → listed.getD j false = true
  | 0, _, _, hi, _, _, _, _ => absurd hi (by omega)
  | n + 1, i, j, hi, ⟨o, ho⟩, ⟨oj, hj⟩, hc, hl => by
    obtain ⟨e, he, hb, h'⟩ := ok.cert i j o oj ho hj hc
    have h1 := h.closed i o ho hl e he hb
    rcases h' with rfl | h'
    · exact h1
    · have hd := ok.down i o ho e he hb
      have hlt : i < l.length := (List.getElem?_eq_some_iff.1 ho).1
      exact Inv.down ok h n e.on j (by omega) ⟨_, List.getElem?_eq_getElem (show e.on < l.length by omega)⟩ ⟨oj, hj⟩ h' h1
/-- What stands between stores is one class. -/
theorem Run.between (hr : Run P X (fun i => st.contains i) E l A C D v) {i : Nat} : ∀ (d k : Nat), k = i + d → k ≤ l.length → (∀ (j : Nat) (o : Oper), l[j]? = some o → isStore o = true → i ≤ j → j < k → False) → C k = C i
  | 0, k, hk, _, _ => by rw [hk]; rfl
  | d + 1, k, hk, hl, hn => by
    have ih := Run.between hr d (k - 1) (by omega) (by omega) (fun j o hj hs h1 h2 => hn j o hj hs h1 (by omega))
    have ho : l[k - 1]? = some (l[k - 1]'(by omega)) := List.getElem?_eq_getElem (by omega)
    have hs : isStore (l[k - 1]'(by omega)) = false := by
      cases h : isStore (l[k - 1]'(by omega))
      · rfl
      · exact (hn _ _ ho h (by omega) (by omega)).elim
    have e : k - 1 + 1 = k := by omega
    cases hf : isFree (l[k - 1]'(by omega))
    · cases hl : isLook (l[k - 1]'(by omega))
      · have := (hr.read _ _ ho hs hf hl).1; rw [e] at this; rw [this, ih]
      · have := (hr.look _ _ ho hs hf hl).1; rw [e] at this; rw [this, ih]
    · have := (hr.free _ _ ho hs hf).1; rw [e] at this; rw [this, ih]
theorem Run.one (hr : Run P X (fun i => st.contains i) E l A C D v) {f : Nat → Bool} {i k : Nat} (hi : i ≤ l.length) (hk : k ≤ l.length) (h1 : ∀ (j : Nat) (o : Oper), l[j]? = some o → isStore o = true → f j = decide (j < i)) (h2 : ∀ (j : Nat) (o : Oper), l[j]? = some o → isStore o = true → f j = decide (j < k)) : C k = C i := by
  rcases Nat.le_total i k with h | h
  · exact hr.between (k - i) k (by omega) hk fun j o hj hs ha hb => by
      have e1 := h1 j o hj hs; have e2 := h2 j o hj hs
      rw [e1] at e2; simp at e2; omega
  · exact (hr.between (i - k) i (by omega) hi fun j o hj hs ha hb => by
      have e1 := h1 j o hj hs; have e2 := h2 j o hj hs
      rw [e1] at e2; simp at e2; omega).symm

theorem Run.steady (hr : Run P X (fun i => st.contains i) E l A C D v) {i : Nat} : ∀ (d k : Nat), k = i + d → k ≤ l.length → (∀ (j : Nat) (o : Oper), l[j]? = some o → isHard o = true → i ≤ j → j < k → False) → D k = D i
  | 0, k, hk, _, _ => by rw [hk]; rfl
  | d + 1, k, hk, hl, hn => by
    have ih := Run.steady hr d (k - 1) (by omega) (by omega) (fun j o hj hs h1 h2 => hn j o hj hs h1 (by omega))
    have ho : l[k - 1]? = some (l[k - 1]'(by omega)) := List.getElem?_eq_getElem (by omega)
    have hs : isHard (l[k - 1]'(by omega)) = false := by
      cases h : isHard (l[k - 1]'(by omega))
      · rfl
      · exact (hn _ _ ho h (by omega) (by omega)).elim
    have e : k - 1 + 1 = k := by omega
    have := hr.soft _ _ ho hs; rw [e] at this; rw [this, ih]
/-- Of the acts the first so many have been. -/
theorem Inv.where_ (ok : Ok st l cl) (h : Inv l v (A 0) C listed a w) : ∃ k, k ≤ l.length ∧ ∀ (j : Nat) (o : Oper), l[j]? = some o → isStore o = true → listed.getD j false = decide (j < k) := by
  have key : ∀ n, n ≤ l.length → (∀ (j : Nat) (o : Oper), l[j]? = some o → isStore o = true → j < n → listed.getD j false = true) ∨ ∃ k, k < n ∧ ∃ o, l[k]? = some o ∧ isStore o = true ∧ listed.getD k false = false ∧ ∀ (j : Nat) (o : Oper), l[j]? = some o → isStore o = true → j < k → listed.getD j false = true := by
    intro n
    induction n with
    | zero => intro _; exact .inl fun j o _ _ hj => absurd hj (by omega)
    | succ n ih =>
      intro hn
      rcases ih (by omega) with h1 | ⟨k, hk, h1⟩
      · have ho : l[n]? = some (l[n]'(by omega)) := List.getElem?_eq_getElem (by omega)
        by_cases hs : isStore (l[n]'(by omega)) = true
        · cases hl : listed.getD n false
          · exact .inr ⟨n, by omega, _, ho, hs, hl, h1⟩
          · refine .inl fun j o hj hso hjn => ?_
            by_cases e : j = n
            · subst e; exact hl
            · exact h1 j o hj hso (by omega)
        · refine .inl fun j o hj hso hjn => ?_
          by_cases e : j = n
          · subst e; rw [ho] at hj; injection hj with hj; subst hj; exact absurd hso hs
          · exact h1 j o hj hso (by omega)
      · exact .inr ⟨k, by omega, h1⟩
  rcases key l.length (Nat.le_refl _) with h1 | ⟨k, hk, o, ho, hs, hl, h1⟩
  · refine ⟨l.length, Nat.le_refl _, fun j o hj hso => ?_⟩
    have := (List.getElem?_eq_some_iff.1 hj).1
    rw [h1 j o hj hso this]; simp [this]
  · refine ⟨k, by omega, fun j oj hj hsj => ?_⟩
    by_cases hjk : j < k
    · rw [h1 j oj hj hsj hjk]; simp [hjk]
    · by_cases e : j = k
      · subst e; rw [hl]; simp
      · have hf : isFree o = false := store_free hs
        have hlk : isLook o = false := store_look hs
        have hc := ok.store k j o oj ho hj (fun e' => e e'.symm) hsj hf (by simp [hlk])
        rw [if_neg (by omega)] at hc
        cases hlj : listed.getD j false
        · simp [hjk]
        · have := h.down ok l.length j k (List.getElem?_eq_some_iff.1 hj).1 ⟨oj, hj⟩ ⟨o, ho⟩ hc hlj
          rw [hl] at this; cases this
theorem Inv.step (hr : Run P X (fun i => st.contains i) E l A C D v) (ok : Ok st l cl) (h : Inv l v (A 0) C listed a w) {Q : Exit → Act → World → Prop} (hX : ∀ a', a'.defers = (A 0).defers → (∀ t, (∀ o ∈ l, o.dst ≠ some t) → a'.tmps[t]? = (A 0).tmps[t]?) → ∀ ch w', X ch w' → Q (.panic ch) a' w') {i : Nat} (hi : i ∈ Region.ready .any l.toArray listed) :
    wpOp P l.toArray Q i (fun a' w' => Inv l v (A 0) C (listed.setIfInBounds i true) a' w') a w := by
  obtain ⟨hun, o, ho', hdeps⟩ := mem_ready.1 hi
  have ho : l[i]? = some o := by simpa using ho'
  have hil : i < l.length := (List.getElem?_eq_some_iff.1 ho).1
  have his : i < listed.size := by rw [h.size]; exact hil
  have hun' : listed.getD i false = false := by simp [his] at hun ⊢; exact hun
  -- who is waited for has been; who waits has not
  have before : ∀ j oj, l[j]? = some oj → cl i j = true → listed.getD j false = true := fun j oj hj hc => by
    obtain ⟨e, he, hb, h'⟩ := ok.cert i j o oj ho hj hc
    have h1 := hdeps e he hb
    rcases h' with rfl | h'
    · exact h1
    · have hd := ok.down i o ho e he hb
      exact h.down ok l.length e.on j (by omega) ⟨_, List.getElem?_eq_getElem (show e.on < l.length by omega)⟩ ⟨oj, hj⟩ h' h1
  have behind : ∀ j oj, l[j]? = some oj → cl j i = true → listed.getD j false = false := fun j oj hj hc => by
    cases hl : listed.getD j false
    · rfl
    · have hjl : j < l.length := (List.getElem?_eq_some_iff.1 hj).1
      have := h.down ok l.length j i hjl ⟨oj, hj⟩ ⟨o, ho⟩ hc hl
      rw [hun'] at this; cases this
  have exec : execOp a.eval o = execOp (A i).eval o := execOp_congr o (fun cs b => Region.noSelect_spec ok.sel i o cs b ho') fun x hx => by
    cases x with
    | tmp t =>
      have ht : t ∈ o.looksAt l.toArray := List.mem_append_left _ (List.mem_filterMap.2 ⟨.tmp t, by simpa using hx, rfl⟩)
      have e := h.shape.same (hr.shape ok.dist i (by omega)) (t := t) fun j oj hj hd => by
        by_cases hji : j = i
        · subst hji; rw [hun']; simp
        · have hc := ok.looks i j o oj t ho hj (fun e => hji e.symm) hd ht
          by_cases hlt : j < i
          · rw [if_pos hlt] at hc; rw [before j oj hj hc]; simp [hlt]
          · rw [if_neg hlt] at hc; rw [behind j oj hj hc]; simp [hlt]
      simp only [Act.eval, Array.getD_eq_getD_getElem?, e]
    | const => rfl
    | global => rfl
    | func => rfl
  have hg := ok.guard i o ho
  have getset : ∀ j, (listed.setIfInBounds i true).getD j false = (listed.getD j false || j == i) := fun j => by
    by_cases hji : j = i
    · subst hji; simp [his]
    · rw [getD_set_ne false (fun e => hji e.symm)]; simp [hji]
  -- what is left of the invariant, whatever comes of the world
  have next : ∀ w', (∀ k, k ≤ l.length → (∀ (j : Nat) (oj : Oper), l[j]? = some oj → isStore oj = true → (listed.getD j false || j == i) = decide (j < k)) → C k w') → Inv l v (A 0) C (listed.setIfInBounds i true) (a.put o.dst (v i)) w' := fun w' hw => by
    refine ⟨by simp [h.size], fun j oj hj hl e he hb => ?_, (h.shape.put ok.dist ho).congr fun j oj hj => (getset j).symm, fun k hk hst => hw k hk fun j oj hj hs => by rw [← getset j]; exact hst j oj hj hs⟩
    rw [getset] at hl ⊢
    simp only [Bool.or_eq_true, beq_iff_eq] at hl ⊢
    rcases hl with hl | rfl
    · exact .inl (h.closed j oj hj hl e he hb)
    · rw [ho] at hj; injection hj with hj; subst hj; exact .inl (hdeps e he hb)
  unfold wpOp
  simp only [ho', Region.wanted, hg, if_true]
  refine .inl ?_
  cases hs : isStore o
  · cases hf : isFree o
    · cases hl : isLook o
      · -- a call
        have here : ∀ (j : Nat) (oj : Oper), l[j]? = some oj → isStore oj = true → listed.getD j false = decide (j < i) := fun j oj hj hsj => by
          have hji : j ≠ i := fun e => by subst e; rw [ho] at hj; injection hj with hj; subst hj; rw [hs] at hsj; cases hsj
          have hc := ok.store i j o oj ho hj (fun e => hji e.symm) hsj hf (by simp [hl])
          by_cases hlt : j < i
          · rw [if_pos hlt] at hc; rw [before j oj hj hc]; simp [hlt]
          · rw [if_neg hlt] at hc; rw [behind j oj hj hc]; simp [hlt]
        have hw := h.world i (by omega) here
        refine (((hr.read i o ho hs hf hl).2 w hw).congr exec).wp (fun ch w' hq => hX _ h.shape.defers (fun t ht => h.shape.rest t fun j o hj hd => absurd hd (ht o (List.mem_of_getElem? hj))) ch w' hq) fun w' hw' => next w' fun k hk hst => ?_
        have hst' : ∀ (j : Nat) (oj : Oper), l[j]? = some oj → isStore oj = true → listed.getD j false = decide (j < k) := fun j oj hj hsj => by
          have hji : j ≠ i := fun e => by subst e; rw [ho] at hj; injection hj with hj; subst hj; rw [hs] at hsj; cases hsj
          have := hst j oj hj hsj; rw [show (j == i) = false from by simpa using hji, Bool.or_false] at this; exact this
        rw [hr.one (f := fun j => listed.getD j false) (by omega) hk here hst']; exact hw'
      · -- a look
        obtain ⟨k0, hk0, hat⟩ := h.where_ ok
        have hD : if st.contains i then E w else D i w := by
          have h00 := hr.held k0 hk0 w (h.world k0 hk0 hat)
          by_cases hst0 : st.contains i = true
          · rw [if_pos hst0]; exact h00.2
          rw [if_neg hst0]
          have h0 := h00.1
          have hst0 : st.contains i = false := by simpa using hst0
          have hard : ∀ (j : Nat) (oj : Oper), l[j]? = some oj → isHard oj = true → listed.getD j false = decide (j < i) ∧ j ≠ i := fun j oj hj hhj => by
            have hsj : isStore oj = true := by simp [isStore, hhj]
            have hji : j ≠ i := fun e => by subst e; rw [ho] at hj; injection hj with hj; subst hj; rw [hs] at hsj; cases hsj
            have hc := ok.store i j o oj ho hj (fun e => hji e.symm) hsj hf (by rw [hhj, hst0]; simp)
            by_cases hlt : j < i
            · rw [if_pos hlt] at hc; rw [before j oj hj hc]; simp [hlt, hji]
            · rw [if_neg hlt] at hc; rw [behind j oj hj hc]; simp [hlt, hji]
          have none : ∀ (j : Nat) (oj : Oper), l[j]? = some oj → isHard oj = true → decide (j < k0) = decide (j < i) := fun j oj hj hhj => by
            rw [← hat j oj hj (by simp [isStore, hhj])]; exact (hard j oj hj hhj).1
          rcases Nat.le_total i k0 with hle | hle
          · rw [hr.steady (i := i) (k0 - i) k0 (by omega) hk0 fun j oj hj hh h1 h2 => by
              have := none j oj hj hh; simp [h2] at this; omega] at h0
            exact h0
          · rw [← hr.steady (i := k0) (i - k0) i (by omega) (by omega) fun j oj hj hh h1 h2 => by
              have := none j oj hj hh; simp [h2] at this; omega] at h0
            exact h0
        refine (((hr.look i o ho hs hf hl).2 w hD).congr exec).wp (fun ch w' hq => hX _ h.shape.defers (fun t ht => h.shape.rest t fun j o hj hd => absurd hd (ht o (List.mem_of_getElem? hj))) ch w' hq) fun w' hw' => next w' fun k hk hst => ?_
        subst hw'
        refine h.world k hk fun j oj hj hsj => ?_
        have hji : j ≠ i := fun e => by subst e; rw [ho] at hj; injection hj with hj; subst hj; rw [hs] at hsj; cases hsj
        have := hst j oj hj hsj; rw [show (j == i) = false from by simpa using hji, Bool.or_false] at this; exact this
    · -- nothing of the world
      refine (((hr.free i o ho hs hf).2 w).congr exec).wp (fun ch w' hq => hX _ h.shape.defers (fun t ht => h.shape.rest t fun j o hj hd => absurd hd (ht o (List.mem_of_getElem? hj))) ch w' hq) fun w' hw' => next w' fun k hk hst => ?_
      subst hw'
      refine h.world k hk fun j oj hj hsj => ?_
      have hji : j ≠ i := fun e => by subst e; rw [ho] at hj; injection hj with hj; subst hj; rw [hs] at hsj; cases hsj
      have := hst j oj hj hsj; rw [show (j == i) = false from by simpa using hji, Bool.or_false] at this; exact this
  · -- a store
    have hf : isFree o = false := store_free hs
    have hlk : isLook o = false := store_look hs
    have here : ∀ (j : Nat) (oj : Oper), l[j]? = some oj → isStore oj = true → listed.getD j false = decide (j < i) := fun j oj hj hsj => by
      by_cases hji : j = i
      · subst hji; rw [hun']; simp
      · have hc := ok.store i j o oj ho hj (fun e => hji e.symm) hsj hf (by simp [hlk])
        by_cases hlt : j < i
        · rw [if_pos hlt] at hc; rw [before j oj hj hc]; simp [hlt]
        · rw [if_neg hlt] at hc; rw [behind j oj hj hc]; simp [hlt]
    have hw := h.world i (by omega) here
    have hgv := hr.store i o ho hs w hw
    refine (hgv.congr exec).wp (fun ch w' hq => hX _ h.shape.defers (fun t ht => h.shape.rest t fun j o hj hd => absurd hd (ht o (List.mem_of_getElem? hj))) ch w' hq) fun w' hw' => next w' fun k hk hst => ?_
    have h1 : ∀ (j : Nat) (oj : Oper), l[j]? = some oj → isStore oj = true → (listed.getD j false || j == i) = decide (j < i + 1) := fun j oj hj hsj => by
      rw [here j oj hj hsj, Bool.eq_iff_iff]; simp; omega
    rw [hr.one (f := fun j => listed.getD j false || j == i) (by omega) hk h1 hst]; exact hw'

theorem Inv.all_ (hr : Run P X (fun i => st.contains i) E l A C D v) (ok : Ok st l cl) {Q : Exit → Act → World → Prop} (hX : ∀ a', a'.defers = (A 0).defers → (∀ t, (∀ o ∈ l, o.dst ≠ some t) → a'.tmps[t]? = (A 0).tmps[t]?) → ∀ ch w', X ch w' → Q (.panic ch) a' w') (hQ : ∀ w, C l.length w → Q .normal (A l.length) w) : ∀ (n : Nat) (listed : Array Bool) (a : Act) (w : World), Inv l v (A 0) C listed a w → unl (fun i => listed.getD i false) l.length ≤ n →
    wpAny P .any l.toArray Q n listed a w := by
  have last : ∀ (listed : Array Bool) (a : Act) (w : World), Inv l v (A 0) C listed a w → (∀ i, i < l.length → listed.getD i false = true) → Q .normal a w := fun listed a w h hall => by
    have e : a = A l.length := h.shape.ext (hr.shape ok.dist l.length (Nat.le_refl _)) fun j o hj => by
      have hjl : j < l.length := (List.getElem?_eq_some_iff.1 hj).1
      rw [hall j hjl]; simp [hjl]
    rw [e]
    exact hQ w (h.world l.length (Nat.le_refl _) fun j o hj _ => by
      have hjl : j < l.length := (List.getElem?_eq_some_iff.1 hj).1
      rw [hall j hjl]; simp [hjl])
  intro n
  induction n with
  | zero =>
    intro listed a w h hn
    have hall := unl_zero (f := fun i => listed.getD i false) (n := l.length) (by omega)
    refine ⟨?_, last listed a w h hall⟩
    cases hr' : Region.ready .any l.toArray listed with
    | nil => rfl
    | cons i is =>
      have hi : i ∈ Region.ready .any l.toArray listed := by rw [hr']; simp
      obtain ⟨hun, o, ho', _⟩ := mem_ready.1 hi
      have hil : i < l.length := by have := (Array.getElem?_eq_some_iff.1 ho').1; simpa using this
      have := hall i hil
      have his : i < listed.size := by rw [h.size]; exact hil
      simp [his] at hun this
      rw [this] at hun; cases hun
  | succ n ih =>
    intro listed a w h hn
    refine ⟨fun hr' => last listed a w h fun i hi => ?_, fun i hi => ?_⟩
    · induction i using Nat.strongRecOn with
      | _ i ihi =>
        cases hu : listed.getD i false
        · have ho : l[i]? = some (l[i]'hi) := List.getElem?_eq_getElem hi
          have : i ∈ Region.ready .any l.toArray listed := mem_ready.2 ⟨by
            have his : i < listed.size := by rw [h.size]; exact hi
            simp [his] at hu ⊢; exact hu, _, (by rw [List.getElem?_toArray]; exact ho), fun e he hb => by
            have hd := ok.down i _ ho e he hb
            exact ihi e.on hd (by omega)⟩
          rw [hr'] at this; cases this
        · rfl
    · refine wpOp_mono (fun a' w' h' => ih _ a' w' h' ?_) (h.step hr ok hX hi)
      obtain ⟨hun, o, ho', _⟩ := mem_ready.1 hi
      have hil : i < l.length := by have := (Array.getElem?_eq_some_iff.1 ho').1; simpa using this
      have his : i < listed.size := by rw [h.size]; exact hil
      have := unl_set (f := fun i => listed.getD i false) (g := fun j => (listed.setIfInBounds i true).getD j false) (i := i) (by simp [his] at hun ⊢; exact hun) (by simp [his]) (fun j hj => getD_set_ne false (fun e => hj e.symm)) hil
      omega

/-- **One walk serves every order.** -/
theorem any_of_lex {Q : Exit → Act → World → Prop} (hX : ∀ a', a'.defers = a.defers → (∀ t, (∀ o ∈ l, o.dst ≠ some t) → a'.tmps[t]? = a.tmps[t]?) → ∀ ch w', X ch w' → Q (.panic ch) a' w') (hB : okB st l = true) (C0 D0 : World → Prop) (hC : C0 w.drew) (hCD : ∀ w, C0 w → D0 w ∧ E w)
    (h : wpLex P X st E (fun a' C' => ∀ w', C' w' → Q .normal a' w') l 0 a C0 D0) : wpAny P .any l.toArray Q l.toArray.size (Array.replicate l.toArray.size false) a w.drew := by
  obtain ⟨A, Cs, Ds, v, hr, hA, hC0, hD0, hQ⟩ := run_of_lex l 0 a C0 D0 hCD h
  simp only [Nat.zero_add] at hr
  have ok := Ok.of st l hB
  have hinv : Inv l v (A 0) Cs (Array.replicate l.toArray.size false) a w.drew := by
    have hg : ∀ i, (Array.replicate l.length false).getD i false = false := fun i => by
      by_cases hi : i < l.length <;> simp [hi]
    refine ⟨by simp, fun i o ho hl => ?_, ?_, fun i hi hst => ?_⟩
    · simp only [List.size_toArray] at hl; rw [hg i] at hl; cases hl
    · rw [hA]; exact Shape.start.congr fun j o _ => by simp only [List.size_toArray]; rw [hg j]
    · have e : Cs i = Cs 0 := hr.between i i (by omega) hi fun j o hj hs h0 hlt => by
        have := hst j o hj hs
        simp only [List.size_toArray] at this
        rw [hg j] at this; simp at this; omega
      rw [e, hC0]; exact hC
  have := Inv.all_ hr ok (Q := Q) (by rw [hA]; exact hX) hQ l.toArray.size _ _ _ hinv (by have := unl_le (fun i => (Array.replicate l.toArray.size false).getD i false) l.length; simpa using this)
  exact this
end
theorem wp_region_lex {P : Program} {X : Thr} {l : List Oper} {a : Act} {w : World} {id : Nat} {Q : Exit → Act → World → Prop} (hm : P.follows .mixedOrders = true) (st : List Nat) (hB : okB st l = true) (C0 D0 E : World → Prop) (hC : C0 w.drew) (hCD : ∀ w, C0 w → D0 w ∧ E w) (hX : ∀ a', a'.defers = a.defers → (∀ t, (∀ o ∈ l, o.dst ≠ some t) → a'.tmps[t]? = a.tmps[t]?) → ∀ ch w', X ch w' → Q (.panic ch) a' w')
    (h : wpLex P X st E (fun a' C' => ∀ w', C' w' → Q .normal a' w') l 0 a C0 D0) : (Code.region id l.toArray true).wp P Q a w :=
  wp_region_any hm (any_of_lex hX hB C0 D0 hC hCD h)

section
variable {P : Program} {X : Thr} {st : List Nat} {E : World → Prop} {Q : Act → (World → Prop) → Prop} {o : Oper} {rest : List Oper} {n : Nat} {a : Act} {C D : World → Prop} {W : World}
theorem lex_free (hs : isStore o = false) (hf : isFree o = true) {v : Value} (hrun : ∀ w, (execOp a.eval o).run P w = .ok (.value v) w) (h : wpLex P X st E Q rest (n + 1) (a.put o.dst v) C D) : wpLex P X st E Q (o :: rest) n a C D := by
  unfold wpLex
  rw [if_neg (by simp [hs]), if_pos hf]
  exact ⟨v, fun w => by unfold Gives; rw [hrun w]; exact ⟨rfl, rfl⟩, h⟩
theorem lex_look (hs : isStore o = false) (hf : isFree o = false) (hl : isLook o = true) (hst : st.contains n = false) {v : Value} (hrun : ∀ w, D w → (execOp a.eval o).run P w = .ok (.value v) w) (h : wpLex P X st E Q rest (n + 1) (a.put o.dst v) C D) : wpLex P X st E Q (o :: rest) n a C D := by
  unfold wpLex
  rw [if_neg (by simp [hs]), if_neg (by simp [hf]), if_pos hl]
  exact ⟨v, fun w hw => by rw [if_neg (by rw [hst]; simp)] at hw; unfold Gives; rw [hrun w hw]; exact ⟨rfl, rfl⟩, h⟩
/-- A function is called: it may leave another class. -/
theorem lex_call (hs : isStore o = true) {C' : World → Prop} {v : Value} {f : FuncId} {args : Array Value} (hrun : ∀ w, C w → (execOp a.eval o).run P w = .ok (.enter f args) w) (hc : ∀ w, C w → Calls P f args w fun e w' => (e = .returned v ∧ C' w') ∨ ∃ ch, e = .panicked ch ∧ X ch w') (hD : ∀ w, C' w → D w ∧ E w) (h : wpLex P X st E Q rest (n + 1) (a.put o.dst v) C' D) : wpLex P X st E Q (o :: rest) n a C D := by
  unfold wpLex
  rw [if_pos hs]
  exact ⟨v, C', D, fun w hw => by unfold Gives; rw [hrun w hw]; exact hc w hw, fun _ => rfl, hD, h⟩
/-- Memory is made; the world is known. -/
theorem lex_make (hs : isStore o = true) {v : Value} {W' : World} (hrun : (execOp a.eval o).run P W = .ok (.value v) W') (hD : D W' ∧ E W') (h : wpLex P X st E Q rest (n + 1) (a.put o.dst v) (· = W') D) : wpLex P X st E Q (o :: rest) n a (· = W) D := by
  unfold wpLex
  rw [if_pos hs]
  exact ⟨v, (· = W'), D, fun w hw => by subst hw; unfold Gives; rw [hrun]; exact ⟨rfl, rfl⟩, fun _ => rfl, fun w hw => hw ▸ hD, h⟩
theorem lex_store (hs : isStore o = true) (hh : isHard o = true) {C' D' : World → Prop} (hrun : ∀ w, C w → ∃ W', (execOp a.eval o).run P w = .ok .skip W' ∧ C' W') (hD : ∀ w, C' w → D' w ∧ E w) (h : wpLex P X st E Q rest (n + 1) (a.put o.dst undef) C' D') : wpLex P X st E Q (o :: rest) n a C D := by
  unfold wpLex
  rw [if_pos hs]
  exact ⟨undef, C', D', fun w hw => by obtain ⟨W', h1, h2⟩ := hrun w hw; unfold Gives; rw [h1]; exact ⟨rfl, h2⟩, fun e => by (rw [hh] at e; cases e), hD, h⟩
theorem lex_end {Q : Exit → Act → World → Prop} (h : ∀ w', C w' → Q .normal a w') : wpLex P X st E (fun a' C' => ∀ w', C' w' → Q .normal a' w') [] n a C D := h
end
end Rx
namespace Go.Proofs.Ytghomofakpjglaa
open Go.RowKit Go.Shelf
set_option linter.unusedVariables false
set_option linter.unusedSimpArgs false

/-- What a layout leaves that reads into block P, told by a property. -/
def GotP {α : Type} (b Bb Bp P : Nat) (t : TypeId) (size : Nat) (r : Option (α × List Int)) (F : α → Array Value → Prop) (w : World) (e : Ending) (w' : World) : Prop :=
  (∃ v rest, r = some (v, rest) ∧ e = .returned (.tuple #[]) ∧ Rd b Bb Bp rest w' ∧ Rk b Bb P w w' ∧ ∃ cs', Box w' P t cs' ∧ F v cs') ∨ (r = none ∧ Pan e ∧ Rk b Bb P w w' ∧ ∃ cs', Box w' P t cs' ∧ cs'.size = size)
def Im.i32s (l : List Int) : List Value := l.map fun x => .int .i32 x

set_option maxRecDepth 100000 in
set_option maxHeartbeats 2000000 in
theorem layflight_any (P o Bq : Nat) (t : TypeId) (cs : Array Value) (bs : List Int) (b Bb Bp : Nat) (w : World) (hBy : Im.IsBytes bs) (hbB : b ≤ Bb) (hbP : b ≤ P) (hbw : b ≤ w.heap.size) (h : Rd b Bb Bp bs w) (hP : Box w P t cs) (ho : ∀ k, k < 4 → cs[o + k]? = some (.int .i32 0)) (h1 : t ≠ 36) (h2 : t ≠ 5) (h3 : t ≠ 82) (hPq : Bq ≠ P)
    (hq : Box w Bq 139 #[.pointer (some ⟨P, o + 0, none⟩), .pointer (some ⟨P, o + 1, none⟩), .pointer (some ⟨P, o + 2, none⟩), .pointer (some ⟨P, o + 3, none⟩)]) (c : Nat) :
    Calls Try.prog 89 #[.func (.func 76) #[] #[.pointer (some ⟨Bp, 0, none⟩)], .slice (some ⟨Bq, 0, none⟩) 4 c] w (GotP b Bb Bp P t cs.size (Im.decParts 4 [] bs) (fun l cs' => l.length = 4 ∧ cs'.size = cs.size ∧ Im.Patch cs o (Im.i32s l) cs') w) := by
  have HH := Lib.hid h
  have HP := Lib.hid hP
  have HQ := Lib.hid hq
  have HW := Lib.hid hbw
  have HY := Lib.hid hBy
  clear h hP hq hbw hBy
  go_enter Try.func89, Try.ntmps89
  go_wp2
  go_loopw [8] (fun i wr => ∃ (k : Nat) (l bs' : List Int), k ≤ 4 ∧ i = .int .i64 k ∧ l.length = k ∧ Im.IsBytes bs' ∧ Im.decParts 4 [] bs = Im.decParts (4 - k) l bs' ∧ Rd b Bb Bp bs' wr ∧ Rk b Bb P w wr ∧ ∃ cs', Box wr P t cs' ∧ cs'.size = cs.size ∧ Im.Patch cs o (Im.i32s l) cs') (fun i _ => 4 - (intOf i).toNat)
  case atStart => exact ⟨0, [], bs, by omega, rfl, rfl, HY.out, rfl, HH.out, Rk.refl _ _ _ _, cs, HP.out, rfl, Im.Patch.nil _ _⟩
  case round =>
    obtain ⟨k, l, bs', hk, rfl, hlen, hy, hdec, hI, hK, cs', hB, hsz, hpt⟩ := hrel
    by_cases hlt : k < 4
    · have hk8 : (k : Int) < 4 := by omega
      have Q1 := hK.kb _ _ _ HQ.out hPq (by decide) (by decide)
      have qc := Q1.cell k
      have hqk : (#[.pointer (some ⟨P, o + 0, none⟩), .pointer (some ⟨P, o + 1, none⟩), .pointer (some ⟨P, o + 2, none⟩), .pointer (some ⟨P, o + 3, none⟩)] : Array Value)[k]? = some (.pointer (some ⟨P, o + k, none⟩)) := by
        match k, hlt with
        | 0, _ | 1, _ | 2, _ | 3, _ => rfl
      rw [hqk] at qc
      rw [show 4 - k = (4 - (k + 1)) + 1 by omega] at hdec
      have il : (Im.i32s l).length = k := by unfold Im.i32s; rw [List.length_map, hlen]
      have hc0 : cs'[o + k]? = some (.int .i32 0) := (hpt.cell (.inr (by rw [il]; omega))).trans (ho k hlt)
      have cl := Lib.hid (part_i32 4 4 rfl 0 P (o + k) t cs' bs' b Bb Bp wr (by decide) hy hbB hbP (Nat.le_trans HW.out hK.below.size) hI hB hc0 h1 h2 h3)
      have HN := Lib.hid (show Im.decParts 4 [] bs = (Im.rdn 4 bs').bind fun q => Im.decParts (4 - (k + 1)) (l ++ [IntKind.i32.wrap q.1]) q.2 from hdec)
      have HPT := Lib.hid (fun v : Int => hpt.trans (Im.Patch.one (.int .i32 v) hc0) (by rw [il]))
      have HK := Lib.hid hK
      have HSZ := Lib.hid hsz
      have HLEN := Lib.hid hlen
      have HYY := Lib.hid hy
      clear hI hK hB Q1 hqk hpt hc0 hdec hsz il hlen hy
      go_wp2_with (go_at_call 101; ((with_reducible refine (cl.out).mono ?_); rintro e w1 (⟨y, r1, hr, rfl, hI1, hK1, hB1⟩ | ⟨hn, ⟨ss, rfl⟩, hK1, cs2, hB1, hs⟩); (all_goals first | (have R1 := Lib.hid hr; have I1 := Lib.hid hI1; have K1 := Lib.hid (HK.out.trans hK1); have B1 := Lib.hid hB1; clear hr hI1 hK1 hB1 qc) | (have N1 := Lib.hid hn; have F1 := Lib.hid (HK.out.trans hK1); have B1 := Lib.hid hB1; have S1 := Lib.hid hs; clear hn hK1 hB1 hs qc))))
      · go_roundw
        case rel => exact ⟨k + 1, l ++ [IntKind.i32.wrap y], r1, by omega, by go_num, by rw [List.length_append, HLEN.out]; rfl, (Im.rdn_inv HYY.out R1.out).2.2.2, by rw [HN.out, R1.out, Option.bind_some], I1.out, K1.out, _, B1.out, by simp [HSZ.out], by
          have := HPT.out (IntKind.i32.wrap y)
          unfold Im.i32s at this ⊢
          rw [List.map_append]
          exact this⟩
        case measure => simp [intOf]; omega
      · refine ⟨rfl, .inr ⟨?_, ⟨_, rfl⟩, F1.out, _, B1.out, S1.out.trans HSZ.out⟩⟩
        rw [HN.out, N1.out, Option.bind_none]
    · have hk8 : ¬ (k : Int) < 4 := by omega
      obtain rfl : k = 4 := by omega
      have HI := Lib.hid hI
      have HK := Lib.hid hK
      have HB := Lib.hid hB
      have HPT := Lib.hid (And.intro hlen (And.intro hsz hpt))
      have HD := Lib.hid hdec
      clear hI hK hB hpt hsz hlen hdec
      go_wp2
      go_end0
      exact .inl ⟨l, bs', HD.out, rfl, HI.out, HK.out, cs', HB.out, HPT.out⟩

set_option maxRecDepth 100000 in
set_option maxHeartbeats 2000000 in
theorem layseat_any (P o : Nat) (t : TypeId) (cs : Array Value) (bs : List Int) (b Bb Bp : Nat) (w : World) (hBy : Im.IsBytes bs) (hbB : b ≤ Bb) (hbP : b ≤ P) (hbw : b ≤ w.heap.size) (h : Rd b Bb Bp bs w) (hP : Box w P t cs) (ho : cs[o]? = some (.int .i64 0)) (ho1 : cs[o + 1]? = some (.int .i64 0)) (h1 : t ≠ 36) (h2 : t ≠ 5) (h3 : t ≠ 82) :
    Calls Try.prog 72 #[.func (.func 76) #[] #[.pointer (some ⟨Bp, 0, none⟩)], .pointer (some ⟨P, o, none⟩)] w (Got b Bb Bp P t cs.size (Im.decSeat bs) (fun q => (cs.setIfInBounds o (.int .i64 q.1)).setIfInBounds (o + 1) (.int .i64 q.2)) w) := by
  have k0 := hP.cell o
  rw [ho] at k0
  have ltP := hP.lt
  have HPA := Lib.hid (hP.alloc (.cells #[.int .i64 1] 3))
  have HKA := Lib.hid (Rk.alloc (w := w) (Bb := Bb) (P := P) hbw (.cells #[.int .i64 1] 3))
  have c1 := Lib.hid (part_int 1 1 rfl 1 w.heap.size 0 3 #[.int .i64 1] bs b Bb Bp _ (by decide) hBy hbB hbw (by simp <;> omega) (h.call (one_below w (.cells #[.int .i64 1] 3)) hbw) (Box.made w 3 #[.int .i64 1]) rfl (by decide) (by decide) (by decide))
  have e1 : ∀ v, (cs.setIfInBounds o v)[o + 1]? = some (.int .i64 0) := fun v => by rw [Array.getElem?_setIfInBounds_ne (by omega), ho1]
  have c2 := fun v bs' X hy hX1 hX2 hX3 => Lib.hid (part_int 2 2 rfl 0 P (o + 1) t (cs.setIfInBounds o v) bs' b Bb Bp X (by decide) hy hbB hbP hX1 hX2 hX3 (e1 v) h1 h2 h3)
  have HO := Lib.hid ho
  have HB := Lib.hid hbP
  have HW := Lib.hid hbw
  have HY := Lib.hid hBy
  have HD := Lib.hid (show Im.decSeat bs = (Im.rdn 1 bs).bind fun p => (Im.rdn 2 p.2).bind fun g => some ((p.1 - 1, g.1), g.2) from rfl)
  clear h hP ho ho1 e1 hBy
  go_enter Try.func72, Try.ntmps72
  go_upto_region 2 with (go_at_call 67; ((with_reducible refine (c1.out).mono ?_); rintro e w1 (⟨y, r1, hr, rfl, hI1, hK1, hL1⟩ | ⟨hn, ⟨ss, rfl⟩, hK1, cs2, hL1, hs⟩); (all_goals first | (have R1 := Lib.hid hr; have Y1 := Lib.hid (Im.rdn_inv HY.out hr); have l1 := hL1.cell 0; have P1 := Lib.hid (hK1.kb _ _ _ HPA.out (by omega) h1 h2); have p1 := P1.out.cell o; rw [HO.out] at p1; have f1 := P1.out.free o; have I1 := Lib.hid hI1; have K1 := Lib.hid (HKA.out.local hK1 (Nat.le_refl _)); clear hr hI1 hK1 hL1 k0 c1) | (have N1 := Lib.hid hn; have F1 := Lib.hid (HKA.out.local hK1 (Nat.le_refl _)); have G1 := Lib.hid (hK1.kb _ _ _ HPA.out (by omega) h1 h2); clear hn hK1 hL1 hs k0 c1))))
  rotate_left
  · refine ⟨rfl, .inr ⟨?_, ⟨_, rfl⟩, F1.out, _, G1.out, rfl⟩⟩
    rw [HD.out, N1.out, Option.bind_none]
  have hw4 : IntKind.i64.wrap (y - 1) = y - 1 := by have := Y1.out.2.1; have := Y1.out.2.2.1; rw [IntKind.wrap_i64]; omega
  simp only [List.getElem?_toArray, Array.setIfInBounds, List.size_toArray, List.length_cons, List.length_nil, Nat.zero_add, Nat.lt_add_one, dite_true, List.set_toArray, List.set_cons_zero, List.getElem?_cons_zero] at l1
  go_wp2_with (go_at_call 67; ((with_reducible refine ((c2 _ _ _ Y1.out.2.2.2 (Nat.le_trans HW.out (K1.out.put HB.out _ _).below.size) (I1.out.off (p := ⟨P, o, none⟩) P1.out h3 h1 HB.out _) (P1.out.put o _)).out).mono ?_); rintro e w2 (⟨y2, r2, hr, rfl, hI2, hK2, hL2⟩ | ⟨hn, ⟨ss, rfl⟩, hK2, cs2, hL2, hs⟩); (all_goals first | (have R2 := Lib.hid hr; have I2 := Lib.hid hI2; have P2 := Lib.hid hL2; have K2 := Lib.hid ((K1.out.put HB.out _ _).trans hK2); clear hr hI2 hK2 hL2) | (have N2 := Lib.hid hn; have F2 := Lib.hid ((K1.out.put HB.out _ _).trans hK2); have G2 := Lib.hid hL2; have S2 := Lib.hid hs; clear hn hK2 hL2 hs))))
  · go_end0
    exact .inl ⟨(y - 1, y2), r2, by rw [HD.out, R1.out, Option.bind_some, R2.out, Option.bind_some], rfl, I2.out, K2.out, P2.out⟩
  · refine ⟨rfl, .inr ⟨?_, ⟨_, rfl⟩, F2.out, _, G2.out, by rw [S2.out]; simp⟩⟩
    rw [HD.out, R1.out, Option.bind_some, N2.out, Option.bind_none]
end Go.Proofs.Ytghomofakpjglaa
