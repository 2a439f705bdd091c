/-
Several texts in one: Tk Ij Ik Il Im In Ip Iq Sa Nr En Hc Hw Dp Hd.
-/
import Derived.Test.YtkkhdaeihnbilaaGreatFp3
namespace Go.Proofs.YtkkhdaeihnbilaaGreat
open Go.RowKit
set_option linter.unusedVariables false

theorem seat_in (a b c d : Int) (w : World) : (Op.equalIn 9998 30 (.agg #[.int .i64 a, .int .i64 b]) (.agg #[.int .i64 c, .int .i64 d])).run Tryz.prog w = .ok (a == c && b == d) w := by
  by_cases h1 : a = c
  · by_cases h2 : b = d
    · subst h1 h2; go_simp <;> simp
    · have h3 : (b == d) = false := by simpa using h2
      subst h1; go_simp <;> simp [h3, h2]
  · have h3 : (a == c) = false := by simpa using h1
    go_simp <;> simp [h3, h1]
theorem seat2_info : (Tryz.prog.info? 30).map (·.size) = some 2 := by kernel_rfl
theorem seatCells_list (r : Ros.R) (i : Nat) (hi : i < 8) : ((Ros.seatCells r).drop (i * 2)).take 2 = Ros.pair r i := by
  match i, hi with
  | 0, _ | 1, _ | 2, _ | 3, _ | 4, _ | 5, _ | 6, _ | 7, _ => rfl
theorem seat_part (r : Ros.R) (i : Nat) (hi : i < 8) (w : World) : (part 30 (Ros.seatCells r).toArray (i * 2)).run Tryz.prog w = .ok (.agg (Ros.pair r i).toArray) w := by
  have h := seatCells_list r i hi
  cases hq : Tryz.prog.info? 30 with
  | none => have := seat2_info; simp [hq] at this
  | some j =>
    have hs : j.size = 2 := by have := seat2_info; simpa [hq] using this
    simp [part, isAgg, sizeOf, typeInfo, hq, hs, run_underlying (Tryz.underlying30) w, h]
end Go.Proofs.YtkkhdaeihnbilaaGreat
namespace Go.Proofs.YtkkhdaeihnbilaaGreat
open Go.RowKit Go.Shelf
set_option linter.unusedVariables false
set_option linter.unusedSimpArgs false

/-- Which states may be. -/
def Im.Ok (g : Gm.G) (r : Ros.R) : Prop := Gm.ok g ∧ Ros.Ok r ∧ ∀ k, k < 8 → (g.ship k).on = decide (0 ≤ r.peer k)
theorem state_info : (Tryz.prog.info? 35).map (·.size) = some 76 := by kernel_rfl
theorem seats_info : (Tryz.prog.info? 31).map (·.size) = some 16 := by kernel_rfl
section
variable {ops : Array Oper} {rest : List Oper} {o : Oper} {a : Act} {w : World} {Q : Exit → Act → World → Prop} {x : Operand} {dst : Option Tmp} {p : Value}
/-- What the load of a state's game wants. -/
def LoadIm (ops : Array Oper) (Q : Exit → Act → World → Prop) (rest : List Oper) (dst : Option Tmp) (p : Value) (off : Nat) (pick : Gm.G → Value → Ros.R → Array Value) (a : Act) (w : World) : Prop :=
  ∃ (B : Nat) (g : Gm.G) (s : Value) (r : Ros.R), p = .pointer (some ⟨B, off, none⟩) ∧ Box w B 35 (Im.cells g s r) ∧ wpList Tryz.prog ops Q rest (a.put dst (.agg (pick g s r))) w
theorem LoadIm.mk {off : Nat} {pick : Gm.G → Value → Ros.R → Array Value} {B : Nat} {g : Gm.G} {s : Value} {r : Ros.R} (hp : p = .pointer (some ⟨B, off, none⟩)) (hB : Box w B 35 (Im.cells g s r)) (h : wpList Tryz.prog ops Q rest (a.put dst (.agg (pick g s r))) w) : LoadIm ops Q rest dst p off pick a w := ⟨B, g, s, r, hp, hB, h⟩
theorem im_load_game (hgd : o.guard = none) (ho : o.op = .load 28 x) (h : LoadIm ops Q rest o.dst (a.eval x) 0 (fun g s _ => Gm.cells g s) a w) : wpList Tryz.prog ops Q (o :: rest) a w := by
  obtain ⟨B, g, s, r, hx, hB, h⟩ := h
  refine wpList_load_part hgd ho hx hB (Gm.cells g s).toList (fun j v hv => ?_) Tryz.underlying28 rfl game_info h
  have hj : j < 59 := (List.getElem?_eq_some_iff.1 hv).1
  rw [Nat.zero_add, Im.cells_g _ _ _ j hj]
  simpa using hv
theorem im_load_ros_g (hw : Region.wanted o (yielded ops a.tmps) = true) (ho : o.op = .load 33 x) (h : LoadIm ops Q rest o.dst (a.eval x) 59 (fun _ _ r => Ros.cells r) a w) : wpList Tryz.prog ops Q (o :: rest) a w := by
  obtain ⟨B, g, s, r, hx, hB, h⟩ := h
  refine wpList_load_part_g hw ho hx hB (Ros.cells r).toList (fun j v hv => ?_) Tryz.underlying33 rfl ros_info h
  rw [Im.cells_r]
  simpa using hv
theorem im_load_seats (hgd : o.guard = none) (ho : o.op = .load 31 x) (h : LoadIm ops Q rest o.dst (a.eval x) 60 (fun _ _ r => (Ros.seatCells r).toArray) a w) : wpList Tryz.prog ops Q (o :: rest) a w := by
  obtain ⟨B, g, s, r, hx, hB, h⟩ := h
  refine wpList_load_part hgd ho hx hB (Ros.seatCells r) (fun j v hv => ?_) Tryz.underlying31 rfl seats_info h
  rw [show 60 + j = 59 + (1 + j) by omega, Im.cells_r]
  rw [← hv]
  simp [Ros.cells, Nat.add_comm]
end

theorem seat_index (r : Ros.R) (k : Nat) (hk : k < 8) (W : World) : (Instr.index 31 (.agg (Ros.seatCells r).toArray) (.int .i64 (k : Int))).run Tryz.prog W = .ok (.agg #[.int .i64 (r.peer k), .int .i64 (r.gen k)]) W := by
  have h := seat_part r k hk W
  rw [show (Ros.pair r k).toArray = #[.int .i64 (r.peer k), .int .i64 (r.gen k)] from rfl] at h
  have hk8 : (k : Int) < 8 := by omega
  have hc : Tryz.prog.cellsOf 30 = 2 := by kernel_rfl
  cases hq : Tryz.prog.info? 30 with
  | none => have := seat2_info; simp [hq] at this
  | some i =>
    have hi : i.size = 2 := by have := seat2_info; simpa [hq] using this
    simp [Instr.index, run_underlying (Tryz.underlying31) W, h, hk8, sizeOf, typeInfo, hq, hi, go_sem]
    rw [if_pos hk, seatCells_list r k hk]
    rfl
set_option maxRecDepth 100000 in
set_option maxHeartbeats 4000000 in
theorem immay_any (g : Gm.G) (r : Ros.R) (A : Option Addr) (n c : Nat) (w : World) (hty : Gm.ty g) (hn : n = g.shots.length) (hn63 : n ≤ maxLen) (hr : Lies w w.heap.size 6 A n (Gm.shotCells g.shots)) :
    Calls Tryz.prog 73 #[.agg (Im.cells g (.slice A n c) r)] w fun e w' => (∃ v, e = .returned (.bool v) ∧ (v = true ↔ Im.Ok g r)) ∧ Below w.heap.size w w' := by
  have P0 := Lib.hid (Box.made w 35 (Im.cells g (.slice A n c) r))
  have K0 := Lib.hid (one_below w (.cells (Im.cells g (.slice A n c) r) 35))
  have hr0 := (hr.below K0.out).wider K0.out.size
  by_cases hg : Gm.ok g
  · have cg := fun X hX => Lib.hid (may_yes g A n c X hg hn hX)
    have cr := fun X => Lib.hid (rosmay_any r X)
    by_cases hok : Ros.Ok r
    · rw [show Ros.may r = true from decide_eq_true hok] at cr
      have HG := Lib.hid hg
      have HR := Lib.hid hok
      have hq := Lib.hid hr0
      clear hr hr0 hn hty hg hok
      go_enter Tryz.func73, Tryz.ntmps73
      go_wp2_with (first | ((with_reducible refine im_load_game rfl rfl ?_); apply LoadIm.mk rfl; (focus (with_reducible exact P0.out)); dsimp only) | ((with_reducible refine im_load_ros_g ?_ rfl ?_); (focus first | rfl | kernel_rfl | simp [Region.wanted, yielded]); apply LoadIm.mk rfl; (focus (with_reducible exact P1.out)); dsimp only) | ((with_reducible refine im_load_seats rfl rfl ?_); apply LoadIm.mk rfl; (focus (with_reducible exact P2.out)); dsimp only) | (go_at_call 24; ((with_reducible refine ((cg _ hq.out).out).mono ?_); rintro e w1 ⟨rfl, hb⟩; have P1 := Lib.hid (P0.out.below hb P0.out.lt); have K1 := Lib.hid (K0.out.trans (hb.mono K0.out.size)); clear hb)) | (go_at_call 54; ((with_reducible refine ((cr _).out).mono ?_); rintro e w2 ⟨rfl, hb⟩; have P2 := Lib.hid (P1.out.below hb P1.out.lt); have K2 := Lib.hid (K1.out.trans (hb.mono K1.out.size)); clear hb)))
      go_loopw [18] (fun i wr => ∃ k : Nat, k ≤ 8 ∧ i = .int .i64 k ∧ Box wr w.heap.size 35 (Im.cells g (.slice A n c) r) ∧ Below w.heap.size w wr ∧ ∀ j, j < k → (g.ship j).on = decide (0 ≤ r.peer j)) (fun i _ => 8 - (intOf i).toNat)
      case atStart => exact ⟨0, by omega, rfl, P2.out, K2.out, fun j hj => absurd hj (Nat.not_lt_zero j)⟩
      case round =>
        obtain ⟨k, hk, rfl, hB, hb, hall⟩ := hrel
        clear P0 K0 P1 K1 P2 K2 hq
        by_cases hlt : k < 8
        · have hk8 : (k : Int) < 8 := by omega
          have hpart := seat_index r k hlt
          have e0 := (hB.cell (2 + k * 7)).trans (Im.cells_ship g _ r k 0 hlt (by omega))
          simp only [Gm.Ship.cells, List.getElem?_cons_zero] at e0
          have hcell : ∀ o, (wr.alloc o).cell? ⟨w.heap.size, 2 + k * 7, none⟩ = some (.bool (g.ship k).on) := fun o => ((hB.alloc o).cell _).trans ((Im.cells_ship g _ r k 0 hlt (by omega)).trans rfl)
          obtain ⟨on, hon⟩ : ∃ on, on = (g.ship k).on := ⟨_, rfl⟩
          obtain ⟨pk, hpk⟩ : ∃ pk, pk = r.peer k := ⟨_, rfl⟩
          obtain ⟨gk, hgk⟩ : ∃ gk, gk = r.gen k := ⟨_, rfl⟩
          rw [← hon] at e0 hcell
          rw [← hpk, ← hgk] at hpart
          have HON := Lib.hid hon
          have HPK := Lib.hid hpk
          have HALL := Lib.hid hall
          have HB := Lib.hid hB
          have HBB := Lib.hid hb
          clear hon hpk hgk hall hB hb
          by_cases hm : on = decide (0 ≤ pk)
          · have hnew := Lib.hid (show ∀ j, j < k + 1 → (g.ship j).on = decide (0 ≤ r.peer j) from fun j hj => by
              by_cases e : j = k
              · rw [e, ← HON.out, ← HPK.out]; exact hm
              · exact HALL.out j (by omega))
            cases hd : decide (0 ≤ pk)
            · rw [hd] at hm
              subst hm
              go_upto_region 6 with fail
              go_quiet (fail)
              go_wp2
              go_roundw
              case rel => exact ⟨k + 1, by omega, by go_num, (HB.out.alloc _).draws _, draws_below (HBB.out.alloc HBB.out.size _) _, hnew.out⟩
              case measure => simp [intOf]; omega
            · rw [hd] at hm
              subst hm
              go_upto_region 6 with fail
              go_quiet (fail)
              go_wp2
              go_roundw
              case rel => exact ⟨k + 1, by omega, by go_num, (HB.out.alloc _).draws _, draws_below (HBB.out.alloc HBB.out.size _) _, hnew.out⟩
              case measure => simp [intOf]; omega
          · have hno := Lib.hid (show ¬ Im.Ok g r from fun h => hm (by rw [HON.out, HPK.out]; exact h.2.2 k hlt))
            cases hd : decide (0 ≤ pk)
            · obtain rfl : on = true := by
                cases on
                · exact absurd hd.symm hm
                · rfl
              clear hm
              go_upto_region 6 with fail
              go_quiet (fail)
              go_wp2
              go_ret
              exact ⟨by first | exact ⟨false, rfl, by simp; exact hno.out⟩ | exact .inl ⟨rfl, hno.out⟩, draws_below (HBB.out.alloc HBB.out.size _) _⟩
            · obtain rfl : on = false := by
                cases on
                · rfl
                · exact absurd hd.symm hm
              clear hm
              go_upto_region 6 with fail
              go_quiet (fail)
              go_wp2
              go_ret
              exact ⟨by first | exact ⟨false, rfl, by simp; exact hno.out⟩ | exact .inl ⟨rfl, hno.out⟩, draws_below (HBB.out.alloc HBB.out.size _) _⟩
        · have hk8 : ¬ (k : Int) < 8 := by omega
          have hyes := Lib.hid (show Im.Ok g r from ⟨HG.out, HR.out, fun j hj => hall j (by omega)⟩)
          have HBB := Lib.hid hb
          clear hall hB hb
          go_wp2
          go_ret
          exact ⟨by first | exact ⟨true, rfl, by simp; exact hyes.out⟩ | exact .inr ⟨rfl, hyes.out⟩, HBB.out⟩
    · rw [show Ros.may r = false from decide_eq_false hok] at cr
      have hno := Lib.hid (show ¬ Im.Ok g r from fun h => hok h.2.1)
      have hq := Lib.hid hr0
      clear hr hr0 hn hty hg hok
      go_enter Tryz.func73, Tryz.ntmps73
      go_wp2_with (first | ((with_reducible refine im_load_game rfl rfl ?_); apply LoadIm.mk rfl; (focus (with_reducible exact P0.out)); dsimp only) | ((with_reducible refine im_load_ros_g ?_ rfl ?_); (focus first | rfl | kernel_rfl | simp [Region.wanted, yielded]); apply LoadIm.mk rfl; (focus (with_reducible exact P1.out)); dsimp only) | ((with_reducible refine im_load_seats rfl rfl ?_); apply LoadIm.mk rfl; (focus (with_reducible exact P2.out)); dsimp only) | (go_at_call 24; ((with_reducible refine ((cg _ hq.out).out).mono ?_); rintro e w1 ⟨rfl, hb⟩; have P1 := Lib.hid (P0.out.below hb P0.out.lt); have K1 := Lib.hid (K0.out.trans (hb.mono K0.out.size)); clear hb)) | (go_at_call 54; ((with_reducible refine ((cr _).out).mono ?_); rintro e w2 ⟨rfl, hb⟩; have P2 := Lib.hid (P1.out.below hb P1.out.lt); have K2 := Lib.hid (K1.out.trans (hb.mono K1.out.size)); clear hb)))
      go_ret
      exact ⟨by first | exact ⟨false, rfl, by simp; exact hno.out⟩ | exact .inl ⟨rfl, hno.out⟩, K2.out⟩
  · have cg := fun X hX => Lib.hid (may_not g A n c X hg hty hn hn63 hX)
    have hno := Lib.hid (show ¬ Im.Ok g r from fun h => hg h.1)
    have hq := Lib.hid hr0
    clear hr hr0 hn hty hg
    go_enter Tryz.func73, Tryz.ntmps73
    go_wp2_with (first | ((with_reducible refine im_load_game rfl rfl ?_); apply LoadIm.mk rfl; (focus (with_reducible exact P0.out)); dsimp only) | ((with_reducible refine im_load_ros_g ?_ rfl ?_); (focus first | rfl | kernel_rfl | simp [Region.wanted, yielded]); apply LoadIm.mk rfl; (focus (with_reducible exact P1.out)); dsimp only) | ((with_reducible refine im_load_seats rfl rfl ?_); apply LoadIm.mk rfl; (focus (with_reducible exact P2.out)); dsimp only) | (go_at_call 24; ((with_reducible refine ((cg _ hq.out).out).mono ?_); rintro e w1 ⟨rfl, hb⟩; have P1 := Lib.hid (P0.out.below hb P0.out.lt); have K1 := Lib.hid (K0.out.trans (hb.mono K0.out.size)); clear hb)) | (go_at_call 54; ((with_reducible refine ((cr _).out).mono ?_); rintro e w2 ⟨rfl, hb⟩; have P2 := Lib.hid (P1.out.below hb P1.out.lt); have K2 := Lib.hid (K1.out.trans (hb.mono K1.out.size)); clear hb)))
    go_ret
    exact ⟨by first | exact ⟨false, rfl, by simp; exact hno.out⟩ | exact .inl ⟨rfl, hno.out⟩, K1.out⟩
end Go.Proofs.YtkkhdaeihnbilaaGreat
namespace Go.Proofs.YtkkhdaeihnbilaaGreat
open Go.RowKit Go.Shelf
set_option linter.unusedVariables false
set_option linter.unusedSimpArgs false

theorem catch_put (Bb Bc : Nat) (u : TypeId) (pv : Value) (older : List PanicEntry) (w : World) (x : Value) (hb : Box w Bb 72 #[x]) (y : Int) (hc : Box w Bc 3 #[.int .i64 y]) :
    CallsD Tryz.prog 71 #[.pointer (some ⟨Bb, 0, none⟩), .pointer (some ⟨Bc, 0, none⟩)] (.panicking ({ v := .iface u pv, recovered := false } :: older)) w fun e u' w' =>
      e = .returned (.tuple #[]) ∧ u' = .panicking ({ v := .iface u pv, recovered := true } :: older) ∧ w' = (w.setCell ⟨Bb, 0, none⟩ (.slice none 0 0)).setCell ⟨Bc, 0, none⟩ (.int .i64 1) := by
  have ne : Bb ≠ Bc := Box.apart hb hc (by decide)
  have c1 := hb.cell 0
  have f1 := hb.free 0
  have c2 := hc.cell 0
  have f2 := hc.free 0
  refine callsD_of_wpS Tryz.func71 rfl fun c₀ cs hu => ?_
  apply wpS_seq
  apply wpS_region
  simp [wpOpsS, go_sem, recoverD, hu, Tryz.ntmps71, Exit.thenS]
  refine wpS_cond (t := true) (by simp [Act.eval, Array.replicate]) ?_
  simp only [if_true]
  apply wpS_region
  have c2' : (w.setCell ⟨Bb, 0, none⟩ (.slice none 0 0)).cell? ⟨Bc, 0, none⟩ = some (.int .i64 y) := (hc.far (p := ⟨Bb, 0, none⟩) (fun e => ne e.symm) _).cell 0
  have f2' : (w.setCell ⟨Bb, 0, none⟩ (.slice none 0 0)).frozen? ⟨Bc, 0, none⟩ = false := (hc.far (p := ⟨Bb, 0, none⟩) (fun e => ne e.symm) _).free 0
  simp [wpOpsS, go_sem, c1, f1, c2', f2', bodyPostS, results, Tryz.results71]

theorem catch_idle_put (p q : Addr) (w : World) :
    CallsD Tryz.prog 71 #[.pointer (some p), .pointer (some q)] .returning w fun e u' w' => e = .returned (.tuple #[]) ∧ u' = .returning ∧ w' = w := by
  refine callsD_of_wpS Tryz.func71 rfl fun c₀ cs hu => ?_
  apply wpS_seq
  apply wpS_region
  simp [wpOpsS, go_sem, recoverD, hu, Tryz.ntmps71, Exit.thenS]
  refine wpS_cond (t := false) (by simp [Act.eval, Array.replicate]) ?_
  simp only [Bool.false_eq_true, if_false]
  refine wpS_of_wp (wp_skip ?_)
  cases c₀
  simp_all [bodyPostS, results, Tryz.results71]
end Go.Proofs.YtkkhdaeihnbilaaGreat
namespace Go.Proofs.YtkkhdaeihnbilaaGreat
open Go.RowKit Go.Shelf
set_option linter.unusedVariables false
set_option linter.unusedSimpArgs false

section
variable {ops : Array Oper} {Q : Exit → Act → World → Prop} {o : Oper} {rest : List Oper} {a : Act} {w : World} {x : Operand}
theorem im_load_state (hgd : o.guard = none) (ho : o.op = .load 35 x) (h : LoadIm ops Q rest o.dst (a.eval x) 0 (fun g s r => Im.cells g s r) a w) : wpList Tryz.prog ops Q (o :: rest) a w := by
  obtain ⟨B, g, s, r, hx, hB, h⟩ := h
  refine wpList_load_part hgd ho hx hB (Im.cells g s r).toList (fun j v hv => ?_) Tryz.underlying35 rfl (by rw [Array.length_toList, Im.cells_size]; exact state_info) (by rw [Array.toArray_toList]; exact h)
  rw [Nat.zero_add]
  simpa using hv
end

theorem Im.put_le (g : Gm.G) (r : Ros.R) (h : g.shots.length ≤ 32) : (Im.put g r).length ≤ 64000 := by
  have e1 := Im.ships_le g.ship 8
  have e2 := Im.shots_len g.shots
  have e3 := Im.seats_len r 8
  unfold Im.put
  simp only [List.length_append, Im.bytesOf_len, e2, e3]
  omega

theorem put_no (g : Gm.G) (r : Ros.R) (A : Option Addr) (n c : Nat) (w : World) (hno : ¬ Im.Ok g r) (hty : Gm.ty g) (hn : n = g.shots.length) (hn63 : n ≤ maxLen) (hr : Lies w w.heap.size 6 A n (Gm.shotCells g.shots)) :
    Calls Tryz.prog 35 #[.agg (Im.cells g (.slice A n c) r)] w fun e w' => e = .returned (.tuple #[.slice none 0 0, .int .i64 1]) ∧ Below w.heap.size w w' := by
  have hmf : ∀ (fn : Fn) (first cap : Array Value) (w : World), (Instr.makeFunc fn first cap).run Tryz.prog w = .ok (.func fn first cap) w := fun _ _ _ _ => rfl
  have P1 := Lib.hid (((Box.made w 35 (Im.cells g (.slice A n c) r)).alloc (.cells #[.slice none 0 0] 72)).alloc (.cells #[.int .i64 0] 3))
  have B1 := Lib.hid ((Box.made_at (n := w.heap.size + 1) (w.alloc (.cells (Im.cells g (.slice A n c) r) 35)) 72 #[.slice none 0 0] (by simp)).alloc (.cells #[.int .i64 0] 3))
  have C1 := Lib.hid (Box.made_at (n := w.heap.size + 1 + 1) ((w.alloc (.cells (Im.cells g (.slice A n c) r) 35)).alloc (.cells #[.slice none 0 0] 72)) 3 #[.int .i64 0] (by simp))
  have K1 := Lib.hid ((((Below.refl w.heap.size w).alloc (Nat.le_refl _) (.cells (Im.cells g (.slice A n c) r) 35)).alloc (by simp) (.cells #[.slice none 0 0] 72)).alloc (by simp <;> omega) (.cells #[.int .i64 0] 3))
  have hr1 := (hr.below K1.out).wider K1.out.size
  have cm := fun X hX => Lib.hid (immay_any g r A n c X hty hn hn63 hX)
  have HR := Lib.hid hr1
  have HN := Lib.hid hno
  clear hr hr1 hn hty hno
  go_enter_defers Tryz.func35, Tryz.ntmps35
  go_wp2_with (first | ((with_reducible refine im_load_state rfl rfl ?_); apply LoadIm.mk rfl; (focus (with_reducible exact P1.out)); dsimp only) | (go_at_call 73; ((with_reducible refine ((cm _ HR.out).out).mono ?_); rintro e w1 ⟨⟨v, rfl, hv⟩, hb⟩; obtain rfl : v = false := (by cases v <;> first | rfl | exact absurd (hv.1 rfl) HN.out); have C2 := Lib.hid (C1.out.below hb C1.out.lt); have B2 := Lib.hid (B1.out.below hb B1.out.lt); have K2 := Lib.hid (K1.out.trans (hb.mono K1.out.size)); clear hb hv)) | (go_at_call 72; ((with_reducible refine (need_no _ _).mono ?_); rintro e w2 ⟨rfl, rfl⟩)))
  refine leaves_cons (f := 71) (args := #[.pointer (some ⟨w.heap.size + 1, 0, none⟩), .pointer (some ⟨w.heap.size + 1 + 1, 0, none⟩)]) (by simp) (by simp [go_sem]) ?_
  refine (catch_put (w.heap.size + 1) (w.heap.size + 1 + 1) _ _ [] _ _ B2.out _ C2.out).mono ?_
  have ne : w.heap.size + 1 ≠ w.heap.size + 1 + 1 := by omega
  have B4 := (B2.out.put 0 (.slice none 0 0)).far (p := ⟨w.heap.size + 1 + 1, 0, none⟩) ne (.int .i64 1)
  have C4 := (C2.out.far (p := ⟨w.heap.size + 1, 0, none⟩) (fun e => ne e.symm) (.slice none 0 0)).put 0 (.int .i64 1)
  have K4 := (K2.out.setCell (p := ⟨w.heap.size + 1, 0, none⟩) (Nat.le_succ _) (.slice none 0 0)).setCell (p := ⟨w.heap.size + 1 + 1, 0, none⟩) (by show w.heap.size ≤ w.heap.size + 1 + 1; omega) (.int .i64 1)
  have b4 := B4.cell 0
  have c4 := C4.cell 0
  simp at b4 c4
  rintro e u' w'' ⟨rfl, rfl, rfl⟩
  simp [Leaves, settle, results, Tryz.results35, go_sem, b4, c4]
  exact K4

theorem put_yes (g : Gm.G) (r : Ros.R) (A : Option Addr) (n c : Nat) (w : World) (hok : Im.Ok g r) (hd : 0 ≤ g.dice ∧ g.dice ≤ 18446744073709551615) (hn : n = g.shots.length) (hr : Lies w w.heap.size 6 A n (Gm.shotCells g.shots)) :
    Calls Tryz.prog 35 #[.agg (Im.cells g (.slice A n c) r)] w fun e w' => ∃ A' c', e = .returned (.tuple #[.slice A' (Im.put g r).length c', .int .i64 0]) ∧ Lies w' w'.heap.size 1 A' (Im.put g r).length (Im.u8s (Im.put g r)) ∧ Below w.heap.size w w' := by
  have hmf : ∀ (fn : Fn) (first cap : Array Value) (w : World), (Instr.makeFunc fn first cap).run Tryz.prog w = .ok (.func fn first cap) w := fun _ _ _ _ => rfl
  have hn32 : g.shots.length ≤ 32 := hok.1.2.2.1
  have hlen := Im.put_le g r hn32
  have P1 := Lib.hid (((Box.made w 35 (Im.cells g (.slice A n c) r)).alloc (.cells #[.slice none 0 0] 72)).alloc (.cells #[.int .i64 0] 3))
  have B1 := Lib.hid ((Box.made_at (n := w.heap.size + 1) (w.alloc (.cells (Im.cells g (.slice A n c) r) 35)) 72 #[.slice none 0 0] (by simp)).alloc (.cells #[.int .i64 0] 3))
  have C1 := Lib.hid (Box.made_at (n := w.heap.size + 1 + 1) ((w.alloc (.cells (Im.cells g (.slice A n c) r) 35)).alloc (.cells #[.slice none 0 0] 72)) 3 #[.int .i64 0] (by simp))
  have K1 := Lib.hid ((((Below.refl w.heap.size w).alloc (Nat.le_refl _) (.cells (Im.cells g (.slice A n c) r) 35)).alloc (by simp) (.cells #[.slice none 0 0] 72)).alloc (by simp <;> omega) (.cells #[.int .i64 0] 3))
  have hr1 := (hr.below K1.out).wider K1.out.size
  have hr0 := hr.below K1.out
  have cm := fun X hX => Lib.hid (immay_any g r A n c X ⟨by have := hok.1.1; have := hok.1.2.1; unfold Gm.i64; omega, hd, fun i hi => (hok.1.2.2.2.1 i hi).ty, fun i hi => (hok.1.2.2.2.2 i hi).ty⟩ hn (by rw [hn]; unfold maxLen; omega) hX)
  have cl := fun Bp X h1 h2 h3 h4 => Lib.hid (laystate_w g r n A c w.heap.size [] w.heap.size (w.heap.size + 1) Bp X hn hok.1 hd hok.2.1 (Nat.le_succ _) (Nat.le_refl _) h1 h2 (by simp) h3 h4)
  have HR := Lib.hid hr1
  have H0 := Lib.hid hr0
  have HN := Lib.hid hok
  have HD := Lib.hid hd
  have HL := Lib.hid hlen
  clear hr hr1 hr0 hn hok hd hn32 hlen
  go_enter_defers Tryz.func35, Tryz.ntmps35
  go_wp2_with (first | ((with_reducible refine im_load_state rfl rfl ?_); apply LoadIm.mk rfl; (focus (with_reducible exact P1.out)); dsimp only) | (go_at_call 73; ((with_reducible refine ((cm _ HR.out).out).mono ?_); rintro e w1 ⟨⟨v, rfl, hv⟩, hb⟩; obtain rfl : v = true := hv.2 HN.out; have P2 := Lib.hid (P1.out.below hb P1.out.lt); have C2 := Lib.hid (C1.out.below hb C1.out.lt); have B2 := Lib.hid (B1.out.below hb B1.out.lt); have K2 := Lib.hid (K1.out.trans (hb.mono K1.out.size)); have H2 := Lib.hid (H0.out.below (hb.mono K1.out.size)); clear hb hv)) | (go_at_call 72; ((with_reducible refine (need_yes _ _).mono ?_); rintro e w2 ⟨rfl, rfl⟩)) | (go_at_call 75; ((with_reducible refine (writer_any _ _).mono ?_); rintro e w3 ⟨rfl, rfl⟩)) | (go_at_call 74; ((with_reducible refine ((cl _ _ (K2.out.alloc K2.out.size _).size (Wr.nil (Box.made _ _ _) (B2.out.alloc _)) (P2.out.alloc _) (H2.out.below ((one_below _ _).mono K2.out.size))).out).mono ?_); rintro e w3 ⟨rfl, hI, hb, hk⟩; rw [List.nil_append] at hI; have C3 := Lib.hid (hk _ _ _ (C2.out.alloc _) (by omega) (by decide) (by decide)); have K3 := Lib.hid ((K2.out.alloc K2.out.size _).trans hb); obtain ⟨h1, A', c', hB, ho⟩ := hI; have B3 := Lib.hid hB; have O3 := Lib.hid ho; have b3 := hB.cell 0; have f3 := hB.free 0; have c3 := (C3.out.far (p := ⟨w.heap.size + 1, 0, none⟩) (show w.heap.size + 1 + 1 ≠ w.heap.size + 1 by omega) (.slice A' (Im.put g r).length c')).cell 0; have g3 := (C3.out.far (p := ⟨w.heap.size + 1, 0, none⟩) (show w.heap.size + 1 + 1 ≠ w.heap.size + 1 by omega) (.slice A' (Im.put g r).length c')).free 0; clear h1 hB ho hb hk)))
  have ne : w.heap.size + 1 ≠ w.heap.size + 1 + 1 := by omega
  have B4 := (B3.out.put 0 (.slice A' (Im.put g r).length c')).far (p := ⟨w.heap.size + 1 + 1, 0, none⟩) ne (.int .i64 0)
  have C4 := (C3.out.far (p := ⟨w.heap.size + 1, 0, none⟩) (fun e => ne e.symm) (.slice A' (Im.put g r).length c')).put 0 (.int .i64 0)
  have K4 := (K3.out.setCell (p := ⟨w.heap.size + 1, 0, none⟩) (Nat.le_succ _) (.slice A' (Im.put g r).length c')).setCell (p := ⟨w.heap.size + 1 + 1, 0, none⟩) (by show w.heap.size ≤ w.heap.size + 1 + 1; omega) (.int .i64 0)
  have O4 := Lies.owned (ownsRow_setCell_other (a := ⟨w.heap.size + 1 + 1, 0, none⟩) (ownsRow_setCell_other (a := ⟨w.heap.size + 1, 0, none⟩) O3.out (B3.out.unowned O3.out (by decide)) (.slice A' (Im.put g r).length c')) ((C3.out.far (p := ⟨w.heap.size + 1, 0, none⟩) (fun e => ne e.symm) (.slice A' (Im.put g r).length c')).unowned (ownsRow_setCell_other (a := ⟨w.heap.size + 1, 0, none⟩) O3.out (B3.out.unowned O3.out (by decide)) (.slice A' (Im.put g r).length c')) (by decide)) (.int .i64 0))
  have b4 := B4.cell 0
  have c4 := C4.cell 0
  simp at b4 c4
  refine leaves_cons (f := 71) (args := #[.pointer (some ⟨w.heap.size + 1, 0, none⟩), .pointer (some ⟨w.heap.size + 1 + 1, 0, none⟩)]) (by simp) (by simp [go_sem]) ?_
  refine (catch_idle_put _ _ _).mono ?_
  rintro e u' w'' ⟨rfl, rfl, rfl⟩
  simp [Leaves, settle, results, Tryz.results35, go_sem, b4, c4]
  exact ⟨O4.wider (by simp), K4⟩
end Go.Proofs.YtkkhdaeihnbilaaGreat
namespace Im
open Go
end Im
namespace Rp
open Go
section
variable {P : Program} {st : List Nat} {E C D : World → Prop} {Q : Act → (World → Prop) → Prop} {o : Oper} {rest : List Oper} {n : Nat} {a : Act}
end
end Rp
namespace Go.Proofs.YtkkhdaeihnbilaaGreat
open Go.RowKit Go.Shelf
set_option linter.unusedVariables false
set_option linter.unusedSimpArgs false

/-- What a reader reads from: the variable in block Bb; what is left of the bytes lies below b; the reader holds the variable's place in block Bp. -/
structure Rd (b Bb Bp : Nat) (bs : List Int) (W : World) : Prop where
  ptr : Box W Bp 115 #[.pointer (some ⟨Bb, 0, none⟩)]
  var : ∃ A c, Box W Bb 72 #[.slice A bs.length c] ∧ bs.length ≤ c ∧ Lies W b 1 A bs.length (Im.u8s bs)
section
variable {b Bb Bp : Nat} {bs : List Int} {W W' : World}
theorem Rd.call (h : Rd b Bb Bp bs W) (hb : Below W.heap.size W W') (hs : b ≤ W.heap.size) : Rd b Bb Bp bs W' := by
  obtain ⟨h1, A, c, h2, hc, h3⟩ := h
  exact ⟨h1.below hb h1.lt, A, c, h2.below hb h2.lt, hc, h3.below (hb.mono hs)⟩
theorem Rd.off (h : Rd b Bb Bp bs W) {p : Addr} {t : TypeId} {cs : Array Value} (hp : Box W p.block t cs) (h1 : t ≠ 115) (h2 : t ≠ 72) (hb : b ≤ p.block) (u : Value) : Rd b Bb Bp bs (W.setCell p u) := by
  obtain ⟨k1, A, c, k2, kc, k3⟩ := h
  exact ⟨k1.far (fun e => Box.apart k1 hp (fun e' => h1 e'.symm) e) u, A, c, k2.far (fun e => Box.apart k2 hp (fun e' => h2 e'.symm) e) u, kc, k3.stays fun i hi => heap_setCell_other W p i u (by omega)⟩
theorem Rd.offRow (h : Rd b Bb Bp bs W) {p : Nat} {t : TypeId} {cs : Array Value} (hp : Box W p t cs) (h1 : t ≠ 115) (h2 : t ≠ 72) (hb : b ≤ p) (cs' : Array Value) : Rd b Bb Bp bs (W.setRow p cs') := by
  obtain ⟨k1, A, c, k2, kc, k3⟩ := h
  exact ⟨k1.row_far (fun e => Box.apart k1 hp (fun e' => h1 e'.symm) e) cs', A, c, k2.row_far (fun e => Box.apart k2 hp (fun e' => h2 e'.symm) e) cs', kc, k3.stays fun i hi => setRow_other W p i cs' (by omega)⟩
theorem Rd.isvar (h : Rd b Bb Bp bs W) : ∃ A n c, Box W Bb 72 #[.slice A n c] := by
  obtain ⟨_, A, c, k2, _⟩ := h
  exact ⟨A, _, c, k2⟩
theorem Rd.ne (h : Rd b Bb Bp bs W) : Bp ≠ Bb := by
  obtain ⟨h1, A, c, h2, _⟩ := h
  exact Box.apart h1 h2 (by decide)
end

theorem Lies.rest {w : World} {b k n c : Nat} {ad : Addr} {xs rest : List Int} (h : Lies w b 1 (some ad) n (Im.u8s (xs ++ rest))) (m : Nat) (hx : xs.length = k) (hc : n ≤ c) (hn : n = k + m) : Lies w b 1 (if c = k then some ad else some (ad.add k)) m (Im.u8s rest) := by
  have hl := h.len
  rw [Im.u8s_len, List.length_append, hx] at hl
  have hm : rest.length = m := by omega
  refine ⟨by rw [Im.u8s_len]; omega, fun h0 => ?_, fun ad' e h0 j u hj => ?_⟩
  · rw [if_neg (by omega)]
    obtain ⟨ad2, e2, hb⟩ := h.start (by omega)
    injection e2 with e2
    subst e2
    exact ⟨_, rfl, by rw [add_block]; exact hb⟩
  · rw [if_neg (by omega)] at e
    injection e with e
    subst e
    have := h.cell ad rfl (by omega) (k + j) u (by
      rw [Im.u8s_append, List.getElem?_append_right (by rw [Im.u8s_len]; omega), Im.u8s_len, hx, Nat.add_sub_cancel_left]
      exact hj)
    rw [← this]
    congr 1
    unfold Addr.add
    by_cases hk0 : k = 0 <;> by_cases hj0 : j = 0 <;> simp [hk0, hj0, Nat.add_assoc]

end Go.Proofs.YtkkhdaeihnbilaaGreat
namespace Im
open Go
/-- The byte at place k of a number. -/
def byte (v : Int) (k : Nat) : Int := v / 2 ^ (8 * k) % 256
/-- The cells cs' are cs, but for those from o on that are l. -/
def Patch (cs : Array Value) (o : Nat) (l : List Value) (cs' : Array Value) : Prop := ∀ j, cs'[j]? = if o ≤ j ∧ j < o + l.length then l[j - o]? else cs[j]?
theorem Patch.nil (cs : Array Value) (o : Nat) : Patch cs o [] cs := fun j => by rw [if_neg (by simp)]
theorem Patch.one {cs : Array Value} {o : Nat} {u : Value} (v : Value) (h : cs[o]? = some u) : Patch cs o [v] (cs.setIfInBounds o v) := fun j => by
  have ho : o < cs.size := (Array.getElem?_eq_some_iff.1 h).1
  by_cases e : o = j
  · subst e
    simp [ho]
  · rw [if_neg (by simp; omega), Array.getElem?_setIfInBounds_ne e]
theorem Patch.trans {cs cs' cs'' : Array Value} {o p : Nat} {l m : List Value} (h : Patch cs o l cs') (k : Patch cs' p m cs'') (hp : p = o + l.length) : Patch cs o (l ++ m) cs'' := fun j => by
  rw [k j, h j, List.length_append]
  subst hp
  by_cases h1 : o ≤ j ∧ j < o + l.length
  · rw [if_pos h1, if_neg (by omega), if_pos (by omega), List.getElem?_append_left (by omega)]
  · by_cases h2 : o + l.length ≤ j ∧ j < o + l.length + m.length
    · rw [if_pos h2, if_pos (by omega), List.getElem?_append_right (by omega)]
      congr 1; omega
    · rw [if_neg h2, if_neg h1, if_neg (by omega)]
theorem Patch.cell {cs cs' : Array Value} {o : Nat} {l : List Value} (h : Patch cs o l cs') {j : Nat} (hj : j < o ∨ o + l.length ≤ j) : cs'[j]? = cs[j]? := by rw [h j, if_neg (by omega)]
theorem Patch.at {cs cs' : Array Value} {o : Nat} {l : List Value} (h : Patch cs o l cs') (i : Nat) (hi : i < l.length) : cs'[o + i]? = l[i]? := by rw [h (o + i), if_pos (by omega), Nat.add_sub_cancel_left]
/-- What stands there already may be said to be patched, too. -/
theorem Patch.more {cs cs' : Array Value} {o : Nat} {l : List Value} (h : Patch cs o l cs') (m : List Value) (hm : ∀ i, i < m.length → cs[o + l.length + i]? = m[i]?) : Patch cs o (l ++ m) cs' := fun j => by
  rw [h j, List.length_append]
  by_cases h1 : o ≤ j ∧ j < o + l.length
  · rw [if_pos h1, if_pos (by omega), List.getElem?_append_left (by omega)]
  · rw [if_neg h1]
    by_cases h2 : o + l.length ≤ j ∧ j < o + l.length + m.length
    · rw [if_pos (by omega), List.getElem?_append_right (by omega), ← hm _ (by omega)]
      congr 1; omega
    · rw [if_neg (by omega)]
end Im
namespace Go.Proofs.YtkkhdaeihnbilaaGreat
open Go.RowKit Go.Shelf
set_option linter.unusedVariables false
set_option linter.unusedSimpArgs false

/-- What a reader does to the world, where it lays what it reads in block P. -/
structure Rk (b Bb P : Nat) (w w' : World) : Prop where
  below : Below b w w'
  kb : Kb P w w'

section
variable {b Bb P L : Nat} {w w0 w1 : World}
theorem Kb.fresh (h : Kb P w w0) (k : Kb L w0 w1) (hL : w.heap.size ≤ L) : Kb P w w1 := fun g t cs hg hne h1 h2 => k g t cs (h g t cs hg hne h1 h2) (by have := hg.lt; omega) h1 h2
theorem Rk.trans (h : Rk b Bb P w w0) (k : Rk b Bb P w0 w1) : Rk b Bb P w w1 := ⟨h.below.trans k.below, h.kb.trans k.kb⟩
theorem Rk.alloc (hb : b ≤ w.heap.size) (o : Obj) : Rk b Bb P w (w.alloc o) := ⟨(one_below w o).mono hb, (Kb.refl w).call (one_below w o)⟩
theorem Rk.put (h : Rk b Bb P w w0) (hb : b ≤ P) (i : Nat) (u : Value) : Rk b Bb P w (w0.setCell ⟨P, i, none⟩ u) := ⟨h.below.setCell hb _, h.kb.put i u⟩
theorem Rk.refl (b Bb P : Nat) (w : World) : Rk b Bb P w w := ⟨Below.refl _ _, Kb.refl w⟩
end
end Go.Proofs.YtkkhdaeihnbilaaGreat
namespace Go.Proofs.YtkkhdaeihnbilaaGreat
namespace Im
open Go Go.RowKit _root_.Im
/-- The zero of a roster; a roster that is read up to a seat. -/
def R0 : Ros.R := ⟨0, fun _ => 0, fun _ => 0⟩
def G0 : Gm.G := ⟨0, 0, fun _ => Gm.Ship.none, []⟩
end Im
open Go.RowKit Go.Shelf
set_option linter.unusedVariables false
set_option linter.unusedSimpArgs false

end Go.Proofs.YtkkhdaeihnbilaaGreat
namespace Go.Proofs.YtkkhdaeihnbilaaGreat
open Go.RowKit Go.Shelf
set_option linter.unusedVariables false
set_option linter.unusedSimpArgs false

namespace Im
def zero : Array Value := cells G0 (.slice none 0 0) R0
theorem zero_size : zero.size = 76 := cells_size _ _ _
end Im
theorem state_zero : (Tryz.prog.info? 35).map (·.zero) = some (some (.agg Im.zero)) := by kernel_rfl
theorem alloc_state {ops : Array Oper} {Q : Exit → Act → World → Prop} {o : Oper} {rest : List Oper} {a : Act} {w : World} (hgd : o.guard = none) (ho : o.op = .alloc 35)
    (h : wpList Tryz.prog ops Q rest (a.put o.dst (.pointer (some ⟨w.heap.size, 0, none⟩))) (w.alloc (.cells Im.zero 35))) : wpList Tryz.prog ops Q (o :: rest) a w :=
  wpList_alloc_z hgd ho state_zero rfl h
theorem ros_cells_one (r : Ros.R) : (Ros.cells r).all (·.oneCell') = true := by
  rw [Array.all_eq_true']
  intro x hx
  obtain ⟨n, rfl⟩ := Ros.cells_ints r x (by simpa using hx)
  rfl
theorem im_cells_one (g : Gm.G) (s : Value) (r : Ros.R) (hs : s.oneCell' = true) : (Im.cells g s r).all (·.oneCell') = true := by
  unfold Im.cells
  rw [Array.all_append, cells_one g s hs, ros_cells_one r]
  rfl
end Go.Proofs.YtkkhdaeihnbilaaGreat
namespace Go.Proofs.YtkkhdaeihnbilaaGreat
open Go.RowKit Go.Shelf
set_option linter.unusedVariables false
set_option linter.unusedSimpArgs false

/-- A row of which the cells from o on are l. -/
def splice (cs : Array Value) (o : Nat) (l : List Value) : Array Value := (cs.toList.take o ++ l ++ cs.toList.drop (o + l.length)).toArray
theorem splice_cons (cs : Array Value) (o : Nat) (v : Value) (l : List Value) (h : o + (l.length + 1) ≤ cs.size) : splice (cs.setIfInBounds o v) (o + 1) l = splice cs o (v :: l) := by
  unfold splice
  congr 1
  rw [Array.toList_setIfInBounds, List.length_cons]
  have ho : o < cs.toList.length := by rw [Array.length_toList]; omega
  rw [List.take_set, List.drop_set, if_pos (by omega), List.append_assoc, List.append_assoc]
  rw [show o + 1 + l.length = o + (l.length + 1) by omega]
  rw [List.take_add_one, List.getElem?_eq_getElem ho, Option.toList_some, List.set_append_right _ _ (by rw [List.length_take]; omega)]
  rw [List.length_take, Nat.min_eq_left (by omega), Nat.sub_self]
  simp
theorem setCells_row (g : Nat) (t : TypeId) : ∀ (l : List Value) (o : Nat) (cs : Array Value) (w : World), w.heap[g]? = some (.cells cs t (0, 0)) → o + l.length ≤ cs.size → w.setCells g o l = w.setRow g (splice cs o l)
  | [], o, cs, w, hg, hl => by
    have e : splice cs o [] = cs := by unfold splice; simp
    rw [e]
    show w = _
    have hv : w.heap[g]'(Array.getElem?_eq_some_iff.1 hg).1 = .cells cs t (0, 0) := (Array.getElem?_eq_some_iff.1 hg).2
    unfold World.setRow
    cases w with
    | mk heap tape drawn os output =>
      congr 1
      apply Array.ext
      · simp
      · intro k h1 h2
        simp only [Array.getElem_modify]
        split
        · rename_i hk; subst hk; simp at hv; simp [hv]
        · rfl
  | v :: l, o, cs, w, hg, hl => by
    rw [List.length_cons] at hl
    rw [World.setCells, setCell_eq_setRow w g o cs t (0, 0) v hg, setCells_row g t l (o + 1) _ _ (setRow_heap w g cs _ t _ hg) (by rw [Array.size_setIfInBounds]; omega), setRow_setRow, splice_cons cs o v l hl]

theorem Im.cells_list (g : Gm.G) (s : Value) (r : Ros.R) : (Im.cells g s r).toList = (Gm.cells g s).toList ++ (Ros.cells r).toList := by unfold Im.cells; rw [Array.toList_append]
theorem Im.splice_g (g g' : Gm.G) (s s' : Value) (r : Ros.R) : splice (Im.cells g s r) 0 (Gm.cells g' s').toList = Im.cells g' s' r := by
  unfold splice
  rw [Im.cells_list, List.take_zero, List.nil_append, Nat.zero_add, List.drop_left' (by rw [Array.length_toList, Array.length_toList, Gm.cells_size, Gm.cells_size]), ← Im.cells_list, Array.toArray_toList]
theorem Im.splice_r (g : Gm.G) (s : Value) (r r' : Ros.R) : splice (Im.cells g s r) 59 (Ros.cells r').toList = Im.cells g s r' := by
  have e : (59 : Nat) = (Gm.cells g s).toList.length := by rw [Array.length_toList, Gm.cells_size]
  have e2 : ((Gm.cells g s).toList ++ (Ros.cells r).toList).length ≤ 59 + (Ros.cells r').toList.length := by rw [List.length_append, Array.length_toList, Array.length_toList, Array.length_toList, Gm.cells_size, Ros.cells_size, Ros.cells_size]; omega
  unfold splice
  rw [Im.cells_list, List.drop_of_length_le e2, List.append_nil, List.take_left' e.symm, ← Im.cells_list, Array.toArray_toList]
theorem im_one (g : Gm.G) (s : Value) (r : Ros.R) (hs : s.oneCell' = true) : (Im.cells g s r).all (·.oneCell') = true := by
  refine Array.all_eq_true_iff_forall_mem.2 fun v hv => ?_
  rcases Array.mem_append.1 hv with h | h
  · exact Array.all_eq_true_iff_forall_mem.1 (cells_one g s hs) v h
  · exact Array.all_eq_true_iff_forall_mem.1 (ros_one r) v h

section
variable {ops : Array Oper} {rest : List Oper} {o : Oper} {a : Act} {w : World} {Q : Exit → Act → World → Prop} {x y : Operand} {dst : Option Tmp} {p v : Value}
theorem im_load_ros (hgd : o.guard = none) (ho : o.op = .load 33 x) (h : LoadIm ops Q rest o.dst (a.eval x) 59 (fun _ _ r => Ros.cells r) a w) : wpList Tryz.prog ops Q (o :: rest) a w := by
  obtain ⟨B, g, s, r, hx, hB, h⟩ := h
  refine wpList_load_part hgd ho hx hB (Ros.cells r).toList (fun j v hv => ?_) Tryz.underlying33 rfl ros_info h
  rw [Im.cells_r]
  simpa using hv
/-- What the store of a state's game, of its roster, of a whole state wants. -/
def StoreG (ops : Array Oper) (Q : Exit → Act → World → Prop) (rest : List Oper) (dst : Option Tmp) (p v : Value) (a : Act) (w : World) : Prop :=
  ∃ (B : Nat) (g : Gm.G) (s : Value) (r : Ros.R) (g' : Gm.G) (s' : Value), p = .pointer (some ⟨B, 0, none⟩) ∧ v = .agg (Gm.cells g' s') ∧ Box w B 35 (Im.cells g s r) ∧ s'.oneCell' = true ∧ wpList Tryz.prog ops Q rest (a.put dst undef) (w.setRow B (Im.cells g' s' r))
theorem StoreG.mk {B : Nat} {g : Gm.G} {s : Value} {r : Ros.R} {g' : Gm.G} {s' : Value} (hp : p = .pointer (some ⟨B, 0, none⟩)) (hv : v = .agg (Gm.cells g' s')) (hB : Box w B 35 (Im.cells g s r)) (hs : s'.oneCell' = true)
    (h : wpList Tryz.prog ops Q rest (a.put dst undef) (w.setRow B (Im.cells g' s' r))) : StoreG ops Q rest dst p v a w := ⟨B, g, s, r, g', s', hp, hv, hB, hs, h⟩
theorem Box.there {g : Nat} {t : TypeId} {cs : Array Value} (h : Box w g t cs) (f n : Nat) (hf : f + n ≤ cs.size) : w.there g f n := fun j hj => ⟨by rw [h.cell, Array.getElem?_eq_getElem (by omega)]; rfl, h.free _⟩
theorem im_store_game (hgd : o.guard = none) (ho : o.op = .store 28 x y) (h : StoreG ops Q rest o.dst (a.eval x) (a.eval y) a w) : wpList Tryz.prog ops Q (o :: rest) a w := by
  obtain ⟨B, g, s, r, g', s', hx, hy, hB, hs, h⟩ := h
  refine wpList_store_mid hgd 28 x y ho B 0 (Gm.cells g' s') hx hy (hB.there 0 _ (by rw [Im.cells_size, Gm.cells_size]; omega)) game_info (cells_one _ _ hs) ?_
  rw [setCells_row B 35 _ 0 (Im.cells g s r) w hB.is (by rw [Im.cells_size, Array.length_toList, Gm.cells_size]; omega), Im.splice_g]
  exact h
def StoreR (ops : Array Oper) (Q : Exit → Act → World → Prop) (rest : List Oper) (dst : Option Tmp) (p v : Value) (a : Act) (w : World) : Prop :=
  ∃ (B : Nat) (g : Gm.G) (s : Value) (r r' : Ros.R), p = .pointer (some ⟨B, 59, none⟩) ∧ v = .agg (Ros.cells r') ∧ Box w B 35 (Im.cells g s r) ∧ wpList Tryz.prog ops Q rest (a.put dst undef) (w.setRow B (Im.cells g s r'))
theorem StoreR.mk {B : Nat} {g : Gm.G} {s : Value} {r r' : Ros.R} (hp : p = .pointer (some ⟨B, 59, none⟩)) (hv : v = .agg (Ros.cells r')) (hB : Box w B 35 (Im.cells g s r))
    (h : wpList Tryz.prog ops Q rest (a.put dst undef) (w.setRow B (Im.cells g s r'))) : StoreR ops Q rest dst p v a w := ⟨B, g, s, r, r', hp, hv, hB, h⟩
theorem im_store_ros (hgd : o.guard = none) (ho : o.op = .store 33 x y) (h : StoreR ops Q rest o.dst (a.eval x) (a.eval y) a w) : wpList Tryz.prog ops Q (o :: rest) a w := by
  obtain ⟨B, g, s, r, r', hx, hy, hB, h⟩ := h
  refine wpList_store_mid hgd 33 x y ho B 59 (Ros.cells r') hx hy (hB.there 59 _ (by rw [Im.cells_size, Ros.cells_size]; omega)) ros_info (ros_one _) ?_
  rw [setCells_row B 35 _ 59 (Im.cells g s r) w hB.is (by rw [Im.cells_size, Array.length_toList, Ros.cells_size]; omega), Im.splice_r]
  exact h
def StoreS (ops : Array Oper) (Q : Exit → Act → World → Prop) (rest : List Oper) (dst : Option Tmp) (p v : Value) (a : Act) (w : World) : Prop :=
  ∃ (B : Nat) (old : Array Value) (g' : Gm.G) (s' : Value) (r' : Ros.R), p = .pointer (some ⟨B, 0, none⟩) ∧ v = .agg (Im.cells g' s' r') ∧ Box w B 35 old ∧ old.size = 76 ∧ s'.oneCell' = true ∧ wpList Tryz.prog ops Q rest (a.put dst undef) (w.setRow B (Im.cells g' s' r'))
theorem StoreS.mk {B : Nat} {old : Array Value} {g' : Gm.G} {s' : Value} {r' : Ros.R} (hp : p = .pointer (some ⟨B, 0, none⟩)) (hv : v = .agg (Im.cells g' s' r')) (hB : Box w B 35 old) (ho : old.size = 76) (hs : s'.oneCell' = true)
    (h : wpList Tryz.prog ops Q rest (a.put dst undef) (w.setRow B (Im.cells g' s' r'))) : StoreS ops Q rest dst p v a w := ⟨B, old, g', s', r', hp, hv, hB, ho, hs, h⟩
theorem im_store_state (hgd : o.guard = none) (ho : o.op = .store 35 x y) (h : StoreS ops Q rest o.dst (a.eval x) (a.eval y) a w) : wpList Tryz.prog ops Q (o :: rest) a w := by
  obtain ⟨B, old, g', s', r', hx, hy, hB, h76, hs, h⟩ := h
  exact wpList_store_blk hgd ho hx hy hB (by rw [Im.cells_size]; exact state_info) (by rw [Im.cells_size]; exact h76) (im_one _ _ _ hs) h
end
end Go.Proofs.YtkkhdaeihnbilaaGreat
namespace Im
open Go
def IsBytes (bs : List Int) : Prop := ∀ x ∈ bs, 0 ≤ x ∧ x ≤ 255
theorem IsBytes.nil : IsBytes [] := fun _ h => by cases h
theorem IsBytes.drop {bs : List Int} (h : IsBytes bs) (n : Nat) : IsBytes (bs.drop n) := fun x hx => h x (List.mem_of_mem_drop hx)
theorem IsBytes.take {bs : List Int} (h : IsBytes bs) (n : Nat) : IsBytes (bs.take n) := fun x hx => h x (List.mem_of_mem_take hx)
end Im
namespace Go.Proofs.YtkkhdaeihnbilaaGreat
open Go.RowKit Go.Shelf
set_option linter.unusedVariables false
set_option linter.unusedSimpArgs false

end Go.Proofs.YtkkhdaeihnbilaaGreat
namespace En
open Go Im
structure Ev where
  kind : Int
  slot : Int
  gen : Int
  peer : Int
/-- An entry: of the inputs those of slots 0 to 7 count. -/
structure E where
  frame : Int
  evs : List Ev
  inp : Nat → Gm.In
def Ev.cells (v : Ev) : List Value := [.int .i64 v.kind, .int .i64 v.slot, .int .i64 v.gen, .int .i64 v.peer]
def evCells (l : List Ev) : List Value := l.flatMap Ev.cells
theorem evCells_at (l : List Ev) (k j : Nat) (hk : k < l.length) (hj : j < 4) : (evCells l)[k * 4 + j]? = l[k].cells[j]? := by
  induction l generalizing k with
  | nil => simp at hk
  | cons s l ih =>
    unfold evCells at *
    rw [List.flatMap_cons]
    match k with
    | 0 => rw [List.getElem?_append_left (by simp [Ev.cells]; omega)]; simp
    | k + 1 =>
      rw [List.getElem?_append_right (by simp [Ev.cells]; omega)]
      have := ih k (by simpa using hk)
      rw [show (k + 1) * 4 + j - s.cells.length = k * 4 + j from by simp [Ev.cells]; omega, this]
      simp
/-- The 26 cells of an entry whose events are the slice s. -/
def cells (e : E) (s : Value) : Array Value := ([Value.int .i64 e.frame, s] ++ Gm.insCells e.inp).toArray
theorem cells_size (e : E) (s : Value) : (cells e s).size = 26 := rfl
theorem cells_0 (e : E) (s : Value) : (cells e s)[0]? = some (.int .i64 e.frame) := rfl
theorem cells_1 (e : E) (s : Value) : (cells e s)[1]? = some s := rfl
theorem cells_ins (e : E) (s : Value) : ∀ j v, (Gm.insCells e.inp)[j]? = some v → (cells e s)[2 + j]? = some v := fun j v hv => by
  unfold cells
  rw [List.getElem?_toArray, List.getElem?_append_right (by simp)]
  simpa using hv
theorem cells_one (e : E) (s : Value) (h : s.oneCell' = true) : (cells e s).all (·.oneCell') = true := by
  refine Array.all_eq_true_iff_forall_mem.2 fun v hv => ?_
  have hv : v ∈ [Value.int .i64 e.frame, s] ++ Gm.insCells e.inp := by simpa [cells] using hv
  simp only [Gm.insCells, Gm.In.cells, List.mem_append, List.mem_cons, List.not_mem_nil, or_false] at hv
  rcases hv with (rfl | rfl) | hv
  · rfl
  · exact h
  · rcases hv with hv | hv | hv | hv | hv | hv | hv | hv <;> (rcases hv with rfl | rfl | rfl <;> rfl)
def upd (f : Nat → Gm.In) (i : Nat) (p : Gm.In) : Nat → Gm.In := fun j => if j = i then p else f j
theorem upd_same (f : Nat → Gm.In) (i : Nat) (p : Gm.In) : upd f i p i = p := by unfold upd; rw [if_pos rfl]
theorem upd_other (f : Nat → Gm.In) {i j : Nat} (p : Gm.In) (h : j ≠ i) : upd f i p j = f j := by unfold upd; rw [if_neg h]
theorem cells_evs (e : E) (s s' : Value) : (cells e s).setIfInBounds 1 s' = cells e s' := rfl
def evOk (v : Ev) : Prop := (v.kind = 2 ∨ v.kind = 1) ∧ (0 ≤ v.slot ∧ v.slot < 8) ∧ (1 ≤ v.gen ∧ v.gen ≤ 60000) ∧ 0 ≤ v.peer ∧ v.peer < 12
instance (v : Ev) : Decidable (evOk v) := by unfold evOk; infer_instance
def place (v : Ev) : Int := if v.kind = 2 then v.slot else 8 + v.slot
def Row : Int → List Ev → Prop
  | _, [] => True
  | last, v :: l => (evOk v ∧ last < place v) ∧ Row (place v) l
instance rowDec : ∀ (last : Int) (l : List Ev), Decidable (Row last l)
  | _, [] => .isTrue trivial
  | last, v :: l => by unfold Row; exact @instDecidableAnd _ _ _ (rowDec (place v) l)
theorem place_lt {v : Ev} (h : evOk v) : 0 ≤ place v ∧ place v < 16 := by
  obtain ⟨h1, h2, _⟩ := h
  unfold place
  split <;> omega
theorem row_len : ∀ (l : List Ev) (last : Int), -1 ≤ last → last < 16 → Row last l → (l.length : Int) ≤ 15 - last
  | [], last, _, h, _ => by simp; omega
  | v :: l, last, h0, h1, h => by
    obtain ⟨⟨h2, h3⟩, h4⟩ := h
    have hp := place_lt h2
    have := row_len l (place v) (by omega) (by omega) h4
    simp only [List.length_cons]
    omega
theorem row_mem : ∀ (l : List Ev) (last : Int), Row last l → ∀ v ∈ l, evOk v
  | v :: l, last, h, u, hu => by
    rcases List.mem_cons.1 hu with rfl | hu
    · exact h.1.1
    · exact row_mem l _ h.2 u hu
def inOk (p : Gm.In) : Prop := -127 ≤ p.x ∧ -127 ≤ p.y
instance (p : Gm.In) : Decidable (inOk p) := by unfold inOk; infer_instance
structure Ok (e : E) : Prop where
  frame : 0 ≤ e.frame ∧ e.frame < 1048576
  row : Row (-1) e.evs
  ins : ∀ i, i < 8 → inOk (e.inp i)
instance (e : E) : Decidable (Ok e) := decidable_of_iff ((0 ≤ e.frame ∧ e.frame < 1048576) ∧ Row (-1) e.evs ∧ ∀ i, i < 8 → inOk (e.inp i)) ⟨fun h => ⟨h.1, h.2.1, h.2.2⟩, fun h => ⟨h.frame, h.row, h.ins⟩⟩
theorem Ok.count {e : E} (h : Ok e) : e.evs.length ≤ 16 := by
  have := row_len e.evs (-1) (by omega) (by omega) h.row
  omega
def i64 (x : Int) : Prop := -9223372036854775808 ≤ x ∧ x ≤ 9223372036854775807
def tyEv (v : Ev) : Prop := i64 v.kind ∧ i64 v.slot ∧ i64 v.gen ∧ i64 v.peer
theorem evOk.ty {v : Ev} (h : evOk v) : tyEv v := by
  obtain ⟨h1, h2, h3, h4⟩ := h
  unfold tyEv i64
  omega

def zero (p : Gm.In) : Bool := decide (p.x = 0 ∧ p.y = 0 ∧ p.b = 0)
def mask (f : Nat → Gm.In) : Nat → Nat
  | 0 => 0
  | k + 1 => mask f k + (if zero (f k) then 0 else 2 ^ k)
def evBytes (v : Ev) : List Int := bytesOf 1 v.kind ++ (bytesOf 1 v.slot ++ (bytesOf 2 v.gen ++ bytesOf 1 v.peer))
def evsBytes (l : List Ev) : List Int := l.flatMap evBytes
def inBytes (p : Gm.In) : List Int := bytesOf 1 p.x ++ (bytesOf 1 p.y ++ bytesOf 1 p.b)
def insBytes (f : Nat → Gm.In) : Nat → List Int
  | 0 => []
  | k + 1 => insBytes f k ++ (if zero (f k) then [] else inBytes (f k))
theorem evBytes_len (v : Ev) : (evBytes v).length = 5 := by unfold evBytes; simp only [List.length_append, bytesOf_len]
theorem inBytes_len (p : Gm.In) : (inBytes p).length = 3 := by unfold inBytes; simp only [List.length_append, bytesOf_len]
theorem evsBytes_len (l : List Ev) : (evsBytes l).length = 5 * l.length := by
  induction l with
  | nil => rfl
  | cons s l ih => unfold evsBytes at *; rw [List.flatMap_cons, List.length_append, ih, evBytes_len, List.length_cons]; omega
theorem insBytes_le (f : Nat → Gm.In) : ∀ k, (insBytes f k).length ≤ 3 * k
  | 0 => Nat.le_refl _
  | k + 1 => by
    unfold insBytes
    have := insBytes_le f k
    rw [List.length_append]
    split
    · simp; omega
    · rw [inBytes_len]; omega
/-- An entry's bytes. -/
def put (e : E) : List Int := bytesOf 4 e.frame ++ ((bytesOf 1 e.evs.length ++ evsBytes e.evs) ++ (bytesOf 1 (mask e.inp 8) ++ insBytes e.inp 8))
theorem put_le {e : E} (h : e.evs.length ≤ 16) : (put e).length ≤ 110 := by
  have h1 := evsBytes_len e.evs
  have h2 := insBytes_le e.inp 8
  unfold put
  simp only [List.length_append, bytesOf_len]
  omega
end En
namespace Go.Proofs.YtkkhdaeihnbilaaGreat
open Go.RowKit
set_option linter.unusedVariables false

theorem own_rebase {w : World} {base base' : Nat} {e : TypeId} {size n : Nat} {v : Value} {xs : List Value} (h : w.ownsRow base e size v n xs) (hb : base' ≤ base) : w.ownsRow base' e size v n xs := by
  obtain ⟨hl, h' | ⟨g, cap, cur, hv, hbg, hr⟩⟩ := h
  · exact ⟨hl, .inl h'⟩
  · exact ⟨hl, .inr ⟨g, cap, cur, hv, Nat.le_trans hb hbg, hr⟩⟩

set_option maxRecDepth 100000 in
set_option maxHeartbeats 1000000 in
theorem clone_any (l : List Gm.Shot) (A : Option Addr) (n c : Nat) (w : World) (hn : n = l.length) (hn32 : n ≤ 60) (hr : Lies w w.heap.size 6 A n (Gm.shotCells l)) :
    Calls Tryz.prog 79 #[.slice A n c] w fun e w' => ∃ A' c', e = .returned (.slice A' n c') ∧ w'.ownsRow w.heap.size 90 6 (.slice A' n c') n (Gm.shotCells l) ∧ Below w.heap.size w w' := by
  have hmf : ∀ (fn : Fn) (first cap : Array Value) (w : World), (Instr.makeFunc fn first cap).run Tryz.prog w = .ok (.func fn first cap) w := fun _ _ _ _ => rfl
  obtain ⟨i0, hi0, hz0, hz1, hz2⟩ := info_parts shot_info
  have hI := Lib.hid hi0
  have hZ := Lib.hid hz0
  have hS := Lib.hid hz1
  have hY := Lib.hid hz2
  have hL := Lib.hid hr
  have hN := Lib.hid hn
  clear hn hi0 hz0 hz1 hz2 hr
  cases A with
  | none =>
    have hn0 : n = 0 := by
      by_cases h : n = 0
      · exact h
      · obtain ⟨ad, he, _⟩ := hL.out.start h; cases he
    subst hn0
    have hnil : ∀ W : World, (binOp .eql 26 (.slice none 0 c) (.slice none 0 0)).run Tryz.prog W = .ok (.bool true) W := fun W => Lib.run_eql_slice_nil W _ _ none 0 c 0 0 Tryz.underlying26
    go_enter Tryz.func79, Tryz.ntmps79
    go_wp2
    go_ret
    refine ⟨none, 0, rfl, ?_, Below.refl _ _⟩
    have hl : l = [] := List.eq_nil_of_length_eq_zero hN.out.symm
    subst hl
    exact World.ownsRow_nil _ _ _ _
  | some ad =>
    have hnil : ∀ W : World, (binOp .eql 26 (.slice (some ad) n c) (.slice none 0 0)).run Tryz.prog W = .ok (.bool false) W := fun W => Lib.run_eql_slice_nil W _ _ (some ad) n c 0 0 Tryz.underlying26
    have own0 := Lib.hid (World.ownsRow_lit (base := w.heap.size) (e := 90) (size := 6) w #[] 0 (Nat.le_refl _) (by unfold maxLen; omega) rfl)
    have hb0 := Lib.hid (one_below w (.cells #[] 90))
    have hL1 := Lib.hid ((hL.out.below hb0.out).wider hb0.out.size)
    go_enter Tryz.func79, Tryz.ntmps79
    go_wp2_with ((with_reducible refine append_gate (x := .tmp 5) (y := .tmp 6) (t := 26) (e := 90) (size := 6) (bytes := 32) rfl rfl Tryz.underlying26 hI.out hZ.out hS.out hY.out rfl (by decide) ?_); refine Appends.mk (base := w.heap.size) (n := 0) (xs := []) rfl own0.out hL1.out (shotCells_one _) (by unfold maxLen; omega) (by omega) (by simp) ?_; intro A2 k2 w2 own2 hg2; have OW := Lib.hid own2; have HG := Lib.hid hg2; clear own2 hg2)
    go_ret
    refine ⟨A2, k2, by simp, ?_, ?_⟩
    · have h := OW.out
      simpa using h
    · exact (hb0.out).grown HG.out (by simp) (fun k hk => by injection hk with hk; have : w.heap.size = k := hk; omega)

set_option maxRecDepth 100000 in
set_option maxHeartbeats 1000000 in
theorem own_any (g : Gm.G) (A : Option Addr) (n c : Nat) (w : World) (hn : n = g.shots.length) (hn32 : n ≤ 60) (hr : Lies w w.heap.size 6 A n (Gm.shotCells g.shots)) :
    Calls Tryz.prog 98 #[.agg (Gm.cells g (.slice A n c))] w fun e w' => ∃ A' c', e = .returned (.agg (Gm.cells g (.slice A' n c'))) ∧ w'.ownsRow w.heap.size 90 6 (.slice A' n c') n (Gm.shotCells g.shots) ∧ Below w.heap.size w w' := by
  have b1 : Box ((w.alloc (.cells (Gm.cells g (.slice A n c)) 28)).alloc (.cells (Gm.cells zeroG (.slice none 0 0)) 28)) w.heap.size 28 (Gm.cells g (.slice A n c)) := (Box.made _ _ _).alloc _
  have b2 : Box ((w.alloc (.cells (Gm.cells g (.slice A n c)) 28)).alloc (.cells (Gm.cells zeroG (.slice none 0 0)) 28)) (w.heap.size + 1) 28 (Gm.cells zeroG (.slice none 0 0)) := Box.made_at _ _ _ (by simp)
  have hb0 := two_below' w (.cells (Gm.cells g (.slice A n c)) 28) (.cells (Gm.cells zeroG (.slice none 0 0)) 28)
  have c1 := Lib.hid (clone_any g.shots A n c _ hn hn32 ((hr.below hb0).wider hb0.size))
  have e58 := Gm.cells_58 g (.slice A n c)
  have hc := b1.cell
  have HB := Lib.hid hb0
  have B1 := Lib.hid b1
  have B2 := Lib.hid b2
  clear hr hn b1 b2 hb0
  go_enter Tryz.func98, Tryz.ntmps98
  go_wp2_with (first | (refine wpList_alloc_game rfl rfl ?_) | (go_at_call 79; ((with_reducible refine ((c1).out).mono ?_); rintro e w1 ⟨A', c', rfl, ho, hb⟩; have D1 := B1.out.below hb (by simp <;> omega); have D2 := B2.out.below hb (by simp <;> omega); have k1 := D1.cell; have f1 := D1.free; have O1 := Lib.hid ho; have HB1 := Lib.hid (HB.out.trans (hb.mono HB.out.size)); have F1 := Lib.hid (blk_shots D1 (.slice A' n c')); have ne1 : w.heap.size + 1 ≠ w.heap.size := (by omega); have F2 := Lib.hid (D2.far (p := ⟨w.heap.size, 58, none⟩) ne1 (.slice A' n c')); have nO := Lib.hid (D1.unowned ho (by decide)); have nO2 := Lib.hid (D2.unowned ho (by decide)); clear D1 D2 ho hb ne1)) | ((with_reducible refine load_gate rfl rfl ?_); apply LoadGame.mk rfl; exact F1.out) | ((with_reducible refine store_gate rfl rfl ?_); apply StoreGame.mk rfl rfl rfl; exact F2.out))
  refine bodyPost_ret (v := .agg (Gm.cells g (.slice A' n c'))) ?_ ?_ ?_
  · exact results_cell_row rfl _ _ _ _ (Gm.cells g (.slice A' n c')) (0, 0) _ rfl (Box.row F2.out _).is Tryz.underlying28 rfl game_info
  · rfl
  · refine ⟨A', c', rfl, ?_, ?_⟩
    · have h := own_setRow (ownsRow_setCell_other (a := ⟨w.heap.size, 58, none⟩) O1.out nO.out (.slice A' n c')) nO2.out (Gm.cells g (.slice A' n c'))
      exact own_rebase h (by simp; omega)
    · exact Below.setRow' (HB1.out.setCell (p := ⟨w.heap.size, 58, none⟩) (by simp) _) (by omega) _
end Go.Proofs.YtkkhdaeihnbilaaGreat
namespace Go.Proofs.YtkkhdaeihnbilaaGreat
open Go.RowKit
set_option linter.unusedVariables false

/-- From w to w' everything stays that lies below b, and everything else but block B and rows of shots. -/
structure Keep (b B : Nat) (w w' : World) : Prop where
  os : w'.os = w.os
  tape : w'.tape = w.tape
  output : w'.output = w.output
  size : w.heap.size ≤ w'.heap.size
  low : b ≤ B
  block : ∀ k, k < w.heap.size → (k < b ∨ k ≠ B ∧ ∀ cs, w.heap[k]? ≠ some (.cells cs 90 (0, 0))) → w'.heap[k]? = w.heap[k]?

section
variable {b B : Nat} {w w' w'' : World}
theorem Keep.refl (h : b ≤ B) (w : World) : Keep b B w w := ⟨rfl, rfl, rfl, Nat.le_refl _, h, fun _ _ _ => rfl⟩
theorem Keep.trans (h : Keep b B w w') (k : Keep b B w' w'') : Keep b B w w'' :=
  ⟨k.os.trans h.os, k.tape.trans h.tape, k.output.trans h.output, Nat.le_trans h.size k.size, h.low, fun i hi hc => by
    have e := h.block i hi hc
    rw [← e]
    refine k.block i (Nat.lt_of_lt_of_le hi h.size) ?_
    rcases hc with hc | ⟨h1, h2⟩
    · exact .inl hc
    · exact .inr ⟨h1, fun cs => by rw [e]; exact h2 cs⟩⟩
theorem Keep.on {c : Nat} (h : Keep b B w w') (hb : Below c w' w'') (hc : w'.heap.size ≤ c) : Keep b B w w'' :=
  h.trans ⟨hb.os, hb.tape, hb.output, hb.size, h.low, fun i hi _ => hb.block i (by omega)⟩
theorem Keep.call (h : Keep b B w w') (hb : Below w'.heap.size w' w'') : Keep b B w w'' := h.on hb (Nat.le_refl _)
theorem Keep.alloc (h : Keep b B w w') (o : Obj) : Keep b B w (w'.alloc o) := h.call (one_below w' o)
theorem Keep.drew (h : Keep b B w w') : Keep b B w w'.drew := ⟨h.os, h.tape, h.output, h.size, h.low, h.block⟩
theorem Keep.put (h : Keep b B w w') (i : Nat) (u : Value) : Keep b B w (w'.setCell ⟨B, i, none⟩ u) := by
  have hg := (Below.refl 0 w').setCell (p := ⟨B, i, none⟩) (Nat.zero_le _) u
  refine h.trans ⟨hg.os, hg.tape, hg.output, hg.size, h.low, fun k hk hc => ?_⟩
  refine heap_setCell_other w' ⟨B, i, none⟩ k u ?_
  have := h.low
  show k ≠ B
  rcases hc with hc | hc
  · omega
  · exact hc.1
theorem Keep.row {g : Nat} {cs0 : Array Value} (h : Keep b B w w') (hg : Box w' g 90 cs0) (hbg : b ≤ g) (cs : Array Value) : Keep b B w (w'.setRow g cs) := by
  have hz := Below.setRow' (g := g) (Below.refl 0 w') (Nat.zero_le _) cs
  refine h.trans ⟨hz.os, hz.tape, hz.output, hz.size, h.low, fun k hk hc => setRow_other w' g k cs ?_⟩
  rcases hc with hc | hc
  · omega
  · intro e; subst e; exact hc.2 _ hg.is
theorem Keep.shot {g i : Nat} {u : Value} {cs0 : Array Value} (h : Keep b B w w') (hg : Box w' g 90 cs0) (hbg : b ≤ g) : Keep b B w (w'.setCell ⟨g, i, none⟩ u) := by
  have hz := (Below.refl 0 w').setCell (p := ⟨g, i, none⟩) (Nat.zero_le _) u
  refine h.trans ⟨hz.os, hz.tape, hz.output, hz.size, h.low, fun k hk hc => heap_setCell_other w' ⟨g, i, none⟩ k u ?_⟩
  show k ≠ g
  rcases hc with hc | hc
  · omega
  · intro e; subst e; exact hc.2 _ hg.is
theorem Keep.grown {n : Nat} {v : Value} {xs : List Value} (h : Keep b B w w') (ho : w'.ownsRow b 90 6 v n xs) (hg : w'.grownBy w'' v.ownBlock) : Keep b B w w'' := by
  refine h.trans ⟨hg.os, hg.tape, hg.output, hg.size, h.low, fun k hk hc => hg.block k hk fun e => ?_⟩
  obtain ⟨_, ⟨rfl, _⟩ | ⟨g, cap, cur, rfl, hbg, hgg, _⟩⟩ := ho
  · cases e
  · have e' : k = g := by injection e
    subst e'
    rcases hc with hc | hc
    · omega
    · exact hc.2 _ hgg
theorem Keep.grown' {n : Nat} {v : Value} {xs : List Value} {o : Obj} (h : Keep b B w w') (ho : w'.ownsRow b 90 6 v n xs) (hg : (w'.alloc o).grownBy w'' v.ownBlock) : Keep b B w w'' :=
  (h.alloc o).grown (ho.alloc o) hg
theorem Keep.fresh (h : Keep b B w w') {p : Addr} (hp : w.heap.size ≤ p.block) (u : Value) : Keep b B w (w'.setCell p u) := by
  have hz := (Below.refl 0 w').setCell (p := p) (Nat.zero_le _) u
  exact ⟨hz.os.trans h.os, hz.tape.trans h.tape, hz.output.trans h.output, Nat.le_trans h.size hz.size, h.low, fun k hk hc => (heap_setCell_other w' p k u (by omega)).trans (h.block k hk hc)⟩
theorem Keep.freshRow (h : Keep b B w w') {g : Nat} (hp : w.heap.size ≤ g) (cs : Array Value) : Keep b B w (w'.setRow g cs) := by
  have hz := Below.setRow' (g := g) (Below.refl 0 w') (Nat.zero_le _) cs
  exact ⟨hz.os.trans h.os, hz.tape.trans h.tape, hz.output.trans h.output, Nat.le_trans h.size hz.size, h.low, fun k hk hc => (setRow_other w' g k cs (by omega)).trans (h.block k hk hc)⟩
theorem Keep.below (h : Keep b B w w') : Below b w w' ∨ w.heap.size < b := by
  by_cases hs : w.heap.size < b
  · exact .inr hs
  · exact .inl ⟨h.os, h.tape, h.output, h.size, fun i hi => h.block i (by omega) (.inl hi)⟩
theorem Keep.to (h : Keep b B w w') (hs : b ≤ w.heap.size) : Below b w w' := ⟨h.os, h.tape, h.output, h.size, fun i hi => h.block i (by omega) (.inl hi)⟩
theorem Box.keep {g : Nat} {t : TypeId} {cs : Array Value} (h : Box w g t cs) (k : Keep b B w w') (hg : g ≠ B) (ht : t ≠ 90) : Box w' g t cs :=
  ⟨(k.block g h.lt (.inr ⟨hg, fun cs' e => by rw [h.is] at e; injection e with e; injection e with _ e _; exact ht e⟩)).trans h.is⟩
end

/-- A game lies in block B, with a list of shots of its own. -/
def Has (b B : Nat) (g : Gm.G) (w : World) : Prop :=
  ∃ A c, Box w B 28 (Gm.cells g (.slice A g.shots.length c)) ∧ w.ownsRow b 90 6 (.slice A g.shots.length c) g.shots.length (Gm.shotCells g.shots)
theorem Has.lt {b B : Nat} {g : Gm.G} {w : World} (h : Has b B g w) : B < w.heap.size := by obtain ⟨A, c, h, _⟩ := h; exact h.lt
theorem Has.alloc {b B : Nat} {g : Gm.G} {w : World} (h : Has b B g w) (o : Obj) : Has b B g (w.alloc o) := by obtain ⟨A, c, h, h'⟩ := h; exact ⟨A, c, h.alloc o, h'.alloc o⟩
theorem Has.drew {b B : Nat} {g : Gm.G} {w : World} (h : Has b B g w) : Has b B g w.drew := by obtain ⟨A, c, h, h'⟩ := h; exact ⟨A, c, h.drew, h'.drew⟩
theorem Has.call {b B : Nat} {g : Gm.G} {w w' : World} (h : Has b B g w) (hb : Below w.heap.size w w') : Has b B g w' := by
  obtain ⟨A, c, h, h'⟩ := h; exact ⟨A, c, h.below hb h.lt, own_below h' hb (Nat.le_refl _)⟩
theorem Has.far {b B : Nat} {g : Gm.G} {w : World} {p : Addr} {t : TypeId} {cs : Array Value} (h : Has b B g w) (hp : Box w p.block t cs) (ht : t ≠ 90) (ht' : t ≠ 28) (u : Value) : Has b B g (w.setCell p u) := by
  obtain ⟨A, c, h, h'⟩ := h
  exact ⟨A, c, h.far (fun e => Box.apart h hp (fun e' => ht' e'.symm) e) u, ownsRow_setCell_other h' (hp.unowned h' (fun e => ht e.symm)) u⟩
theorem Has.off {b B : Nat} {g : Gm.G} {w : World} {p : Addr} {t : TypeId} {cs : Array Value} (h : Has b B g w) (hne : p.block ≠ B) (hp : Box w p.block t cs) (ht : t ≠ 90) (u : Value) : Has b B g (w.setCell p u) := by
  obtain ⟨A, c, h, h'⟩ := h
  exact ⟨A, c, h.far (fun e => hne e.symm) u, ownsRow_setCell_other h' (hp.unowned h' (fun e => ht e.symm)) u⟩
theorem Has.offRow {b B : Nat} {g : Gm.G} {w : World} {p : Nat} {t : TypeId} {cs : Array Value} (h : Has b B g w) (hne : p ≠ B) (hp : Box w p t cs) (ht : t ≠ 90) (cs' : Array Value) : Has b B g (w.setRow p cs') := by
  obtain ⟨A, c, h, h'⟩ := h
  exact ⟨A, c, h.row_far (fun e => hne e.symm) cs', own_setRow h' (hp.unowned h' (fun e => ht e.symm)) cs'⟩
/-- The game's block is stored to: a field, a ship. -/
theorem Has.put {b B : Nat} {g g' : Gm.G} {w w' : World} (h : Has b B g w) (hs : g'.shots = g.shots) (hB : ∀ s, Box w B 28 (Gm.cells g s) → Box w' B 28 (Gm.cells g' s)) (hk : ∀ k, k ≠ B → w'.heap[k]? = w.heap[k]?) : Has b B g' w' := by
  obtain ⟨A, c, h, h'⟩ := h
  refine ⟨A, c, by rw [hs]; exact hB _ h, ?_⟩
  rw [hs]
  have hne := h.unowned h' (by decide)
  obtain ⟨hl, e | ⟨gg, cap, cur, hv, hbg, hgg, hr⟩⟩ := h'
  · exact ⟨hl, .inl e⟩
  · refine ⟨hl, .inr ⟨gg, cap, cur, hv, hbg, (hk gg (fun e => hne (by rw [hv, e]; rfl))).trans hgg, hr⟩⟩
theorem stored_else {w : World} {B k : Nat} (s : Gm.Ship) (j : Nat) (hj : j ≠ B) : (stored w B k s).heap[j]? = w.heap[j]? := by
  unfold stored
  rw [heap_setCell_other _ _ j _ hj, heap_setCell_other _ _ j _ hj, heap_setCell_other _ _ j _ hj, heap_setCell_other _ _ j _ hj, heap_setCell_other _ _ j _ hj, heap_setCell_other _ _ j _ hj, heap_setCell_other _ _ j _ hj]
theorem Keep.stored {b B k : Nat} {w w' : World} (h : Keep b B w w') (s : Gm.Ship) : Keep b B w (stored w' B k s) :=
  ((((((h.put _ _).put _ _).put _ _).put _ _).put _ _).put _ _).put _ _
theorem Has.stored {b B k : Nat} {g : Gm.G} {w : World} (h : Has b B g w) (hk : k < 8) (s : Gm.Ship) : Has b B { g with ship := Gm.upd g.ship k s } (stored w B k s) :=
  h.put rfl (fun _ hB => blk_ship hB hk s) (fun j hj => stored_else s j hj)
/-- A game handed back, and a code. -/
def Out (g' : Gm.G) (code : Int) (w : World) (e : Ending) (w' : World) : Prop :=
  ∃ A c, e = .returned (.tuple #[.agg (Gm.cells g' (.slice A g'.shots.length c)), .int .i64 code]) ∧ Lies w' w'.heap.size 6 A g'.shots.length (Gm.shotCells g'.shots) ∧ Below w.heap.size w w'
end Go.Proofs.YtkkhdaeihnbilaaGreat
namespace Go.Proofs.YtkkhdaeihnbilaaGreat
open Go.RowKit
set_option linter.unusedVariables false

theorem wrap_u64' (n : Int) : IntKind.u64.wrap n = n % 18446744073709551616 := by simp [IntKind.wrap, IntKind.bits, IntKind.signed]
theorem next_wraps (d : Int) : IntKind.u64.wrap (IntKind.u64.wrap (d * 6364136223846793005) + 1442695040888963407) = Dn.next d := by
  rw [wrap_u64', wrap_u64']; unfold Dn.next
  generalize d * 6364136223846793005 = x
  omega
theorem xor_nought (d : Int) (wd : 0 ≤ d ∧ d ≤ 18446744073709551615) : bits .xor .u64 d 0 = d := by
  rw [u64_xor d 0 wd.1 (Int.lt_of_le_of_lt wd.2 (by decide)) (by decide) (by decide)]
  have : d.toNat ^^^ (0 : Int).toNat = d.toNat := Nat.xor_zero _
  rw [this]
  exact Int.toNat_of_nonneg wd.1

theorem four_below (w : World) (o1 o2 o3 o4 : Obj) : Below w.heap.size w ((((w.alloc o1).alloc o2).alloc o3).alloc o4) :=
  ((((Below.refl _ _).alloc (Nat.le_refl _) _).alloc (by simp) _).alloc (by simp; omega) _).alloc (by simp; omega) _

set_option maxHeartbeats 400000 in
theorem share_any (d n : Int) (wd : 0 ≤ d ∧ d ≤ 18446744073709551615) (wn : 1 ≤ n ∧ n ≤ 2147483647) (w : World) :
    Calls Tryz.prog 149 #[.int .u64 d, .int .i64 n] w fun e w' => e = .returned (.int .i64 (Dn.share d n)) ∧ w = w' := by
  have hp := Dn.share_bd wd wn
  go_enter Tryz.func149, Tryz.ntmps149
  go_wp2
  go_ret
  exact ⟨ret_int rfl, rfl⟩

set_option maxHeartbeats 400000 in
theorem place_any (d : Int) (wd : 0 ≤ d ∧ d ≤ 18446744073709551615) (w : World) :
    Calls Tryz.prog 140 #[.int .u64 d] w fun e w' => e = .returned (.tuple #[.int .i32 (Dn.share (Dn.next d) 16777216), .int .i32 (Dn.share (Dn.next (Dn.next d)) 16777216), .int .u64 (Dn.next (Dn.next d))]) ∧ Below w.heap.size w w' := by
  have hmf : ∀ (fn : Fn) (first cap : Array Value) (w : World), (Instr.makeFunc fn first cap).run Tryz.prog w = .ok (.func fn first cap) w := fun _ _ _ _ => rfl
  have h1 := xor_nought d wd
  have h2 := next_wraps d
  have h3 := xor_nought _ (Dn.next_bd d)
  have h4 := next_wraps (Dn.next d)
  have c1 := fun X => Lib.hid (share_any (Dn.next d) 16777216 (Dn.next_bd _) (by omega) X)
  have c2 := fun X => Lib.hid (share_any (Dn.next (Dn.next d)) 16777216 (Dn.next_bd _) (by omega) X)
  have b1 := Dn.share_bd (Dn.next_bd d) (show (1 : Int) ≤ 16777216 ∧ (16777216 : Int) ≤ 2147483647 by omega)
  have b2 := Dn.share_bd (Dn.next_bd (Dn.next d)) (show (1 : Int) ≤ 16777216 ∧ (16777216 : Int) ≤ 2147483647 by omega)
  go_enter Tryz.func140, Tryz.ntmps140
  go_wp2_with (first | (go_at_call 149; first | ((with_reducible refine ((c1 _).out).mono ?_); rintro e w' ⟨rfl, rfl⟩) | ((with_reducible refine ((c2 _).out).mono ?_); rintro e w' ⟨rfl, rfl⟩)) | go_in)
  go_ret3
  exact ⟨rfl, four_below _ _ _ _ _⟩
end Go.Proofs.YtkkhdaeihnbilaaGreat
namespace Go.Proofs.YtkkhdaeihnbilaaGreat
open Go.RowKit
set_option linter.unusedVariables false

theorem input_info : (Tryz.prog.info? 39).map (·.size) = some 3 := by kernel_rfl
theorem ship7_info : (Tryz.prog.info? 24).map (·.size) = some 7 := by kernel_rfl

set_option maxHeartbeats 1000000 in
theorem may_in (x y p : Int) (wx : -128 ≤ x ∧ x ≤ 127) (wy : -128 ≤ y ∧ y ≤ 127) (w : World) :
    Calls Tryz.prog 95 #[.agg #[.int .i8 x, .int .i8 y, .int .u8 p]] w fun e w' => e = .returned (.bool (decide (x ≠ -128) && decide (y ≠ -128))) ∧ Below w.heap.size w w' := by
  go_enter Tryz.func95, Tryz.ntmps95
  go_wp2
  all_goals
    go_ret
    exact ⟨ret_bool (by rw [Bool.eq_iff_iff]; simp_all <;> omega), one_below _ _⟩

def Gm.tameIn (p : Gm.In) : Gm.In := ⟨Gf.tame p.x, Gf.tame p.y, p.b⟩
set_option maxHeartbeats 1000000 in
theorem held_any (p : Gm.In) (hp : Gm.tyIn p) (w : World) :
    Calls Tryz.prog 100 #[.agg p.cells.toArray] w fun e w' => e = .returned (.agg (Gm.tameIn p).cells.toArray) ∧ Below w.heap.size w w' := by
  obtain ⟨x, y, p⟩ := p
  obtain ⟨wx, wy, wp⟩ := hp
  dsimp only at wx wy wp
  have b1 : Box ((w.alloc (.cells #[.int .i8 x, .int .i8 y, .int .u8 p] 39)).alloc (.cells #[.int .i8 0, .int .i8 0, .int .u8 0] 39)) w.heap.size 39 #[.int .i8 x, .int .i8 y, .int .u8 p] := (Box.made _ _ _).alloc _
  have b2 : Box ((w.alloc (.cells #[.int .i8 x, .int .i8 y, .int .u8 p] 39)).alloc (.cells #[.int .i8 0, .int .i8 0, .int .u8 0] 39)) (w.heap.size + 1) 39 #[.int .i8 0, .int .i8 0, .int .u8 0] := Box.made_at _ _ _ (by simp)
  have hb0 := Lib.hid (two_below' w (.cells #[.int .i8 x, .int .i8 y, .int .u8 p] 39) (.cells #[.int .i8 0, .int .i8 0, .int .u8 0] 39))
  have hc := b1.cell
  have B1 := Lib.hid b1
  have B2 := Lib.hid b2
  clear b1 b2
  simp only [Gm.In.cells, Gm.tameIn]
  by_cases hm : x ≠ -128 ∧ y ≠ -128
  · have c1 := fun X => Lib.hid (may_in x y p wx wy X)
    rw [decide_eq_true hm.1, decide_eq_true hm.2, Bool.and_self] at c1
    rw [Gf.tame_same hm.1, Gf.tame_same hm.2]
    clear hm
    go_enter Tryz.func100, Tryz.ntmps100
    go_wp2_with (first | (go_at_call 95; ((with_reducible refine ((c1 _).out).mono ?_); rintro e w1 ⟨rfl, hb⟩; have D1 := B1.out.below hb (by simp <;> omega); have D2 := B2.out.below hb (by simp <;> omega); have k1 := D1.cell; have k2 := D2.cell; have f2 := D2.free; have l2 := D2.lt; have HB := Lib.hid hb; have DD := Lib.hid D2; clear D1 D2 hb hc)) | ((with_reducible refine blk_gate (t := 39) rfl rfl input_info ?_); apply StoreBlk.mk rfl rfl; exact DD.out; (focus (simp [Value.oneCell'])); (focus rfl); (focus rfl)))
    refine bodyPost_ret (v := .agg #[.int .i8 x, .int .i8 y, .int .u8 p]) ?_ ?_ ?_
    · exact results_cell_row rfl _ _ _ _ #[.int .i8 x, .int .i8 y, .int .u8 p] (0, 0) _ rfl (Box.row DD.out _).is Tryz.underlying39 rfl input_info
    · rfl
    · exact ⟨rfl, Below.setRow' (hb0.out.trans (HB.out.mono hb0.out.size)) (by omega) _⟩
  · have c1 := fun X => Lib.hid (may_in x y p wx wy X)
    rw [show (decide (x ≠ -128) && decide (y ≠ -128)) = false by simp; omega] at c1
    by_cases hx : x = -128
    · subst hx
      rw [show Gf.tame (-128) = -127 from rfl]
      by_cases hy : y = -128
      · subst hy
        rw [show Gf.tame (-128) = -127 from rfl]
        clear hm wx wy
        go_enter Tryz.func100, Tryz.ntmps100
        go_wp2_with (first | (go_at_call 95; ((with_reducible refine ((c1 _).out).mono ?_); rintro e w1 ⟨rfl, hb⟩; have D1 := B1.out.below hb (by simp <;> omega); have D2 := B2.out.below hb (by simp <;> omega); have k1 := D1.cell; have f1 := D1.free; have l1 := D1.lt; have k2 := D2.cell; have f2 := D2.free; have l2 := D2.lt; have HB := Lib.hid hb; have ne1 : w.heap.size + 1 ≠ w.heap.size := (by omega); have DD := Lib.hid ((D2.far (p := ⟨w.heap.size, 0, none⟩) ne1 (.int .i8 (-127))).far (p := ⟨w.heap.size, 1, none⟩) ne1 (.int .i8 (-127))); clear D1 D2 hb hc ne1)) | ((with_reducible refine blk_gate (t := 39) rfl rfl input_info ?_); apply StoreBlk.mk rfl rfl; exact DD.out; (focus (simp [Value.oneCell'])); (focus rfl); (focus rfl)))
        refine bodyPost_ret (v := .agg #[.int .i8 (-127), .int .i8 (-127), .int .u8 p]) ?_ ?_ ?_
        · exact results_cell_row rfl _ _ _ _ #[.int .i8 (-127), .int .i8 (-127), .int .u8 p] (0, 0) _ rfl (Box.row DD.out _).is Tryz.underlying39 rfl input_info
        · rfl
        · exact ⟨rfl, Below.setRow' (((hb0.out.trans (HB.out.mono hb0.out.size)).setCell (p := ⟨w.heap.size, 0, none⟩) (Nat.le_refl _) _).setCell (p := ⟨w.heap.size, 1, none⟩) (Nat.le_refl _) _) (by omega) _⟩
      · rw [Gf.tame_same hy]
        have hy' : -127 ≤ y := by omega
        clear hm wx
        go_enter Tryz.func100, Tryz.ntmps100
        go_wp2_with (first | (go_at_call 95; ((with_reducible refine ((c1 _).out).mono ?_); rintro e w1 ⟨rfl, hb⟩; have D1 := B1.out.below hb (by simp <;> omega); have D2 := B2.out.below hb (by simp <;> omega); have k1 := D1.cell; have f1 := D1.free; have l1 := D1.lt; have k2 := D2.cell; have f2 := D2.free; have l2 := D2.lt; have HB := Lib.hid hb; have ne1 : w.heap.size + 1 ≠ w.heap.size := (by omega); have DD := Lib.hid ((D2.far (p := ⟨w.heap.size, 0, none⟩) ne1 (.int .i8 (-127))).far (p := ⟨w.heap.size, 1, none⟩) ne1 (.int .i8 y)); clear D1 D2 hb hc ne1)) | ((with_reducible refine blk_gate (t := 39) rfl rfl input_info ?_); apply StoreBlk.mk rfl rfl; exact DD.out; (focus (simp [Value.oneCell'])); (focus rfl); (focus rfl)))
        refine bodyPost_ret (v := .agg #[.int .i8 (-127), .int .i8 y, .int .u8 p]) ?_ ?_ ?_
        · exact results_cell_row rfl _ _ _ _ #[.int .i8 (-127), .int .i8 y, .int .u8 p] (0, 0) _ rfl (Box.row DD.out _).is Tryz.underlying39 rfl input_info
        · rfl
        · exact ⟨rfl, Below.setRow' (((hb0.out.trans (HB.out.mono hb0.out.size)).setCell (p := ⟨w.heap.size, 0, none⟩) (Nat.le_refl _) _).setCell (p := ⟨w.heap.size, 1, none⟩) (Nat.le_refl _) _) (by omega) _⟩
    · have hy : y = -128 := by omega
      subst hy
      rw [Gf.tame_same hx, show Gf.tame (-128) = -127 from rfl]
      have hx' : -127 ≤ x := by omega
      clear hm wy
      go_enter Tryz.func100, Tryz.ntmps100
      go_wp2_with (first | (go_at_call 95; ((with_reducible refine ((c1 _).out).mono ?_); rintro e w1 ⟨rfl, hb⟩; have D1 := B1.out.below hb (by simp <;> omega); have D2 := B2.out.below hb (by simp <;> omega); have k1 := D1.cell; have f1 := D1.free; have l1 := D1.lt; have k2 := D2.cell; have f2 := D2.free; have l2 := D2.lt; have HB := Lib.hid hb; have ne1 : w.heap.size + 1 ≠ w.heap.size := (by omega); have DD := Lib.hid ((D2.far (p := ⟨w.heap.size, 0, none⟩) ne1 (.int .i8 x)).far (p := ⟨w.heap.size, 1, none⟩) ne1 (.int .i8 (-127))); clear D1 D2 hb hc ne1)) | ((with_reducible refine blk_gate (t := 39) rfl rfl input_info ?_); apply StoreBlk.mk rfl rfl; exact DD.out; (focus (simp [Value.oneCell'])); (focus rfl); (focus rfl)))
      refine bodyPost_ret (v := .agg #[.int .i8 x, .int .i8 (-127), .int .u8 p]) ?_ ?_ ?_
      · exact results_cell_row rfl _ _ _ _ #[.int .i8 x, .int .i8 (-127), .int .u8 p] (0, 0) _ rfl (Box.row DD.out _).is Tryz.underlying39 rfl input_info
      · rfl
      · exact ⟨rfl, Below.setRow' (((hb0.out.trans (HB.out.mono hb0.out.size)).setCell (p := ⟨w.heap.size, 0, none⟩) (Nat.le_refl _) _).setCell (p := ⟨w.heap.size, 1, none⟩) (Nat.le_refl _) _) (by omega) _⟩

set_option maxRecDepth 100000 in
set_option maxHeartbeats 1000000 in
theorem place_walk (g : Gm.G) (b B : Nat) (sc : Int) (x y d : Int) (w : World) (hbB : b ≤ B) (h : Has b B g w) (hd : 0 ≤ g.dice ∧ g.dice ≤ 18446744073709551615)
    (hx : Dn.share (Dn.next g.dice) 16777216 = x) (hy : Dn.share (Dn.next (Dn.next g.dice)) 16777216 = y) (hdd : Dn.next (Dn.next g.dice) = d) :
    Calls Tryz.prog 125 #[.pointer (some ⟨B, 0, none⟩), .int .i64 sc] w fun e w' => e = .returned (.agg #[.bool true, .int .i32 x, .int .i32 y, .int .i32 0, .int .i32 0, .int .i64 0, .int .i64 sc]) ∧ Has b B { g with dice := d } w' ∧ Keep b B w w' := by
  have c1 := fun X => Lib.hid (place_any g.dice hd X)
  rw [hx, hy, hdd] at c1
  have HH := Lib.hid (h.alloc (.cells #[.bool false, .int .i32 0, .int .i32 0, .int .i32 0, .int .i32 0, .int .i64 0, .int .i64 0] 24))
  have HK := Lib.hid ((Keep.refl hbB w).alloc (.cells #[.bool false, .int .i32 0, .int .i32 0, .int .i32 0, .int .i32 0, .int .i64 0, .int .i64 0] 24))
  have hBs := h.lt
  obtain ⟨A, c, hB, hO⟩ := h
  have bT : Box (w.alloc (.cells #[.bool false, .int .i32 0, .int .i32 0, .int .i32 0, .int .i32 0, .int .i64 0, .int .i64 0] 24)) w.heap.size 24 #[.bool false, .int .i32 0, .int .i32 0, .int .i32 0, .int .i32 0, .int .i64 0, .int .i64 0] := Box.made _ _ _
  have BT := Lib.hid bT
  have BG := Lib.hid (hB.alloc (.cells #[.bool false, .int .i32 0, .int .i32 0, .int .i32 0, .int .i32 0, .int .i64 0, .int .i64 0] 24))
  have hc := BG.out.cell
  have e1 := Gm.cells_1 g (.slice A g.shots.length c)
  clear bT hB hO hx hy hdd
  go_enter Tryz.func125, Tryz.ntmps125
  go_wp2_with (first | (go_at_call 140; ((with_reducible refine ((c1 _).out).mono ?_); rintro e w1 ⟨rfl, hb⟩; have D1 := BG.out.below hb (by simp <;> omega); have T1 := BT.out.below hb (by simp <;> omega); have k1 := D1.cell; have f1 := D1.free; have H1 := Lib.hid (HH.out.call hb); have K1 := Lib.hid ((HK.out.call hb).put 1 (.int .u64 d)); have ne1 : w.heap.size ≠ B := (by omega); have T2 := Lib.hid (T1.far (p := ⟨B, 1, none⟩) ne1 (.int .u64 d)); clear D1 T1 hb ne1)) | (refine wpList_build_is rfl (t := 24) (vs := [(0, .bool true), (1, .int .i32 x), (2, .int .i32 y), (6, .int .i64 sc)]) rfl rfl (built_ship _ _ _) ?_) | ((with_reducible refine blk_gate (t := 24) rfl rfl ship7_info ?_); apply StoreBlk.mk rfl rfl; exact T2.out; (focus (simp [Value.oneCell'])); (focus rfl); (focus rfl)))
  refine bodyPost_ret (v := .agg #[.bool true, .int .i32 x, .int .i32 y, .int .i32 0, .int .i32 0, .int .i64 0, .int .i64 sc]) ?_ ?_ ?_
  · exact results_cell_row rfl _ _ _ _ #[.bool true, .int .i32 x, .int .i32 y, .int .i32 0, .int .i32 0, .int .i64 0, .int .i64 sc] (0, 0) _ rfl (Box.row T2.out _).is Tryz.underlying24 rfl ship7_info
  · rfl
  · refine ⟨rfl, ?_, K1.out.freshRow (Nat.le_refl _) _⟩
    have h2 : Has b B { g with dice := d } (w1.setCell ⟨B, 1, none⟩ (.int .u64 d)) := H1.out.put rfl (fun _ hB => blk_dice hB d) (fun j hj => heap_setCell_other _ _ j _ hj)
    exact h2.offRow (by omega) T2.out (by decide) _
end Go.Proofs.YtkkhdaeihnbilaaGreat
