/-
The program's image: which states may be.
-/
import Derived.Test.YtbihnmingedgfaaIg
import Derived.Test.YtbihnmingedgfaaIi
import Derived.Test.YtbihnmingedgfaaTk
namespace Go.Proofs.Ytbihnmingedgfaa
open Go.RowKit Go.Shelf
set_option linter.unusedVariables false
set_option linter.unusedSimpArgs false

/-- Which states may be. -/
def Im.Ok (g : Gm.G) (r : Ros.R) : Prop := Gm.ok g ∧ Ros.Ok r ∧ ∀ k, k < 8 → (g.ship k).on = decide (0 ≤ r.peer k)
theorem state_info : (Try.prog.info? 53).map (·.size) = some 76 := by kernel_rfl
theorem seats_info : (Try.prog.info? 49).map (·.size) = some 16 := by kernel_rfl
section
variable {ops : Array Oper} {rest : List Oper} {o : Oper} {a : Act} {w : World} {Q : Exit → Act → World → Prop} {x : Operand} {dst : Option Tmp} {p : Value}
/-- What the load of a state's game wants. -/
def LoadIm (ops : Array Oper) (Q : Exit → Act → World → Prop) (rest : List Oper) (dst : Option Tmp) (p : Value) (off : Nat) (pick : Gm.G → Value → Ros.R → Array Value) (a : Act) (w : World) : Prop :=
  ∃ (B : Nat) (g : Gm.G) (s : Value) (r : Ros.R), p = .pointer (some ⟨B, off, none⟩) ∧ Box w B 53 (Im.cells g s r) ∧ wpList Try.prog ops Q rest (a.put dst (.agg (pick g s r))) w
theorem LoadIm.mk {off : Nat} {pick : Gm.G → Value → Ros.R → Array Value} {B : Nat} {g : Gm.G} {s : Value} {r : Ros.R} (hp : p = .pointer (some ⟨B, off, none⟩)) (hB : Box w B 53 (Im.cells g s r)) (h : wpList Try.prog ops Q rest (a.put dst (.agg (pick g s r))) w) : LoadIm ops Q rest dst p off pick a w := ⟨B, g, s, r, hp, hB, h⟩
theorem im_load_game (hgd : o.guard = none) (ho : o.op = .load 30 x) (h : LoadIm ops Q rest o.dst (a.eval x) 0 (fun g s _ => Gm.cells g s) a w) : wpList Try.prog ops Q (o :: rest) a w := by
  obtain ⟨B, g, s, r, hx, hB, h⟩ := h
  refine wpList_load_part hgd ho hx hB (Gm.cells g s).toList (fun j v hv => ?_) Try.underlying30 rfl game_info h
  have hj : j < 59 := (List.getElem?_eq_some_iff.1 hv).1
  rw [Nat.zero_add, Im.cells_g _ _ _ j hj]
  simpa using hv
theorem im_load_ros_g (hw : Region.wanted o (yielded ops a.tmps) = true) (ho : o.op = .load 51 x) (h : LoadIm ops Q rest o.dst (a.eval x) 59 (fun _ _ r => Ros.cells r) a w) : wpList Try.prog ops Q (o :: rest) a w := by
  obtain ⟨B, g, s, r, hx, hB, h⟩ := h
  refine wpList_load_part_g hw ho hx hB (Ros.cells r).toList (fun j v hv => ?_) Try.underlying51 rfl ros_info h
  rw [Im.cells_r]
  simpa using hv
theorem im_load_seats (hgd : o.guard = none) (ho : o.op = .load 49 x) (h : LoadIm ops Q rest o.dst (a.eval x) 60 (fun _ _ r => (Ros.seatCells r).toArray) a w) : wpList Try.prog ops Q (o :: rest) a w := by
  obtain ⟨B, g, s, r, hx, hB, h⟩ := h
  refine wpList_load_part hgd ho hx hB (Ros.seatCells r) (fun j v hv => ?_) Try.underlying49 rfl seats_info h
  rw [show 60 + j = 59 + (1 + j) by omega, Im.cells_r]
  rw [← hv]
  simp [Ros.cells, Nat.add_comm]
end

theorem seat_index (r : Ros.R) (k : Nat) (hk : k < 8) (W : World) : (Instr.index 49 (.agg (Ros.seatCells r).toArray) (.int .i64 (k : Int))).run Try.prog W = .ok (.agg #[.int .i64 (r.peer k), .int .i64 (r.gen k)]) W := by
  have h := seat_part r k hk W
  rw [show (Ros.pair r k).toArray = #[.int .i64 (r.peer k), .int .i64 (r.gen k)] from rfl] at h
  have hk8 : (k : Int) < 8 := by omega
  have hc : Try.prog.cellsOf 48 = 2 := by kernel_rfl
  cases hq : Try.prog.info? 48 with
  | none => have := seat2_info; simp [hq] at this
  | some i =>
    have hi : i.size = 2 := by have := seat2_info; simpa [hq] using this
    simp [Instr.index, run_underlying (Try.underlying49) W, h, hk8, sizeOf, typeInfo, hq, hi, go_sem]
    rw [if_pos hk, seatCells_list r k hk]
    rfl
set_option maxRecDepth 100000 in
set_option maxHeartbeats 4000000 in
theorem immay_any (g : Gm.G) (r : Ros.R) (A : Option Addr) (n c : Nat) (w : World) (hty : Gm.ty g) (hn : n = g.shots.length) (hn63 : n ≤ maxLen) (hr : Lies w w.heap.size 6 A n (Gm.shotCells g.shots)) :
    Calls Try.prog 77 #[.agg (Im.cells g (.slice A n c) r)] w fun e w' => (∃ v, e = .returned (.bool v) ∧ (v = true ↔ Im.Ok g r)) ∧ Below w.heap.size w w' := by
  have P0 := Lib.hid (Box.made w 53 (Im.cells g (.slice A n c) r))
  have K0 := Lib.hid (one_below w (.cells (Im.cells g (.slice A n c) r) 53))
  have hr0 := (hr.below K0.out).wider K0.out.size
  by_cases hg : Gm.ok g
  · have cg := fun X hX => Lib.hid (may_yes g A n c X hg hn hX)
    have cr := fun X => Lib.hid (rosmay_any r X)
    by_cases hok : Ros.Ok r
    · rw [show Ros.may r = true from decide_eq_true hok] at cr
      have HG := Lib.hid hg
      have HR := Lib.hid hok
      have hq := Lib.hid hr0
      clear hr hr0 hn hty hg hok
      go_enter Try.func77, Try.ntmps77
      go_wp2_with (first | ((with_reducible refine im_load_game rfl rfl ?_); apply LoadIm.mk rfl; (focus (with_reducible exact P0.out)); dsimp only) | ((with_reducible refine im_load_ros_g ?_ rfl ?_); (focus first | rfl | kernel_rfl | simp [Region.wanted, yielded]); apply LoadIm.mk rfl; (focus (with_reducible exact P1.out)); dsimp only) | ((with_reducible refine im_load_seats rfl rfl ?_); apply LoadIm.mk rfl; (focus (with_reducible exact P2.out)); dsimp only) | (go_at_call 51; ((with_reducible refine ((cg _ hq.out).out).mono ?_); rintro e w1 ⟨rfl, hb⟩; have P1 := Lib.hid (P0.out.below hb P0.out.lt); have K1 := Lib.hid (K0.out.trans (hb.mono K0.out.size)); clear hb)) | (go_at_call 123; ((with_reducible refine ((cr _).out).mono ?_); rintro e w2 ⟨rfl, hb⟩; have P2 := Lib.hid (P1.out.below hb P1.out.lt); have K2 := Lib.hid (K1.out.trans (hb.mono K1.out.size)); clear hb)))
      go_loopw [18] (fun i wr => ∃ k : Nat, k ≤ 8 ∧ i = .int .i64 k ∧ Box wr w.heap.size 53 (Im.cells g (.slice A n c) r) ∧ Below w.heap.size w wr ∧ ∀ j, j < k → (g.ship j).on = decide (0 ≤ r.peer j)) (fun i _ => 8 - (intOf i).toNat)
      case atStart => exact ⟨0, by omega, rfl, P2.out, K2.out, fun j hj => absurd hj (Nat.not_lt_zero j)⟩
      case round =>
        obtain ⟨k, hk, rfl, hB, hb, hall⟩ := hrel
        clear P0 K0 P1 K1 P2 K2 hq
        by_cases hlt : k < 8
        · have hk8 : (k : Int) < 8 := by omega
          have hpart := seat_index r k hlt
          have e0 := (hB.cell (2 + k * 7)).trans (Im.cells_ship g _ r k 0 hlt (by omega))
          simp only [Gm.Ship.cells, List.getElem?_cons_zero] at e0
          have hcell : ∀ o, (wr.alloc o).cell? ⟨w.heap.size, 2 + k * 7, none⟩ = some (.bool (g.ship k).on) := fun o => ((hB.alloc o).cell _).trans ((Im.cells_ship g _ r k 0 hlt (by omega)).trans rfl)
          obtain ⟨on, hon⟩ : ∃ on, on = (g.ship k).on := ⟨_, rfl⟩
          obtain ⟨pk, hpk⟩ : ∃ pk, pk = r.peer k := ⟨_, rfl⟩
          obtain ⟨gk, hgk⟩ : ∃ gk, gk = r.gen k := ⟨_, rfl⟩
          rw [← hon] at e0 hcell
          rw [← hpk, ← hgk] at hpart
          have HON := Lib.hid hon
          have HPK := Lib.hid hpk
          have HALL := Lib.hid hall
          have HB := Lib.hid hB
          have HBB := Lib.hid hb
          clear hon hpk hgk hall hB hb
          by_cases hm : on = decide (0 ≤ pk)
          · have hnew := Lib.hid (show ∀ j, j < k + 1 → (g.ship j).on = decide (0 ≤ r.peer j) from fun j hj => by
              by_cases e : j = k
              · rw [e, ← HON.out, ← HPK.out]; exact hm
              · exact HALL.out j (by omega))
            cases hd : decide (0 ≤ pk)
            · rw [hd] at hm
              subst hm
              go_upto_region 6 with fail
              go_quiet (fail)
              go_wp2
              go_roundw
              case rel => exact ⟨k + 1, by omega, by go_num, (HB.out.alloc _).draws _, draws_below (HBB.out.alloc HBB.out.size _) _, hnew.out⟩
              case measure => simp [intOf]; omega
            · rw [hd] at hm
              subst hm
              go_upto_region 6 with fail
              go_quiet (fail)
              go_wp2
              go_roundw
              case rel => exact ⟨k + 1, by omega, by go_num, (HB.out.alloc _).draws _, draws_below (HBB.out.alloc HBB.out.size _) _, hnew.out⟩
              case measure => simp [intOf]; omega
          · have hno := Lib.hid (show ¬ Im.Ok g r from fun h => hm (by rw [HON.out, HPK.out]; exact h.2.2 k hlt))
            cases hd : decide (0 ≤ pk)
            · obtain rfl : on = true := by
                cases on
                · exact absurd hd.symm hm
                · rfl
              clear hm
              go_upto_region 6 with fail
              go_quiet (fail)
              go_wp2
              go_ret
              exact ⟨by first | exact ⟨false, rfl, by simp; exact hno.out⟩ | exact .inl ⟨rfl, hno.out⟩, draws_below (HBB.out.alloc HBB.out.size _) _⟩
            · obtain rfl : on = false := by
                cases on
                · rfl
                · exact absurd hd.symm hm
              clear hm
              go_upto_region 6 with fail
              go_quiet (fail)
              go_wp2
              go_ret
              exact ⟨by first | exact ⟨false, rfl, by simp; exact hno.out⟩ | exact .inl ⟨rfl, hno.out⟩, draws_below (HBB.out.alloc HBB.out.size _) _⟩
        · have hk8 : ¬ (k : Int) < 8 := by omega
          have hyes := Lib.hid (show Im.Ok g r from ⟨HG.out, HR.out, fun j hj => hall j (by omega)⟩)
          have HBB := Lib.hid hb
          clear hall hB hb
          go_wp2
          go_ret
          exact ⟨by first | exact ⟨true, rfl, by simp; exact hyes.out⟩ | exact .inr ⟨rfl, hyes.out⟩, HBB.out⟩
    · rw [show Ros.may r = false from decide_eq_false hok] at cr
      have hno := Lib.hid (show ¬ Im.Ok g r from fun h => hok h.2.1)
      have hq := Lib.hid hr0
      clear hr hr0 hn hty hg hok
      go_enter Try.func77, Try.ntmps77
      go_wp2_with (first | ((with_reducible refine im_load_game rfl rfl ?_); apply LoadIm.mk rfl; (focus (with_reducible exact P0.out)); dsimp only) | ((with_reducible refine im_load_ros_g ?_ rfl ?_); (focus first | rfl | kernel_rfl | simp [Region.wanted, yielded]); apply LoadIm.mk rfl; (focus (with_reducible exact P1.out)); dsimp only) | ((with_reducible refine im_load_seats rfl rfl ?_); apply LoadIm.mk rfl; (focus (with_reducible exact P2.out)); dsimp only) | (go_at_call 51; ((with_reducible refine ((cg _ hq.out).out).mono ?_); rintro e w1 ⟨rfl, hb⟩; have P1 := Lib.hid (P0.out.below hb P0.out.lt); have K1 := Lib.hid (K0.out.trans (hb.mono K0.out.size)); clear hb)) | (go_at_call 123; ((with_reducible refine ((cr _).out).mono ?_); rintro e w2 ⟨rfl, hb⟩; have P2 := Lib.hid (P1.out.below hb P1.out.lt); have K2 := Lib.hid (K1.out.trans (hb.mono K1.out.size)); clear hb)))
      go_ret
      exact ⟨by first | exact ⟨false, rfl, by simp; exact hno.out⟩ | exact .inl ⟨rfl, hno.out⟩, K2.out⟩
  · have cg := fun X hX => Lib.hid (may_not g A n c X hg hty hn hn63 hX)
    have hno := Lib.hid (show ¬ Im.Ok g r from fun h => hg h.1)
    have hq := Lib.hid hr0
    clear hr hr0 hn hty hg
    go_enter Try.func77, Try.ntmps77
    go_wp2_with (first | ((with_reducible refine im_load_game rfl rfl ?_); apply LoadIm.mk rfl; (focus (with_reducible exact P0.out)); dsimp only) | ((with_reducible refine im_load_ros_g ?_ rfl ?_); (focus first | rfl | kernel_rfl | simp [Region.wanted, yielded]); apply LoadIm.mk rfl; (focus (with_reducible exact P1.out)); dsimp only) | ((with_reducible refine im_load_seats rfl rfl ?_); apply LoadIm.mk rfl; (focus (with_reducible exact P2.out)); dsimp only) | (go_at_call 51; ((with_reducible refine ((cg _ hq.out).out).mono ?_); rintro e w1 ⟨rfl, hb⟩; have P1 := Lib.hid (P0.out.below hb P0.out.lt); have K1 := Lib.hid (K0.out.trans (hb.mono K0.out.size)); clear hb)) | (go_at_call 123; ((with_reducible refine ((cr _).out).mono ?_); rintro e w2 ⟨rfl, hb⟩; have P2 := Lib.hid (P1.out.below hb P1.out.lt); have K2 := Lib.hid (K1.out.trans (hb.mono K1.out.size)); clear hb)))
    go_ret
    exact ⟨by first | exact ⟨false, rfl, by simp; exact hno.out⟩ | exact .inl ⟨rfl, hno.out⟩, K1.out⟩
end Go.Proofs.Ytbihnmingedgfaa
