/-
The program's roster: the seats, gone over.
-/
import Derived.Test.YtbihnmingedgfaaTa
import Derived.Test.YtbihnmingedgfaaMv
import Derived.Test.YtbihnmingedgfaaBy
import Derived.RangeFuncNested
import Derived.RangeFuncBound
import Derived.RangeFuncCalls
import Derived.RangeFuncLeaves
import Derived.Shelf.Abstract
import Derived.Shelf.RegionOpen
import Derived.OwnWalkIn
import Derived.TacticsInMore
import Derived.LoopNIn
import Derived.LoopIn
namespace Go.Proofs.Ytbihnmingedgfaa
open Go.RowKit Go.Shelf
set_option linter.unusedVariables false
attribute [local go_sem] Oper.semAt_some

set_option maxHeartbeats 400000 in
theorem rospeer_any (i : Int) (w : World) :
    Calls Try.prog 160 #[.int .i64 i] w fun e w' => e = .returned (.bool (decide (0 ≤ i ∧ i < 12))) ∧ w = w' := by
  go_enter Try.func160, Try.ntmps160
  go_wp2
  all_goals
    go_ret
    exact ⟨ret_bool (by rw [Bool.eq_iff_iff]; simp; omega), rfl⟩
set_option maxHeartbeats 400000 in
set_option maxHeartbeats 1000000 in
theorem mayseat_any (p g : Int) (w : World) :
    Calls Try.prog 152 #[.agg #[.int .i64 p, .int .i64 g]] w fun e w' => e = .returned (.bool (decide ((0 ≤ g ∧ g ≤ 60000) ∧ (p = -1 ∨ ((0 ≤ p ∧ p < 12) ∧ 0 < g))))) ∧ Below w.heap.size w w' := by
  have c1 := fun X => Lib.hid (rospeer_any p X)
  by_cases hg : g < 0
  · go_enter Try.func152, Try.ntmps152
    go_wp2
    go_ret
    exact ⟨ret_bool (by (try rw [Bool.eq_iff_iff]) <;> simp <;> omega), one_below _ _⟩
  by_cases hg2 : 60000 < g
  · go_enter Try.func152, Try.ntmps152
    go_wp2
    go_ret
    exact ⟨ret_bool (by (try rw [Bool.eq_iff_iff]) <;> simp <;> omega), one_below _ _⟩
  by_cases hp : p = -1
  · subst hp
    go_enter Try.func152, Try.ntmps152
    go_wp2
    go_ret
    exact ⟨ret_bool (by (try rw [Bool.eq_iff_iff]) <;> simp <;> omega), one_below _ _⟩
  have hpb : (p == -1) = false := by simpa using hp
  by_cases hq : 0 ≤ p ∧ p < 12
  · rw [decide_eq_true hq] at c1
    by_cases hg0 : 0 < g
    · go_enter Try.func152, Try.ntmps152
      go_wp2_with (go_at_call 160; ((with_reducible refine ((c1 _).out).mono ?_); rintro e w1 ⟨rfl, rfl⟩))
      go_ret
      exact ⟨ret_bool (by (try rw [Bool.eq_iff_iff]) <;> simp <;> omega), one_below _ _⟩
    · go_enter Try.func152, Try.ntmps152
      go_wp2_with (go_at_call 160; ((with_reducible refine ((c1 _).out).mono ?_); rintro e w1 ⟨rfl, rfl⟩))
      go_ret
      exact ⟨ret_bool (by (try rw [Bool.eq_iff_iff]) <;> simp <;> omega), one_below _ _⟩
  · rw [decide_eq_false hq] at c1
    have HQ := Lib.hid hq
    clear hq
    go_enter Try.func152, Try.ntmps152
    go_wp2_with (go_at_call 160; ((with_reducible refine ((c1 _).out).mono ?_); rintro e w1 ⟨rfl, rfl⟩))
    go_ret
    have hq := HQ.out
    exact ⟨ret_bool (by (try rw [Bool.eq_iff_iff]) <;> simp <;> omega), one_below _ _⟩

/-- The seats' going over is made. -/
theorem seats_any (B : Nat) (w : World) :
    Calls Try.prog 151 #[.pointer (some ⟨B, 0, none⟩)] w fun e w' => e = .returned (.func (.func 159) #[] #[.pointer (some ⟨w.heap.size, 0, none⟩)]) ∧ w' = w.alloc (.cells #[.pointer (some ⟨B, 0, none⟩)] 177) := by
  have hmf : ∀ (fn : Fn) (first cap : Array Value) (w : World), (Instr.makeFunc fn first cap).run Try.prog w = .ok (.func fn first cap) w := fun _ _ _ _ => rfl
  go_enter Try.func151, Try.ntmps151
  go_wp2
  go_ret
  exact ⟨rfl, rfl⟩

abbrev seatEnc (B : Nat) (x : Ros.Sl) : Array Value := #[.int .i64 x.1, .pointer (some ⟨B, 1 + x.1 * 2, none⟩)]
/-- What the going over reads between two rounds: where the roster lies. -/
def Sitting (B Bg : Nat) (W : World) : Prop := W.cell? ⟨Bg, 0, none⟩ = some (.pointer (some ⟨B, 0, none⟩))
theorem Sitting.below {B Bg : Nat} {w W : World} (h : Sitting B Bg w) (hb : Below w.heap.size w W) : Sitting B Bg W :=
  (World.cell?_of_block (hb.block _ (World.block_lt_of_cell? w _ h))).trans h
def SitKp (B Bg : Nat) (W W' : World) : Prop := Sitting B Bg W → Sitting B Bg W'
theorem sitkp_t {B Bg : Nat} {X Y Z : World} (h : SitKp B Bg X Y) (k : SitKp B Bg Y Z) : SitKp B Bg X Z := fun hx => k (h hx)
theorem sitkp_b {B Bg : Nat} {n : Nat} (W : World) (l : Nat) (o o' : Obj) (_ : n ≤ l) (h : W.heap[l]? = some o) (hc : o.isCells = false) (_ : o.isWalk = false) : SitKp B Bg W (W.putObj l o') := fun hf =>
  cell_kept hf (grownBy_putObj' W l o') (fun r e => by cases e; exact ⟨_, h, hc⟩)

set_option maxRecDepth 100000 in
set_option maxHeartbeats 4000000 in
theorem seats1_in (B Bg : Nat) (n l : Nat) (J Jx : List Ros.Sl → World → Prop)
    (hY : ∀ pre x W, J pre W → pre.length < 8 → YieldAt Fence.wide (n - 1) Try.prog l (seatEnc B x) W fun e W' =>
      (e = .returned (.bool true) ∧ J (pre ++ [x]) W' ∧ SitKp B Bg W W') ∨ (e = .returned (.bool false) ∧ Jx (pre ++ [x]) W'))
    (W : World) (hF : Sitting B Bg W) (h0 : J [] W) :
    CallsIn Fence.wide n Try.prog 159 #[.func (.yield l) #[] #[], .pointer (some ⟨Bg, 0, none⟩)] W fun e W' => (∃ v, e = .returned v) ∧
      ((∃ ys, ys = Ros.all8 ∧ J ys W') ∨ (∃ pre, (∃ rest, Ros.all8 = pre ++ rest) ∧ Jx pre W')) := by
  refine callsIn_of_wp Try.func159 rfl trivial ?_ rfl
  simp only [Try.ntmps159, List.size_toArray, List.length_cons, List.length_nil, Nat.reduceAdd, Nat.reduceSub, Array.replicate_succ, Array.replicate_zero, List.push_toArray, List.append_toArray, List.nil_append, List.cons_append]
  gi_wp2
  gi_loopw [4] (fun p wr => ∃ (i : Nat) (pre : List Ros.Sl), i ≤ 8 ∧ p = .int .i64 i ∧ Ros.all8 = pre ++ Ros.slots (8 - i) i ∧ Sitting B Bg wr ∧ J pre wr)
    (fun p _ => 8 - (intOf p).toNat)
  case atStart =>
    exact ⟨0, [], by omega, rfl, rfl, hF, h0⟩
  case round =>
    obtain ⟨i, pre, hi, rfl, hx, hf, hJs⟩ := hrel
    by_cases hlt : i < 8
    · have hi8 : (i : Int) < 8 := by omega
      have f0 : wr.cell? ⟨Bg, 0, none⟩ = some (.pointer (some ⟨B, 0, none⟩)) := hf
      rw [show 8 - i = (8 - (i + 1)) + 1 by omega, Ros.slots_yes hlt] at hx
      have hlen : pre.length < 8 := by
        have := Ros.slots_len 8 0; rw [show Ros.slots 8 0 = Ros.all8 from rfl, hx] at this; simp at this; omega
      obtain ⟨fn, tmps, assign, body, hy, hR⟩ := hY pre ⟨i, hlt⟩ wr hJs hlen
      dsimp only [seatEnc] at hy
      have HX := Lib.hid hx
      have HF := Lib.hid hf
      clear hx hf hJs hY
      gi_wp2
      refine ⟨fun h => (by cases h), hR.mono ?_⟩
      rintro e W3 (⟨rfl, hJ3, hk3⟩ | ⟨rfl, hJx3⟩)
      · gi_wp2
        go_roundw
        case rel => exact ⟨i + 1, pre ++ [⟨i, hlt⟩], by omega, by go_num, by rw [HX.out]; simp, hk3 HF.out, hJ3⟩
        case measure => simp [intOf]; omega
      · gi_wp2
        refine bodyPost_ret (results_none rfl _ _ _) rfl ?_
        exact ⟨⟨_, rfl⟩, .inr ⟨pre ++ [⟨i, hlt⟩], ⟨Ros.slots (8 - (i + 1)) (i + 1), by rw [HX.out]; simp⟩, hJx3⟩⟩
    · have hi8 : ¬ (i : Int) < 8 := by omega
      have hie : i = 8 := by omega
      subst hie
      have HX := Lib.hid (show Ros.all8 = pre by rw [hx]; simp [Ros.slots])
      clear hx
      gi_wp2
      go_end0
      have e := HX.out
      first
        | exact ⟨⟨_, rfl⟩, .inl ⟨pre, e.symm, hJs⟩⟩
        | exact ⟨⟨_, rfl⟩, .inl (by rw [e]; exact hJs)⟩

theorem seats1_stops (B Bg : Nat) (n : Nat) (w : World) (hF : Sitting B Bg w) :
    SeqStopsK Fence.wide n Try.prog 159 #[.pointer (some ⟨Bg, 0, none⟩)] (seatEnc B) (SitKp B Bg) (fun xs => xs = Ros.all8) (fun pre => ∃ rest, Ros.all8 = pre ++ rest) 8 w :=
  fun l J Jx W hW _ _ hY h0 => seats1_in B Bg n l J Jx hY W (hF.below hW) h0
end Go.Proofs.Ytbihnmingedgfaa
