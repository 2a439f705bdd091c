/-
The program's game: the ships that fly, gone over.
-/
import Derived.Test.YtbihnmingedgfaaHm
import Derived.RangeFuncNested
import Derived.RangeFuncBound
import Derived.RangeFuncCalls
import Derived.RangeFuncLeaves
import Derived.Shelf.Abstract
import Derived.Shelf.RegionOpen
import Derived.OwnWalkIn
import Derived.TacticsInMore
import Derived.LoopNIn
import Derived.LoopIn
namespace Go.Proofs.Ytbihnmingedgfaa
open Go.RowKit Go.Shelf
set_option linter.unusedVariables false
attribute [local go_sem] Oper.semAt_some

/-- A slot whose ship flies. -/
abbrev Slot (on : Nat → Bool) := { k : Nat // k < 8 ∧ on k = true }
def flies (on : Nat → Bool) : Nat → Nat → List (Slot on)
  | 0, _ => []
  | n + 1, i => if h : i < 8 ∧ on i = true then ⟨i, h⟩ :: flies on n (i + 1) else flies on n (i + 1)
theorem flies_len (on : Nat → Bool) : ∀ n i, (flies on n i).length ≤ n
  | 0, _ => Nat.le_refl _
  | n + 1, i => by
    unfold flies
    split
    · have := flies_len on n (i + 1); simp; omega
    · have := flies_len on n (i + 1); omega
theorem flies_yes {on : Nat → Bool} {n i : Nat} (h : i < 8) (ho : on i = true) : flies on (n + 1) i = ⟨i, h, ho⟩ :: flies on n (i + 1) := by
  show (if _ : _ then _ else _) = _; rw [dif_pos ⟨h, ho⟩]
theorem flies_no {on : Nat → Bool} {n i : Nat} (ho : on i = false) : flies on (n + 1) i = flies on n (i + 1) := by
  show (if _ : _ then _ else _) = _; rw [dif_neg (by simp [ho])]

abbrev slotEnc (B : Nat) (on : Nat → Bool) (x : Slot on) : Array Value := #[.int .i64 x.1, .pointer (some ⟨B, 2 + x.1 * 7, none⟩)]
/-- What the going over reads between two rounds: where the game lies, and who flies. -/
def Flying (B Bg : Nat) (on : Nat → Bool) (W : World) : Prop := W.cell? ⟨Bg, 0, none⟩ = some (.pointer (some ⟨B, 0, none⟩)) ∧ ∀ k, k < 8 → W.cell? ⟨B, 2 + k * 7, none⟩ = some (.bool (on k))
theorem Flying.below {B Bg : Nat} {on : Nat → Bool} {w W : World} (h : Flying B Bg on w) (hb : Below w.heap.size w W) : Flying B Bg on W :=
  ⟨(World.cell?_of_block (hb.block _ (World.block_lt_of_cell? w _ h.1))).trans h.1, fun k hk => (World.cell?_of_block (hb.block _ (World.block_lt_of_cell? w _ (h.2 k hk)))).trans (h.2 k hk)⟩
def FlyKp (B Bg : Nat) (on : Nat → Bool) (W W' : World) : Prop := Flying B Bg on W → Flying B Bg on W'
theorem flykp_t {B Bg : Nat} {on : Nat → Bool} {X Y Z : World} (h : FlyKp B Bg on X Y) (k : FlyKp B Bg on Y Z) : FlyKp B Bg on X Z := fun hx => k (h hx)
theorem flykp_b {B Bg : Nat} {on : Nat → Bool} {n : Nat} (W : World) (l : Nat) (o o' : Obj) (_ : n ≤ l) (h : W.heap[l]? = some o) (hc : o.isCells = false) (_ : o.isWalk = false) : FlyKp B Bg on W (W.putObj l o') := fun hf =>
  ⟨cell_kept hf.1 (grownBy_putObj' W l o') (fun r e => by cases e; exact ⟨_, h, hc⟩), fun k hk => cell_kept (hf.2 k hk) (grownBy_putObj' W l o') (fun r e => by cases e; exact ⟨_, h, hc⟩)⟩

set_option maxRecDepth 100000 in
set_option maxHeartbeats 4000000 in
theorem flying1_in (on : Nat → Bool) (B Bg : Nat) (n l : Nat) (J Jx : List (Slot on) → World → Prop)
    (hY : ∀ pre x W, J pre W → pre.length < 8 → YieldAt Fence.wide (n - 1) Try.prog l (slotEnc B on x) W fun e W' =>
      (e = .returned (.bool true) ∧ J (pre ++ [x]) W' ∧ FlyKp B Bg on W W') ∨ (e = .returned (.bool false) ∧ Jx (pre ++ [x]) W'))
    (W : World) (hF : Flying B Bg on W) (h0 : J [] W) :
    CallsIn Fence.wide n Try.prog 110 #[.func (.yield l) #[] #[], .pointer (some ⟨Bg, 0, none⟩)] W fun e W' => (∃ v, e = .returned v) ∧
      ((∃ ys, ys = flies on 8 0 ∧ J ys W') ∨ (∃ pre, (∃ rest, flies on 8 0 = pre ++ rest) ∧ Jx pre W')) := by
  refine callsIn_of_wp Try.func110 rfl trivial ?_ rfl
  simp only [Try.ntmps110, List.size_toArray, List.length_cons, List.length_nil, Nat.reduceAdd, Nat.reduceSub, Array.replicate_succ, Array.replicate_zero, List.push_toArray, List.append_toArray, List.nil_append, List.cons_append]
  gi_wp2
  gi_loopw [5] (fun p wr => ∃ (i : Nat) (pre : List (Slot on)), i ≤ 8 ∧ p = .int .i64 i ∧ flies on 8 0 = pre ++ flies on (8 - i) i ∧ Flying B Bg on wr ∧ J pre wr)
    (fun p _ => 8 - (intOf p).toNat)
  case atStart =>
    exact ⟨0, [], by omega, rfl, rfl, hF, h0⟩
  case round =>
    obtain ⟨i, pre, hi, rfl, hx, hf, hJs⟩ := hrel
    by_cases hlt : i < 8
    · have hi8 : (i : Int) < 8 := by omega
      have f0 := hf.1
      have f1 := hf.2 i hlt
      cases ho : on i
      · rw [ho] at f1
        rw [show 8 - i = (8 - (i + 1)) + 1 by omega, flies_no ho] at hx
        have HX := Lib.hid hx
        have HF := Lib.hid hf
        have HJ := Lib.hid hJs
        clear hx hf hJs hY
        gi_wp2
        refine ⟨fun _ h => (by cases h), ?_⟩
        gi_wp2
        go_roundw
        case rel => exact ⟨i + 1, pre, by omega, by go_num, HX.out, HF.out, HJ.out⟩
        case measure => simp [intOf]; omega
      · rw [ho] at f1
        rw [show 8 - i = (8 - (i + 1)) + 1 by omega, flies_yes hlt ho] at hx
        have hlen : pre.length < 8 := by
          have := flies_len on 8 0; rw [hx] at this; simp at this; omega
        obtain ⟨fn, tmps, assign, body, hy, hR⟩ := hY pre ⟨i, hlt, ho⟩ wr hJs hlen
        dsimp only [slotEnc] at hy
        have HX := Lib.hid hx
        have HF := Lib.hid hf
        clear hx hf hJs hY
        gi_wp2
        refine ⟨fun h => (by cases h), hR.mono ?_⟩
        rintro e W3 (⟨rfl, hJ3, hk3⟩ | ⟨rfl, hJx3⟩)
        · gi_wp2
          go_roundw
          case rel => exact ⟨i + 1, pre ++ [⟨i, hlt, ho⟩], by omega, by go_num, by rw [HX.out]; simp, hk3 HF.out, hJ3⟩
          case measure => simp [intOf]; omega
        · gi_wp2
          refine bodyPost_ret (results_none rfl _ _ _) rfl ?_
          exact ⟨⟨_, rfl⟩, .inr ⟨pre ++ [⟨i, hlt, ho⟩], ⟨flies on (8 - (i + 1)) (i + 1), by rw [HX.out]; simp⟩, hJx3⟩⟩
    · have hi8 : ¬ (i : Int) < 8 := by omega
      have hie : i = 8 := by omega
      subst hie
      have HX := Lib.hid (show flies on 8 0 = pre by rw [hx]; simp [flies])
      clear hx
      gi_wp2
      go_end0
      have e := HX.out
      first
        | exact ⟨⟨_, rfl⟩, .inl ⟨pre, e.symm, hJs⟩⟩
        | exact ⟨⟨_, rfl⟩, .inl (by rw [e]; exact hJs)⟩

theorem flying1_stops (on : Nat → Bool) (B Bg : Nat) (n : Nat) (w : World) (hF : Flying B Bg on w) :
    SeqStopsK Fence.wide n Try.prog 110 #[.pointer (some ⟨Bg, 0, none⟩)] (slotEnc B on) (FlyKp B Bg on) (fun xs => xs = flies on 8 0) (fun pre => ∃ rest, flies on 8 0 = pre ++ rest) 8 w :=
  fun l J Jx W hW _ _ hY h0 => flying1_in on B Bg n l J Jx hY W (hF.below hW) h0

/-- The going over is made. -/
theorem flying_any (B : Nat) (w : World) :
    Calls Try.prog 58 #[.pointer (some ⟨B, 0, none⟩)] w fun e w' => e = .returned (.func (.func 110) #[] #[.pointer (some ⟨w.heap.size, 0, none⟩)]) ∧ w' = w.alloc (.cells #[.pointer (some ⟨B, 0, none⟩)] 91) := by
  have hmf : ∀ (fn : Fn) (first cap : Array Value) (w : World), (Instr.makeFunc fn first cap).run Try.prog w = .ok (.func fn first cap) w := fun _ _ _ _ => rfl
  go_enter Try.func58, Try.ntmps58
  go_wp2
  go_ret
  exact ⟨rfl, rfl⟩
end Go.Proofs.Ytbihnmingedgfaa
