/-
The program's entry: May; entries loaded whole and in part; inputs compared.
-/
import Derived.Test.YtbihnmingedgfaaEc
namespace Go.Proofs.Ytbihnmingedgfaa
open Go.RowKit Go.Shelf
set_option linter.unusedVariables false
set_option linter.unusedSimpArgs false

section
variable {ops : Array Oper} {rest : List Oper} {o : Oper} {a : Act} {w : World} {Q : Exit → Act → World → Prop} {x y : Operand} {dst : Option Tmp} {p : Value}
/-- What the load of an entry, or of a part of it, wants. -/
def LoadEn (ops : Array Oper) (Q : Exit → Act → World → Prop) (rest : List Oper) (dst : Option Tmp) (p : Value) (off : Nat) (pick : En.E → Value → Array Value) (a : Act) (w : World) : Prop :=
  ∃ (B : Nat) (e : En.E) (s : Value), p = .pointer (some ⟨B, off, none⟩) ∧ Box w B 72 (En.cells e s) ∧ wpList Try.prog ops Q rest (a.put dst (.agg (pick e s))) w
theorem LoadEn.mk {off : Nat} {pick : En.E → Value → Array Value} {B : Nat} {e : En.E} {s : Value} (hp : p = .pointer (some ⟨B, off, none⟩)) (hB : Box w B 72 (En.cells e s)) (h : wpList Try.prog ops Q rest (a.put dst (.agg (pick e s))) w) : LoadEn ops Q rest dst p off pick a w := ⟨B, e, s, hp, hB, h⟩
theorem en_load (hgd : o.guard = none) (ho : o.op = .load 72 x) (h : LoadEn ops Q rest o.dst (a.eval x) 0 (fun e s => En.cells e s) a w) : wpList Try.prog ops Q (o :: rest) a w := by
  obtain ⟨B, e, s, hx, hB, h⟩ := h
  exact wpList_load_blk hgd ho hx hB Try.underlying72 rfl en_info h
theorem en_load_g (hw : Region.wanted o (yielded ops a.tmps) = true) (ho : o.op = .load 72 x) (h : LoadEn ops Q rest o.dst (a.eval x) 0 (fun e s => En.cells e s) a w) : wpList Try.prog ops Q (o :: rest) a w := by
  obtain ⟨B, e, s, hx, hB, h⟩ := h
  refine wpList_load_part_g hw ho hx hB (En.cells e s).toList (fun j v hv => ?_) Try.underlying72 rfl (by rw [Array.length_toList, En.cells_size]; exact en_info) (by rw [Array.toArray_toList]; exact h)
  rw [Nat.zero_add]
  simpa using hv
theorem en_load_ins (hgd : o.guard = none) (ho : o.op = .load 38 x) (h : LoadEn ops Q rest o.dst (a.eval x) 2 (fun e _ => (Gm.insCells e.inp).toArray) a w) : wpList Try.prog ops Q (o :: rest) a w := by
  obtain ⟨B, e, s, hx, hB, h⟩ := h
  exact wpList_load_part hgd ho hx hB (Gm.insCells e.inp) (En.cells_ins e s) Try.underlying38 rfl ins_info h
theorem en_load_ins_g (hw : Region.wanted o (yielded ops a.tmps) = true) (ho : o.op = .load 38 x) (h : LoadEn ops Q rest o.dst (a.eval x) 2 (fun e _ => (Gm.insCells e.inp).toArray) a w) : wpList Try.prog ops Q (o :: rest) a w := by
  obtain ⟨B, e, s, hx, hB, h⟩ := h
  exact wpList_load_part_g hw ho hx hB (Gm.insCells e.inp) (En.cells_ins e s) Try.underlying38 rfl ins_info h
end

theorem in_info : (Try.prog.info? 37).map (·.size) = some 3 := by kernel_rfl
theorem insCells_list (f : Nat → Gm.In) (i : Nat) (hi : i < 8) : ((Gm.insCells f).drop (i * 3)).take 3 = (f i).cells := by
  match i, hi with
  | 0, _ | 1, _ | 2, _ | 3, _ | 4, _ | 5, _ | 6, _ | 7, _ => rfl
theorem in_part (f : Nat → Gm.In) (i : Nat) (hi : i < 8) (w : World) : (part 37 (Gm.insCells f).toArray (i * 3)).run Try.prog w = .ok (.agg (f i).cells.toArray) w := by
  have h := insCells_list f i hi
  cases hq : Try.prog.info? 37 with
  | none => have := in_info; simp [hq] at this
  | some j =>
    have hs : j.size = 3 := by have := in_info; simpa [hq] using this
    simp [part, isAgg, sizeOf, typeInfo, hq, hs, run_underlying (Try.underlying37) w, h]
theorem in_index (f : Nat → Gm.In) (k : Nat) (hk : k < 8) (W : World) : (Instr.index 38 (.agg (Gm.insCells f).toArray) (.int .i64 (k : Int))).run Try.prog W = .ok (.agg #[.int .i8 (f k).x, .int .i8 (f k).y, .int .u8 (f k).b]) W := by
  have h := in_part f k hk W
  rw [show (f k).cells.toArray = #[.int .i8 (f k).x, .int .i8 (f k).y, .int .u8 (f k).b] from rfl] at h
  have hk8 : (k : Int) < 8 := by omega
  have hc : Try.prog.cellsOf 37 = 3 := by kernel_rfl
  cases hq : Try.prog.info? 37 with
  | none => have := in_info; simp [hq] at this
  | some i =>
    have hi : i.size = 3 := by have := in_info; simpa [hq] using this
    simp [Instr.index, run_underlying (Try.underlying38) W, h, hk8, sizeOf, typeInfo, hq, hi, go_sem]
    rw [if_pos hk, insCells_list f k hk]
    rfl
def En.inEq (p q : Gm.In) : Bool := p.x == q.x && (p.y == q.y && p.b == q.b)
theorem En.inEq_iff (p q : Gm.In) : En.inEq p q = true ↔ p = q := by
  obtain ⟨a, b, c⟩ := p
  obtain ⟨d, e, f⟩ := q
  unfold En.inEq
  simp
theorem in_in (a b c d e f : Int) (w : World) : (Op.equalIn 9999 37 (.agg #[.int .i8 a, .int .i8 b, .int .u8 c]) (.agg #[.int .i8 d, .int .i8 e, .int .u8 f])).run Try.prog w = .ok (a == d && (b == e && c == f)) w := by
  by_cases h1 : a = d
  · by_cases h2 : b = e
    · by_cases h3 : c = f
      · subst h1 h2 h3; go_simp <;> simp
      · have h4 : (c == f) = false := by simpa using h3
        subst h1 h2; go_simp <;> simp [h4, h3]
    · have h4 : (b == e) = false := by simpa using h2
      subst h1; go_simp <;> simp [h4, h2]
  · have h4 : (a == d) = false := by simpa using h1
    go_simp <;> simp [h4, h1]
def En.insEq (f g : Nat → Gm.In) : Bool := (List.range 8).all fun i => En.inEq (f i) (g i)
theorem En.insEq_iff (f g : Nat → Gm.In) : En.insEq f g = true ↔ ∀ i, i < 8 → f i = g i := by
  unfold En.insEq
  rw [List.all_eq_true]
  exact ⟨fun h i hi => (En.inEq_iff _ _).1 (h i (by simpa using hi)), fun h i hi => (En.inEq_iff _ _).2 (h i (by simpa using hi))⟩
theorem ins_in (f g : Nat → Gm.In) (w : World) : (Op.equalIn 10000 38 (.agg (Gm.insCells f).toArray) (.agg (Gm.insCells g).toArray)).run Try.prog w = .ok (En.insEq f g) w := by
  cases hq : Try.prog.info? 37 with
  | none => have := in_info; simp [hq] at this
  | some j =>
    have hs : Try.prog.cellsOf 37 = 3 := by kernel_rfl
    rw [run_equalIn_array w 9999 _ _ Try.underlying38 hq, hs]
    exact run_eqItems_all w 9999 _ 3 _ _ (fun i => .agg (f i).cells.toArray) (fun i => .agg (g i).cells.toArray) (fun i => En.inEq (f i) (g i)) (List.range 8)
      (fun i hi => ⟨in_part f i (by simpa using hi) w, in_part g i (by simpa using hi) w, in_in _ _ _ _ _ _ w⟩)
theorem ins_eql (f g : Nat → Gm.In) (w : World) : (binOp .eql 38 (.agg (Gm.insCells f).toArray) (.agg (Gm.insCells g).toArray)).run Try.prog w = .ok (.bool (En.insEq f g)) w := by
  have := ins_in f g w
  generalize (Gm.insCells f).toArray = F at *
  generalize (Gm.insCells g).toArray = G at *
  go_simp

theorem ins_neq (f g : Nat → Gm.In) (w : World) : (binOp .neq 38 (.agg (Gm.insCells f).toArray) (.agg (Gm.insCells g).toArray)).run Try.prog w = .ok (.bool (!En.insEq f g)) w := by
  have := ins_in f g w
  generalize (Gm.insCells f).toArray = F at *
  generalize (Gm.insCells g).toArray = G at *
  go_simp

set_option maxRecDepth 100000 in
set_option maxHeartbeats 2000000 in
theorem enmay_any (e : En.E) (A : Option Addr) (n c : Nat) (w : World) (hn : n = e.evs.length) (hn63 : n ≤ maxLen) (hL : Lies w w.heap.size 4 A n (En.evCells e.evs)) :
    Calls Try.prog 43 #[.agg (En.cells e (.slice A n c))] w fun r w' => r = .returned (.bool (decide (En.Ok e))) ∧ Below w.heap.size w w' := by
  obtain ⟨v, hv⟩ : ∃ v, v = decide (En.Ok e) := ⟨_, rfl⟩
  rw [← hv]
  have HV := Lib.hid hv
  clear hv
  have P0 := Lib.hid (Box.made w 72 (En.cells e (.slice A n c)))
  have K0 := Lib.hid (one_below w (.cells (En.cells e (.slice A n c)) 72))
  have hr0 := Lib.hid ((hL.below K0.out).wider K0.out.size)
  have c0 := P0.out.cell 0
  have c1 := P0.out.cell 1
  rw [En.cells_0] at c0
  rw [En.cells_1] at c1
  have cm := fun X hX => Lib.hid (mayrow_any e.evs A n c X hn hn63 hX)
  clear hL hn hn63
  by_cases hf1 : e.frame < 0
  · have hno := Lib.hid (show ¬ En.Ok e from fun h => by have := h.frame; omega)
    go_enter Try.func43, Try.ntmps43
    go_wp2
    go_ret
    exact ⟨ret_bool (by rw [HV.out]; exact (decide_eq_false hno.out).symm), K0.out⟩
  by_cases hf2 : 1048576 ≤ e.frame
  · have hno := Lib.hid (show ¬ En.Ok e from fun h => by have := h.frame; omega)
    go_enter Try.func43, Try.ntmps43
    go_wp2
    go_ret
    exact ⟨ret_bool (by rw [HV.out]; exact (decide_eq_false hno.out).symm), K0.out⟩
  by_cases hrow : En.Row (-1) e.evs
  · rw [decide_eq_true hrow] at cm
    have HF := Lib.hid (show 0 ≤ e.frame ∧ e.frame < 1048576 by omega)
    have HW := Lib.hid hrow
    clear hrow
    go_enter Try.func43, Try.ntmps43
    go_wp2_with (first | ((with_reducible refine en_load_ins rfl rfl ?_); apply LoadEn.mk rfl; (focus (with_reducible exact P1.out)); dsimp only) | (go_at_call 92; ((with_reducible refine ((cm _ hr0.out).out).mono ?_); rintro r w1 ⟨rfl, hb⟩; have P1 := Lib.hid (P0.out.below hb P0.out.lt); have K1 := Lib.hid (K0.out.trans (hb.mono K0.out.size)); clear hb)))
    go_loopw [21] (fun i wr => ∃ k : Nat, k ≤ 8 ∧ i = .int .i64 k ∧ Below w.heap.size w wr ∧ ∀ j, j < k → En.inOk (e.inp j)) (fun i _ => 8 - (intOf i).toNat)
    case atStart => exact ⟨0, by omega, rfl, K1.out, fun j hj => absurd hj (Nat.not_lt_zero j)⟩
    case round =>
      obtain ⟨k, hk, rfl, hb, hall⟩ := hrel
      clear P0 K0 P1 K1 hr0 c0 c1 cm
      by_cases hlt : k < 8
      · have hk8 : (k : Int) < 8 := by omega
        have hpart := in_index e.inp k hlt
        have hok : En.inOk (e.inp k) ↔ (-127 ≤ (e.inp k).x ∧ -127 ≤ (e.inp k).y) := Iff.rfl
        have HK := Lib.hid (show ∀ j, j < k + 1 → j = k ∨ j < k from fun j hj => by omega)
        obtain ⟨p, hp⟩ : ∃ p, p = e.inp k := ⟨_, rfl⟩
        rw [← hp] at hpart hok
        obtain ⟨x, y, b⟩ := p
        dsimp only at hpart hok
        have HP := Lib.hid hp
        have HALL := Lib.hid hall
        have HB := Lib.hid hb
        have cs := fun X => Lib.hid (stickmay_any x y b X)
        have sz := hb.size
        clear hp hall hb
        by_cases hi : -127 ≤ x ∧ -127 ≤ y
        · rw [decide_eq_true hi] at cs
          have hnew := Lib.hid (show ∀ j, j < k + 1 → En.inOk (e.inp j) from fun j hj => by
            rcases HK.out j hj with rfl | h
            · rw [← HP.out]; exact hok.2 hi
            · exact HALL.out j h)
          clear hok hi
          go_wp2_with (go_at_call 93; ((with_reducible refine ((cs _).out).mono ?_); rintro r w2 ⟨rfl, hb⟩; have K2 := Lib.hid ((HB.out.alloc sz (.cells #[.int .i8 x, .int .i8 y, .int .u8 b] 37)).trans (hb.mono (by simp <;> omega))); clear hb))
          go_roundw
          case rel => exact ⟨k + 1, by omega, by go_num, K2.out, hnew.out⟩
          case measure => simp [intOf]; omega
        · rw [decide_eq_false hi] at cs
          have hno := Lib.hid (show ¬ En.Ok e from fun h => hi (by have := h.ins k hlt; rw [← HP.out] at this; exact this))
          clear hok hi
          go_wp2_with (go_at_call 93; ((with_reducible refine ((cs _).out).mono ?_); rintro r w2 ⟨rfl, hb⟩; have K2 := Lib.hid ((HB.out.alloc sz (.cells #[.int .i8 x, .int .i8 y, .int .u8 b] 37)).trans (hb.mono (by simp <;> omega))); clear hb))
          go_ret
          exact ⟨ret_bool (by rw [HV.out]; exact (decide_eq_false hno.out).symm), K2.out⟩
      · have hk8 : ¬ (k : Int) < 8 := by omega
        obtain rfl : k = 8 := by omega
        have hyes := Lib.hid (show En.Ok e from ⟨HF.out, HW.out, hall⟩)
        have HB := Lib.hid hb
        clear hall hb
        go_wp2
        go_ret
        exact ⟨ret_bool (by rw [HV.out]; exact (decide_eq_true hyes.out).symm), HB.out⟩
  · rw [decide_eq_false hrow] at cm
    have hno := Lib.hid (show ¬ En.Ok e from fun h => hrow h.row)
    clear hrow
    go_enter Try.func43, Try.ntmps43
    go_wp2_with (go_at_call 92; ((with_reducible refine ((cm _ hr0.out).out).mono ?_); rintro r w1 ⟨rfl, hb⟩; have K1 := Lib.hid (K0.out.trans (hb.mono K0.out.size)); clear hb))
    go_ret
    exact ⟨ret_bool (by rw [HV.out]; exact (decide_eq_false hno.out).symm), K1.out⟩
end Go.Proofs.Ytbihnmingedgfaa
