/-
Several texts in one: Ee Ew Ez Zb Zev Ex Eu Ey Ol.
-/
import Derived.Test.YtghomofakpjglaaWn2
namespace Go.Proofs.Ytghomofakpjglaa
open Go.RowKit Go.Shelf
set_option linter.unusedVariables false
set_option linter.unusedSimpArgs false

section
variable {ops : Array Oper} {rest : List Oper} {o : Oper} {a : Act} {w : World} {Q : Exit → Act → World → Prop} {x y : Operand} {dst : Option Tmp} {p : Value}
/-- What the load of an entry, or of a part of it, wants. -/
def LoadEn (ops : Array Oper) (Q : Exit → Act → World → Prop) (rest : List Oper) (dst : Option Tmp) (p : Value) (off : Nat) (pick : En.E → Value → Array Value) (a : Act) (w : World) : Prop :=
  ∃ (B : Nat) (e : En.E) (s : Value), p = .pointer (some ⟨B, off, none⟩) ∧ Box w B 60 (En.cells e s) ∧ wpList Try.prog ops Q rest (a.put dst (.agg (pick e s))) w
theorem LoadEn.mk {off : Nat} {pick : En.E → Value → Array Value} {B : Nat} {e : En.E} {s : Value} (hp : p = .pointer (some ⟨B, off, none⟩)) (hB : Box w B 60 (En.cells e s)) (h : wpList Try.prog ops Q rest (a.put dst (.agg (pick e s))) w) : LoadEn ops Q rest dst p off pick a w := ⟨B, e, s, hp, hB, h⟩
theorem en_load (hgd : o.guard = none) (ho : o.op = .load 60 x) (h : LoadEn ops Q rest o.dst (a.eval x) 0 (fun e s => En.cells e s) a w) : wpList Try.prog ops Q (o :: rest) a w := by
  obtain ⟨B, e, s, hx, hB, h⟩ := h
  exact wpList_load_blk hgd ho hx hB Try.underlying60 rfl en_info h
theorem en_load_g (hw : Region.wanted o (yielded ops a.tmps) = true) (ho : o.op = .load 60 x) (h : LoadEn ops Q rest o.dst (a.eval x) 0 (fun e s => En.cells e s) a w) : wpList Try.prog ops Q (o :: rest) a w := by
  obtain ⟨B, e, s, hx, hB, h⟩ := h
  refine wpList_load_part_g hw ho hx hB (En.cells e s).toList (fun j v hv => ?_) Try.underlying60 rfl (by rw [Array.length_toList, En.cells_size]; exact en_info) (by rw [Array.toArray_toList]; exact h)
  rw [Nat.zero_add]
  simpa using hv
theorem en_load_ins (hgd : o.guard = none) (ho : o.op = .load 58 x) (h : LoadEn ops Q rest o.dst (a.eval x) 2 (fun e _ => (Gm.insCells e.inp).toArray) a w) : wpList Try.prog ops Q (o :: rest) a w := by
  obtain ⟨B, e, s, hx, hB, h⟩ := h
  exact wpList_load_part hgd ho hx hB (Gm.insCells e.inp) (En.cells_ins e s) Try.underlying58 rfl ins_info h
theorem en_load_ins_g (hw : Region.wanted o (yielded ops a.tmps) = true) (ho : o.op = .load 58 x) (h : LoadEn ops Q rest o.dst (a.eval x) 2 (fun e _ => (Gm.insCells e.inp).toArray) a w) : wpList Try.prog ops Q (o :: rest) a w := by
  obtain ⟨B, e, s, hx, hB, h⟩ := h
  exact wpList_load_part_g hw ho hx hB (Gm.insCells e.inp) (En.cells_ins e s) Try.underlying58 rfl ins_info h
end

theorem in_info : (Try.prog.info? 57).map (·.size) = some 3 := by kernel_rfl
theorem insCells_list (f : Nat → Gm.In) (i : Nat) (hi : i < 8) : ((Gm.insCells f).drop (i * 3)).take 3 = (f i).cells := by
  match i, hi with
  | 0, _ | 1, _ | 2, _ | 3, _ | 4, _ | 5, _ | 6, _ | 7, _ => rfl
theorem in_part (f : Nat → Gm.In) (i : Nat) (hi : i < 8) (w : World) : (part 57 (Gm.insCells f).toArray (i * 3)).run Try.prog w = .ok (.agg (f i).cells.toArray) w := by
  have h := insCells_list f i hi
  cases hq : Try.prog.info? 57 with
  | none => have := in_info; simp [hq] at this
  | some j =>
    have hs : j.size = 3 := by have := in_info; simpa [hq] using this
    simp [part, isAgg, sizeOf, typeInfo, hq, hs, run_underlying (Try.underlying57) w, h]
theorem in_index (f : Nat → Gm.In) (k : Nat) (hk : k < 8) (W : World) : (Instr.index 58 (.agg (Gm.insCells f).toArray) (.int .i64 (k : Int))).run Try.prog W = .ok (.agg #[.int .i8 (f k).x, .int .i8 (f k).y, .int .u8 (f k).b]) W := by
  have h := in_part f k hk W
  rw [show (f k).cells.toArray = #[.int .i8 (f k).x, .int .i8 (f k).y, .int .u8 (f k).b] from rfl] at h
  have hk8 : (k : Int) < 8 := by omega
  have hc : Try.prog.cellsOf 57 = 3 := by kernel_rfl
  cases hq : Try.prog.info? 57 with
  | none => have := in_info; simp [hq] at this
  | some i =>
    have hi : i.size = 3 := by have := in_info; simpa [hq] using this
    simp [Instr.index, run_underlying (Try.underlying58) W, h, hk8, sizeOf, typeInfo, hq, hi, go_sem]
    rw [if_pos hk, insCells_list f k hk]
    rfl
def En.inEq (p q : Gm.In) : Bool := p.x == q.x && (p.y == q.y && p.b == q.b)
theorem En.inEq_iff (p q : Gm.In) : En.inEq p q = true ↔ p = q := by
  obtain ⟨a, b, c⟩ := p
  obtain ⟨d, e, f⟩ := q
  unfold En.inEq
  simp
theorem in_in (a b c d e f : Int) (w : World) : (Op.equalIn 9999 57 (.agg #[.int .i8 a, .int .i8 b, .int .u8 c]) (.agg #[.int .i8 d, .int .i8 e, .int .u8 f])).run Try.prog w = .ok (a == d && (b == e && c == f)) w := by
  by_cases h1 : a = d
  · by_cases h2 : b = e
    · by_cases h3 : c = f
      · subst h1 h2 h3; go_simp <;> simp
      · have h4 : (c == f) = false := by simpa using h3
        subst h1 h2; go_simp <;> simp [h4, h3]
    · have h4 : (b == e) = false := by simpa using h2
      subst h1; go_simp <;> simp [h4, h2]
  · have h4 : (a == d) = false := by simpa using h1
    go_simp <;> simp [h4, h1]
def En.insEq (f g : Nat → Gm.In) : Bool := (List.range 8).all fun i => En.inEq (f i) (g i)
theorem En.insEq_iff (f g : Nat → Gm.In) : En.insEq f g = true ↔ ∀ i, i < 8 → f i = g i := by
  unfold En.insEq
  rw [List.all_eq_true]
  exact ⟨fun h i hi => (En.inEq_iff _ _).1 (h i (by simpa using hi)), fun h i hi => (En.inEq_iff _ _).2 (h i (by simpa using hi))⟩
theorem ins_in (f g : Nat → Gm.In) (w : World) : (Op.equalIn 10000 58 (.agg (Gm.insCells f).toArray) (.agg (Gm.insCells g).toArray)).run Try.prog w = .ok (En.insEq f g) w := by
  cases hq : Try.prog.info? 57 with
  | none => have := in_info; simp [hq] at this
  | some j =>
    have hs : Try.prog.cellsOf 57 = 3 := by kernel_rfl
    rw [run_equalIn_array w 9999 _ _ Try.underlying58 hq, hs]
    exact run_eqItems_all w 9999 _ 3 _ _ (fun i => .agg (f i).cells.toArray) (fun i => .agg (g i).cells.toArray) (fun i => En.inEq (f i) (g i)) (List.range 8)
      (fun i hi => ⟨in_part f i (by simpa using hi) w, in_part g i (by simpa using hi) w, in_in _ _ _ _ _ _ w⟩)
theorem ins_eql (f g : Nat → Gm.In) (w : World) : (binOp .eql 58 (.agg (Gm.insCells f).toArray) (.agg (Gm.insCells g).toArray)).run Try.prog w = .ok (.bool (En.insEq f g)) w := by
  have := ins_in f g w
  generalize (Gm.insCells f).toArray = F at *
  generalize (Gm.insCells g).toArray = G at *
  go_simp

theorem ins_neq (f g : Nat → Gm.In) (w : World) : (binOp .neq 58 (.agg (Gm.insCells f).toArray) (.agg (Gm.insCells g).toArray)).run Try.prog w = .ok (.bool (!En.insEq f g)) w := by
  have := ins_in f g w
  generalize (Gm.insCells f).toArray = F at *
  generalize (Gm.insCells g).toArray = G at *
  go_simp

set_option maxRecDepth 100000 in
set_option maxHeartbeats 2000000 in
theorem enmay_any (e : En.E) (A : Option Addr) (n c : Nat) (w : World) (hn : n = e.evs.length) (hn63 : n ≤ maxLen) (hL : Lies w w.heap.size 4 A n (En.evCells e.evs)) :
    Calls Try.prog 28 #[.agg (En.cells e (.slice A n c))] w fun r w' => r = .returned (.bool (decide (En.Ok e))) ∧ Below w.heap.size w w' := by
  obtain ⟨v, hv⟩ : ∃ v, v = decide (En.Ok e) := ⟨_, rfl⟩
  rw [← hv]
  have HV := Lib.hid hv
  clear hv
  have P0 := Lib.hid (Box.made w 60 (En.cells e (.slice A n c)))
  have K0 := Lib.hid (one_below w (.cells (En.cells e (.slice A n c)) 60))
  have hr0 := Lib.hid ((hL.below K0.out).wider K0.out.size)
  have c0 := P0.out.cell 0
  have c1 := P0.out.cell 1
  rw [En.cells_0] at c0
  rw [En.cells_1] at c1
  have cm := fun X hX => Lib.hid (mayrow_any e.evs A n c X hn hn63 hX)
  clear hL hn hn63
  by_cases hf1 : e.frame < 0
  · have hno := Lib.hid (show ¬ En.Ok e from fun h => by have := h.frame; omega)
    go_enter Try.func28, Try.ntmps28
    go_wp2
    go_ret
    exact ⟨ret_bool (by rw [HV.out]; exact (decide_eq_false hno.out).symm), K0.out⟩
  by_cases hf2 : 1048576 ≤ e.frame
  · have hno := Lib.hid (show ¬ En.Ok e from fun h => by have := h.frame; omega)
    go_enter Try.func28, Try.ntmps28
    go_wp2
    go_ret
    exact ⟨ret_bool (by rw [HV.out]; exact (decide_eq_false hno.out).symm), K0.out⟩
  by_cases hrow : En.Row (-1) e.evs
  · rw [decide_eq_true hrow] at cm
    have HF := Lib.hid (show 0 ≤ e.frame ∧ e.frame < 1048576 by omega)
    have HW := Lib.hid hrow
    clear hrow
    go_enter Try.func28, Try.ntmps28
    go_wp2_with (first | ((with_reducible refine en_load_ins rfl rfl ?_); apply LoadEn.mk rfl; (focus (with_reducible exact P1.out)); dsimp only) | (go_at_call 56; ((with_reducible refine ((cm _ hr0.out).out).mono ?_); rintro r w1 ⟨rfl, hb⟩; have P1 := Lib.hid (P0.out.below hb P0.out.lt); have K1 := Lib.hid (K0.out.trans (hb.mono K0.out.size)); clear hb)))
    go_loopw [21] (fun i wr => ∃ k : Nat, k ≤ 8 ∧ i = .int .i64 k ∧ Below w.heap.size w wr ∧ ∀ j, j < k → En.inOk (e.inp j)) (fun i _ => 8 - (intOf i).toNat)
    case atStart => exact ⟨0, by omega, rfl, K1.out, fun j hj => absurd hj (Nat.not_lt_zero j)⟩
    case round =>
      obtain ⟨k, hk, rfl, hb, hall⟩ := hrel
      clear P0 K0 P1 K1 hr0 c0 c1 cm
      by_cases hlt : k < 8
      · have hk8 : (k : Int) < 8 := by omega
        have hpart := in_index e.inp k hlt
        have hok : En.inOk (e.inp k) ↔ (-127 ≤ (e.inp k).x ∧ -127 ≤ (e.inp k).y) := Iff.rfl
        have HK := Lib.hid (show ∀ j, j < k + 1 → j = k ∨ j < k from fun j hj => by omega)
        obtain ⟨p, hp⟩ : ∃ p, p = e.inp k := ⟨_, rfl⟩
        rw [← hp] at hpart hok
        obtain ⟨x, y, b⟩ := p
        dsimp only at hpart hok
        have HP := Lib.hid hp
        have HALL := Lib.hid hall
        have HB := Lib.hid hb
        have cs := fun X => Lib.hid (stickmay_any x y b X)
        have sz := hb.size
        clear hp hall hb
        by_cases hi : -127 ≤ x ∧ -127 ≤ y
        · rw [decide_eq_true hi] at cs
          have hnew := Lib.hid (show ∀ j, j < k + 1 → En.inOk (e.inp j) from fun j hj => by
            rcases HK.out j hj with rfl | h
            · rw [← HP.out]; exact hok.2 hi
            · exact HALL.out j h)
          clear hok hi
          go_wp2_with (go_at_call 57; ((with_reducible refine ((cs _).out).mono ?_); rintro r w2 ⟨rfl, hb⟩; have K2 := Lib.hid ((HB.out.alloc sz (.cells #[.int .i8 x, .int .i8 y, .int .u8 b] 57)).trans (hb.mono (by simp <;> omega))); clear hb))
          go_roundw
          case rel => exact ⟨k + 1, by omega, by go_num, K2.out, hnew.out⟩
          case measure => simp [intOf]; omega
        · rw [decide_eq_false hi] at cs
          have hno := Lib.hid (show ¬ En.Ok e from fun h => hi (by have := h.ins k hlt; rw [← HP.out] at this; exact this))
          clear hok hi
          go_wp2_with (go_at_call 57; ((with_reducible refine ((cs _).out).mono ?_); rintro r w2 ⟨rfl, hb⟩; have K2 := Lib.hid ((HB.out.alloc sz (.cells #[.int .i8 x, .int .i8 y, .int .u8 b] 57)).trans (hb.mono (by simp <;> omega))); clear hb))
          go_ret
          exact ⟨ret_bool (by rw [HV.out]; exact (decide_eq_false hno.out).symm), K2.out⟩
      · have hk8 : ¬ (k : Int) < 8 := by omega
        obtain rfl : k = 8 := by omega
        have hyes := Lib.hid (show En.Ok e from ⟨HF.out, HW.out, hall⟩)
        have HB := Lib.hid hb
        clear hall hb
        go_wp2
        go_ret
        exact ⟨ret_bool (by rw [HV.out]; exact (decide_eq_true hyes.out).symm), HB.out⟩
  · rw [decide_eq_false hrow] at cm
    have hno := Lib.hid (show ¬ En.Ok e from fun h => hrow h.row)
    clear hrow
    go_enter Try.func28, Try.ntmps28
    go_wp2_with (go_at_call 56; ((with_reducible refine ((cm _ hr0.out).out).mono ?_); rintro r w1 ⟨rfl, hb⟩; have K1 := Lib.hid (K0.out.trans (hb.mono K0.out.size)); clear hb))
    go_ret
    exact ⟨ret_bool (by rw [HV.out]; exact (decide_eq_false hno.out).symm), K1.out⟩
end Go.Proofs.Ytghomofakpjglaa
namespace En
open Go
theorem and_bit : ∀ (m : Fin 256) (k : Fin 8), bits .and .i64 ((m.val : Nat) : Int) (IntKind.i64.wrap (2 ^ k.val)) = if m.val.testBit k.val then (2 : Int) ^ k.val else 0 := by decide +kernel
theorem or_bit : ∀ (m : Fin 256) (k : Fin 8), m.val < 2 ^ k.val → bits .or .i64 ((m.val : Nat) : Int) (IntKind.i64.wrap (2 ^ k.val)) = ((m.val + 2 ^ k.val : Nat) : Int) := by decide +kernel
theorem and_yes {m k : Nat} (hm : m < 256) (hk : k < 8) (h : m.testBit k = true) : ∃ q : Int, bits .and .i64 (m : Int) (RowKit.wrap64 (2 ^ k)) = q ∧ (q != 0) = true := by
  have := and_bit ⟨m, hm⟩ ⟨k, hk⟩
  dsimp only at this
  rw [h, IntWalk.i64_left] at this
  refine ⟨_, this, ?_⟩
  have hp : (0 : Int) < 2 ^ k := Int.pow_pos (by decide)
  simp only [if_true, bne_iff_ne, ne_eq]
  omega
theorem and_no {m k : Nat} (hm : m < 256) (hk : k < 8) (h : m.testBit k = false) : ∃ q : Int, bits .and .i64 (m : Int) (RowKit.wrap64 (2 ^ k)) = q ∧ (q != 0) = false := by
  have := and_bit ⟨m, hm⟩ ⟨k, hk⟩
  dsimp only at this
  rw [h, IntWalk.i64_left] at this
  exact ⟨_, this, rfl⟩
end En
namespace Go.Proofs.Ytghomofakpjglaa
open Go.RowKit Go.Shelf
set_option linter.unusedVariables false
set_option linter.unusedSimpArgs false

theorem in_neq (x y b : Int) (w : World) : (binOp .neq 57 (.agg #[.int .i8 x, .int .i8 y, .int .u8 b]) (.agg #[.int .i8 0, .int .i8 0, .int .u8 0])).run Try.prog w = .ok (.bool (!En.zero ⟨x, y, b⟩)) w := by
  have h : (Op.equalIn 10000 57 (.agg #[.int .i8 x, .int .i8 y, .int .u8 b]) (.agg #[.int .i8 0, .int .i8 0, .int .u8 0])).run Try.prog w = .ok (En.zero ⟨x, y, b⟩) w := by
    by_cases h1 : x = 0
    · by_cases h2 : y = 0
      · by_cases h3 : b = 0
        · subst h1 h2 h3; go_simp <;> simp [En.zero]
        · have h4 : (b == 0) = false := by simpa using h3
          subst h1 h2; go_simp <;> simp [h4, h3, En.zero]
      · have h4 : (y == 0) = false := by simpa using h2
        subst h1; go_simp <;> simp [h4, h2, En.zero]
    · have h4 : (x == 0) = false := by simpa using h1
      go_simp <;> simp [h4, h1, En.zero]
  generalize #[Value.int .i8 x, .int .i8 y, .int .u8 b] = F at *
  generalize #[Value.int .i8 0, .int .i8 0, .int .u8 0] = G at *
  go_simp

set_option maxRecDepth 100000 in
set_option maxHeartbeats 2000000 in
theorem layinput_w (p : Gm.In) (P o : Nat) (t : TypeId) (cs : Array Value) (bs : List Int) (b Bb Bp : Nat) (w : World) (hty : Gm.tyIn p) (hz : En.zero p = false) (hbB : b ≤ Bb) (h : Wr b Bb Bp bs w) (hl : bs.length + 3 ≤ 65536) (hP : Box w P t cs) (hc : ∀ j, j < 3 → cs[o + j]? = p.cells[j]?) (h1 : t ≠ 36) (h2 : t ≠ 5) (h3 : t ≠ 82) :
    Calls Try.prog 91 #[.func (.func 73) #[] #[.pointer (some ⟨Bp, 0, none⟩)], .pointer (some ⟨P, o, none⟩)] w fun e w' => e = .returned (.tuple #[]) ∧ Wr b Bb Bp (bs ++ En.inBytes p) w' ∧ Wrote b Bb w w' := by
  obtain ⟨x, y, u⟩ := p
  have hneq := fun W => in_neq x y u W
  rw [hz] at hneq
  obtain ⟨t1, t2, t3⟩ := hty
  dsimp only at t1 t2 t3
  have s0 := hc 0 (by omega)
  have s1 := hc 1 (by omega)
  have s2 := hc 2 (by omega)
  simp only [Gm.In.cells, List.getElem?_cons_zero, List.getElem?_cons_succ, Nat.add_zero] at s0 s1 s2
  have c1 := Lib.hid (layi8_w 1 1 rfl x P o t cs bs b Bb Bp w (by decide) t1 hbB h (by omega) hP s0 h1 h2 h3)
  have c2 := fun X (hX : Wr b Bb Bp (bs ++ Im.bytesOf 1 (IntKind.u64.wrap x)) X) hB => Lib.hid (layi8_w 1 1 rfl y P (o + 1) t cs _ b Bb Bp X (by decide) t2 hbB hX (by rw [List.length_append, Im.bytesOf_len]; omega) hB s1 h1 h2 h3)
  have c3 := fun X (hX : Wr b Bb Bp (bs ++ Im.bytesOf 1 (IntKind.u64.wrap x) ++ Im.bytesOf 1 (IntKind.u64.wrap y)) X) hB => Lib.hid (layu8_w 1 1 rfl u P (o + 2) t cs _ b Bb Bp X (by decide) t3 hbB hX (by rw [List.length_append, List.length_append, Im.bytesOf_len, Im.bytesOf_len]; omega) hB s2 h1 h2 h3)
  have HH := Lib.hid h
  have P0 := Lib.hid hP
  have ltP := hP.lt
  have HE := Lib.hid (show bs ++ Im.bytesOf 1 (IntKind.u64.wrap x) ++ Im.bytesOf 1 (IntKind.u64.wrap y) ++ Im.bytesOf 1 (IntKind.u64.wrap u) = bs ++ En.inBytes ⟨x, y, u⟩ by rw [En.bytesOf_wrap1, En.bytesOf_wrap1, En.bytesOf_wrap1]; unfold En.inBytes; simp only [List.append_assoc])
  have S0 := Lib.hid s0
  have S1 := Lib.hid s1
  have S2 := Lib.hid s2
  clear h hP hc hz s0 s1 s2
  go_enter Try.func91, Try.ntmps91
  go_wp2_with (first | (go_at_call 37; ((with_reducible refine (need_yes _ _).mono ?_); rintro e wn ⟨rfl, rfl⟩)) | (go_at_call 102; first | ((with_reducible refine (c1.out).mono ?_); rintro e w1 ⟨rfl, hI, hK⟩; have P1 := Lib.hid (P0.out.wrote' hK HH.out.isvar h1 h2); have I1 := Lib.hid hI; have K1 := Lib.hid hK; clear hI hK c1) | ((with_reducible refine ((c2 _ I1.out P1.out).out).mono ?_); rintro e w2 ⟨rfl, hI, hK⟩; have P2 := Lib.hid (P1.out.wrote' hK I1.out.isvar h1 h2); have I2 := Lib.hid hI; have K2 := Lib.hid (K1.out.trans hK); clear hI hK)) | (go_at_call 103; ((with_reducible refine ((c3 _ I2.out P2.out).out).mono ?_); rintro e w3 ⟨rfl, hI, hK⟩; have P3 := P2.out.wrote' hK I2.out.isvar h1 h2; have p0 := (P3.cell o).trans S0.out; have p1 := (P3.cell (o + 1)).trans S1.out; have p2 := (P3.cell (o + 2)).trans S2.out; have I3 := Lib.hid hI; have K3 := Lib.hid (K2.out.trans hK); clear hI hK P3)))
  go_end0
  exact ⟨rfl, by rw [← HE.out]; exact I3.out, K3.out⟩

set_option maxRecDepth 100000 in
set_option maxHeartbeats 4000000 in
theorem layinputs_w (e : En.E) (s : Value) (B : Nat) (bs : List Int) (b Bb Bp : Nat) (w : World) (hty : ∀ i, i < 8 → Gm.tyIn (e.inp i)) (hbB : b ≤ Bb) (h : Wr b Bb Bp bs w) (hl : bs.length + 25 ≤ 65536) (hP : Box w B 60 (En.cells e s)) :
    Calls Try.prog 80 #[.func (.func 73) #[] #[.pointer (some ⟨Bp, 0, none⟩)], .pointer (some ⟨B, 0, none⟩)] w fun r w' => r = .returned (.tuple #[]) ∧ Wr b Bb Bp (bs ++ (Im.bytesOf 1 (En.mask e.inp 8) ++ En.insBytes e.inp 8)) w' ∧ Wrote b Bb w w' := by
  have ltP := hP.lt
  have P0 := Lib.hid hP
  have W0 := Lib.hid h
  clear h hP
  go_enter Try.func80, Try.ntmps80
  go_wp2_with ((with_reducible refine en_load_ins rfl rfl ?_); apply LoadEn.mk rfl; (focus (with_reducible exact P0.out.alloc _)); dsimp only)
  go_loopw [12] (fun i wr => ∃ k : Nat, k ≤ 8 ∧ i = .int .i64 k ∧ Wr b Bb Bp bs wr ∧ Wrote b Bb w wr ∧ Box wr w.heap.size 3 #[.int .i64 (En.mask e.inp k : Nat)]) (fun i _ => 8 - (intOf i).toNat)
  case atStart => exact ⟨0, by omega, rfl, W0.out.alloc _, (Wrote.refl hbB w).alloc _, Box.made _ _ _⟩
  case round =>
    obtain ⟨k, hk, rfl, hI, hK, hD⟩ := hrel
    by_cases hlt : k < 8
    · have hk8 : (k : Int) < 8 := by omega
      have hpart := in_index e.inp k hlt
      have hml := En.mask_lt e.inp k
      have hp8 : 2 ^ k < 2 ^ 8 := Nat.pow_lt_pow_right (by decide) hlt
      have hms : En.mask e.inp (k + 1) = En.mask e.inp k + (if En.zero (e.inp k) = true then 0 else 2 ^ k) := rfl
      obtain ⟨m, hm⟩ : ∃ m, m = En.mask e.inp k := ⟨_, rfl⟩
      obtain ⟨p, hp⟩ : ∃ p, p = e.inp k := ⟨_, rfl⟩
      rw [← hm] at hml hms hD
      rw [← hp] at hms hpart
      obtain ⟨x, y, u⟩ := p
      dsimp only at hpart
      have hneq := fun W => in_neq x y u W
      have hor := En.or_bit ⟨m, by omega⟩ ⟨k, hlt⟩ hml
      dsimp only at hor
      have HI := Lib.hid hI
      have HK := Lib.hid hK
      have HD := Lib.hid hD
      have HOR := Lib.hid hor
      have d1 := fun o => (hD.alloc o).cell 0
      have d2 := fun o => (hD.alloc o).free 0
      have sz := hK.size
      clear hI hK hD hor hm hp
      cases hz : En.zero ⟨x, y, u⟩
      · rw [hz] at hms hneq
        have HMS := Lib.hid hms
        clear hms hz
        go_upto_region 5 with fail
        obtain ⟨V, hV⟩ : ∃ V, V = wr.alloc (.cells #[.int .i8 x, .int .i8 y, .int .u8 u] 57) := ⟨_, rfl⟩
        have DV := Lib.hid (show Box V w.heap.size 3 #[.int .i64 (m : Nat)] from hV ▸ HD.out.alloc _)
        have IV := Lib.hid (show Wr b Bb Bp bs V from hV ▸ HI.out.alloc _)
        have KV := Lib.hid (show Wrote b Bb w V from hV ▸ HK.out.alloc _)
        first | rw [← hV] | skip
        refine Rp.wp_region_lex (by kernel_rfl) [] (by kernel_rfl) (· = V.drew) (fun W => Box W w.heap.size 3 #[.int .i64 (m : Nat)]) (fun _ => True) rfl (fun W hW => ⟨hW ▸ DV.out.drew, trivial⟩) ?_
        repeat (first
          | (apply Rp.lex_free rfl rfl; focus (intro _; go_simp; first | done | rfl))
          | (apply Rp.lex_look rfl rfl rfl rfl; focus (intro W hW; have c0 := Box.cell hW; clear hW; go_simp; first | done | rfl)))
        refine Rp.lex_store rfl rfl (C' := (· = V.drew.setCell ⟨w.heap.size, 0, none⟩ (.int .i64 ((m + 2 ^ k : Nat) : Int)))) (D' := fun _ => True) (fun W hW => ⟨_, ?_, rfl⟩) (fun _ _ => ⟨trivial, trivial⟩) ?_
        focus (subst hW; have f2 := DV.out.drew.free; have k2 := DV.out.drew.cell; rw [← HOR.out]; go_simp; first | done | rfl)
        refine Rp.lex_end fun W2 hW2 => ?_
        have I2 := Lib.hid (show Wr b Bb Bp bs W2 from hW2 ▸ (IV.out.call (one_below' V)).off (p := ⟨w.heap.size, 0, none⟩) DV.out.drew (by decide) (by decide) (by decide) _)
        have K2 := Lib.hid (show Wrote b Bb w W2 from hW2 ▸ KV.out.drew.fresh (p := ⟨w.heap.size, 0, none⟩) (Nat.le_refl _) _)
        have D2 := Lib.hid (show Box W2 w.heap.size 3 #[.int .i64 ((m + 2 ^ k : Nat) : Int)] from hW2 ▸ DV.out.drew.put 0 _)
        clear hW2
        go_wp2
        go_roundw
        case rel => exact ⟨k + 1, by omega, by go_num, I2.out, K2.out, by rw [HMS.out]; exact D2.out⟩
        case measure => simp [intOf]; omega
      · rw [hz] at hms hneq
        have HMS := Lib.hid hms
        clear hms hz
        go_wp2
        go_roundw
        case rel => exact ⟨k + 1, by omega, by go_num, HI.out.alloc _, HK.out.alloc _, by rw [HMS.out]; exact HD.out.alloc _⟩
        case measure => simp [intOf]; omega
    · have hk8 : ¬ (k : Int) < 8 := by omega
      obtain rfl : k = 8 := by omega
      have hm8 := En.mask_lt e.inp 8
      have hbit := fun j hj => En.mask_bit e.inp 8 j hj
      obtain ⟨m, hm⟩ : ∃ m, m = En.mask e.inp 8 := ⟨_, rfl⟩
      rw [← hm] at hD hm8 hbit
      have HM := Lib.hid hm
      have hwm : IntKind.u64.wrap (m : Int) = m := by rw [IntKind.wrap_u64]; omega
      have c1 := Lib.hid (layint_w 1 1 rfl m w.heap.size 0 3 #[.int .i64 m] bs b Bb Bp wr (by decide) (by omega) hbB hI (by omega) hD rfl (by decide) (by decide) (by decide))
      rw [hwm] at c1
      have HIV := Lib.hid hI.isvar
      have HD := Lib.hid hD
      have PB := Lib.hid (P0.out.wrote' hK W0.out.isvar (by decide) (by decide))
      have HK := Lib.hid hK
      have HBIT := Lib.hid hbit
      clear hI hK hD hm hwm hbit
      go_wp2_with (go_at_call 67; ((with_reducible refine (c1.out).mono ?_); rintro r w1 ⟨rfl, hI1, hK1⟩; have D1 := Lib.hid (HD.out.wrote' hK1 HIV.out (by decide) (by decide)); have P1 := Lib.hid (PB.out.wrote' hK1 HIV.out (by decide) (by decide)); have I1 := Lib.hid hI1; have K1 := Lib.hid (HK.out.trans hK1); clear hI1 hK1 c1))
      go_loopw [26] (fun i wx => ∃ k : Nat, k ≤ 8 ∧ i = .int .i64 k ∧ Wr b Bb Bp (bs ++ Im.bytesOf 1 m ++ En.insBytes e.inp k) wx ∧ Wrote b Bb w1 wx) (fun i _ => 8 - (intOf i).toNat)
      case atStart => exact ⟨0, by omega, rfl, by simpa [En.insBytes] using I1.out, Wrote.refl hbB w1⟩
      case round =>
        obtain ⟨k, hk, rfl, hI, hK⟩ := hrel
        have D2 := Lib.hid (D1.out.wrote' hK I1.out.isvar (by decide) (by decide))
        have P2 := Lib.hid (P1.out.wrote' hK I1.out.isvar (by decide) (by decide))
        by_cases hlt : k < 8
        · have hk8 : (k : Int) < 8 := by omega
          have hb8 := HBIT.out k hlt
          have hsb : En.insBytes e.inp (k + 1) = En.insBytes e.inp k ++ (if En.zero (e.inp k) = true then [] else En.inBytes (e.inp k)) := rfl
          have hlen := En.insBytes_le e.inp k
          have hc := fun j hj => En.cells_in e s k j hlt hj
          have ht := hty k hlt
          obtain ⟨p, hp⟩ : ∃ p, p = e.inp k := ⟨_, rfl⟩
          rw [← hp] at hb8 hsb ht
          simp only [← hp] at hc
          have HI := Lib.hid hI
          have HK := Lib.hid hK
          have d1 := D2.out.cell 0
          have ltB := P2.out.lt
          cases hz : En.zero p
          · rw [hz] at hb8 hsb
            obtain ⟨q, hq1, hq2⟩ := En.and_yes (by omega) hlt hb8
            have HSB := Lib.hid hsb
            have HC := Lib.hid hc
            have HT := Lib.hid ht
            have HZ := Lib.hid hz
            clear hI hK hsb hc ht hz hb8 hp
            go_upto_region 11 with fail
            go_quiet (fail)
            have sdr : ∀ n, Wrote b Bb w1 (wr.drewN n) := fun n => HK.out.call (draws_below (Below.refl _ _) n)
            have cl := fun n => Lib.hid (layinput_w p B (2 + k * 3) 60 _ _ b Bb Bp (wr.drewN n) HT.out HZ.out hbB (HI.out.call (draws_below (Below.refl _ _) n)) (by rw [List.length_append, List.length_append, Im.bytesOf_len]; omega) (P2.out.draws n) HC.out (by decide) (by decide) (by decide))
            go_wp2_with (go_at_call 91; ((with_reducible refine ((cl _).out).mono ?_); rintro r w3 ⟨rfl, hI3, hK3⟩; have I3 := Lib.hid hI3; have K3 := Lib.hid ((sdr _).trans hK3); clear hI3 hK3))
            go_roundw
            case rel => exact ⟨k + 1, by omega, by go_num, by rw [HSB.out]; simpa using I3.out, K3.out⟩
            case measure => simp [intOf]; omega
          · rw [hz] at hb8 hsb
            obtain ⟨q, hq1, hq2⟩ := En.and_no (by omega) hlt hb8
            have HSB := Lib.hid hsb
            clear hI hK hsb hc ht hz hb8 hp
            go_upto_region 11 with fail
            go_quiet (fail)
            go_wp2
            go_roundw
            case rel => exact ⟨k + 1, by omega, by go_num, by rw [HSB.out]; simpa using HI.out.call (draws_below (Below.refl _ _) _), HK.out.call (draws_below (Below.refl _ _) _)⟩
            case measure => simp [intOf]; omega
        · have hk8 : ¬ (k : Int) < 8 := by omega
          obtain rfl : k = 8 := by omega
          have HI := Lib.hid hI
          have HK := Lib.hid hK
          clear hI hK
          go_wp2
          go_end0
          exact ⟨rfl, by rw [← HM.out, ← List.append_assoc]; exact HI.out, K1.out.trans HK.out⟩
end Go.Proofs.Ytghomofakpjglaa
namespace En
open Go
theorem set3_at {cs : Array Value} {o : Nat} {u0 u1 u2 x y z : Value} (h0 : cs[o]? = some u0) (h1 : cs[o + 1]? = some u1) (h2 : cs[o + 2]? = some u2) :
    (((cs.setIfInBounds o x).setIfInBounds (o + 1) y).setIfInBounds (o + 2) z)[o]? = some x ∧ (((cs.setIfInBounds o x).setIfInBounds (o + 1) y).setIfInBounds (o + 2) z)[o + 1]? = some y ∧ (((cs.setIfInBounds o x).setIfInBounds (o + 1) y).setIfInBounds (o + 2) z)[o + 2]? = some z := by
  have l0 := (Array.getElem?_eq_some_iff.1 h0).1
  have l1 := (Array.getElem?_eq_some_iff.1 h1).1
  have l2 := (Array.getElem?_eq_some_iff.1 h2).1
  refine ⟨?_, ?_, ?_⟩
  · rw [Array.getElem?_setIfInBounds_ne (by omega), Array.getElem?_setIfInBounds_ne (by omega), Array.getElem?_setIfInBounds_self, if_pos l0]
  · rw [Array.getElem?_setIfInBounds_ne (by omega), Array.getElem?_setIfInBounds_self, if_pos (by simpa using l1)]
  · rw [Array.getElem?_setIfInBounds_self, if_pos (by simpa using l2)]
end En
namespace Go.Proofs.Ytghomofakpjglaa
open Go.RowKit Go.Shelf
set_option linter.unusedVariables false
set_option linter.unusedSimpArgs false

theorem need_any (v : Bool) (s : ByteArray) (w : World) : Calls Try.prog 37 #[.bool v, .string s] w fun e w' => (v = true ∧ e = .returned (.tuple #[]) ∧ w = w') ∨ (v = false ∧ Pan e ∧ w = w') := by
  cases v
  · exact (need_no s w).mono fun e w' ⟨h1, h2⟩ => .inr ⟨rfl, ⟨s, h1⟩, h2⟩
  · exact (need_yes s w).mono fun e w' ⟨h1, h2⟩ => .inl ⟨rfl, h1, h2⟩

set_option maxRecDepth 100000 in
set_option maxHeartbeats 4000000 in
theorem layinput_r (x0 y0 b0 : Int) (P o : Nat) (t : TypeId) (cs : Array Value) (bs : List Int) (b Bb Bp : Nat) (w : World) (hBy : Im.IsBytes bs) (hbB : b ≤ Bb) (hbP : b ≤ P) (hbw : b ≤ w.heap.size) (h : Rd b Bb Bp bs w) (hP : Box w P t cs) (s0 : cs[o]? = some (.int .i8 x0)) (s1 : cs[o + 1]? = some (.int .i8 y0)) (s2 : cs[o + 2]? = some (.int .u8 b0)) (h1 : t ≠ 36) (h2 : t ≠ 5) (h3 : t ≠ 82) :
    Calls Try.prog 91 #[.func (.func 76) #[] #[.pointer (some ⟨Bp, 0, none⟩)], .pointer (some ⟨P, o, none⟩)] w (Got b Bb Bp P t cs.size (En.decIn bs) (fun p => ((cs.setIfInBounds o (.int .i8 p.x)).setIfInBounds (o + 1) (.int .i8 p.y)).setIfInBounds (o + 2) (.int .u8 p.b)) w) := by
  have c1 := Lib.hid (part_i8 1 1 rfl x0 P o t cs bs b Bb Bp w (by decide) hBy hbB hbP hbw h hP s0 h1 h2 h3)
  have c2 := fun v bs' X hy hX1 hX2 hX3 => Lib.hid (part_i8 1 1 rfl y0 P (o + 1) t (cs.setIfInBounds o v) bs' b Bb Bp X (by decide) hy hbB hbP hX1 hX2 hX3 (by rw [Array.getElem?_setIfInBounds_ne (by omega), s1]) h1 h2 h3)
  have c3 := fun v v' bs' X hy hX1 hX2 hX3 => Lib.hid (part_u8 1 1 rfl b0 P (o + 2) t ((cs.setIfInBounds o v).setIfInBounds (o + 1) v') bs' b Bb Bp X (by decide) hy hbB hbP hX1 hX2 hX3 (by rw [Array.getElem?_setIfInBounds_ne (by omega), Array.getElem?_setIfInBounds_ne (by omega), s2]) h1 h2 h3)
  have hcell := fun x y z => Lib.hid (En.set3_at (x := x) (y := y) (z := z) s0 s1 s2)
  have hneq := in_neq
  have P0 := Lib.hid hP
  have ltP := hP.lt
  have HW := Lib.hid hbw
  have HY := Lib.hid hBy
  have hdec : En.decIn bs = (Im.rdn 1 bs).bind fun x => (Im.rdn 1 x.2).bind fun y => (Im.rdn 1 y.2).bind fun b => if En.zero ⟨IntKind.i8.wrap x.1, IntKind.i8.wrap y.1, b.1⟩ then none else some (⟨IntKind.i8.wrap x.1, IntKind.i8.wrap y.1, b.1⟩, b.2) := rfl
  have HD := Lib.hid hdec
  clear h hP s0 s1 s2 hdec hbw hBy
  go_enter Try.func91, Try.ntmps91
  go_wp2_with (first | (go_at_call 37; ((with_reducible refine (need_any _ _ _).mono ?_); rintro e wn (⟨hz, rfl, rfl⟩ | ⟨hz, ⟨ss, rfl⟩, rfl⟩))) | (go_at_call 102; first | ((with_reducible refine (c1.out).mono ?_); rintro e w1 (⟨y1, r1, hr, rfl, hI, hK, hB⟩ | ⟨hn, ⟨ss, rfl⟩, hK, cs', hB, hs⟩); (all_goals first | (have R1 := Lib.hid hr; have Y1 := Lib.hid (Im.rdn_inv HY.out hr).2.2.2; have P1 := Lib.hid hB; have I1 := Lib.hid hI; have K1 := Lib.hid hK; clear hr hI hK hB c1) | (have N1 := Lib.hid hn; have F1 := Lib.hid hK; have B1 := Lib.hid hB; have S1 := Lib.hid hs; clear hn hK hB hs c1))) | ((with_reducible refine ((c2 _ _ _ Y1.out (Nat.le_trans HW.out K1.out.below.size) I1.out P1.out).out).mono ?_); rintro e w2 (⟨y2, r2, hr, rfl, hI, hK, hB⟩ | ⟨hn, ⟨ss, rfl⟩, hK, cs', hB, hs⟩); (all_goals first | (have R2 := Lib.hid hr; have Y2 := Lib.hid (Im.rdn_inv Y1.out hr).2.2.2; have P2 := Lib.hid hB; have I2 := Lib.hid hI; have K2 := Lib.hid (K1.out.trans hK); clear hr hI hK hB c2) | (have N2 := Lib.hid hn; have F2 := Lib.hid (K1.out.trans hK); have B2 := Lib.hid hB; have S2 := Lib.hid (hs.trans (Array.size_setIfInBounds ..)); clear hn hK hB hs c2)))) | (go_at_call 103; ((with_reducible refine ((c3 _ _ _ _ Y2.out (Nat.le_trans HW.out K2.out.below.size) I2.out P2.out).out).mono ?_); rintro e w3 (⟨y3, r3, hr, rfl, hI, hK, hB⟩ | ⟨hn, ⟨ss, rfl⟩, hK, cs', hB, hs⟩); (all_goals first | (have R3 := Lib.hid hr; have P3 := Lib.hid hB; have I3 := Lib.hid hI; have K3 := Lib.hid (K2.out.trans hK); have p0 := (hB.cell o).trans (hcell _ _ _).out.1; have p1 := (hB.cell (o + 1)).trans (hcell _ _ _).out.2.1; have p2 := (hB.cell (o + 2)).trans (hcell _ _ _).out.2.2; clear hr hI hK hB c3) | (have N3 := Lib.hid hn; have F3 := Lib.hid (K2.out.trans hK); have B3 := Lib.hid hB; have S3 := Lib.hid (hs.trans ((Array.size_setIfInBounds ..).trans (Array.size_setIfInBounds ..))); clear hn hK hB hs c3)))))
  · go_end0
    refine .inl ⟨⟨IntKind.i8.wrap y1, IntKind.i8.wrap y2, y3⟩, r3, ?_, rfl, I3.out, K3.out, P3.out⟩
    rw [HD.out, R1.out, Option.bind_some, R2.out, Option.bind_some, R3.out, Option.bind_some, if_neg (by simpa using hz)]
  · refine ⟨rfl, .inr ⟨?_, ⟨_, rfl⟩, K3.out, _, P3.out, by simp⟩⟩
    rw [HD.out, R1.out, Option.bind_some, R2.out, Option.bind_some, R3.out, Option.bind_some, if_pos (by simpa using hz)]
  · refine ⟨rfl, .inr ⟨?_, ⟨_, rfl⟩, F3.out, _, B3.out, S3.out⟩⟩
    rw [HD.out, R1.out, Option.bind_some, R2.out, Option.bind_some, N3.out, Option.bind_none]
  · refine ⟨rfl, .inr ⟨?_, ⟨_, rfl⟩, F2.out, _, B2.out, S2.out⟩⟩
    rw [HD.out, R1.out, Option.bind_some, N2.out, Option.bind_none]
  · refine ⟨rfl, .inr ⟨?_, ⟨_, rfl⟩, F1.out, _, B1.out, S1.out⟩⟩
    rw [HD.out, N1.out, Option.bind_none]

set_option maxRecDepth 100000 in
set_option maxHeartbeats 4000000 in
theorem layinputs_r (fr : Int) (l : List En.Ev) (s : Value) (B : Nat) (bs : List Int) (b Bb Bp : Nat) (w : World) (hBy : Im.IsBytes bs) (hbB : b ≤ Bb) (hbP : b ≤ B) (hbw : b ≤ w.heap.size) (h : Rd b Bb Bp bs w) (hP : Box w B 60 (En.cells ⟨fr, l, En.in0⟩ s)) :
    Calls Try.prog 80 #[.func (.func 76) #[] #[.pointer (some ⟨Bp, 0, none⟩)], .pointer (some ⟨B, 0, none⟩)] w (Got b Bb Bp B 60 26 (En.decInputs En.in0 bs) (fun f => En.cells ⟨fr, l, f⟩ s) w) := by
  have ltP := hP.lt
  have P0 := Lib.hid hP
  have W0 := Lib.hid h
  have HW := Lib.hid hbw
  have HY := Lib.hid hBy
  clear h hP hbw hBy
  go_enter Try.func80, Try.ntmps80
  go_wp2_with ((with_reducible refine en_load_ins rfl rfl ?_); apply LoadEn.mk rfl; (focus (with_reducible exact P0.out.alloc _)); dsimp only)
  go_loopw [12] (fun i wr => ∃ k : Nat, k ≤ 8 ∧ i = .int .i64 k ∧ Rd b Bb Bp bs wr ∧ Rk b Bb B w wr ∧ Box wr B 60 (En.cells ⟨fr, l, En.in0⟩ s) ∧ Box wr w.heap.size 3 #[.int .i64 0]) (fun i _ => 8 - (intOf i).toNat)
  case atStart => exact ⟨0, by omega, rfl, W0.out.call (one_below _ _) HW.out, Rk.alloc HW.out _, P0.out.alloc _, Box.made _ _ _⟩
  case round =>
    obtain ⟨k, hk, rfl, hI, hK, hB, hD⟩ := hrel
    by_cases hlt : k < 8
    · have hk8 : (k : Int) < 8 := by omega
      have hpart := in_index En.in0 k hlt
      have hneq := fun W => in_neq 0 0 0 W
      rw [show En.zero ⟨0, 0, 0⟩ = true from rfl] at hneq
      have HI := Lib.hid hI
      have HK := Lib.hid hK
      have HB := Lib.hid hB
      have HD := Lib.hid hD
      have sz := hK.below.size
      clear hI hK hB hD
      simp only [En.in0] at hpart
      go_wp2
      go_roundw
      case rel => exact ⟨k + 1, by omega, by go_num, HI.out.call (one_below _ _) (Nat.le_trans HW.out sz), HK.out.trans (Rk.alloc (Nat.le_trans HW.out sz) _), HB.out.alloc _, HD.out.alloc _⟩
      case measure => simp [intOf]; omega
    · have hk8 : ¬ (k : Int) < 8 := by omega
      obtain rfl : k = 8 := by omega
      have c1 := Lib.hid (part_int 1 1 rfl 0 w.heap.size 0 3 #[.int .i64 0] bs b Bb Bp wr (by decide) HY.out hbB HW.out (Nat.le_trans HW.out hK.below.size) hI hD rfl (by decide) (by decide) (by decide))
      have HB := Lib.hid hB
      have HK := Lib.hid hK
      have neD : B ≠ w.heap.size := by omega
      clear hI hK hB hD
      go_wp2_with (go_at_call 67; ((with_reducible refine (c1.out).mono ?_); rintro r w1 (⟨m, r1, hr, rfl, hI, hK, hB1⟩ | ⟨hn, ⟨ss, rfl⟩, hK, cs', hB1, hs⟩); (all_goals first | (have R1 := Lib.hid hr; have Y1 := Lib.hid (Im.rdn_inv HY.out hr); have D1 := Lib.hid hB1; have P1 := Lib.hid (hK.kb _ _ _ HB.out neD (by decide) (by decide)); have I1 := Lib.hid hI; have K1 := Lib.hid (HK.out.local hK (Nat.le_refl _)); clear hr hI hK hB1 c1) | (have N1 := Lib.hid hn; have F1 := Lib.hid (HK.out.local hK (Nat.le_refl _)); have G1 := Lib.hid (hK.kb _ _ _ HB.out neD (by decide) (by decide)); clear hn hK hB1 hs c1))))
      rotate_left
      · refine ⟨rfl, .inr ⟨?_, ⟨_, rfl⟩, F1.out, _, G1.out, rfl⟩⟩
        unfold En.decInputs
        rw [N1.out, Option.bind_none]
      obtain ⟨mm, hmm⟩ : ∃ mm : Nat, m = mm := ⟨m.toNat, by have := Y1.out.2.1; omega⟩
      subst hmm
      have hm8 : mm < 256 := by have := Y1.out.2.2.1; omega
      have HDI := Lib.hid (show En.decInputs En.in0 bs = En.decIns mm 0 8 En.in0 r1 by unfold En.decInputs; rw [R1.out, Option.bind_some, Int.toNat_natCast])
      go_loopw [26] (fun i wx => ∃ (k : Nat) (f : Nat → Gm.In) (bs' : List Int), k ≤ 8 ∧ i = .int .i64 k ∧ Im.IsBytes bs' ∧ En.decIns mm 0 8 En.in0 r1 = En.decIns mm k (8 - k) f bs' ∧ Rd b Bb Bp bs' wx ∧ Rk b Bb B w1 wx ∧ Box wx B 60 (En.cells ⟨fr, l, f⟩ s)) (fun i _ => 8 - (intOf i).toNat)
      case atStart => exact ⟨0, En.in0, r1, by omega, rfl, Y1.out.2.2.2, rfl, I1.out, Rk.refl _ _ _ _, P1.out⟩
      case round =>
        obtain ⟨k, f, bs', hk, rfl, hy, hdec, hI, hK, hB⟩ := hrel
        have D2 := Lib.hid (hK.kb _ _ _ D1.out neD.symm (by decide) (by decide))
        have d1 := D2.out.cell 0
        simp only [List.getElem?_toArray, Array.setIfInBounds, List.size_toArray, List.length_cons, List.length_nil, Nat.zero_add, Nat.lt_add_one, dite_true, List.set_toArray, List.set_cons_zero, List.getElem?_cons_zero] at d1
        by_cases hlt : k < 8
        · have hk8 : (k : Int) < 8 := by omega
          rw [show 8 - k = (8 - (k + 1)) + 1 by omega] at hdec
          have e0 := (En.cells_in ⟨fr, l, f⟩ s k 0 hlt (by omega)).trans rfl
          have e1 := (En.cells_in ⟨fr, l, f⟩ s k 1 hlt (by omega)).trans rfl
          have e2 := (En.cells_in ⟨fr, l, f⟩ s k 2 hlt (by omega)).trans rfl
          have hwy := Nat.le_trans HW.out (Nat.le_trans K1.out.below.size hK.below.size)
          have ltB := hB.lt
          cases hb : mm.testBit k
          · have hnext : En.decIns mm 0 8 En.in0 r1 = En.decIns mm (k + 1) (8 - (k + 1)) f bs' := by rw [hdec]; show (if mm.testBit k = true then _ else _) = _; rw [hb]; rfl
            obtain ⟨q, hq1, hq2⟩ := En.and_no hm8 hlt hb
            have HN := Lib.hid hnext
            have HI := Lib.hid hI
            have HK := Lib.hid hK
            have HB := Lib.hid hB
            have HYY := Lib.hid hy
            clear hI hK hB hnext hdec e0 e1 e2 hy
            go_upto_region 11 with fail
            go_quiet (fail)
            go_wp2
            go_roundw
            case rel => exact ⟨k + 1, f, bs', by omega, by go_num, HYY.out, HN.out, HI.out.call (draws_below (Below.refl _ _) _) hwy, HK.out.trans ⟨draws_below (Below.refl _ _) _, (Kb.refl wr).call (draws_below (Below.refl _ _) _)⟩, HB.out.draws _⟩
            case measure => simp [intOf]; omega
          · have hnext : En.decIns mm 0 8 En.in0 r1 = (En.decIn bs').bind fun q => En.decIns mm (k + 1) (8 - (k + 1)) (En.upd f k q.1) q.2 := by rw [hdec]; show (if mm.testBit k = true then _ else _) = _; rw [hb]; rfl
            obtain ⟨q, hq1, hq2⟩ := En.and_yes hm8 hlt hb
            have HN := Lib.hid hnext
            have HI := Lib.hid hI
            have HK := Lib.hid hK
            have HB := Lib.hid hB
            have HYY := Lib.hid hy
            have E0 := Lib.hid e0
            have E1 := Lib.hid e1
            have E2 := Lib.hid e2
            clear hI hK hB hnext hdec e0 e1 e2 hy
            go_upto_region 11 with fail
            go_quiet (fail)
            have cl := fun n => Lib.hid (layinput_r _ _ _ B (2 + k * 3) 60 _ bs' b Bb Bp (wr.drewN n) HYY.out hbB hbP hwy (HI.out.call (draws_below (Below.refl _ _) n) hwy) (HB.out.draws n) E0.out E1.out E2.out (by decide) (by decide) (by decide))
            have KD := fun n => Lib.hid (show Rk b Bb B w1 (wr.drewN n) from HK.out.trans ⟨draws_below (Below.refl _ _) _, (Kb.refl wr).call (draws_below (Below.refl _ _) _)⟩)
            go_wp2_with (go_at_call 91; ((with_reducible refine ((cl _).out).mono ?_); rintro r w3 (⟨p, r3, hr, rfl, hI, hK, hB3⟩ | ⟨hn, ⟨ss, rfl⟩, hK, cs', hB3, hs⟩); (all_goals first | (have R3 := Lib.hid hr; have P3 := Lib.hid hB3; have I3 := Lib.hid hI; have K3 := Lib.hid ((KD _).out.trans hK); clear hr hI hK hB3) | (have N3 := Lib.hid hn; have F3 := Lib.hid (K1.out.trans ((KD _).out.trans hK)); have G3 := Lib.hid hB3; have S3 := Lib.hid hs; clear hn hK hB3 hs))))
            · go_roundw
              case rel => exact ⟨k + 1, En.upd f k p, r3, by omega, by go_num, (En.decIn_inv HYY.out R3.out).2.1, by rw [HN.out, R3.out, Option.bind_some], I3.out, K3.out, by have := P3.out; rw [En.cells_setin _ _ k hlt p] at this; exact this⟩
              case measure => simp [intOf]; omega
            · refine ⟨rfl, .inr ⟨?_, ⟨_, rfl⟩, F3.out, _, G3.out, S3.out⟩⟩
              rw [HDI.out, HN.out, N3.out, Option.bind_none]
        · have hk8 : ¬ (k : Int) < 8 := by omega
          obtain rfl : k = 8 := by omega
          have HN := Lib.hid hdec
          have HI := Lib.hid hI
          have HK := Lib.hid hK
          have HB := Lib.hid hB
          clear hI hK hB hdec
          go_wp2
          go_end0
          exact .inl ⟨f, bs', by rw [HDI.out, HN.out]; rfl, rfl, HI.out, K1.out.trans HK.out, HB.out⟩
end Go.Proofs.Ytghomofakpjglaa
namespace Im
open Go
/-- One behind the other is read, so many times. -/
def decN {α : Type} (dec : List Int → Option (α × List Int)) : Nat → List Int → Option (List α × List Int)
  | 0, bs => some ([], bs)
  | n + 1, bs => (dec bs).bind fun q => (decN dec n q.2).bind fun r => some (q.1 :: r.1, r.2)
/-- How many there are, and these. -/
def decL {α : Type} (size : Nat) (dec : List Int → Option (α × List Int)) (bs : List Int) : Option (List α × List Int) := (rdn size bs).bind fun n => decN dec n.1.toNat n.2
section
variable {α : Type} {dec : List Int → Option (α × List Int)}
/-- From l on. -/
def decFrom (dec : List Int → Option (α × List Int)) (l : List α) (n : Nat) (bs : List Int) : Option (List α × List Int) := (decN dec n bs).bind fun r => some (l ++ r.1, r.2)
theorem decFrom_nil (n : Nat) (bs : List Int) : decFrom dec [] n bs = decN dec n bs := by
  unfold decFrom
  cases decN dec n bs <;> rfl
theorem decFrom_zero (l : List α) (bs : List Int) : decFrom dec l 0 bs = some (l, bs) := by
  unfold decFrom decN
  simp
theorem decFrom_some {l : List α} {n : Nat} {bs rest : List Int} {v : α} (h : dec bs = some (v, rest)) : decFrom dec l (n + 1) bs = decFrom dec (l ++ [v]) n rest := by
  unfold decFrom
  rw [decN, h, Option.bind_some]
  cases decN dec n rest <;> simp
theorem decFrom_none {l : List α} {n : Nat} {bs : List Int} (h : dec bs = none) : decFrom dec l (n + 1) bs = none := by
  unfold decFrom
  rw [decN, h]
  rfl
end
theorem flat_take {ys : List (List Int)} {k : Nat} (h : k < ys.length) : (ys.take (k + 1)).flatten = (ys.take k).flatten ++ ys.getD k [] := by
  have e : ys.getD k [] = ys[k] := by simp [h]
  rw [List.take_succ_eq_append_getElem h, List.flatten_append, e]
  simp
theorem flat_le (ys : List (List Int)) (k : Nat) : (ys.take k).flatten.length ≤ ys.flatten.length := by
  have h : ys.flatten.length = (ys.take k).flatten.length + (ys.drop k).flatten.length := by
    rw [← List.length_append, ← List.flatten_append, List.take_append_drop]
  omega
end Im
namespace Go.Proofs.Ytghomofakpjglaa
open Go.RowKit Go.Shelf
set_option linter.unusedVariables false
set_option linter.unusedSimpArgs false

/-- All variables that hold bytes stay, but two. -/
def VarK (Bb P : Nat) (w w' : World) : Prop := ∀ g cs, Box w g 36 cs → g ≠ Bb → g ≠ P → Box w' g 36 cs
section
variable {b Bb P L : Nat} {w w' w'' : World}
theorem VarK.refl (w : World) : VarK Bb P w w := fun _ _ h _ _ => h
theorem VarK.trans (h : VarK Bb P w w') (k : VarK Bb P w' w'') : VarK Bb P w w'' := fun g cs hg h1 h2 => k g cs (h g cs hg h1 h2) h1 h2
theorem VarK.call (h : VarK Bb P w w') (hb : Below w'.heap.size w' w'') : VarK Bb P w w'' := fun g cs hg h1 h2 => (h g cs hg h1 h2).below hb (h g cs hg h1 h2).lt
theorem VarK.wrote (h : VarK Bb P w w') (k : Wrote b Bb w' w'') : VarK Bb P w w'' := fun g cs hg h1 h2 => (h g cs hg h1 h2).wrote k h1 (by decide)
theorem VarK.put (h : VarK Bb P w w') (i : Nat) (u : Value) : VarK Bb P w (w'.setCell ⟨P, i, none⟩ u) := fun g cs hg h1 h2 => (h g cs hg h1 h2).far (p := ⟨P, i, none⟩) h2 u
theorem VarK.fresh (h : VarK Bb P w w') (k : VarK Bb L w' w'') (hL : w.heap.size ≤ L) : VarK Bb P w w'' := fun g cs hg h1 h2 => k g cs (h g cs hg h1 h2) h1 (by have := hg.lt; omega)
end
/-- What the layout of one element does, when it writes: its bytes come behind the others; the element may be another one then. -/
def EachW (fe : Nat) (T : TypeId) (sz : Nat) (C : List Value) (ys : List (List Int)) (b Bb Bp : Nat) (w : World) : Prop :=
  ∀ (k S : Nat) (X : World) (Y : Array Value) (bs : List Int), k < ys.length → Below b w X → b ≤ S → Wr b Bb Bp bs X → bs.length + (ys.getD k []).length ≤ 65536 → Box X S T Y → (∀ j, j < sz → Y[k * sz + j]? = C[k * sz + j]?) →
    Calls Try.prog fe #[.func (.func 73) #[] #[.pointer (some ⟨Bp, 0, none⟩)], .pointer (some ⟨S, k * sz, none⟩)] X fun e w' => e = .returned (.tuple #[]) ∧ Wr b Bb Bp (bs ++ ys.getD k []) w' ∧ Below b X w' ∧ Kb S X w' ∧ VarK Bb S X w' ∧ ∃ Y', Box w' S T Y' ∧ Y'.size = Y.size ∧ ∀ j, (j < k * sz ∨ k * sz + sz ≤ j) → Y'[j]? = Y[j]?
/-- What the layout of one element does, when it reads. -/
def EachR {α : Type} (fe : Nat) (T : TypeId) (sz : Nat) (zc : List Value) (dec : List Int → Option (α × List Int)) (Good : World → α → List Value → Prop) (b Bb Bp : Nat) (w : World) : Prop :=
  ∀ (k S : Nat) (X : World) (Y : Array Value) (bs : List Int), Im.IsBytes bs → Below b w X → b ≤ S → b ≤ X.heap.size → Rd b Bb Bp bs X → Box X S T Y → (∀ j, j < sz → Y[k * sz + j]? = zc[j]?) →
    Calls Try.prog fe #[.func (.func 76) #[] #[.pointer (some ⟨Bp, 0, none⟩)], .pointer (some ⟨S, k * sz, none⟩)] X fun e w' =>
      (∃ v rest C, dec bs = some (v, rest) ∧ e = .returned (.tuple #[]) ∧ Im.IsBytes rest ∧ Rd b Bb Bp rest w' ∧ Rk b Bb S X w' ∧ C.length = sz ∧ Good w' v C ∧ ∃ Y', Box w' S T Y' ∧ Im.Patch Y (k * sz) C Y') ∨
      (dec bs = none ∧ Pan e ∧ Rk b Bb S X w')
/-- The elements of a list that was read, one by one. -/
def AllGood {α : Type} (sz : Nat) (Good : α → List Value → Prop) : List α → List (List Value) → Prop
  | [], [] => True
  | v :: l, C :: Cs => C.length = sz ∧ Good v C ∧ AllGood sz Good l Cs
  | _, _ => False
section
variable {α : Type} {sz : Nat} {Good Good' : α → List Value → Prop}
theorem AllGood.snoc : ∀ {l : List α} {Cs : List (List Value)}, AllGood sz Good l Cs → ∀ {v : α} {C : List Value}, C.length = sz → Good v C → AllGood sz Good (l ++ [v]) (Cs ++ [C])
  | [], [], _, v, C, h1, h2 => ⟨h1, h2, trivial⟩
  | _ :: _, _ :: _, h, v, C, h1, h2 => ⟨h.1, h.2.1, h.2.2.snoc h1 h2⟩
  | [], _ :: _, h, _, _, _, _ => h.elim
  | _ :: _, [], h, _, _, _, _ => h.elim
theorem AllGood.mono (hG : ∀ v C, Good v C → Good' v C) : ∀ {l : List α} {Cs : List (List Value)}, AllGood sz Good l Cs → AllGood sz Good' l Cs
  | [], [], _ => trivial
  | _ :: _, _ :: _, h => ⟨h.1, hG _ _ h.2.1, h.2.2.mono hG⟩
  | [], _ :: _, h => h.elim
  | _ :: _, [], h => h.elim
theorem AllGood.len : ∀ {l : List α} {Cs : List (List Value)}, AllGood sz Good l Cs → Cs.length = l.length ∧ Cs.flatten.length = l.length * sz
  | [], [], _ => ⟨rfl, by simp⟩
  | _ :: l, _ :: Cs, h => by
    have := h.2.2.len
    refine ⟨by simp [this.1], ?_⟩
    rw [List.flatten_cons, List.length_append, h.1, this.2, List.length_cons, Nat.add_mul]; omega
  | [], _ :: _, h => h.elim
  | _ :: _, [], h => h.elim
end
/-- What is left behind a list. -/
def GotL {α : Type} (T : TypeId) (sz : Nat) (D : Option (List α × List Int)) (Good : World → α → List Value → Prop) (b Bb Bp P o : Nat) (t : TypeId) (cs : Array Value) (w : World) (e : Ending) (w' : World) : Prop :=
  (∃ l rest S Cs, D = some (l, rest) ∧ e = .returned (.tuple #[]) ∧ Im.IsBytes rest ∧ Rd b Bb Bp rest w' ∧ Rk b Bb P w w' ∧ w.heap.size ≤ S ∧ Box w' P t (cs.setIfInBounds o (.slice (some ⟨S, 0, none⟩) l.length l.length)) ∧ Box w' S T Cs.flatten.toArray ∧ AllGood sz (Good w') l Cs) ∨
  (D = none ∧ Pan e ∧ Rk b Bb P w w' ∧ Box w' P t cs)
theorem Im.Patch.snoc {Y Y' : Array Value} {Cs : List (List Value)} {z C : List Value} {n k sz : Nat} (h : Im.Patch Y (k * sz) C Y') (hY : ∀ j, Y[j]? = if j < k * sz then Cs.flatten[j]? else if j < n * sz then z[j % sz]? else none) (hC : C.length = sz) (hk : k < n) (hl : Cs.flatten.length = k * sz) : ∀ j, Y'[j]? = if j < (k + 1) * sz then (Cs ++ [C]).flatten[j]? else if j < n * sz then z[j % sz]? else none := fun j => by
  have e : (k + 1) * sz = k * sz + sz := by rw [Nat.add_mul]; omega
  have e2 : (Cs ++ [C]).flatten = Cs.flatten ++ C := by simp
  have hkn : (k + 1) * sz ≤ n * sz := Nat.mul_le_mul_right _ hk
  rw [h j, e, e2, hC]
  by_cases h1 : j < k * sz
  · rw [if_neg (by omega), if_pos (by omega), hY j, if_pos h1, List.getElem?_append_left (by omega)]
  · by_cases h2 : j < k * sz + sz
    · rw [if_pos (by omega), if_pos h2, List.getElem?_append_right (by omega), hl]
    · rw [if_neg (by omega), if_neg (by omega), hY j, if_neg h1]
theorem made_rows (z : Array Value) (n : Nat) (hz : 0 < z.size) : ∀ j, (madeCells z (n * z.size))[j]? = if j < 0 * z.size then ([] : List (List Value)).flatten[j]? else if j < n * z.size then z.toList[j % z.size]? else none := fun j => by
  rw [if_neg (by omega)]
  by_cases hj : j < n * z.size
  · rw [if_pos hj]
    unfold madeCells
    rw [Array.getElem?_map, Array.getElem?_range, if_pos hj]
    have h2 := Nat.mod_lt j hz
    simp [h2]
  · rw [if_neg hj]
    exact Array.getElem?_eq_none (by rw [size_madeCells]; omega)
end Go.Proofs.Ytghomofakpjglaa
namespace Go.Proofs.Ytghomofakpjglaa
open Go.RowKit Go.Shelf
set_option linter.unusedVariables false
set_option linter.unusedSimpArgs false

theorem zev_infoZ : (Try.prog.info? 71).map (fun i => (i.zero, i.size, i.bytes)) = some (some (Value.agg #[.int .i64 0, .int .i64 0, .int .i64 0, .int .i64 0]), 4, 32) := by kernel_rfl
theorem zev_sz : (Try.prog.info? 71).map (·.size) = some 4 := by kernel_rfl

set_option maxRecDepth 100000 in
set_option maxHeartbeats 4000000 in
theorem listzev_w (C : List Value) (ys : List (List Int)) (n : Nat) (A : Option Addr) (c size : Nat) (z : Int) (hz : z = size) (P o : Nat) (t : TypeId) (cs : Array Value) (bs : List Int) (b Bb Bp : Nat) (w : World) (hn : ys.length = n) (hn16 : n ≤ 4096) (hs : size ≤ 8) (hbB : b ≤ Bb) (hbP : b ≤ P) (hbw : b ≤ w.heap.size) (h : Wr b Bb Bp bs w) (hl : bs.length + size + ys.flatten.length ≤ 65536) (hP : Box w P t cs)
    (ho : cs[o]? = some (.slice A n c)) (hL : Lies w b 4 A n C) (hone : ∀ u ∈ C, u.oneCell' = true) (h1 : t ≠ 36) (h2 : t ≠ 5) (h3 : t ≠ 82) (hc : EachW 79 71 4 C ys b Bb Bp w) :
    Calls Try.prog 78 #[.func (.func 73) #[] #[.pointer (some ⟨Bp, 0, none⟩)], .int .i64 z, .pointer (some ⟨P, o, none⟩), .func (.func 79) #[] #[]] w fun e w' => e = .returned (.tuple #[]) ∧ Wr b Bb Bp (bs ++ (Im.bytesOf size n ++ ys.flatten)) w' ∧ Below b w w' ∧ Kb P w w' ∧ VarK Bb P w w' ∧ ∃ S, Box w' P t (cs.setIfInBounds o (.slice (some ⟨S, 0, none⟩) n n)) := by
  subst hz
  have k0 := hP.cell o
  rw [ho] at k0
  have ltP := hP.lt
  have hwn : IntKind.u64.wrap (n : Int) = n := by rw [IntKind.wrap_u64]; omega
  have HL := Lib.hid (Box.made w 3 #[.int .i64 n])
  have HPA := Lib.hid (hP.alloc (.cells #[.int .i64 n] 3))
  have HA := Lib.hid (h.alloc (.cells #[.int .i64 n] 3))
  have WA := Lib.hid ((Wrote.refl hbB w).alloc (.cells #[.int .i64 n] 3))
  have KA := Lib.hid ((Kb.refl (B := P) w).call (one_below w (.cells #[.int .i64 n] 3)))
  have VA := Lib.hid ((VarK.refl (Bb := Bb) (P := P) w).call (one_below w (.cells #[.int .i64 n] 3)))
  have c1 := Lib.hid (layint_w size size rfl n w.heap.size 0 3 #[.int .i64 n] bs b Bb Bp _ hs (by omega) hbB HA.out (by omega) HL.out rfl (by decide) (by decide) (by decide))
  rw [hwn] at c1
  have hvar := Lib.hid HA.out.isvar
  have HO := Lib.hid ho
  have HLs := Lib.hid hL
  obtain ⟨i0, hi0, hz0, hz1, hz2⟩ := info_parts zev_infoZ
  obtain ⟨Z, hZ⟩ : ∃ Z, Z = madeCells (Value.agg #[.int .i64 0, .int .i64 0, .int .i64 0, .int .i64 0]).cells (n * 4) := ⟨_, rfl⟩
  have hZs : Z.size = n * 4 := by rw [hZ, size_madeCells]
  have hCs : C.length = n * 4 := hL.len
  have hmk : ∀ W : World, (Instr.makeSlice 54 (.int .i64 (n : Int)) (.int .i64 (n : Int))).run Try.prog W = .ok (.slice (some ⟨W.heap.size, 0, none⟩) n n) (W.alloc (.cells Z 71)) := fun W => by
    have := run_make (P := Try.prog) W 54 71 i0 _ Try.underlying54 hi0 hz0 .i64 .i64 n n (by omega) (Int.le_refl _) (by rw [hz2]; omega) (by omega)
    rw [this, hZ, hz1, Int.toNat_natCast]
  have hcp : ∀ W : World, Lies W W.heap.size 4 A n C → (Builtin.copy_ #[54, 54] 3 #[.slice (some ⟨W.heap.size, 0, none⟩) n n, .slice A n c]).run Try.prog (W.alloc (.cells Z 71)) = .ok (.int .i64 n) (W.alloc (.cells C.toArray 71)) := fun W hW => by
    cases A with
    | none =>
      have hn0 : n = 0 := by
        by_cases h0 : n = 0
        · exact h0
        · obtain ⟨ad, e, _⟩ := hW.start h0
          cases e
      have hl0 : C = [] := List.eq_nil_of_length_eq_zero (by omega)
      have hz : Z = #[] := Array.eq_empty_of_size_eq_zero (by omega)
      have := run_copy_nought (P := Try.prog) (W.alloc (.cells Z 71)) 54 54 3 71 ⟨W.heap.size, 0, none⟩ n n c Try.underlying54 (by rw [Option.isSome_map]; rw [hi0]; rfl)
      rw [hn0] at this ⊢
      rw [hl0]
      rw [hz] at this ⊢
      simpa [goInt] using this
    | some ad =>
      have hc : ∀ j v, C[j]? = some v → (W.alloc (.cells Z 71)).cell? (ad.add j) = some v := fun j v hv => by
        have hn0 : n ≠ 0 := fun e => by
          have := (List.getElem?_eq_some_iff.1 hv).1
          omega
        exact (hW.below (one_below W (.cells Z 71))).cell ad rfl hn0 j v hv
      have := run_copy_rows (P := Try.prog) (W.alloc (.cells Z 71)) 54 54 3 71 4 W.heap.size n n ad n c Z 71 C Try.underlying54 zev_sz (Box.made W _ _).is (by rw [hW.len]; simp) hc (by rw [hW.len, hZs]) hone
      rw [World.setRow_alloc_new] at this
      simpa [goInt] using this
  have NL := Lib.hid hn
  have HC := Lib.hid hc
  have HCS := Lib.hid hCs
  clear h hP ho hL hZ hn hc hCs
  go_enter Try.func78, Try.ntmps78
  go_upto_region 2 with (go_at_call 67; ((with_reducible refine (c1.out).mono ?_); rintro e w1 ⟨rfl, hI1, hK1⟩; have L1 := HL.out.wrote' hK1 hvar.out (by decide) (by decide); have l1 := L1.cell 0; have P1 := Lib.hid (HPA.out.wrote' hK1 hvar.out h1 h2); have I1 := Lib.hid hI1; have K1 := Lib.hid (WA.out.trans hK1); have B1 := Lib.hid (KA.out.wrote hK1 hvar.out); have V1 := Lib.hid (VA.out.wrote hK1); clear hI1 hK1 L1 k0))
  have lw1 := (HLs.out.below (K1.out.to hbw))
  have hcpw := hcp w1 (lw1.wider (Nat.le_trans hbw K1.out.size))
  have p58 : ∀ x, (w1.alloc x).cell? ⟨P, o, none⟩ = some (.slice A n c) := fun x => ((P1.out.alloc x).cell o).trans HO.out
  have sz1 : w.heap.size ≤ w1.heap.size := K1.out.size
  clear hcp lw1 HLs HL HPA HA WA KA VA c1
  go_upto_region 4 with fail
  obtain ⟨U, hU⟩ : ∃ U, U = w1.alloc (.cells C.toArray 71) := ⟨_, rfl⟩
  have PU : Box U P t cs := by rw [hU]; exact P1.out.alloc _
  have SU : Box U w1.heap.size 71 C.toArray := by rw [hU]; exact Box.made w1 _ _
  have IU : Wr b Bb Bp (bs ++ Im.bytesOf size n) U := by rw [hU]; exact I1.out.alloc _
  have BU : Below b w U := by rw [hU]; exact (K1.out.to hbw).alloc (Nat.le_trans hbw sz1) _
  have KU : Kb P w U := by rw [hU]; exact B1.out.call (one_below _ _)
  have VU : VarK Bb P w U := by rw [hU]; exact V1.out.call (one_below _ _)
  have hSP : w1.heap.size ≠ P := by have := P1.out.lt; omega
  have hbS : b ≤ w1.heap.size := Nat.le_trans hbw sz1
  have hSw : w.heap.size ≤ w1.heap.size := sz1
  rw [← hU]
  generalize w1.heap.size = S at *
  have IU := Lib.hid IU
  have PU := Lib.hid PU
  have SU := Lib.hid SU
  have BU := Lib.hid BU
  have KU := Lib.hid KU
  have VU := Lib.hid VU
  clear hU I1 K1 P1 B1 V1 p58 hcpw hmk l1 hvar sz1
  go_upto_region 5 with fail
  go_loopw [10, 27] (fun _ i wr => ∃ k : Nat, k ≤ n ∧ i = .int .i64 k ∧ Wr b Bb Bp (bs ++ Im.bytesOf size n ++ (ys.take k).flatten) wr ∧ Below b U wr ∧ Kb S U wr ∧ VarK Bb S U wr ∧ ∃ Y, Box wr S 71 Y ∧ Y.size = C.length ∧ ∀ j, k * 4 ≤ j → Y[j]? = C[j]?) (fun _ i _ => n - (intOf i).toNat)
  case atStart => exact ⟨0, by omega, rfl, by simpa using IU.out, Below.refl _ _, Kb.refl _, VarK.refl _, _, SU.out, by simp, fun j _ => by simp⟩
  case round =>
    obtain ⟨k, hk, rfl, hI, hB, hK, hVK, Y, hY, hYs, hYc⟩ := hrel
    by_cases hlt : k < n
    · have hk8 : (k : Int) < n := by omega
      have hkl : k < ys.length := by have := NL.out; omega
      have ht := Im.flat_take hkl
      have hle := Im.flat_le ys (k + 1)
      rw [ht, List.length_append] at hle
      have HT := Lib.hid ht
      have cc := Lib.hid (HC.out k S wr Y (bs ++ Im.bytesOf size n ++ (ys.take k).flatten) hkl (BU.out.trans hB) hbS hI (by rw [List.length_append, List.length_append, Im.bytesOf_len]; omega) hY (fun j hj => hYc _ (by omega)))
      have HB := Lib.hid hB
      have HK := Lib.hid hK
      have HVK := Lib.hid hVK
      have HYs := Lib.hid hYs
      have HYc := Lib.hid hYc
      clear ht hle hI hB hK hVK hYs hYc hY
      go_wp2_with (go_at_call 79; ((with_reducible refine (cc.out).mono ?_); rintro e w3 ⟨rfl, hI, hB, hK, hVK, Y', hY, hYs, hYc⟩; have V3 := Lib.hid (HVK.out.trans hVK); have I3 := Lib.hid hI; have B3 := Lib.hid (HB.out.trans hB); have K3 := Lib.hid (HK.out.trans hK); have Y3 := Lib.hid hY; have Z3 := Lib.hid (hYs.trans HYs.out); have C3 := Lib.hid hYc; clear hI hB hK hVK hY hYs hYc))
      go_roundw
      case rel => exact ⟨k + 1, by omega, by go_num, by rw [HT.out, ← List.append_assoc]; exact I3.out, B3.out, K3.out, V3.out, Y', Y3.out, Z3.out, fun j hj => by rw [C3.out j (by omega)]; exact HYc.out j (by omega)⟩
      case measure => simp [intOf]; omega
    · have hk8 : ¬ (k : Int) < n := by omega
      obtain rfl : k = n := by omega
      have ht : ys.take k = ys := List.take_of_length_le (by have := NL.out; omega)
      rw [ht] at hI
      have HI := Lib.hid hI
      have HK := Lib.hid hK
      have HB := Lib.hid hB
      have HVK := Lib.hid hVK
      have PW := Lib.hid (hK P t cs PU.out hSP.symm h1 h2)
      have pc : wr.cell? ⟨P, o, none⟩ = some (.slice A k c) := (PW.out.cell o).trans HO.out
      have pf : wr.frozen? ⟨P, o, none⟩ = false := PW.out.free o
      clear hI hK hB hVK hY hYs hYc
      go_wp2
      go_end0
      exact ⟨rfl, by rw [← List.append_assoc]; exact HI.out.off (p := ⟨P, o, none⟩) PW.out h3 h1 h2 _, (BU.out.trans HB.out).setCell hbP _, (KU.out.fresh HK.out hSw).put o _, (VU.out.fresh HVK.out hSw).put o _, S, PW.out.put o _⟩

set_option maxRecDepth 100000 in
set_option maxHeartbeats 4000000 in
theorem listzev_r {α : Type} (dec : List Int → Option (α × List Int)) (Good : World → α → List Value → Prop) (size : Nat) (z : Int) (hz : z = size) (P o : Nat) (t : TypeId) (cs : Array Value) (bs : List Int) (b Bb Bp : Nat) (w : World) (hBy : Im.IsBytes bs) (hs : 1 ≤ size ∧ size ≤ 2) (hbB : b ≤ Bb) (hbP : b ≤ P) (hbw : b ≤ w.heap.size) (h : Rd b Bb Bp bs w) (hP : Box w P t cs)
    (ho : cs[o]? = some (.slice none 0 0)) (h1 : t ≠ 36) (h2 : t ≠ 5) (h3 : t ≠ 82)
    (hG1 : ∀ X X' S Y v C, Box X S 71 Y → Kb S X X' → Good X v C → Good X' v C) (hG2 : ∀ X X' Y v C, Box X P t Y → Kb P X X' → Good X v C → Good X' v C)
    (hc : EachR 79 71 4 (Value.agg #[.int .i64 0, .int .i64 0, .int .i64 0, .int .i64 0]).cells.toList dec Good b Bb Bp w) :
    Calls Try.prog 78 #[.func (.func 76) #[] #[.pointer (some ⟨Bp, 0, none⟩)], .int .i64 z, .pointer (some ⟨P, o, none⟩), .func (.func 79) #[] #[]] w (GotL 71 4 (Im.decL size dec bs) Good b Bb Bp P o t cs w) := by
  subst hz
  have k0 := hP.cell o
  rw [ho] at k0
  have ltP := hP.lt
  have HPA := Lib.hid (hP.alloc (.cells #[.int .i64 0] 3))
  have HKA := Lib.hid (Rk.alloc (w := w) (Bb := Bb) (P := P) hbw (.cells #[.int .i64 0] 3))
  have c1 := Lib.hid (part_int size size rfl 0 w.heap.size 0 3 #[.int .i64 0] bs b Bb Bp _ (by omega) hBy hbB hbw (by simp <;> omega) (h.call (one_below w (.cells #[.int .i64 0] 3)) hbw) (Box.made w 3 #[.int .i64 0]) rfl (by decide) (by decide) (by decide))
  obtain ⟨i0, hi0, hz0, hz1, hz2⟩ := info_parts zev_infoZ
  have hmk : ∀ (n : Nat), n < 65536 → ∀ W : World, (Instr.makeSlice 54 (.int .i64 (n : Int)) (.int .i64 (n : Int))).run Try.prog W = .ok (.slice (some ⟨W.heap.size, 0, none⟩) n n) (W.alloc (.cells (madeCells (Value.agg #[.int .i64 0, .int .i64 0, .int .i64 0, .int .i64 0]).cells (n * 4)) 71)) := fun n hn W => by
    have := run_make (P := Try.prog) W 54 71 i0 _ Try.underlying54 hi0 hz0 .i64 .i64 n n (by omega) (Int.le_refl _) (by rw [hz2]; omega) (by omega)
    rw [this, hz1, Int.toNat_natCast]
  have hcp : ∀ (n : Nat) (Z : Array Value) (W : World), (Builtin.copy_ #[54, 54] 3 #[.slice (some ⟨W.heap.size, 0, none⟩) n n, .slice none 0 0]).run Try.prog (W.alloc (.cells Z 71)) = .ok (.int .i64 0) (W.alloc (.cells Z 71)) := fun n Z W => by
    have := run_copy_nought (P := Try.prog) (W.alloc (.cells Z 71)) 54 54 3 71 ⟨W.heap.size, 0, none⟩ n n 0 Try.underlying54 (by rw [Option.isSome_map]; rw [hi0]; rfl)
    simpa [goInt] using this
  have HO := Lib.hid ho
  have HB := Lib.hid hbP
  have HW := Lib.hid hbw
  have HY := Lib.hid hBy
  have HC := Lib.hid hc
  have G1 := Lib.hid hG1
  have G2 := Lib.hid hG2
  have HS := Lib.hid hs
  clear h hP ho hBy hc hG1 hG2 hs
  go_enter Try.func78, Try.ntmps78
  go_upto_region 2 with (go_at_call 67; ((with_reducible refine (c1.out).mono ?_); rintro r w1 (⟨m, r1, hr, rfl, hI, hK, hB1⟩ | ⟨hn, ⟨ss, rfl⟩, hK, cs', hB1, hs⟩); (all_goals first | (have R1 := Lib.hid hr; have Y1 := Lib.hid (Im.rdn_inv HY.out hr); have l1 := hB1.cell 0; have P1 := Lib.hid (hK.kb _ _ _ HPA.out (by omega) h1 h2); have I1 := Lib.hid hI; have K1 := Lib.hid (HKA.out.local hK (Nat.le_refl _)); clear hr hI hK hB1 c1 k0) | (have N1 := Lib.hid hn; have F1 := Lib.hid (HKA.out.local hK (Nat.le_refl _)); have Q1 := Lib.hid (hK.kb _ _ _ HPA.out (by omega) h1 h2); clear hn hK hB1 hs c1 k0))))
  rotate_left
  · refine ⟨rfl, .inr ⟨?_, ⟨_, rfl⟩, F1.out, Q1.out⟩⟩
    unfold Im.decL
    rw [N1.out, Option.bind_none]
  obtain ⟨n, hmn⟩ : ∃ n : Nat, m = n := ⟨m.toNat, by have := Y1.out.2.1; omega⟩
  subst hmn
  have hn256 : n < 65536 := by
    have h1 := Y1.out.2.2.1
    have h2 : (2 : Int) ^ (8 * size) ≤ 2 ^ 16 := by
      have := Nat.pow_le_pow_right (show 0 < 2 by decide) (show 8 * size ≤ 16 by have := HS.out; omega)
      exact_mod_cast this
    omega
  have HDE := Lib.hid (show Im.decL size dec bs = Im.decFrom dec [] n r1 by unfold Im.decL; rw [R1.out, Option.bind_some, Int.toNat_natCast, Im.decFrom_nil])
  simp only [List.getElem?_toArray, Array.setIfInBounds, List.size_toArray, List.length_cons, List.length_nil, Nat.zero_add, Nat.lt_add_one, dite_true, List.set_toArray, List.set_cons_zero, List.getElem?_cons_zero] at l1
  have hmkn := hmk n hn256
  obtain ⟨Z, hZ⟩ : ∃ Z, Z = madeCells (Value.agg #[.int .i64 0, .int .i64 0, .int .i64 0, .int .i64 0]).cells (n * 4) := ⟨_, rfl⟩
  rw [← hZ] at hmkn
  have HZ := Lib.hid (show ∀ j, Z[j]? = if j < 0 * 4 then ([] : List (List Value)).flatten[j]? else if j < n * 4 then (Value.agg #[.int .i64 0, .int .i64 0, .int .i64 0, .int .i64 0]).cells.toList[j % 4]? else none from by rw [hZ]; exact made_rows (Value.agg #[.int .i64 0, .int .i64 0, .int .i64 0, .int .i64 0]).cells n (by decide))
  have hcpw := hcp n Z w1
  have p58 : ∀ x, (w1.alloc x).cell? ⟨P, o, none⟩ = some (.slice none 0 0) := fun x => ((P1.out.alloc x).cell o).trans HO.out
  have s1 := Nat.le_trans HW.out K1.out.below.size
  have sz1 := K1.out.below.size
  clear hcp HPA HKA hmk hZ
  go_upto_region 4 with fail
  obtain ⟨U, hU⟩ : ∃ U, U = w1.alloc (.cells Z 71) := ⟨_, rfl⟩
  have PU := Lib.hid (show Box U P t cs by (rw [hU]; exact P1.out.alloc _))
  have SU := Lib.hid (show Box U w1.heap.size 71 Z by (rw [hU]; exact Box.made w1 _ _))
  have IU := Lib.hid (show Rd b Bb Bp r1 U by (rw [hU]; exact I1.out.call (one_below w1 _) s1))
  have KU := Lib.hid (show Rk b Bb P w U by (rw [hU]; exact K1.out.trans (Rk.alloc (w := w1) (Bb := Bb) (P := P) s1 _)))
  have hSB : Hid (w1.heap.size ≠ P) := Lib.hid (by have := P1.out.lt; omega)
  have hSw : Hid (b ≤ w1.heap.size) := Lib.hid s1
  have hSz : Hid (w.heap.size ≤ w1.heap.size) := Lib.hid sz1
  rw [← hU]
  generalize w1.heap.size = S at *
  clear hU I1 K1 P1 p58 hcpw hmkn l1 s1 sz1
  have hbU : b ≤ U.heap.size := Nat.le_trans HW.out KU.out.below.size
  go_upto_region 5 with fail
  go_loopw [10, 27] (fun _ i wr => ∃ (k : Nat) (l : List α) (Cs : List (List Value)) (bs' : List Int), k ≤ n ∧ i = .int .i64 k ∧ l.length = k ∧ Im.IsBytes bs' ∧ Im.decFrom dec [] n r1 = Im.decFrom dec l (n - k) bs' ∧ Rd b Bb Bp bs' wr ∧ Rk b Bb S U wr ∧ AllGood 4 (Good wr) l Cs ∧ ∃ Y, Box wr S 71 Y ∧ ∀ j, Y[j]? = if j < k * 4 then Cs.flatten[j]? else if j < n * 4 then (Value.agg #[.int .i64 0, .int .i64 0, .int .i64 0, .int .i64 0]).cells.toList[j % 4]? else none) (fun _ i _ => n - (intOf i).toNat)
  case atStart => exact ⟨0, [], [], r1, by omega, rfl, rfl, Y1.out.2.2.2, rfl, IU.out, Rk.refl _ _ _ _, trivial, Z, SU.out, HZ.out⟩
  case round =>
    obtain ⟨k, l, Cs, bs', hk, rfl, hlen, hy, hdec, hI, hK, hA, Y, hB, hYc⟩ := hrel
    by_cases hlt : k < n
    · have hk8 : (k : Int) < n := by omega
      rw [show n - k = (n - (k + 1)) + 1 by omega] at hdec
      have hwy : b ≤ wr.heap.size := Nat.le_trans hbU hK.below.size
      have hkn : (k + 1) * 4 ≤ n * 4 := Nat.mul_le_mul_right _ hlt
      have cc := Lib.hid (HC.out k S wr Y bs' hy (KU.out.below.trans hK.below) hSw.out hwy hI hB (fun j hj => by rw [hYc, if_neg (by omega), if_pos (by omega)]; congr 1; omega))
      have HNX := Lib.hid hdec
      have HLEN := Lib.hid hlen
      have K2 := Lib.hid hK
      have HA := Lib.hid hA
      have HBX := Lib.hid hB
      have HYC := Lib.hid hYc
      clear hI hK hB hdec hlen hy hwy hA hYc hkn
      go_wp2_with (go_at_call 79; ((with_reducible refine (cc.out).mono ?_); rintro e w3 (⟨v, r3, C, hr, rfl, hy, hI, hK, hCl, hG, Y', hB, hP⟩ | ⟨hn, ⟨ss, rfl⟩, hK⟩); (all_goals first | (have R3 := Lib.hid hr; have Y3 := Lib.hid hy; have I3 := Lib.hid hI; have K3 := Lib.hid (K2.out.trans hK); have A3 := Lib.hid ((HA.out.mono (fun v C => G1.out wr w3 S Y v C HBX.out hK.kb)).snoc hCl hG); have B3 := Lib.hid hB; have Z3 := Lib.hid (Im.Patch.snoc hP HYC.out hCl hlt (by rw [HA.out.len.2, HLEN.out])); clear hr hy hI hK hCl hG hB hP) | (have N3 := Lib.hid hn; have F3 := Lib.hid (K2.out.trans hK); clear hn hK))))
      · go_roundw
        case rel => exact ⟨k + 1, l ++ [v], Cs ++ [C], r3, by omega, by go_num, by rw [List.length_append, HLEN.out]; rfl, Y3.out, by rw [HNX.out, Im.decFrom_some R3.out], I3.out, K3.out, A3.out, Y', B3.out, Z3.out⟩
        case measure => simp [intOf]; omega
      · refine ⟨rfl, .inr ⟨?_, ⟨_, rfl⟩, KU.out.local F3.out hSz.out, F3.out.kb _ _ _ PU.out hSB.out.symm h1 h2⟩⟩
        rw [HDE.out, HNX.out, Im.decFrom_none N3.out]
    · have hk8 : ¬ (k : Int) < n := by omega
      obtain rfl : k = n := by omega
      rw [Nat.sub_self, Im.decFrom_zero] at hdec
      have HI := Lib.hid hI
      have HK := Lib.hid hK
      have HDX := Lib.hid hdec
      have HL := Lib.hid hlen
      have HYY := Lib.hid hy
      have PW := Lib.hid (hK.kb _ _ _ PU.out hSB.out.symm h1 h2)
      have pc : wr.cell? ⟨P, o, none⟩ = some (.slice none 0 0) := (PW.out.cell o).trans HO.out
      have pf : wr.frozen? ⟨P, o, none⟩ = false := PW.out.free o
      have eY : Y = Cs.flatten.toArray := by
        apply Array.ext_getElem?
        intro j
        have hl2 := hA.len.2
        rw [hYc j]
        by_cases hj : j < k * 4
        · rw [if_pos hj, List.getElem?_toArray]
        · rw [if_neg hj, if_neg hj, List.getElem?_toArray, List.getElem?_eq_none (by rw [hl2, hlen]; omega)]
      have HA := Lib.hid hA
      rw [eY] at hB
      have HBX := Lib.hid hB
      clear hI hK hB hdec hlen hy hA hYc eY
      go_wp2
      go_end0
      refine .inl ⟨l, bs', S, Cs, by rw [HDE.out, HDX.out], rfl, HYY.out, HI.out.off (p := ⟨P, o, none⟩) PW.out h3 h1 HB.out _, ?_, hSz.out, ?_, HBX.out.far hSB.out _, HA.out.mono fun v C => G2.out wr _ cs v C PW.out ((Kb.refl wr).put o _)⟩
      · exact (KU.out.local HK.out hSz.out).put HB.out o _
      · rw [HL.out]; exact PW.out.put o _
end Go.Proofs.Ytghomofakpjglaa
namespace Go.Proofs.Ytghomofakpjglaa
open Go.RowKit Go.Shelf
set_option linter.unusedVariables false
set_option linter.unusedSimpArgs false

set_option maxRecDepth 100000 in
set_option maxHeartbeats 4000000 in
theorem layevent_w (kind slot gen peer : Int) (P o : Nat) (t : TypeId) (cs : Array Value) (bs : List Int) (b Bb Bp : Nat) (w : World) (hok : En.evOk ⟨kind, slot, gen, peer⟩) (hbB : b ≤ Bb) (h : Wr b Bb Bp bs w) (hl : bs.length + 5 ≤ 65536) (hP : Box w P t cs)
    (s0 : cs[o]? = some (.int .i64 kind)) (s1 : cs[o + 1]? = some (.int .i64 slot)) (s2 : cs[o + 2]? = some (.int .i64 gen)) (s3 : cs[o + 3]? = some (.int .i64 peer)) (h1 : t ≠ 36) (h2 : t ≠ 5) (h3 : t ≠ 82) :
    Calls Try.prog 79 #[.func (.func 73) #[] #[.pointer (some ⟨Bp, 0, none⟩)], .pointer (some ⟨P, o, none⟩)] w fun e w' => e = .returned (.tuple #[]) ∧ Wr b Bb Bp (bs ++ En.evBytes ⟨kind, slot, gen, peer⟩) w' ∧ Wrote b Bb w w' := by
  obtain ⟨v1, v2, v3, v4⟩ := hok
  dsimp only at v1 v2 v3 v4
  have HSN := Lib.hid (show bs ++ En.evBytes ⟨kind, slot, gen, peer⟩ = bs ++ Im.bytesOf 1 kind ++ Im.bytesOf 1 slot ++ Im.bytesOf 2 gen ++ Im.bytesOf 1 peer by simp [En.evBytes])
  have hw0 : IntKind.u64.wrap kind = kind := by rw [IntKind.wrap_u64]; omega
  have hw1 : IntKind.u64.wrap slot = slot := by rw [IntKind.wrap_u64]; omega
  have hw2 : IntKind.u64.wrap gen = gen := by rw [IntKind.wrap_u64]; omega
  have hw3 : IntKind.u64.wrap peer = peer := by rw [IntKind.wrap_u64]; omega
  have P2 := Lib.hid hP
  have IV2 := Lib.hid h.isvar
  have ltP := hP.lt
  have c0 := Lib.hid (layint_w 1 1 rfl kind P o t _ bs b Bb Bp w (by decide) (by omega) hbB h (by omega) hP s0 h1 h2 h3)
  rw [hw0] at c0
  have c1 := fun X (hX : Wr b Bb Bp (bs ++ Im.bytesOf 1 kind) X) hB => Lib.hid (layint_w 1 1 rfl slot P (o + 1) t _ _ b Bb Bp X (by decide) (by omega) hbB hX (by simp only [List.length_append, Im.bytesOf_len]; omega) hB s1 h1 h2 h3)
  rw [hw1] at c1
  have c2 := fun X (hX : Wr b Bb Bp (bs ++ Im.bytesOf 1 kind ++ Im.bytesOf 1 slot) X) hB => Lib.hid (layint_w 2 2 rfl gen P (o + 2) t _ _ b Bb Bp X (by decide) (by omega) hbB hX (by simp only [List.length_append, Im.bytesOf_len]; omega) hB s2 h1 h2 h3)
  rw [hw2] at c2
  have c3 := fun X (hX : Wr b Bb Bp (bs ++ Im.bytesOf 1 kind ++ Im.bytesOf 1 slot ++ Im.bytesOf 2 gen) X) hB => Lib.hid (layint_w 1 1 rfl peer P (o + 3) t _ _ b Bb Bp X (by decide) (by omega) hbB hX (by simp only [List.length_append, Im.bytesOf_len]; omega) hB s3 h1 h2 h3)
  rw [hw3] at c3
  clear h hP s0 s1 s2 s3 hw0 hw1 hw2 hw3
  go_enter Try.func79, Try.ntmps79
  go_wp2_with (go_at_call 67; first | ((with_reducible refine (c0.out).mono ?_); rintro e w3 ⟨rfl, hI, hK⟩; have P3 := Lib.hid (P2.out.wrote' hK IV2.out h1 h2); have IV3 := Lib.hid hI.isvar; have I3 := Lib.hid hI; have K3 := Lib.hid hK; clear hI hK c0) | ((with_reducible refine ((c1 _ I3.out P3.out).out).mono ?_); rintro e w4 ⟨rfl, hI, hK⟩; have P4 := Lib.hid (P3.out.wrote' hK IV3.out h1 h2); have IV4 := Lib.hid hI.isvar; have I4 := Lib.hid hI; have K4 := Lib.hid (K3.out.trans hK); clear hI hK) | ((with_reducible refine ((c2 _ I4.out P4.out).out).mono ?_); rintro e w5 ⟨rfl, hI, hK⟩; have P5 := Lib.hid (P4.out.wrote' hK IV4.out h1 h2); have IV5 := Lib.hid hI.isvar; have I5 := Lib.hid hI; have K5 := Lib.hid (K4.out.trans hK); clear hI hK) | ((with_reducible refine ((c3 _ I5.out P5.out).out).mono ?_); rintro e w6 ⟨rfl, hI, hK⟩; have I6 := Lib.hid hI; have K6 := Lib.hid (K5.out.trans hK); clear hI hK))
  go_end0
  exact ⟨rfl, by rw [HSN.out]; exact I6.out, K6.out⟩
theorem eachevent_w (l : List En.Ev) (hok : ∀ s ∈ l, En.evOk s) (b Bb Bp : Nat) (w : World) (hbB : b ≤ Bb) (hbw : b ≤ w.heap.size) : EachW 79 71 4 (En.evCells l) (l.map En.evBytes) b Bb Bp w := by
  intro k S X Y bs hk hB hbS hI hl hY hc
  rw [List.length_map] at hk
  have e : (l.map En.evBytes).getD k [] = En.evBytes l[k] := by simp [hk]
  rw [e] at hl ⊢
  have ok := hok l[k] (List.getElem_mem hk)
  have sc : ∀ j, j < 4 → Y[k * 4 + j]? = (l[k]).cells[j]? := fun j hj => by rw [hc j hj]; exact En.evCells_at l k j hk hj
  generalize hs : l[k] = s at *
  obtain ⟨kind, slot, gen, peer⟩ := s
  have s0 := sc 0 (by omega)
  have s1 := sc 1 (by omega)
  have s2 := sc 2 (by omega)
  have s3 := sc 3 (by omega)
  simp only [En.Ev.cells, List.getElem?_cons_zero, List.getElem?_cons_succ, Nat.add_zero] at s0 s1 s2 s3
  rw [En.evBytes_len] at hl
  refine (layevent_w kind slot gen peer S (k * 4) 71 Y bs b Bb Bp X ok hbB hI hl hY s0 s1 s2 s3 (by decide) (by decide) (by decide)).mono ?_
  rintro e w' ⟨rfl, h1, h2⟩
  have hv := hI.isvar
  exact ⟨rfl, h1, h2.to (Nat.le_trans hbw hB.size), (Kb.refl X).wrote h2 hv, (VarK.refl X).wrote h2, Y, hY.wrote' h2 hv (by decide) (by decide), rfl, fun _ _ => rfl⟩
theorem layevents_w (l : List En.Ev) (n : Nat) (A : Option Addr) (c B : Nat) (t : TypeId) (cs : Array Value) (bs : List Int) (b Bb Bp : Nat) (w : World) (hn : n = l.length) (hn16 : n ≤ 16) (hok : ∀ s ∈ l, En.evOk s) (hbB : b ≤ Bb) (hbP : b ≤ B) (hbw : b ≤ w.heap.size) (h : Wr b Bb Bp bs w) (hl : bs.length + 1 + 5 * 16 ≤ 65536) (hP : Box w B t cs)
    (ho : cs[1]? = some (.slice A n c)) (hL : Lies w b 4 A n (En.evCells l)) (h1 : t ≠ 36) (h2 : t ≠ 5) (h3 : t ≠ 82) (h4 : t ≠ 71) :
    Calls Try.prog 78 #[.func (.func 73) #[] #[.pointer (some ⟨Bp, 0, none⟩)], .int .i64 1, .pointer (some ⟨B, 1, none⟩), .func (.func 79) #[] #[]] w fun e w' => e = .returned (.tuple #[]) ∧ Wr b Bb Bp (bs ++ (Im.bytesOf 1 n ++ En.evsBytes l)) w' ∧ Below b w w' ∧ Kb B w w' ∧ ∃ S, Box w' B t (cs.setIfInBounds 1 (.slice (some ⟨S, 0, none⟩) n n)) := by
  have he := En.evsBytes_len l
  refine (listzev_w (En.evCells l) (l.map En.evBytes) n A c 1 1 rfl B 1 t cs bs b Bb Bp w (by rw [List.length_map, hn]) (by omega) (by decide) hbB hbP hbw h (by show bs.length + 1 + (En.evsBytes l).length ≤ 65536; omega) hP ho hL (En.evCells_one l) h1 h2 h3 (eachevent_w l hok b Bb Bp w hbB hbw)).mono ?_
  rintro e w' ⟨rfl, h1, h2, h3, _, h4⟩
  exact ⟨rfl, h1, h2, h3, h4⟩

set_option maxRecDepth 100000 in
set_option maxHeartbeats 2000000 in
theorem layentry_w (e : En.E) (n : Nat) (A : Option Addr) (c B : Nat) (bs : List Int) (b Bb Bp : Nat) (w : World) (hn : n = e.evs.length) (hok : En.Ok e) (hty : ∀ i, i < 8 → Gm.tyIn (e.inp i)) (hbB : b ≤ Bb) (hbP : b ≤ B) (hbw : b ≤ w.heap.size) (h : Wr b Bb Bp bs w) (hl : bs.length ≤ 60000) (hP : Box w B 60 (En.cells e (.slice A n c))) (hL : Lies w b 4 A n (En.evCells e.evs)) :
    Calls Try.prog 55 #[.func (.func 73) #[] #[.pointer (some ⟨Bp, 0, none⟩)], .pointer (some ⟨B, 0, none⟩)] w fun r w' => r = .returned (.tuple #[]) ∧ Wr b Bb Bp (bs ++ En.put e) w' ∧ Below b w w' ∧ Kb B w w' := by
  have hf := hok.frame
  have hw0 : IntKind.u64.wrap e.frame = e.frame := by rw [IntKind.wrap_u64]; omega
  have hc16 := hok.count
  have hevl := En.evsBytes_len e.evs
  have c1 := Lib.hid (layint_w 4 4 rfl e.frame B 0 60 _ bs b Bb Bp w (by decide) (by omega) hbB h (by omega) hP (En.cells_0 _ _) (by decide) (by decide) (by decide))
  rw [hw0] at c1
  have c2 := fun X (hX : Wr b Bb Bp (bs ++ Im.bytesOf 4 e.frame) X) hB hS hLX => Lib.hid (layevents_w e.evs n A c B 60 (En.cells e (.slice A n c)) _ b Bb Bp X hn (by omega) (En.row_mem _ _ hok.row) hbB hbP hS hX (by rw [List.length_append, Im.bytesOf_len]; omega) hB (En.cells_1 _ _) hLX (by decide) (by decide) (by decide) (by decide))
  have c3 := fun S X (hX : Wr b Bb Bp (bs ++ Im.bytesOf 4 e.frame ++ (Im.bytesOf 1 n ++ En.evsBytes e.evs)) X) hB => Lib.hid (layinputs_w e (.slice (some ⟨S, 0, none⟩) n n) B _ b Bb Bp X hty hbB hX (by rw [List.length_append, List.length_append, List.length_append, Im.bytesOf_len, Im.bytesOf_len, hevl]; omega) hB)
  have HE := Lib.hid (show bs ++ Im.bytesOf 4 e.frame ++ (Im.bytesOf 1 n ++ En.evsBytes e.evs) ++ (Im.bytesOf 1 (En.mask e.inp 8) ++ En.insBytes e.inp 8) = bs ++ En.put e by rw [hn]; unfold En.put; simp only [List.append_assoc])
  have IV0 := Lib.hid h.isvar
  have P0 := Lib.hid hP
  have L0 := Lib.hid hL
  have ltP := hP.lt
  clear h hP hL hf hn hw0 hevl hc16
  go_enter Try.func55, Try.ntmps55
  go_wp2_with (first | (go_at_call 67; ((with_reducible refine (c1.out).mono ?_); rintro r w1 ⟨rfl, hI, hK⟩; have P1 := Lib.hid (P0.out.wrote' hK IV0.out (by decide) (by decide)); have IV1 := Lib.hid hI.isvar; have I1 := Lib.hid hI; have K1 := Lib.hid (hK.to hbw); have Q1 := Lib.hid ((Kb.refl (B := B) w).wrote hK IV0.out); clear hI hK)) | (go_at_call 78; ((with_reducible refine ((c2 _ I1.out P1.out (Nat.le_trans hbw K1.out.size) (L0.out.below K1.out)).out).mono ?_); rintro r w2 ⟨rfl, hI, hb, hk, S, hB⟩; rw [En.cells_evs] at hB; have P2 := Lib.hid hB; have IV2 := Lib.hid hI.isvar; have I2 := Lib.hid hI; have K2 := Lib.hid (K1.out.trans hb); have Q2 := Lib.hid (Q1.out.trans hk); clear hI hb hk hB)) | (go_at_call 80; ((with_reducible refine ((c3 _ _ I2.out P2.out).out).mono ?_); rintro r w3 ⟨rfl, hI, hK⟩; have I3 := Lib.hid hI; have K3 := Lib.hid (K2.out.trans (hK.to (Nat.le_trans hbw K2.out.size))); have Q3 := Lib.hid (Q2.out.wrote hK IV2.out); clear hI hK)))
  go_end0
  exact ⟨rfl, by rw [← HE.out]; exact I3.out, K3.out, Q3.out⟩
end Go.Proofs.Ytghomofakpjglaa
namespace En
open Go
end En
namespace En
open Go Go.Proofs.Ytghomofakpjglaa
theorem decEvs_from : ∀ (n : Nat) (a : List Ev) (bs : List Int), decEvs n a bs = Im.decFrom decEv a n bs
  | 0, a, bs => by rw [Im.decFrom_zero]; rfl
  | n + 1, a, bs => by
    show ((decEv bs).bind fun q => decEvs n (a ++ [q.1]) q.2) = _
    cases h : decEv bs with
    | none => rw [Im.decFrom_none h]; rfl
    | some q =>
      obtain ⟨v, rest⟩ := q
      rw [Im.decFrom_some h, Option.bind_some, decEvs_from n]
theorem decEvents_list (bs : List Int) : decEvents bs = Im.decL 1 decEv bs := by
  unfold decEvents Im.decL
  congr 1
  funext n
  rw [decEvs_from, Im.decFrom_nil]
theorem allgood_evs : ∀ {l : List Ev} {Cs : List (List Value)}, AllGood 4 (fun (v : Ev) C => C = v.cells) l Cs → Cs.flatten = evCells l
  | [], [], _ => rfl
  | v :: l, C :: Cs, h => by
    rw [List.flatten_cons, allgood_evs h.2.2, h.2.1]
    unfold evCells
    rw [List.flatMap_cons]
  | [], _ :: _, h => h.elim
  | _ :: _, [], h => h.elim
end En
namespace Go.Proofs.Ytghomofakpjglaa
open Go.RowKit Go.Shelf
set_option linter.unusedVariables false
set_option linter.unusedSimpArgs false

/-- What is left behind the events. -/
def GotEvs (b Bb Bp B : Nat) (t : TypeId) (cs : Array Value) (bs : List Int) (w : World) (e : Ending) (w' : World) : Prop :=
      (∃ l rest S, En.decEvents bs = some (l, rest) ∧ e = .returned (.tuple #[]) ∧ Rd b Bb Bp rest w' ∧ Rk b Bb B w w' ∧ Box w' B t (cs.setIfInBounds 1 (.slice (some ⟨S, 0, none⟩) l.length l.length)) ∧ Box w' S 71 (En.evCells l).toArray) ∨
      (En.decEvents bs = none ∧ Pan e ∧ Rk b Bb B w w' ∧ ∃ cs', Box w' B t cs' ∧ cs'.size = cs.size)
theorem patch4 (cs : Array Value) (o : Nat) (x0 x1 x2 x3 y0 y1 y2 y3 : Value) (s0 : cs[o]? = some x0) (s1 : cs[o + 1]? = some x1) (s2 : cs[o + 2]? = some x2) (s3 : cs[o + 3]? = some x3) : Im.Patch cs o [y0, y1, y2, y3] ((((cs.setIfInBounds o y0).setIfInBounds (o + 1) y1).setIfInBounds (o + 2) y2).setIfInBounds (o + 3) y3) := by
  have a := Im.Patch.one y0 s0
  have b := Im.Patch.one (o := o + 1) y1 (show (cs.setIfInBounds o y0)[o + 1]? = some x1 by rw [Array.getElem?_setIfInBounds_ne (by omega), s1])
  have c := Im.Patch.one (o := o + 2) y2 (show ((cs.setIfInBounds o y0).setIfInBounds (o + 1) y1)[o + 2]? = some x2 by rw [Array.getElem?_setIfInBounds_ne (by omega), Array.getElem?_setIfInBounds_ne (by omega), s2])
  have d := Im.Patch.one (o := o + 3) y3 (show (((cs.setIfInBounds o y0).setIfInBounds (o + 1) y1).setIfInBounds (o + 2) y2)[o + 3]? = some x3 by rw [Array.getElem?_setIfInBounds_ne (by omega), Array.getElem?_setIfInBounds_ne (by omega), Array.getElem?_setIfInBounds_ne (by omega), s3])
  exact ((a.trans b rfl).trans c rfl).trans d rfl

set_option maxRecDepth 100000 in
set_option maxHeartbeats 4000000 in
theorem layevent_r (x0 x1 x2 x3 : Int) (P o : Nat) (t : TypeId) (cs : Array Value) (bs : List Int) (b Bb Bp : Nat) (w : World) (hBy : Im.IsBytes bs) (hbB : b ≤ Bb) (hbP : b ≤ P) (hbw : b ≤ w.heap.size) (h : Rd b Bb Bp bs w) (hP : Box w P t cs)
    (s0 : cs[o]? = some (.int .i64 x0)) (s1 : cs[o + 1]? = some (.int .i64 x1)) (s2 : cs[o + 2]? = some (.int .i64 x2)) (s3 : cs[o + 3]? = some (.int .i64 x3)) (h1 : t ≠ 36) (h2 : t ≠ 5) (h3 : t ≠ 82) :
    Calls Try.prog 79 #[.func (.func 76) #[] #[.pointer (some ⟨Bp, 0, none⟩)], .pointer (some ⟨P, o, none⟩)] w (Got b Bb Bp P t cs.size (En.decEv bs) (fun v => (((cs.setIfInBounds o (.int .i64 v.kind)).setIfInBounds (o + 1) (.int .i64 v.slot)).setIfInBounds (o + 2) (.int .i64 v.gen)).setIfInBounds (o + 3) (.int .i64 v.peer)) w) := by
  have q0 := Lib.hid (part_int 1 1 rfl x0 P o t cs bs b Bb Bp w (by decide) hBy hbB hbP hbw h hP s0 h1 h2 h3)
  have q1 := fun v bs'' X hy' hX1 hX2 hX3 => Lib.hid (part_int 1 1 rfl x1 P (o + 1) t (cs.setIfInBounds o v) bs'' b Bb Bp X (by decide) hy' hbB hbP hX1 hX2 hX3 (by rw [Array.getElem?_setIfInBounds_ne (by omega), s1]) h1 h2 h3)
  have q2 := fun v v' bs'' X hy' hX1 hX2 hX3 => Lib.hid (part_int 2 2 rfl x2 P (o + 2) t ((cs.setIfInBounds o v).setIfInBounds (o + 1) v') bs'' b Bb Bp X (by decide) hy' hbB hbP hX1 hX2 hX3 (by rw [Array.getElem?_setIfInBounds_ne (by omega), Array.getElem?_setIfInBounds_ne (by omega), s2]) h1 h2 h3)
  have q3 := fun v v' v'' bs'' X hy' hX1 hX2 hX3 => Lib.hid (part_int 1 1 rfl x3 P (o + 3) t (((cs.setIfInBounds o v).setIfInBounds (o + 1) v').setIfInBounds (o + 2) v'') bs'' b Bb Bp X (by decide) hy' hbB hbP hX1 hX2 hX3 (by rw [Array.getElem?_setIfInBounds_ne (by omega), Array.getElem?_setIfInBounds_ne (by omega), Array.getElem?_setIfInBounds_ne (by omega), s3]) h1 h2 h3)
  have HDV := Lib.hid (show En.decEv bs = (Im.rdn 1 bs).bind fun k => (Im.rdn 1 k.2).bind fun s => (Im.rdn 2 s.2).bind fun g => (Im.rdn 1 g.2).bind fun p => some (⟨k.1, s.1, g.1, p.1⟩, p.2) from rfl)
  have ltP := hP.lt
  have HW := Lib.hid hbw
  have YY := Lib.hid hBy
  clear h hP hbw hBy s0 s1 s2 s3
  go_enter Try.func79, Try.ntmps79
  go_wp2_with (go_at_call 67; first | ((with_reducible refine (q0.out).mono ?_); rintro r w3 (⟨y0, r3, hr, rfl, hI, hK, hB⟩ | ⟨hn, ⟨ss, rfl⟩, hK, cs', hB, hs⟩); (all_goals first | (have R3 := Lib.hid hr; have Y3 := Lib.hid (Im.rdn_inv YY.out hr).2.2.2; have P3 := Lib.hid hB; have I3 := Lib.hid hI; have K3 := Lib.hid hK; clear hr hI hK hB q0) | (have N3 := Lib.hid hn; have F3 := Lib.hid hK; have B3 := Lib.hid hB; have S3 := Lib.hid hs; clear hn hK hB hs q0))) | ((with_reducible refine ((q1 _ _ _ Y3.out (Nat.le_trans HW.out K3.out.below.size) I3.out P3.out).out).mono ?_); rintro r w4 (⟨y1, r4, hr, rfl, hI, hK, hB⟩ | ⟨hn, ⟨ss, rfl⟩, hK, cs', hB, hs⟩); (all_goals first | (have R4 := Lib.hid hr; have Y4 := Lib.hid (Im.rdn_inv Y3.out hr).2.2.2; have P4 := Lib.hid hB; have I4 := Lib.hid hI; have K4 := Lib.hid (K3.out.trans hK); clear hr hI hK hB q1) | (have N4 := Lib.hid hn; have F4 := Lib.hid (K3.out.trans hK); have B4 := Lib.hid hB; have S4 := Lib.hid hs; clear hn hK hB hs q1))) | ((with_reducible refine ((q2 _ _ _ _ Y4.out (Nat.le_trans HW.out K4.out.below.size) I4.out P4.out).out).mono ?_); rintro r w5 (⟨y2, r5, hr, rfl, hI, hK, hB⟩ | ⟨hn, ⟨ss, rfl⟩, hK, cs', hB, hs⟩); (all_goals first | (have R5 := Lib.hid hr; have Y5 := Lib.hid (Im.rdn_inv Y4.out hr).2.2.2; have P5 := Lib.hid hB; have I5 := Lib.hid hI; have K5 := Lib.hid (K4.out.trans hK); clear hr hI hK hB q2) | (have N5 := Lib.hid hn; have F5 := Lib.hid (K4.out.trans hK); have B5 := Lib.hid hB; have S5 := Lib.hid hs; clear hn hK hB hs q2))) | ((with_reducible refine ((q3 _ _ _ _ _ Y5.out (Nat.le_trans HW.out K5.out.below.size) I5.out P5.out).out).mono ?_); rintro r w6 (⟨y3, r6, hr, rfl, hI, hK, hB⟩ | ⟨hn, ⟨ss, rfl⟩, hK, cs', hB, hs⟩); (all_goals first | (have R6 := Lib.hid hr; have P6 := Lib.hid hB; have I6 := Lib.hid hI; have K6 := Lib.hid (K5.out.trans hK); clear hr hI hK hB q3) | (have N6 := Lib.hid hn; have F6 := Lib.hid (K5.out.trans hK); have B6 := Lib.hid hB; have S6 := Lib.hid hs; clear hn hK hB hs q3))))
  · go_end0
    exact .inl ⟨⟨y0, y1, y2, y3⟩, r6, by rw [HDV.out, R3.out, Option.bind_some, R4.out, Option.bind_some, R5.out, Option.bind_some, R6.out, Option.bind_some], rfl, I6.out, K6.out, P6.out⟩
  · exact ⟨rfl, .inr ⟨by rw [HDV.out, R3.out, Option.bind_some, R4.out, Option.bind_some, R5.out, Option.bind_some, N6.out, Option.bind_none], ⟨_, rfl⟩, F6.out, _, B6.out, by rw [S6.out]; simp⟩⟩
  · exact ⟨rfl, .inr ⟨by rw [HDV.out, R3.out, Option.bind_some, R4.out, Option.bind_some, N5.out, Option.bind_none], ⟨_, rfl⟩, F5.out, _, B5.out, by rw [S5.out]; simp⟩⟩
  · exact ⟨rfl, .inr ⟨by rw [HDV.out, R3.out, Option.bind_some, N4.out, Option.bind_none], ⟨_, rfl⟩, F4.out, _, B4.out, by rw [S4.out]; simp⟩⟩
  · exact ⟨rfl, .inr ⟨by rw [HDV.out, N3.out, Option.bind_none], ⟨_, rfl⟩, F3.out, _, B3.out, S3.out⟩⟩
theorem eachevent_r (b Bb Bp : Nat) (w : World) (hbB : b ≤ Bb) : EachR 79 71 4 (Value.agg #[.int .i64 0, .int .i64 0, .int .i64 0, .int .i64 0]).cells.toList En.decEv (fun _ v C => C = v.cells) b Bb Bp w := by
  intro k S X Y bs hy hB hbS hbX hI hY hc
  have s0 : Y[k * 4]? = some (.int .i64 0) := hc 0 (by omega)
  have s1 : Y[k * 4 + 1]? = some (.int .i64 0) := hc 1 (by omega)
  have s2 : Y[k * 4 + 2]? = some (.int .i64 0) := hc 2 (by omega)
  have s3 : Y[k * 4 + 3]? = some (.int .i64 0) := hc 3 (by omega)
  refine (layevent_r 0 0 0 0 S (k * 4) 71 Y bs b Bb Bp X hy hbB hbS hbX hI hY s0 s1 s2 s3 (by decide) (by decide) (by decide)).mono ?_
  rintro e w' (⟨v, rest, hr, rfl, hI', hK, hB'⟩ | ⟨hn, hp, hK, _⟩)
  · exact .inl ⟨v, rest, v.cells, hr, rfl, (En.decEv_inv hy hr).2.1, hI', hK, rfl, rfl, _, hB', patch4 Y _ _ _ _ _ _ _ _ _ s0 s1 s2 s3⟩
  · exact .inr ⟨hn, hp, hK⟩
theorem layevents_r (B : Nat) (t : TypeId) (cs : Array Value) (bs : List Int) (b Bb Bp : Nat) (w : World) (hBy : Im.IsBytes bs) (hbB : b ≤ Bb) (hbP : b ≤ B) (hbw : b ≤ w.heap.size) (h : Rd b Bb Bp bs w) (hP : Box w B t cs)
    (ho : cs[1]? = some (.slice none 0 0)) (h1 : t ≠ 36) (h2 : t ≠ 5) (h3 : t ≠ 82) (h4 : t ≠ 71) :
    Calls Try.prog 78 #[.func (.func 76) #[] #[.pointer (some ⟨Bp, 0, none⟩)], .int .i64 1, .pointer (some ⟨B, 1, none⟩), .func (.func 79) #[] #[]] w (GotEvs b Bb Bp B t cs bs w) := by
  refine (listzev_r En.decEv (fun _ v C => C = v.cells) 1 1 rfl B 1 t cs bs b Bb Bp w hBy (by decide) hbB hbP hbw h hP ho h1 h2 h3 (fun _ _ _ _ _ _ _ _ h => h) (fun _ _ _ _ _ _ _ h => h) (eachevent_r b Bb Bp w hbB)).mono ?_
  rintro e w' (⟨l, rest, S, Cs, hD, rfl, hy, hI, hK, hS, hB, hE, hA⟩ | ⟨hD, hp, hK, hB⟩)
  · exact .inl ⟨l, rest, S, by rw [En.decEvents_list]; exact hD, rfl, hI, hK, hB, by rw [← En.allgood_evs hA]; exact hE⟩
  · exact .inr ⟨by rw [En.decEvents_list]; exact hD, hp, hK, _, hB, rfl⟩
end Go.Proofs.Ytghomofakpjglaa
namespace Go.Proofs.Ytghomofakpjglaa
open Go.RowKit Go.Shelf
set_option linter.unusedVariables false
set_option linter.unusedSimpArgs false

theorem encatch_put (Bb Bc : Nat) (u : TypeId) (pv : Value) (older : List PanicEntry) (w : World) (x : Value) (hb : Box w Bb 36 #[x]) (y : Int) (hc : Box w Bc 3 #[.int .i64 y]) :
    CallsD Try.prog 54 #[.pointer (some ⟨Bb, 0, none⟩), .pointer (some ⟨Bc, 0, none⟩)] (.panicking ({ v := .iface u pv, recovered := false } :: older)) w fun e u' w' =>
      e = .returned (.tuple #[]) ∧ u' = .panicking ({ v := .iface u pv, recovered := true } :: older) ∧ w' = (w.setCell ⟨Bb, 0, none⟩ (.slice none 0 0)).setCell ⟨Bc, 0, none⟩ (.int .i64 1) := by
  have ne : Bb ≠ Bc := Box.apart hb hc (by decide)
  have c1 := hb.cell 0
  have f1 := hb.free 0
  have c2 := hc.cell 0
  have f2 := hc.free 0
  refine callsD_of_wpS Try.func54 rfl fun c₀ cs hu => ?_
  apply wpS_seq
  apply wpS_region
  simp [wpOpsS, go_sem, recoverD, hu, Try.ntmps54, Exit.thenS]
  refine wpS_cond (t := true) (by simp [Act.eval, Array.replicate]) ?_
  simp only [if_true]
  apply wpS_region
  have c2' : (w.setCell ⟨Bb, 0, none⟩ (.slice none 0 0)).cell? ⟨Bc, 0, none⟩ = some (.int .i64 y) := (hc.far (p := ⟨Bb, 0, none⟩) (fun e => ne e.symm) _).cell 0
  have f2' : (w.setCell ⟨Bb, 0, none⟩ (.slice none 0 0)).frozen? ⟨Bc, 0, none⟩ = false := (hc.far (p := ⟨Bb, 0, none⟩) (fun e => ne e.symm) _).free 0
  simp [wpOpsS, go_sem, c1, f1, c2', f2', bodyPostS, results, Try.results54]

theorem encatch_idle_put (p q : Addr) (w : World) :
    CallsD Try.prog 54 #[.pointer (some p), .pointer (some q)] .returning w fun e u' w' => e = .returned (.tuple #[]) ∧ u' = .returning ∧ w' = w := by
  refine callsD_of_wpS Try.func54 rfl fun c₀ cs hu => ?_
  apply wpS_seq
  apply wpS_region
  simp [wpOpsS, go_sem, recoverD, hu, Try.ntmps54, Exit.thenS]
  refine wpS_cond (t := false) (by simp [Act.eval, Array.replicate]) ?_
  simp only [Bool.false_eq_true, if_false]
  refine wpS_of_wp (wp_skip ?_)
  cases c₀
  simp_all [bodyPostS, results, Try.results54]

theorem enput_no (e : En.E) (A : Option Addr) (n c : Nat) (w : World) (hno : ¬ En.Ok e) (hn : n = e.evs.length) (hn63 : n ≤ maxLen) (hr : Lies w w.heap.size 4 A n (En.evCells e.evs)) :
    Calls Try.prog 27 #[.agg (En.cells e (.slice A n c))] w fun r w' => r = .returned (.tuple #[.slice none 0 0, .int .i64 1]) ∧ Below w.heap.size w w' := by
  have hmf : ∀ (fn : Fn) (first cap : Array Value) (w : World), (Instr.makeFunc fn first cap).run Try.prog w = .ok (.func fn first cap) w := fun _ _ _ _ => rfl
  have P1 := Lib.hid (((Box.made w 60 (En.cells e (.slice A n c))).alloc (.cells #[.slice none 0 0] 36)).alloc (.cells #[.int .i64 0] 3))
  have B1 := Lib.hid ((Box.made_at (n := w.heap.size + 1) (w.alloc (.cells (En.cells e (.slice A n c)) 60)) 36 #[.slice none 0 0] (by simp)).alloc (.cells #[.int .i64 0] 3))
  have C1 := Lib.hid (Box.made_at (n := w.heap.size + 1 + 1) ((w.alloc (.cells (En.cells e (.slice A n c)) 60)).alloc (.cells #[.slice none 0 0] 36)) 3 #[.int .i64 0] (by simp))
  have K1 := Lib.hid ((((Below.refl w.heap.size w).alloc (Nat.le_refl _) (.cells (En.cells e (.slice A n c)) 60)).alloc (by simp) (.cells #[.slice none 0 0] 36)).alloc (by simp <;> omega) (.cells #[.int .i64 0] 3))
  have hr1 := (hr.below K1.out).wider K1.out.size
  have cm := fun X hX => Lib.hid (enmay_any e A n c X hn hn63 hX)
  rw [decide_eq_false hno] at cm
  have HR := Lib.hid hr1
  have HN := Lib.hid hno
  clear hr hr1 hn hno
  go_enter_defers Try.func27, Try.ntmps27
  go_wp2_with (first | ((with_reducible refine en_load rfl rfl ?_); apply LoadEn.mk rfl; (focus (with_reducible exact P1.out)); dsimp only) | (go_at_call 28; ((with_reducible refine ((cm _ HR.out).out).mono ?_); rintro r w1 ⟨rfl, hb⟩; have C2 := Lib.hid (C1.out.below hb C1.out.lt); have B2 := Lib.hid (B1.out.below hb B1.out.lt); have K2 := Lib.hid (K1.out.trans (hb.mono K1.out.size)); clear hb)) | (go_at_call 37; ((with_reducible refine (need_no _ _).mono ?_); rintro r w2 ⟨rfl, rfl⟩)))
  refine leaves_cons (f := 54) (args := #[.pointer (some ⟨w.heap.size + 1, 0, none⟩), .pointer (some ⟨w.heap.size + 1 + 1, 0, none⟩)]) (by simp) (by simp [go_sem]) ?_
  refine (encatch_put (w.heap.size + 1) (w.heap.size + 1 + 1) _ _ [] _ _ B2.out _ C2.out).mono ?_
  have ne : w.heap.size + 1 ≠ w.heap.size + 1 + 1 := by omega
  have B4 := (B2.out.put 0 (.slice none 0 0)).far (p := ⟨w.heap.size + 1 + 1, 0, none⟩) ne (.int .i64 1)
  have C4 := (C2.out.far (p := ⟨w.heap.size + 1, 0, none⟩) (fun q => ne q.symm) (.slice none 0 0)).put 0 (.int .i64 1)
  have K4 := (K2.out.setCell (p := ⟨w.heap.size + 1, 0, none⟩) (Nat.le_succ _) (.slice none 0 0)).setCell (p := ⟨w.heap.size + 1 + 1, 0, none⟩) (by show w.heap.size ≤ w.heap.size + 1 + 1; omega) (.int .i64 1)
  have b4 := B4.cell 0
  have c4 := C4.cell 0
  simp at b4 c4
  rintro r u' w'' ⟨rfl, rfl, rfl⟩
  simp [Leaves, settle, results, Try.results27, go_sem, b4, c4]
  exact K4

theorem enput_yes (e : En.E) (A : Option Addr) (n c : Nat) (w : World) (hok : En.Ok e) (hty : ∀ i, i < 8 → Gm.tyIn (e.inp i)) (hn : n = e.evs.length) (hr : Lies w w.heap.size 4 A n (En.evCells e.evs)) :
    Calls Try.prog 27 #[.agg (En.cells e (.slice A n c))] w fun r w' => ∃ A' c', r = .returned (.tuple #[.slice A' (En.put e).length c', .int .i64 0]) ∧ (En.put e).length ≤ c' ∧ Lies w' w'.heap.size 1 A' (En.put e).length (Im.u8s (En.put e)) ∧ w'.ownsRow w.heap.size 5 1 (.slice A' (En.put e).length c') (En.put e).length (Im.u8s (En.put e)) ∧ Below w.heap.size w w' := by
  have hmf : ∀ (fn : Fn) (first cap : Array Value) (w : World), (Instr.makeFunc fn first cap).run Try.prog w = .ok (.func fn first cap) w := fun _ _ _ _ => rfl
  have P1 := Lib.hid (((Box.made w 60 (En.cells e (.slice A n c))).alloc (.cells #[.slice none 0 0] 36)).alloc (.cells #[.int .i64 0] 3))
  have B1 := Lib.hid ((Box.made_at (n := w.heap.size + 1) (w.alloc (.cells (En.cells e (.slice A n c)) 60)) 36 #[.slice none 0 0] (by simp)).alloc (.cells #[.int .i64 0] 3))
  have C1 := Lib.hid (Box.made_at (n := w.heap.size + 1 + 1) ((w.alloc (.cells (En.cells e (.slice A n c)) 60)).alloc (.cells #[.slice none 0 0] 36)) 3 #[.int .i64 0] (by simp))
  have K1 := Lib.hid ((((Below.refl w.heap.size w).alloc (Nat.le_refl _) (.cells (En.cells e (.slice A n c)) 60)).alloc (by simp) (.cells #[.slice none 0 0] 36)).alloc (by simp <;> omega) (.cells #[.int .i64 0] 3))
  have hr1 := (hr.below K1.out).wider K1.out.size
  have hr0 := hr.below K1.out
  have cm := fun X hX => Lib.hid (enmay_any e A n c X hn (by have := hok.count; rw [hn]; unfold maxLen; omega) hX)
  rw [decide_eq_true hok] at cm
  have cl := fun Bp X h1 h2 h3 h4 => Lib.hid (layentry_w e n A c w.heap.size [] w.heap.size (w.heap.size + 1) Bp X hn hok hty (Nat.le_succ _) (Nat.le_refl _) h1 h2 (by simp) h3 h4)
  have HR := Lib.hid hr1
  have H0 := Lib.hid hr0
  clear hr hr1 hr0 hn hok hty
  go_enter_defers Try.func27, Try.ntmps27
  go_wp2_with (first | ((with_reducible refine en_load rfl rfl ?_); apply LoadEn.mk rfl; (focus (with_reducible exact P1.out)); dsimp only) | (go_at_call 28; ((with_reducible refine ((cm _ HR.out).out).mono ?_); rintro r w1 ⟨rfl, hb⟩; have P2 := Lib.hid (P1.out.below hb P1.out.lt); have C2 := Lib.hid (C1.out.below hb C1.out.lt); have B2 := Lib.hid (B1.out.below hb B1.out.lt); have K2 := Lib.hid (K1.out.trans (hb.mono K1.out.size)); have H2 := Lib.hid (H0.out.below (hb.mono K1.out.size)); clear hb)) | (go_at_call 37; ((with_reducible refine (need_yes _ _).mono ?_); rintro r w2 ⟨rfl, rfl⟩)) | (go_at_call 40; ((with_reducible refine (writer_any _ _).mono ?_); rintro r w3 ⟨rfl, rfl⟩)) | (go_at_call 55; ((with_reducible refine ((cl _ _ (K2.out.alloc K2.out.size _).size (Wr.nil (Box.made _ _ _) (B2.out.alloc _)) (P2.out.alloc _) (H2.out.below ((one_below _ _).mono K2.out.size))).out).mono ?_); rintro r w3 ⟨rfl, hI, hb, hk⟩; rw [List.nil_append] at hI; have C3 := Lib.hid (hk _ _ _ (C2.out.alloc _) (by omega) (by decide) (by decide)); have K3 := Lib.hid ((K2.out.alloc K2.out.size _).trans hb); obtain ⟨h1, A', c', hB, ho⟩ := hI; have B3 := Lib.hid hB; have O3 := Lib.hid ho; have b3 := hB.cell 0; have f3 := hB.free 0; have c3 := (C3.out.far (p := ⟨w.heap.size + 1, 0, none⟩) (show w.heap.size + 1 + 1 ≠ w.heap.size + 1 by omega) (.slice A' (En.put e).length c')).cell 0; have g3 := (C3.out.far (p := ⟨w.heap.size + 1, 0, none⟩) (show w.heap.size + 1 + 1 ≠ w.heap.size + 1 by omega) (.slice A' (En.put e).length c')).free 0; clear h1 hB ho hb hk)))
  have ne : w.heap.size + 1 ≠ w.heap.size + 1 + 1 := by omega
  have B4 := (B3.out.put 0 (.slice A' (En.put e).length c')).far (p := ⟨w.heap.size + 1 + 1, 0, none⟩) ne (.int .i64 0)
  have C4 := (C3.out.far (p := ⟨w.heap.size + 1, 0, none⟩) (fun q => ne q.symm) (.slice A' (En.put e).length c')).put 0 (.int .i64 0)
  have K4 := (K3.out.setCell (p := ⟨w.heap.size + 1, 0, none⟩) (Nat.le_succ _) (.slice A' (En.put e).length c')).setCell (p := ⟨w.heap.size + 1 + 1, 0, none⟩) (by show w.heap.size ≤ w.heap.size + 1 + 1; omega) (.int .i64 0)
  have OW := ownsRow_setCell_other (a := ⟨w.heap.size + 1 + 1, 0, none⟩) (ownsRow_setCell_other (a := ⟨w.heap.size + 1, 0, none⟩) O3.out (B3.out.unowned O3.out (by decide)) (.slice A' (En.put e).length c')) ((C3.out.far (p := ⟨w.heap.size + 1, 0, none⟩) (fun q => ne q.symm) (.slice A' (En.put e).length c')).unowned (ownsRow_setCell_other (a := ⟨w.heap.size + 1, 0, none⟩) O3.out (B3.out.unowned O3.out (by decide)) (.slice A' (En.put e).length c')) (by decide)) (.int .i64 0)
  have O4 := Lies.owned OW
  have b4 := B4.cell 0
  have c4 := C4.cell 0
  simp at b4 c4
  refine leaves_cons (f := 54) (args := #[.pointer (some ⟨w.heap.size + 1, 0, none⟩), .pointer (some ⟨w.heap.size + 1 + 1, 0, none⟩)]) (by simp) (by simp [go_sem]) ?_
  refine (encatch_idle_put _ _ _).mono ?_
  rintro r u' w'' ⟨rfl, rfl, rfl⟩
  simp [Leaves, settle, results, Try.results27, go_sem, b4, c4]
  exact ⟨A', c', by first | rfl | exact ⟨rfl, rfl⟩ | simp, own_cap O3.out, O4.wider (by simp), OW, K4⟩
end Go.Proofs.Ytghomofakpjglaa
namespace Go.Proofs.Ytghomofakpjglaa
open Go.RowKit
set_option linter.unusedVariables false

section
variable {P : Program} {ops : Array Oper} {rest : List Oper} {o : Oper} {a : Act} {w : World} {Q : Exit → Act → World → Prop}
theorem run_loadVar_any (w : World) (ad : Addr) (ty : TypeId) (cs : List Value) (d : TypeDesc) (hc : ∀ j v, cs[j]? = some v → w.cell? (ad.add j) = some v)
    (hu : P.underlying ty = some d) (hd : d.isRow = true) (hi : (P.info? ty).map (·.size) = some cs.length) :
    (loadVar ty ad).run P w = .ok (.agg cs.toArray) w := by
  have hl : (loadCells ad cs.length).run P w = .ok cs.toArray w := run_loadCells_list (P := P) w ad cs hc
  cases hq : P.info? ty with
  | none => simp [hq] at hi
  | some i =>
    have hs : i.size = cs.length := by simpa [hq] using hi
    have hagg : (isAgg ty).run P w = .ok true w := by
      unfold isAgg
      rw [Sem.run_bind, run_underlying hu w]
      cases d <;> simp_all
    simp [loadVar, Sem.run_bind, hagg, sizeOf, typeInfo, hq, hs, hl]
/-- What the load of a struct at an address wants. -/
def LoadAt (P : Program) (ops : Array Oper) (Q : Exit → Act → World → Prop) (rest : List Oper) (dst : Option Tmp) (p : Value) (size : Nat) (a : Act) (w : World) : Prop :=
  ∃ (ad : Addr) (cs : List Value), p = .pointer (some ad) ∧ (∀ j v, cs[j]? = some v → w.cell? (ad.add j) = some v) ∧ cs.length = size ∧ wpList P ops Q rest (a.put dst (.agg cs.toArray)) w
theorem LoadAt.mk {dst : Option Tmp} {p : Value} {size : Nat} {ad : Addr} {cs : List Value} (hp : p = .pointer (some ad)) (hc : ∀ j v, cs[j]? = some v → w.cell? (ad.add j) = some v) (hs : cs.length = size) (h : wpList P ops Q rest (a.put dst (.agg cs.toArray)) w) : LoadAt P ops Q rest dst p size a w := ⟨ad, cs, hp, hc, hs, h⟩
theorem load_at_gate {ty : TypeId} {x : Operand} {size : Nat} {d : TypeDesc} (hgd : o.guard = none) (ho : o.op = .load ty x) (hu : P.underlying ty = some d) (hd : d.isRow = true) (hi : (P.info? ty).map (·.size) = some size) (h : LoadAt P ops Q rest o.dst (a.eval x) size a w) : wpList P ops Q (o :: rest) a w := by
  obtain ⟨ad, cs, hx, hc, hs, h⟩ := h
  refine wpList_plain hgd fun _ hK => ?_
  unfold Oper.wp execOp
  simp only [ho, hx, Instr.loadAt, Instr.sureAddr, Sem.run_bind, Sem.run_pure, Result.andThen_ok, run_loadVar_any w ad ty cs d hc hu hd (by rw [hi, hs])]
  exact hK _ _ h
theorem exec_load_any {x : Operand} {ty : TypeId} {ad : Addr} {cs : List Value} {d : TypeDesc} (ho : o.op = .load ty x) (hx : a.eval x = .pointer (some ad)) (hc : ∀ j v, cs[j]? = some v → w.cell? (ad.add j) = some v) (hu : P.underlying ty = some d) (hd : d.isRow = true) (hi : (P.info? ty).map (·.size) = some cs.length) :
    (execOp a.eval o).run P w = .ok (.value (.agg cs.toArray)) w := by
  unfold execOp
  simp only [ho, hx, Instr.loadAt, Instr.sureAddr, Sem.run_bind, Sem.run_pure, Result.andThen_ok, run_loadVar_any w ad ty cs d hc hu hd hi]
end
/-- The first n of a slice. -/
theorem run_slice_to {P : Program} {t e : TypeId} {sz : Nat} (a : Option Addr) (len cap n : Nat) (hu : P.underlying t = some (.slice e)) (hs : (P.info? e).map (·.size) = some sz) (h : n ≤ cap) (w : World) :
    (Instr.slice t (.slice a len cap) none (some (.int .i64 (n : Int))) none).run P w = .ok (.slice a n cap) w := by
  have h0 : (0 : Int) ≤ n := by omega
  have h1 : (n : Int) ≤ cap := by omega
  cases hq : P.info? e with
  | none => simp [hq] at hs
  | some i =>
    have ea : (if cap = 0 then a else a.map fun x => x.add 0) = a := by
      split
      · rfl
      · cases a
        · rfl
        · simp [Addr.add]
    simp [Instr.slice, run_underlying hu, Instr.sliceBounds, Instr.sliceBound, asIntOf, sizeOf, typeInfo, hq, h, Addr.add]
end Go.Proofs.Ytghomofakpjglaa
