/-
The document's Heard: what lies there.
-/
import Derived.Test.YtgjkodbigdgdmaaSw
namespace Sr
open Go
set_option linter.unusedVariables false
/-- Did the one i behind come? -/
def came (h : H) (i : Nat) : Bool := if i = 0 then h.some else h.seen.testBit (i - 1)
def row33 (f : Nat → Bool) : List Value := [.bool (f 0), .bool (f 1), .bool (f 2), .bool (f 3), .bool (f 4), .bool (f 5), .bool (f 6), .bool (f 7), .bool (f 8), .bool (f 9), .bool (f 10), .bool (f 11), .bool (f 12), .bool (f 13), .bool (f 14), .bool (f 15), .bool (f 16), .bool (f 17), .bool (f 18), .bool (f 19), .bool (f 20), .bool (f 21), .bool (f 22), .bool (f 23), .bool (f 24), .bool (f 25), .bool (f 26), .bool (f 27), .bool (f 28), .bool (f 29), .bool (f 30), .bool (f 31), .bool (f 32)]
def rc (so : Bool) (la : Int) (f : Nat → Bool) : Array Value := (.bool so :: .int .u16 la :: row33 f).toArray
def H.rcells (h : H) : Array Value := rc h.some h.last (came h)
theorem row33_len (f : Nat → Bool) : (row33 f).length = 33 := rfl
theorem rc_size (so : Bool) (la : Int) (f : Nat → Bool) : (rc so la f).size = 35 := rfl
theorem row33_at (f : Nat → Bool) (i : Nat) (hi : i < 33) : (row33 f)[i]? = some (.bool (f i)) := by
  match i, hi with
  | 0, _ | 1, _ | 2, _ | 3, _ | 4, _ | 5, _ | 6, _ | 7, _ | 8, _ | 9, _ | 10, _ | 11, _ | 12, _ | 13, _ | 14, _ | 15, _ | 16, _ | 17, _ | 18, _ | 19, _ | 20, _ | 21, _ | 22, _ | 23, _ | 24, _ | 25, _ | 26, _ | 27, _ | 28, _ | 29, _ | 30, _ | 31, _ | 32, _ => rfl
  | n + 33, h => omega
theorem row33_set (f : Nat → Bool) (b : Bool) (i : Nat) (hi : i < 33) : (row33 f).toArray.setIfInBounds i (.bool b) = (row33 (fun j => if j = i then b else f j)).toArray := by
  match i, hi with
  | 0, _ | 1, _ | 2, _ | 3, _ | 4, _ | 5, _ | 6, _ | 7, _ | 8, _ | 9, _ | 10, _ | 11, _ | 12, _ | 13, _ | 14, _ | 15, _ | 16, _ | 17, _ | 18, _ | 19, _ | 20, _ | 21, _ | 22, _ | 23, _ | 24, _ | 25, _ | 26, _ | 27, _ | 28, _ | 29, _ | 30, _ | 31, _ | 32, _ => rfl
  | n + 33, h => omega
theorem rc_at (so : Bool) (la : Int) (f : Nat → Bool) (i : Nat) (hi : i < 33) : (rc so la f)[2 + i]? = some (.bool (f i)) := by
  match i, hi with
  | 0, _ | 1, _ | 2, _ | 3, _ | 4, _ | 5, _ | 6, _ | 7, _ | 8, _ | 9, _ | 10, _ | 11, _ | 12, _ | 13, _ | 14, _ | 15, _ | 16, _ | 17, _ | 18, _ | 19, _ | 20, _ | 21, _ | 22, _ | 23, _ | 24, _ | 25, _ | 26, _ | 27, _ | 28, _ | 29, _ | 30, _ | 31, _ | 32, _ => rfl
  | n + 33, h => omega
theorem rc_set (so : Bool) (la : Int) (f : Nat → Bool) (b : Bool) (i : Nat) (hi : i < 33) : (rc so la f).setIfInBounds (2 + i) (.bool b) = rc so la (fun j => if j = i then b else f j) := by
  match i, hi with
  | 0, _ | 1, _ | 2, _ | 3, _ | 4, _ | 5, _ | 6, _ | 7, _ | 8, _ | 9, _ | 10, _ | 11, _ | 12, _ | 13, _ | 14, _ | 15, _ | 16, _ | 17, _ | 18, _ | 19, _ | 20, _ | 21, _ | 22, _ | 23, _ | 24, _ | 25, _ | 26, _ | 27, _ | 28, _ | 29, _ | 30, _ | 31, _ | 32, _ => rfl
  | n + 33, h => omega
theorem row33_congr {f g : Nat → Bool} (h : ∀ i, i < 33 → f i = g i) : row33 f = row33 g := by
  apply List.ext_getElem?
  intro i
  by_cases hi : i < 33
  · rw [row33_at f i hi, row33_at g i hi, h i hi]
  · rw [List.getElem?_eq_none (by rw [row33_len]; omega), List.getElem?_eq_none (by rw [row33_len]; omega)]
theorem rc_congr {so : Bool} {la : Int} {f g : Nat → Bool} (h : ∀ i, i < 33 → f i = g i) : rc so la f = rc so la g := by unfold rc; rw [row33_congr h]
theorem row33_one (f : Nat → Bool) : (row33 f).toArray.all (·.oneCell') = true := by
  rw [Array.all_eq_true_iff_forall_mem]
  intro v hv
  unfold row33 at hv
  simp only [List.mem_toArray, List.mem_cons, List.not_mem_nil, or_false] at hv
  rcases hv with rfl | rfl | rfl | rfl | rfl | rfl | rfl | rfl | rfl | rfl | rfl | rfl | rfl | rfl | rfl | rfl | rfl | rfl | rfl | rfl | rfl | rfl | rfl | rfl | rfl | rfl | rfl | rfl | rfl | rfl | rfl | rfl | rfl <;> rfl
/-- Further on by d. -/
theorem came_up {h : H} (hs : h.some = true) (s d : Int) (hd : 0 < d) (i : Nat) (hi : i < 33) : came ⟨true, s, up h.seen d⟩ i = (if i = 0 then true else if d.toNat ≤ i then came h (i - d.toNat) else false) := by
  unfold came
  by_cases h0 : i = 0
  · rw [if_pos h0, if_pos h0]
  · rw [if_neg h0, if_neg h0, up_test _ _ hd, decide_eq_true (show i - 1 < 32 by omega), Bool.true_and]
    by_cases h1 : d.toNat ≤ i
    · rw [if_pos h1]
      by_cases h2 : i - d.toNat = 0
      · rw [if_pos h2, decide_eq_true (by omega), hs]; rfl
      · rw [if_neg h2, decide_eq_false (by omega), Bool.false_or, decide_eq_true (by omega), Bool.true_and, show i - 1 - d.toNat = i - d.toNat - 1 by omega]
    · rw [if_neg h1, decide_eq_false (by omega), decide_eq_false (by omega)]; rfl
/-- One that comes late. -/
theorem came_late {h : H} (hs : h.some = true) (k : Int) (hk : 1 ≤ k ∧ k ≤ 32) (i : Nat) : came ⟨h.some, h.last, h.seen ||| bitN k⟩ i = (if i = k.toNat then true else came h i) := by
  unfold came
  by_cases h0 : i = 0
  · rw [if_pos h0, if_pos h0, if_neg (by omega)]
  · rw [if_neg h0, if_neg h0, Nat.testBit_or, bitN_test]
    by_cases h1 : i = k.toNat
    · rw [if_pos h1, decide_eq_true (by omega), Bool.or_true]
    · rw [if_neg h1, decide_eq_false (by omega), Bool.or_false]
theorem came_has (h : H) (k : Int) (hk : 1 ≤ k ∧ k ≤ 32) : came h k.toNat = has h.seen k := by
  unfold came has
  rw [if_neg (by omega), decide_eq_true hk, Bool.true_and, show (k - 1).toNat = k.toNat - 1 by omega]
theorem came_first (s : Int) (n : Nat) (f : H) (hf : f.seen = n) (i : Nat) (hi : i < 33) : came ⟨true, s, n⟩ i = (if i = 0 then true else came f i) := by
  unfold came
  subst hf
  by_cases h0 : i = 0
  · rw [if_pos h0, if_pos h0]
  · rw [if_neg h0, if_neg h0, if_neg h0]
end Sr
namespace Go.Proofs.Ytgjkodbigdgdmaa
open Go.RowKit
set_option linter.unusedVariables false

theorem rheard_info : (Try.prog.info? 35).map (·.size) = some 35 := by kernel_rfl
theorem row33_info : (Try.prog.info? 33).map (·.size) = some 33 := by kernel_rfl
theorem add33 (B o k : Nat) : (⟨B, o, none⟩ : Addr).add k = ⟨B, o + k, none⟩ := by unfold Addr.add; split <;> simp_all

/-- A row of which the cells from o on are l. -/
def splice (cs : Array Value) (o : Nat) (l : List Value) : Array Value := (cs.toList.take o ++ l ++ cs.toList.drop (o + l.length)).toArray
theorem splice_cons (cs : Array Value) (o : Nat) (v : Value) (l : List Value) (h : o + (l.length + 1) ≤ cs.size) : splice (cs.setIfInBounds o v) (o + 1) l = splice cs o (v :: l) := by
  unfold splice
  congr 1
  rw [Array.toList_setIfInBounds, List.length_cons]
  have ho : o < cs.toList.length := by rw [Array.length_toList]; omega
  rw [List.take_set, List.drop_set, if_pos (by omega), List.append_assoc, List.append_assoc]
  rw [show o + 1 + l.length = o + (l.length + 1) by omega]
  rw [List.take_add_one, List.getElem?_eq_getElem ho, Option.toList_some, List.set_append_right _ _ (by rw [List.length_take]; omega)]
  rw [List.length_take, Nat.min_eq_left (by omega), Nat.sub_self]
  simp
theorem setCells_row (g : Nat) (t : TypeId) : ∀ (l : List Value) (o : Nat) (cs : Array Value) (w : World), w.heap[g]? = some (.cells cs t (0, 0)) → o + l.length ≤ cs.size → w.setCells g o l = w.setRow g (splice cs o l)
  | [], o, cs, w, hg, hl => by
    have e : splice cs o [] = cs := by unfold splice; simp
    rw [e]
    show w = _
    have hv : w.heap[g]'(Array.getElem?_eq_some_iff.1 hg).1 = .cells cs t (0, 0) := (Array.getElem?_eq_some_iff.1 hg).2
    unfold World.setRow
    cases w with
    | mk heap tape drawn os output =>
      congr 1
      apply Array.ext
      · simp
      · intro k h1 h2
        simp only [Array.getElem_modify]
        split
        · rename_i hk; subst hk; simp at hv; simp [hv]
        · rfl
  | v :: l, o, cs, w, hg, hl => by
    rw [List.length_cons] at hl
    rw [World.setCells, setCell_eq_setRow w g o cs t (0, 0) v hg, setCells_row g t l (o + 1) _ _ (setRow_heap w g cs _ t _ hg) (by rw [Array.size_setIfInBounds]; omega), setRow_setRow, splice_cons cs o v l hl]

theorem Box.there' {w : World} {g : Nat} {t : TypeId} {cs : Array Value} (h : Box w g t cs) (f n : Nat) (hf : f + n ≤ cs.size) : w.there g f n := fun j hj => ⟨by rw [h.cell, Array.getElem?_eq_getElem (by omega)]; rfl, h.free _⟩
/-- The thirty-three, stored. -/
theorem exec_store_33 {o : Oper} {a : Act} {w : World} {x y : Operand} {B : Nat} {so : Bool} {la : Int} {f g : Nat → Bool} (ho : o.op = .store 33 x y) (hx : a.eval x = .pointer (some ⟨B, 2, none⟩)) (hy : a.eval y = .agg (Sr.row33 g).toArray) (hB : Box w B 35 (Sr.rc so la f)) :
    (execOp a.eval o).run Try.prog w = .ok .skip (w.setRow B (Sr.rc so la g)) := by
  have hs := run_storeVar_mid (P := Try.prog) w B 2 33 (Sr.row33 g).toArray (hB.there' 2 _ (by rw [Sr.rc_size]; exact Nat.le_refl 35)) (by rw [row33_info]; rfl) (Sr.row33_one g)
  have e : w.setCells B 2 (Sr.row33 g).toArray.toList = w.setRow B (Sr.rc so la g) := by
    rw [setCells_row B 35 _ 2 (Sr.rc so la f) w hB.is (by rw [Sr.rc_size]; exact Nat.le_refl 35)]
    rfl
  rw [e] at hs
  unfold execOp
  simp only [ho, hx, hy, Instr.storeAt, Instr.sureAddr, Sem.run_bind, Sem.run_pure, Result.andThen_ok, hs]
theorem exec_load_33 {o : Oper} {a : Act} {w : World} {x : Operand} {B : Nat} {g : Nat → Bool} (ho : o.op = .load 33 x) (hx : a.eval x = .pointer (some ⟨B, 0, none⟩)) (hB : Box w B 33 (Sr.row33 g).toArray) :
    (execOp a.eval o).run Try.prog w = .ok (.value (.agg (Sr.row33 g).toArray)) w := by
  have hl := run_loadVar_mid (P := Try.prog) w B 0 33 (Sr.row33 g) _ (fun j v hv => (hB.cell _).trans (by simpa using hv)) Try.underlying33 rfl (by rw [row33_info]; rfl)
  unfold execOp
  simp only [ho, hx, Instr.loadAt, Instr.sureAddr, Sem.run_bind, Sem.run_pure, Result.andThen_ok, hl]
end Go.Proofs.Ytgjkodbigdgdmaa
