/-
The program's entry: sameness; beginnings; the document's sameness.
-/
import Derived.Test.YtbihnmingedgfaaEt
import Derived.Test.YtbihnmingedgfaaOl
namespace En
open Go
open Classical in
noncomputable def evsB (l m : List Ev) : Bool := decide (l = m)
open Classical in
noncomputable def likeB (e o : E) : Bool := decide (Like e o)
open Classical in
theorem evsB_yes {l m : List Ev} (h : l = m) : evsB l m = true := decide_eq_true h
open Classical in
theorem evsB_no {l m : List Ev} (h : ¬ l = m) : evsB l m = false := decide_eq_false h
open Classical in
theorem likeB_yes {e o : E} (h : Like e o) : likeB e o = true := decide_eq_true h
open Classical in
theorem likeB_no {e o : E} (h : ¬ Like e o) : likeB e o = false := decide_eq_false h
open Classical in
theorem likeB_iff {e o : E} : likeB e o = true ↔ Like e o := by unfold likeB; exact decide_eq_true_iff
theorem Like.refl (e : E) : Like e e := ⟨rfl, rfl, fun _ _ => rfl⟩
theorem Like.symm {e o : E} (h : Like e o) : Like o e := ⟨h.1.symm, h.2.1.symm, fun i hi => (h.2.2 i hi).symm⟩
theorem Like.trans {e o u : E} (h : Like e o) (k : Like o u) : Like e u := ⟨h.1.trans k.1, h.2.1.trans k.2.1, fun i hi => (h.2.2 i hi).trans (k.2.2 i hi)⟩
/-- An entry, and where its events lie. -/
structure S where
  e : E
  adr : Option Addr
  cap : Nat
def S.sl (q : S) : Value := .slice q.adr q.e.evs.length q.cap
def S.cells (q : S) : List Value := (En.cells q.e q.sl).toList
def sCells (l : List S) : List Value := l.flatMap S.cells
theorem S.cells_len (q : S) : q.cells.length = 26 := rfl
theorem S.cells_arr (q : S) : q.cells.toArray = En.cells q.e q.sl := by unfold S.cells; exact Array.toArray_toList
theorem sCells_len (l : List S) : (sCells l).length = l.length * 26 := by
  induction l with
  | nil => rfl
  | cons s l ih => unfold sCells at *; rw [List.flatMap_cons, List.length_append, ih, List.length_cons, S.cells_len]; omega
theorem sCells_at (l : List S) (k j : Nat) (hk : k < l.length) (hj : j < 26) : (sCells l)[k * 26 + j]? = l[k].cells[j]? := by
  induction l generalizing k with
  | nil => simp at hk
  | cons s l ih =>
    unfold sCells at *
    rw [List.flatMap_cons]
    match k with
    | 0 => rw [List.getElem?_append_left (by rw [S.cells_len]; omega)]; simp
    | k + 1 =>
      rw [List.getElem?_append_right (by rw [S.cells_len]; omega)]
      have := ih k (by simpa using hk)
      rw [show (k + 1) * 26 + j - s.cells.length = k * 26 + j from by rw [S.cells_len]; omega, this]
      simp
theorem sCells_one (l : List S) : ∀ u ∈ sCells l, u.oneCell' = true := by
  intro u hu
  obtain ⟨q, _, hq⟩ := List.mem_flatMap.1 hu
  have := cells_one q.e q.sl rfl
  rw [Array.all_eq_true'] at this
  exact this u (by unfold S.cells at hq; simpa using hq)
end En
namespace Go.Proofs.Ytbihnmingedgfaa
open Go.RowKit Go.Shelf
set_option linter.unusedVariables false
set_option linter.unusedSimpArgs false

/-- Entries lie one behind the other, and the events of each. -/
structure LiesS (w : World) (B : Nat) (A : Option Addr) (n : Nat) (l : List En.S) : Prop where
  row : Lies w B 26 A n (En.sCells l)
  each : ∀ q ∈ l, Lies w B 4 q.adr q.e.evs.length (En.evCells q.e.evs)
  few : ∀ q ∈ l, q.e.evs.length ≤ maxLen
section
variable {w w' : World} {B B' n : Nat} {A : Option Addr} {l : List En.S}
theorem LiesS.below (h : LiesS w B A n l) (hb : Below B w w') : LiesS w' B A n l := ⟨h.row.below hb, fun q hq => (h.each q hq).below hb, h.few⟩
theorem LiesS.wider (h : LiesS w B A n l) (hB : B ≤ B') : LiesS w B' A n l := ⟨h.row.wider hB, fun q hq => (h.each q hq).wider hB, h.few⟩
theorem LiesS.len (h : LiesS w B A n l) : l.length = n := by have := h.row.len; rw [En.sCells_len] at this; omega
theorem LiesS.nil : LiesS w B A 0 [] := ⟨⟨rfl, fun h => absurd rfl h, fun _ _ h => absurd rfl h⟩, fun q h => (by cases h), fun q h => (by cases h)⟩
theorem LiesS.at (h : LiesS w B A n l) (k : Nat) (hk : k < l.length) : ∃ ad, A = some ad ∧ ad.block < B ∧ ∀ j v, l[k].cells[j]? = some v → w.cell? ((ad.add (k * 26)).add j) = some v := by
  have hn := h.len
  obtain ⟨ad, rfl, hb⟩ := h.row.start (by omega)
  refine ⟨ad, rfl, hb, fun j v hv => ?_⟩
  have hj : j < 26 := by have := (List.getElem?_eq_some_iff.1 hv).1; rwa [En.S.cells_len] at this
  rw [add_twice]
  exact h.row.cell ad rfl (by omega) _ v (by rw [En.sCells_at l k j hk hj, hv])
theorem LiesS.take (h : LiesS w B A n l) (k : Nat) (hk : k ≤ n) : LiesS w B A k (l.take k) := by
  have hn := h.len
  refine ⟨⟨by rw [En.sCells_len, List.length_take]; omega, fun h0 => h.row.start (by omega), fun ad e h0 j u hu => ?_⟩, fun q hq => h.each q (List.mem_of_mem_take hq), fun q hq => h.few q (List.mem_of_mem_take hq)⟩
  have hj : j < k * 26 := by have := (List.getElem?_eq_some_iff.1 hu).1; rw [En.sCells_len, List.length_take] at this; omega
  refine h.row.cell ad e (by omega) j u ?_
  have h1 := En.sCells_at l (j / 26) (j % 26) (by omega) (by omega)
  have h2 := En.sCells_at (l.take k) (j / 26) (j % 26) (by rw [List.length_take]; omega) (by omega)
  rw [show j / 26 * 26 + j % 26 = j by omega] at h1 h2
  rw [h1, ← hu, h2]
  congr 2
  simp
end

theorem ev_neq (a b c d e f g h : Int) (w : World) : (binOp .neq 83 (.agg #[.int .i64 a, .int .i64 b, .int .i64 c, .int .i64 d]) (.agg #[.int .i64 e, .int .i64 f, .int .i64 g, .int .i64 h])).run Try.prog w = .ok (.bool (!decide (a = e ∧ b = f ∧ c = g ∧ d = h))) w := by
  have hh : (Op.equalIn 10000 83 (.agg #[.int .i64 a, .int .i64 b, .int .i64 c, .int .i64 d]) (.agg #[.int .i64 e, .int .i64 f, .int .i64 g, .int .i64 h])).run Try.prog w = .ok (decide (a = e ∧ b = f ∧ c = g ∧ d = h)) w := by
    by_cases h1 : a = e
    · by_cases h2 : b = f
      · by_cases h3 : c = g
        · by_cases h4 : d = h
          · subst h1 h2 h3 h4; go_simp <;> simp
          · have h5 : (d == h) = false := by simpa using h4
            subst h1 h2 h3; go_simp <;> simp [h5, h4]
        · have h5 : (c == g) = false := by simpa using h3
          subst h1 h2; go_simp <;> simp [h5, h3]
      · have h5 : (b == f) = false := by simpa using h2
        subst h1; go_simp <;> simp [h5, h2]
    · have h5 : (a == e) = false := by simpa using h1
      go_simp <;> simp [h5, h1]
  generalize #[Value.int .i64 a, .int .i64 b, .int .i64 c, .int .i64 d] = F at *
  generalize #[Value.int .i64 e, .int .i64 f, .int .i64 g, .int .i64 h] = G at *
  go_simp

set_option maxRecDepth 100000 in
set_option maxHeartbeats 4000000 in
theorem evsequal_any (l m : List En.Ev) (A B : Option Addr) (n n' c d : Nat) (w : World) (hn : n = l.length) (hm : n' = m.length) (n64 : n ≤ maxLen) (m64 : n' ≤ maxLen) (hr : Lies w w.heap.size 4 A n (En.evCells l)) (hq : Lies w w.heap.size 4 B n' (En.evCells m)) :
    Calls Try.prog 97 #[.slice A n c, .slice B n' d] w fun e w' => e = .returned (.bool (En.evsB l m)) ∧ Below w.heap.size w w' := by
  obtain ⟨r, hr0⟩ : ∃ r, r = En.evsB l m := ⟨_, rfl⟩
  rw [← hr0]
  have HR := Lib.hid hr0
  have n63 : (n : Int) ≤ 9223372036854775807 := by unfold maxLen at n64; omega
  have m63 : (n' : Int) ≤ 9223372036854775807 := by unfold maxLen at m64; omega
  clear hr0 n64 m64
  by_cases hnn : n = n'
  · subst hnn
    have HN := Lib.hid hn
    have HM := Lib.hid hm
    clear hn hm
    go_enter Try.func97, Try.ntmps97
    go_wp2
    go_loopw [13] (fun i wr => ∃ k : Nat, k ≤ n ∧ i = .int .i64 k ∧ Below w.heap.size w wr ∧ ∀ j, j < k → l[j]? = m[j]?) (fun i _ => n - (intOf i).toNat)
    case atStart => exact ⟨0, by omega, rfl, Below.refl _ _, fun j hj => absurd hj (Nat.not_lt_zero j)⟩
    case round =>
      obtain ⟨k, hk, rfl, hb, hall⟩ := hrel
      by_cases hlt : k < n
      · have hk8 : (k : Int) < n := by omega
        have hkl : k < l.length := by have := HN.out; omega
        have hkm : k < m.length := by have := HM.out; omega
        obtain ⟨ad, rfl, hbl, a0, a1, a2, a3⟩ := evs_at (hr.below hb) HN.out k hkl
        obtain ⟨bd, rfl, hbm, c0, c1, c2, c3⟩ := evs_at (hq.below hb) HM.out k hkm
        have hlk : l[k]? = some l[k] := List.getElem?_eq_getElem hkl
        have hmk : m[k]? = some m[k] := List.getElem?_eq_getElem hkm
        generalize l[k] = u at a0 a1 a2 a3 hlk
        generalize m[k] = v at c0 c1 c2 c3 hmk
        obtain ⟨u0, u1, u2, u3⟩ := u
        obtain ⟨v0, v1, v2, v3⟩ := v
        dsimp only at a0 a1 a2 a3 c0 c1 c2 c3
        have hneq := fun W => ev_neq u0 u1 u2 u3 v0 v1 v2 v3 W
        have HB := Lib.hid hb
        have HALL := Lib.hid hall
        have HLK := Lib.hid hlk
        have HMK := Lib.hid hmk
        clear hr hq hb hall hlk hmk
        by_cases he : u0 = v0 ∧ u1 = v1 ∧ u2 = v2 ∧ u3 = v3
        · rw [decide_eq_true he] at hneq
          have hnew := Lib.hid (show ∀ j, j < k + 1 → l[j]? = m[j]? from fun j hj => by
            by_cases e : j = k
            · rw [e, HLK.out, HMK.out, he.1, he.2.1, he.2.2.1, he.2.2.2]
            · exact HALL.out j (by omega))
          clear he
          go_upto_region 6 with fail
          go_quiet (fail)
          go_wp2
          go_roundw
          case rel => exact ⟨k + 1, by omega, by go_num, draws_below HB.out _, hnew.out⟩
          case measure => simp [intOf]; omega
        · rw [decide_eq_false he] at hneq
          have hno := Lib.hid (show ¬ l = m from fun h => he (by
            have h1 := HLK.out
            rw [h, HMK.out] at h1
            injection h1 with h1
            injection h1 with h1 h2 h3 h4
            exact ⟨h1.symm, h2.symm, h3.symm, h4.symm⟩))
          clear he
          go_upto_region 6 with fail
          go_quiet (fail)
          go_wp2
          go_ret
          exact ⟨ret_bool (by rw [HR.out]; exact (En.evsB_no hno.out).symm), draws_below HB.out _⟩
      · have hk8 : ¬ (k : Int) < n := by omega
        have hyes := Lib.hid (show l = m from List.ext_getElem? fun i => by
          by_cases hi : i < k
          · exact hall i hi
          · rw [List.getElem?_eq_none (by have := HN.out; omega), List.getElem?_eq_none (by have := HM.out; omega)])
        have HB := Lib.hid hb
        clear hr hq hb hall
        go_wp2
        go_ret
        exact ⟨ret_bool (by rw [HR.out]; exact (En.evsB_yes hyes.out).symm), HB.out⟩
  · have hne : ((n : Int) != n') = true := by simp; omega
    have hno := Lib.hid (show ¬ l = m from fun h => hnn (by rw [hn, hm, h]))
    clear hr hq hn hm hnn
    go_enter Try.func97, Try.ntmps97
    go_wp2
    go_ret
    exact ⟨ret_bool (by rw [HR.out]; exact (En.evsB_no hno.out).symm), Below.refl _ _⟩

set_option maxRecDepth 100000 in
set_option maxHeartbeats 4000000 in
theorem ensame_any (q u : En.S) (w : World) (q64 : q.e.evs.length ≤ maxLen) (u64 : u.e.evs.length ≤ maxLen) (hr : Lies w w.heap.size 4 q.adr q.e.evs.length (En.evCells q.e.evs)) (hq : Lies w w.heap.size 4 u.adr u.e.evs.length (En.evCells u.e.evs)) :
    Calls Try.prog 48 #[.agg (En.cells q.e q.sl), .agg (En.cells u.e u.sl)] w fun e w' => e = .returned (.bool (En.likeB q.e u.e)) ∧ Below w.heap.size w w' := by
  obtain ⟨⟨f, l, i⟩, A, c⟩ := q
  obtain ⟨⟨g, m, j⟩, B, d⟩ := u
  dsimp only [En.S.sl] at *
  obtain ⟨r, hr0⟩ : ∃ r, r = En.likeB ⟨f, l, i⟩ ⟨g, m, j⟩ := ⟨_, rfl⟩
  rw [← hr0]
  have HR := Lib.hid hr0
  have P1 := Lib.hid ((Box.made w 72 (En.cells ⟨f, l, i⟩ (.slice A l.length c))).alloc (.cells (En.cells ⟨g, m, j⟩ (.slice B m.length d)) 72))
  have P2 := Lib.hid (Box.made_at (n := w.heap.size + 1) (w.alloc (.cells (En.cells ⟨f, l, i⟩ (.slice A l.length c)) 72)) 72 (En.cells ⟨g, m, j⟩ (.slice B m.length d)) (by simp))
  have hb0 := two_below' w (.cells (En.cells ⟨f, l, i⟩ (.slice A l.length c)) 72) (.cells (En.cells ⟨g, m, j⟩ (.slice B m.length d)) 72)
  have K0 := Lib.hid hb0
  have a0 := P1.out.cell 0
  have a1 := P1.out.cell 1
  have b0 := P2.out.cell 0
  have b1 := P2.out.cell 1
  rw [En.cells_0] at a0 b0
  rw [En.cells_1] at a1 b1
  dsimp only at a0 b0
  have ce := Lib.hid (evsequal_any l m A B l.length m.length c d _ rfl rfl q64 u64 ((hr.below hb0).wider hb0.size) ((hq.below hb0).wider hb0.size))
  have hins := fun W => ins_eql i j W
  have hii := En.insEq_iff i j
  generalize En.insEq i j = bi at hins hii
  have HII := Lib.hid hii
  generalize hll : l.length = n at *
  generalize hml : m.length = n' at *
  clear hr hq hb0 hr0 hii hll hml
  by_cases hf : f = g
  · subst hf
    cases bi
    · have hno := Lib.hid (show ¬ En.Like ⟨f, l, i⟩ ⟨f, m, j⟩ from fun h => by have := HII.out.2 h.2.2; cases this)
      go_enter Try.func48, Try.ntmps48
      go_wp2_with ((with_reducible refine en_load_ins_g ?_ rfl ?_); (focus first | rfl | kernel_rfl | simp [Region.wanted, yielded]); apply LoadEn.mk rfl; (focus first | (with_reducible exact P1.out) | (with_reducible exact P2.out)); dsimp only)
      go_ret
      exact ⟨ret_bool (by rw [HR.out]; exact (En.likeB_no hno.out).symm), K0.out⟩
    · obtain ⟨be, hbe⟩ : ∃ be, be = En.evsB l m := ⟨_, rfl⟩
      rw [← hbe] at ce
      have HL := Lib.hid (show En.likeB ⟨f, l, i⟩ ⟨f, m, j⟩ = be by
        rw [hbe]
        by_cases h : l = m
        · rw [En.evsB_yes h]; exact En.likeB_yes ⟨rfl, h, HII.out.1 rfl⟩
        · rw [En.evsB_no h]; exact En.likeB_no fun k => h k.2.1)
      clear hbe
      go_enter Try.func48, Try.ntmps48
      go_wp2_with (first | ((with_reducible refine en_load_ins_g ?_ rfl ?_); (focus first | rfl | kernel_rfl | simp [Region.wanted, yielded]); apply LoadEn.mk rfl; (focus first | (with_reducible exact P1.out) | (with_reducible exact P2.out)); dsimp only) | (go_at_call 97; ((with_reducible refine (ce.out).mono ?_); rintro r w1 ⟨rfl, hb⟩; have K1 := Lib.hid (K0.out.trans (hb.mono K0.out.size)); clear hb)))
      go_ret
      exact ⟨ret_bool (by rw [HR.out]; simpa using HL.out.symm), K1.out⟩
  · have hfb : (f == g) = false := by simpa using hf
    have hno := Lib.hid (show ¬ En.Like ⟨f, l, i⟩ ⟨g, m, j⟩ from fun h => hf h.1)
    clear hf
    go_enter Try.func48, Try.ntmps48
    go_wp2
    go_ret
    exact ⟨ret_bool (by rw [HR.out]; exact (En.likeB_no hno.out).symm), K0.out⟩
end Go.Proofs.Ytbihnmingedgfaa
