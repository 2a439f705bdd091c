/-
Several texts in one: Sa Te Tf Tg Rs Ru.
-/
import Derived.Test.YtiahpncglpfjeaaGreatFq8
namespace Go.Proofs.YtiahpncglpfjeaaGreat
open Go.RowKit Go.Shelf
set_option linter.unusedVariables false
set_option linter.unusedSimpArgs false

/-- A row of which the cells from o on are l. -/
def splice (cs : Array Value) (o : Nat) (l : List Value) : Array Value := (cs.toList.take o ++ l ++ cs.toList.drop (o + l.length)).toArray
theorem splice_cons (cs : Array Value) (o : Nat) (v : Value) (l : List Value) (h : o + (l.length + 1) ≤ cs.size) : splice (cs.setIfInBounds o v) (o + 1) l = splice cs o (v :: l) := by
  unfold splice
  congr 1
  rw [Array.toList_setIfInBounds, List.length_cons]
  have ho : o < cs.toList.length := by rw [Array.length_toList]; omega
  rw [List.take_set, List.drop_set, if_pos (by omega), List.append_assoc, List.append_assoc]
  rw [show o + 1 + l.length = o + (l.length + 1) by omega]
  rw [List.take_add_one, List.getElem?_eq_getElem ho, Option.toList_some, List.set_append_right _ _ (by rw [List.length_take]; omega)]
  rw [List.length_take, Nat.min_eq_left (by omega), Nat.sub_self]
  simp
theorem setCells_row (g : Nat) (t : TypeId) : ∀ (l : List Value) (o : Nat) (cs : Array Value) (w : World), w.heap[g]? = some (.cells cs t (0, 0)) → o + l.length ≤ cs.size → w.setCells g o l = w.setRow g (splice cs o l)
  | [], o, cs, w, hg, hl => by
    have e : splice cs o [] = cs := by unfold splice; simp
    rw [e]
    show w = _
    have hv : w.heap[g]'(Array.getElem?_eq_some_iff.1 hg).1 = .cells cs t (0, 0) := (Array.getElem?_eq_some_iff.1 hg).2
    unfold World.setRow
    cases w with
    | mk heap tape drawn os output =>
      congr 1
      apply Array.ext
      · simp
      · intro k h1 h2
        simp only [Array.getElem_modify]
        split
        · rename_i hk; subst hk; simp at hv; simp [hv]
        · rfl
  | v :: l, o, cs, w, hg, hl => by
    rw [List.length_cons] at hl
    rw [World.setCells, setCell_eq_setRow w g o cs t (0, 0) v hg, setCells_row g t l (o + 1) _ _ (setRow_heap w g cs _ t _ hg) (by rw [Array.size_setIfInBounds]; omega), setRow_setRow, splice_cons cs o v l hl]

theorem Im.cells_list (g : Gm.G) (s : Value) (r : Ros.R) : (Im.cells g s r).toList = (Gm.cells g s).toList ++ (Ros.cells r).toList := by unfold Im.cells; rw [Array.toList_append]
theorem Im.splice_g (g g' : Gm.G) (s s' : Value) (r : Ros.R) : splice (Im.cells g s r) 0 (Gm.cells g' s').toList = Im.cells g' s' r := by
  unfold splice
  rw [Im.cells_list, List.take_zero, List.nil_append, Nat.zero_add, List.drop_left' (by rw [Array.length_toList, Array.length_toList, Gm.cells_size, Gm.cells_size]), ← Im.cells_list, Array.toArray_toList]
theorem Im.splice_r (g : Gm.G) (s : Value) (r r' : Ros.R) : splice (Im.cells g s r) 59 (Ros.cells r').toList = Im.cells g s r' := by
  have e : (59 : Nat) = (Gm.cells g s).toList.length := by rw [Array.length_toList, Gm.cells_size]
  have e2 : ((Gm.cells g s).toList ++ (Ros.cells r).toList).length ≤ 59 + (Ros.cells r').toList.length := by rw [List.length_append, Array.length_toList, Array.length_toList, Array.length_toList, Gm.cells_size, Ros.cells_size, Ros.cells_size]; omega
  unfold splice
  rw [Im.cells_list, List.drop_of_length_le e2, List.append_nil, List.take_left' e.symm, ← Im.cells_list, Array.toArray_toList]
theorem im_one (g : Gm.G) (s : Value) (r : Ros.R) (hs : s.oneCell' = true) : (Im.cells g s r).all (·.oneCell') = true := by
  refine Array.all_eq_true_iff_forall_mem.2 fun v hv => ?_
  rcases Array.mem_append.1 hv with h | h
  · exact Array.all_eq_true_iff_forall_mem.1 (cells_one g s hs) v h
  · exact Array.all_eq_true_iff_forall_mem.1 (ros_one r) v h

section
variable {ops : Array Oper} {rest : List Oper} {o : Oper} {a : Act} {w : World} {Q : Exit → Act → World → Prop} {x y : Operand} {dst : Option Tmp} {p v : Value}
theorem im_load_ros (hgd : o.guard = none) (ho : o.op = .load 33 x) (h : LoadIm ops Q rest o.dst (a.eval x) 59 (fun _ _ r => Ros.cells r) a w) : wpList Tryz.prog ops Q (o :: rest) a w := by
  obtain ⟨B, g, s, r, hx, hB, h⟩ := h
  refine wpList_load_part hgd ho hx hB (Ros.cells r).toList (fun j v hv => ?_) Tryz.underlying33 rfl ros_info h
  rw [Im.cells_r]
  simpa using hv
/-- What the store of a state's game, of its roster, of a whole state wants. -/
def StoreG (ops : Array Oper) (Q : Exit → Act → World → Prop) (rest : List Oper) (dst : Option Tmp) (p v : Value) (a : Act) (w : World) : Prop :=
  ∃ (B : Nat) (g : Gm.G) (s : Value) (r : Ros.R) (g' : Gm.G) (s' : Value), p = .pointer (some ⟨B, 0, none⟩) ∧ v = .agg (Gm.cells g' s') ∧ Box w B 35 (Im.cells g s r) ∧ s'.oneCell' = true ∧ wpList Tryz.prog ops Q rest (a.put dst undef) (w.setRow B (Im.cells g' s' r))
theorem StoreG.mk {B : Nat} {g : Gm.G} {s : Value} {r : Ros.R} {g' : Gm.G} {s' : Value} (hp : p = .pointer (some ⟨B, 0, none⟩)) (hv : v = .agg (Gm.cells g' s')) (hB : Box w B 35 (Im.cells g s r)) (hs : s'.oneCell' = true)
    (h : wpList Tryz.prog ops Q rest (a.put dst undef) (w.setRow B (Im.cells g' s' r))) : StoreG ops Q rest dst p v a w := ⟨B, g, s, r, g', s', hp, hv, hB, hs, h⟩
theorem Box.there {g : Nat} {t : TypeId} {cs : Array Value} (h : Box w g t cs) (f n : Nat) (hf : f + n ≤ cs.size) : w.there g f n := fun j hj => ⟨by rw [h.cell, Array.getElem?_eq_getElem (by omega)]; rfl, h.free _⟩
theorem im_store_game (hgd : o.guard = none) (ho : o.op = .store 28 x y) (h : StoreG ops Q rest o.dst (a.eval x) (a.eval y) a w) : wpList Tryz.prog ops Q (o :: rest) a w := by
  obtain ⟨B, g, s, r, g', s', hx, hy, hB, hs, h⟩ := h
  refine wpList_store_mid hgd 28 x y ho B 0 (Gm.cells g' s') hx hy (hB.there 0 _ (by rw [Im.cells_size, Gm.cells_size]; omega)) game_info (cells_one _ _ hs) ?_
  rw [setCells_row B 35 _ 0 (Im.cells g s r) w hB.is (by rw [Im.cells_size, Array.length_toList, Gm.cells_size]; omega), Im.splice_g]
  exact h
def StoreR (ops : Array Oper) (Q : Exit → Act → World → Prop) (rest : List Oper) (dst : Option Tmp) (p v : Value) (a : Act) (w : World) : Prop :=
  ∃ (B : Nat) (g : Gm.G) (s : Value) (r r' : Ros.R), p = .pointer (some ⟨B, 59, none⟩) ∧ v = .agg (Ros.cells r') ∧ Box w B 35 (Im.cells g s r) ∧ wpList Tryz.prog ops Q rest (a.put dst undef) (w.setRow B (Im.cells g s r'))
theorem StoreR.mk {B : Nat} {g : Gm.G} {s : Value} {r r' : Ros.R} (hp : p = .pointer (some ⟨B, 59, none⟩)) (hv : v = .agg (Ros.cells r')) (hB : Box w B 35 (Im.cells g s r))
    (h : wpList Tryz.prog ops Q rest (a.put dst undef) (w.setRow B (Im.cells g s r'))) : StoreR ops Q rest dst p v a w := ⟨B, g, s, r, r', hp, hv, hB, h⟩
theorem im_store_ros (hgd : o.guard = none) (ho : o.op = .store 33 x y) (h : StoreR ops Q rest o.dst (a.eval x) (a.eval y) a w) : wpList Tryz.prog ops Q (o :: rest) a w := by
  obtain ⟨B, g, s, r, r', hx, hy, hB, h⟩ := h
  refine wpList_store_mid hgd 33 x y ho B 59 (Ros.cells r') hx hy (hB.there 59 _ (by rw [Im.cells_size, Ros.cells_size]; omega)) ros_info (ros_one _) ?_
  rw [setCells_row B 35 _ 59 (Im.cells g s r) w hB.is (by rw [Im.cells_size, Array.length_toList, Ros.cells_size]; omega), Im.splice_r]
  exact h
def StoreS (ops : Array Oper) (Q : Exit → Act → World → Prop) (rest : List Oper) (dst : Option Tmp) (p v : Value) (a : Act) (w : World) : Prop :=
  ∃ (B : Nat) (old : Array Value) (g' : Gm.G) (s' : Value) (r' : Ros.R), p = .pointer (some ⟨B, 0, none⟩) ∧ v = .agg (Im.cells g' s' r') ∧ Box w B 35 old ∧ old.size = 76 ∧ s'.oneCell' = true ∧ wpList Tryz.prog ops Q rest (a.put dst undef) (w.setRow B (Im.cells g' s' r'))
theorem StoreS.mk {B : Nat} {old : Array Value} {g' : Gm.G} {s' : Value} {r' : Ros.R} (hp : p = .pointer (some ⟨B, 0, none⟩)) (hv : v = .agg (Im.cells g' s' r')) (hB : Box w B 35 old) (ho : old.size = 76) (hs : s'.oneCell' = true)
    (h : wpList Tryz.prog ops Q rest (a.put dst undef) (w.setRow B (Im.cells g' s' r'))) : StoreS ops Q rest dst p v a w := ⟨B, old, g', s', r', hp, hv, hB, ho, hs, h⟩
theorem im_store_state (hgd : o.guard = none) (ho : o.op = .store 35 x y) (h : StoreS ops Q rest o.dst (a.eval x) (a.eval y) a w) : wpList Tryz.prog ops Q (o :: rest) a w := by
  obtain ⟨B, old, g', s', r', hx, hy, hB, h76, hs, h⟩ := h
  exact wpList_store_blk hgd ho hx hy hB (by rw [Im.cells_size]; exact state_info) (by rw [Im.cells_size]; exact h76) (im_one _ _ _ hs) h
end
end Go.Proofs.YtiahpncglpfjeaaGreat
namespace Go.Proofs.YtiahpncglpfjeaaGreat
open Go.RowKit Go.Shelf
set_option linter.unusedVariables false
set_option linter.unusedSimpArgs false
attribute [local go_sem] Oper.semAt_some
/-- The roster of New on its way. -/
def clearSt (l : List Ros.Sl) : Ros.R := l.foldl (fun r x => { r with peer := Ros.upd r.peer x.1 (-1) }) rosZero
theorem clearSt_snoc (l : List Ros.Sl) (x : Ros.Sl) : clearSt (l ++ [x]) = { clearSt l with peer := Ros.upd (clearSt l).peer x.1 (-1) } := by
  unfold clearSt; rw [List.foldl_append]; rfl
theorem clearSt_all : Ros.cells (clearSt Ros.all8) = Ros.cells Ros.new := rfl

set_option maxRecDepth 100000 in
set_option maxHeartbeats 4000000 in
theorem rosnew_any (w : World) :
    Calls Tryz.prog 44 #[] w fun e w' => e = .returned (.agg (Ros.cells Ros.new)) ∧ Below w.heap.size w w' := by
  refine (callsIn_wide (n := 10)).1 (callsIn_of_wp_marks Tryz.func44 rfl trivial (wpIn_wide.2 ?_) rfl)
  simp only [Tryz.ntmps44, List.size_toArray, List.length_cons, List.length_nil, Nat.reduceAdd, Nat.reduceSub, Array.replicate_succ, Array.replicate_zero, List.push_toArray, List.append_toArray, List.nil_append, List.cons_append]
  go_upto_block 0 with (first | ((with_reducible refine ros_alloc rfl rfl ?_)) | (go_at_call 55; ((with_reducible refine (seats_any _ _).mono ?_); rintro e w3 ⟨rfl, rfl⟩)))
  have M0 : Sit (w.heap.size + 1) (w.heap.size + 1 + 1) w (clearSt []) (((w.alloc (.cells (Ros.cells rosZero) 33)).alloc (.cells (Ros.cells rosZero) 33)).alloc (.cells #[.pointer (some ⟨w.heap.size + 1, 0, none⟩)] 95)) ∧ Box (((w.alloc (.cells (Ros.cells rosZero) 33)).alloc (.cells (Ros.cells rosZero) 33)).alloc (.cells #[.pointer (some ⟨w.heap.size + 1, 0, none⟩)] 95)) w.heap.size 33 (Ros.cells rosZero) :=
    ⟨⟨(Box.made_at _ _ _ (by simp)).alloc _, Box.made_at _ _ _ (by simp), (((Below.refl _ _).alloc (Nat.le_refl _) _).alloc (by simp) _).alloc (by simp <;> omega) _⟩, ((Box.made w _ _).alloc _).alloc _⟩
  generalize hW0 : (((w.alloc (.cells (Ros.cells rosZero) 33)).alloc _).alloc _) = W0 at M0 ⊢
  have MM0 := Lib.hid M0
  have hs0 : Sitting (w.heap.size + 1) (w.heap.size + 1 + 1) W0 := M0.1.sit.cell 0
  clear hW0 M0
  refine (wpIn_wide (n := 10)).1 ?_
  refine wpIn_block ?_
  refine' wpIn_rangeFunc_ownF (n := 10) (w := W0) rfl (by omega) (gf := 93) (lb := #[.pointer (some ⟨w.heap.size + 1 + 1, 0, none⟩)]) rfl trivial (enters_of Tryz.func93 (by kernel_rfl) rfl)
    (seats1_stops (w.heap.size + 1) (w.heap.size + 1 + 1) _ W0 hs0) sitkp_t (sitkp_b (n := W0.heap.size)) (Below.refl _ _) (fun _ => rfl)
    (fun pre W => Sit (w.heap.size + 1) (w.heap.size + 1 + 1) w (clearSt pre) W ∧ Box W w.heap.size 33 (Ros.cells rosZero))
    (fun c pre W => False)
    (fun pre W W' row h hgr hr => ⟨h.1.turned hgr (fun r e => ⟨Nat.le_trans MM0.out.1.below.size (hr r e).1, (hr r e).2⟩), h.2.turned hgr (fun r e => (hr r e).2)⟩)
    (fun c pre W W' row h hgr hr => h)
    MM0.out _ ?assign ?body ?done ?stop
  case assign =>
    intro l x W K hK
    gi_wp2
    exact hK
  case body =>
    rintro l pre ⟨k, hk⟩ W ⟨hM, hR⟩ hlen
    have hk8 : (k : Int) < 8 := by omega
    have rp := Ros.cells_peer (clearSt pre) k hk
    have rc := hM.ros.cell
    have rf := hM.ros.free
    have HM := Lib.hid hM
    have HR := Lib.hid hR
    clear hM hR hlen
    gi_wp2
    have hset := HM.out.ros.put (1 + k * 2) (.int .i64 (-1))
    rw [Ros.cells_setp _ k hk] at hset
    refine ⟨KeepsOthers.setCell _ _ _, fun h => (World.cell?_of_block (heap_setCell_other _ _ _ _ (by show w.heap.size + 1 + 1 ≠ w.heap.size + 1; omega))).trans h, ⟨?_, HM.out.sit.far (by show _ ≠ _; simp) _, HM.out.below.setCell (by simp) _⟩, HR.out.far (by show _ ≠ _; simp) _⟩
    rw [clearSt_snoc]
    exact hset
  case done =>
    rintro D xs W hD rfl ⟨hM, hR⟩ hK
    have hDw : w.heap.size + 1 + 1 < D := Nat.lt_of_lt_of_le MM0.out.1.sit.lt hD
    have BR := Lib.hid (show Box W (w.heap.size + 1) 33 (Ros.cells Ros.new) from clearSt_all ▸ hM.ros)
    have BZ := Lib.hid hR
    have HB := Lib.hid (Below.setRow' hM.below (Nat.le_refl _) (Ros.cells Ros.new))
    have hne : D ≠ w.heap.size := by omega
    have HK := Lib.hid (show (W.setRow w.heap.size (Ros.cells Ros.new)).heap[D]? = some (.deferred (some [])) from (setRow_other W w.heap.size D _ hne).trans hK)
    clear hM hR hK
    go_wp2_with (first | ((with_reducible refine ros_load rfl rfl ?_); apply LoadRow.mk rfl; (focus (with_reducible exact BR.out)); (focus (exact ros_info))) | ((with_reducible refine ros_store rfl rfl ?_); apply StoreRow.mk rfl rfl; (focus (with_reducible exact BZ.out)); (focus (exact ros_info)); (focus rfl); (focus (exact ros_one _))))
    refine ⟨by simp, .inl ⟨_, _, rfl, run_takeDeferred HK.out, ?_⟩⟩
    have R6 := (BZ.out.row (Ros.cells Ros.new)).turned (grownBy_putObj' _ D (.deferred none)) (fun r e => by cases e; exact ⟨_, HK.out, rfl⟩)
    refine ⟨.agg (Ros.cells Ros.new), ?_, rfl, Below.turned HB.out (Nat.le_refl _) (grownBy_putObj' _ D (.deferred none)) (fun r e => by cases e; omega)⟩
    exact results_cell_row rfl _ _ _ _ (Ros.cells Ros.new) (0, 0) _ rfl R6.is Tryz.underlying33 rfl ros_info
  case stop =>
    rintro D c' pre W hD _ hf hK
    exact hf.elim

set_option maxRecDepth 100000 in
set_option maxHeartbeats 4000000 in
theorem rosof_any (r : Ros.R) (p : Int) (w : World) :
    Calls Tryz.prog 84 #[.agg (Ros.cells r), .int .i64 p] w fun e w' => e = .returned (.int .i64 (Ros.of r p)) ∧ Below w.heap.size w w' := by
  have cm := fun X => Lib.hid (rosmay_any r X)
  have cp := fun X => Lib.hid (rospeer_any p X)
  have B0 := ((Box.made w 33 (Ros.cells r)).alloc (.cells #[.int .i64 p] 3)).alloc (.cells #[.int .i64 0] 3)
  have B1 := (Box.made_at (n := w.heap.size + 1) (w.alloc (.cells (Ros.cells r) 33)) 3 #[.int .i64 p] (by simp)).alloc (.cells #[.int .i64 0] 3)
  have B2 := Box.made_at (n := w.heap.size + 1 + 1) ((w.alloc (.cells (Ros.cells r) 33)).alloc (.cells #[.int .i64 p] 3)) 3 #[.int .i64 0] (by simp)
  have b0 := (((Below.refl w.heap.size w).alloc (Nat.le_refl _) (.cells (Ros.cells r) 33)).alloc (by simp) (.cells #[.int .i64 p] 3)).alloc (by simp <;> omega) (.cells #[.int .i64 0] 3)
  have P0 := Lib.hid B0
  have P1 := Lib.hid B1
  have P2 := Lib.hid B2
  have PB := Lib.hid b0
  clear B0 B1 B2 b0
  have hof : Hid (Ros.of r p = if Ros.Ok r ∧ 0 ≤ p ∧ p < 12 then Ros.seatOf r p Ros.all8 else -1) := Lib.hid rfl
  by_cases hok : Ros.Ok r
  · have hmay : Ros.may r = true := decide_eq_true hok
    rw [hmay] at cm
    by_cases hp : 0 ≤ p ∧ p < 12
    · rw [decide_eq_true hp] at cp
      have HIF := Lib.hid (hof.out.trans (if_pos ⟨hok, hp⟩))
      clear hof hok hmay
      refine (callsIn_wide (n := 10)).1 (callsIn_of_wp_marks Tryz.func84 rfl trivial (wpIn_wide.2 ?_) rfl)
      simp only [Tryz.ntmps84, List.size_toArray, List.length_cons, List.length_nil, Nat.reduceAdd, Nat.reduceSub, Array.replicate_succ, Array.replicate_zero, List.push_toArray, List.append_toArray, List.nil_append, List.cons_append]
      go_upto_block 0 with (first | ((with_reducible refine ros_load rfl rfl ?_); apply LoadRow.mk rfl; (focus (with_reducible exact P0.out)); (focus (exact ros_info))) | (go_at_call 54; ((with_reducible refine ((cm _).out).mono ?_); rintro e w1 ⟨rfl, hb1⟩; have Q0 := Lib.hid (P0.out.below hb1 (by have := P0.out.lt; simp at this ⊢ <;> omega)); have Q1 := Lib.hid (P1.out.below hb1 (by have := P1.out.lt; simp at this ⊢ <;> omega)); have Q2 := Lib.hid (P2.out.below hb1 (by have := P2.out.lt; simp at this ⊢ <;> omega)); have QB := Lib.hid (PB.out.trans (hb1.mono PB.out.size)); have q1 := Q1.out.cell; have q2 := Q2.out.cell; have f2 := Q2.out.free; clear hb1)) | (go_at_call 83; ((with_reducible refine ((cp _).out).mono ?_); rintro e w2 ⟨rfl, rfl⟩)) | (go_at_call 55; ((with_reducible refine (seats_any _ _).mono ?_); rintro e w3 ⟨rfl, rfl⟩)))
      have M0 : Sit w.heap.size w1.heap.size w r (w1.alloc (.cells #[.pointer (some ⟨w.heap.size, 0, none⟩)] 95)) ∧ Box (w1.alloc (.cells #[.pointer (some ⟨w.heap.size, 0, none⟩)] 95)) (w.heap.size + 1) 3 #[.int .i64 p] ∧ Box (w1.alloc (.cells #[.pointer (some ⟨w.heap.size, 0, none⟩)] 95)) (w.heap.size + 1 + 1) 3 #[.int .i64 0] :=
        ⟨⟨Q0.out.alloc _, Box.made _ _ _, QB.out.alloc QB.out.size _⟩, Q1.out.alloc _, Q2.out.alloc _⟩
      have bgw : w.heap.size + 1 + 1 < w1.heap.size := Q2.out.lt
      generalize hW0 : (w1.alloc (.cells #[.pointer (some ⟨w.heap.size, 0, none⟩)] 95)) = W0 at M0 ⊢
      generalize w1.heap.size = Bg at *
      have MM0 := Lib.hid M0
      have hs0 : Sitting w.heap.size Bg W0 := M0.1.sit.cell 0
      have HP := Lib.hid hp
      clear hW0 M0 P0 P1 P2 PB Q0 Q1 Q2 QB q1 q2 f2 cm cp hp
      refine (wpIn_wide (n := 10)).1 ?_
      refine wpIn_block ?_
      refine' wpIn_rangeFunc_ownF (n := 10) (w := W0) rfl (by omega) (gf := 93) (lb := #[.pointer (some ⟨Bg, 0, none⟩)]) rfl trivial (enters_of Tryz.func93 (by kernel_rfl) rfl)
        (seats1_stops (w.heap.size) (Bg) _ W0 hs0) sitkp_t (sitkp_b (n := W0.heap.size)) (Below.refl _ _) (fun _ => rfl)
        (fun pre W => (Sit w.heap.size Bg w r W ∧ Box W (w.heap.size + 1) 3 #[.int .i64 p] ∧ Box W (w.heap.size + 1 + 1) 3 #[.int .i64 0]) ∧ ∀ y ∈ pre, r.peer y.1 ≠ p)
        (fun c pre W => c = .ret ∧ ∃ (pre' : List Ros.Sl) (x : Ros.Sl), pre = pre' ++ [x] ∧ (∀ y ∈ pre', r.peer y.1 ≠ p) ∧ r.peer x.1 = p ∧ Box W (w.heap.size + 1 + 1) 3 #[.int .i64 x.1] ∧ Below w.heap.size w W)
        (fun pre W W' row h hgr hr => ⟨⟨h.1.1.turned hgr (fun r e => ⟨Nat.le_trans MM0.out.1.below.size (hr r e).1, (hr r e).2⟩), h.1.2.1.turned hgr (fun r e => (hr r e).2), h.1.2.2.turned hgr (fun r e => (hr r e).2)⟩, h.2⟩)
        (fun c pre W W' row h hgr hr => (by
          obtain ⟨h0, pre', x, h1, h2, h3, h4, h5⟩ := h
          exact ⟨h0, pre', x, h1, h2, h3, h4.turned hgr (fun r e => (hr r e).2), Below.turned h5 (Nat.le_refl _) hgr (fun r e => Nat.le_trans MM0.out.1.below.size (hr r e).1)⟩))
        ⟨MM0.out, by simp⟩ _ ?assign ?body ?done ?stop
      case assign =>
        intro l x W K hK
        gi_wp2
        exact hK
      case body =>
        rintro l pre ⟨k, hk⟩ V ⟨⟨hM, hP, hR⟩, hpre⟩ hlen
        dsimp only
        have hk8 : (k : Int) < 8 := by omega
        have y0 := Ros.cells_peer r k hk
        have z0 : ∀ q : Ext V.heap.size V, q.w.cell? ⟨w.heap.size, 1 + k * 2, none⟩ = some (.int .i64 (r.peer k)) := fun q => q.cell hM.ros.lt ((hM.ros.cell _).trans y0)
        have z1 : ∀ q : Ext V.heap.size V, q.w.cell? ⟨w.heap.size + 1, 0, none⟩ = some (.int .i64 p) := fun q => q.cell hP.lt (hP.cell 0)
        obtain ⟨pk, hpk⟩ : ∃ pk, r.peer k = pk := ⟨_, rfl⟩
        rw [hpk] at z0
        have HM := Lib.hid hM
        have HPP := Lib.hid hP
        have HR := Lib.hid hR
        have HPRE := Lib.hid hpre
        have HPK := Lib.hid hpk
        clear hM hP hR hpre hpk y0 hlen
        refine wpIn_block ?_
        refine wpIn_seq_k ?_
        intro K hK
        by_cases he : pk = p
        · subst he
          have hb : (pk == pk) = true := by simp
          clear HPP
          refine Rt.region_ext V.heap.size V (by kernel_rfl) (by kernel_rfl) (by kernel_rfl) (by rintro ⟨_, _, h⟩; exact h) (Below.refl _ _) ?_
          repeat (go_big_quiet_step (fail))
          refine wpQuiet_nil ?_
          intro _ hw'
          obtain ⟨q, hw''⟩ := hw'
          subst hw''
          refine hK _ _ ?_
          have r2 := (HR.out.below q.h HR.out.lt)
          have q2 := r2.cell
          have f2 := r2.free
          have R2 := Lib.hid r2
          clear r2
          gi_wp2
          first
            | exact ⟨(below_others q.h).trans (KeepsOthers.setCell _ _ _), rfl, pre, ⟨k, hk⟩, rfl, HPRE.out, HPK.out, R2.out.put 0 _, (HM.out.call q.h).below.setCell (by simp <;> omega) _⟩
            | exact ⟨(below_others q.h).trans (KeepsOthers.setCell _ _ _), rfl, pre, k, ⟨hk, rfl⟩, fun a hb hm => HPRE.out ⟨a, hb⟩ hm, HPK.out, R2.out.put 0 _, (HM.out.call q.h).below.setCell (by simp <;> omega) _⟩
        · have hb : (pk == p) = false := by simpa using he
          refine Rt.region_ext V.heap.size V (by kernel_rfl) (by kernel_rfl) (by kernel_rfl) (by rintro ⟨_, _, h⟩; exact h) (Below.refl _ _) ?_
          repeat (go_big_quiet_step (fail))
          refine wpQuiet_nil ?_
          intro _ hw'
          obtain ⟨q, hw''⟩ := hw'
          subst hw''
          refine hK _ _ ?_
          have hnew : ∀ y ∈ pre ++ [(⟨k, hk⟩ : Ros.Sl)], r.peer y.1 ≠ p := fun y hy => by
            rcases List.mem_append.1 hy with h | h
            · exact HPRE.out y h
            · simp only [List.mem_singleton] at h
              subst h
              show r.peer k ≠ p
              rw [HPK.out]; exact he
          have HN := Lib.hid hnew
          clear hnew
          gi_wp2
          refine ⟨below_others q.h, fun hf => hf.below q.h, ⟨HM.out.call q.h, HPP.out.below q.h HPP.out.lt, HR.out.below q.h HR.out.lt⟩, ?_⟩
          first
            | exact HN.out
            | exact fun a hb hm => HN.out ⟨a, hb⟩ hm
      case done =>
        rintro D xs V hD rfl ⟨⟨hM, hP, hR⟩, hn⟩ hK
        have hres := hR.put 0 (.int .i64 (-1))
        have hK3 := others_kept (KeepsOthers.setCell V ⟨w.heap.size + 1 + 1, 0, none⟩ (.int .i64 (-1))) hK
        have hDw : w.heap.size ≤ D := Nat.le_trans MM0.out.1.below.size hD
        have hT := hres.turned (grownBy_putObj' _ D (.deferred none)) (fun r e => by cases e; exact ⟨_, hK3, rfl⟩)
        have hT2 := Lib.hid (Below.turned (hM.below.setCell (p := ⟨w.heap.size + 1 + 1, 0, none⟩) (by simp <;> omega) (.int .i64 (-1))) (Nat.le_refl _) (grownBy_putObj' _ D (.deferred none)) (fun r e => by cases e; exact hDw))
        have hno : Hid (Ros.of r p = -1) := Lib.hid (HIF.out.trans (Ros.seatOf_none hn))
        have HK3 := Lib.hid hK3
        have hc5 : ((V.setCell ⟨w.heap.size + 1 + 1, 0, none⟩ (.int .i64 (-1))).putObj D (.deferred none)).cell? ⟨w.heap.size + 1 + 1, 0, none⟩ = some (.int .i64 (-1)) := hT.cell 0
        have u4 := hR.cell
        have v4 := hR.free
        clear hM hres hK3 hT hK hn hP hR
        go_wp2
        refine ⟨by simp, .inl ⟨_, _, rfl, run_takeDeferred HK3.out, ?_⟩⟩
        refine ⟨.int .i64 (-1), ?_, by rw [hno.out], hT2.out⟩
        simp [results, Tryz.f84, go_sem, hc5]
      case stop =>
        rintro D c' pre V hD ⟨rest, hpre⟩ ⟨rfl, pre', x, rfl, h2, h3, h4, h5⟩ hK
        have hyes : Hid (Ros.of r p = x.1) := Lib.hid (HIF.out.trans (by rw [hpre, List.append_assoc]; exact Ros.seatOf_first h2 h3))
        have hDw : w.heap.size ≤ D := Nat.le_trans MM0.out.1.below.size hD
        have hT := h4.turned (grownBy_putObj' _ D (.deferred none)) (fun r e => by cases e; exact ⟨_, hK, rfl⟩)
        have hT2 := Lib.hid (Below.turned h5 (Nat.le_refl _) (grownBy_putObj' _ D (.deferred none)) (fun r e => by cases e; exact hDw))
        have hc5 : (V.putObj D (.deferred none)).cell? ⟨w.heap.size + 1 + 1, 0, none⟩ = some (.int .i64 x.1) := hT.cell 0
        have HK3 := Lib.hid hK
        clear h2 h3 h4 h5 hK hpre hT
        refine wpIn_ret ?_
        refine ⟨by simp, .inl ⟨_, _, rfl, run_takeDeferred HK3.out, ?_⟩⟩
        refine ⟨.int .i64 x.1, ?_, by rw [hyes.out], hT2.out⟩
        simp [results, Tryz.f84, go_sem, hc5]

    · rw [decide_eq_false hp] at cp
      have HIF := Lib.hid (hof.out.trans (if_neg fun h => hp h.2))
      clear hof hok hmay hp
      go_enter Tryz.func84, Tryz.ntmps84
      go_wp2_with (first | ((with_reducible refine ros_load rfl rfl ?_); apply LoadRow.mk rfl; (focus (with_reducible exact P0.out)); (focus (exact ros_info))) | (go_at_call 54; ((with_reducible refine ((cm _).out).mono ?_); rintro e w1 ⟨rfl, hb1⟩; have Q0 := Lib.hid (P0.out.below hb1 (by have := P0.out.lt; simp at this ⊢ <;> omega)); have Q1 := Lib.hid (P1.out.below hb1 (by have := P1.out.lt; simp at this ⊢ <;> omega)); have Q2 := Lib.hid (P2.out.below hb1 (by have := P2.out.lt; simp at this ⊢ <;> omega)); have QB := Lib.hid (PB.out.trans (hb1.mono PB.out.size)); have q1 := Q1.out.cell; have q2 := Q2.out.cell; have f2 := Q2.out.free; clear hb1)) | (go_at_call 83; ((with_reducible refine ((cp _).out).mono ?_); rintro e w2 ⟨rfl, rfl⟩)))
      have hT : (w1.setCell ⟨w.heap.size + 1 + 1, 0, none⟩ (.int .i64 (-1))).cell? ⟨w.heap.size + 1 + 1, 0, none⟩ = some (.int .i64 (-1)) := (Q2.out.put 0 (.int .i64 (-1))).cell 0
      refine bodyPost_ret (v := .int .i64 (-1)) (by simp [results, Tryz.f84, go_sem, hT]) rfl ?_
      exact ⟨by rw [HIF.out], QB.out.setCell (by simp <;> omega) _⟩
  · have hmay : Ros.may r = false := decide_eq_false hok
    rw [hmay] at cm
    have HIF := Lib.hid (hof.out.trans (if_neg fun h => hok h.1))
    clear hof hok hmay
    go_enter Tryz.func84, Tryz.ntmps84
    go_wp2_with (first | ((with_reducible refine ros_load rfl rfl ?_); apply LoadRow.mk rfl; (focus (with_reducible exact P0.out)); (focus (exact ros_info))) | (go_at_call 54; ((with_reducible refine ((cm _).out).mono ?_); rintro e w1 ⟨rfl, hb1⟩; have Q0 := Lib.hid (P0.out.below hb1 (by have := P0.out.lt; simp at this ⊢ <;> omega)); have Q1 := Lib.hid (P1.out.below hb1 (by have := P1.out.lt; simp at this ⊢ <;> omega)); have Q2 := Lib.hid (P2.out.below hb1 (by have := P2.out.lt; simp at this ⊢ <;> omega)); have QB := Lib.hid (PB.out.trans (hb1.mono PB.out.size)); have q1 := Q1.out.cell; have q2 := Q2.out.cell; have f2 := Q2.out.free; clear hb1)) | (go_at_call 83; ((with_reducible refine ((cp _).out).mono ?_); rintro e w2 ⟨rfl, rfl⟩)))
    have hT : (w1.setCell ⟨w.heap.size + 1 + 1, 0, none⟩ (.int .i64 (-1))).cell? ⟨w.heap.size + 1 + 1, 0, none⟩ = some (.int .i64 (-1)) := (Q2.out.put 0 (.int .i64 (-1))).cell 0
    refine bodyPost_ret (v := .int .i64 (-1)) (by simp [results, Tryz.f84, go_sem, hT]) rfl ?_
    exact ⟨by rw [HIF.out], QB.out.setCell (by simp <;> omega) _⟩

end Go.Proofs.YtiahpncglpfjeaaGreat
namespace Go.Proofs.YtiahpncglpfjeaaGreat
open Go.RowKit Go.Shelf
set_option linter.unusedVariables false
set_option linter.unusedSimpArgs false
attribute [local go_sem] Oper.semAt_some
/-- What Free knows on its way. -/
structure Freeing (B Bg Bf Bl : Nat) (w0 : World) (r : Ros.R) (st : Int × Int) (W : World) : Prop where
  sit : Sit B Bg w0 r W
  fr : Box W Bf 3 #[.int .i64 st.1]
  le : Box W Bl 3 #[.int .i64 st.2]
section
variable {B Bg Bf Bl : Nat} {w0 W W' : World} {r : Ros.R} {st : Int × Int}
theorem Freeing.turned {row : Option Nat} (h : Freeing B Bg Bf Bl w0 r st W) (hg : W.grownBy W' row) (hr : ∀ r, row = some r → w0.heap.size ≤ r ∧ ∃ o : Obj, W.heap[r]? = some o ∧ o.isCells = false) : Freeing B Bg Bf Bl w0 r st W' :=
  ⟨h.sit.turned hg hr, h.fr.turned hg fun r e => (hr r e).2, h.le.turned hg fun r e => (hr r e).2⟩
theorem Freeing.call (h : Freeing B Bg Bf Bl w0 r st W) (hb : Below W.heap.size W W') : Freeing B Bg Bf Bl w0 r st W' :=
  ⟨h.sit.call hb, h.fr.below hb h.fr.lt, h.le.below hb h.le.lt⟩
theorem Freeing.drew (h : Freeing B Bg Bf Bl w0 r st W) : Freeing B Bg Bf Bl w0 r st W.drew := ⟨h.sit.drew, h.fr.drew, h.le.drew⟩
end

/-- What Mask knows on its way. -/
structure Masking (B Bg Bm : Nat) (w0 : World) (r : Ros.R) (m : Nat) (W : World) : Prop where
  sit : Sit B Bg w0 r W
  bits : Box W Bm 3 #[.int .i64 (m : Int)]
section
variable {B Bg Bm m : Nat} {w0 W W' : World} {r : Ros.R}
theorem Masking.turned {row : Option Nat} (h : Masking B Bg Bm w0 r m W) (hg : W.grownBy W' row) (hr : ∀ r, row = some r → w0.heap.size ≤ r ∧ ∃ o : Obj, W.heap[r]? = some o ∧ o.isCells = false) : Masking B Bg Bm w0 r m W' :=
  ⟨h.sit.turned hg hr, h.bits.turned hg fun r e => (hr r e).2⟩
theorem Masking.drew (h : Masking B Bg Bm w0 r m W) : Masking B Bg Bm w0 r m W.drew := ⟨h.sit.drew, h.bits.drew⟩
theorem Masking.put (h : Masking B Bg Bm w0 r m W) (hl : w0.heap.size ≤ Bm) (n : Nat) : Masking B Bg Bm w0 r n (W.setCell ⟨Bm, 0, none⟩ (.int .i64 (n : Int))) :=
  ⟨h.sit.far (p := ⟨Bm, 0, none⟩) h.bits (by decide) (by decide) hl, h.bits.put 0 _⟩
end

end Go.Proofs.YtiahpncglpfjeaaGreat
namespace Go.Proofs.YtiahpncglpfjeaaGreat
open Go.RowKit Go.Shelf
set_option linter.unusedVariables false
set_option linter.unusedSimpArgs false

set_option maxRecDepth 100000 in
set_option maxHeartbeats 2000000 in
theorem roschange_any (r : Ros.R) (s : Int) (w : World) :
    Calls Tryz.prog 82 #[.agg (Ros.cells r), .int .i64 s] w fun e w' => e = .returned (.bool (decide ((Ros.Ok r ∧ r.version < 1073741824) ∧ 0 ≤ s ∧ s < 8))) ∧ Below w.heap.size w w' := by
  have cm := fun X => Lib.hid (rosmay_any r X)
  have cs := fun X => Lib.hid (rosslot_any s X)
  have P0 := Lib.hid (Box.made w 33 (Ros.cells r))
  have PB := Lib.hid (one_below w (.cells (Ros.cells r) 33))
  have c0 := Ros.cells_0 r
  by_cases hok : Ros.Ok r
  · have hmay : Ros.may r = true := decide_eq_true hok
    rw [hmay] at cm
    by_cases hv : r.version < 1073741824
    · have dv : decide (r.version < 1073741824) = true := decide_eq_true hv
      by_cases hs : 0 ≤ s ∧ s < 8
      · rw [decide_eq_true hs] at cs
        have HD : Hid (decide ((Ros.Ok r ∧ r.version < 1073741824) ∧ 0 ≤ s ∧ s < 8) = true) := Lib.hid (decide_eq_true ⟨⟨hok, hv⟩, hs⟩)
        clear hok hmay hv hs
        go_enter Tryz.func82, Tryz.ntmps82
        go_wp2_with (first | ((with_reducible refine ros_load rfl rfl ?_); apply LoadRow.mk rfl; (focus (with_reducible exact P0.out)); (focus (exact ros_info))) | (go_at_call 54; ((with_reducible refine ((cm _).out).mono ?_); rintro e w1 ⟨rfl, hb1⟩; have Q0 := Lib.hid (P0.out.below hb1 P0.out.lt); have QB := Lib.hid (PB.out.trans (hb1.mono PB.out.size)); have q0 := Q0.out.cell; clear hb1)) | (go_at_call 48; ((with_reducible refine ((cs _).out).mono ?_); rintro e w2 ⟨rfl, rfl⟩)))
        go_ret
        exact ⟨by rw [HD.out]; rfl, QB.out⟩
      · rw [decide_eq_false hs] at cs
        have HD : Hid (decide ((Ros.Ok r ∧ r.version < 1073741824) ∧ 0 ≤ s ∧ s < 8) = false) := Lib.hid (decide_eq_false fun h => hs h.2)
        clear hok hmay hv hs
        go_enter Tryz.func82, Tryz.ntmps82
        go_wp2_with (first | ((with_reducible refine ros_load rfl rfl ?_); apply LoadRow.mk rfl; (focus (with_reducible exact P0.out)); (focus (exact ros_info))) | (go_at_call 54; ((with_reducible refine ((cm _).out).mono ?_); rintro e w1 ⟨rfl, hb1⟩; have Q0 := Lib.hid (P0.out.below hb1 P0.out.lt); have QB := Lib.hid (PB.out.trans (hb1.mono PB.out.size)); have q0 := Q0.out.cell; clear hb1)) | (go_at_call 48; ((with_reducible refine ((cs _).out).mono ?_); rintro e w2 ⟨rfl, rfl⟩)))
        go_ret
        exact ⟨by rw [HD.out]; rfl, QB.out⟩
    · have dv : decide (r.version < 1073741824) = false := decide_eq_false hv
      have HD : Hid (decide ((Ros.Ok r ∧ r.version < 1073741824) ∧ 0 ≤ s ∧ s < 8) = false) := Lib.hid (decide_eq_false fun h => hv h.1.2)
      clear hok hmay hv
      go_enter Tryz.func82, Tryz.ntmps82
      go_wp2_with (first | ((with_reducible refine ros_load rfl rfl ?_); apply LoadRow.mk rfl; (focus (with_reducible exact P0.out)); (focus (exact ros_info))) | (go_at_call 54; ((with_reducible refine ((cm _).out).mono ?_); rintro e w1 ⟨rfl, hb1⟩; have Q0 := Lib.hid (P0.out.below hb1 P0.out.lt); have QB := Lib.hid (PB.out.trans (hb1.mono PB.out.size)); have q0 := Q0.out.cell; clear hb1)) | (go_at_call 48; ((with_reducible refine ((cs _).out).mono ?_); rintro e w2 ⟨rfl, rfl⟩)))
      go_ret
      exact ⟨by rw [HD.out]; rfl, QB.out⟩
  · have hmay : Ros.may r = false := decide_eq_false hok
    rw [hmay] at cm
    have HD : Hid (decide ((Ros.Ok r ∧ r.version < 1073741824) ∧ 0 ≤ s ∧ s < 8) = false) := Lib.hid (decide_eq_false fun h => hok h.1.1)
    clear hok hmay
    go_enter Tryz.func82, Tryz.ntmps82
    go_wp2_with (first | ((with_reducible refine ros_load rfl rfl ?_); apply LoadRow.mk rfl; (focus (with_reducible exact P0.out)); (focus (exact ros_info))) | (go_at_call 54; ((with_reducible refine ((cm _).out).mono ?_); rintro e w1 ⟨rfl, hb1⟩; have Q0 := Lib.hid (P0.out.below hb1 P0.out.lt); have QB := Lib.hid (PB.out.trans (hb1.mono PB.out.size)); have q0 := Q0.out.cell; clear hb1)) | (go_at_call 48; ((with_reducible refine ((cs _).out).mono ?_); rintro e w2 ⟨rfl, rfl⟩)))
    go_ret
    exact ⟨by rw [HD.out]; rfl, QB.out⟩

/-- A roster in its block is stored to. -/
theorem Box.rosv {w : World} {B : Nat} {r : Ros.R} (h : Box w B 33 (Ros.cells r)) (v : Int) : Box (w.setCell ⟨B, 0, none⟩ (.int .i64 v)) B 33 (Ros.cells { r with version := v }) := Ros.cells_setv r v ▸ h.put 0 _
theorem Box.rosp {w : World} {B k : Nat} {r : Ros.R} (h : Box w B 33 (Ros.cells r)) (hk : k < 8) (v : Int) : Box (w.setCell ⟨B, 1 + k * 2, none⟩ (.int .i64 v)) B 33 (Ros.cells { r with peer := Ros.upd r.peer k v }) := Ros.cells_setp r k hk v ▸ h.put _ _
theorem Box.rosg {w : World} {B k : Nat} {r : Ros.R} (h : Box w B 33 (Ros.cells r)) (hk : k < 8) (v : Int) : Box (w.setCell ⟨B, 1 + k * 2 + 1, none⟩ (.int .i64 v)) B 33 (Ros.cells { r with gen := Ros.upd r.gen k v }) := Ros.cells_setg r k hk v ▸ h.put _ _

set_option maxRecDepth 100000 in
set_option maxHeartbeats 2000000 in
theorem rosgive_no (r : Ros.R) (s : Int) (w : World) (hno : ¬ Ros.MayGive r s) :
    Calls Tryz.prog 49 #[.agg (Ros.cells r), .int .i64 s] w fun e w' => e = .returned (.tuple #[.agg (Ros.cells r), .int .i64 1]) ∧ Below w.heap.size w w' := by
  have cc := fun X => Lib.hid (roschange_any r s X)
  have P0 := Lib.hid ((Box.made w 33 (Ros.cells r)).alloc (.cells (Ros.cells rosZero) 33))
  have P1 := Lib.hid (Box.made_at (n := w.heap.size + 1) (w.alloc (.cells (Ros.cells r) 33)) 33 (Ros.cells rosZero) (by simp))
  have PB := Lib.hid (two_below' w (.cells (Ros.cells r) 33) (.cells (Ros.cells rosZero) 33))
  have c0 := Ros.cells_0 r
  by_cases hch : (Ros.Ok r ∧ r.version < 1073741824) ∧ 0 ≤ s ∧ s < 8
  · rw [decide_eq_true hch] at cc
    have hp : r.peer s.toNat = -1 := Decidable.byContradiction fun h => hno ⟨hch, h⟩
    obtain ⟨k, rfl⟩ : ∃ k : Nat, s = k := ⟨s.toNat, by omega⟩
    have hk : k < 8 := by omega
    have hk8 : (k : Int) < 8 := by omega
    have cpk := Ros.cells_peer r k hk
    rw [show r.peer k = -1 from hp] at cpk
    clear hch hp hno
    go_enter Tryz.func49, Tryz.ntmps49
    go_wp2_with (first | ((with_reducible refine ros_alloc rfl rfl ?_)) | ((with_reducible refine ros_load rfl rfl ?_); apply LoadRow.mk rfl; (focus (with_reducible exact P0.out)); (focus (exact ros_info))) | (go_at_call 82; ((with_reducible refine ((cc _).out).mono ?_); rintro e w1 ⟨rfl, hb⟩; have Q0 := Lib.hid (P0.out.below hb P0.out.lt); have Q1 := Lib.hid (P1.out.below hb P1.out.lt); have QB := Lib.hid (PB.out.trans (hb.mono PB.out.size)); have q0 := Q0.out.cell; have qf := Q0.out.free; clear hb)) | ((with_reducible refine ros_load rfl rfl ?_); apply LoadRow.mk rfl; (focus (with_reducible exact Q0.out)); (focus (exact ros_info))) | ((with_reducible refine ros_store rfl rfl ?_); apply StoreRow.mk rfl rfl; (focus (with_reducible exact Q1.out)); (focus (exact ros_info)); (focus rfl); (focus (exact ros_one _))))
    have hE := Q1.out.row (Ros.cells r)
    refine bodyPost_ret (v := .tuple #[.agg (Ros.cells r), .int .i64 1]) ?_ rfl ?_
    · exact results_cell_tmp (p := 4) (q := 5) rfl _ _ _ _ (Ros.cells r) _ rfl hE Tryz.underlying33 rfl ros_info
    · exact ⟨rfl, Below.setRow' QB.out (by omega) _⟩
  · rw [decide_eq_false hch] at cc
    clear hch hno
    go_enter Tryz.func49, Tryz.ntmps49
    go_wp2_with (first | ((with_reducible refine ros_alloc rfl rfl ?_)) | ((with_reducible refine ros_load rfl rfl ?_); apply LoadRow.mk rfl; (focus (with_reducible exact P0.out)); (focus (exact ros_info))) | (go_at_call 82; ((with_reducible refine ((cc _).out).mono ?_); rintro e w1 ⟨rfl, hb⟩; have Q0 := Lib.hid (P0.out.below hb P0.out.lt); have Q1 := Lib.hid (P1.out.below hb P1.out.lt); have QB := Lib.hid (PB.out.trans (hb.mono PB.out.size)); have q0 := Q0.out.cell; have qf := Q0.out.free; clear hb)) | ((with_reducible refine ros_load rfl rfl ?_); apply LoadRow.mk rfl; (focus (with_reducible exact Q0.out)); (focus (exact ros_info))) | ((with_reducible refine ros_store rfl rfl ?_); apply StoreRow.mk rfl rfl; (focus (with_reducible exact Q1.out)); (focus (exact ros_info)); (focus rfl); (focus (exact ros_one _))))
    have hE := Q1.out.row (Ros.cells r)
    refine bodyPost_ret (v := .tuple #[.agg (Ros.cells r), .int .i64 1]) ?_ rfl ?_
    · exact results_cell_tmp (p := 4) (q := 5) rfl _ _ _ _ (Ros.cells r) _ rfl hE Tryz.underlying33 rfl ros_info
    · exact ⟨rfl, Below.setRow' QB.out (by omega) _⟩

set_option maxRecDepth 100000 in
set_option maxHeartbeats 2000000 in
theorem rosgive_yes (r : Ros.R) (k : Nat) (w : World) (hyes : Ros.MayGive r k) :
    Calls Tryz.prog 49 #[.agg (Ros.cells r), .int .i64 k] w fun e w' => e = .returned (.tuple #[.agg (Ros.cells (Ros.give r k)), .int .i64 0]) ∧ Below w.heap.size w w' := by
  have cc := fun X => Lib.hid (roschange_any r k X)
  have P0 := Lib.hid ((Box.made w 33 (Ros.cells r)).alloc (.cells (Ros.cells rosZero) 33))
  have P1 := Lib.hid (Box.made_at (n := w.heap.size + 1) (w.alloc (.cells (Ros.cells r) 33)) 33 (Ros.cells rosZero) (by simp))
  have PB := Lib.hid (two_below' w (.cells (Ros.cells r) 33) (.cells (Ros.cells rosZero) 33))
  have c0 := Ros.cells_0 r
  obtain ⟨hch, hp⟩ := hyes
  rw [decide_eq_true hch] at cc
  have hk : k < 8 := by omega
  have hk8 : (k : Int) < 8 := by omega
  have cpk := Ros.cells_peer r k hk
  obtain ⟨pk, hpk⟩ : ∃ pk, r.peer k = pk := ⟨_, rfl⟩
  have hp' : r.peer k ≠ -1 := hp
  rw [hpk] at cpk hp'
  have hb : (pk == -1) = false := by simpa using hp'
  have hwrap : IntKind.i64.wrap (r.version + 1) = r.version + 1 := by rw [IntKind.wrap_i64]; have := hch.1.1.1; omega
  clear hch hp hp' hpk
  go_enter Tryz.func49, Tryz.ntmps49
  go_upto_region 5 with (first | ((with_reducible refine ros_alloc rfl rfl ?_)) | ((with_reducible refine ros_load rfl rfl ?_); apply LoadRow.mk rfl; (focus (with_reducible exact P0.out)); (focus (exact ros_info))) | (go_at_call 82; ((with_reducible refine ((cc _).out).mono ?_); rintro e w1 ⟨rfl, hb⟩; have Q0 := Lib.hid (P0.out.below hb P0.out.lt); have Q1 := Lib.hid (P1.out.below hb P1.out.lt); have QB := Lib.hid (PB.out.trans (hb.mono PB.out.size)); have q0 := Q0.out.cell; have qf := Q0.out.free; clear hb)))
  obtain ⟨U, hU⟩ : ∃ U, U = (w1.setCell ⟨w.heap.size, 1 + k * 2, none⟩ (.int .i64 (-1))).setCell ⟨w.heap.size, 0, none⟩ (.int .i64 (r.version + 1)) := ⟨_, rfl⟩
  have U0 : Box U w.heap.size 33 (Ros.cells (Ros.give r k)) := by rw [hU]; exact (Q0.out.rosp hk (-1)).rosv _
  have U1 : Box U (w.heap.size + 1) 33 (Ros.cells rosZero) := by rw [hU]; exact (Q1.out.far (by show _ ≠ _; simp) _).far (by show _ ≠ _; simp) _
  have UB : Below w.heap.size w U := by rw [hU]; exact (QB.out.setCell (Nat.le_refl _) _).setCell (Nat.le_refl _) _
  rw [← hU]
  have V0 := Lib.hid U0
  have V1 := Lib.hid U1
  have VB := Lib.hid UB
  clear hU U0 U1 UB Q0 Q1 QB q0 qf
  go_wp2_with (first | ((with_reducible refine ros_load rfl rfl ?_); apply LoadRow.mk rfl; (focus (with_reducible exact V0.out)); (focus (exact ros_info))) | ((with_reducible refine ros_store rfl rfl ?_); apply StoreRow.mk rfl rfl; (focus (with_reducible exact V1.out)); (focus (exact ros_info)); (focus rfl); (focus (exact ros_one _))))
  have hE := V1.out.row (Ros.cells (Ros.give r k))
  refine bodyPost_ret (v := .tuple #[.agg (Ros.cells (Ros.give r k)), .int .i64 0]) ?_ rfl ?_
  · exact results_cell_tmp (p := 4) (q := 5) rfl _ _ _ _ (Ros.cells (Ros.give r k)) _ rfl hE Tryz.underlying33 rfl ros_info
  · exact ⟨rfl, Below.setRow' VB.out (by omega) _⟩

set_option maxRecDepth 100000 in
set_option maxHeartbeats 2000000 in
theorem rostake_no (r : Ros.R) (s p : Int) (w : World) (hno : ¬ Ros.MayTake r s p) :
    Calls Tryz.prog 47 #[.agg (Ros.cells r), .int .i64 s, .int .i64 p] w fun e w' => e = .returned (.tuple #[.agg (Ros.cells r), .int .i64 1]) ∧ Below w.heap.size w w' := by
  have cc := fun X => Lib.hid (roschange_any r s X)
  have cp := fun X => Lib.hid (rospeer_any p X)
  have co := fun X => Lib.hid (rosof_any r p X)
  have P0 := Lib.hid ((Box.made w 33 (Ros.cells r)).alloc (.cells (Ros.cells rosZero) 33))
  have P1 := Lib.hid (Box.made_at (n := w.heap.size + 1) (w.alloc (.cells (Ros.cells r) 33)) 33 (Ros.cells rosZero) (by simp))
  have PB := Lib.hid (two_below' w (.cells (Ros.cells r) 33) (.cells (Ros.cells rosZero) 33))
  have c0 := Ros.cells_0 r
  by_cases hch : (Ros.Ok r ∧ r.version < 1073741824) ∧ 0 ≤ s ∧ s < 8
  · rw [decide_eq_true hch] at cc
    by_cases hp : 0 ≤ p ∧ p < 12
    · rw [decide_eq_true hp] at cp
      by_cases ho : Ros.of r p = -1
      · rw [ho] at co
        obtain ⟨k, rfl⟩ : ∃ k : Nat, s = k := ⟨s.toNat, by omega⟩
        have hk : k < 8 := by omega
        have hk8 : (k : Int) < 8 := by omega
        have cpk := Ros.cells_peer r k hk
        have cgk := Ros.cells_gen r k hk
        by_cases hpk : r.peer k = -1
        · have hgk : r.gen k = 60000 := Decidable.byContradiction fun h => hno ⟨⟨hch, hp, ho⟩, hpk, h⟩
          rw [hpk] at cpk
          rw [hgk] at cgk
          clear hno hch hp ho hpk hgk
          go_enter Tryz.func47, Tryz.ntmps47
          go_wp2_with (first | ((with_reducible refine ros_alloc rfl rfl ?_)) | ((with_reducible refine ros_load rfl rfl ?_); apply LoadRow.mk rfl; (focus (with_reducible exact P0.out)); (focus (exact ros_info))) | (go_at_call 82; ((with_reducible refine ((cc _).out).mono ?_); rintro e w1 ⟨rfl, hb⟩; have Q0 := Lib.hid (P0.out.below hb P0.out.lt); have Q1 := Lib.hid (P1.out.below hb P1.out.lt); have QB := Lib.hid (PB.out.trans (hb.mono PB.out.size)); have q0 := Q0.out.cell; have qf := Q0.out.free; clear hb)) | (go_at_call 83; ((with_reducible refine ((cp _).out).mono ?_); rintro e w9 ⟨rfl, rfl⟩)) | (go_at_call 84; ((with_reducible refine ((co _).out).mono ?_); rintro e w2 ⟨rfl, hb⟩; have S0 := Lib.hid (Q0.out.below hb Q0.out.lt); have S1 := Lib.hid (Q1.out.below hb Q1.out.lt); have SB := Lib.hid (QB.out.trans (hb.mono QB.out.size)); have s0 := S0.out.cell; have sf := S0.out.free; clear hb)) | ((with_reducible refine ros_load_g ?_ rfl ?_); (focus first | rfl | kernel_rfl | simp [Region.wanted, yielded]); apply LoadRow.mk rfl; (focus (with_reducible exact Q0.out)); (focus (exact ros_info))) | ((with_reducible refine ros_load rfl rfl ?_); apply LoadRow.mk rfl; (focus (with_reducible exact S0.out)); (focus (exact ros_info))) | ((with_reducible refine ros_store rfl rfl ?_); apply StoreRow.mk rfl rfl; (focus (with_reducible exact S1.out)); (focus (exact ros_info)); (focus rfl); (focus (exact ros_one _))))
          have hE := S1.out.row (Ros.cells r)
          refine bodyPost_ret (v := .tuple #[.agg (Ros.cells r), .int .i64 1]) ?_ rfl ?_
          · exact results_cell_tmp (p := 6) (q := 7) rfl _ _ _ _ (Ros.cells r) _ rfl hE Tryz.underlying33 rfl ros_info
          · exact ⟨rfl, Below.setRow' SB.out (by omega) _⟩
        · obtain ⟨pk, hpe⟩ : ∃ pk, r.peer k = pk := ⟨_, rfl⟩
          rw [hpe] at cpk hpk
          have hb : (pk == -1) = false := by simpa using hpk
          have hb' : (pk != -1) = true := by simpa using hpk
          clear hno hch hp ho hpk hpe
          go_enter Tryz.func47, Tryz.ntmps47
          go_wp2_with (first | ((with_reducible refine ros_alloc rfl rfl ?_)) | ((with_reducible refine ros_load rfl rfl ?_); apply LoadRow.mk rfl; (focus (with_reducible exact P0.out)); (focus (exact ros_info))) | (go_at_call 82; ((with_reducible refine ((cc _).out).mono ?_); rintro e w1 ⟨rfl, hb⟩; have Q0 := Lib.hid (P0.out.below hb P0.out.lt); have Q1 := Lib.hid (P1.out.below hb P1.out.lt); have QB := Lib.hid (PB.out.trans (hb.mono PB.out.size)); have q0 := Q0.out.cell; have qf := Q0.out.free; clear hb)) | (go_at_call 83; ((with_reducible refine ((cp _).out).mono ?_); rintro e w9 ⟨rfl, rfl⟩)) | (go_at_call 84; ((with_reducible refine ((co _).out).mono ?_); rintro e w2 ⟨rfl, hb⟩; have S0 := Lib.hid (Q0.out.below hb Q0.out.lt); have S1 := Lib.hid (Q1.out.below hb Q1.out.lt); have SB := Lib.hid (QB.out.trans (hb.mono QB.out.size)); have s0 := S0.out.cell; have sf := S0.out.free; clear hb)) | ((with_reducible refine ros_load_g ?_ rfl ?_); (focus first | rfl | kernel_rfl | simp [Region.wanted, yielded]); apply LoadRow.mk rfl; (focus (with_reducible exact Q0.out)); (focus (exact ros_info))) | ((with_reducible refine ros_load rfl rfl ?_); apply LoadRow.mk rfl; (focus (with_reducible exact S0.out)); (focus (exact ros_info))) | ((with_reducible refine ros_store rfl rfl ?_); apply StoreRow.mk rfl rfl; (focus (with_reducible exact S1.out)); (focus (exact ros_info)); (focus rfl); (focus (exact ros_one _))))
          have hE := S1.out.row (Ros.cells r)
          refine bodyPost_ret (v := .tuple #[.agg (Ros.cells r), .int .i64 1]) ?_ rfl ?_
          · exact results_cell_tmp (p := 6) (q := 7) rfl _ _ _ _ (Ros.cells r) _ rfl hE Tryz.underlying33 rfl ros_info
          · exact ⟨rfl, Below.setRow' SB.out (by omega) _⟩
      · have hb' : (Ros.of r p != -1) = true := by simpa using ho
        generalize Ros.of r p = o at co hb'
        clear hno hch hp ho
        go_enter Tryz.func47, Tryz.ntmps47
        go_wp2_with (first | ((with_reducible refine ros_alloc rfl rfl ?_)) | ((with_reducible refine ros_load rfl rfl ?_); apply LoadRow.mk rfl; (focus (with_reducible exact P0.out)); (focus (exact ros_info))) | (go_at_call 82; ((with_reducible refine ((cc _).out).mono ?_); rintro e w1 ⟨rfl, hb⟩; have Q0 := Lib.hid (P0.out.below hb P0.out.lt); have Q1 := Lib.hid (P1.out.below hb P1.out.lt); have QB := Lib.hid (PB.out.trans (hb.mono PB.out.size)); have q0 := Q0.out.cell; have qf := Q0.out.free; clear hb)) | (go_at_call 83; ((with_reducible refine ((cp _).out).mono ?_); rintro e w9 ⟨rfl, rfl⟩)) | (go_at_call 84; ((with_reducible refine ((co _).out).mono ?_); rintro e w2 ⟨rfl, hb⟩; have S0 := Lib.hid (Q0.out.below hb Q0.out.lt); have S1 := Lib.hid (Q1.out.below hb Q1.out.lt); have SB := Lib.hid (QB.out.trans (hb.mono QB.out.size)); have s0 := S0.out.cell; have sf := S0.out.free; clear hb)) | ((with_reducible refine ros_load_g ?_ rfl ?_); (focus first | rfl | kernel_rfl | simp [Region.wanted, yielded]); apply LoadRow.mk rfl; (focus (with_reducible exact Q0.out)); (focus (exact ros_info))) | ((with_reducible refine ros_load rfl rfl ?_); apply LoadRow.mk rfl; (focus (with_reducible exact S0.out)); (focus (exact ros_info))) | ((with_reducible refine ros_store rfl rfl ?_); apply StoreRow.mk rfl rfl; (focus (with_reducible exact S1.out)); (focus (exact ros_info)); (focus rfl); (focus (exact ros_one _))))
        have hE := S1.out.row (Ros.cells r)
        refine bodyPost_ret (v := .tuple #[.agg (Ros.cells r), .int .i64 1]) ?_ rfl ?_
        · exact results_cell_tmp (p := 6) (q := 7) rfl _ _ _ _ (Ros.cells r) _ rfl hE Tryz.underlying33 rfl ros_info
        · exact ⟨rfl, Below.setRow' SB.out (by omega) _⟩
    · rw [decide_eq_false hp] at cp
      clear hno hch hp
      go_enter Tryz.func47, Tryz.ntmps47
      go_wp2_with (first | ((with_reducible refine ros_alloc rfl rfl ?_)) | ((with_reducible refine ros_load rfl rfl ?_); apply LoadRow.mk rfl; (focus (with_reducible exact P0.out)); (focus (exact ros_info))) | (go_at_call 82; ((with_reducible refine ((cc _).out).mono ?_); rintro e w1 ⟨rfl, hb⟩; have Q0 := Lib.hid (P0.out.below hb P0.out.lt); have Q1 := Lib.hid (P1.out.below hb P1.out.lt); have QB := Lib.hid (PB.out.trans (hb.mono PB.out.size)); have q0 := Q0.out.cell; have qf := Q0.out.free; clear hb)) | (go_at_call 83; ((with_reducible refine ((cp _).out).mono ?_); rintro e w9 ⟨rfl, rfl⟩)) | ((with_reducible refine ros_load rfl rfl ?_); apply LoadRow.mk rfl; (focus (with_reducible exact Q0.out)); (focus (exact ros_info))) | ((with_reducible refine ros_store rfl rfl ?_); apply StoreRow.mk rfl rfl; (focus (with_reducible exact Q1.out)); (focus (exact ros_info)); (focus rfl); (focus (exact ros_one _))))
      have hE := Q1.out.row (Ros.cells r)
      refine bodyPost_ret (v := .tuple #[.agg (Ros.cells r), .int .i64 1]) ?_ rfl ?_
      · exact results_cell_tmp (p := 6) (q := 7) rfl _ _ _ _ (Ros.cells r) _ rfl hE Tryz.underlying33 rfl ros_info
      · exact ⟨rfl, Below.setRow' QB.out (by omega) _⟩
  · rw [decide_eq_false hch] at cc
    clear hch hno
    go_enter Tryz.func47, Tryz.ntmps47
    go_wp2_with (first | ((with_reducible refine ros_alloc rfl rfl ?_)) | ((with_reducible refine ros_load rfl rfl ?_); apply LoadRow.mk rfl; (focus (with_reducible exact P0.out)); (focus (exact ros_info))) | (go_at_call 82; ((with_reducible refine ((cc _).out).mono ?_); rintro e w1 ⟨rfl, hb⟩; have Q0 := Lib.hid (P0.out.below hb P0.out.lt); have Q1 := Lib.hid (P1.out.below hb P1.out.lt); have QB := Lib.hid (PB.out.trans (hb.mono PB.out.size)); have q0 := Q0.out.cell; have qf := Q0.out.free; clear hb)) | ((with_reducible refine ros_load rfl rfl ?_); apply LoadRow.mk rfl; (focus (with_reducible exact Q0.out)); (focus (exact ros_info))) | ((with_reducible refine ros_store rfl rfl ?_); apply StoreRow.mk rfl rfl; (focus (with_reducible exact Q1.out)); (focus (exact ros_info)); (focus rfl); (focus (exact ros_one _))))
    have hE := Q1.out.row (Ros.cells r)
    refine bodyPost_ret (v := .tuple #[.agg (Ros.cells r), .int .i64 1]) ?_ rfl ?_
    · exact results_cell_tmp (p := 6) (q := 7) rfl _ _ _ _ (Ros.cells r) _ rfl hE Tryz.underlying33 rfl ros_info
    · exact ⟨rfl, Below.setRow' QB.out (by omega) _⟩

set_option maxRecDepth 100000 in
set_option maxHeartbeats 2000000 in
theorem rostake_yes (r : Ros.R) (k : Nat) (p : Int) (w : World) (hyes : Ros.MayTake r k p) :
    Calls Tryz.prog 47 #[.agg (Ros.cells r), .int .i64 k, .int .i64 p] w fun e w' => e = .returned (.tuple #[.agg (Ros.cells (Ros.take r k p)), .int .i64 0]) ∧ Below w.heap.size w w' := by
  have cc := fun X => Lib.hid (roschange_any r k X)
  have cp := fun X => Lib.hid (rospeer_any p X)
  have co := fun X => Lib.hid (rosof_any r p X)
  have P0 := Lib.hid ((Box.made w 33 (Ros.cells r)).alloc (.cells (Ros.cells rosZero) 33))
  have P1 := Lib.hid (Box.made_at (n := w.heap.size + 1) (w.alloc (.cells (Ros.cells r) 33)) 33 (Ros.cells rosZero) (by simp))
  have PB := Lib.hid (two_below' w (.cells (Ros.cells r) 33) (.cells (Ros.cells rosZero) 33))
  have c0 := Ros.cells_0 r
  obtain ⟨⟨hch, hp, ho⟩, hpk, hgk⟩ := hyes
  rw [decide_eq_true hch] at cc
  rw [decide_eq_true hp] at cp
  rw [ho] at co
  have hk : k < 8 := by omega
  have hk8 : (k : Int) < 8 := by omega
  have cpk := Ros.cells_peer r k hk
  have cgk := Ros.cells_gen r k hk
  rw [show r.peer k = -1 from hpk] at cpk
  have hgk' : r.gen k ≠ 60000 := hgk
  have hgb := (Ros.Ok.seat hch.1.1 k hk).1
  obtain ⟨gk, hge⟩ : ∃ gk, r.gen k = gk := ⟨_, rfl⟩
  have HGE := Lib.hid hge
  rw [hge] at cgk hgk' hgb
  have hb : (gk == 60000) = false := by simpa using hgk'
  have hwg : IntKind.i64.wrap (gk + 1) = gk + 1 := by rw [IntKind.wrap_i64]; omega
  have hwrap : IntKind.i64.wrap (r.version + 1) = r.version + 1 := by rw [IntKind.wrap_i64]; have := hch.1.1.1; omega
  clear hch hp ho hpk hgk hgk' hge hgb
  go_enter Tryz.func47, Tryz.ntmps47
  go_upto_region 9 with (first | ((with_reducible refine ros_alloc rfl rfl ?_)) | ((with_reducible refine ros_load rfl rfl ?_); apply LoadRow.mk rfl; (focus (with_reducible exact P0.out)); (focus (exact ros_info))) | (go_at_call 82; ((with_reducible refine ((cc _).out).mono ?_); rintro e w1 ⟨rfl, hb⟩; have Q0 := Lib.hid (P0.out.below hb P0.out.lt); have Q1 := Lib.hid (P1.out.below hb P1.out.lt); have QB := Lib.hid (PB.out.trans (hb.mono PB.out.size)); have q0 := Q0.out.cell; have qf := Q0.out.free; clear hb)) | (go_at_call 83; ((with_reducible refine ((cp _).out).mono ?_); rintro e w9 ⟨rfl, rfl⟩)) | (go_at_call 84; ((with_reducible refine ((co _).out).mono ?_); rintro e w2 ⟨rfl, hb⟩; have S0 := Lib.hid (Q0.out.below hb Q0.out.lt); have S1 := Lib.hid (Q1.out.below hb Q1.out.lt); have SB := Lib.hid (QB.out.trans (hb.mono QB.out.size)); have s0 := S0.out.cell; have sf := S0.out.free; clear hb)) | ((with_reducible refine ros_load_g ?_ rfl ?_); (focus first | rfl | kernel_rfl | simp [Region.wanted, yielded]); apply LoadRow.mk rfl; (focus (with_reducible exact Q0.out)); (focus (exact ros_info))))
  obtain ⟨U, hU⟩ : ∃ U, U = ((w2.setCell ⟨w.heap.size, 1 + k * 2, none⟩ (.int .i64 p)).setCell ⟨w.heap.size, 1 + k * 2 + 1, none⟩ (.int .i64 (gk + 1))).setCell ⟨w.heap.size, 0, none⟩ (.int .i64 (r.version + 1)) := ⟨_, rfl⟩
  have U0 : Box U w.heap.size 33 (Ros.cells (Ros.take r k p)) := by rw [hU]; unfold Ros.take; rw [HGE.out]; exact ((S0.out.rosp hk p).rosg hk _).rosv _
  have U1 : Box U (w.heap.size + 1) 33 (Ros.cells rosZero) := by rw [hU]; exact ((S1.out.far (by show _ ≠ _; simp) _).far (by show _ ≠ _; simp) _).far (by show _ ≠ _; simp) _
  have UB : Below w.heap.size w U := by rw [hU]; exact ((SB.out.setCell (Nat.le_refl _) _).setCell (Nat.le_refl _) _).setCell (Nat.le_refl _) _
  rw [← hU]
  have V0 := Lib.hid U0
  have V1 := Lib.hid U1
  have VB := Lib.hid UB
  clear hU U0 U1 UB S0 S1 SB s0 sf Q0 Q1 QB q0 qf
  go_wp2_with (first | ((with_reducible refine ros_load rfl rfl ?_); apply LoadRow.mk rfl; (focus (with_reducible exact V0.out)); (focus (exact ros_info))) | ((with_reducible refine ros_store rfl rfl ?_); apply StoreRow.mk rfl rfl; (focus (with_reducible exact V1.out)); (focus (exact ros_info)); (focus rfl); (focus (exact ros_one _))))
  have hE := V1.out.row (Ros.cells (Ros.take r k p))
  refine bodyPost_ret (v := .tuple #[.agg (Ros.cells (Ros.take r k p)), .int .i64 0]) ?_ rfl ?_
  · exact results_cell_tmp (p := 6) (q := 7) rfl _ _ _ _ (Ros.cells (Ros.take r k p)) _ rfl hE Tryz.underlying33 rfl ros_info
  · exact ⟨rfl, Below.setRow' VB.out (by omega) _⟩
end Go.Proofs.YtiahpncglpfjeaaGreat
namespace Go.Proofs.YtiahpncglpfjeaaGreat
open Go.RowKit Go.Shelf
set_option linter.unusedVariables false
set_option linter.unusedSimpArgs false


/-- What Slot says. -/
def SlotIs (r : Ros.R) (p v : Int) : Prop := (v = -1 ∧ (Ros.Ok r → 0 ≤ p → ∀ k, k < 8 → r.peer k ≠ p)) ∨ ∃ k : Nat, k < 8 ∧ v = k ∧ Ros.Ok r ∧ 0 ≤ p ∧ r.peer k = p
set_option maxRecDepth 100000 in
set_option maxHeartbeats 2000000 in
theorem refslot_any (r : Ros.R) (p : Int) (w : World) :
    Calls Tryz.prog 26 #[.agg (Ros.cells r), .int .i64 p] w fun e w' => (∃ v, e = .returned (.int .i64 v) ∧ SlotIs r p v) ∧ Below w.heap.size w w' := by
  have P0 := Lib.hid (Box.made w 33 (Ros.cells r))
  have K0 := Lib.hid (one_below w (.cells (Ros.cells r) 33))
  have cm := fun X => Lib.hid (refros_may r X)
  by_cases hp : p < 0
  · have hp' : ¬ 0 ≤ p := by omega
    have HP := Lib.hid hp'
    clear hp
    go_enter Tryz.func26, Tryz.ntmps26
    go_wp2
    go_loopw [5] (fun i wr => i = .int .i64 0 ∧ Below w.heap.size w wr) (fun i _ => 0)
    case atStart => exact ⟨rfl, K0.out⟩
    case round =>
      obtain ⟨rfl, hb⟩ := hrel
      clear P0 K0
      go_wp2
      go_ret
      exact ⟨⟨-1, rfl, .inl ⟨rfl, fun _ h => absurd h (by have := HP.out; omega)⟩⟩, hb⟩
  · have hp' : 0 ≤ p := by omega
    have HP := Lib.hid hp'
    clear hp
    by_cases hok : Ros.Ok r
    · have HOK := Lib.hid hok
      clear hok
      go_enter Tryz.func26, Tryz.ntmps26
      go_wp2
      go_loopw [5] (fun i wr => ∃ k : Nat, k ≤ 8 ∧ i = .int .i64 k ∧ Box wr w.heap.size 33 (Ros.cells r) ∧ Below w.heap.size w wr ∧ ∀ j, j < k → r.peer j ≠ p) (fun i _ => 8 - (intOf i).toNat)
      case atStart => exact ⟨0, by omega, rfl, P0.out, K0.out, fun j hj => absurd hj (Nat.not_lt_zero j)⟩
      case round =>
        obtain ⟨k, hk, rfl, hB, hb, hall⟩ := hrel
        clear P0 K0
        have HB := Lib.hid hB
        have HBB := Lib.hid hb
        have HALL := Lib.hid hall
        clear hB hb hall
        by_cases hlt : k < 8
        · have hk8 : (k : Int) < 8 := by omega
          have hcell : ∀ X, Below wr.heap.size wr X → X.cell? ⟨w.heap.size, 1 + k * 2, none⟩ = some (.int .i64 (r.peer k)) := fun X h => ((HB.out.below h HB.out.lt).cell _).trans (Ros.cells_peer r k hlt)
          obtain ⟨pk, hpk⟩ : ∃ pk, pk = r.peer k := ⟨_, rfl⟩
          rw [← hpk] at hcell
          by_cases he : pk = p
          · have HE := Lib.hid (show r.peer k = p from hpk ▸ he)
            clear hpk
            subst he
            go_wp2_with (first | ((with_reducible refine ros_load_g ?_ rfl ?_); (focus first | rfl | kernel_rfl | simp [Region.wanted, yielded]); apply LoadRow.mk rfl; (focus (with_reducible exact HB.out)); (focus (exact ros_info))) | (go_at_call 37; ((with_reducible refine ((cm _).out).mono ?_); rintro e w1 ⟨⟨v, rfl, hv⟩, hb⟩; obtain rfl : v = true := hv.2 HOK.out; have k1 := hcell _ hb; have K1 := Lib.hid (HBB.out.trans (hb.mono HBB.out.size)); clear hb hv)))
            go_ret
            exact ⟨⟨k, rfl, .inr ⟨k, hlt, rfl, HOK.out, HP.out, HE.out⟩⟩, K1.out⟩
          · have hne : (pk == p) = false := by simpa using he
            have HE := Lib.hid (show ∀ j, j < k + 1 → r.peer j ≠ p from fun j hj => by
              by_cases ej : j = k
              · rw [ej, ← hpk]; exact he
              · exact HALL.out j (by omega))
            clear hpk he
            go_wp2_with (first | ((with_reducible refine ros_load_g ?_ rfl ?_); (focus first | rfl | kernel_rfl | simp [Region.wanted, yielded]); apply LoadRow.mk rfl; (focus (with_reducible exact HB.out)); (focus (exact ros_info))) | (go_at_call 37; ((with_reducible refine ((cm _).out).mono ?_); rintro e w1 ⟨⟨v, rfl, hv⟩, hb⟩; obtain rfl : v = true := hv.2 HOK.out; have k1 := hcell _ hb; have B1 := Lib.hid (HB.out.below hb HB.out.lt); have K1 := Lib.hid (HBB.out.trans (hb.mono HBB.out.size)); clear hb hv)))
            go_roundw
            case rel => exact ⟨k + 1, by omega, by go_num, B1.out, K1.out, HE.out⟩
            case measure => simp [intOf]; omega
        · have hk8 : ¬ (k : Int) < 8 := by omega
          obtain rfl : k = 8 := by omega
          go_wp2
          go_ret
          exact ⟨⟨-1, rfl, .inl ⟨rfl, fun _ _ => HALL.out⟩⟩, HBB.out⟩
    · have HOK := Lib.hid hok
      clear hok
      go_enter Tryz.func26, Tryz.ntmps26
      go_wp2
      go_loopw [5] (fun i wr => i = .int .i64 0 ∧ Box wr w.heap.size 33 (Ros.cells r) ∧ Below w.heap.size w wr) (fun i _ => 0)
      case atStart => exact ⟨rfl, P0.out, K0.out⟩
      case round =>
        obtain ⟨rfl, hB, hb⟩ := hrel
        have HB := Lib.hid hB
        have HBB := Lib.hid hb
        clear P0 K0 hB hb
        go_wp2_with (first | ((with_reducible refine ros_load_g ?_ rfl ?_); (focus first | rfl | kernel_rfl | simp [Region.wanted, yielded]); apply LoadRow.mk rfl; (focus (with_reducible exact HB.out)); (focus (exact ros_info))) | (go_at_call 37; ((with_reducible refine ((cm _).out).mono ?_); rintro e w1 ⟨⟨v, rfl, hv⟩, hb⟩; obtain rfl : v = false := (by cases v <;> first | rfl | exact absurd (hv.1 rfl) HOK.out); have K1 := Lib.hid (HBB.out.trans (hb.mono HBB.out.size)); clear hb hv)))
        go_ret
        exact ⟨⟨-1, rfl, .inl ⟨rfl, fun h => absurd h HOK.out⟩⟩, K1.out⟩
theorem slot_of {r : Ros.R} {p v : Int} (hr : Ros.Ok r) (h0 : 0 ≤ p) (h1 : p < 12) (h : SlotIs r p v) : v = Ros.of r p := by
  rcases Ros.of_cases hr h0 h1 with ⟨e, hn⟩ | ⟨k, hk, e, hp⟩
  · rcases h with ⟨e', _⟩ | ⟨k, hk, _, _, _, hp⟩
    · rw [e, e']
    · exact absurd hp (hn k hk)
  · rcases h with ⟨_, hn⟩ | ⟨j, hj, e', _, _, hp'⟩
    · exact absurd hp (hn hr h0 k hk)
    · rw [e, e']
      have := hr.one hj hk (hp'.trans hp.symm) (by omega)
      rw [this]

theorem seat_info2 : (Tryz.prog.info? 30).map (·.size) = some 2 := by kernel_rfl
theorem seat_splice (r : Ros.R) (k : Nat) (hk : k < 8) (p g : Int) : splice (Ros.cells r) (1 + k * 2) [.int .i64 p, .int .i64 g] = Ros.cells ⟨r.version, Ros.upd r.peer k p, Ros.upd r.gen k g⟩ := by
  match k, hk with
  | 0, _ | 1, _ | 2, _ | 3, _ | 4, _ | 5, _ | 6, _ | 7, _ => rfl
section
variable {ops : Array Oper} {rest : List Oper} {o : Oper} {a : Act} {w : World} {Q : Exit → Act → World → Prop} {x y : Operand} {dst : Option Tmp} {p v : Value}
def StoreSeat (ops : Array Oper) (Q : Exit → Act → World → Prop) (rest : List Oper) (dst : Option Tmp) (p v : Value) (a : Act) (w : World) : Prop :=
  ∃ (B k : Nat) (r : Ros.R) (q g : Int), p = .pointer (some ⟨B, 1 + k * 2, none⟩) ∧ v = .agg #[.int .i64 q, .int .i64 g] ∧ k < 8 ∧ Box w B 33 (Ros.cells r) ∧ wpList Tryz.prog ops Q rest (a.put dst undef) (w.setRow B (Ros.cells ⟨r.version, Ros.upd r.peer k q, Ros.upd r.gen k g⟩))
theorem StoreSeat.mk {B k : Nat} {r : Ros.R} {q g : Int} (hp : p = .pointer (some ⟨B, 1 + k * 2, none⟩)) (hv : v = .agg #[.int .i64 q, .int .i64 g]) (hk : k < 8) (hB : Box w B 33 (Ros.cells r)) (h : wpList Tryz.prog ops Q rest (a.put dst undef) (w.setRow B (Ros.cells ⟨r.version, Ros.upd r.peer k q, Ros.upd r.gen k g⟩))) : StoreSeat ops Q rest dst p v a w := ⟨B, k, r, q, g, hp, hv, hk, hB, h⟩
theorem ros_store_seat (hgd : o.guard = none) (ho : o.op = .store 30 x y) (h : StoreSeat ops Q rest o.dst (a.eval x) (a.eval y) a w) : wpList Tryz.prog ops Q (o :: rest) a w := by
  obtain ⟨B, k, r, q, g, hx, hy, hk, hB, h⟩ := h
  refine wpList_store_mid hgd 30 x y ho B (1 + k * 2) #[.int .i64 q, .int .i64 g] hx hy (hB.there _ _ (by rw [Ros.cells_size]; show 1 + k * 2 + 2 ≤ 17; omega)) seat_info2 (by simp [Value.oneCell']) ?_
  rw [setCells_row B 33 _ (1 + k * 2) (Ros.cells r) w hB.is (by rw [Ros.cells_size]; show 1 + k * 2 + 2 ≤ 17; omega), seat_splice r k hk q g]
  exact h
end

set_option maxRecDepth 100000 in
set_option maxHeartbeats 2000000 in
theorem refgive_no (r : Ros.R) (s : Int) (w : World) (hno : ¬ Ros.MayGive r s) :
    Calls Tryz.prog 64 #[.agg (Ros.cells r), .int .i64 s] w fun e w' => e = .returned (.tuple #[.agg (Ros.cells r), .int .i64 1]) ∧ Below w.heap.size w w' := by
  have P0 := Lib.hid ((Box.made w 33 (Ros.cells r)).alloc (.cells (Ros.cells rosZero) 33))
  have Z0 := Lib.hid (Box.made_at (n := w.heap.size + 1) (w.alloc (.cells (Ros.cells r) 33)) 33 (Ros.cells rosZero) (by simp))
  have K0 := Lib.hid (two_below' w (.cells (Ros.cells r) 33) (.cells (Ros.cells rosZero) 33))
  have cm := fun X => Lib.hid (refros_may r X)
  have r0 := Ros.cells_0 r
  by_cases hok : Ros.Ok r
  · have HOK := Lib.hid hok
    by_cases h1 : s < 0
    · clear hok hno
      go_enter Tryz.func64, Tryz.ntmps64
      go_wp2_with (first | (with_reducible refine ros_alloc rfl rfl ?_) | ((with_reducible refine ros_load rfl rfl ?_); apply LoadRow.mk rfl; (focus first | (with_reducible exact P0.out) | (with_reducible exact P2.out) | (with_reducible exact P1.out) | (with_reducible exact P4.out)); (focus (exact ros_info))) | ((with_reducible refine ros_store rfl rfl ?_); apply StoreRow.mk rfl rfl; (focus first | (with_reducible exact Z4.out) | (with_reducible exact Z2.out) | (with_reducible exact Z1.out)); (focus (exact ros_info)); (focus rfl); (focus (exact ros_one _))) | (go_at_call 37; ((with_reducible refine ((cm _).out).mono ?_); rintro e w1 ⟨⟨v, rfl, hv⟩, hb⟩; obtain rfl : v = true := hv.2 HOK.out; have P1 := Lib.hid (P0.out.below hb P0.out.lt); have Z1 := Lib.hid (Z0.out.below hb Z0.out.lt); have K1 := Lib.hid (K0.out.trans (hb.mono K0.out.size)); have k1 := P1.out.cell; have f1 := P1.out.free; clear hb hv)))
      refine bodyPost_ret (v := .tuple #[.agg (Ros.cells r), .int .i64 1]) ?_ ?_ ?_
      · exact results_cell_tmp (p := 4) (q := 5) rfl _ _ _ _ (Ros.cells r) _ rfl (Box.row Z1.out _) Tryz.underlying33 rfl ros_info
      · rfl
      · exact ⟨rfl, Below.setRow' K1.out (by omega) _⟩
    by_cases h2 : 8 ≤ s
    · have h1' : ¬ s < 0 := h1
      clear hok hno
      go_enter Tryz.func64, Tryz.ntmps64
      go_wp2_with (first | (with_reducible refine ros_alloc rfl rfl ?_) | ((with_reducible refine ros_load rfl rfl ?_); apply LoadRow.mk rfl; (focus first | (with_reducible exact P0.out) | (with_reducible exact P2.out) | (with_reducible exact P1.out) | (with_reducible exact P4.out)); (focus (exact ros_info))) | ((with_reducible refine ros_store rfl rfl ?_); apply StoreRow.mk rfl rfl; (focus first | (with_reducible exact Z4.out) | (with_reducible exact Z2.out) | (with_reducible exact Z1.out)); (focus (exact ros_info)); (focus rfl); (focus (exact ros_one _))) | (go_at_call 37; ((with_reducible refine ((cm _).out).mono ?_); rintro e w1 ⟨⟨v, rfl, hv⟩, hb⟩; obtain rfl : v = true := hv.2 HOK.out; have P1 := Lib.hid (P0.out.below hb P0.out.lt); have Z1 := Lib.hid (Z0.out.below hb Z0.out.lt); have K1 := Lib.hid (K0.out.trans (hb.mono K0.out.size)); have k1 := P1.out.cell; have f1 := P1.out.free; clear hb hv)))
      refine bodyPost_ret (v := .tuple #[.agg (Ros.cells r), .int .i64 1]) ?_ ?_ ?_
      · exact results_cell_tmp (p := 4) (q := 5) rfl _ _ _ _ (Ros.cells r) _ rfl (Box.row Z1.out _) Tryz.underlying33 rfl ros_info
      · rfl
      · exact ⟨rfl, Below.setRow' K1.out (by omega) _⟩
    obtain ⟨k, rfl⟩ : ∃ k : Nat, s = k := ⟨s.toNat, by omega⟩
    have hk8 : k < 8 := by omega
    have hk8' : (k : Int) < 8 := by omega
    have q1 := Ros.cells_peer r k hk8
    have hseat := hok.seat k hk8
    by_cases h3 : r.peer k < 0
    · clear hok hno hseat
      obtain ⟨pk, hpk⟩ : ∃ pk, pk = r.peer k := ⟨_, rfl⟩
      rw [← hpk] at q1 h3
      clear hpk
      go_enter Tryz.func64, Tryz.ntmps64
      go_wp2_with (first | (with_reducible refine ros_alloc rfl rfl ?_) | ((with_reducible refine ros_load rfl rfl ?_); apply LoadRow.mk rfl; (focus first | (with_reducible exact P0.out) | (with_reducible exact P2.out) | (with_reducible exact P1.out) | (with_reducible exact P4.out)); (focus (exact ros_info))) | ((with_reducible refine ros_store rfl rfl ?_); apply StoreRow.mk rfl rfl; (focus first | (with_reducible exact Z4.out) | (with_reducible exact Z2.out) | (with_reducible exact Z1.out)); (focus (exact ros_info)); (focus rfl); (focus (exact ros_one _))) | (go_at_call 37; ((with_reducible refine ((cm _).out).mono ?_); rintro e w1 ⟨⟨v, rfl, hv⟩, hb⟩; obtain rfl : v = true := hv.2 HOK.out; have P1 := Lib.hid (P0.out.below hb P0.out.lt); have Z1 := Lib.hid (Z0.out.below hb Z0.out.lt); have K1 := Lib.hid (K0.out.trans (hb.mono K0.out.size)); have k1 := P1.out.cell; have f1 := P1.out.free; clear hb hv)))
      refine bodyPost_ret (v := .tuple #[.agg (Ros.cells r), .int .i64 1]) ?_ ?_ ?_
      · exact results_cell_tmp (p := 4) (q := 5) rfl _ _ _ _ (Ros.cells r) _ rfl (Box.row Z1.out _) Tryz.underlying33 rfl ros_info
      · rfl
      · exact ⟨rfl, Below.setRow' K1.out (by omega) _⟩
    by_cases h4 : 1073741824 ≤ r.version
    · obtain ⟨pk, hpk⟩ : ∃ pk, pk = r.peer k := ⟨_, rfl⟩
      obtain ⟨ve, hve⟩ : ∃ ve, ve = r.version := ⟨_, rfl⟩
      rw [← hpk] at q1 h3
      rw [← hve] at r0 h4
      clear hok hno hseat hpk hve
      go_enter Tryz.func64, Tryz.ntmps64
      go_wp2_with (first | (with_reducible refine ros_alloc rfl rfl ?_) | ((with_reducible refine ros_load rfl rfl ?_); apply LoadRow.mk rfl; (focus first | (with_reducible exact P0.out) | (with_reducible exact P2.out) | (with_reducible exact P1.out) | (with_reducible exact P4.out)); (focus (exact ros_info))) | ((with_reducible refine ros_store rfl rfl ?_); apply StoreRow.mk rfl rfl; (focus first | (with_reducible exact Z4.out) | (with_reducible exact Z2.out) | (with_reducible exact Z1.out)); (focus (exact ros_info)); (focus rfl); (focus (exact ros_one _))) | (go_at_call 37; ((with_reducible refine ((cm _).out).mono ?_); rintro e w1 ⟨⟨v, rfl, hv⟩, hb⟩; obtain rfl : v = true := hv.2 HOK.out; have P1 := Lib.hid (P0.out.below hb P0.out.lt); have Z1 := Lib.hid (Z0.out.below hb Z0.out.lt); have K1 := Lib.hid (K0.out.trans (hb.mono K0.out.size)); have k1 := P1.out.cell; have f1 := P1.out.free; clear hb hv)))
      refine bodyPost_ret (v := .tuple #[.agg (Ros.cells r), .int .i64 1]) ?_ ?_ ?_
      · exact results_cell_tmp (p := 4) (q := 5) rfl _ _ _ _ (Ros.cells r) _ rfl (Box.row Z1.out _) Tryz.underlying33 rfl ros_info
      · rfl
      · exact ⟨rfl, Below.setRow' K1.out (by omega) _⟩
    exact absurd ⟨⟨⟨hok, by omega⟩, by omega, by omega⟩, by show r.peer ((k : Int)).toNat ≠ -1; rw [Int.toNat_natCast]; omega⟩ hno
  · have HOK := Lib.hid hok
    clear hok hno
    go_enter Tryz.func64, Tryz.ntmps64
    go_wp2_with (first | (with_reducible refine ros_alloc rfl rfl ?_) | ((with_reducible refine ros_load rfl rfl ?_); apply LoadRow.mk rfl; (focus first | (with_reducible exact P0.out) | (with_reducible exact P2.out) | (with_reducible exact P1.out) | (with_reducible exact P4.out)); (focus (exact ros_info))) | ((with_reducible refine ros_store rfl rfl ?_); apply StoreRow.mk rfl rfl; (focus first | (with_reducible exact Z4.out) | (with_reducible exact Z2.out) | (with_reducible exact Z1.out)); (focus (exact ros_info)); (focus rfl); (focus (exact ros_one _))) | (go_at_call 37; ((with_reducible refine ((cm _).out).mono ?_); rintro e w1 ⟨⟨v, rfl, hv⟩, hb⟩; obtain rfl : v = false := (by cases v <;> first | rfl | exact absurd (hv.1 rfl) HOK.out); have P1 := Lib.hid (P0.out.below hb P0.out.lt); have Z1 := Lib.hid (Z0.out.below hb Z0.out.lt); have K1 := Lib.hid (K0.out.trans (hb.mono K0.out.size)); have k1 := P1.out.cell; have f1 := P1.out.free; clear hb hv)))
    refine bodyPost_ret (v := .tuple #[.agg (Ros.cells r), .int .i64 1]) ?_ ?_ ?_
    · exact results_cell_tmp (p := 4) (q := 5) rfl _ _ _ _ (Ros.cells r) _ rfl (Box.row Z1.out _) Tryz.underlying33 rfl ros_info
    · rfl
    · exact ⟨rfl, Below.setRow' K1.out (by omega) _⟩

set_option maxRecDepth 100000 in
set_option maxHeartbeats 2000000 in
theorem refgive_yes (r : Ros.R) (k : Nat) (w : World) (hy : Ros.MayGive r k) :
    Calls Tryz.prog 64 #[.agg (Ros.cells r), .int .i64 (k : Int)] w fun e w' => e = .returned (.tuple #[.agg (Ros.cells (Ros.give r k)), .int .i64 0]) ∧ Below w.heap.size w w' := by
  have P0 := Lib.hid ((Box.made w 33 (Ros.cells r)).alloc (.cells (Ros.cells rosZero) 33))
  have Z0 := Lib.hid (Box.made_at (n := w.heap.size + 1) (w.alloc (.cells (Ros.cells r) 33)) 33 (Ros.cells rosZero) (by simp))
  have K0 := Lib.hid (two_below' w (.cells (Ros.cells r) 33) (.cells (Ros.cells rosZero) 33))
  have cm := fun X => Lib.hid (refros_may r X)
  have r0 := Ros.cells_0 r
  obtain ⟨⟨⟨hok, hv⟩, h0, h8⟩, hp⟩ := hy
  have HOK := Lib.hid hok
  have hk8 : k < 8 := by omega
  have hp' : ¬ r.peer k < 0 := by have := hok.seat k hk8; rcases this.2 with h | h; exact absurd h (by simpa using hp); omega
  have h0' : ¬ (k : Int) < 0 := by omega
  have hv' : ¬ 1073741824 ≤ r.version := by omega
  have hwv := IntWalk.i64_in (n := r.version + 1) (by have := hok.1; omega)
  have HK := Lib.hid hk8
  have q1 := Ros.cells_peer r k hk8
  obtain ⟨pk, hpk⟩ : ∃ pk, pk = r.peer k := ⟨_, rfl⟩
  rw [← hpk] at q1 hp'
  clear hok hp hpk hv
  go_enter Tryz.func64, Tryz.ntmps64
  go_upto_region 3 with (first | (with_reducible refine ros_alloc rfl rfl ?_) | ((with_reducible refine ros_load rfl rfl ?_); apply LoadRow.mk rfl; (focus first | (with_reducible exact P0.out) | (with_reducible exact P2.out) | (with_reducible exact P1.out) | (with_reducible exact P4.out)); (focus (exact ros_info))) | (go_at_call 37; ((with_reducible refine ((cm _).out).mono ?_); rintro e w1 ⟨⟨v, rfl, hv⟩, hb⟩; obtain rfl : v = true := hv.2 HOK.out; have P1 := Lib.hid (P0.out.below hb P0.out.lt); have Z1 := Lib.hid (Z0.out.below hb Z0.out.lt); have K1 := Lib.hid (K0.out.trans (hb.mono K0.out.size)); have k1 := P1.out.cell; have f1 := P1.out.free; clear hb hv)))
  have hg : Hid ((⟨r.version, Ros.upd r.peer k (-1), r.gen⟩ : Ros.R) = ⟨r.version, Ros.upd r.peer k (-1), r.gen⟩) := Lib.hid rfl
  have Q2 := P1.out.rosp HK.out (-1)
  have c2 := Q2.cell 0
  have d2 := Q2.free 0
  rw [Ros.cells_0] at c2
  dsimp only at c2
  have P4 := Lib.hid (show Box ((w1.setCell ⟨w.heap.size, 1 + k * 2, none⟩ (.int .i64 (-1))).setCell ⟨w.heap.size, 0, none⟩ (.int .i64 (r.version + 1))) w.heap.size 33 (Ros.cells (Ros.give r k)) from Q2.rosv (r.version + 1))
  have Z4 := Lib.hid ((Z1.out.far (p := ⟨w.heap.size, 1 + k * 2, none⟩) (show w.heap.size + 1 ≠ w.heap.size by omega) (.int .i64 (-1))).far (p := ⟨w.heap.size, 0, none⟩) (show w.heap.size + 1 ≠ w.heap.size by omega) (.int .i64 (r.version + 1)))
  have K4 := Lib.hid ((K1.out.setCell (p := ⟨w.heap.size, 1 + k * 2, none⟩) (Nat.le_refl _) (.int .i64 (-1))).setCell (p := ⟨w.heap.size, 0, none⟩) (Nat.le_refl _) (.int .i64 (r.version + 1)))
  clear Q2 hg
  go_wp2_with (first | ((with_reducible refine ros_load rfl rfl ?_); apply LoadRow.mk rfl; (focus first | (with_reducible exact P0.out) | (with_reducible exact P2.out) | (with_reducible exact P1.out) | (with_reducible exact P4.out)); (focus (exact ros_info))) | ((with_reducible refine ros_store rfl rfl ?_); apply StoreRow.mk rfl rfl; (focus first | (with_reducible exact Z4.out) | (with_reducible exact Z2.out) | (with_reducible exact Z1.out)); (focus (exact ros_info)); (focus rfl); (focus (exact ros_one _))))
  refine bodyPost_ret (v := .tuple #[.agg (Ros.cells (Ros.give r k)), .int .i64 0]) ?_ ?_ ?_
  · exact results_cell_tmp (p := 4) (q := 5) rfl _ _ _ _ (Ros.cells (Ros.give r k)) _ rfl (Box.row Z4.out _) Tryz.underlying33 rfl ros_info
  · rfl
  · exact ⟨rfl, Below.setRow' K4.out (by omega) _⟩
end Go.Proofs.YtiahpncglpfjeaaGreat
namespace Go.Proofs.YtiahpncglpfjeaaGreat
open Go.RowKit Go.Shelf
set_option linter.unusedVariables false
set_option linter.unusedSimpArgs false


set_option maxRecDepth 100000 in
set_option maxHeartbeats 4000000 in
theorem reftake_no (r : Ros.R) (s p : Int) (w : World) (hno : ¬ Ros.MayTake r s p) :
    Calls Tryz.prog 63 #[.agg (Ros.cells r), .int .i64 s, .int .i64 p] w fun e w' => e = .returned (.tuple #[.agg (Ros.cells r), .int .i64 1]) ∧ Below w.heap.size w w' := by
  have P0 := Lib.hid ((Box.made w 33 (Ros.cells r)).alloc (.cells (Ros.cells rosZero) 33))
  have Z0 := Lib.hid (Box.made_at (n := w.heap.size + 1) (w.alloc (.cells (Ros.cells r) 33)) 33 (Ros.cells rosZero) (by simp))
  have K0 := Lib.hid (two_below' w (.cells (Ros.cells r) 33) (.cells (Ros.cells rosZero) 33))
  have cm := fun X => Lib.hid (refros_may r X)
  have r0 := Ros.cells_0 r
  have cl := fun X => Lib.hid (refslot_any r p X)
  by_cases hok : Ros.Ok r
  · have HOK := Lib.hid hok
    by_cases h1 : s < 0
    · clear hok hno
      go_enter Tryz.func63, Tryz.ntmps63
      go_wp2_with (first | (with_reducible refine ros_alloc rfl rfl ?_) | ((with_reducible refine ros_load rfl rfl ?_); apply LoadRow.mk rfl; (focus first | (with_reducible exact P0.out) | (with_reducible exact P2.out) | (with_reducible exact P1.out) | (with_reducible exact P4.out)); (focus (exact ros_info))) | ((with_reducible refine ros_store rfl rfl ?_); apply StoreRow.mk rfl rfl; (focus first | (with_reducible exact Z4.out) | (with_reducible exact Z2.out) | (with_reducible exact Z1.out)); (focus (exact ros_info)); (focus rfl); (focus (exact ros_one _))) | (go_at_call 37; ((with_reducible refine ((cm _).out).mono ?_); rintro e w1 ⟨⟨v, rfl, hv⟩, hb⟩; obtain rfl : v = true := hv.2 HOK.out; have P1 := Lib.hid (P0.out.below hb P0.out.lt); have Z1 := Lib.hid (Z0.out.below hb Z0.out.lt); have K1 := Lib.hid (K0.out.trans (hb.mono K0.out.size)); have k1 := P1.out.cell; have f1 := P1.out.free; clear hb hv)))
      refine bodyPost_ret (v := .tuple #[.agg (Ros.cells r), .int .i64 1]) ?_ ?_ ?_
      · exact results_cell_tmp (p := 6) (q := 7) rfl _ _ _ _ (Ros.cells r) _ rfl (Box.row Z1.out _) Tryz.underlying33 rfl ros_info
      · rfl
      · exact ⟨rfl, Below.setRow' K1.out (by omega) _⟩
    by_cases h2 : 8 ≤ s
    · have h1' : ¬ s < 0 := h1
      clear hok hno
      go_enter Tryz.func63, Tryz.ntmps63
      go_wp2_with (first | (with_reducible refine ros_alloc rfl rfl ?_) | ((with_reducible refine ros_load rfl rfl ?_); apply LoadRow.mk rfl; (focus first | (with_reducible exact P0.out) | (with_reducible exact P2.out) | (with_reducible exact P1.out) | (with_reducible exact P4.out)); (focus (exact ros_info))) | ((with_reducible refine ros_store rfl rfl ?_); apply StoreRow.mk rfl rfl; (focus first | (with_reducible exact Z4.out) | (with_reducible exact Z2.out) | (with_reducible exact Z1.out)); (focus (exact ros_info)); (focus rfl); (focus (exact ros_one _))) | (go_at_call 37; ((with_reducible refine ((cm _).out).mono ?_); rintro e w1 ⟨⟨v, rfl, hv⟩, hb⟩; obtain rfl : v = true := hv.2 HOK.out; have P1 := Lib.hid (P0.out.below hb P0.out.lt); have Z1 := Lib.hid (Z0.out.below hb Z0.out.lt); have K1 := Lib.hid (K0.out.trans (hb.mono K0.out.size)); have k1 := P1.out.cell; have f1 := P1.out.free; clear hb hv)))
      refine bodyPost_ret (v := .tuple #[.agg (Ros.cells r), .int .i64 1]) ?_ ?_ ?_
      · exact results_cell_tmp (p := 6) (q := 7) rfl _ _ _ _ (Ros.cells r) _ rfl (Box.row Z1.out _) Tryz.underlying33 rfl ros_info
      · rfl
      · exact ⟨rfl, Below.setRow' K1.out (by omega) _⟩
    obtain ⟨k, rfl⟩ : ∃ k : Nat, s = k := ⟨s.toNat, by omega⟩
    have hk8 : k < 8 := by omega
    have hk8' : (k : Int) < 8 := by omega
    have q1 := Ros.cells_peer r k hk8
    have q2 := Ros.cells_gen r k hk8
    have hseat := hok.seat k hk8
    have hno' := Lib.hid (show (0 ≤ p ∧ p < 12) → Ros.of r p = -1 → r.peer k = -1 → r.gen k ≠ 60000 → r.version < 1073741824 → False from fun a b c d e => hno ⟨⟨⟨⟨hok, e⟩, by omega, by omega⟩, a, b⟩, by show r.peer ((k : Int)).toNat = -1; rw [Int.toNat_natCast]; exact c, by show r.gen ((k : Int)).toNat ≠ 60000; rw [Int.toNat_natCast]; exact d⟩)
    have hp1 : r.peer k < 0 → r.peer k = -1 := fun h => by rcases hseat.2 with h' | h'; exact h'; omega
    have hg1 : ¬ 60000 ≤ r.gen k → r.gen k ≠ 60000 := fun h => by omega
    clear hno hseat hok
    obtain ⟨pk, hpk⟩ : ∃ pk, pk = r.peer k := ⟨_, rfl⟩
    obtain ⟨gk, hgk⟩ : ∃ gk, gk = r.gen k := ⟨_, rfl⟩
    obtain ⟨ve, hve⟩ : ∃ ve, ve = r.version := ⟨_, rfl⟩
    rw [← hpk] at q1 hp1 hno'
    rw [← hgk] at q2 hg1 hno'
    rw [← hve] at r0 hno'
    clear hpk hgk hve
    have h1' : ¬ (k : Int) < 0 := by omega
    by_cases h3 : 0 ≤ pk
    · clear hno' hp1 hg1
      go_enter Tryz.func63, Tryz.ntmps63
      go_wp2_with (first | (with_reducible refine ros_alloc rfl rfl ?_) | ((with_reducible refine ros_load rfl rfl ?_); apply LoadRow.mk rfl; (focus first | (with_reducible exact P0.out) | (with_reducible exact P2.out) | (with_reducible exact P1.out) | (with_reducible exact P4.out)); (focus (exact ros_info))) | ((with_reducible refine ros_store rfl rfl ?_); apply StoreRow.mk rfl rfl; (focus first | (with_reducible exact Z4.out) | (with_reducible exact Z2.out) | (with_reducible exact Z1.out)); (focus (exact ros_info)); (focus rfl); (focus (exact ros_one _))) | (go_at_call 37; ((with_reducible refine ((cm _).out).mono ?_); rintro e w1 ⟨⟨v, rfl, hv⟩, hb⟩; obtain rfl : v = true := hv.2 HOK.out; have P1 := Lib.hid (P0.out.below hb P0.out.lt); have Z1 := Lib.hid (Z0.out.below hb Z0.out.lt); have K1 := Lib.hid (K0.out.trans (hb.mono K0.out.size)); have k1 := P1.out.cell; have f1 := P1.out.free; clear hb hv)))
      refine bodyPost_ret (v := .tuple #[.agg (Ros.cells r), .int .i64 1]) ?_ ?_ ?_
      · exact results_cell_tmp (p := 6) (q := 7) rfl _ _ _ _ (Ros.cells r) _ rfl (Box.row Z1.out _) Tryz.underlying33 rfl ros_info
      · rfl
      · exact ⟨rfl, Below.setRow' K1.out (by omega) _⟩
    by_cases h4 : p < 0
    · clear hno' hp1 hg1
      go_enter Tryz.func63, Tryz.ntmps63
      go_wp2_with (first | (with_reducible refine ros_alloc rfl rfl ?_) | ((with_reducible refine ros_load rfl rfl ?_); apply LoadRow.mk rfl; (focus first | (with_reducible exact P0.out) | (with_reducible exact P2.out) | (with_reducible exact P1.out) | (with_reducible exact P4.out)); (focus (exact ros_info))) | ((with_reducible refine ros_store rfl rfl ?_); apply StoreRow.mk rfl rfl; (focus first | (with_reducible exact Z4.out) | (with_reducible exact Z2.out) | (with_reducible exact Z1.out)); (focus (exact ros_info)); (focus rfl); (focus (exact ros_one _))) | (go_at_call 37; ((with_reducible refine ((cm _).out).mono ?_); rintro e w1 ⟨⟨v, rfl, hv⟩, hb⟩; obtain rfl : v = true := hv.2 HOK.out; have P1 := Lib.hid (P0.out.below hb P0.out.lt); have Z1 := Lib.hid (Z0.out.below hb Z0.out.lt); have K1 := Lib.hid (K0.out.trans (hb.mono K0.out.size)); have k1 := P1.out.cell; have f1 := P1.out.free; clear hb hv)))
      refine bodyPost_ret (v := .tuple #[.agg (Ros.cells r), .int .i64 1]) ?_ ?_ ?_
      · exact results_cell_tmp (p := 6) (q := 7) rfl _ _ _ _ (Ros.cells r) _ rfl (Box.row Z1.out _) Tryz.underlying33 rfl ros_info
      · rfl
      · exact ⟨rfl, Below.setRow' K1.out (by omega) _⟩
    by_cases h5 : 12 ≤ p
    · clear hno' hp1 hg1
      go_enter Tryz.func63, Tryz.ntmps63
      go_wp2_with (first | (with_reducible refine ros_alloc rfl rfl ?_) | ((with_reducible refine ros_load rfl rfl ?_); apply LoadRow.mk rfl; (focus first | (with_reducible exact P0.out) | (with_reducible exact P2.out) | (with_reducible exact P1.out) | (with_reducible exact P4.out)); (focus (exact ros_info))) | ((with_reducible refine ros_store rfl rfl ?_); apply StoreRow.mk rfl rfl; (focus first | (with_reducible exact Z4.out) | (with_reducible exact Z2.out) | (with_reducible exact Z1.out)); (focus (exact ros_info)); (focus rfl); (focus (exact ros_one _))) | (go_at_call 37; ((with_reducible refine ((cm _).out).mono ?_); rintro e w1 ⟨⟨v, rfl, hv⟩, hb⟩; obtain rfl : v = true := hv.2 HOK.out; have P1 := Lib.hid (P0.out.below hb P0.out.lt); have Z1 := Lib.hid (Z0.out.below hb Z0.out.lt); have K1 := Lib.hid (K0.out.trans (hb.mono K0.out.size)); have k1 := P1.out.cell; have f1 := P1.out.free; clear hb hv)))
      refine bodyPost_ret (v := .tuple #[.agg (Ros.cells r), .int .i64 1]) ?_ ?_ ?_
      · exact results_cell_tmp (p := 6) (q := 7) rfl _ _ _ _ (Ros.cells r) _ rfl (Box.row Z1.out _) Tryz.underlying33 rfl ros_info
      · rfl
      · exact ⟨rfl, Below.setRow' K1.out (by omega) _⟩
    have HPP := Lib.hid (show 0 ≤ p ∧ p < 12 by omega)
    have hp12 : p < 12 := by omega
    by_cases h6 : Ros.of r p = -1
    · have H6 := Lib.hid h6
      have h7c : 60000 ≤ gk ∨ 1073741824 ≤ ve := by
        by_cases a : 60000 ≤ gk
        · exact .inl a
        · by_cases b : 1073741824 ≤ ve
          · exact .inr b
          · exact absurd (hno'.out HPP.out h6 (hp1 (by omega)) (hg1 a) (by omega)) (fun h => h)
      clear hno' hp1 hg1 h6
      by_cases h7 : 60000 ≤ gk
      · clear h7c
        go_enter Tryz.func63, Tryz.ntmps63
        go_wp2_with (first | (with_reducible refine ros_alloc rfl rfl ?_) | ((with_reducible refine ros_load_g ?_ rfl ?_); (focus first | (simp [Region.wanted, yielded, h1', h2, h3, h4, h5]; done) | (simp [Region.wanted, yielded]; done)); apply LoadRow.mk rfl; (focus (with_reducible exact P1.out)); (focus (exact ros_info))) | ((with_reducible refine ros_load rfl rfl ?_); apply LoadRow.mk rfl; (focus first | (with_reducible exact P0.out) | (with_reducible exact P2.out) | (with_reducible exact P1.out) | (with_reducible exact P4.out)); (focus (exact ros_info))) | ((with_reducible refine ros_store rfl rfl ?_); apply StoreRow.mk rfl rfl; (focus first | (with_reducible exact Z4.out) | (with_reducible exact Z2.out) | (with_reducible exact Z1.out)); (focus (exact ros_info)); (focus rfl); (focus (exact ros_one _))) | (go_at_call 37; ((with_reducible refine ((cm _).out).mono ?_); rintro e w1 ⟨⟨v, rfl, hv⟩, hb⟩; obtain rfl : v = true := hv.2 HOK.out; have P1 := Lib.hid (P0.out.below hb P0.out.lt); have Z1 := Lib.hid (Z0.out.below hb Z0.out.lt); have K1 := Lib.hid (K0.out.trans (hb.mono K0.out.size)); have k1 := P1.out.cell; have f1 := P1.out.free; clear hb hv)) | (go_at_call 26; ((with_reducible refine ((cl _).out).mono ?_); rintro e w2 ⟨⟨v, rfl, hv⟩, hb⟩; have hv' := slot_of HOK.out HPP.out.1 HPP.out.2 hv; obtain rfl : v = -1 := hv'.trans H6.out; have P2 := Lib.hid (P1.out.below hb P1.out.lt); have Z2 := Lib.hid (Z1.out.below hb Z1.out.lt); have K2 := Lib.hid (K1.out.trans (hb.mono K1.out.size)); have k2 := P2.out.cell; have f2 := P2.out.free; clear hb hv hv')))
        refine bodyPost_ret (v := .tuple #[.agg (Ros.cells r), .int .i64 1]) ?_ ?_ ?_
        · exact results_cell_tmp (p := 6) (q := 7) rfl _ _ _ _ (Ros.cells r) _ rfl (Box.row Z2.out _) Tryz.underlying33 rfl ros_info
        · rfl
        · exact ⟨rfl, Below.setRow' K2.out (by omega) _⟩
      · have h8 : 1073741824 ≤ ve := h7c.resolve_left h7
        clear h7c
        go_enter Tryz.func63, Tryz.ntmps63
        go_wp2_with (first | (with_reducible refine ros_alloc rfl rfl ?_) | ((with_reducible refine ros_load_g ?_ rfl ?_); (focus first | (simp [Region.wanted, yielded, h1', h2, h3, h4, h5]; done) | (simp [Region.wanted, yielded]; done)); apply LoadRow.mk rfl; (focus (with_reducible exact P1.out)); (focus (exact ros_info))) | ((with_reducible refine ros_load rfl rfl ?_); apply LoadRow.mk rfl; (focus first | (with_reducible exact P0.out) | (with_reducible exact P2.out) | (with_reducible exact P1.out) | (with_reducible exact P4.out)); (focus (exact ros_info))) | ((with_reducible refine ros_store rfl rfl ?_); apply StoreRow.mk rfl rfl; (focus first | (with_reducible exact Z4.out) | (with_reducible exact Z2.out) | (with_reducible exact Z1.out)); (focus (exact ros_info)); (focus rfl); (focus (exact ros_one _))) | (go_at_call 37; ((with_reducible refine ((cm _).out).mono ?_); rintro e w1 ⟨⟨v, rfl, hv⟩, hb⟩; obtain rfl : v = true := hv.2 HOK.out; have P1 := Lib.hid (P0.out.below hb P0.out.lt); have Z1 := Lib.hid (Z0.out.below hb Z0.out.lt); have K1 := Lib.hid (K0.out.trans (hb.mono K0.out.size)); have k1 := P1.out.cell; have f1 := P1.out.free; clear hb hv)) | (go_at_call 26; ((with_reducible refine ((cl _).out).mono ?_); rintro e w2 ⟨⟨v, rfl, hv⟩, hb⟩; have hv' := slot_of HOK.out HPP.out.1 HPP.out.2 hv; obtain rfl : v = -1 := hv'.trans H6.out; have P2 := Lib.hid (P1.out.below hb P1.out.lt); have Z2 := Lib.hid (Z1.out.below hb Z1.out.lt); have K2 := Lib.hid (K1.out.trans (hb.mono K1.out.size)); have k2 := P2.out.cell; have f2 := P2.out.free; clear hb hv hv')))
        refine bodyPost_ret (v := .tuple #[.agg (Ros.cells r), .int .i64 1]) ?_ ?_ ?_
        · exact results_cell_tmp (p := 6) (q := 7) rfl _ _ _ _ (Ros.cells r) _ rfl (Box.row Z2.out _) Tryz.underlying33 rfl ros_info
        · rfl
        · exact ⟨rfl, Below.setRow' K2.out (by omega) _⟩
    · have H6 := Lib.hid h6
      clear hno' hp1 hg1 h6
      go_enter Tryz.func63, Tryz.ntmps63
      go_wp2_with (first | (with_reducible refine ros_alloc rfl rfl ?_) | ((with_reducible refine ros_load_g ?_ rfl ?_); (focus first | (simp [Region.wanted, yielded, h1', h2, h3, h4, h5]; done) | (simp [Region.wanted, yielded]; done)); apply LoadRow.mk rfl; (focus (with_reducible exact P1.out)); (focus (exact ros_info))) | ((with_reducible refine ros_load rfl rfl ?_); apply LoadRow.mk rfl; (focus first | (with_reducible exact P0.out) | (with_reducible exact P2.out) | (with_reducible exact P1.out) | (with_reducible exact P4.out)); (focus (exact ros_info))) | ((with_reducible refine ros_store rfl rfl ?_); apply StoreRow.mk rfl rfl; (focus first | (with_reducible exact Z4.out) | (with_reducible exact Z2.out) | (with_reducible exact Z1.out)); (focus (exact ros_info)); (focus rfl); (focus (exact ros_one _))) | (go_at_call 37; ((with_reducible refine ((cm _).out).mono ?_); rintro e w1 ⟨⟨v, rfl, hv⟩, hb⟩; obtain rfl : v = true := hv.2 HOK.out; have P1 := Lib.hid (P0.out.below hb P0.out.lt); have Z1 := Lib.hid (Z0.out.below hb Z0.out.lt); have K1 := Lib.hid (K0.out.trans (hb.mono K0.out.size)); have k1 := P1.out.cell; have f1 := P1.out.free; clear hb hv)) | (go_at_call 26; ((with_reducible refine ((cl _).out).mono ?_); rintro e w2 ⟨⟨v, rfl, hv⟩, hb⟩; have hv' := slot_of HOK.out HPP.out.1 HPP.out.2 hv; obtain ⟨j, _, rfl, _, _⟩ : ∃ j : Nat, j < 8 ∧ v = j ∧ True ∧ True := (by rcases hv with ⟨e, _⟩ | ⟨j, hj, e, _⟩; exact absurd (hv'.symm.trans e) H6.out; exact ⟨j, hj, e, trivial, trivial⟩); have P2 := Lib.hid (P1.out.below hb P1.out.lt); have Z2 := Lib.hid (Z1.out.below hb Z1.out.lt); have K2 := Lib.hid (K1.out.trans (hb.mono K1.out.size)); have k2 := P2.out.cell; have f2 := P2.out.free; clear hb hv hv')))
      refine bodyPost_ret (v := .tuple #[.agg (Ros.cells r), .int .i64 1]) ?_ ?_ ?_
      · exact results_cell_tmp (p := 6) (q := 7) rfl _ _ _ _ (Ros.cells r) _ rfl (Box.row Z2.out _) Tryz.underlying33 rfl ros_info
      · rfl
      · exact ⟨rfl, Below.setRow' K2.out (by omega) _⟩
  · have HOK := Lib.hid hok
    clear hok hno cl
    go_enter Tryz.func63, Tryz.ntmps63
    go_wp2_with (first | (with_reducible refine ros_alloc rfl rfl ?_) | ((with_reducible refine ros_load rfl rfl ?_); apply LoadRow.mk rfl; (focus first | (with_reducible exact P0.out) | (with_reducible exact P2.out) | (with_reducible exact P1.out) | (with_reducible exact P4.out)); (focus (exact ros_info))) | ((with_reducible refine ros_store rfl rfl ?_); apply StoreRow.mk rfl rfl; (focus first | (with_reducible exact Z4.out) | (with_reducible exact Z2.out) | (with_reducible exact Z1.out)); (focus (exact ros_info)); (focus rfl); (focus (exact ros_one _))) | (go_at_call 37; ((with_reducible refine ((cm _).out).mono ?_); rintro e w1 ⟨⟨v, rfl, hv⟩, hb⟩; obtain rfl : v = false := (by cases v <;> first | rfl | exact absurd (hv.1 rfl) HOK.out); have P1 := Lib.hid (P0.out.below hb P0.out.lt); have Z1 := Lib.hid (Z0.out.below hb Z0.out.lt); have K1 := Lib.hid (K0.out.trans (hb.mono K0.out.size)); have k1 := P1.out.cell; have f1 := P1.out.free; clear hb hv)))
    refine bodyPost_ret (v := .tuple #[.agg (Ros.cells r), .int .i64 1]) ?_ ?_ ?_
    · exact results_cell_tmp (p := 6) (q := 7) rfl _ _ _ _ (Ros.cells r) _ rfl (Box.row Z1.out _) Tryz.underlying33 rfl ros_info
    · rfl
    · exact ⟨rfl, Below.setRow' K1.out (by omega) _⟩

set_option maxRecDepth 100000 in
set_option maxHeartbeats 4000000 in
theorem reftake_yes (r : Ros.R) (k : Nat) (p : Int) (w : World) (hy : Ros.MayTake r k p) :
    Calls Tryz.prog 63 #[.agg (Ros.cells r), .int .i64 (k : Int), .int .i64 p] w fun e w' => e = .returned (.tuple #[.agg (Ros.cells (Ros.take r k p)), .int .i64 0]) ∧ Below w.heap.size w w' := by
  have P0 := Lib.hid ((Box.made w 33 (Ros.cells r)).alloc (.cells (Ros.cells rosZero) 33))
  have Z0 := Lib.hid (Box.made_at (n := w.heap.size + 1) (w.alloc (.cells (Ros.cells r) 33)) 33 (Ros.cells rosZero) (by simp))
  have K0 := Lib.hid (two_below' w (.cells (Ros.cells r) 33) (.cells (Ros.cells rosZero) 33))
  have cm := fun X => Lib.hid (refros_may r X)
  have r0 := Ros.cells_0 r
  have cl := fun X => Lib.hid (refslot_any r p X)
  obtain ⟨⟨⟨⟨hok, hv⟩, h0, h8⟩, hpp, hof⟩, hpk0, hgk0⟩ := hy
  have HOK := Lib.hid hok
  have hk8 : k < 8 := by omega
  have hk8' : (k : Int) < 8 := by omega
  have h1' : ¬ (k : Int) < 0 := by omega
  have hs := hok.seat k hk8
  have hs1 := hs.1
  have h3 : ¬ 0 ≤ r.peer k := by have : r.peer k = -1 := hpk0; omega
  have hg3 : ¬ 60000 ≤ r.gen k := by have : r.gen k ≠ 60000 := hgk0; omega
  have hv3 : ¬ 1073741824 ≤ r.version := by omega
  have h4 : ¬ p < 0 := by omega
  have h5 : ¬ 12 ≤ p := by omega
  have h2 : ¬ 8 ≤ (k : Int) := by omega
  have HPP := Lib.hid hpp
  have H6 := Lib.hid hof
  have hwv := IntWalk.i64_in (n := r.version + 1) (by have := hok.1; omega)
  have hwg := IntWalk.i64_in (n := r.gen k + 1) (by omega)
  have HK := Lib.hid hk8
  have q1 := Ros.cells_peer r k hk8
  have q2 := Ros.cells_gen r k hk8
  have HT := Lib.hid (show Ros.cells ⟨r.version + 1, Ros.upd r.peer k p, Ros.upd r.gen k (r.gen k + 1)⟩ = Ros.cells (Ros.take r k p) from rfl)
  obtain ⟨pk, hpk⟩ : ∃ pk, pk = r.peer k := ⟨_, rfl⟩
  obtain ⟨gk, hgk⟩ : ∃ gk, gk = r.gen k := ⟨_, rfl⟩
  rw [← hpk] at q1 h3
  rw [← hgk] at q2 hg3 hwg HT
  clear hok hpk hgk hv hs hs1 hpk0 hgk0 hof hpp
  go_enter Tryz.func63, Tryz.ntmps63
  go_upto_region 3 with (first | (with_reducible refine ros_alloc rfl rfl ?_) | ((with_reducible refine ros_load_g ?_ rfl ?_); (focus first | (simp [Region.wanted, yielded, h1', h2, h3, h4, h5]; done) | (simp [Region.wanted, yielded]; done)); apply LoadRow.mk rfl; (focus (with_reducible exact P1.out)); (focus (exact ros_info))) | ((with_reducible refine ros_load rfl rfl ?_); apply LoadRow.mk rfl; (focus first | (with_reducible exact P0.out) | (with_reducible exact P2.out) | (with_reducible exact P1.out) | (with_reducible exact P4.out)); (focus (exact ros_info))) | (go_at_call 37; ((with_reducible refine ((cm _).out).mono ?_); rintro e w1 ⟨⟨v, rfl, hv⟩, hb⟩; obtain rfl : v = true := hv.2 HOK.out; have P1 := Lib.hid (P0.out.below hb P0.out.lt); have Z1 := Lib.hid (Z0.out.below hb Z0.out.lt); have K1 := Lib.hid (K0.out.trans (hb.mono K0.out.size)); have k1 := P1.out.cell; have f1 := P1.out.free; clear hb hv)) | (go_at_call 26; ((with_reducible refine ((cl _).out).mono ?_); rintro e w2 ⟨⟨v, rfl, hv⟩, hb⟩; have hv' := slot_of HOK.out HPP.out.1 HPP.out.2 hv; obtain rfl : v = -1 := hv'.trans H6.out; have P2 := Lib.hid (P1.out.below hb P1.out.lt); have Z2 := Lib.hid (Z1.out.below hb Z1.out.lt); have K2 := Lib.hid (K1.out.trans (hb.mono K1.out.size)); have k2 := P2.out.cell; have f2 := P2.out.free; clear hb hv hv')))
  have P3 := Lib.hid (P2.out.row (Ros.cells ⟨r.version, Ros.upd r.peer k p, Ros.upd r.gen k (gk + 1)⟩))
  have Z3 := Lib.hid (Z2.out.row_far (show w.heap.size + 1 ≠ w.heap.size by omega) (Ros.cells ⟨r.version, Ros.upd r.peer k p, Ros.upd r.gen k (gk + 1)⟩))
  have K3 := Lib.hid (Below.setRow' K2.out (Nat.le_refl _) (Ros.cells ⟨r.version, Ros.upd r.peer k p, Ros.upd r.gen k (gk + 1)⟩))
  go_upto_region 4 with ((with_reducible refine ros_store_seat rfl rfl ?_); apply StoreSeat.mk (q := p) (g := gk + 1) rfl rfl HK.out; (focus (with_reducible exact P2.out)); dsimp only)
  generalize hW3 : w2.setRow w.heap.size (Ros.cells ⟨r.version, Ros.upd r.peer k p, Ros.upd r.gen k (gk + 1)⟩) = W3 at P3 Z3 K3 ⊢
  clear hW3 P2 Z2 K2 k2 f2 P1 Z1 K1 k1 f1 P0 Z0 K0
  have c3 := P3.out.cell 0
  have d3 := P3.out.free 0
  rw [Ros.cells_0] at c3
  dsimp only at c3
  have P4 := Lib.hid (show Box (W3.setCell ⟨w.heap.size, 0, none⟩ (.int .i64 (r.version + 1))) w.heap.size 33 (Ros.cells (Ros.take r k p)) from HT.out ▸ P3.out.rosv (r.version + 1))
  have Z4 := Lib.hid (Z3.out.far (p := ⟨w.heap.size, 0, none⟩) (show w.heap.size + 1 ≠ w.heap.size by omega) (.int .i64 (r.version + 1)))
  have K4 := Lib.hid (K3.out.setCell (p := ⟨w.heap.size, 0, none⟩) (Nat.le_refl _) (.int .i64 (r.version + 1)))
  clear P3 Z3 K3
  go_wp2_with (first | ((with_reducible refine ros_load rfl rfl ?_); apply LoadRow.mk rfl; (focus first | (with_reducible exact P0.out) | (with_reducible exact P2.out) | (with_reducible exact P1.out) | (with_reducible exact P4.out)); (focus (exact ros_info))) | ((with_reducible refine ros_store rfl rfl ?_); apply StoreRow.mk rfl rfl; (focus first | (with_reducible exact Z4.out) | (with_reducible exact Z2.out) | (with_reducible exact Z1.out)); (focus (exact ros_info)); (focus rfl); (focus (exact ros_one _))))
  refine bodyPost_ret (v := .tuple #[.agg (Ros.cells (Ros.take r k p)), .int .i64 0]) ?_ ?_ ?_
  · exact results_cell_tmp (p := 6) (q := 7) rfl _ _ _ _ (Ros.cells (Ros.take r k p)) _ rfl (Box.row Z4.out _) Tryz.underlying33 rfl ros_info
  · rfl
  · exact ⟨rfl, Below.setRow' K4.out (by omega) _⟩
end Go.Proofs.YtiahpncglpfjeaaGreat
