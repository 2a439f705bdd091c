/-
Several texts in one: Gj Gjt Ta.
-/
import Derived.Test.YtiahpncglpfjeaaGreatFq3
namespace Go.Proofs.YtiahpncglpfjeaaGreat
open Go.RowKit
set_option linter.unusedVariables false

/-- What the ships' loop finds. -/
structure Ships (ps : Nat → Gm.In) (g : Gm.G) (w wr : World) (Bi Br Bn k : Nat) : Prop where
  own : ∃ A c, Box wr Bn 28 (Gm.cells { g with ship := (Gm.ph1 ps g k).1 } (.slice A (Gm.ph1 ps g k).2.length c)) ∧ wr.ownsRow w.heap.size 90 6 (.slice A (Gm.ph1 ps g k).2.length c) (Gm.ph1 ps g k).2.length (Gm.shotCells (Gm.ph1 ps g k).2)
  ins : Box wr Bi 40 (Gm.insCells ps).toArray
  res : Box wr Br 28 (Gm.cells zeroG (.slice none 0 0))
  below : Below w.heap.size w wr

theorem ships_start {ps : Nat → Gm.In} {g : Gm.G} {w w1 w2 : World} {A1 : Option Addr} {c1 : Nat} {Bi Br n : Nat} {s : Value} (hn : n = g.shots.length) (hb : Below w.heap.size w w1) (hi : Box w1 Bi 40 (Gm.insCells ps).toArray) (hr : Box w1 Br 28 (Gm.cells zeroG (.slice none 0 0)))
    (own1 : w2.ownsRow w.heap.size 90 6 (.slice A1 (0 + n) c1) (0 + n) ([] ++ Gm.shotCells g.shots)) (hg : World.grownBy ((w1.alloc (.cells (Gm.cells g s) 28)).alloc (.cells #[] 90)) w2 (Value.ownBlock (.slice (some ⟨w1.heap.size + 1, 0, none⟩) 0 0))) :
    Ships ps g w (w2.setCell ⟨w1.heap.size, 58, none⟩ (.slice A1 n c1)) Bi Br w1.heap.size 0 := by
  have hB := hb.size
  have bn : Box w2 w1.heap.size 28 (Gm.cells g s) := ((Box.made w1 _ _).alloc _).grown hg (by intro e; injection e with e; simp at e)
  have bi := ((hi.alloc (.cells (Gm.cells g s) 28)).alloc (.cells #[] 90)).grown hg (by intro e; injection e with e; have := hi.lt; simp at e; omega)
  have br := ((hr.alloc (.cells (Gm.cells g s) 28)).alloc (.cells #[] 90)).grown hg (by intro e; injection e with e; have := hr.lt; simp at e; omega)
  rw [Nat.zero_add, List.nil_append] at own1
  subst hn
  have hne := bn.unowned own1 (by decide)
  refine ⟨⟨A1, c1, blk_shots bn _, ?_⟩, bi.far (by have := hi.lt; show Bi ≠ w1.heap.size; omega) _, br.far (by have := hr.lt; show Br ≠ w1.heap.size; omega) _, ?_⟩
  · exact ownsRow_setCell_other own1 (a := ⟨w1.heap.size, 58, none⟩) hne _
  · refine Below.setCell ?_ hB _
    refine Below.grown ((hb.alloc hB _).alloc (by simp <;> omega) _) hg (by simp <;> omega) ?_
    intro k hk
    injection hk with hk
    have : w1.heap.size + 1 = k := hk
    omega

theorem Ships.alloc {ps : Nat → Gm.In} {g : Gm.G} {w wr : World} {Bi Br Bn k : Nat} (h : Ships ps g w wr Bi Br Bn k) (o : Obj) : Ships ps g w (wr.alloc o) Bi Br Bn k := by
  obtain ⟨⟨A, c, hB, hO⟩, hI, hR, hb⟩ := h
  exact ⟨⟨A, c, hB.alloc o, hO.alloc o⟩, hI.alloc o, hR.alloc o, hb.alloc hb.size o⟩
theorem Ships.drew {ps : Nat → Gm.In} {g : Gm.G} {w wr : World} {Bi Br Bn k : Nat} (h : Ships ps g w wr Bi Br Bn k) : Ships ps g w wr.drew Bi Br Bn k := by
  obtain ⟨⟨A, c, hB, hO⟩, hI, hR, hb⟩ := h
  exact ⟨⟨A, c, hB.drew, hO.drew⟩, hI.drew, hR.drew, hb.drew⟩
/-- A ship has gone, and nothing was shot. -/
theorem ships_quiet {ps : Nat → Gm.In} {g : Gm.G} {w wr : World} {Bi Br Bn k m c1 : Nat} {A1 : Option Addr} (hk : k < 8) (hm : m = (Gm.ph1 ps g k).2.length)
    (hB : Box wr Bn 28 (Gm.cells { g with ship := (Gm.ph1 ps g k).1 } (.slice A1 m c1))) (hO : wr.ownsRow w.heap.size 90 6 (.slice A1 m c1) m (Gm.shotCells (Gm.ph1 ps g k).2))
    (hI : Box wr Bi 40 (Gm.insCells ps).toArray) (hR : Box wr Br 28 (Gm.cells zeroG (.slice none 0 0))) (hb : Below w.heap.size w wr) (hBn : w.heap.size ≤ Bn) (nI : Bi ≠ Bn) (nR : Br ≠ Bn)
    (t : Gm.Ship) (ht : Gm.moved (ps k) m ((Gm.ph1 ps g k).1 k) = t) (hmade : Gm.made (ps k) m k ((Gm.ph1 ps g k).1 k) = []) : Ships ps g w (stored wr Bn k t) Bi Br Bn (k + 1) := by
  have e1 : (Gm.ph1 ps g (k + 1)).1 = Gm.upd (Gm.ph1 ps g k).1 k t := by rw [← ht, hm]; rfl
  have e2 : (Gm.ph1 ps g (k + 1)).2 = (Gm.ph1 ps g k).2 := by
    show (Gm.ph1 ps g k).2 ++ Gm.made _ _ _ _ = _
    rw [← hm, hmade, List.append_nil]
  refine ⟨⟨A1, c1, ?_, ?_⟩, stored_far hI nI t, stored_far hR nR t, stored_below hb hBn t⟩
  · rw [e1, e2, ← hm]
    exact blk_ship (g := { g with ship := (Gm.ph1 ps g k).1 }) hB hk t
  · rw [e2, ← hm]
    exact stored_own hO (hB.unowned hO (by decide)) t
theorem ships_off {ps : Nat → Gm.In} {g : Gm.G} {w wr : World} {Bi Br Bn k : Nat} (h : Ships ps g w wr Bi Br Bn k) (ho : ((Gm.ph1 ps g k).1 k).on = false) : Ships ps g w wr Bi Br Bn (k + 1) := by
  have e := Gm.next_off (p := ps k) (n := (Gm.ph1 ps g k).2.length) (i := k) ho
  have e0 : Gm.ph1 ps g (k + 1) = Gm.ph1 ps g k := by
    show (Gm.upd _ k _, _ ++ _) = _
    rw [e.1, e.2, Gm.upd_self, List.append_nil]
  obtain ⟨⟨A, c, hB, hO⟩, hI, hR, hb⟩ := h
  exact ⟨⟨A, c, by rw [e0]; exact hB, by rw [e0]; exact hO⟩, hI, hR, hb⟩

/-- A ship has gone, and has shot. -/
theorem ships_shot {ps : Nat → Gm.In} {g : Gm.G} {w w2 : World} {Bi Br Bn Bs k m c1 c2 : Nat} {A1 A2 : Option Addr} (hk : k < 8) (hm : m = (Gm.ph1 ps g k).2.length) (s : Gm.Shot)
    (hB : Box w2 Bn 28 (Gm.cells { g with ship := (Gm.ph1 ps g k).1 } (.slice A1 m c1))) (hO : w2.ownsRow w.heap.size 90 6 (.slice A2 (m + 1) c2) (m + 1) (Gm.shotCells (Gm.ph1 ps g k).2 ++ Gm.shotCells [s]))
    (hI : Box w2 Bi 40 (Gm.insCells ps).toArray) (hR : Box w2 Br 28 (Gm.cells zeroG (.slice none 0 0))) {cs : Array Value} (hS : Box w2 Bs 24 cs) (hb : Below w.heap.size w w2) (hBn : w.heap.size ≤ Bn) (hBs : w.heap.size ≤ Bs) (nI : Bi ≠ Bn) (nR : Br ≠ Bn) (nIs : Bi ≠ Bs) (nRs : Br ≠ Bs) (nBs : Bn ≠ Bs)
    (t : Gm.Ship) (u : Value) (ht : Gm.moved (ps k) m ((Gm.ph1 ps g k).1 k) = t) (hmade : Gm.made (ps k) m k ((Gm.ph1 ps g k).1 k) = [s]) :
    Ships ps g w (stored ((w2.setCell ⟨Bn, 58, none⟩ (.slice A2 (m + 1) c2)).setCell ⟨Bs, 5, none⟩ u) Bn k t) Bi Br Bn (k + 1) := by
  have e1 : (Gm.ph1 ps g (k + 1)).1 = Gm.upd (Gm.ph1 ps g k).1 k t := by rw [← ht, hm]; rfl
  have e2 : (Gm.ph1 ps g (k + 1)).2 = (Gm.ph1 ps g k).2 ++ [s] := by
    show (Gm.ph1 ps g k).2 ++ Gm.made _ _ _ _ = _
    rw [← hm, hmade]
  have nO := hB.unowned hO (by decide)
  have nOs := hS.unowned hO (by decide)
  have hO1 := ownsRow_setCell_other (a := ⟨Bn, 58, none⟩) hO nO (.slice A2 (m + 1) c2)
  have hO2 := ownsRow_setCell_other (a := ⟨Bs, 5, none⟩) hO1 nOs u
  have hl : (Gm.ph1 ps g (k + 1)).2.length = m + 1 := by rw [e2, List.length_append, hm]; rfl
  refine ⟨⟨A2, c2, ?_, ?_⟩, stored_far ((hI.far (p := ⟨Bn, 58, none⟩) nI _).far (p := ⟨Bs, 5, none⟩) nIs _) nI t, stored_far ((hR.far (p := ⟨Bn, 58, none⟩) nR _).far (p := ⟨Bs, 5, none⟩) nRs _) nR t, stored_below ((hb.setCell hBn _).setCell hBs _) hBn t⟩
  · rw [e1, hl]
    exact blk_ship (g := { g with ship := (Gm.ph1 ps g k).1 }) ((blk_shots hB _).far (p := ⟨Bs, 5, none⟩) nBs _) hk t
  · rw [hl, e2, Gm.shotCells_append]
    exact stored_own hO2 nO t

/-- What the shots' loop finds: l are the shots when it begins, st is what has become of dice, ships and those that stay. -/
structure Shoots (g : Gm.G) (l : List Gm.Shot) (st : Gm.St) (A1 : Option Addr) (c1 : Nat) (w wr : World) (Br Bn Bl : Nat) (s12 : Value) : Prop where
  game : Box wr Bn 28 (Gm.cells { g with dice := st.dice, ship := st.ship } (.slice A1 l.length c1))
  shots : Lies wr Bl 6 A1 l.length (Gm.shotCells l)
  left : ∃ A c, s12 = .slice A st.left.length c ∧ wr.ownsRow Bl 90 6 (.slice A st.left.length c) st.left.length (Gm.shotCells st.left)
  res : Box wr Br 28 (Gm.cells zeroG (.slice none 0 0))
  below : Below w.heap.size w wr
  size : Bl ≤ wr.heap.size
theorem Shoots.alloc {g : Gm.G} {l : List Gm.Shot} {st : Gm.St} {A1 : Option Addr} {c1 : Nat} {w wr : World} {Br Bn Bl : Nat} {s12 : Value} (h : Shoots g l st A1 c1 w wr Br Bn Bl s12) (o : Obj) : Shoots g l st A1 c1 w (wr.alloc o) Br Bn Bl s12 := by
  obtain ⟨h1, h2, ⟨A, c, e, h3⟩, h4, h5, h6⟩ := h
  exact ⟨h1.alloc o, h2.stays fun b hb => Below.heap_alloc wr o b (by omega), ⟨A, c, e, h3.alloc o⟩, h4.alloc o, h5.alloc h5.size o, by simp; omega⟩
theorem Shoots.drew {g : Gm.G} {l : List Gm.Shot} {st : Gm.St} {A1 : Option Addr} {c1 : Nat} {w wr : World} {Br Bn Bl : Nat} {s12 : Value} (h : Shoots g l st A1 c1 w wr Br Bn Bl s12) : Shoots g l st A1 c1 w wr.drew Br Bn Bl s12 := by
  obtain ⟨h1, h2, ⟨A, c, e, h3⟩, h4, h5, h6⟩ := h
  exact ⟨h1.drew, ⟨h2.len, h2.start, h2.cell⟩, ⟨A, c, e, h3.drew⟩, h4.drew, h5.drew, h6⟩
theorem Shoots.on {g : Gm.G} {l : List Gm.Shot} {st : Gm.St} {A1 : Option Addr} {c1 : Nat} {w wr w' : World} {Br Bn Bl : Nat} {s12 : Value} (h : Shoots g l st A1 c1 w wr Br Bn Bl s12) (hb : Below wr.heap.size wr w') : Shoots g l st A1 c1 w w' Br Bn Bl s12 := by
  obtain ⟨h1, h2, ⟨A, c, e, h3⟩, h4, h5, h6⟩ := h
  exact ⟨h1.below hb h1.lt, h2.stays fun b hb' => hb.block b (by omega), ⟨A, c, e, own_below h3 hb (Nat.le_refl _)⟩, h4.below hb h4.lt, h5.trans (hb.mono h5.size), Nat.le_trans h6 hb.size⟩

theorem shoots_kept {g : Gm.G} {l : List Gm.Shot} {st : Gm.St} {A1 A2 A' : Option Addr} {c1 c2 c' : Nat} {w w1 w2 : World} {Br Bn Bl : Nat} {s12 : Value} {o : Obj} {s : Gm.Shot} (h : Shoots g l st A1 c1 w w1 Br Bn Bl s12)
    (hO : w1.ownsRow Bl 90 6 (.slice A2 st.left.length c2) st.left.length (Gm.shotCells st.left)) (hO2 : w2.ownsRow Bl 90 6 (.slice A' (st.left.length + 1) c') (st.left.length + 1) (Gm.shotCells st.left ++ Gm.shotCells [s]))
    (hg : (w1.alloc o).grownBy w2 (Value.ownBlock (.slice A2 st.left.length c2))) (hBl : w.heap.size ≤ Bl) : Shoots g l { st with left := st.left ++ [s] } A1 c1 w w2 Br Bn Bl (.slice A' (st.left.length + 1) c') := by
  have hs := h.size
  have hl : (st.left ++ [s]).length = st.left.length + 1 := by simp
  refine ⟨grown_box h.game hO (by decide) hg, h.shots.stays fun b hb => ?_, ⟨A', c', by rw [hl], ?_⟩, grown_box h.res hO (by decide) hg, ?_, ?_⟩
  · have e1 := hg.block b (by simp; omega) (fun e => by have := (hO.lt b e.symm).1; omega)
    exact e1.trans (Below.heap_alloc w1 o b (by omega))
  · rw [hl, Gm.shotCells_append]; exact hO2
  · exact (h.below.alloc h.below.size o).grown hg (by have := h.below.size; simp; omega) (fun k hk => by have := (hO.lt k hk).1; have := h.below.size; omega)
  · have := hg.size; simp at this; omega
/-- Whatever is owned stays where only another block changes. -/
theorem own_else {w w' : World} {b n size Bn : Nat} {e : TypeId} {v : Value} {xs : List Value} (h : w.ownsRow b e size v n xs) (hne : v.ownBlock ≠ some Bn) (hk : ∀ k, k ≠ Bn → k < w.heap.size → w'.heap[k]? = w.heap[k]?) : w'.ownsRow b e size v n xs := by
  obtain ⟨hl, e | ⟨gg, cap, cur, hv, hbg, hgg, hr⟩⟩ := h
  · exact ⟨hl, .inl e⟩
  · exact ⟨hl, .inr ⟨gg, cap, cur, hv, hbg, (hk gg (fun e => hne (by rw [hv, e]; rfl)) (Array.getElem?_eq_some_iff.1 hgg).1).trans hgg, hr⟩⟩
theorem Lies.else_ {w w' : World} {B Bn n m c : Nat} {A A' : Option Addr} {l : List Gm.Shot} {g : Gm.G} (h : Lies w B 6 A n (Gm.shotCells l)) (hn : n = l.length) (hB : Box w Bn 28 (Gm.cells g (.slice A' m c))) (hk : ∀ k, k ≠ Bn → k < B → w'.heap[k]? = w.heap[k]?) : Lies w' B 6 A n (Gm.shotCells l) := by
  refine ⟨h.len, h.start, fun ad e h0 j u hu => ?_⟩
  have hne := h.off_game hn hB h0 ad e
  obtain ⟨ad', e', hlt⟩ := h.start h0
  rw [e] at e'; injection e' with e'; subst e'
  rw [World.cell?_of_block (w := w) (by rw [add_block]; exact hk _ hne hlt)]
  exact h.cell ad e h0 j u hu
theorem Shoots.hit {g : Gm.G} {l : List Gm.Shot} {st st' : Gm.St} {A1 : Option Addr} {c1 : Nat} {w wr w' : World} {Br Bn Bl : Nat} {s12 : Value} (h : Shoots g l st A1 c1 w wr Br Bn Bl s12) (hl : st'.left = st.left)
    (hB : Box w' Bn 28 (Gm.cells { g with dice := st'.dice, ship := st'.ship } (.slice A1 l.length c1))) (hk : ∀ b, b ≠ Bn → b < wr.heap.size → w'.heap[b]? = wr.heap[b]?) (hw : w.heap.size ≤ Bn) (hbn : Below Bn wr w') (nR : Br ≠ Bn) : Shoots g l st' A1 c1 w w' Br Bn Bl s12 := by
  obtain ⟨h1, h2, ⟨A, c, e, h3⟩, h4, h5, h6⟩ := h
  exact ⟨hB, h2.else_ rfl h1 (fun k hk1 hk2 => hk k hk1 (by omega)), ⟨A, c, by rw [hl]; exact e, by rw [hl]; exact own_else h3 (h1.unowned h3 (by decide)) hk⟩, ⟨(hk Br nR h4.lt).trans h4.is⟩, h5.trans (hbn.mono hw), by have := hbn.size; omega⟩

/-- What Step hands back. -/
def StepOut (g' : Gm.G) (w : World) (e : Ending) (w' : World) : Prop :=
  ∃ A c, e = .returned (.tuple #[.agg (Gm.cells g' (.slice A g'.shots.length c)), .int .i64 0]) ∧ Lies w' w'.heap.size 6 A g'.shots.length (Gm.shotCells g'.shots) ∧ Below w.heap.size w w'

set_option maxRecDepth 100000 in
set_option maxHeartbeats 8000000 in
theorem refstep_yes (ps : Nat → Gm.In) (g : Gm.G) (A : Option Addr) (n c : Nat) (w : World) (hg : Gm.ok g) (hf : g.frame < 1048576) (hd : 0 ≤ g.dice ∧ g.dice ≤ 18446744073709551615) (hp : ∀ i, i < 8 → Gm.tyIn (ps i)) (hn : n = g.shots.length) (hr : Lies w w.heap.size 6 A n (Gm.shotCells g.shots)) :
    Calls Tryz.prog 34 #[.agg (Gm.cells g (.slice A n c)), .agg (Gm.insCells ps).toArray] w (StepOut (Gm.step ps g) w) := by
  have b1 : Box (((w.alloc (.cells (Gm.cells g (.slice A n c)) 28)).alloc (.cells (Gm.insCells ps).toArray 40)).alloc (.cells (Gm.cells zeroG (.slice none 0 0)) 28)) w.heap.size 28 (Gm.cells g (.slice A n c)) := ((Box.made _ _ _).alloc _).alloc _
  have b2 : Box (((w.alloc (.cells (Gm.cells g (.slice A n c)) 28)).alloc (.cells (Gm.insCells ps).toArray 40)).alloc (.cells (Gm.cells zeroG (.slice none 0 0)) 28)) (w.heap.size + 1) 40 (Gm.insCells ps).toArray := (Box.made_at _ _ _ (by simp)).alloc _
  have b3 : Box (((w.alloc (.cells (Gm.cells g (.slice A n c)) 28)).alloc (.cells (Gm.insCells ps).toArray 40)).alloc (.cells (Gm.cells zeroG (.slice none 0 0)) 28)) (w.heap.size + 1 + 1) 28 (Gm.cells zeroG (.slice none 0 0)) := Box.made_at _ _ _ (by simp)
  have hb0 : Below w.heap.size w (((w.alloc (.cells (Gm.cells g (.slice A n c)) 28)).alloc (.cells (Gm.insCells ps).toArray 40)).alloc (.cells (Gm.cells zeroG (.slice none 0 0)) 28)) := (two_below' w _ _).alloc (by simp <;> omega) _
  have cm := Lib.hid (refmay_yes g A n c _ hg hn ((hr.below hb0).wider hb0.size))
  have hf0 : 0 ≤ g.frame := hg.1
  have fr : (g.frame == 1048576) = false := by simpa using Int.ne_of_lt hf
  have e0 := Gm.cells_0 g (.slice A n c)
  have e58 := Gm.cells_58 g (.slice A n c)
  have hN := Lib.hid hn
  have B1 := Lib.hid b1
  have B2 := Lib.hid b2
  have B3 := Lib.hid b3
  have HB := Lib.hid hb0
  have hn32 : n ≤ 32 := by rw [hn]; exact hg.2.2.1
  obtain ⟨i0, hi0, hz0, hz1, hz2⟩ := info_parts shot_info
  have hI := Lib.hid hi0
  have hZ := Lib.hid hz0
  have hS := Lib.hid hz1
  have hY := Lib.hid hz2
  have hL := Lib.hid hr
  clear hn b1 b2 b3 hb0 hi0 hz0 hz1 hz2 hr
  go_enter Tryz.func34, Tryz.ntmps34
  go_upto_block 0 with (first | (refine wpList_alloc_game rfl rfl ?_) | ((with_reducible refine load_gate rfl rfl ?_); apply LoadGame.mk rfl; (with_reducible exact B1.out)) | ((with_reducible refine load_gate rfl rfl ?_); apply LoadGame.mk rfl; exact c1) | (go_at_call 36; ((with_reducible refine (cm.out).mono ?_); rintro e w1 ⟨rfl, hb⟩; have c1 := B1.out.below hb (by simp <;> omega); have c2 := Lib.hid (B2.out.below hb (by simp <;> omega)); have c3 := Lib.hid (B3.out.below hb (by simp)); have cc := c1.cell; have cl := c1.lt; have hbb := HB.out.trans (hb.mono HB.out.size); have hL1 := Lib.hid ((hL.out.below hbb).wider hbb.size); have hbH := Lib.hid hbb; have hws := hbb.size; clear hb hbb)) | (refine wpList_store_game_new rfl rfl rfl rfl rfl rfl ?_) | ((with_reducible refine append_gate (x := .tmp 28) (y := .tmp 30) (t := 26) (e := 90) (size := 6) (bytes := 32) rfl rfl Tryz.underlying26 hI.out hZ.out hS.out hY.out rfl (by decide) ?_); refine Appends.mk rfl (empty_row w1 w.heap.size _ hws) (lies_two hL1.out _ _) (shotCells_one _) (by unfold maxLen; omega) (by omega) (by simp <;> omega) ?_; intro A1 k1 w2 own1 hg1; have bn := ((Box.made w1 28 (Gm.cells g (.slice A n c))).alloc (.cells #[] 90)).grown hg1 (by intro e; injection e with e; simp at e); have bc := bn.cell; have bf := bn.free; have bl := bn.lt; have HO := Lib.hid own1; have HG := Lib.hid hg1; clear own1 hg1 cc c1))
  go_step
  generalize hBn : w1.heap.size = Bn
  have hS := Lib.hid (ships_start (ps := ps) hN.out hbH.out c2.out c3.out HO.out HG.out)
  rw [hBn] at hS
  have hBnw : w.heap.size + 1 + 1 < Bn := hBn ▸ c3.out.lt
  clear bn bc bf bl HO HG hL1 cl cm e58 hL B1 B2 B3 HB hbH hws c2 c3 hBn
  go_loopg [7] 8 (fun gg i wr => ∃ k : Nat, k ≤ 8 ∧ gg = 8 - k ∧ i = .int .i64 k ∧ Ships ps g w wr (w.heap.size + 1) (w.heap.size + 1 + 1) Bn k)
  case atStart => exact ⟨0, by omega, rfl, rfl, hS.out⟩
  case round =>
    obtain ⟨k, hk, rfl, rfl, hR⟩ := hrel
    clear hS
    by_cases hlt : k < 8
    · obtain ⟨⟨A1, c1, hB, hO⟩, hI1, hR1, hb⟩ := hR
      have hcr := hB.cell
      have hlB := hB.lt
      have hfB := hB.free
      have hic := hI1.cell
      have hil := hI1.lt
      have way := Gm.ph1_way (ps := ps) hg k (by omega)
      have ho := way.ships k hlt
      have hl32 := way.len
      have a0 := cells_at hcr hlt 0 (by omega)
      have a1 := cells_at hcr hlt 1 (by omega)
      have a2 := cells_at hcr hlt 2 (by omega)
      have a3 := cells_at hcr hlt 3 (by omega)
      have a4 := cells_at hcr hlt 4 (by omega)
      have a5 := cells_at hcr hlt 5 (by omega)
      have a6 := cells_at hcr hlt 6 (by omega)
      have q0 := (hic _).trans (Gm.insCells_at ps k 0 hlt (by omega))
      have q1 := (hic _).trans (Gm.insCells_at ps k 1 hlt (by omega))
      have q2 := (hic _).trans (Gm.insCells_at ps k 2 hlt (by omega))
      have hpk := hp k hlt
      obtain ⟨s, hs⟩ : ∃ s, s = (Gm.ph1 ps g k).1 k := ⟨_, rfl⟩
      obtain ⟨p, hpp⟩ : ∃ p, p = ps k := ⟨_, rfl⟩
      obtain ⟨m, hm⟩ : ∃ m, m = (Gm.ph1 ps g k).2.length := ⟨_, rfl⟩
      simp only [← hs, ← hpp, ← hm] at a0 a1 a2 a3 a4 a5 a6 q0 q1 q2 hpk ho hl32
      have e58 := (hcr 58).trans (Gm.cells_58 _ _)
      rw [← hm] at e58
      have c0 := Gm.cells_ship { g with ship := (Gm.ph1 ps g k).1 } (.slice A1 m c1) k 0 hlt (by omega)
      have c1' := Gm.cells_ship { g with ship := (Gm.ph1 ps g k).1 } (.slice A1 m c1) k 1 hlt (by omega)
      have c2 := Gm.cells_ship { g with ship := (Gm.ph1 ps g k).1 } (.slice A1 m c1) k 2 hlt (by omega)
      have c3 := Gm.cells_ship { g with ship := (Gm.ph1 ps g k).1 } (.slice A1 m c1) k 3 hlt (by omega)
      have c4 := Gm.cells_ship { g with ship := (Gm.ph1 ps g k).1 } (.slice A1 m c1) k 4 hlt (by omega)
      have c5 := Gm.cells_ship { g with ship := (Gm.ph1 ps g k).1 } (.slice A1 m c1) k 5 hlt (by omega)
      have c6 := Gm.cells_ship { g with ship := (Gm.ph1 ps g k).1 } (.slice A1 m c1) k 6 hlt (by omega)
      have c58 := Gm.cells_58 { g with ship := (Gm.ph1 ps g k).1 } (.slice A1 m c1)
      simp only [← hs] at c0 c1' c2 c3 c4 c5 c6
      have SS := Lib.hid hs
      have PP := Lib.hid hpp
      have MM := Lib.hid hm
      have HBB := Lib.hid hB
      have HOO := Lib.hid hO
      have HII := Lib.hid hI1
      have HRR := Lib.hid hR1
      have HSS := Lib.hid (show Ships ps g w wr (w.heap.size + 1) (w.heap.size + 1 + 1) Bn k from ⟨⟨A1, c1, hm ▸ hB, hm ▸ hO⟩, hI1, hR1, hb⟩)
      have hbH := Lib.hid hb
      clear hs hpp hm hB hO hI1 hR1 way hcr hic hb
      obtain ⟨on, x, y, vx, vy, cool, score⟩ := s
      obtain ⟨px, py, pb⟩ := p
      obtain ⟨o1, o2, o3, o4, o5, o6, o7, o8, o9⟩ := ho
      simp only [Gm.Ship.cells, List.getElem?_cons_zero, List.getElem?_cons_succ, Nat.add_zero] at c0 c1' c2 c3 c4 c5 c6
      have K0 := Lib.hid c0
      have K1 := Lib.hid c1'
      have K2 := Lib.hid c2
      have K3 := Lib.hid c3
      have K4 := Lib.hid c4
      have K5 := Lib.hid c5
      have K6 := Lib.hid c6
      have K58 := Lib.hid c58
      clear c0 c1' c2 c3 c4 c5 c6 c58
      simp only [Gm.Ship.cells, Gm.In.cells, Gm.inF, Gm.slow, Gm.tyIn, List.getElem?_cons_zero, List.getElem?_cons_succ, Nat.add_zero] at a0 a1 a2 a3 a4 a5 a6 q0 q1 q2 o2 o3 o4 o5 o6 o7 o8 o9 hpk
      obtain ⟨p1, p2, p3⟩ := hpk
      have hk8 : (k : Int) < 8 := by omega
      cases on
      · clear o1
        go_wp2
        go_roundg (8 - (k + 1))
        case measure => omega
        case rel => exact ⟨k + 1, by omega, rfl, by go_num, (ships_off HSS.out (by rw [← SS.out])).alloc _⟩
      · clear o1
        have tx := Gf.tame_bd (a := px) (by omega)
        have ty := Gf.tame_bd (a := py) (by omega)
        go_upto_region 13 with fail
        refine Ro.lex_region (by kernel_rfl) (by kernel_rfl) ?_
        repeat (first | (apply Ro.lex_free rfl rfl; focus (intro _; go_simp; first | done | rfl)) | (apply Ro.lex_load rfl rfl; focus (go_simp; first | done | rfl)) | (apply Ro.lex_store rfl; focus (go_simp; first | done | rfl)) | (apply Ro.lex_call rfl rfl; (focus (go_simp; first | done | rfl | exact ⟨rfl, rfl⟩)); (focus (first | exact reftame_any _ (by omega) _))))
        refine Ro.lex_end ?_
        generalize hX : Gf.tame px = X at tx
        generalize hY : Gf.tame py = Y at ty
        have HX := Lib.hid hX
        have HY := Lib.hid hY
        clear hX hY
        go_upto_region 14 with fail
        refine Ro.lex_region (by kernel_rfl) (by kernel_rfl) ?_
        repeat (first | (apply Ro.lex_free rfl rfl; focus (intro _; go_simp; first | done | rfl)) | (apply Ro.lex_load rfl rfl; focus (go_simp; first | done | rfl)) | (apply Ro.lex_store rfl; focus (go_simp; first | done | rfl)) | (apply Ro.lex_call rfl rfl; (focus (go_simp; first | done | rfl | exact ⟨rfl, rfl⟩)); (focus (first | exact refpush_any _ _ (by omega) (by omega) _))))
        refine Ro.lex_end ?_
        have v1 := Gf.push_bd vx X
        have v2 := Gf.push_bd vy Y
        generalize hX : Gf.push vx X = VX at v1
        generalize hY : Gf.push vy Y = VY at v2
        have HVX := Lib.hid hX
        have HVY := Lib.hid hY
        clear hX hY
        go_upto_region 15 with fail
        refine Ro.lex_region (by kernel_rfl) (by kernel_rfl) ?_
        repeat (first | (apply Ro.lex_free rfl rfl; focus (intro _; go_simp; first | done | rfl)) | (apply Ro.lex_load rfl rfl; focus (go_simp; first | done | rfl)) | (apply Ro.lex_store rfl; focus (go_simp; first | done | rfl)) | (apply Ro.lex_call rfl rfl; (focus (go_simp; first | done | rfl | exact ⟨rfl, rfl⟩)); (focus (first | exact refmove_any _ _ (by omega) (by omega) _))))
        refine Ro.lex_end ?_
        have m1 := Gf.move_bd x VX
        have m2 := Gf.move_bd y VY
        generalize hX : Gf.move x VX = NX at m1
        generalize hY : Gf.move y VY = NY at m2
        have HNX := Lib.hid hX
        have HNY := Lib.hid hY
        clear hX hY
        by_cases hcool : 0 < cool
        · go_wp2
          go_roundg (8 - (k + 1))
          case measure => omega
          case rel =>
            refine ⟨k + 1, by omega, rfl, by go_num, ?_⟩
            have e := Gm.next_cool (p := ps k) (n := (Gm.ph1 ps g k).2.length) (i := k) (s := (Gm.ph1 ps g k).1 k) (by rw [← SS.out]) (by rw [← SS.out]; exact hcool)
            have hq := ships_quiet (Bi := w.heap.size + 1) (Br := w.heap.size + 1 + 1) (Bn := Bn) hlt rfl HBB.out HOO.out HII.out HRR.out hbH.out (by have := hBnw; omega) (by have := hBnw; omega) (by have := hBnw; omega) ⟨true, NX, NY, VX, VY, cool - 1, score⟩ (by rw [e.1, ← SS.out, ← PP.out, ← HNX.out, ← HNY.out, ← HVX.out, ← HVY.out, ← HX.out, ← HY.out]; rfl) e.2
            exact ((((hq.alloc _).alloc _).drew).drew).drew
        · have hcool0 : cool = 0 := by omega
          subst hcool0
          have hbit : bits .and .u8 pb 1 = pb % 2 := by
            obtain ⟨b, rfl⟩ : ∃ b : Nat, pb = b := ⟨pb.toNat, by omega⟩
            rw [show (1 : Int) = ((1 : Nat) : Int) from rfl, u8_and_nat b 1 (by omega) (by omega), nat_mask1]
            rfl
          by_cases hsh : pb % 2 = 1 ∧ m < 32
          · have hm32 : decide ((m : Int) < 32) = true := decide_eq_true (by omega)
            have hb1 : (pb % 2 == 1) = true := by simpa using hsh.1
            have hm31 : m < 32 := hsh.2
            have HYES := Lib.hid (show Gm.shoots ⟨px, py, pb⟩ m ⟨true, x, y, vx, vy, 0, score⟩ = true by unfold Gm.shoots; simp; omega)
            obtain ⟨AX, hAX⟩ : ∃ AX, AX = Gf.aimx X Y := ⟨_, rfl⟩
            obtain ⟨AY, hAY⟩ : ∃ AY, AY = Gf.aimy Y := ⟨_, rfl⟩
            have cA := fun W => Lib.hid (refaim_any X Y pb (by omega) (by omega) p3 W)
            rw [← hAX, ← hAY] at cA
            have HAX := Lib.hid hAX
            have HAY := Lib.hid hAY
            have MM2 := Lib.hid MM.out
            clear hsh hAX hAY
            go_wp2_with (first | (go_at_call 69; ((with_reducible refine ((cA _).out).mono ?_); rintro e w1 ⟨rfl, hb1⟩; have sB := Lib.hid ((((((Box.made wr 24 #[.bool true, .int .i32 NX, .int .i32 NY, .int .i32 VX, .int .i32 VY, .int .i64 0, .int .i64 score]).alloc (.cells #[.int .i8 X, .int .i8 Y, .int .u8 pb] 39)).drew).drew).drew).below hb1 (by simp <;> omega)); have nB := Lib.hid ((((((HBB.out.alloc (.cells #[.bool true, .int .i32 NX, .int .i32 NY, .int .i32 VX, .int .i32 VY, .int .i64 0, .int .i64 score] 24)).alloc (.cells #[.int .i8 X, .int .i8 Y, .int .u8 pb] 39)).drew).drew).drew).below hb1 (by simp <;> omega)); have iB := Lib.hid ((((((HII.out.alloc (.cells #[.bool true, .int .i32 NX, .int .i32 NY, .int .i32 VX, .int .i32 VY, .int .i64 0, .int .i64 score] 24)).alloc (.cells #[.int .i8 X, .int .i8 Y, .int .u8 pb] 39)).drew).drew).drew).below hb1 (by simp <;> omega)); have rB := Lib.hid ((((((HRR.out.alloc (.cells #[.bool true, .int .i32 NX, .int .i32 NY, .int .i32 VX, .int .i32 VY, .int .i64 0, .int .i64 score] 24)).alloc (.cells #[.int .i8 X, .int .i8 Y, .int .u8 pb] 39)).drew).drew).drew).below hb1 (by simp <;> omega)); have oB := Lib.hid (own_below (((((HOO.out.alloc (.cells #[.bool true, .int .i32 NX, .int .i32 NY, .int .i32 VX, .int .i32 VY, .int .i64 0, .int .i64 score] 24)).alloc (.cells #[.int .i8 X, .int .i8 Y, .int .u8 pb] 39)).drew).drew).drew) hb1 (Nat.le_refl _)); have oM := Lib.hid (show w1.ownsRow w.heap.size 90 6 (.slice A1 m c1) m (Gm.shotCells (Gm.ph1 ps g k).2) from (by rw [MM2.out]; exact oB.out)); have nM := Lib.hid (show Box w1 Bn 28 (Gm.cells { g with ship := (Gm.ph1 ps g k).1 } (.slice A1 m c1)) from (by rw [MM2.out]; exact nB.out)); have bB := Lib.hid ((((((hbH.out.alloc (hbH.out.size) (.cells #[.bool true, .int .i32 NX, .int .i32 NY, .int .i32 VX, .int .i32 VY, .int .i64 0, .int .i64 score] 24)).alloc (by simp; have := hbH.out.size; omega) (.cells #[.int .i8 X, .int .i8 Y, .int .u8 pb] 39)).drew).drew).drew).trans (hb1.mono (by simp; have := hbH.out.size; omega))); have z1 : wr.heap.size + 1 < w1.heap.size := (by have := hb1.size; simp at this; omega); have sc := sB.out.cell; have nc := (nM.out.cell 58).trans K58.out; have nl := nM.out.lt; clear hb1)) | ((with_reducible refine append_gate (x := .tmp 102) (y := .tmp 111) (t := 26) (e := 90) (size := 6) (bytes := 32) rfl rfl Tryz.underlying26 hI.out hZ.out hS.out hY.out rfl (by decide) ?_); refine Appends.mk rfl (oM.out.alloc _) (lies_made w1 90 ⟨k, NX, NY, AX, AY, 24⟩) (shotCells_one _) (by unfold maxLen; omega) (by omega) (by have := bB.out.size; simp; omega) ?_; intro A2 k2 w2 own2 hg2; have sB2 := grown_box sB.out oM.out (by decide) hg2; have nB2 := grown_box nM.out oM.out (by decide) hg2; have iB2 := Lib.hid (grown_box iB.out oM.out (by decide) hg2); have rB2 := Lib.hid (grown_box rB.out oM.out (by decide) hg2); have bB2 := Lib.hid ((bB.out.alloc bB.out.size _).grown hg2 (by have := bB.out.size; simp; omega) (fun kk hk => (oM.out.lt kk hk).1)); have sc2 := sB2.cell; have sf2 := sB2.free; have sl2 := sB2.lt; have nc2 := nB2.cell; have nf2 := nB2.free; have nl2 := nB2.lt; have SB2 := Lib.hid sB2; have NB2 := Lib.hid nB2; have OB2 := Lib.hid own2; have q0 := K0.out; have q1 := K1.out; have q2 := K2.out; have q3 := K3.out; have q4 := K4.out; have q5 := K5.out; have q6 := K6.out; have q58 := K58.out; clear own2 hg2 sB2 nB2 sc nc))
            go_roundg (8 - (k + 1))
            case measure => omega
            case rel =>
              refine ⟨k + 1, by omega, rfl, by go_num, ?_⟩
              have e := Gm.next_shot (p := ps k) (n := m) (i := k) (s := (Gm.ph1 ps g k).1 k) (by rw [← SS.out]) (by rw [← SS.out]) (by rw [← SS.out, ← PP.out]; exact HYES.out)
              exact ships_shot hlt MM.out ⟨k, NX, NY, AX, AY, 24⟩ NB2.out OB2.out iB2.out rB2.out SB2.out bB2.out (by omega) (by omega) (by omega) (by omega) (by omega) (by omega) (by omega) ⟨true, NX, NY, VX, VY, 10, score⟩ (.int .i64 10)
                (by rw [e.1, ← SS.out, ← PP.out, ← HNX.out, ← HNY.out, ← HVX.out, ← HVY.out, ← HX.out, ← HY.out]; rfl)
                (by rw [e.2, ← SS.out, ← PP.out, HAX.out, HAY.out, ← HNX.out, ← HNY.out, ← HVX.out, ← HVY.out, ← HX.out, ← HY.out]; rfl)
          · have HNO := Lib.hid (show Gm.shoots ⟨px, py, pb⟩ m ⟨true, x, y, vx, vy, 0, score⟩ = false by
              unfold Gm.shoots; simp; intro h; omega)
            have hfin : ∀ w', w' = (((stored wr Bn k ⟨true, NX, NY, VX, VY, 0, score⟩).alloc (.cells #[.bool true, .int .i32 NX, .int .i32 NY, .int .i32 VX, .int .i32 VY, .int .i64 0, .int .i64 score] 24)).alloc (.cells #[.int .i8 X, .int .i8 Y, .int .u8 pb] 39)).drew.drew.drew → Ships ps g w w' (w.heap.size + 1) (w.heap.size + 1 + 1) Bn (k + 1) := fun w' hw' => by
              subst hw'
              have e := Gm.next_rest (p := ps k) (n := (Gm.ph1 ps g k).2.length) (i := k) (s := (Gm.ph1 ps g k).1 k) (by rw [← SS.out]) (by rw [← SS.out]) (by rw [← SS.out, ← PP.out, ← MM.out]; exact HNO.out)
              have hq := ships_quiet (Bi := w.heap.size + 1) (Br := w.heap.size + 1 + 1) (Bn := Bn) hlt rfl HBB.out HOO.out HII.out HRR.out hbH.out (by omega) (by omega) (by omega) ⟨true, NX, NY, VX, VY, 0, score⟩ (by rw [e.1, ← SS.out, ← PP.out, ← HNX.out, ← HNY.out, ← HVX.out, ← HVY.out, ← HX.out, ← HY.out]; rfl) e.2
              exact ((((hq.alloc _).alloc _).drew).drew).drew
            have HF := Lib.hid hfin
            clear hfin
            by_cases hodd : pb % 2 = 1
            · have hm32 : decide ((m : Int) < 32) = false := decide_eq_false (by omega)
              have hb1 : (pb % 2 == 1) = true := by simpa using hodd
              clear hsh hodd
              go_wp2
              go_roundg (8 - (k + 1))
              case measure => omega
              case rel => exact ⟨k + 1, by omega, rfl, by go_num, HF.out _ rfl⟩
            · have hb1 : (pb % 2 == 1) = false := by simpa using hodd
              clear hsh hodd
              go_wp2
              go_roundg (8 - (k + 1))
              case measure => omega
              case rel => exact ⟨k + 1, by omega, rfl, by go_num, HF.out _ rfl⟩
    · have hk' : k = 8 := by omega
      subst hk'
      obtain ⟨⟨A1, c1, hB, hO⟩, hI1, hR1, hb⟩ := hR
      have way := Gm.ph1_way (ps := ps) hg 8 (Nat.le_refl _)
      obtain ⟨F, hF⟩ : ∃ F, F = (Gm.ph1 ps g 8).1 := ⟨_, rfl⟩
      obtain ⟨l, hl⟩ : ∃ l, l = (Gm.ph1 ps g 8).2 := ⟨_, rfl⟩
      rw [← hF, ← hl] at way
      rw [← hF, ← hl] at hB
      rw [← hl] at hO
      obtain ⟨wships, wshots, wlen⟩ := way
      have way0 : Gm.Way2 ⟨g.dice, F, []⟩ := ⟨wships, fun t ht => (by cases ht), hd⟩
      have hS0 := Lib.hid (show Shoots g l ⟨g.dice, F, []⟩ A1 c1 w wr (w.heap.size + 1 + 1) Bn wr.heap.size (.slice none 0 0) from
        ⟨hB, Lies.owned hO, ⟨none, 0, rfl, World.ownsRow_nil _ _ _ _⟩, hR1, hb, Nat.le_refl _⟩)
      have hBnl := hB.lt
      have FF := Lib.hid hF
      have LL := Lib.hid hl
      generalize hBl : wr.heap.size = Bl at hBnl
      rw [hBl] at hS0
      clear hF hl hB hO hI1 hR1 hb hBl
      go_wp2
      go_loopg [12, 13] l.length (fun gg s12 i w' => ∃ j : Nat, j ≤ l.length ∧ gg = l.length - j ∧ i = .int .i64 j ∧ Shoots g l (Gm.ph2 ⟨g.dice, F, []⟩ (l.take j)) A1 c1 w w' (w.heap.size + 1 + 1) Bn Bl s12)
      case atStart => exact ⟨0, by omega, rfl, rfl, hS0.out⟩
      case round =>
        obtain ⟨j, hj, rfl, rfl, hR⟩ := hrel
        clear hS0
        have HR := Lib.hid hR
        obtain ⟨hB, hL, ⟨A2, c2, e12, hO⟩, hR1, hb, hsz⟩ := hR
        subst e12
        have hcr := hB.cell
        have hfB := hB.free
        have hlB := hB.lt
        have c58 := Gm.cells_58 { g with dice := (Gm.ph2 ⟨g.dice, F, []⟩ (l.take j)).dice, ship := (Gm.ph2 ⟨g.dice, F, []⟩ (l.take j)).ship } (.slice A1 l.length c1)
        by_cases hlt : j < l.length
        · have hjl : (j : Int) < (l.length : Int) := by omega
          obtain ⟨way2, len2⟩ := Gm.ph2_way way0 wshots j hj
          have hsn := Lib.hid (Gm.ph2_snoc ⟨g.dice, F, []⟩ l j hlt)
          obtain ⟨ad, rfl, hbl, a0, a1, a2, a3, a4, a5⟩ := shots_at hL rfl j hlt
          have oks := wshots _ (List.getElem_mem hlt)
          obtain ⟨s, hs⟩ : ∃ s, s = l[j] := ⟨_, rfl⟩
          rw [← hs] at a0 a1 a2 a3 a4 a5 oks
          have SS := Lib.hid hs
          generalize hst : Gm.ph2 ⟨g.dice, F, []⟩ (l.take j) = st at *
          obtain ⟨owner, x, y, vx, vy, left⟩ := s
          have OKS := Lib.hid oks
          obtain ⟨o1, o2, o3, o4, o5, o6, o7, o8⟩ := oks
          simp only [Gm.inF, Gm.slow] at o1 o2 o3 o4 o5 o6 o7 o8
          dsimp only at a0 a1 a2 a3 a4 a5
          have hsub : IntKind.i64.wrap (left - 1) = left - 1 := by rw [IntKind.wrap_i64]; omega
          have HSUB := Lib.hid hsub
          have HBB := Lib.hid hB
          have HOO := Lib.hid hO
          clear hsub hs hB hO hL hR1 hb hbl
          go_upto_region 28 with fail
          have hsub := HSUB.out
          refine Ro.lex_region (by kernel_rfl) (by kernel_rfl) ?_
          repeat (first | (apply Ro.lex_free rfl rfl; focus (intro _; go_simp; first | done | rfl)) | (apply Ro.lex_load rfl rfl; focus (go_simp; first | done | rfl)) | (apply Ro.lex_store rfl; focus (go_simp; first | done | rfl)) | (apply Ro.lex_call rfl rfl; (focus (go_simp; first | done | rfl | exact ⟨rfl, rfl⟩)); (focus (first | exact refmove_any _ _ (by omega) (by omega) _))))
          refine Ro.lex_end ?_
          clear hsub
          have m1 := Gf.move_bd x vx
          have m2 := Gf.move_bd y vy
          generalize hX : Gf.move x vx = NX at m1
          generalize hY : Gf.move y vy = NY at m2
          have HNX := Lib.hid hX
          have HNY := Lib.hid hY
          clear hX hY
          by_cases hl1 : left = 1
          · subst hl1
            go_wp2
            go_roundg (l.length - (j + 1))
            case measure => omega
            case rel =>
              refine ⟨j + 1, by omega, rfl, by go_num, ?_⟩
              have e : Gm.ph2 ⟨g.dice, F, []⟩ (l.take (j + 1)) = st := by
                rw [hsn.out, ← SS.out]; unfold Gm.shot1; rw [if_pos (by show (1 : Int) - 1 = 0; rfl)]
              rw [e]
              exact (HR.out.alloc _).drew
          · have hl0 : (left - 1 == 0) = false := by simp; omega
            have hfly : Gm.fly ⟨owner, x, y, vx, vy, left⟩ = ⟨owner, NX, NY, vx, vy, left - 1⟩ := by rw [← HNX.out, ← HNY.out]; rfl
            have hft := Gm.fly_ty OKS.out
            rw [hfly] at hft
            have cH := fun W => Lib.hid (refhit_any { g with dice := st.dice, ship := st.ship } (.slice (some ad) l.length c1) ⟨owner, NX, NY, vx, vy, left - 1⟩ W (fun i hi => (way2.ships i hi).ty) hft)
            simp only [Gm.Shot.cells] at cH
            have hbd := Gm.hit_bd st.ship ⟨owner, NX, NY, vx, vy, left - 1⟩
            have HFLY := Lib.hid hfly
            obtain ⟨H, hH⟩ : ∃ H, H = Gm.hit st.ship ⟨owner, NX, NY, vx, vy, left - 1⟩ := ⟨_, rfl⟩
            rw [← hH] at hbd
            have hcH : ∀ W, Hid (Calls Tryz.prog 70 #[.agg (Gm.cells { g with dice := st.dice, ship := st.ship } (.slice (some ad) l.length c1)), .agg #[.int .i64 owner, .int .i32 NX, .int .i32 NY, .int .i32 vx, .int .i32 vy, .int .i64 (left - 1)]] W fun e w' => e = .returned (.int .i64 H) ∧ Below W.heap.size W w') := fun W => by rw [hH]; exact cH W
            have HH := Lib.hid hH
            have GB := Lib.hid (HBB.out.alloc (.cells #[.int .i64 owner, .int .i32 NX, .int .i32 NY, .int .i32 vx, .int .i32 vy, .int .i64 (left - 1)] 90)).drew
            have n32 : st.left.length ≤ 32 := by have : (Gm.St.left ⟨g.dice, F, []⟩).length = 0 := rfl; omega
            clear hfly hft cH hH
            rcases hbd with hno | ⟨kh, hyes, hkh, hhk⟩
            · subst hno
              go_wp2_with (first | ((with_reducible refine load_gate rfl rfl ?_); apply LoadGame.mk rfl; exact GB.out) | (go_at_call 70; ((with_reducible refine ((hcH _).out).mono ?_); rintro e w1 ⟨rfl, hb1⟩; have s1 := Lib.hid ((((Box.made _ 90 #[.int .i64 owner, .int .i32 NX, .int .i32 NY, .int .i32 vx, .int .i32 vy, .int .i64 (left - 1)]).drew)).below hb1 (by simp)); have on1 := Lib.hid (((HR.out.alloc (.cells #[.int .i64 owner, .int .i32 NX, .int .i32 NY, .int .i32 vx, .int .i32 vy, .int .i64 (left - 1)] 90)).drew).on hb1); have oM := Lib.hid (own_below ((HOO.out.alloc (.cells #[.int .i64 owner, .int .i32 NX, .int .i32 NY, .int .i32 vx, .int .i32 vy, .int .i64 (left - 1)] 90)).drew) hb1 (Nat.le_refl _)); have sc := s1.out.cell; have sl := s1.out.lt; clear hb1)) | ((with_reducible refine append_gate (x := .tmp 155) (y := .tmp 157) (t := 26) (e := 90) (size := 6) (bytes := 32) rfl rfl Tryz.underlying26 hI.out hZ.out hS.out hY.out rfl (by decide) ?_); refine Appends.mk rfl (oM.out.alloc _) (lies_made w1 90 ⟨owner, NX, NY, vx, vy, left - 1⟩) (shotCells_one _) (by unfold maxLen; omega) (by omega) (by have := on1.out.size; simp; omega) ?_; intro A3 k3 w2 own2 hg2; have SH2 := Lib.hid (shoots_kept on1.out oM.out own2 hg2 (by omega)); clear own2 hg2 sc))
              go_roundg (l.length - (j + 1))
              case measure => omega
              case rel =>
                refine ⟨j + 1, by omega, rfl, by go_num, ?_⟩
                have e : Gm.ph2 ⟨g.dice, F, []⟩ (l.take (j + 1)) = { st with left := st.left ++ [⟨owner, NX, NY, vx, vy, left - 1⟩] } := by
                  rw [hsn.out, ← SS.out]; unfold Gm.shot1
                  rw [HFLY.out, if_neg (by dsimp only; omega), if_pos (by rw [← HH.out]; decide)]
                rw [e]
                exact SH2.out
            · subst hyes
              have hk0 : ¬ (kh : Int) < 0 := by omega
              have hk8 : (kh : Int) < 8 := by omega
              have hdice := way2.dice
              have hoks := fun i hi => (way2.ships i hi).2.2.2.2.2.2
              obtain ⟨o, rfl⟩ : ∃ o : Nat, owner = (o : Int) := ⟨owner.toNat, by omega⟩
              have ho : o < 8 := by omega
              have ho8 : (o : Int) < 8 := by omega
              obtain ⟨X, hX⟩ : ∃ X, X = Gm.placeX st.dice := ⟨_, rfl⟩
              obtain ⟨Y, hY⟩ : ∃ X, X = Gm.placeY st.dice := ⟨_, rfl⟩
              obtain ⟨D, hD⟩ : ∃ X, X = Gm.placeD st.dice := ⟨_, rfl⟩
              have cP : ∀ W, Hid (Calls Tryz.prog 65 #[.int .u64 st.dice] W fun e w' => e = .returned (.tuple #[.int .i32 X, .int .i32 Y, .int .u64 D]) ∧ W = w') := fun W => Lib.hid (by rw [hX, hY, hD]; exact refplace_any st.dice hdice W)
              obtain ⟨t, ht⟩ : ∃ t, t = st.ship kh := ⟨_, rfl⟩
              have e1 := Gm.cells_1 { g with dice := st.dice, ship := st.ship } (.slice (some ad) l.length c1)
              have q0 := (Gm.cells_ship { g with dice := st.dice, ship := st.ship } (.slice (some ad) l.length c1) kh 0 hkh (by omega)).trans (by rw [ht]; rfl : _ = some (.bool t.on))
              have q1 := (Gm.cells_ship { g with dice := st.dice, ship := st.ship } (.slice (some ad) l.length c1) kh 1 hkh (by omega)).trans (by rw [ht]; rfl : _ = some (.int .i32 t.x))
              have q2 := (Gm.cells_ship { g with dice := st.dice, ship := st.ship } (.slice (some ad) l.length c1) kh 2 hkh (by omega)).trans (by rw [ht]; rfl : _ = some (.int .i32 t.y))
              have q3 := (Gm.cells_ship { g with dice := st.dice, ship := st.ship } (.slice (some ad) l.length c1) kh 3 hkh (by omega)).trans (by rw [ht]; rfl : _ = some (.int .i32 t.vx))
              have q4 := (Gm.cells_ship { g with dice := st.dice, ship := st.ship } (.slice (some ad) l.length c1) kh 4 hkh (by omega)).trans (by rw [ht]; rfl : _ = some (.int .i32 t.vy))
              have q5 := (Gm.cells_ship { g with dice := st.dice, ship := st.ship } (.slice (some ad) l.length c1) kh 5 hkh (by omega)).trans (by rw [ht]; rfl : _ = some (.int .i64 t.cool))
              have q6 := (Gm.cells_ship { g with dice := st.dice, ship := st.ship } (.slice (some ad) l.length c1) kh 6 hkh (by omega)).trans (by rw [ht]; rfl : _ = some (.int .i64 t.score))
              simp only [Nat.add_zero] at q0
              have HX := Lib.hid hX
              have HY := Lib.hid hY
              have HD := Lib.hid hD
              have HTT := Lib.hid ht
              have HOKS := Lib.hid hoks
              have BNL := Lib.hid (show Bn < wr.heap.size from HBB.out.lt)
              clear hX hY hD ht hoks hdice hhk
              go_upto_region 36 with (first | ((with_reducible refine load_gate rfl rfl ?_); apply LoadGame.mk rfl; exact GB.out) | (go_at_call 65; ((with_reducible refine ((cP _).out).mono ?_); rintro e w6 ⟨rfl, rfl⟩)) | (go_at_call 70; ((with_reducible refine ((hcH _).out).mono ?_); rintro e w5 ⟨rfl, hb1⟩; have S1 := Lib.hid ((((Box.made wr 90 #[.int .i64 o, .int .i32 NX, .int .i32 NY, .int .i32 vx, .int .i32 vy, .int .i64 (left - 1)]).drew)).below hb1 (by simp)); have H1 := Lib.hid (((HR.out.alloc (.cells #[.int .i64 o, .int .i32 NX, .int .i32 NY, .int .i32 vx, .int .i32 vy, .int .i64 (left - 1)] 90)).drew).on hb1); have G1 := Lib.hid (GB.out.below hb1 GB.out.lt); have gc := G1.out.cell; have gf := G1.out.free; have gl := G1.out.lt; clear hb1)))
              have hF0 : ∃ FN, FN = Gm.upd st.ship kh ⟨true, X, Y, 0, 0, 0, t.score⟩ := ⟨_, rfl⟩
              obtain ⟨FN, hF⟩ := hF0
              have hgen : ∀ W : World, W = stored (w5.setCell ⟨Bn, 1, none⟩ (.int .u64 D)) Bn kh ⟨true, X, Y, 0, 0, 0, t.score⟩ → Box W Bn 28 (Gm.cells { g with dice := D, ship := FN } (.slice (some ad) l.length c1)) ∧ Box W wr.heap.size 90 #[.int .i64 o, .int .i32 NX, .int .i32 NY, .int .i32 vx, .int .i32 vy, .int .i64 (left - 1)] ∧ (∀ b, b ≠ Bn → W.heap[b]? = w5.heap[b]?) ∧ Below Bn w5 W := fun W hW => by
                subst hW
                have nes : wr.heap.size ≠ Bn := by have := BNL.out; omega
                refine ⟨?_, stored_far (S1.out.far nes _) nes _, fun b hb => (stored_else _ b hb).trans (heap_setCell_other _ _ b _ hb), stored_below ((Below.refl Bn w5).setCell (p := ⟨Bn, 1, none⟩) (Nat.le_refl Bn) _) (Nat.le_refl Bn) _⟩
                rw [hF]
                exact blk_ship (g := { g with dice := D, ship := st.ship }) (blk_dice G1.out D) hkh _
              obtain ⟨W2, hW2⟩ : ∃ W2, W2 = stored (w5.setCell ⟨Bn, 1, none⟩ (.int .u64 D)) Bn kh ⟨true, X, Y, 0, 0, 0, t.score⟩ := ⟨_, rfl⟩
              have hh2 := hgen W2 hW2
              simp only [stored] at hW2
              rw [← hW2]
              obtain ⟨g2, s2, hk2, hb2⟩ := hh2
              have hsF : ∀ i, i < 8 → 0 ≤ (FN i).score ∧ (FN i).score ≤ 1073741824 := fun i hi => by
                have h1 := HOKS.out i hi
                have h2 := HOKS.out kh hkh
                rw [hF]; unfold Gm.upd; split
                · dsimp only; rw [HTT.out]; exact h2.2
                · exact h1.2
              have sco := hsF o ho
              have r0 := Gm.cells_ship { g with dice := D, ship := FN } (.slice (some ad) l.length c1) o 0 ho (by omega)
              have r6 := Gm.cells_ship { g with dice := D, ship := FN } (.slice (some ad) l.length c1) o 6 ho (by omega)
              simp only [Gm.Ship.cells, List.getElem?_cons_zero, List.getElem?_cons_succ, Nat.add_zero] at r0 r6
              have FH := Lib.hid hF
              have hsco := Lib.hid (fun u => (show Box (W2.setCell ⟨Bn, 2 + o * 7 + 6, none⟩ (.int .i64 u)) Bn 28 (Gm.cells { g with dice := D, ship := Gm.upd FN o { FN o with score := u } } (.slice (some ad) l.length c1)) from by
                have h := g2.put (2 + o * 7 + 6) (.int .i64 u)
                have e := set_score { g with dice := D, ship := FN } (.slice (some ad) l.length c1) o (FN o) ho u
                dsimp only at e
                rw [Gm.upd_self] at e
                rw [e] at h
                exact h))
              have G2 := Lib.hid g2
              have K2 := Lib.hid hk2
              have B2 := Lib.hid hb2
              have gc := g2.cell
              have gf := g2.free
              have gl := g2.lt
              have s0 := s2.cell
              have E1 := Lib.hid (show ∀ FN', (FN' = Gm.more FN o) → Gm.ph2 ⟨g.dice, F, []⟩ (l.take (j + 1)) = ⟨D, FN', st.left⟩ from fun FN' hF' => by
                rw [hsn.out, ← SS.out]; unfold Gm.shot1
                rw [HFLY.out, if_neg (by dsimp only; omega), if_neg (by rw [← HH.out]; omega), ← HH.out, HD.out, hF', FH.out, HX.out, HY.out, HTT.out]
                rfl)
              have FF2 : Hid (Gm.more FN o = if (FN o).on = true then Gm.upd FN o { FN o with score := min ((FN o).score + 1) 1073741824 } else FN) := Lib.hid rfl
              clear hgen hW2 hF g2 s2 hk2 hb2 S1 G1 hsF q0 q1 q2 q3 q4 q5 q6 e1 cP hcH GB
              cases hon : (FN o).on
              · rw [hon] at r0
                have HON := Lib.hid hon
                clear hon
                go_wp2
                go_roundg (l.length - (j + 1))
                case measure => omega
                case rel =>
                  refine ⟨j + 1, by omega, rfl, by go_num, ?_⟩
                  rw [E1.out FN (by rw [FF2.out, if_neg (by rw [HON.out]; simp)])]
                  exact (H1.out.hit (st' := ⟨D, FN, st.left⟩) rfl G2.out (fun b hb _ => K2.out b hb) (by omega) B2.out (by omega))
              · rw [hon] at r0
                have HON := Lib.hid hon
                clear hon
                generalize (FN o).score = so at *
                have hwrap : IntKind.i64.wrap (so + 1) = so + 1 := by rw [IntKind.wrap_i64]; omega
                go_upto_region 37 with fail
                by_cases hms : so + 1 ≤ 1073741824
                · have MM := Lib.hid (Int.min_eq_left hms)
                  refine Ro.lex_region (by kernel_rfl) (by kernel_rfl) ?_
                  repeat (first | (apply Ro.lex_free rfl rfl; focus (intro _; go_simp; first | done | rfl)) | (apply Ro.lex_load rfl rfl; focus (go_simp; first | done | rfl)) | (apply Ro.lex_store rfl; focus (go_simp; first | done | rfl)))
                  refine Ro.lex_end ?_
                  go_wp2
                  go_roundg (l.length - (j + 1))
                  case measure => omega
                  case rel =>
                    refine ⟨j + 1, by omega, rfl, by go_num, ?_⟩
                    rw [E1.out (Gm.upd FN o { FN o with score := (so + 1) }) (by rw [FF2.out, if_pos HON.out, MM.out])]
                    have hfin := H1.out.hit (st' := ⟨D, Gm.upd FN o { FN o with score := (so + 1) }, st.left⟩) rfl (hsco.out (so + 1)) (fun b hb _ => (heap_setCell_other _ _ b _ hb).trans (K2.out b hb)) (by omega) (B2.out.setCell (p := ⟨Bn, 2 + o * 7 + 6, none⟩) (Nat.le_refl Bn) _) (by omega)
                    first | exact hfin.drew | exact hfin
                · have MM := Lib.hid (Int.min_eq_right (show (1073741824 : Int) ≤ so + 1 by omega))
                  refine Ro.lex_region (by kernel_rfl) (by kernel_rfl) ?_
                  repeat (first | (apply Ro.lex_free rfl rfl; focus (intro _; go_simp; first | done | rfl)) | (apply Ro.lex_load rfl rfl; focus (go_simp; first | done | rfl)) | (apply Ro.lex_store rfl; focus (go_simp; first | done | rfl)))
                  refine Ro.lex_end ?_
                  go_wp2
                  go_roundg (l.length - (j + 1))
                  case measure => omega
                  case rel =>
                    refine ⟨j + 1, by omega, rfl, by go_num, ?_⟩
                    rw [E1.out (Gm.upd FN o { FN o with score := 1073741824 }) (by rw [FF2.out, if_pos HON.out, MM.out])]
                    have hfin := H1.out.hit (st' := ⟨D, Gm.upd FN o { FN o with score := 1073741824 }, st.left⟩) rfl (hsco.out 1073741824) (fun b hb _ => (heap_setCell_other _ _ b _ hb).trans (K2.out b hb)) (by omega) (B2.out.setCell (p := ⟨Bn, 2 + o * 7 + 6, none⟩) (Nat.le_refl Bn) _) (by omega)
                    first | exact hfin.drew | exact hfin
        · have hjl : ¬ (j : Int) < (l.length : Int) := by omega
          have hje : j = l.length := by omega
          obtain ⟨st, hst⟩ : ∃ st, st = Gm.ph2 ⟨g.dice, F, []⟩ (l.take j) := ⟨_, rfl⟩
          rw [← hst] at hB hO hcr c58 HR
          have e0 := Gm.cells_0 { g with dice := st.dice, ship := st.ship } (.slice A1 l.length c1)
          have hstep : Gm.step ps g = ⟨g.frame + 1, st.dice, st.ship, st.left⟩ := by
            rw [hst, hje, List.take_length, FF.out, LL.out]; rfl
          have g1 := Lib.hid (blk_frame (blk_shots hB (.slice A2 st.left.length c2)) (g.frame + 1))
          have g2 := Lib.hid ((hR1.far (p := ⟨Bn, 58, none⟩) (show w.heap.size + 1 + 1 ≠ Bn by omega) (.slice A2 st.left.length c2)).far (p := ⟨Bn, 0, none⟩) (show w.heap.size + 1 + 1 ≠ Bn by omega) (.int .i64 (g.frame + 1)))
          have ne : (Value.slice A2 st.left.length c2).ownBlock ≠ some Bn := hB.unowned hO (by decide)
          have ne2 : (Value.slice A2 st.left.length c2).ownBlock ≠ some (w.heap.size + 1 + 1) := hR1.unowned hO (by decide)
          have NE := Lib.hid ne
          have NE2 := Lib.hid ne2
          have HOO := Lib.hid hO
          have HBW := Lib.hid hb
          have HST := Lib.hid hstep
          rw [← hst]
          clear hstep hst hB hO hR1 hb ne ne2 hL hje
          go_wp2_with (first | ((with_reducible refine load_gate rfl rfl ?_); apply LoadGame.mk rfl; exact g1.out) | ((with_reducible refine store_gate rfl rfl ?_); apply StoreGame.mk rfl rfl rfl; exact g2.out))
          refine bodyPost_ret (v := .tuple #[.agg (Gm.cells { g with frame := g.frame + 1, dice := st.dice, ship := st.ship } (.slice A2 st.left.length c2)), .int .i64 0]) ?_ ?_ ?_
          · exact results_cell_tmp (p := 4) (q := 5) rfl _ _ _ _ (Gm.cells { g with frame := g.frame + 1, dice := st.dice, ship := st.ship } (.slice A2 st.left.length c2)) _ rfl (Box.row g2.out _) Tryz.underlying28 rfl game_info
          · rfl
          · rw [HST.out]
            refine ⟨A2, c2, rfl, ?_, ?_⟩
            · exact Lies.owned (own_setRow (ownsRow_setCell_other (a := ⟨Bn, 0, none⟩) (ownsRow_setCell_other (a := ⟨Bn, 58, none⟩) HOO.out NE.out _) NE.out _) NE2.out _)
            · exact Below.setRow' ((HBW.out.setCell (by show w.heap.size ≤ Bn; omega) _).setCell (by show w.heap.size ≤ Bn; omega) _) (by omega) _
end Go.Proofs.YtiahpncglpfjeaaGreat
namespace Go.Proofs.YtiahpncglpfjeaaGreat
open Go.RowKit Go.Shelf
set_option linter.unusedVariables false
set_option linter.unusedSimpArgs false

/-- The block that a slice lies in holds rows of that type. -/
structure Typed (w : World) (t : TypeId) (A : Option Addr) : Prop where
  is : ∀ ad, A = some ad → ∃ cs fz, w.heap[ad.block]? = some (.cells cs t fz)
section
variable {w w' : World} {t : TypeId} {A : Option Addr}
theorem Typed.none : Typed w t none := ⟨fun ad h => nomatch h⟩
theorem Typed.lt (h : Typed w t A) {ad : Addr} (e : A = some ad) : ad.block < w.heap.size := by
  obtain ⟨cs, fz, h1⟩ := h.is ad e
  exact (Array.getElem?_eq_some_iff.1 h1).1
theorem Typed.below {B : Nat} (h : Typed w t A) (hb : Below B w w') (hB : w.heap.size ≤ B) : Typed w' t A := ⟨fun ad e => by
  obtain ⟨cs, fz, h1⟩ := h.is ad e
  exact ⟨cs, fz, (hb.block _ (Nat.lt_of_lt_of_le (h.lt e) hB)).trans h1⟩⟩
theorem Typed.call (h : Typed w t A) (hb : Below w.heap.size w w') : Typed w' t A := h.below hb (Nat.le_refl _)
theorem Typed.row {B : Nat} {t' : TypeId} {old : Array Value} (h : Typed w t A) (hB : Box w B t' old) (cs : Array Value) : Typed (w.setRow B cs) t A := ⟨fun ad e => by
  obtain ⟨cs1, fz, h1⟩ := h.is ad e
  by_cases eb : ad.block = B
  · rw [eb, hB.is] at h1
    injection h1 with h1
    injection h1 with _ ht _
    subst ht
    rw [eb]
    exact ⟨_, _, (hB.row cs).is⟩
  · exact ⟨cs1, fz, (setRow_other w B _ cs eb).trans h1⟩⟩
theorem Typed.owned {base size n c : Nat} {xs : List Value} (h : w.ownsRow base t size (.slice A n c) n xs) : Typed w t A := ⟨fun ad e => by
  obtain ⟨_, ⟨h1, _⟩ | ⟨g, cap, cur, hv, _, hg, _⟩⟩ := h
  · injection h1 with h1; rw [e] at h1; cases h1
  · injection hv with h1
    rw [e] at h1
    injection h1 with h1
    rw [h1]
    exact ⟨_, _, hg⟩⟩
end
/-- What Step hands back. -/
def StepOutT (g' : Gm.G) (w : World) (e : Ending) (w' : World) : Prop :=
  ∃ A c, e = .returned (.tuple #[.agg (Gm.cells g' (.slice A g'.shots.length c)), .int .i64 0]) ∧ Lies w' w'.heap.size 6 A g'.shots.length (Gm.shotCells g'.shots) ∧ Typed w' 90 A ∧ Below w.heap.size w w'

set_option maxRecDepth 100000 in
set_option maxHeartbeats 8000000 in
theorem refstep_own (ps : Nat → Gm.In) (g : Gm.G) (A : Option Addr) (n c : Nat) (w : World) (hg : Gm.ok g) (hf : g.frame < 1048576) (hd : 0 ≤ g.dice ∧ g.dice ≤ 18446744073709551615) (hp : ∀ i, i < 8 → Gm.tyIn (ps i)) (hn : n = g.shots.length) (hr : Lies w w.heap.size 6 A n (Gm.shotCells g.shots)) :
    Calls Tryz.prog 34 #[.agg (Gm.cells g (.slice A n c)), .agg (Gm.insCells ps).toArray] w (StepOutT (Gm.step ps g) w) := by
  have b1 : Box (((w.alloc (.cells (Gm.cells g (.slice A n c)) 28)).alloc (.cells (Gm.insCells ps).toArray 40)).alloc (.cells (Gm.cells zeroG (.slice none 0 0)) 28)) w.heap.size 28 (Gm.cells g (.slice A n c)) := ((Box.made _ _ _).alloc _).alloc _
  have b2 : Box (((w.alloc (.cells (Gm.cells g (.slice A n c)) 28)).alloc (.cells (Gm.insCells ps).toArray 40)).alloc (.cells (Gm.cells zeroG (.slice none 0 0)) 28)) (w.heap.size + 1) 40 (Gm.insCells ps).toArray := (Box.made_at _ _ _ (by simp)).alloc _
  have b3 : Box (((w.alloc (.cells (Gm.cells g (.slice A n c)) 28)).alloc (.cells (Gm.insCells ps).toArray 40)).alloc (.cells (Gm.cells zeroG (.slice none 0 0)) 28)) (w.heap.size + 1 + 1) 28 (Gm.cells zeroG (.slice none 0 0)) := Box.made_at _ _ _ (by simp)
  have hb0 : Below w.heap.size w (((w.alloc (.cells (Gm.cells g (.slice A n c)) 28)).alloc (.cells (Gm.insCells ps).toArray 40)).alloc (.cells (Gm.cells zeroG (.slice none 0 0)) 28)) := (two_below' w _ _).alloc (by simp <;> omega) _
  have cm := Lib.hid (refmay_yes g A n c _ hg hn ((hr.below hb0).wider hb0.size))
  have hf0 : 0 ≤ g.frame := hg.1
  have fr : (g.frame == 1048576) = false := by simpa using Int.ne_of_lt hf
  have e0 := Gm.cells_0 g (.slice A n c)
  have e58 := Gm.cells_58 g (.slice A n c)
  have hN := Lib.hid hn
  have B1 := Lib.hid b1
  have B2 := Lib.hid b2
  have B3 := Lib.hid b3
  have HB := Lib.hid hb0
  have hn32 : n ≤ 32 := by rw [hn]; exact hg.2.2.1
  obtain ⟨i0, hi0, hz0, hz1, hz2⟩ := info_parts shot_info
  have hI := Lib.hid hi0
  have hZ := Lib.hid hz0
  have hS := Lib.hid hz1
  have hY := Lib.hid hz2
  have hL := Lib.hid hr
  clear hn b1 b2 b3 hb0 hi0 hz0 hz1 hz2 hr
  go_enter Tryz.func34, Tryz.ntmps34
  go_upto_block 0 with (first | (refine wpList_alloc_game rfl rfl ?_) | ((with_reducible refine load_gate rfl rfl ?_); apply LoadGame.mk rfl; (with_reducible exact B1.out)) | ((with_reducible refine load_gate rfl rfl ?_); apply LoadGame.mk rfl; exact c1) | (go_at_call 36; ((with_reducible refine (cm.out).mono ?_); rintro e w1 ⟨rfl, hb⟩; have c1 := B1.out.below hb (by simp <;> omega); have c2 := Lib.hid (B2.out.below hb (by simp <;> omega)); have c3 := Lib.hid (B3.out.below hb (by simp)); have cc := c1.cell; have cl := c1.lt; have hbb := HB.out.trans (hb.mono HB.out.size); have hL1 := Lib.hid ((hL.out.below hbb).wider hbb.size); have hbH := Lib.hid hbb; have hws := hbb.size; clear hb hbb)) | (refine wpList_store_game_new rfl rfl rfl rfl rfl rfl ?_) | ((with_reducible refine append_gate (x := .tmp 28) (y := .tmp 30) (t := 26) (e := 90) (size := 6) (bytes := 32) rfl rfl Tryz.underlying26 hI.out hZ.out hS.out hY.out rfl (by decide) ?_); refine Appends.mk rfl (empty_row w1 w.heap.size _ hws) (lies_two hL1.out _ _) (shotCells_one _) (by unfold maxLen; omega) (by omega) (by simp <;> omega) ?_; intro A1 k1 w2 own1 hg1; have bn := ((Box.made w1 28 (Gm.cells g (.slice A n c))).alloc (.cells #[] 90)).grown hg1 (by intro e; injection e with e; simp at e); have bc := bn.cell; have bf := bn.free; have bl := bn.lt; have HO := Lib.hid own1; have HG := Lib.hid hg1; clear own1 hg1 cc c1))
  go_step
  generalize hBn : w1.heap.size = Bn
  have hS := Lib.hid (ships_start (ps := ps) hN.out hbH.out c2.out c3.out HO.out HG.out)
  rw [hBn] at hS
  have hBnw : w.heap.size + 1 + 1 < Bn := hBn ▸ c3.out.lt
  clear bn bc bf bl HO HG hL1 cl cm e58 hL B1 B2 B3 HB hbH hws c2 c3 hBn
  go_loopg [7] 8 (fun gg i wr => ∃ k : Nat, k ≤ 8 ∧ gg = 8 - k ∧ i = .int .i64 k ∧ Ships ps g w wr (w.heap.size + 1) (w.heap.size + 1 + 1) Bn k)
  case atStart => exact ⟨0, by omega, rfl, rfl, hS.out⟩
  case round =>
    obtain ⟨k, hk, rfl, rfl, hR⟩ := hrel
    clear hS
    by_cases hlt : k < 8
    · obtain ⟨⟨A1, c1, hB, hO⟩, hI1, hR1, hb⟩ := hR
      have hcr := hB.cell
      have hlB := hB.lt
      have hfB := hB.free
      have hic := hI1.cell
      have hil := hI1.lt
      have way := Gm.ph1_way (ps := ps) hg k (by omega)
      have ho := way.ships k hlt
      have hl32 := way.len
      have a0 := cells_at hcr hlt 0 (by omega)
      have a1 := cells_at hcr hlt 1 (by omega)
      have a2 := cells_at hcr hlt 2 (by omega)
      have a3 := cells_at hcr hlt 3 (by omega)
      have a4 := cells_at hcr hlt 4 (by omega)
      have a5 := cells_at hcr hlt 5 (by omega)
      have a6 := cells_at hcr hlt 6 (by omega)
      have q0 := (hic _).trans (Gm.insCells_at ps k 0 hlt (by omega))
      have q1 := (hic _).trans (Gm.insCells_at ps k 1 hlt (by omega))
      have q2 := (hic _).trans (Gm.insCells_at ps k 2 hlt (by omega))
      have hpk := hp k hlt
      obtain ⟨s, hs⟩ : ∃ s, s = (Gm.ph1 ps g k).1 k := ⟨_, rfl⟩
      obtain ⟨p, hpp⟩ : ∃ p, p = ps k := ⟨_, rfl⟩
      obtain ⟨m, hm⟩ : ∃ m, m = (Gm.ph1 ps g k).2.length := ⟨_, rfl⟩
      simp only [← hs, ← hpp, ← hm] at a0 a1 a2 a3 a4 a5 a6 q0 q1 q2 hpk ho hl32
      have e58 := (hcr 58).trans (Gm.cells_58 _ _)
      rw [← hm] at e58
      have c0 := Gm.cells_ship { g with ship := (Gm.ph1 ps g k).1 } (.slice A1 m c1) k 0 hlt (by omega)
      have c1' := Gm.cells_ship { g with ship := (Gm.ph1 ps g k).1 } (.slice A1 m c1) k 1 hlt (by omega)
      have c2 := Gm.cells_ship { g with ship := (Gm.ph1 ps g k).1 } (.slice A1 m c1) k 2 hlt (by omega)
      have c3 := Gm.cells_ship { g with ship := (Gm.ph1 ps g k).1 } (.slice A1 m c1) k 3 hlt (by omega)
      have c4 := Gm.cells_ship { g with ship := (Gm.ph1 ps g k).1 } (.slice A1 m c1) k 4 hlt (by omega)
      have c5 := Gm.cells_ship { g with ship := (Gm.ph1 ps g k).1 } (.slice A1 m c1) k 5 hlt (by omega)
      have c6 := Gm.cells_ship { g with ship := (Gm.ph1 ps g k).1 } (.slice A1 m c1) k 6 hlt (by omega)
      have c58 := Gm.cells_58 { g with ship := (Gm.ph1 ps g k).1 } (.slice A1 m c1)
      simp only [← hs] at c0 c1' c2 c3 c4 c5 c6
      have SS := Lib.hid hs
      have PP := Lib.hid hpp
      have MM := Lib.hid hm
      have HBB := Lib.hid hB
      have HOO := Lib.hid hO
      have HII := Lib.hid hI1
      have HRR := Lib.hid hR1
      have HSS := Lib.hid (show Ships ps g w wr (w.heap.size + 1) (w.heap.size + 1 + 1) Bn k from ⟨⟨A1, c1, hm ▸ hB, hm ▸ hO⟩, hI1, hR1, hb⟩)
      have hbH := Lib.hid hb
      clear hs hpp hm hB hO hI1 hR1 way hcr hic hb
      obtain ⟨on, x, y, vx, vy, cool, score⟩ := s
      obtain ⟨px, py, pb⟩ := p
      obtain ⟨o1, o2, o3, o4, o5, o6, o7, o8, o9⟩ := ho
      simp only [Gm.Ship.cells, List.getElem?_cons_zero, List.getElem?_cons_succ, Nat.add_zero] at c0 c1' c2 c3 c4 c5 c6
      have K0 := Lib.hid c0
      have K1 := Lib.hid c1'
      have K2 := Lib.hid c2
      have K3 := Lib.hid c3
      have K4 := Lib.hid c4
      have K5 := Lib.hid c5
      have K6 := Lib.hid c6
      have K58 := Lib.hid c58
      clear c0 c1' c2 c3 c4 c5 c6 c58
      simp only [Gm.Ship.cells, Gm.In.cells, Gm.inF, Gm.slow, Gm.tyIn, List.getElem?_cons_zero, List.getElem?_cons_succ, Nat.add_zero] at a0 a1 a2 a3 a4 a5 a6 q0 q1 q2 o2 o3 o4 o5 o6 o7 o8 o9 hpk
      obtain ⟨p1, p2, p3⟩ := hpk
      have hk8 : (k : Int) < 8 := by omega
      cases on
      · clear o1
        go_wp2
        go_roundg (8 - (k + 1))
        case measure => omega
        case rel => exact ⟨k + 1, by omega, rfl, by go_num, (ships_off HSS.out (by rw [← SS.out])).alloc _⟩
      · clear o1
        have tx := Gf.tame_bd (a := px) (by omega)
        have ty := Gf.tame_bd (a := py) (by omega)
        go_upto_region 13 with fail
        refine Ro.lex_region (by kernel_rfl) (by kernel_rfl) ?_
        repeat (first | (apply Ro.lex_free rfl rfl; focus (intro _; go_simp; first | done | rfl)) | (apply Ro.lex_load rfl rfl; focus (go_simp; first | done | rfl)) | (apply Ro.lex_store rfl; focus (go_simp; first | done | rfl)) | (apply Ro.lex_call rfl rfl; (focus (go_simp; first | done | rfl | exact ⟨rfl, rfl⟩)); (focus (first | exact reftame_any _ (by omega) _))))
        refine Ro.lex_end ?_
        generalize hX : Gf.tame px = X at tx
        generalize hY : Gf.tame py = Y at ty
        have HX := Lib.hid hX
        have HY := Lib.hid hY
        clear hX hY
        go_upto_region 14 with fail
        refine Ro.lex_region (by kernel_rfl) (by kernel_rfl) ?_
        repeat (first | (apply Ro.lex_free rfl rfl; focus (intro _; go_simp; first | done | rfl)) | (apply Ro.lex_load rfl rfl; focus (go_simp; first | done | rfl)) | (apply Ro.lex_store rfl; focus (go_simp; first | done | rfl)) | (apply Ro.lex_call rfl rfl; (focus (go_simp; first | done | rfl | exact ⟨rfl, rfl⟩)); (focus (first | exact refpush_any _ _ (by omega) (by omega) _))))
        refine Ro.lex_end ?_
        have v1 := Gf.push_bd vx X
        have v2 := Gf.push_bd vy Y
        generalize hX : Gf.push vx X = VX at v1
        generalize hY : Gf.push vy Y = VY at v2
        have HVX := Lib.hid hX
        have HVY := Lib.hid hY
        clear hX hY
        go_upto_region 15 with fail
        refine Ro.lex_region (by kernel_rfl) (by kernel_rfl) ?_
        repeat (first | (apply Ro.lex_free rfl rfl; focus (intro _; go_simp; first | done | rfl)) | (apply Ro.lex_load rfl rfl; focus (go_simp; first | done | rfl)) | (apply Ro.lex_store rfl; focus (go_simp; first | done | rfl)) | (apply Ro.lex_call rfl rfl; (focus (go_simp; first | done | rfl | exact ⟨rfl, rfl⟩)); (focus (first | exact refmove_any _ _ (by omega) (by omega) _))))
        refine Ro.lex_end ?_
        have m1 := Gf.move_bd x VX
        have m2 := Gf.move_bd y VY
        generalize hX : Gf.move x VX = NX at m1
        generalize hY : Gf.move y VY = NY at m2
        have HNX := Lib.hid hX
        have HNY := Lib.hid hY
        clear hX hY
        by_cases hcool : 0 < cool
        · go_wp2
          go_roundg (8 - (k + 1))
          case measure => omega
          case rel =>
            refine ⟨k + 1, by omega, rfl, by go_num, ?_⟩
            have e := Gm.next_cool (p := ps k) (n := (Gm.ph1 ps g k).2.length) (i := k) (s := (Gm.ph1 ps g k).1 k) (by rw [← SS.out]) (by rw [← SS.out]; exact hcool)
            have hq := ships_quiet (Bi := w.heap.size + 1) (Br := w.heap.size + 1 + 1) (Bn := Bn) hlt rfl HBB.out HOO.out HII.out HRR.out hbH.out (by have := hBnw; omega) (by have := hBnw; omega) (by have := hBnw; omega) ⟨true, NX, NY, VX, VY, cool - 1, score⟩ (by rw [e.1, ← SS.out, ← PP.out, ← HNX.out, ← HNY.out, ← HVX.out, ← HVY.out, ← HX.out, ← HY.out]; rfl) e.2
            exact ((((hq.alloc _).alloc _).drew).drew).drew
        · have hcool0 : cool = 0 := by omega
          subst hcool0
          have hbit : bits .and .u8 pb 1 = pb % 2 := by
            obtain ⟨b, rfl⟩ : ∃ b : Nat, pb = b := ⟨pb.toNat, by omega⟩
            rw [show (1 : Int) = ((1 : Nat) : Int) from rfl, u8_and_nat b 1 (by omega) (by omega), nat_mask1]
            rfl
          by_cases hsh : pb % 2 = 1 ∧ m < 32
          · have hm32 : decide ((m : Int) < 32) = true := decide_eq_true (by omega)
            have hb1 : (pb % 2 == 1) = true := by simpa using hsh.1
            have hm31 : m < 32 := hsh.2
            have HYES := Lib.hid (show Gm.shoots ⟨px, py, pb⟩ m ⟨true, x, y, vx, vy, 0, score⟩ = true by unfold Gm.shoots; simp; omega)
            obtain ⟨AX, hAX⟩ : ∃ AX, AX = Gf.aimx X Y := ⟨_, rfl⟩
            obtain ⟨AY, hAY⟩ : ∃ AY, AY = Gf.aimy Y := ⟨_, rfl⟩
            have cA := fun W => Lib.hid (refaim_any X Y pb (by omega) (by omega) p3 W)
            rw [← hAX, ← hAY] at cA
            have HAX := Lib.hid hAX
            have HAY := Lib.hid hAY
            have MM2 := Lib.hid MM.out
            clear hsh hAX hAY
            go_wp2_with (first | (go_at_call 69; ((with_reducible refine ((cA _).out).mono ?_); rintro e w1 ⟨rfl, hb1⟩; have sB := Lib.hid ((((((Box.made wr 24 #[.bool true, .int .i32 NX, .int .i32 NY, .int .i32 VX, .int .i32 VY, .int .i64 0, .int .i64 score]).alloc (.cells #[.int .i8 X, .int .i8 Y, .int .u8 pb] 39)).drew).drew).drew).below hb1 (by simp <;> omega)); have nB := Lib.hid ((((((HBB.out.alloc (.cells #[.bool true, .int .i32 NX, .int .i32 NY, .int .i32 VX, .int .i32 VY, .int .i64 0, .int .i64 score] 24)).alloc (.cells #[.int .i8 X, .int .i8 Y, .int .u8 pb] 39)).drew).drew).drew).below hb1 (by simp <;> omega)); have iB := Lib.hid ((((((HII.out.alloc (.cells #[.bool true, .int .i32 NX, .int .i32 NY, .int .i32 VX, .int .i32 VY, .int .i64 0, .int .i64 score] 24)).alloc (.cells #[.int .i8 X, .int .i8 Y, .int .u8 pb] 39)).drew).drew).drew).below hb1 (by simp <;> omega)); have rB := Lib.hid ((((((HRR.out.alloc (.cells #[.bool true, .int .i32 NX, .int .i32 NY, .int .i32 VX, .int .i32 VY, .int .i64 0, .int .i64 score] 24)).alloc (.cells #[.int .i8 X, .int .i8 Y, .int .u8 pb] 39)).drew).drew).drew).below hb1 (by simp <;> omega)); have oB := Lib.hid (own_below (((((HOO.out.alloc (.cells #[.bool true, .int .i32 NX, .int .i32 NY, .int .i32 VX, .int .i32 VY, .int .i64 0, .int .i64 score] 24)).alloc (.cells #[.int .i8 X, .int .i8 Y, .int .u8 pb] 39)).drew).drew).drew) hb1 (Nat.le_refl _)); have oM := Lib.hid (show w1.ownsRow w.heap.size 90 6 (.slice A1 m c1) m (Gm.shotCells (Gm.ph1 ps g k).2) from (by rw [MM2.out]; exact oB.out)); have nM := Lib.hid (show Box w1 Bn 28 (Gm.cells { g with ship := (Gm.ph1 ps g k).1 } (.slice A1 m c1)) from (by rw [MM2.out]; exact nB.out)); have bB := Lib.hid ((((((hbH.out.alloc (hbH.out.size) (.cells #[.bool true, .int .i32 NX, .int .i32 NY, .int .i32 VX, .int .i32 VY, .int .i64 0, .int .i64 score] 24)).alloc (by simp; have := hbH.out.size; omega) (.cells #[.int .i8 X, .int .i8 Y, .int .u8 pb] 39)).drew).drew).drew).trans (hb1.mono (by simp; have := hbH.out.size; omega))); have z1 : wr.heap.size + 1 < w1.heap.size := (by have := hb1.size; simp at this; omega); have sc := sB.out.cell; have nc := (nM.out.cell 58).trans K58.out; have nl := nM.out.lt; clear hb1)) | ((with_reducible refine append_gate (x := .tmp 102) (y := .tmp 111) (t := 26) (e := 90) (size := 6) (bytes := 32) rfl rfl Tryz.underlying26 hI.out hZ.out hS.out hY.out rfl (by decide) ?_); refine Appends.mk rfl (oM.out.alloc _) (lies_made w1 90 ⟨k, NX, NY, AX, AY, 24⟩) (shotCells_one _) (by unfold maxLen; omega) (by omega) (by have := bB.out.size; simp; omega) ?_; intro A2 k2 w2 own2 hg2; have sB2 := grown_box sB.out oM.out (by decide) hg2; have nB2 := grown_box nM.out oM.out (by decide) hg2; have iB2 := Lib.hid (grown_box iB.out oM.out (by decide) hg2); have rB2 := Lib.hid (grown_box rB.out oM.out (by decide) hg2); have bB2 := Lib.hid ((bB.out.alloc bB.out.size _).grown hg2 (by have := bB.out.size; simp; omega) (fun kk hk => (oM.out.lt kk hk).1)); have sc2 := sB2.cell; have sf2 := sB2.free; have sl2 := sB2.lt; have nc2 := nB2.cell; have nf2 := nB2.free; have nl2 := nB2.lt; have SB2 := Lib.hid sB2; have NB2 := Lib.hid nB2; have OB2 := Lib.hid own2; have q0 := K0.out; have q1 := K1.out; have q2 := K2.out; have q3 := K3.out; have q4 := K4.out; have q5 := K5.out; have q6 := K6.out; have q58 := K58.out; clear own2 hg2 sB2 nB2 sc nc))
            go_roundg (8 - (k + 1))
            case measure => omega
            case rel =>
              refine ⟨k + 1, by omega, rfl, by go_num, ?_⟩
              have e := Gm.next_shot (p := ps k) (n := m) (i := k) (s := (Gm.ph1 ps g k).1 k) (by rw [← SS.out]) (by rw [← SS.out]) (by rw [← SS.out, ← PP.out]; exact HYES.out)
              exact ships_shot hlt MM.out ⟨k, NX, NY, AX, AY, 24⟩ NB2.out OB2.out iB2.out rB2.out SB2.out bB2.out (by omega) (by omega) (by omega) (by omega) (by omega) (by omega) (by omega) ⟨true, NX, NY, VX, VY, 10, score⟩ (.int .i64 10)
                (by rw [e.1, ← SS.out, ← PP.out, ← HNX.out, ← HNY.out, ← HVX.out, ← HVY.out, ← HX.out, ← HY.out]; rfl)
                (by rw [e.2, ← SS.out, ← PP.out, HAX.out, HAY.out, ← HNX.out, ← HNY.out, ← HVX.out, ← HVY.out, ← HX.out, ← HY.out]; rfl)
          · have HNO := Lib.hid (show Gm.shoots ⟨px, py, pb⟩ m ⟨true, x, y, vx, vy, 0, score⟩ = false by
              unfold Gm.shoots; simp; intro h; omega)
            have hfin : ∀ w', w' = (((stored wr Bn k ⟨true, NX, NY, VX, VY, 0, score⟩).alloc (.cells #[.bool true, .int .i32 NX, .int .i32 NY, .int .i32 VX, .int .i32 VY, .int .i64 0, .int .i64 score] 24)).alloc (.cells #[.int .i8 X, .int .i8 Y, .int .u8 pb] 39)).drew.drew.drew → Ships ps g w w' (w.heap.size + 1) (w.heap.size + 1 + 1) Bn (k + 1) := fun w' hw' => by
              subst hw'
              have e := Gm.next_rest (p := ps k) (n := (Gm.ph1 ps g k).2.length) (i := k) (s := (Gm.ph1 ps g k).1 k) (by rw [← SS.out]) (by rw [← SS.out]) (by rw [← SS.out, ← PP.out, ← MM.out]; exact HNO.out)
              have hq := ships_quiet (Bi := w.heap.size + 1) (Br := w.heap.size + 1 + 1) (Bn := Bn) hlt rfl HBB.out HOO.out HII.out HRR.out hbH.out (by omega) (by omega) (by omega) ⟨true, NX, NY, VX, VY, 0, score⟩ (by rw [e.1, ← SS.out, ← PP.out, ← HNX.out, ← HNY.out, ← HVX.out, ← HVY.out, ← HX.out, ← HY.out]; rfl) e.2
              exact ((((hq.alloc _).alloc _).drew).drew).drew
            have HF := Lib.hid hfin
            clear hfin
            by_cases hodd : pb % 2 = 1
            · have hm32 : decide ((m : Int) < 32) = false := decide_eq_false (by omega)
              have hb1 : (pb % 2 == 1) = true := by simpa using hodd
              clear hsh hodd
              go_wp2
              go_roundg (8 - (k + 1))
              case measure => omega
              case rel => exact ⟨k + 1, by omega, rfl, by go_num, HF.out _ rfl⟩
            · have hb1 : (pb % 2 == 1) = false := by simpa using hodd
              clear hsh hodd
              go_wp2
              go_roundg (8 - (k + 1))
              case measure => omega
              case rel => exact ⟨k + 1, by omega, rfl, by go_num, HF.out _ rfl⟩
    · have hk' : k = 8 := by omega
      subst hk'
      obtain ⟨⟨A1, c1, hB, hO⟩, hI1, hR1, hb⟩ := hR
      have way := Gm.ph1_way (ps := ps) hg 8 (Nat.le_refl _)
      obtain ⟨F, hF⟩ : ∃ F, F = (Gm.ph1 ps g 8).1 := ⟨_, rfl⟩
      obtain ⟨l, hl⟩ : ∃ l, l = (Gm.ph1 ps g 8).2 := ⟨_, rfl⟩
      rw [← hF, ← hl] at way
      rw [← hF, ← hl] at hB
      rw [← hl] at hO
      obtain ⟨wships, wshots, wlen⟩ := way
      have way0 : Gm.Way2 ⟨g.dice, F, []⟩ := ⟨wships, fun t ht => (by cases ht), hd⟩
      have hS0 := Lib.hid (show Shoots g l ⟨g.dice, F, []⟩ A1 c1 w wr (w.heap.size + 1 + 1) Bn wr.heap.size (.slice none 0 0) from
        ⟨hB, Lies.owned hO, ⟨none, 0, rfl, World.ownsRow_nil _ _ _ _⟩, hR1, hb, Nat.le_refl _⟩)
      have hBnl := hB.lt
      have FF := Lib.hid hF
      have LL := Lib.hid hl
      generalize hBl : wr.heap.size = Bl at hBnl
      rw [hBl] at hS0
      clear hF hl hB hO hI1 hR1 hb hBl
      go_wp2
      go_loopg [12, 13] l.length (fun gg s12 i w' => ∃ j : Nat, j ≤ l.length ∧ gg = l.length - j ∧ i = .int .i64 j ∧ Shoots g l (Gm.ph2 ⟨g.dice, F, []⟩ (l.take j)) A1 c1 w w' (w.heap.size + 1 + 1) Bn Bl s12)
      case atStart => exact ⟨0, by omega, rfl, rfl, hS0.out⟩
      case round =>
        obtain ⟨j, hj, rfl, rfl, hR⟩ := hrel
        clear hS0
        have HR := Lib.hid hR
        obtain ⟨hB, hL, ⟨A2, c2, e12, hO⟩, hR1, hb, hsz⟩ := hR
        subst e12
        have hcr := hB.cell
        have hfB := hB.free
        have hlB := hB.lt
        have c58 := Gm.cells_58 { g with dice := (Gm.ph2 ⟨g.dice, F, []⟩ (l.take j)).dice, ship := (Gm.ph2 ⟨g.dice, F, []⟩ (l.take j)).ship } (.slice A1 l.length c1)
        by_cases hlt : j < l.length
        · have hjl : (j : Int) < (l.length : Int) := by omega
          obtain ⟨way2, len2⟩ := Gm.ph2_way way0 wshots j hj
          have hsn := Lib.hid (Gm.ph2_snoc ⟨g.dice, F, []⟩ l j hlt)
          obtain ⟨ad, rfl, hbl, a0, a1, a2, a3, a4, a5⟩ := shots_at hL rfl j hlt
          have oks := wshots _ (List.getElem_mem hlt)
          obtain ⟨s, hs⟩ : ∃ s, s = l[j] := ⟨_, rfl⟩
          rw [← hs] at a0 a1 a2 a3 a4 a5 oks
          have SS := Lib.hid hs
          generalize hst : Gm.ph2 ⟨g.dice, F, []⟩ (l.take j) = st at *
          obtain ⟨owner, x, y, vx, vy, left⟩ := s
          have OKS := Lib.hid oks
          obtain ⟨o1, o2, o3, o4, o5, o6, o7, o8⟩ := oks
          simp only [Gm.inF, Gm.slow] at o1 o2 o3 o4 o5 o6 o7 o8
          dsimp only at a0 a1 a2 a3 a4 a5
          have hsub : IntKind.i64.wrap (left - 1) = left - 1 := by rw [IntKind.wrap_i64]; omega
          have HSUB := Lib.hid hsub
          have HBB := Lib.hid hB
          have HOO := Lib.hid hO
          clear hsub hs hB hO hL hR1 hb hbl
          go_upto_region 28 with fail
          have hsub := HSUB.out
          refine Ro.lex_region (by kernel_rfl) (by kernel_rfl) ?_
          repeat (first | (apply Ro.lex_free rfl rfl; focus (intro _; go_simp; first | done | rfl)) | (apply Ro.lex_load rfl rfl; focus (go_simp; first | done | rfl)) | (apply Ro.lex_store rfl; focus (go_simp; first | done | rfl)) | (apply Ro.lex_call rfl rfl; (focus (go_simp; first | done | rfl | exact ⟨rfl, rfl⟩)); (focus (first | exact refmove_any _ _ (by omega) (by omega) _))))
          refine Ro.lex_end ?_
          clear hsub
          have m1 := Gf.move_bd x vx
          have m2 := Gf.move_bd y vy
          generalize hX : Gf.move x vx = NX at m1
          generalize hY : Gf.move y vy = NY at m2
          have HNX := Lib.hid hX
          have HNY := Lib.hid hY
          clear hX hY
          by_cases hl1 : left = 1
          · subst hl1
            go_wp2
            go_roundg (l.length - (j + 1))
            case measure => omega
            case rel =>
              refine ⟨j + 1, by omega, rfl, by go_num, ?_⟩
              have e : Gm.ph2 ⟨g.dice, F, []⟩ (l.take (j + 1)) = st := by
                rw [hsn.out, ← SS.out]; unfold Gm.shot1; rw [if_pos (by show (1 : Int) - 1 = 0; rfl)]
              rw [e]
              exact (HR.out.alloc _).drew
          · have hl0 : (left - 1 == 0) = false := by simp; omega
            have hfly : Gm.fly ⟨owner, x, y, vx, vy, left⟩ = ⟨owner, NX, NY, vx, vy, left - 1⟩ := by rw [← HNX.out, ← HNY.out]; rfl
            have hft := Gm.fly_ty OKS.out
            rw [hfly] at hft
            have cH := fun W => Lib.hid (refhit_any { g with dice := st.dice, ship := st.ship } (.slice (some ad) l.length c1) ⟨owner, NX, NY, vx, vy, left - 1⟩ W (fun i hi => (way2.ships i hi).ty) hft)
            simp only [Gm.Shot.cells] at cH
            have hbd := Gm.hit_bd st.ship ⟨owner, NX, NY, vx, vy, left - 1⟩
            have HFLY := Lib.hid hfly
            obtain ⟨H, hH⟩ : ∃ H, H = Gm.hit st.ship ⟨owner, NX, NY, vx, vy, left - 1⟩ := ⟨_, rfl⟩
            rw [← hH] at hbd
            have hcH : ∀ W, Hid (Calls Tryz.prog 70 #[.agg (Gm.cells { g with dice := st.dice, ship := st.ship } (.slice (some ad) l.length c1)), .agg #[.int .i64 owner, .int .i32 NX, .int .i32 NY, .int .i32 vx, .int .i32 vy, .int .i64 (left - 1)]] W fun e w' => e = .returned (.int .i64 H) ∧ Below W.heap.size W w') := fun W => by rw [hH]; exact cH W
            have HH := Lib.hid hH
            have GB := Lib.hid (HBB.out.alloc (.cells #[.int .i64 owner, .int .i32 NX, .int .i32 NY, .int .i32 vx, .int .i32 vy, .int .i64 (left - 1)] 90)).drew
            have n32 : st.left.length ≤ 32 := by have : (Gm.St.left ⟨g.dice, F, []⟩).length = 0 := rfl; omega
            clear hfly hft cH hH
            rcases hbd with hno | ⟨kh, hyes, hkh, hhk⟩
            · subst hno
              go_wp2_with (first | ((with_reducible refine load_gate rfl rfl ?_); apply LoadGame.mk rfl; exact GB.out) | (go_at_call 70; ((with_reducible refine ((hcH _).out).mono ?_); rintro e w1 ⟨rfl, hb1⟩; have s1 := Lib.hid ((((Box.made _ 90 #[.int .i64 owner, .int .i32 NX, .int .i32 NY, .int .i32 vx, .int .i32 vy, .int .i64 (left - 1)]).drew)).below hb1 (by simp)); have on1 := Lib.hid (((HR.out.alloc (.cells #[.int .i64 owner, .int .i32 NX, .int .i32 NY, .int .i32 vx, .int .i32 vy, .int .i64 (left - 1)] 90)).drew).on hb1); have oM := Lib.hid (own_below ((HOO.out.alloc (.cells #[.int .i64 owner, .int .i32 NX, .int .i32 NY, .int .i32 vx, .int .i32 vy, .int .i64 (left - 1)] 90)).drew) hb1 (Nat.le_refl _)); have sc := s1.out.cell; have sl := s1.out.lt; clear hb1)) | ((with_reducible refine append_gate (x := .tmp 155) (y := .tmp 157) (t := 26) (e := 90) (size := 6) (bytes := 32) rfl rfl Tryz.underlying26 hI.out hZ.out hS.out hY.out rfl (by decide) ?_); refine Appends.mk rfl (oM.out.alloc _) (lies_made w1 90 ⟨owner, NX, NY, vx, vy, left - 1⟩) (shotCells_one _) (by unfold maxLen; omega) (by omega) (by have := on1.out.size; simp; omega) ?_; intro A3 k3 w2 own2 hg2; have SH2 := Lib.hid (shoots_kept on1.out oM.out own2 hg2 (by omega)); clear own2 hg2 sc))
              go_roundg (l.length - (j + 1))
              case measure => omega
              case rel =>
                refine ⟨j + 1, by omega, rfl, by go_num, ?_⟩
                have e : Gm.ph2 ⟨g.dice, F, []⟩ (l.take (j + 1)) = { st with left := st.left ++ [⟨owner, NX, NY, vx, vy, left - 1⟩] } := by
                  rw [hsn.out, ← SS.out]; unfold Gm.shot1
                  rw [HFLY.out, if_neg (by dsimp only; omega), if_pos (by rw [← HH.out]; decide)]
                rw [e]
                exact SH2.out
            · subst hyes
              have hk0 : ¬ (kh : Int) < 0 := by omega
              have hk8 : (kh : Int) < 8 := by omega
              have hdice := way2.dice
              have hoks := fun i hi => (way2.ships i hi).2.2.2.2.2.2
              obtain ⟨o, rfl⟩ : ∃ o : Nat, owner = (o : Int) := ⟨owner.toNat, by omega⟩
              have ho : o < 8 := by omega
              have ho8 : (o : Int) < 8 := by omega
              obtain ⟨X, hX⟩ : ∃ X, X = Gm.placeX st.dice := ⟨_, rfl⟩
              obtain ⟨Y, hY⟩ : ∃ X, X = Gm.placeY st.dice := ⟨_, rfl⟩
              obtain ⟨D, hD⟩ : ∃ X, X = Gm.placeD st.dice := ⟨_, rfl⟩
              have cP : ∀ W, Hid (Calls Tryz.prog 65 #[.int .u64 st.dice] W fun e w' => e = .returned (.tuple #[.int .i32 X, .int .i32 Y, .int .u64 D]) ∧ W = w') := fun W => Lib.hid (by rw [hX, hY, hD]; exact refplace_any st.dice hdice W)
              obtain ⟨t, ht⟩ : ∃ t, t = st.ship kh := ⟨_, rfl⟩
              have e1 := Gm.cells_1 { g with dice := st.dice, ship := st.ship } (.slice (some ad) l.length c1)
              have q0 := (Gm.cells_ship { g with dice := st.dice, ship := st.ship } (.slice (some ad) l.length c1) kh 0 hkh (by omega)).trans (by rw [ht]; rfl : _ = some (.bool t.on))
              have q1 := (Gm.cells_ship { g with dice := st.dice, ship := st.ship } (.slice (some ad) l.length c1) kh 1 hkh (by omega)).trans (by rw [ht]; rfl : _ = some (.int .i32 t.x))
              have q2 := (Gm.cells_ship { g with dice := st.dice, ship := st.ship } (.slice (some ad) l.length c1) kh 2 hkh (by omega)).trans (by rw [ht]; rfl : _ = some (.int .i32 t.y))
              have q3 := (Gm.cells_ship { g with dice := st.dice, ship := st.ship } (.slice (some ad) l.length c1) kh 3 hkh (by omega)).trans (by rw [ht]; rfl : _ = some (.int .i32 t.vx))
              have q4 := (Gm.cells_ship { g with dice := st.dice, ship := st.ship } (.slice (some ad) l.length c1) kh 4 hkh (by omega)).trans (by rw [ht]; rfl : _ = some (.int .i32 t.vy))
              have q5 := (Gm.cells_ship { g with dice := st.dice, ship := st.ship } (.slice (some ad) l.length c1) kh 5 hkh (by omega)).trans (by rw [ht]; rfl : _ = some (.int .i64 t.cool))
              have q6 := (Gm.cells_ship { g with dice := st.dice, ship := st.ship } (.slice (some ad) l.length c1) kh 6 hkh (by omega)).trans (by rw [ht]; rfl : _ = some (.int .i64 t.score))
              simp only [Nat.add_zero] at q0
              have HX := Lib.hid hX
              have HY := Lib.hid hY
              have HD := Lib.hid hD
              have HTT := Lib.hid ht
              have HOKS := Lib.hid hoks
              have BNL := Lib.hid (show Bn < wr.heap.size from HBB.out.lt)
              clear hX hY hD ht hoks hdice hhk
              go_upto_region 36 with (first | ((with_reducible refine load_gate rfl rfl ?_); apply LoadGame.mk rfl; exact GB.out) | (go_at_call 65; ((with_reducible refine ((cP _).out).mono ?_); rintro e w6 ⟨rfl, rfl⟩)) | (go_at_call 70; ((with_reducible refine ((hcH _).out).mono ?_); rintro e w5 ⟨rfl, hb1⟩; have S1 := Lib.hid ((((Box.made wr 90 #[.int .i64 o, .int .i32 NX, .int .i32 NY, .int .i32 vx, .int .i32 vy, .int .i64 (left - 1)]).drew)).below hb1 (by simp)); have H1 := Lib.hid (((HR.out.alloc (.cells #[.int .i64 o, .int .i32 NX, .int .i32 NY, .int .i32 vx, .int .i32 vy, .int .i64 (left - 1)] 90)).drew).on hb1); have G1 := Lib.hid (GB.out.below hb1 GB.out.lt); have gc := G1.out.cell; have gf := G1.out.free; have gl := G1.out.lt; clear hb1)))
              have hF0 : ∃ FN, FN = Gm.upd st.ship kh ⟨true, X, Y, 0, 0, 0, t.score⟩ := ⟨_, rfl⟩
              obtain ⟨FN, hF⟩ := hF0
              have hgen : ∀ W : World, W = stored (w5.setCell ⟨Bn, 1, none⟩ (.int .u64 D)) Bn kh ⟨true, X, Y, 0, 0, 0, t.score⟩ → Box W Bn 28 (Gm.cells { g with dice := D, ship := FN } (.slice (some ad) l.length c1)) ∧ Box W wr.heap.size 90 #[.int .i64 o, .int .i32 NX, .int .i32 NY, .int .i32 vx, .int .i32 vy, .int .i64 (left - 1)] ∧ (∀ b, b ≠ Bn → W.heap[b]? = w5.heap[b]?) ∧ Below Bn w5 W := fun W hW => by
                subst hW
                have nes : wr.heap.size ≠ Bn := by have := BNL.out; omega
                refine ⟨?_, stored_far (S1.out.far nes _) nes _, fun b hb => (stored_else _ b hb).trans (heap_setCell_other _ _ b _ hb), stored_below ((Below.refl Bn w5).setCell (p := ⟨Bn, 1, none⟩) (Nat.le_refl Bn) _) (Nat.le_refl Bn) _⟩
                rw [hF]
                exact blk_ship (g := { g with dice := D, ship := st.ship }) (blk_dice G1.out D) hkh _
              obtain ⟨W2, hW2⟩ : ∃ W2, W2 = stored (w5.setCell ⟨Bn, 1, none⟩ (.int .u64 D)) Bn kh ⟨true, X, Y, 0, 0, 0, t.score⟩ := ⟨_, rfl⟩
              have hh2 := hgen W2 hW2
              simp only [stored] at hW2
              rw [← hW2]
              obtain ⟨g2, s2, hk2, hb2⟩ := hh2
              have hsF : ∀ i, i < 8 → 0 ≤ (FN i).score ∧ (FN i).score ≤ 1073741824 := fun i hi => by
                have h1 := HOKS.out i hi
                have h2 := HOKS.out kh hkh
                rw [hF]; unfold Gm.upd; split
                · dsimp only; rw [HTT.out]; exact h2.2
                · exact h1.2
              have sco := hsF o ho
              have r0 := Gm.cells_ship { g with dice := D, ship := FN } (.slice (some ad) l.length c1) o 0 ho (by omega)
              have r6 := Gm.cells_ship { g with dice := D, ship := FN } (.slice (some ad) l.length c1) o 6 ho (by omega)
              simp only [Gm.Ship.cells, List.getElem?_cons_zero, List.getElem?_cons_succ, Nat.add_zero] at r0 r6
              have FH := Lib.hid hF
              have hsco := Lib.hid (fun u => (show Box (W2.setCell ⟨Bn, 2 + o * 7 + 6, none⟩ (.int .i64 u)) Bn 28 (Gm.cells { g with dice := D, ship := Gm.upd FN o { FN o with score := u } } (.slice (some ad) l.length c1)) from by
                have h := g2.put (2 + o * 7 + 6) (.int .i64 u)
                have e := set_score { g with dice := D, ship := FN } (.slice (some ad) l.length c1) o (FN o) ho u
                dsimp only at e
                rw [Gm.upd_self] at e
                rw [e] at h
                exact h))
              have G2 := Lib.hid g2
              have K2 := Lib.hid hk2
              have B2 := Lib.hid hb2
              have gc := g2.cell
              have gf := g2.free
              have gl := g2.lt
              have s0 := s2.cell
              have E1 := Lib.hid (show ∀ FN', (FN' = Gm.more FN o) → Gm.ph2 ⟨g.dice, F, []⟩ (l.take (j + 1)) = ⟨D, FN', st.left⟩ from fun FN' hF' => by
                rw [hsn.out, ← SS.out]; unfold Gm.shot1
                rw [HFLY.out, if_neg (by dsimp only; omega), if_neg (by rw [← HH.out]; omega), ← HH.out, HD.out, hF', FH.out, HX.out, HY.out, HTT.out]
                rfl)
              have FF2 : Hid (Gm.more FN o = if (FN o).on = true then Gm.upd FN o { FN o with score := min ((FN o).score + 1) 1073741824 } else FN) := Lib.hid rfl
              clear hgen hW2 hF g2 s2 hk2 hb2 S1 G1 hsF q0 q1 q2 q3 q4 q5 q6 e1 cP hcH GB
              cases hon : (FN o).on
              · rw [hon] at r0
                have HON := Lib.hid hon
                clear hon
                go_wp2
                go_roundg (l.length - (j + 1))
                case measure => omega
                case rel =>
                  refine ⟨j + 1, by omega, rfl, by go_num, ?_⟩
                  rw [E1.out FN (by rw [FF2.out, if_neg (by rw [HON.out]; simp)])]
                  exact (H1.out.hit (st' := ⟨D, FN, st.left⟩) rfl G2.out (fun b hb _ => K2.out b hb) (by omega) B2.out (by omega))
              · rw [hon] at r0
                have HON := Lib.hid hon
                clear hon
                generalize (FN o).score = so at *
                have hwrap : IntKind.i64.wrap (so + 1) = so + 1 := by rw [IntKind.wrap_i64]; omega
                go_upto_region 37 with fail
                by_cases hms : so + 1 ≤ 1073741824
                · have MM := Lib.hid (Int.min_eq_left hms)
                  refine Ro.lex_region (by kernel_rfl) (by kernel_rfl) ?_
                  repeat (first | (apply Ro.lex_free rfl rfl; focus (intro _; go_simp; first | done | rfl)) | (apply Ro.lex_load rfl rfl; focus (go_simp; first | done | rfl)) | (apply Ro.lex_store rfl; focus (go_simp; first | done | rfl)))
                  refine Ro.lex_end ?_
                  go_wp2
                  go_roundg (l.length - (j + 1))
                  case measure => omega
                  case rel =>
                    refine ⟨j + 1, by omega, rfl, by go_num, ?_⟩
                    rw [E1.out (Gm.upd FN o { FN o with score := (so + 1) }) (by rw [FF2.out, if_pos HON.out, MM.out])]
                    have hfin := H1.out.hit (st' := ⟨D, Gm.upd FN o { FN o with score := (so + 1) }, st.left⟩) rfl (hsco.out (so + 1)) (fun b hb _ => (heap_setCell_other _ _ b _ hb).trans (K2.out b hb)) (by omega) (B2.out.setCell (p := ⟨Bn, 2 + o * 7 + 6, none⟩) (Nat.le_refl Bn) _) (by omega)
                    first | exact hfin.drew | exact hfin
                · have MM := Lib.hid (Int.min_eq_right (show (1073741824 : Int) ≤ so + 1 by omega))
                  refine Ro.lex_region (by kernel_rfl) (by kernel_rfl) ?_
                  repeat (first | (apply Ro.lex_free rfl rfl; focus (intro _; go_simp; first | done | rfl)) | (apply Ro.lex_load rfl rfl; focus (go_simp; first | done | rfl)) | (apply Ro.lex_store rfl; focus (go_simp; first | done | rfl)))
                  refine Ro.lex_end ?_
                  go_wp2
                  go_roundg (l.length - (j + 1))
                  case measure => omega
                  case rel =>
                    refine ⟨j + 1, by omega, rfl, by go_num, ?_⟩
                    rw [E1.out (Gm.upd FN o { FN o with score := 1073741824 }) (by rw [FF2.out, if_pos HON.out, MM.out])]
                    have hfin := H1.out.hit (st' := ⟨D, Gm.upd FN o { FN o with score := 1073741824 }, st.left⟩) rfl (hsco.out 1073741824) (fun b hb _ => (heap_setCell_other _ _ b _ hb).trans (K2.out b hb)) (by omega) (B2.out.setCell (p := ⟨Bn, 2 + o * 7 + 6, none⟩) (Nat.le_refl Bn) _) (by omega)
                    first | exact hfin.drew | exact hfin
        · have hjl : ¬ (j : Int) < (l.length : Int) := by omega
          have hje : j = l.length := by omega
          obtain ⟨st, hst⟩ : ∃ st, st = Gm.ph2 ⟨g.dice, F, []⟩ (l.take j) := ⟨_, rfl⟩
          rw [← hst] at hB hO hcr c58 HR
          have e0 := Gm.cells_0 { g with dice := st.dice, ship := st.ship } (.slice A1 l.length c1)
          have hstep : Gm.step ps g = ⟨g.frame + 1, st.dice, st.ship, st.left⟩ := by
            rw [hst, hje, List.take_length, FF.out, LL.out]; rfl
          have g1 := Lib.hid (blk_frame (blk_shots hB (.slice A2 st.left.length c2)) (g.frame + 1))
          have g2 := Lib.hid ((hR1.far (p := ⟨Bn, 58, none⟩) (show w.heap.size + 1 + 1 ≠ Bn by omega) (.slice A2 st.left.length c2)).far (p := ⟨Bn, 0, none⟩) (show w.heap.size + 1 + 1 ≠ Bn by omega) (.int .i64 (g.frame + 1)))
          have ne : (Value.slice A2 st.left.length c2).ownBlock ≠ some Bn := hB.unowned hO (by decide)
          have ne2 : (Value.slice A2 st.left.length c2).ownBlock ≠ some (w.heap.size + 1 + 1) := hR1.unowned hO (by decide)
          have NE := Lib.hid ne
          have NE2 := Lib.hid ne2
          have HOO := Lib.hid hO
          have HBW := Lib.hid hb
          have HST := Lib.hid hstep
          rw [← hst]
          clear hstep hst hB hO hR1 hb ne ne2 hL hje
          go_wp2_with (first | ((with_reducible refine load_gate rfl rfl ?_); apply LoadGame.mk rfl; exact g1.out) | ((with_reducible refine store_gate rfl rfl ?_); apply StoreGame.mk rfl rfl rfl; exact g2.out))
          refine bodyPost_ret (v := .tuple #[.agg (Gm.cells { g with frame := g.frame + 1, dice := st.dice, ship := st.ship } (.slice A2 st.left.length c2)), .int .i64 0]) ?_ ?_ ?_
          · exact results_cell_tmp (p := 4) (q := 5) rfl _ _ _ _ (Gm.cells { g with frame := g.frame + 1, dice := st.dice, ship := st.ship } (.slice A2 st.left.length c2)) _ rfl (Box.row g2.out _) Tryz.underlying28 rfl game_info
          · rfl
          · rw [HST.out]
            refine ⟨A2, c2, rfl, ?_, ?_, ?_⟩
            · exact Lies.owned (own_setRow (ownsRow_setCell_other (a := ⟨Bn, 0, none⟩) (ownsRow_setCell_other (a := ⟨Bn, 58, none⟩) HOO.out NE.out _) NE.out _) NE2.out _)
            · exact Typed.owned (own_setRow (ownsRow_setCell_other (a := ⟨Bn, 0, none⟩) (ownsRow_setCell_other (a := ⟨Bn, 58, none⟩) HOO.out NE.out _) NE.out _) NE2.out _)
            · exact Below.setRow' ((HBW.out.setCell (by show w.heap.size ≤ Bn; omega) _).setCell (by show w.heap.size ≤ Bn; omega) _) (by omega) _
end Go.Proofs.YtiahpncglpfjeaaGreat
namespace Ros
open Go

/-- A roster: of its seats those of slots 0 to 7 count. -/
structure R where
  version : Int
  peer : Nat → Int
  gen : Nat → Int

def pair (r : R) (k : Nat) : List Value := [.int .i64 (r.peer k), .int .i64 (r.gen k)]
def seatCells (r : R) : List Value := pair r 0 ++ (pair r 1 ++ (pair r 2 ++ (pair r 3 ++ (pair r 4 ++ (pair r 5 ++ (pair r 6 ++ pair r 7))))))
/-- Its 17 cells. -/
def cells (r : R) : Array Value := (Value.int .i64 r.version :: seatCells r).toArray
theorem cells_size (r : R) : (cells r).size = 17 := rfl
theorem cells_0 (r : R) : (cells r)[0]? = some (.int .i64 r.version) := rfl
theorem cells_peer (r : R) (k : Nat) (hk : k < 8) : (cells r)[1 + k * 2]? = some (.int .i64 (r.peer k)) := by
  match k, hk with
  | 0, _ | 1, _ | 2, _ | 3, _ | 4, _ | 5, _ | 6, _ | 7, _ => rfl
theorem cells_gen (r : R) (k : Nat) (hk : k < 8) : (cells r)[1 + k * 2 + 1]? = some (.int .i64 (r.gen k)) := by
  match k, hk with
  | 0, _ | 1, _ | 2, _ | 3, _ | 4, _ | 5, _ | 6, _ | 7, _ => rfl
def upd (f : Nat → Int) (i : Nat) (v : Int) : Nat → Int := fun j => if j = i then v else f j
theorem upd_same (f : Nat → Int) (i : Nat) (v : Int) : upd f i v i = v := by unfold upd; rw [if_pos rfl]
theorem upd_other (f : Nat → Int) {i j : Nat} (v : Int) (h : j ≠ i) : upd f i v j = f j := by unfold upd; rw [if_neg h]
theorem cells_setv (r : R) (v : Int) : (cells r).setIfInBounds 0 (.int .i64 v) = cells { r with version := v } := rfl
theorem cells_setp (r : R) (k : Nat) (hk : k < 8) (v : Int) : (cells r).setIfInBounds (1 + k * 2) (.int .i64 v) = cells { r with peer := upd r.peer k v } := by
  unfold cells
  rw [List.setIfInBounds_toArray]
  match k, hk with
  | 0, _ | 1, _ | 2, _ | 3, _ | 4, _ | 5, _ | 6, _ | 7, _ => rfl
theorem cells_setg (r : R) (k : Nat) (hk : k < 8) (v : Int) : (cells r).setIfInBounds (1 + k * 2 + 1) (.int .i64 v) = cells { r with gen := upd r.gen k v } := by
  unfold cells
  rw [List.setIfInBounds_toArray]
  match k, hk with
  | 0, _ | 1, _ | 2, _ | 3, _ | 4, _ | 5, _ | 6, _ | 7, _ => rfl
theorem cells_ints (r : R) : ∀ v ∈ (cells r).toList, ∃ n : Int, v = .int .i64 n := by
  intro v hv
  simp only [cells, seatCells, pair, List.mem_cons, List.mem_append, List.not_mem_nil, or_false] at hv
  rcases hv with rfl | hv
  · exact ⟨_, rfl⟩
  · rcases hv with hv | hv | hv | hv | hv | hv | hv | hv <;> (rcases hv with rfl | rfl <;> exact ⟨_, rfl⟩)
/-- Only eight seats are looked at. -/
theorem cells_congr {r s : R} (hv : r.version = s.version) (hp : ∀ k, k < 8 → r.peer k = s.peer k) (hg : ∀ k, k < 8 → r.gen k = s.gen k) : cells r = cells s := by
  unfold cells seatCells pair
  rw [hv, hp 0 (by omega), hp 1 (by omega), hp 2 (by omega), hp 3 (by omega), hp 4 (by omega), hp 5 (by omega), hp 6 (by omega), hp 7 (by omega),
    hg 0 (by omega), hg 1 (by omega), hg 2 (by omega), hg 3 (by omega), hg 4 (by omega), hg 5 (by omega), hg 6 (by omega), hg 7 (by omega)]

abbrev Sl := { k : Nat // k < 8 }
def slots : Nat → Nat → List Sl
  | 0, _ => []
  | n + 1, i => if h : i < 8 then ⟨i, h⟩ :: slots n (i + 1) else []
abbrev all8 : List Sl := slots 8 0
theorem slots_yes {n i : Nat} (h : i < 8) : slots (n + 1) i = ⟨i, h⟩ :: slots n (i + 1) := by
  show (if _ : _ then _ else _) = _; rw [dif_pos h]
theorem slots_len : ∀ n i, (slots n i).length ≤ n
  | 0, _ => Nat.le_refl _
  | n + 1, i => by
    unfold slots
    split
    · have := slots_len n (i + 1); simp; omega
    · simp
theorem all8_is : all8 = [⟨0, by omega⟩, ⟨1, by omega⟩, ⟨2, by omega⟩, ⟨3, by omega⟩, ⟨4, by omega⟩, ⟨5, by omega⟩, ⟨6, by omega⟩, ⟨7, by omega⟩] := rfl
theorem mem_all8 (k : Nat) (hk : k < 8) : (⟨k, hk⟩ : Sl) ∈ all8 := by
  rw [all8_is]
  match k, hk with
  | 0, _ | 1, _ | 2, _ | 3, _ | 4, _ | 5, _ | 6, _ | 7, _ => simp

def OkSeat (r : R) (k : Nat) : Prop := (0 ≤ r.gen k ∧ r.gen k ≤ 60000) ∧ (r.peer k = -1 ∨ ((0 ≤ r.peer k ∧ r.peer k < 12) ∧ 0 < r.gen k))
def Good (r : R) (l : List Sl) : Prop := (∀ y ∈ l, OkSeat r y.1) ∧ l.Pairwise (fun a b => r.peer a.1 = -1 ∨ r.peer a.1 ≠ r.peer b.1)
def Ok (r : R) : Prop := (0 ≤ r.version ∧ r.version ≤ 1073741824) ∧ Good r all8
instance (r : R) (k : Nat) : Decidable (OkSeat r k) := by unfold OkSeat; infer_instance
instance (r : R) (l : List Sl) : Decidable (Good r l) := by unfold Good; infer_instance
instance (r : R) : Decidable (Ok r) := by unfold Ok; infer_instance
def may (r : R) : Bool := decide (Ok r)

theorem good_nil (r : R) : Good r [] := ⟨by simp, .nil⟩
theorem good_snoc {r : R} {l : List Sl} {x : Sl} : Good r (l ++ [x]) ↔ Good r l ∧ OkSeat r x.1 ∧ ∀ y ∈ l, r.peer y.1 = -1 ∨ r.peer y.1 ≠ r.peer x.1 := by
  unfold Good
  rw [List.pairwise_append]
  simp only [List.mem_append, List.mem_singleton, List.pairwise_cons, List.not_mem_nil, false_imp_iff, implies_true, List.Pairwise.nil, and_true, true_and]
  constructor
  · rintro ⟨h1, h2, h3⟩
    exact ⟨⟨fun y hy => h1 y (.inl hy), h2⟩, h1 x (.inr rfl), fun y hy => h3 y hy x rfl⟩
  · rintro ⟨⟨h1, h2⟩, h3, h4⟩
    refine ⟨?_, h2, ?_⟩
    · rintro y (hy | rfl)
      · exact h1 y hy
      · exact h3
    · rintro y hy z rfl
      exact h4 y hy
theorem good_front {r : R} {l m : List Sl} (h : Good r (l ++ m)) : Good r l := by
  unfold Good at *
  exact ⟨fun y hy => h.1 y (by simp [hy]), (List.pairwise_append.1 h.2).1⟩
/-- Does one of them have the peer? -/
def hasF (r : R) (l : List Sl) (p : Nat) : Bool := l.any fun y => decide (r.peer y.1 = (p : Int))
theorem hasF_no {r : R} {l : List Sl} {x : Sl} (h : r.peer x.1 = -1) (p : Nat) : hasF r (l ++ [x]) p = hasF r l p := by
  unfold hasF
  rw [List.any_append]
  simp [h]
  try (intro hp; omega)
theorem hasF_yes {r : R} {l : List Sl} {x : Sl} {p : Nat} (h : r.peer x.1 = (p : Int)) (q : Nat) : hasF r (l ++ [x]) q = if q = p then true else hasF r l q := by
  unfold hasF
  rw [List.any_append]
  by_cases e : q = p
  · subst e; simp [h]
  · have e' : ¬ (p : Int) = (q : Int) := by omega
    simp [h, e, e']
theorem hasF_iff {r : R} {l : List Sl} {p : Nat} : hasF r l p = false ↔ ∀ y ∈ l, r.peer y.1 ≠ (p : Int) := by
  unfold hasF
  rw [List.any_eq_false]
  simp
/-- The twelve cells of 'has'. -/
def hasCells (f : Nat → Bool) : Array Value := #[.bool (f 0), .bool (f 1), .bool (f 2), .bool (f 3), .bool (f 4), .bool (f 5), .bool (f 6), .bool (f 7), .bool (f 8), .bool (f 9), .bool (f 10), .bool (f 11)]
theorem hasCells_at (f : Nat → Bool) (p : Nat) (hp : p < 12) : (hasCells f)[p]? = some (.bool (f p)) := by
  match p, hp with
  | 0, _ | 1, _ | 2, _ | 3, _ | 4, _ | 5, _ | 6, _ | 7, _ | 8, _ | 9, _ | 10, _ | 11, _ => rfl
theorem hasCells_set (f : Nat → Bool) (p : Nat) (hp : p < 12) : (hasCells f).setIfInBounds p (.bool true) = hasCells (fun q => if q = p then true else f q) := by
  match p, hp with
  | 0, _ | 1, _ | 2, _ | 3, _ | 4, _ | 5, _ | 6, _ | 7, _ | 8, _ | 9, _ | 10, _ | 11, _ => rfl
theorem Ok.seat {r : R} (h : Ok r) (k : Nat) (hk : k < 8) : OkSeat r k := h.2.1 ⟨k, hk⟩ (mem_all8 k hk)
theorem ok_iff {r : R} : Ok r ↔ (0 ≤ r.version ∧ r.version ≤ 1073741824) ∧ (∀ k, k < 8 → OkSeat r k) ∧ ∀ j k, j < k → k < 8 → r.peer j = -1 ∨ r.peer j ≠ r.peer k := by
  constructor
  · intro h
    refine ⟨h.1, h.seat, fun j k hjk hk => ?_⟩
    have h2 := h.2.2
    rw [all8_is] at h2
    rw [List.pairwise_iff_getElem] at h2
    have := h2 j k (by simp; omega) (by simp; omega) hjk
    have e : ∀ i (hi : i < 8), ([⟨0, by omega⟩, ⟨1, by omega⟩, ⟨2, by omega⟩, ⟨3, by omega⟩, ⟨4, by omega⟩, ⟨5, by omega⟩, ⟨6, by omega⟩, ⟨7, by omega⟩] : List Sl)[i] = ⟨i, hi⟩ := by
      intro i hi
      match i, hi with
      | 0, _ | 1, _ | 2, _ | 3, _ | 4, _ | 5, _ | 6, _ | 7, _ => rfl
    rw [e j (by omega), e k hk] at this
    exact this
  · rintro ⟨h1, h2, h3⟩
    refine ⟨h1, fun y _ => h2 y.1 y.2, ?_⟩
    rw [all8_is, List.pairwise_iff_getElem]
    intro i j hi hj hij
    have e : ∀ i (hi : i < 8), ([⟨0, by omega⟩, ⟨1, by omega⟩, ⟨2, by omega⟩, ⟨3, by omega⟩, ⟨4, by omega⟩, ⟨5, by omega⟩, ⟨6, by omega⟩, ⟨7, by omega⟩] : List Sl)[i] = ⟨i, hi⟩ := by
      intro i hi
      match i, hi with
      | 0, _ | 1, _ | 2, _ | 3, _ | 4, _ | 5, _ | 6, _ | 7, _ => rfl
    rw [e i (by simpa using hi), e j (by simpa using hj)]
    exact h3 i j hij (by simpa using hj)
theorem Ok.one {r : R} (h : Ok r) {j k : Nat} (hj : j < 8) (hk : k < 8) (he : r.peer j = r.peer k) (hn : r.peer j ≠ -1) : j = k := by
  have h3 := (ok_iff.1 h).2.2
  rcases Nat.lt_trichotomy j k with hl | hl | hl
  · rcases h3 j k hl hk with e | e
    · exact absurd e hn
    · exact absurd he e
  · exact hl
  · rcases h3 k j hl hj with e | e
    · exact absurd (he.trans e) hn
    · exact absurd he.symm e

def new : R := ⟨0, fun _ => -1, fun _ => 0⟩
def seatOf (r : R) (p : Int) : List Sl → Int
  | [] => -1
  | x :: l => if r.peer x.1 = p then x.1 else seatOf r p l
def of (r : R) (p : Int) : Int := if Ok r ∧ 0 ≤ p ∧ p < 12 then seatOf r p all8 else -1
theorem seatOf_none {r : R} {p : Int} : ∀ {l : List Sl}, (∀ y ∈ l, r.peer y.1 ≠ p) → seatOf r p l = -1
  | [], _ => rfl
  | x :: l, h => by
    unfold seatOf
    rw [if_neg (h x (by simp))]
    exact seatOf_none fun y hy => h y (by simp [hy])
theorem seatOf_first {r : R} {p : Int} {x : Sl} {m : List Sl} : ∀ {l : List Sl}, (∀ y ∈ l, r.peer y.1 ≠ p) → r.peer x.1 = p → seatOf r p (l ++ x :: m) = x.1
  | [], _, hx => by show (if _ then _ else _) = _; rw [if_pos hx]
  | z :: l, h, hx => by
    show (if _ then _ else _) = _
    rw [if_neg (h z (by simp))]
    exact seatOf_first (fun y hy => h y (by simp [hy])) hx
theorem seatOf_cases (r : R) (p : Int) : ∀ l : List Sl, (seatOf r p l = -1 ∧ ∀ y ∈ l, r.peer y.1 ≠ p) ∨ ∃ y ∈ l, seatOf r p l = (y.1 : Nat) ∧ r.peer y.1 = p
  | [] => .inl ⟨rfl, by simp⟩
  | x :: l => by
    unfold seatOf
    by_cases h : r.peer x.1 = p
    · rw [if_pos h]; exact .inr ⟨x, by simp, rfl, h⟩
    · rw [if_neg h]
      rcases seatOf_cases r p l with ⟨h1, h2⟩ | ⟨y, h1, h2, h3⟩
      · refine .inl ⟨h1, fun y hy => ?_⟩
        rcases List.mem_cons.1 hy with rfl | hy
        · exact h
        · exact h2 y hy
      · exact .inr ⟨y, by simp [h1], h2, h3⟩
theorem of_cases {r : R} {p : Int} (hr : Ok r) (h0 : 0 ≤ p) (h1 : p < 12) : (of r p = -1 ∧ ∀ k, k < 8 → r.peer k ≠ p) ∨ ∃ k : Nat, k < 8 ∧ of r p = k ∧ r.peer k = p := by
  unfold of
  rw [if_pos ⟨hr, h0, h1⟩]
  rcases seatOf_cases r p all8 with ⟨h, h'⟩ | ⟨y, _, h, h'⟩
  · exact .inl ⟨h, fun k hk => h' ⟨k, hk⟩ (mem_all8 k hk)⟩
  · exact .inr ⟨y.1, y.2, h, h'⟩
/-- The free slot. -/
def freeStep (r : R) (st : Int × Int) (x : Sl) : Int × Int := if r.peer x.1 = -1 ∧ r.gen x.1 < st.2 then (x.1, r.gen x.1) else st
def freeSt (r : R) (l : List Sl) : Int × Int := l.foldl (freeStep r) (-1, 60000)
def free (r : R) : Int := if Ok r then (freeSt r all8).1 else -1
/-- Who has a slot, by bits. -/
def maskStep (r : R) (m : Nat) (x : Sl) : Nat := if r.peer x.1 = -1 then m else m ||| 2 ^ x.1
def maskSt (r : R) (l : List Sl) : Nat := l.foldl (maskStep r) 0
def mask (r : R) : Nat := if Ok r then maskSt r all8 else 0

def MayTake (r : R) (slot peer : Int) : Prop := (((Ok r ∧ r.version < 1073741824) ∧ 0 ≤ slot ∧ slot < 8) ∧ (0 ≤ peer ∧ peer < 12) ∧ of r peer = -1) ∧ r.peer slot.toNat = -1 ∧ r.gen slot.toNat ≠ 60000
def take (r : R) (k : Nat) (peer : Int) : R := ⟨r.version + 1, upd r.peer k peer, upd r.gen k (r.gen k + 1)⟩
def MayGive (r : R) (slot : Int) : Prop := ((Ok r ∧ r.version < 1073741824) ∧ 0 ≤ slot ∧ slot < 8) ∧ r.peer slot.toNat ≠ -1
def give (r : R) (k : Nat) : R := ⟨r.version + 1, upd r.peer k (-1), r.gen⟩
instance (r : R) (s p : Int) : Decidable (MayTake r s p) := by unfold MayTake; infer_instance
instance (r : R) (s : Int) : Decidable (MayGive r s) := by unfold MayGive; infer_instance
end Ros
