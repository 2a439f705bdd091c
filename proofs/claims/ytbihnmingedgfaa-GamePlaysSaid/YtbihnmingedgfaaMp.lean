/-
Several texts in one: Gj Gk Gs Wp.
-/
import Derived.Test.YtbihnmingedgfaaGh
import Derived.Test.YtbihnmingedgfaaGp
import Derived.Outline
import Derived.Deep.CutRange
import Derived.Deep.CutBlock
import Derived.Deep.DeepCutAuto
import Derived.Deep.RegionWith
import Derived.Deep.DrawnRows
import Derived.BigRegion
import Derived.Test.YtbihnmingedgfaaRo
import Derived.Deep.LoopGhost
import Derived.Test.YtbihnmingedgfaaHoff
import Derived.Test.YtbihnmingedgfaaDp
import Derived.Test.YtbihnmingedgfaaHl
import Derived.Test.YtbihnmingedgfaaGb
import Derived.Test.YtbihnmingedgfaaDs
import Derived.Test.YtbihnmingedgfaaGr
import Derived.Test.YtbihnmingedgfaaGa
import Derived.Test.YtbihnmingedgfaaEq
import Derived.Test.YtbihnmingedgfaaMv
import Derived.Deep.QuietTactic
import Derived.BigQuiet
import Derived.Test.YtbihnmingedgfaaWi
/-
The document's Step.
-/














namespace Go.Proofs.Ytbihnmingedgfaa
open Go.RowKit
set_option linter.unusedVariables false

/-- What the ships' loop finds. -/
structure Ships (ps : Nat → Gm.In) (g : Gm.G) (w wr : World) (Bi Br Bn k : Nat) : Prop where
  own : ∃ A c, Box wr Bn 30 (Gm.cells { g with ship := (Gm.ph1 ps g k).1 } (.slice A (Gm.ph1 ps g k).2.length c)) ∧ wr.ownsRow w.heap.size 108 6 (.slice A (Gm.ph1 ps g k).2.length c) (Gm.ph1 ps g k).2.length (Gm.shotCells (Gm.ph1 ps g k).2)
  ins : Box wr Bi 38 (Gm.insCells ps).toArray
  res : Box wr Br 30 (Gm.cells zeroG (.slice none 0 0))
  below : Below w.heap.size w wr

theorem ships_start {ps : Nat → Gm.In} {g : Gm.G} {w w1 w2 : World} {A1 : Option Addr} {c1 : Nat} {Bi Br n : Nat} {s : Value} (hn : n = g.shots.length) (hb : Below w.heap.size w w1) (hi : Box w1 Bi 38 (Gm.insCells ps).toArray) (hr : Box w1 Br 30 (Gm.cells zeroG (.slice none 0 0)))
    (own1 : w2.ownsRow w.heap.size 108 6 (.slice A1 (0 + n) c1) (0 + n) ([] ++ Gm.shotCells g.shots)) (hg : World.grownBy ((w1.alloc (.cells (Gm.cells g s) 30)).alloc (.cells #[] 108)) w2 (Value.ownBlock (.slice (some ⟨w1.heap.size + 1, 0, none⟩) 0 0))) :
    Ships ps g w (w2.setCell ⟨w1.heap.size, 58, none⟩ (.slice A1 n c1)) Bi Br w1.heap.size 0 := by
  have hB := hb.size
  have bn : Box w2 w1.heap.size 30 (Gm.cells g s) := ((Box.made w1 _ _).alloc _).grown hg (by intro e; injection e with e; simp at e)
  have bi := ((hi.alloc (.cells (Gm.cells g s) 30)).alloc (.cells #[] 108)).grown hg (by intro e; injection e with e; have := hi.lt; simp at e; omega)
  have br := ((hr.alloc (.cells (Gm.cells g s) 30)).alloc (.cells #[] 108)).grown hg (by intro e; injection e with e; have := hr.lt; simp at e; omega)
  rw [Nat.zero_add, List.nil_append] at own1
  subst hn
  have hne := bn.unowned own1 (by decide)
  refine ⟨⟨A1, c1, blk_shots bn _, ?_⟩, bi.far (by have := hi.lt; show Bi ≠ w1.heap.size; omega) _, br.far (by have := hr.lt; show Br ≠ w1.heap.size; omega) _, ?_⟩
  · exact ownsRow_setCell_other own1 (a := ⟨w1.heap.size, 58, none⟩) hne _
  · refine Below.setCell ?_ hB _
    refine Below.grown ((hb.alloc hB _).alloc (by simp <;> omega) _) hg (by simp <;> omega) ?_
    intro k hk
    injection hk with hk
    have : w1.heap.size + 1 = k := hk
    omega

theorem Ships.alloc {ps : Nat → Gm.In} {g : Gm.G} {w wr : World} {Bi Br Bn k : Nat} (h : Ships ps g w wr Bi Br Bn k) (o : Obj) : Ships ps g w (wr.alloc o) Bi Br Bn k := by
  obtain ⟨⟨A, c, hB, hO⟩, hI, hR, hb⟩ := h
  exact ⟨⟨A, c, hB.alloc o, hO.alloc o⟩, hI.alloc o, hR.alloc o, hb.alloc hb.size o⟩
theorem Ships.drew {ps : Nat → Gm.In} {g : Gm.G} {w wr : World} {Bi Br Bn k : Nat} (h : Ships ps g w wr Bi Br Bn k) : Ships ps g w wr.drew Bi Br Bn k := by
  obtain ⟨⟨A, c, hB, hO⟩, hI, hR, hb⟩ := h
  exact ⟨⟨A, c, hB.drew, hO.drew⟩, hI.drew, hR.drew, hb.drew⟩
/-- A ship has gone, and nothing was shot. -/
theorem ships_quiet {ps : Nat → Gm.In} {g : Gm.G} {w wr : World} {Bi Br Bn k m c1 : Nat} {A1 : Option Addr} (hk : k < 8) (hm : m = (Gm.ph1 ps g k).2.length)
    (hB : Box wr Bn 30 (Gm.cells { g with ship := (Gm.ph1 ps g k).1 } (.slice A1 m c1))) (hO : wr.ownsRow w.heap.size 108 6 (.slice A1 m c1) m (Gm.shotCells (Gm.ph1 ps g k).2))
    (hI : Box wr Bi 38 (Gm.insCells ps).toArray) (hR : Box wr Br 30 (Gm.cells zeroG (.slice none 0 0))) (hb : Below w.heap.size w wr) (hBn : w.heap.size ≤ Bn) (nI : Bi ≠ Bn) (nR : Br ≠ Bn)
    (t : Gm.Ship) (ht : Gm.moved (ps k) m ((Gm.ph1 ps g k).1 k) = t) (hmade : Gm.made (ps k) m k ((Gm.ph1 ps g k).1 k) = []) : Ships ps g w (stored wr Bn k t) Bi Br Bn (k + 1) := by
  have e1 : (Gm.ph1 ps g (k + 1)).1 = Gm.upd (Gm.ph1 ps g k).1 k t := by rw [← ht, hm]; rfl
  have e2 : (Gm.ph1 ps g (k + 1)).2 = (Gm.ph1 ps g k).2 := by
    show (Gm.ph1 ps g k).2 ++ Gm.made _ _ _ _ = _
    rw [← hm, hmade, List.append_nil]
  refine ⟨⟨A1, c1, ?_, ?_⟩, stored_far hI nI t, stored_far hR nR t, stored_below hb hBn t⟩
  · rw [e1, e2, ← hm]
    exact blk_ship (g := { g with ship := (Gm.ph1 ps g k).1 }) hB hk t
  · rw [e2, ← hm]
    exact stored_own hO (hB.unowned hO (by decide)) t
theorem ships_off {ps : Nat → Gm.In} {g : Gm.G} {w wr : World} {Bi Br Bn k : Nat} (h : Ships ps g w wr Bi Br Bn k) (ho : ((Gm.ph1 ps g k).1 k).on = false) : Ships ps g w wr Bi Br Bn (k + 1) := by
  have e := Gm.next_off (p := ps k) (n := (Gm.ph1 ps g k).2.length) (i := k) ho
  have e0 : Gm.ph1 ps g (k + 1) = Gm.ph1 ps g k := by
    show (Gm.upd _ k _, _ ++ _) = _
    rw [e.1, e.2, Gm.upd_self, List.append_nil]
  obtain ⟨⟨A, c, hB, hO⟩, hI, hR, hb⟩ := h
  exact ⟨⟨A, c, by rw [e0]; exact hB, by rw [e0]; exact hO⟩, hI, hR, hb⟩

/-- A ship has gone, and has shot. -/
theorem ships_shot {ps : Nat → Gm.In} {g : Gm.G} {w w2 : World} {Bi Br Bn Bs k m c1 c2 : Nat} {A1 A2 : Option Addr} (hk : k < 8) (hm : m = (Gm.ph1 ps g k).2.length) (s : Gm.Shot)
    (hB : Box w2 Bn 30 (Gm.cells { g with ship := (Gm.ph1 ps g k).1 } (.slice A1 m c1))) (hO : w2.ownsRow w.heap.size 108 6 (.slice A2 (m + 1) c2) (m + 1) (Gm.shotCells (Gm.ph1 ps g k).2 ++ Gm.shotCells [s]))
    (hI : Box w2 Bi 38 (Gm.insCells ps).toArray) (hR : Box w2 Br 30 (Gm.cells zeroG (.slice none 0 0))) {cs : Array Value} (hS : Box w2 Bs 26 cs) (hb : Below w.heap.size w w2) (hBn : w.heap.size ≤ Bn) (hBs : w.heap.size ≤ Bs) (nI : Bi ≠ Bn) (nR : Br ≠ Bn) (nIs : Bi ≠ Bs) (nRs : Br ≠ Bs) (nBs : Bn ≠ Bs)
    (t : Gm.Ship) (u : Value) (ht : Gm.moved (ps k) m ((Gm.ph1 ps g k).1 k) = t) (hmade : Gm.made (ps k) m k ((Gm.ph1 ps g k).1 k) = [s]) :
    Ships ps g w (stored ((w2.setCell ⟨Bn, 58, none⟩ (.slice A2 (m + 1) c2)).setCell ⟨Bs, 5, none⟩ u) Bn k t) Bi Br Bn (k + 1) := by
  have e1 : (Gm.ph1 ps g (k + 1)).1 = Gm.upd (Gm.ph1 ps g k).1 k t := by rw [← ht, hm]; rfl
  have e2 : (Gm.ph1 ps g (k + 1)).2 = (Gm.ph1 ps g k).2 ++ [s] := by
    show (Gm.ph1 ps g k).2 ++ Gm.made _ _ _ _ = _
    rw [← hm, hmade]
  have nO := hB.unowned hO (by decide)
  have nOs := hS.unowned hO (by decide)
  have hO1 := ownsRow_setCell_other (a := ⟨Bn, 58, none⟩) hO nO (.slice A2 (m + 1) c2)
  have hO2 := ownsRow_setCell_other (a := ⟨Bs, 5, none⟩) hO1 nOs u
  have hl : (Gm.ph1 ps g (k + 1)).2.length = m + 1 := by rw [e2, List.length_append, hm]; rfl
  refine ⟨⟨A2, c2, ?_, ?_⟩, stored_far ((hI.far (p := ⟨Bn, 58, none⟩) nI _).far (p := ⟨Bs, 5, none⟩) nIs _) nI t, stored_far ((hR.far (p := ⟨Bn, 58, none⟩) nR _).far (p := ⟨Bs, 5, none⟩) nRs _) nR t, stored_below ((hb.setCell hBn _).setCell hBs _) hBn t⟩
  · rw [e1, hl]
    exact blk_ship (g := { g with ship := (Gm.ph1 ps g k).1 }) ((blk_shots hB _).far (p := ⟨Bs, 5, none⟩) nBs _) hk t
  · rw [hl, e2, Gm.shotCells_append]
    exact stored_own hO2 nO t

/-- What the shots' loop finds: l are the shots when it begins, st is what has become of dice, ships and those that stay. -/
structure Shoots (g : Gm.G) (l : List Gm.Shot) (st : Gm.St) (A1 : Option Addr) (c1 : Nat) (w wr : World) (Br Bn Bl : Nat) (s12 : Value) : Prop where
  game : Box wr Bn 30 (Gm.cells { g with dice := st.dice, ship := st.ship } (.slice A1 l.length c1))
  shots : Lies wr Bl 6 A1 l.length (Gm.shotCells l)
  left : ∃ A c, s12 = .slice A st.left.length c ∧ wr.ownsRow Bl 108 6 (.slice A st.left.length c) st.left.length (Gm.shotCells st.left)
  res : Box wr Br 30 (Gm.cells zeroG (.slice none 0 0))
  below : Below w.heap.size w wr
  size : Bl ≤ wr.heap.size
theorem Shoots.alloc {g : Gm.G} {l : List Gm.Shot} {st : Gm.St} {A1 : Option Addr} {c1 : Nat} {w wr : World} {Br Bn Bl : Nat} {s12 : Value} (h : Shoots g l st A1 c1 w wr Br Bn Bl s12) (o : Obj) : Shoots g l st A1 c1 w (wr.alloc o) Br Bn Bl s12 := by
  obtain ⟨h1, h2, ⟨A, c, e, h3⟩, h4, h5, h6⟩ := h
  exact ⟨h1.alloc o, h2.stays fun b hb => Below.heap_alloc wr o b (by omega), ⟨A, c, e, h3.alloc o⟩, h4.alloc o, h5.alloc h5.size o, by simp; omega⟩
theorem Shoots.drew {g : Gm.G} {l : List Gm.Shot} {st : Gm.St} {A1 : Option Addr} {c1 : Nat} {w wr : World} {Br Bn Bl : Nat} {s12 : Value} (h : Shoots g l st A1 c1 w wr Br Bn Bl s12) : Shoots g l st A1 c1 w wr.drew Br Bn Bl s12 := by
  obtain ⟨h1, h2, ⟨A, c, e, h3⟩, h4, h5, h6⟩ := h
  exact ⟨h1.drew, ⟨h2.len, h2.start, h2.cell⟩, ⟨A, c, e, h3.drew⟩, h4.drew, h5.drew, h6⟩
theorem Shoots.on {g : Gm.G} {l : List Gm.Shot} {st : Gm.St} {A1 : Option Addr} {c1 : Nat} {w wr w' : World} {Br Bn Bl : Nat} {s12 : Value} (h : Shoots g l st A1 c1 w wr Br Bn Bl s12) (hb : Below wr.heap.size wr w') : Shoots g l st A1 c1 w w' Br Bn Bl s12 := by
  obtain ⟨h1, h2, ⟨A, c, e, h3⟩, h4, h5, h6⟩ := h
  exact ⟨h1.below hb h1.lt, h2.stays fun b hb' => hb.block b (by omega), ⟨A, c, e, own_below h3 hb (Nat.le_refl _)⟩, h4.below hb h4.lt, h5.trans (hb.mono h5.size), Nat.le_trans h6 hb.size⟩

theorem shoots_kept {g : Gm.G} {l : List Gm.Shot} {st : Gm.St} {A1 A2 A' : Option Addr} {c1 c2 c' : Nat} {w w1 w2 : World} {Br Bn Bl : Nat} {s12 : Value} {o : Obj} {s : Gm.Shot} (h : Shoots g l st A1 c1 w w1 Br Bn Bl s12)
    (hO : w1.ownsRow Bl 108 6 (.slice A2 st.left.length c2) st.left.length (Gm.shotCells st.left)) (hO2 : w2.ownsRow Bl 108 6 (.slice A' (st.left.length + 1) c') (st.left.length + 1) (Gm.shotCells st.left ++ Gm.shotCells [s]))
    (hg : (w1.alloc o).grownBy w2 (Value.ownBlock (.slice A2 st.left.length c2))) (hBl : w.heap.size ≤ Bl) : Shoots g l { st with left := st.left ++ [s] } A1 c1 w w2 Br Bn Bl (.slice A' (st.left.length + 1) c') := by
  have hs := h.size
  have hl : (st.left ++ [s]).length = st.left.length + 1 := by simp
  refine ⟨grown_box h.game hO (by decide) hg, h.shots.stays fun b hb => ?_, ⟨A', c', by rw [hl], ?_⟩, grown_box h.res hO (by decide) hg, ?_, ?_⟩
  · have e1 := hg.block b (by simp; omega) (fun e => by have := (hO.lt b e.symm).1; omega)
    exact e1.trans (Below.heap_alloc w1 o b (by omega))
  · rw [hl, Gm.shotCells_append]; exact hO2
  · exact (h.below.alloc h.below.size o).grown hg (by have := h.below.size; simp; omega) (fun k hk => by have := (hO.lt k hk).1; have := h.below.size; omega)
  · have := hg.size; simp at this; omega
/-- Whatever is owned stays where only another block changes. -/
theorem own_else {w w' : World} {b n size Bn : Nat} {e : TypeId} {v : Value} {xs : List Value} (h : w.ownsRow b e size v n xs) (hne : v.ownBlock ≠ some Bn) (hk : ∀ k, k ≠ Bn → k < w.heap.size → w'.heap[k]? = w.heap[k]?) : w'.ownsRow b e size v n xs := by
  obtain ⟨hl, e | ⟨gg, cap, cur, hv, hbg, hgg, hr⟩⟩ := h
  · exact ⟨hl, .inl e⟩
  · exact ⟨hl, .inr ⟨gg, cap, cur, hv, hbg, (hk gg (fun e => hne (by rw [hv, e]; rfl)) (Array.getElem?_eq_some_iff.1 hgg).1).trans hgg, hr⟩⟩
theorem Lies.else_ {w w' : World} {B Bn n m c : Nat} {A A' : Option Addr} {l : List Gm.Shot} {g : Gm.G} (h : Lies w B 6 A n (Gm.shotCells l)) (hn : n = l.length) (hB : Box w Bn 30 (Gm.cells g (.slice A' m c))) (hk : ∀ k, k ≠ Bn → k < B → w'.heap[k]? = w.heap[k]?) : Lies w' B 6 A n (Gm.shotCells l) := by
  refine ⟨h.len, h.start, fun ad e h0 j u hu => ?_⟩
  have hne := h.off_game hn hB h0 ad e
  obtain ⟨ad', e', hlt⟩ := h.start h0
  rw [e] at e'; injection e' with e'; subst e'
  rw [World.cell?_of_block (w := w) (by rw [add_block]; exact hk _ hne hlt)]
  exact h.cell ad e h0 j u hu
theorem Shoots.hit {g : Gm.G} {l : List Gm.Shot} {st st' : Gm.St} {A1 : Option Addr} {c1 : Nat} {w wr w' : World} {Br Bn Bl : Nat} {s12 : Value} (h : Shoots g l st A1 c1 w wr Br Bn Bl s12) (hl : st'.left = st.left)
    (hB : Box w' Bn 30 (Gm.cells { g with dice := st'.dice, ship := st'.ship } (.slice A1 l.length c1))) (hk : ∀ b, b ≠ Bn → b < wr.heap.size → w'.heap[b]? = wr.heap[b]?) (hw : w.heap.size ≤ Bn) (hbn : Below Bn wr w') (nR : Br ≠ Bn) : Shoots g l st' A1 c1 w w' Br Bn Bl s12 := by
  obtain ⟨h1, h2, ⟨A, c, e, h3⟩, h4, h5, h6⟩ := h
  exact ⟨hB, h2.else_ rfl h1 (fun k hk1 hk2 => hk k hk1 (by omega)), ⟨A, c, by rw [hl]; exact e, by rw [hl]; exact own_else h3 (h1.unowned h3 (by decide)) hk⟩, ⟨(hk Br nR h4.lt).trans h4.is⟩, h5.trans (hbn.mono hw), by have := hbn.size; omega⟩

/-- What Step hands back. -/
def StepOut (g' : Gm.G) (w : World) (e : Ending) (w' : World) : Prop :=
  ∃ A c, e = .returned (.tuple #[.agg (Gm.cells g' (.slice A g'.shots.length c)), .int .i64 0]) ∧ Lies w' w'.heap.size 6 A g'.shots.length (Gm.shotCells g'.shots) ∧ Below w.heap.size w w'

set_option maxRecDepth 100000 in
set_option maxHeartbeats 8000000 in
theorem refstep_yes (ps : Nat → Gm.In) (g : Gm.G) (A : Option Addr) (n c : Nat) (w : World) (hg : Gm.ok g) (hf : g.frame < 1048576) (hd : 0 ≤ g.dice ∧ g.dice ≤ 18446744073709551615) (hp : ∀ i, i < 8 → Gm.tyIn (ps i)) (hn : n = g.shots.length) (hr : Lies w w.heap.size 6 A n (Gm.shotCells g.shots)) :
    Calls Try.prog 20 #[.agg (Gm.cells g (.slice A n c)), .agg (Gm.insCells ps).toArray] w (StepOut (Gm.step ps g) w) := by
  have b1 : Box (((w.alloc (.cells (Gm.cells g (.slice A n c)) 30)).alloc (.cells (Gm.insCells ps).toArray 38)).alloc (.cells (Gm.cells zeroG (.slice none 0 0)) 30)) w.heap.size 30 (Gm.cells g (.slice A n c)) := ((Box.made _ _ _).alloc _).alloc _
  have b2 : Box (((w.alloc (.cells (Gm.cells g (.slice A n c)) 30)).alloc (.cells (Gm.insCells ps).toArray 38)).alloc (.cells (Gm.cells zeroG (.slice none 0 0)) 30)) (w.heap.size + 1) 38 (Gm.insCells ps).toArray := (Box.made_at _ _ _ (by simp)).alloc _
  have b3 : Box (((w.alloc (.cells (Gm.cells g (.slice A n c)) 30)).alloc (.cells (Gm.insCells ps).toArray 38)).alloc (.cells (Gm.cells zeroG (.slice none 0 0)) 30)) (w.heap.size + 1 + 1) 30 (Gm.cells zeroG (.slice none 0 0)) := Box.made_at _ _ _ (by simp)
  have hb0 : Below w.heap.size w (((w.alloc (.cells (Gm.cells g (.slice A n c)) 30)).alloc (.cells (Gm.insCells ps).toArray 38)).alloc (.cells (Gm.cells zeroG (.slice none 0 0)) 30)) := (two_below' w _ _).alloc (by simp <;> omega) _
  have cm := Lib.hid (refmay_yes g A n c _ hg hn ((hr.below hb0).wider hb0.size))
  have hf0 : 0 ≤ g.frame := hg.1
  have fr : (g.frame == 1048576) = false := by simpa using Int.ne_of_lt hf
  have e0 := Gm.cells_0 g (.slice A n c)
  have e58 := Gm.cells_58 g (.slice A n c)
  have hN := Lib.hid hn
  have B1 := Lib.hid b1
  have B2 := Lib.hid b2
  have B3 := Lib.hid b3
  have HB := Lib.hid hb0
  have hn32 : n ≤ 32 := by rw [hn]; exact hg.2.2.1
  obtain ⟨i0, hi0, hz0, hz1, hz2⟩ := info_parts shot_info
  have hI := Lib.hid hi0
  have hZ := Lib.hid hz0
  have hS := Lib.hid hz1
  have hY := Lib.hid hz2
  have hL := Lib.hid hr
  clear hn b1 b2 b3 hb0 hi0 hz0 hz1 hz2 hr
  go_enter Try.func20, Try.ntmps20
  go_upto_block 0 with (first | (refine wpList_alloc_game rfl rfl ?_) | ((with_reducible refine load_gate rfl rfl ?_); apply LoadGame.mk rfl; (with_reducible exact B1.out)) | ((with_reducible refine load_gate rfl rfl ?_); apply LoadGame.mk rfl; exact c1) | (go_at_call 56; ((with_reducible refine (cm.out).mono ?_); rintro e w1 ⟨rfl, hb⟩; have c1 := B1.out.below hb (by simp <;> omega); have c2 := Lib.hid (B2.out.below hb (by simp <;> omega)); have c3 := Lib.hid (B3.out.below hb (by simp)); have cc := c1.cell; have cl := c1.lt; have hbb := HB.out.trans (hb.mono HB.out.size); have hL1 := Lib.hid ((hL.out.below hbb).wider hbb.size); have hbH := Lib.hid hbb; have hws := hbb.size; clear hb hbb)) | (refine wpList_store_game_new rfl rfl rfl rfl rfl rfl ?_) | ((with_reducible refine append_gate (x := .tmp 28) (y := .tmp 30) (t := 28) (e := 108) (size := 6) (bytes := 32) rfl rfl Try.underlying28 hI.out hZ.out hS.out hY.out rfl (by decide) ?_); refine Appends.mk rfl (empty_row w1 w.heap.size _ hws) (lies_two hL1.out _ _) (shotCells_one _) (by unfold maxLen; omega) (by omega) (by simp <;> omega) ?_; intro A1 k1 w2 own1 hg1; have bn := ((Box.made w1 30 (Gm.cells g (.slice A n c))).alloc (.cells #[] 108)).grown hg1 (by intro e; injection e with e; simp at e); have bc := bn.cell; have bf := bn.free; have bl := bn.lt; have HO := Lib.hid own1; have HG := Lib.hid hg1; clear own1 hg1 cc c1))
  go_step
  generalize hBn : w1.heap.size = Bn
  have hS := Lib.hid (ships_start (ps := ps) hN.out hbH.out c2.out c3.out HO.out HG.out)
  rw [hBn] at hS
  have hBnw : w.heap.size + 1 + 1 < Bn := hBn ▸ c3.out.lt
  clear bn bc bf bl HO HG hL1 cl cm e58 hL B1 B2 B3 HB hbH hws c2 c3 hBn
  go_loopg [7] 8 (fun gg i wr => ∃ k : Nat, k ≤ 8 ∧ gg = 8 - k ∧ i = .int .i64 k ∧ Ships ps g w wr (w.heap.size + 1) (w.heap.size + 1 + 1) Bn k)
  case atStart => exact ⟨0, by omega, rfl, rfl, hS.out⟩
  case round =>
    obtain ⟨k, hk, rfl, rfl, hR⟩ := hrel
    clear hS
    by_cases hlt : k < 8
    · obtain ⟨⟨A1, c1, hB, hO⟩, hI1, hR1, hb⟩ := hR
      have hcr := hB.cell
      have hlB := hB.lt
      have hfB := hB.free
      have hic := hI1.cell
      have hil := hI1.lt
      have way := Gm.ph1_way (ps := ps) hg k (by omega)
      have ho := way.ships k hlt
      have hl32 := way.len
      have a0 := cells_at hcr hlt 0 (by omega)
      have a1 := cells_at hcr hlt 1 (by omega)
      have a2 := cells_at hcr hlt 2 (by omega)
      have a3 := cells_at hcr hlt 3 (by omega)
      have a4 := cells_at hcr hlt 4 (by omega)
      have a5 := cells_at hcr hlt 5 (by omega)
      have a6 := cells_at hcr hlt 6 (by omega)
      have q0 := (hic _).trans (Gm.insCells_at ps k 0 hlt (by omega))
      have q1 := (hic _).trans (Gm.insCells_at ps k 1 hlt (by omega))
      have q2 := (hic _).trans (Gm.insCells_at ps k 2 hlt (by omega))
      have hpk := hp k hlt
      obtain ⟨s, hs⟩ : ∃ s, s = (Gm.ph1 ps g k).1 k := ⟨_, rfl⟩
      obtain ⟨p, hpp⟩ : ∃ p, p = ps k := ⟨_, rfl⟩
      obtain ⟨m, hm⟩ : ∃ m, m = (Gm.ph1 ps g k).2.length := ⟨_, rfl⟩
      simp only [← hs, ← hpp, ← hm] at a0 a1 a2 a3 a4 a5 a6 q0 q1 q2 hpk ho hl32
      have e58 := (hcr 58).trans (Gm.cells_58 _ _)
      rw [← hm] at e58
      have c0 := Gm.cells_ship { g with ship := (Gm.ph1 ps g k).1 } (.slice A1 m c1) k 0 hlt (by omega)
      have c1' := Gm.cells_ship { g with ship := (Gm.ph1 ps g k).1 } (.slice A1 m c1) k 1 hlt (by omega)
      have c2 := Gm.cells_ship { g with ship := (Gm.ph1 ps g k).1 } (.slice A1 m c1) k 2 hlt (by omega)
      have c3 := Gm.cells_ship { g with ship := (Gm.ph1 ps g k).1 } (.slice A1 m c1) k 3 hlt (by omega)
      have c4 := Gm.cells_ship { g with ship := (Gm.ph1 ps g k).1 } (.slice A1 m c1) k 4 hlt (by omega)
      have c5 := Gm.cells_ship { g with ship := (Gm.ph1 ps g k).1 } (.slice A1 m c1) k 5 hlt (by omega)
      have c6 := Gm.cells_ship { g with ship := (Gm.ph1 ps g k).1 } (.slice A1 m c1) k 6 hlt (by omega)
      have c58 := Gm.cells_58 { g with ship := (Gm.ph1 ps g k).1 } (.slice A1 m c1)
      simp only [← hs] at c0 c1' c2 c3 c4 c5 c6
      have SS := Lib.hid hs
      have PP := Lib.hid hpp
      have MM := Lib.hid hm
      have HBB := Lib.hid hB
      have HOO := Lib.hid hO
      have HII := Lib.hid hI1
      have HRR := Lib.hid hR1
      have HSS := Lib.hid (show Ships ps g w wr (w.heap.size + 1) (w.heap.size + 1 + 1) Bn k from ⟨⟨A1, c1, hm ▸ hB, hm ▸ hO⟩, hI1, hR1, hb⟩)
      have hbH := Lib.hid hb
      clear hs hpp hm hB hO hI1 hR1 way hcr hic hb
      obtain ⟨on, x, y, vx, vy, cool, score⟩ := s
      obtain ⟨px, py, pb⟩ := p
      obtain ⟨o1, o2, o3, o4, o5, o6, o7, o8, o9⟩ := ho
      simp only [Gm.Ship.cells, List.getElem?_cons_zero, List.getElem?_cons_succ, Nat.add_zero] at c0 c1' c2 c3 c4 c5 c6
      have K0 := Lib.hid c0
      have K1 := Lib.hid c1'
      have K2 := Lib.hid c2
      have K3 := Lib.hid c3
      have K4 := Lib.hid c4
      have K5 := Lib.hid c5
      have K6 := Lib.hid c6
      have K58 := Lib.hid c58
      clear c0 c1' c2 c3 c4 c5 c6 c58
      simp only [Gm.Ship.cells, Gm.In.cells, Gm.inF, Gm.slow, Gm.tyIn, List.getElem?_cons_zero, List.getElem?_cons_succ, Nat.add_zero] at a0 a1 a2 a3 a4 a5 a6 q0 q1 q2 o2 o3 o4 o5 o6 o7 o8 o9 hpk
      obtain ⟨p1, p2, p3⟩ := hpk
      have hk8 : (k : Int) < 8 := by omega
      cases on
      · clear o1
        go_wp2
        go_roundg (8 - (k + 1))
        case measure => omega
        case rel => exact ⟨k + 1, by omega, rfl, by go_num, (ships_off HSS.out (by rw [← SS.out])).alloc _⟩
      · clear o1
        have tx := Gf.tame_bd (a := px) (by omega)
        have ty := Gf.tame_bd (a := py) (by omega)
        go_upto_region 13 with fail
        refine Ro.lex_region (by kernel_rfl) (by kernel_rfl) ?_
        repeat (first | (apply Ro.lex_free rfl rfl; focus (intro _; go_simp; first | done | rfl)) | (apply Ro.lex_load rfl rfl; focus (go_simp; first | done | rfl)) | (apply Ro.lex_store rfl; focus (go_simp; first | done | rfl)) | (apply Ro.lex_call rfl rfl; (focus (go_simp; first | done | rfl | exact ⟨rfl, rfl⟩)); (focus (first | exact reftame_any _ (by omega) _))))
        refine Ro.lex_end ?_
        generalize hX : Gf.tame px = X at tx
        generalize hY : Gf.tame py = Y at ty
        have HX := Lib.hid hX
        have HY := Lib.hid hY
        clear hX hY
        go_upto_region 14 with fail
        refine Ro.lex_region (by kernel_rfl) (by kernel_rfl) ?_
        repeat (first | (apply Ro.lex_free rfl rfl; focus (intro _; go_simp; first | done | rfl)) | (apply Ro.lex_load rfl rfl; focus (go_simp; first | done | rfl)) | (apply Ro.lex_store rfl; focus (go_simp; first | done | rfl)) | (apply Ro.lex_call rfl rfl; (focus (go_simp; first | done | rfl | exact ⟨rfl, rfl⟩)); (focus (first | exact refpush_any _ _ (by omega) (by omega) _))))
        refine Ro.lex_end ?_
        have v1 := Gf.push_bd vx X
        have v2 := Gf.push_bd vy Y
        generalize hX : Gf.push vx X = VX at v1
        generalize hY : Gf.push vy Y = VY at v2
        have HVX := Lib.hid hX
        have HVY := Lib.hid hY
        clear hX hY
        go_upto_region 15 with fail
        refine Ro.lex_region (by kernel_rfl) (by kernel_rfl) ?_
        repeat (first | (apply Ro.lex_free rfl rfl; focus (intro _; go_simp; first | done | rfl)) | (apply Ro.lex_load rfl rfl; focus (go_simp; first | done | rfl)) | (apply Ro.lex_store rfl; focus (go_simp; first | done | rfl)) | (apply Ro.lex_call rfl rfl; (focus (go_simp; first | done | rfl | exact ⟨rfl, rfl⟩)); (focus (first | exact refmove_any _ _ (by omega) (by omega) _))))
        refine Ro.lex_end ?_
        have m1 := Gf.move_bd x VX
        have m2 := Gf.move_bd y VY
        generalize hX : Gf.move x VX = NX at m1
        generalize hY : Gf.move y VY = NY at m2
        have HNX := Lib.hid hX
        have HNY := Lib.hid hY
        clear hX hY
        by_cases hcool : 0 < cool
        · go_wp2
          go_roundg (8 - (k + 1))
          case measure => omega
          case rel =>
            refine ⟨k + 1, by omega, rfl, by go_num, ?_⟩
            have e := Gm.next_cool (p := ps k) (n := (Gm.ph1 ps g k).2.length) (i := k) (s := (Gm.ph1 ps g k).1 k) (by rw [← SS.out]) (by rw [← SS.out]; exact hcool)
            have hq := ships_quiet (Bi := w.heap.size + 1) (Br := w.heap.size + 1 + 1) (Bn := Bn) hlt rfl HBB.out HOO.out HII.out HRR.out hbH.out (by have := hBnw; omega) (by have := hBnw; omega) (by have := hBnw; omega) ⟨true, NX, NY, VX, VY, cool - 1, score⟩ (by rw [e.1, ← SS.out, ← PP.out, ← HNX.out, ← HNY.out, ← HVX.out, ← HVY.out, ← HX.out, ← HY.out]; rfl) e.2
            exact ((((hq.alloc _).alloc _).drew).drew).drew
        · have hcool0 : cool = 0 := by omega
          subst hcool0
          have hbit : bits .and .u8 pb 1 = pb % 2 := by
            obtain ⟨b, rfl⟩ : ∃ b : Nat, pb = b := ⟨pb.toNat, by omega⟩
            rw [show (1 : Int) = ((1 : Nat) : Int) from rfl, u8_and_nat b 1 (by omega) (by omega), nat_mask1]
            rfl
          by_cases hsh : pb % 2 = 1 ∧ m < 32
          · have hm32 : decide ((m : Int) < 32) = true := decide_eq_true (by omega)
            have hb1 : (pb % 2 == 1) = true := by simpa using hsh.1
            have hm31 : m < 32 := hsh.2
            have HYES := Lib.hid (show Gm.shoots ⟨px, py, pb⟩ m ⟨true, x, y, vx, vy, 0, score⟩ = true by unfold Gm.shoots; simp; omega)
            obtain ⟨AX, hAX⟩ : ∃ AX, AX = Gf.aimx X Y := ⟨_, rfl⟩
            obtain ⟨AY, hAY⟩ : ∃ AY, AY = Gf.aimy Y := ⟨_, rfl⟩
            have cA := fun W => Lib.hid (refaim_any X Y pb (by omega) (by omega) p3 W)
            rw [← hAX, ← hAY] at cA
            have HAX := Lib.hid hAX
            have HAY := Lib.hid hAY
            have MM2 := Lib.hid MM.out
            clear hsh hAX hAY
            go_wp2_with (first | (go_at_call 68; ((with_reducible refine ((cA _).out).mono ?_); rintro e w1 ⟨rfl, hb1⟩; have sB := Lib.hid ((((((Box.made wr 26 #[.bool true, .int .i32 NX, .int .i32 NY, .int .i32 VX, .int .i32 VY, .int .i64 0, .int .i64 score]).alloc (.cells #[.int .i8 X, .int .i8 Y, .int .u8 pb] 37)).drew).drew).drew).below hb1 (by simp <;> omega)); have nB := Lib.hid ((((((HBB.out.alloc (.cells #[.bool true, .int .i32 NX, .int .i32 NY, .int .i32 VX, .int .i32 VY, .int .i64 0, .int .i64 score] 26)).alloc (.cells #[.int .i8 X, .int .i8 Y, .int .u8 pb] 37)).drew).drew).drew).below hb1 (by simp <;> omega)); have iB := Lib.hid ((((((HII.out.alloc (.cells #[.bool true, .int .i32 NX, .int .i32 NY, .int .i32 VX, .int .i32 VY, .int .i64 0, .int .i64 score] 26)).alloc (.cells #[.int .i8 X, .int .i8 Y, .int .u8 pb] 37)).drew).drew).drew).below hb1 (by simp <;> omega)); have rB := Lib.hid ((((((HRR.out.alloc (.cells #[.bool true, .int .i32 NX, .int .i32 NY, .int .i32 VX, .int .i32 VY, .int .i64 0, .int .i64 score] 26)).alloc (.cells #[.int .i8 X, .int .i8 Y, .int .u8 pb] 37)).drew).drew).drew).below hb1 (by simp <;> omega)); have oB := Lib.hid (own_below (((((HOO.out.alloc (.cells #[.bool true, .int .i32 NX, .int .i32 NY, .int .i32 VX, .int .i32 VY, .int .i64 0, .int .i64 score] 26)).alloc (.cells #[.int .i8 X, .int .i8 Y, .int .u8 pb] 37)).drew).drew).drew) hb1 (Nat.le_refl _)); have oM := Lib.hid (show w1.ownsRow w.heap.size 108 6 (.slice A1 m c1) m (Gm.shotCells (Gm.ph1 ps g k).2) from (by rw [MM2.out]; exact oB.out)); have nM := Lib.hid (show Box w1 Bn 30 (Gm.cells { g with ship := (Gm.ph1 ps g k).1 } (.slice A1 m c1)) from (by rw [MM2.out]; exact nB.out)); have bB := Lib.hid ((((((hbH.out.alloc (hbH.out.size) (.cells #[.bool true, .int .i32 NX, .int .i32 NY, .int .i32 VX, .int .i32 VY, .int .i64 0, .int .i64 score] 26)).alloc (by simp; have := hbH.out.size; omega) (.cells #[.int .i8 X, .int .i8 Y, .int .u8 pb] 37)).drew).drew).drew).trans (hb1.mono (by simp; have := hbH.out.size; omega))); have z1 : wr.heap.size + 1 < w1.heap.size := (by have := hb1.size; simp at this; omega); have sc := sB.out.cell; have nc := (nM.out.cell 58).trans K58.out; have nl := nM.out.lt; clear hb1)) | ((with_reducible refine append_gate (x := .tmp 102) (y := .tmp 111) (t := 28) (e := 108) (size := 6) (bytes := 32) rfl rfl Try.underlying28 hI.out hZ.out hS.out hY.out rfl (by decide) ?_); refine Appends.mk rfl (oM.out.alloc _) (lies_made w1 108 ⟨k, NX, NY, AX, AY, 24⟩) (shotCells_one _) (by unfold maxLen; omega) (by omega) (by have := bB.out.size; simp; omega) ?_; intro A2 k2 w2 own2 hg2; have sB2 := grown_box sB.out oM.out (by decide) hg2; have nB2 := grown_box nM.out oM.out (by decide) hg2; have iB2 := Lib.hid (grown_box iB.out oM.out (by decide) hg2); have rB2 := Lib.hid (grown_box rB.out oM.out (by decide) hg2); have bB2 := Lib.hid ((bB.out.alloc bB.out.size _).grown hg2 (by have := bB.out.size; simp; omega) (fun kk hk => (oM.out.lt kk hk).1)); have sc2 := sB2.cell; have sf2 := sB2.free; have sl2 := sB2.lt; have nc2 := nB2.cell; have nf2 := nB2.free; have nl2 := nB2.lt; have SB2 := Lib.hid sB2; have NB2 := Lib.hid nB2; have OB2 := Lib.hid own2; have q0 := K0.out; have q1 := K1.out; have q2 := K2.out; have q3 := K3.out; have q4 := K4.out; have q5 := K5.out; have q6 := K6.out; have q58 := K58.out; clear own2 hg2 sB2 nB2 sc nc))
            go_roundg (8 - (k + 1))
            case measure => omega
            case rel =>
              refine ⟨k + 1, by omega, rfl, by go_num, ?_⟩
              have e := Gm.next_shot (p := ps k) (n := m) (i := k) (s := (Gm.ph1 ps g k).1 k) (by rw [← SS.out]) (by rw [← SS.out]) (by rw [← SS.out, ← PP.out]; exact HYES.out)
              exact ships_shot hlt MM.out ⟨k, NX, NY, AX, AY, 24⟩ NB2.out OB2.out iB2.out rB2.out SB2.out bB2.out (by omega) (by omega) (by omega) (by omega) (by omega) (by omega) (by omega) ⟨true, NX, NY, VX, VY, 10, score⟩ (.int .i64 10)
                (by rw [e.1, ← SS.out, ← PP.out, ← HNX.out, ← HNY.out, ← HVX.out, ← HVY.out, ← HX.out, ← HY.out]; rfl)
                (by rw [e.2, ← SS.out, ← PP.out, HAX.out, HAY.out, ← HNX.out, ← HNY.out, ← HVX.out, ← HVY.out, ← HX.out, ← HY.out]; rfl)
          · have HNO := Lib.hid (show Gm.shoots ⟨px, py, pb⟩ m ⟨true, x, y, vx, vy, 0, score⟩ = false by
              unfold Gm.shoots; simp; intro h; omega)
            have hfin : ∀ w', w' = (((stored wr Bn k ⟨true, NX, NY, VX, VY, 0, score⟩).alloc (.cells #[.bool true, .int .i32 NX, .int .i32 NY, .int .i32 VX, .int .i32 VY, .int .i64 0, .int .i64 score] 26)).alloc (.cells #[.int .i8 X, .int .i8 Y, .int .u8 pb] 37)).drew.drew.drew → Ships ps g w w' (w.heap.size + 1) (w.heap.size + 1 + 1) Bn (k + 1) := fun w' hw' => by
              subst hw'
              have e := Gm.next_rest (p := ps k) (n := (Gm.ph1 ps g k).2.length) (i := k) (s := (Gm.ph1 ps g k).1 k) (by rw [← SS.out]) (by rw [← SS.out]) (by rw [← SS.out, ← PP.out, ← MM.out]; exact HNO.out)
              have hq := ships_quiet (Bi := w.heap.size + 1) (Br := w.heap.size + 1 + 1) (Bn := Bn) hlt rfl HBB.out HOO.out HII.out HRR.out hbH.out (by omega) (by omega) (by omega) ⟨true, NX, NY, VX, VY, 0, score⟩ (by rw [e.1, ← SS.out, ← PP.out, ← HNX.out, ← HNY.out, ← HVX.out, ← HVY.out, ← HX.out, ← HY.out]; rfl) e.2
              exact ((((hq.alloc _).alloc _).drew).drew).drew
            have HF := Lib.hid hfin
            clear hfin
            by_cases hodd : pb % 2 = 1
            · have hm32 : decide ((m : Int) < 32) = false := decide_eq_false (by omega)
              have hb1 : (pb % 2 == 1) = true := by simpa using hodd
              clear hsh hodd
              go_wp2
              go_roundg (8 - (k + 1))
              case measure => omega
              case rel => exact ⟨k + 1, by omega, rfl, by go_num, HF.out _ rfl⟩
            · have hb1 : (pb % 2 == 1) = false := by simpa using hodd
              clear hsh hodd
              go_wp2
              go_roundg (8 - (k + 1))
              case measure => omega
              case rel => exact ⟨k + 1, by omega, rfl, by go_num, HF.out _ rfl⟩
    · have hk' : k = 8 := by omega
      subst hk'
      obtain ⟨⟨A1, c1, hB, hO⟩, hI1, hR1, hb⟩ := hR
      have way := Gm.ph1_way (ps := ps) hg 8 (Nat.le_refl _)
      obtain ⟨F, hF⟩ : ∃ F, F = (Gm.ph1 ps g 8).1 := ⟨_, rfl⟩
      obtain ⟨l, hl⟩ : ∃ l, l = (Gm.ph1 ps g 8).2 := ⟨_, rfl⟩
      rw [← hF, ← hl] at way
      rw [← hF, ← hl] at hB
      rw [← hl] at hO
      obtain ⟨wships, wshots, wlen⟩ := way
      have way0 : Gm.Way2 ⟨g.dice, F, []⟩ := ⟨wships, fun t ht => (by cases ht), hd⟩
      have hS0 := Lib.hid (show Shoots g l ⟨g.dice, F, []⟩ A1 c1 w wr (w.heap.size + 1 + 1) Bn wr.heap.size (.slice none 0 0) from
        ⟨hB, Lies.owned hO, ⟨none, 0, rfl, World.ownsRow_nil _ _ _ _⟩, hR1, hb, Nat.le_refl _⟩)
      have hBnl := hB.lt
      have FF := Lib.hid hF
      have LL := Lib.hid hl
      generalize hBl : wr.heap.size = Bl at hBnl
      rw [hBl] at hS0
      clear hF hl hB hO hI1 hR1 hb hBl
      go_wp2
      go_loopg [12, 13] l.length (fun gg s12 i w' => ∃ j : Nat, j ≤ l.length ∧ gg = l.length - j ∧ i = .int .i64 j ∧ Shoots g l (Gm.ph2 ⟨g.dice, F, []⟩ (l.take j)) A1 c1 w w' (w.heap.size + 1 + 1) Bn Bl s12)
      case atStart => exact ⟨0, by omega, rfl, rfl, hS0.out⟩
      case round =>
        obtain ⟨j, hj, rfl, rfl, hR⟩ := hrel
        clear hS0
        have HR := Lib.hid hR
        obtain ⟨hB, hL, ⟨A2, c2, e12, hO⟩, hR1, hb, hsz⟩ := hR
        subst e12
        have hcr := hB.cell
        have hfB := hB.free
        have hlB := hB.lt
        have c58 := Gm.cells_58 { g with dice := (Gm.ph2 ⟨g.dice, F, []⟩ (l.take j)).dice, ship := (Gm.ph2 ⟨g.dice, F, []⟩ (l.take j)).ship } (.slice A1 l.length c1)
        by_cases hlt : j < l.length
        · have hjl : (j : Int) < (l.length : Int) := by omega
          obtain ⟨way2, len2⟩ := Gm.ph2_way way0 wshots j hj
          have hsn := Lib.hid (Gm.ph2_snoc ⟨g.dice, F, []⟩ l j hlt)
          obtain ⟨ad, rfl, hbl, a0, a1, a2, a3, a4, a5⟩ := shots_at hL rfl j hlt
          have oks := wshots _ (List.getElem_mem hlt)
          obtain ⟨s, hs⟩ : ∃ s, s = l[j] := ⟨_, rfl⟩
          rw [← hs] at a0 a1 a2 a3 a4 a5 oks
          have SS := Lib.hid hs
          generalize hst : Gm.ph2 ⟨g.dice, F, []⟩ (l.take j) = st at *
          obtain ⟨owner, x, y, vx, vy, left⟩ := s
          have OKS := Lib.hid oks
          obtain ⟨o1, o2, o3, o4, o5, o6, o7, o8⟩ := oks
          simp only [Gm.inF, Gm.slow] at o1 o2 o3 o4 o5 o6 o7 o8
          dsimp only at a0 a1 a2 a3 a4 a5
          have hsub : IntKind.i64.wrap (left - 1) = left - 1 := by rw [IntKind.wrap_i64]; omega
          have HSUB := Lib.hid hsub
          have HBB := Lib.hid hB
          have HOO := Lib.hid hO
          clear hsub hs hB hO hL hR1 hb hbl
          go_upto_region 28 with fail
          have hsub := HSUB.out
          refine Ro.lex_region (by kernel_rfl) (by kernel_rfl) ?_
          repeat (first | (apply Ro.lex_free rfl rfl; focus (intro _; go_simp; first | done | rfl)) | (apply Ro.lex_load rfl rfl; focus (go_simp; first | done | rfl)) | (apply Ro.lex_store rfl; focus (go_simp; first | done | rfl)) | (apply Ro.lex_call rfl rfl; (focus (go_simp; first | done | rfl | exact ⟨rfl, rfl⟩)); (focus (first | exact refmove_any _ _ (by omega) (by omega) _))))
          refine Ro.lex_end ?_
          clear hsub
          have m1 := Gf.move_bd x vx
          have m2 := Gf.move_bd y vy
          generalize hX : Gf.move x vx = NX at m1
          generalize hY : Gf.move y vy = NY at m2
          have HNX := Lib.hid hX
          have HNY := Lib.hid hY
          clear hX hY
          by_cases hl1 : left = 1
          · subst hl1
            go_wp2
            go_roundg (l.length - (j + 1))
            case measure => omega
            case rel =>
              refine ⟨j + 1, by omega, rfl, by go_num, ?_⟩
              have e : Gm.ph2 ⟨g.dice, F, []⟩ (l.take (j + 1)) = st := by
                rw [hsn.out, ← SS.out]; unfold Gm.shot1; rw [if_pos (by show (1 : Int) - 1 = 0; rfl)]
              rw [e]
              exact (HR.out.alloc _).drew
          · have hl0 : (left - 1 == 0) = false := by simp; omega
            have hfly : Gm.fly ⟨owner, x, y, vx, vy, left⟩ = ⟨owner, NX, NY, vx, vy, left - 1⟩ := by rw [← HNX.out, ← HNY.out]; rfl
            have hft := Gm.fly_ty OKS.out
            rw [hfly] at hft
            have cH := fun W => Lib.hid (refhit_any { g with dice := st.dice, ship := st.ship } (.slice (some ad) l.length c1) ⟨owner, NX, NY, vx, vy, left - 1⟩ W (fun i hi => (way2.ships i hi).ty) hft)
            simp only [Gm.Shot.cells] at cH
            have hbd := Gm.hit_bd st.ship ⟨owner, NX, NY, vx, vy, left - 1⟩
            have HFLY := Lib.hid hfly
            obtain ⟨H, hH⟩ : ∃ H, H = Gm.hit st.ship ⟨owner, NX, NY, vx, vy, left - 1⟩ := ⟨_, rfl⟩
            rw [← hH] at hbd
            have hcH : ∀ W, Hid (Calls Try.prog 69 #[.agg (Gm.cells { g with dice := st.dice, ship := st.ship } (.slice (some ad) l.length c1)), .agg #[.int .i64 owner, .int .i32 NX, .int .i32 NY, .int .i32 vx, .int .i32 vy, .int .i64 (left - 1)]] W fun e w' => e = .returned (.int .i64 H) ∧ Below W.heap.size W w') := fun W => by rw [hH]; exact cH W
            have HH := Lib.hid hH
            have GB := Lib.hid (HBB.out.alloc (.cells #[.int .i64 owner, .int .i32 NX, .int .i32 NY, .int .i32 vx, .int .i32 vy, .int .i64 (left - 1)] 108)).drew
            have n32 : st.left.length ≤ 32 := by have : (Gm.St.left ⟨g.dice, F, []⟩).length = 0 := rfl; omega
            clear hfly hft cH hH
            rcases hbd with hno | ⟨kh, hyes, hkh, hhk⟩
            · subst hno
              go_wp2_with (first | ((with_reducible refine load_gate rfl rfl ?_); apply LoadGame.mk rfl; exact GB.out) | (go_at_call 69; ((with_reducible refine ((hcH _).out).mono ?_); rintro e w1 ⟨rfl, hb1⟩; have s1 := Lib.hid ((((Box.made _ 108 #[.int .i64 owner, .int .i32 NX, .int .i32 NY, .int .i32 vx, .int .i32 vy, .int .i64 (left - 1)]).drew)).below hb1 (by simp)); have on1 := Lib.hid (((HR.out.alloc (.cells #[.int .i64 owner, .int .i32 NX, .int .i32 NY, .int .i32 vx, .int .i32 vy, .int .i64 (left - 1)] 108)).drew).on hb1); have oM := Lib.hid (own_below ((HOO.out.alloc (.cells #[.int .i64 owner, .int .i32 NX, .int .i32 NY, .int .i32 vx, .int .i32 vy, .int .i64 (left - 1)] 108)).drew) hb1 (Nat.le_refl _)); have sc := s1.out.cell; have sl := s1.out.lt; clear hb1)) | ((with_reducible refine append_gate (x := .tmp 155) (y := .tmp 157) (t := 28) (e := 108) (size := 6) (bytes := 32) rfl rfl Try.underlying28 hI.out hZ.out hS.out hY.out rfl (by decide) ?_); refine Appends.mk rfl (oM.out.alloc _) (lies_made w1 108 ⟨owner, NX, NY, vx, vy, left - 1⟩) (shotCells_one _) (by unfold maxLen; omega) (by omega) (by have := on1.out.size; simp; omega) ?_; intro A3 k3 w2 own2 hg2; have SH2 := Lib.hid (shoots_kept on1.out oM.out own2 hg2 (by omega)); clear own2 hg2 sc))
              go_roundg (l.length - (j + 1))
              case measure => omega
              case rel =>
                refine ⟨j + 1, by omega, rfl, by go_num, ?_⟩
                have e : Gm.ph2 ⟨g.dice, F, []⟩ (l.take (j + 1)) = { st with left := st.left ++ [⟨owner, NX, NY, vx, vy, left - 1⟩] } := by
                  rw [hsn.out, ← SS.out]; unfold Gm.shot1
                  rw [HFLY.out, if_neg (by dsimp only; omega), if_pos (by rw [← HH.out]; decide)]
                rw [e]
                exact SH2.out
            · subst hyes
              have hk0 : ¬ (kh : Int) < 0 := by omega
              have hk8 : (kh : Int) < 8 := by omega
              have hdice := way2.dice
              have hoks := fun i hi => (way2.ships i hi).2.2.2.2.2.2
              obtain ⟨o, rfl⟩ : ∃ o : Nat, owner = (o : Int) := ⟨owner.toNat, by omega⟩
              have ho : o < 8 := by omega
              have ho8 : (o : Int) < 8 := by omega
              obtain ⟨X, hX⟩ : ∃ X, X = Gm.placeX st.dice := ⟨_, rfl⟩
              obtain ⟨Y, hY⟩ : ∃ X, X = Gm.placeY st.dice := ⟨_, rfl⟩
              obtain ⟨D, hD⟩ : ∃ X, X = Gm.placeD st.dice := ⟨_, rfl⟩
              have cP : ∀ W, Hid (Calls Try.prog 57 #[.int .u64 st.dice] W fun e w' => e = .returned (.tuple #[.int .i32 X, .int .i32 Y, .int .u64 D]) ∧ W = w') := fun W => Lib.hid (by rw [hX, hY, hD]; exact refplace_any st.dice hdice W)
              obtain ⟨t, ht⟩ : ∃ t, t = st.ship kh := ⟨_, rfl⟩
              have e1 := Gm.cells_1 { g with dice := st.dice, ship := st.ship } (.slice (some ad) l.length c1)
              have q0 := (Gm.cells_ship { g with dice := st.dice, ship := st.ship } (.slice (some ad) l.length c1) kh 0 hkh (by omega)).trans (by rw [ht]; rfl : _ = some (.bool t.on))
              have q1 := (Gm.cells_ship { g with dice := st.dice, ship := st.ship } (.slice (some ad) l.length c1) kh 1 hkh (by omega)).trans (by rw [ht]; rfl : _ = some (.int .i32 t.x))
              have q2 := (Gm.cells_ship { g with dice := st.dice, ship := st.ship } (.slice (some ad) l.length c1) kh 2 hkh (by omega)).trans (by rw [ht]; rfl : _ = some (.int .i32 t.y))
              have q3 := (Gm.cells_ship { g with dice := st.dice, ship := st.ship } (.slice (some ad) l.length c1) kh 3 hkh (by omega)).trans (by rw [ht]; rfl : _ = some (.int .i32 t.vx))
              have q4 := (Gm.cells_ship { g with dice := st.dice, ship := st.ship } (.slice (some ad) l.length c1) kh 4 hkh (by omega)).trans (by rw [ht]; rfl : _ = some (.int .i32 t.vy))
              have q5 := (Gm.cells_ship { g with dice := st.dice, ship := st.ship } (.slice (some ad) l.length c1) kh 5 hkh (by omega)).trans (by rw [ht]; rfl : _ = some (.int .i64 t.cool))
              have q6 := (Gm.cells_ship { g with dice := st.dice, ship := st.ship } (.slice (some ad) l.length c1) kh 6 hkh (by omega)).trans (by rw [ht]; rfl : _ = some (.int .i64 t.score))
              simp only [Nat.add_zero] at q0
              have HX := Lib.hid hX
              have HY := Lib.hid hY
              have HD := Lib.hid hD
              have HTT := Lib.hid ht
              have HOKS := Lib.hid hoks
              have BNL := Lib.hid (show Bn < wr.heap.size from HBB.out.lt)
              clear hX hY hD ht hoks hdice hhk
              go_upto_region 36 with (first | ((with_reducible refine load_gate rfl rfl ?_); apply LoadGame.mk rfl; exact GB.out) | (go_at_call 57; ((with_reducible refine ((cP _).out).mono ?_); rintro e w6 ⟨rfl, rfl⟩)) | (go_at_call 69; ((with_reducible refine ((hcH _).out).mono ?_); rintro e w5 ⟨rfl, hb1⟩; have S1 := Lib.hid ((((Box.made wr 108 #[.int .i64 o, .int .i32 NX, .int .i32 NY, .int .i32 vx, .int .i32 vy, .int .i64 (left - 1)]).drew)).below hb1 (by simp)); have H1 := Lib.hid (((HR.out.alloc (.cells #[.int .i64 o, .int .i32 NX, .int .i32 NY, .int .i32 vx, .int .i32 vy, .int .i64 (left - 1)] 108)).drew).on hb1); have G1 := Lib.hid (GB.out.below hb1 GB.out.lt); have gc := G1.out.cell; have gf := G1.out.free; have gl := G1.out.lt; clear hb1)))
              have hF0 : ∃ FN, FN = Gm.upd st.ship kh ⟨true, X, Y, 0, 0, 0, t.score⟩ := ⟨_, rfl⟩
              obtain ⟨FN, hF⟩ := hF0
              have hgen : ∀ W : World, W = stored (w5.setCell ⟨Bn, 1, none⟩ (.int .u64 D)) Bn kh ⟨true, X, Y, 0, 0, 0, t.score⟩ → Box W Bn 30 (Gm.cells { g with dice := D, ship := FN } (.slice (some ad) l.length c1)) ∧ Box W wr.heap.size 108 #[.int .i64 o, .int .i32 NX, .int .i32 NY, .int .i32 vx, .int .i32 vy, .int .i64 (left - 1)] ∧ (∀ b, b ≠ Bn → W.heap[b]? = w5.heap[b]?) ∧ Below Bn w5 W := fun W hW => by
                subst hW
                have nes : wr.heap.size ≠ Bn := by have := BNL.out; omega
                refine ⟨?_, stored_far (S1.out.far nes _) nes _, fun b hb => (stored_else _ b hb).trans (heap_setCell_other _ _ b _ hb), stored_below ((Below.refl Bn w5).setCell (p := ⟨Bn, 1, none⟩) (Nat.le_refl Bn) _) (Nat.le_refl Bn) _⟩
                rw [hF]
                exact blk_ship (g := { g with dice := D, ship := st.ship }) (blk_dice G1.out D) hkh _
              obtain ⟨W2, hW2⟩ : ∃ W2, W2 = stored (w5.setCell ⟨Bn, 1, none⟩ (.int .u64 D)) Bn kh ⟨true, X, Y, 0, 0, 0, t.score⟩ := ⟨_, rfl⟩
              have hh2 := hgen W2 hW2
              simp only [stored] at hW2
              rw [← hW2]
              obtain ⟨g2, s2, hk2, hb2⟩ := hh2
              have hsF : ∀ i, i < 8 → 0 ≤ (FN i).score ∧ (FN i).score ≤ 1073741824 := fun i hi => by
                have h1 := HOKS.out i hi
                have h2 := HOKS.out kh hkh
                rw [hF]; unfold Gm.upd; split
                · dsimp only; rw [HTT.out]; exact h2.2
                · exact h1.2
              have sco := hsF o ho
              have r0 := Gm.cells_ship { g with dice := D, ship := FN } (.slice (some ad) l.length c1) o 0 ho (by omega)
              have r6 := Gm.cells_ship { g with dice := D, ship := FN } (.slice (some ad) l.length c1) o 6 ho (by omega)
              simp only [Gm.Ship.cells, List.getElem?_cons_zero, List.getElem?_cons_succ, Nat.add_zero] at r0 r6
              have FH := Lib.hid hF
              have hsco := Lib.hid (fun u => (show Box (W2.setCell ⟨Bn, 2 + o * 7 + 6, none⟩ (.int .i64 u)) Bn 30 (Gm.cells { g with dice := D, ship := Gm.upd FN o { FN o with score := u } } (.slice (some ad) l.length c1)) from by
                have h := g2.put (2 + o * 7 + 6) (.int .i64 u)
                have e := set_score { g with dice := D, ship := FN } (.slice (some ad) l.length c1) o (FN o) ho u
                dsimp only at e
                rw [Gm.upd_self] at e
                rw [e] at h
                exact h))
              have G2 := Lib.hid g2
              have K2 := Lib.hid hk2
              have B2 := Lib.hid hb2
              have gc := g2.cell
              have gf := g2.free
              have gl := g2.lt
              have s0 := s2.cell
              have E1 := Lib.hid (show ∀ FN', (FN' = Gm.more FN o) → Gm.ph2 ⟨g.dice, F, []⟩ (l.take (j + 1)) = ⟨D, FN', st.left⟩ from fun FN' hF' => by
                rw [hsn.out, ← SS.out]; unfold Gm.shot1
                rw [HFLY.out, if_neg (by dsimp only; omega), if_neg (by rw [← HH.out]; omega), ← HH.out, HD.out, hF', FH.out, HX.out, HY.out, HTT.out]
                rfl)
              have FF2 : Hid (Gm.more FN o = if (FN o).on = true then Gm.upd FN o { FN o with score := min ((FN o).score + 1) 1073741824 } else FN) := Lib.hid rfl
              clear hgen hW2 hF g2 s2 hk2 hb2 S1 G1 hsF q0 q1 q2 q3 q4 q5 q6 e1 cP hcH GB
              cases hon : (FN o).on
              · rw [hon] at r0
                have HON := Lib.hid hon
                clear hon
                go_wp2
                go_roundg (l.length - (j + 1))
                case measure => omega
                case rel =>
                  refine ⟨j + 1, by omega, rfl, by go_num, ?_⟩
                  rw [E1.out FN (by rw [FF2.out, if_neg (by rw [HON.out]; simp)])]
                  exact (H1.out.hit (st' := ⟨D, FN, st.left⟩) rfl G2.out (fun b hb _ => K2.out b hb) (by omega) B2.out (by omega))
              · rw [hon] at r0
                have HON := Lib.hid hon
                clear hon
                generalize (FN o).score = so at *
                have hwrap : IntKind.i64.wrap (so + 1) = so + 1 := by rw [IntKind.wrap_i64]; omega
                go_upto_region 37 with fail
                by_cases hms : so + 1 ≤ 1073741824
                · have MM := Lib.hid (Int.min_eq_left hms)
                  refine Ro.lex_region (by kernel_rfl) (by kernel_rfl) ?_
                  repeat (first | (apply Ro.lex_free rfl rfl; focus (intro _; go_simp; first | done | rfl)) | (apply Ro.lex_load rfl rfl; focus (go_simp; first | done | rfl)) | (apply Ro.lex_store rfl; focus (go_simp; first | done | rfl)))
                  refine Ro.lex_end ?_
                  go_wp2
                  go_roundg (l.length - (j + 1))
                  case measure => omega
                  case rel =>
                    refine ⟨j + 1, by omega, rfl, by go_num, ?_⟩
                    rw [E1.out (Gm.upd FN o { FN o with score := (so + 1) }) (by rw [FF2.out, if_pos HON.out, MM.out])]
                    have hfin := H1.out.hit (st' := ⟨D, Gm.upd FN o { FN o with score := (so + 1) }, st.left⟩) rfl (hsco.out (so + 1)) (fun b hb _ => (heap_setCell_other _ _ b _ hb).trans (K2.out b hb)) (by omega) (B2.out.setCell (p := ⟨Bn, 2 + o * 7 + 6, none⟩) (Nat.le_refl Bn) _) (by omega)
                    first | exact hfin.drew | exact hfin
                · have MM := Lib.hid (Int.min_eq_right (show (1073741824 : Int) ≤ so + 1 by omega))
                  refine Ro.lex_region (by kernel_rfl) (by kernel_rfl) ?_
                  repeat (first | (apply Ro.lex_free rfl rfl; focus (intro _; go_simp; first | done | rfl)) | (apply Ro.lex_load rfl rfl; focus (go_simp; first | done | rfl)) | (apply Ro.lex_store rfl; focus (go_simp; first | done | rfl)))
                  refine Ro.lex_end ?_
                  go_wp2
                  go_roundg (l.length - (j + 1))
                  case measure => omega
                  case rel =>
                    refine ⟨j + 1, by omega, rfl, by go_num, ?_⟩
                    rw [E1.out (Gm.upd FN o { FN o with score := 1073741824 }) (by rw [FF2.out, if_pos HON.out, MM.out])]
                    have hfin := H1.out.hit (st' := ⟨D, Gm.upd FN o { FN o with score := 1073741824 }, st.left⟩) rfl (hsco.out 1073741824) (fun b hb _ => (heap_setCell_other _ _ b _ hb).trans (K2.out b hb)) (by omega) (B2.out.setCell (p := ⟨Bn, 2 + o * 7 + 6, none⟩) (Nat.le_refl Bn) _) (by omega)
                    first | exact hfin.drew | exact hfin
        · have hjl : ¬ (j : Int) < (l.length : Int) := by omega
          have hje : j = l.length := by omega
          obtain ⟨st, hst⟩ : ∃ st, st = Gm.ph2 ⟨g.dice, F, []⟩ (l.take j) := ⟨_, rfl⟩
          rw [← hst] at hB hO hcr c58 HR
          have e0 := Gm.cells_0 { g with dice := st.dice, ship := st.ship } (.slice A1 l.length c1)
          have hstep : Gm.step ps g = ⟨g.frame + 1, st.dice, st.ship, st.left⟩ := by
            rw [hst, hje, List.take_length, FF.out, LL.out]; rfl
          have g1 := Lib.hid (blk_frame (blk_shots hB (.slice A2 st.left.length c2)) (g.frame + 1))
          have g2 := Lib.hid ((hR1.far (p := ⟨Bn, 58, none⟩) (show w.heap.size + 1 + 1 ≠ Bn by omega) (.slice A2 st.left.length c2)).far (p := ⟨Bn, 0, none⟩) (show w.heap.size + 1 + 1 ≠ Bn by omega) (.int .i64 (g.frame + 1)))
          have ne : (Value.slice A2 st.left.length c2).ownBlock ≠ some Bn := hB.unowned hO (by decide)
          have ne2 : (Value.slice A2 st.left.length c2).ownBlock ≠ some (w.heap.size + 1 + 1) := hR1.unowned hO (by decide)
          have NE := Lib.hid ne
          have NE2 := Lib.hid ne2
          have HOO := Lib.hid hO
          have HBW := Lib.hid hb
          have HST := Lib.hid hstep
          rw [← hst]
          clear hstep hst hB hO hR1 hb ne ne2 hL hje
          go_wp2_with (first | ((with_reducible refine load_gate rfl rfl ?_); apply LoadGame.mk rfl; exact g1.out) | ((with_reducible refine store_gate rfl rfl ?_); apply StoreGame.mk rfl rfl rfl; exact g2.out))
          refine bodyPost_ret (v := .tuple #[.agg (Gm.cells { g with frame := g.frame + 1, dice := st.dice, ship := st.ship } (.slice A2 st.left.length c2)), .int .i64 0]) ?_ ?_ ?_
          · exact results_cell_tmp (p := 4) (q := 5) rfl _ _ _ _ (Gm.cells { g with frame := g.frame + 1, dice := st.dice, ship := st.ship } (.slice A2 st.left.length c2)) _ rfl (Box.row g2.out _) Try.underlying30 rfl game_info
          · rfl
          · rw [HST.out]
            refine ⟨A2, c2, rfl, ?_, ?_⟩
            · exact Lies.owned (own_setRow (ownsRow_setCell_other (a := ⟨Bn, 0, none⟩) (ownsRow_setCell_other (a := ⟨Bn, 58, none⟩) HOO.out NE.out _) NE.out _) NE2.out _)
            · exact Below.setRow' ((HBW.out.setCell (by show w.heap.size ≤ Bn; omega) _).setCell (by show w.heap.size ≤ Bn; omega) _) (by omega) _
end Go.Proofs.Ytbihnmingedgfaa

/-
The document's New and Spawn.
-/



namespace Go.Proofs.Ytbihnmingedgfaa
open Go.RowKit
set_option linter.unusedVariables false

set_option maxRecDepth 100000 in
set_option maxHeartbeats 4000000 in
theorem refnew_any (s : ByteArray) (w : World) (hs : s.size ≤ maxLen) :
    Calls Try.prog 16 #[.string s] w fun e w' => e = .returned (.agg (Gm.cells (Gm.new (Dn.seed s.data.toList)) (.slice none 0 0))) ∧ Below w.heap.size w w' := by
  have c1 := fun X => Lib.hid (refseed_any s X hs)
  have hr := Lib.hid (rfl : Try.f16.results = _)
  go_enter Try.func16, Try.ntmps16
  go_wp2_with (first | (go_at_call 36; ((with_reducible refine ((c1 _).out).mono ?_); rintro e w' ⟨rfl, rfl⟩)) | (refine wpList_alloc_z rfl (t := 30) rfl game_zero rfl ?_) | (refine wpList_build_is rfl (t := 30) (vs := [(1, .int .u64 (Dn.seed s.data.toList))]) rfl rfl (built_new _) ?_) | (refine wpList_store_new rfl (ty := 30) rfl rfl rfl rfl rfl game_info rfl (cells_one _ _ rfl) ?_))
  refine bodyPost_ret (v := .agg (Gm.cells (Gm.new (Dn.seed s.data.toList)) (.slice none 0 0))) ?_ ?_ ?_
  · exact results_cell_row rfl _ _ _ _ (Gm.cells (Gm.new (Dn.seed s.data.toList)) (.slice none 0 0)) (0, 0) _ rfl (Box.made _ _ _).is Try.underlying30 rfl game_info
  · rfl
  · exact ⟨rfl, one_below _ _⟩

/-- The world behind a spawn. -/
def spawned (w1 : World) (B i : Nat) (x y d : Int) : World :=
  (((((((w1.setCell ⟨B, 1, none⟩ (.int .u64 d)).setCell ⟨B, 2 + i * 7, none⟩ (.bool true)).setCell ⟨B, 2 + i * 7 + 1, none⟩ (.int .i32 x)).setCell ⟨B, 2 + i * 7 + 2, none⟩ (.int .i32 y)).setCell ⟨B, 2 + i * 7 + 3, none⟩ (.int .i32 0)).setCell ⟨B, 2 + i * 7 + 4, none⟩ (.int .i32 0)).setCell ⟨B, 2 + i * 7 + 5, none⟩ (.int .i64 0)).setCell ⟨B, 2 + i * 7 + 6, none⟩ (.int .i64 0)
theorem spawned_own {w1 : World} {B i : Nat} {g : Gm.G} {s : Value} (c1 : Box w1 B 30 (Gm.cells g s)) (hi : i < 8) (x y d : Int) :
    Box (spawned w1 B i x y d) B 30 (Gm.cells { g with dice := d, ship := Gm.upd g.ship i ⟨true, x, y, 0, 0, 0, 0⟩ } s) := blk_ship (blk_dice c1 d) hi ⟨true, x, y, 0, 0, 0, 0⟩
theorem spawned_other {w1 : World} {B B' i : Nat} {t : TypeId} {cs : Array Value} (c2 : Box w1 B' t cs) (hne : B' ≠ B) (x y d : Int) : Box (spawned w1 B i x y d) B' t cs :=
  (((((((c2.far hne _).far hne _).far hne _).far hne _).far hne _).far hne _).far hne _).far hne _
theorem spawned_below {w0 w1 : World} {C B i : Nat} (h : Below C w0 w1) (hC : C ≤ B) (x y d : Int) : Below C w0 (spawned w1 B i x y d) :=
  (((((((h.setCell hC _).setCell hC _).setCell hC _).setCell hC _).setCell hC _).setCell hC _).setCell hC _).setCell hC _

set_option maxRecDepth 100000 in
set_option maxHeartbeats 400000 in
theorem refspawn_walk (g : Gm.G) (A : Option Addr) (n c i : Nat) (x y d : Int) (w : World) (hg : Gm.ok g) (hd : 0 ≤ g.dice ∧ g.dice ≤ 18446744073709551615) (hn : n = g.shots.length) (hr : Lies w w.heap.size 6 A n (Gm.shotCells g.shots)) (hi : i < 8) (ho : (g.ship i).on = false)
    (hx : Dn.share (Dn.next g.dice) 16777216 = x) (hy : Dn.share (Dn.next (Dn.next g.dice)) 16777216 = y) (hdd : Dn.next (Dn.next g.dice) = d) :
    Calls Try.prog 18 #[.agg (Gm.cells g (.slice A n c)), .int .i64 i] w fun e w' => e = .returned (.tuple #[.agg (Gm.cells { g with dice := d, ship := Gm.upd g.ship i ⟨true, x, y, 0, 0, 0, 0⟩ } (.slice A n c)), .int .i64 0]) ∧ Below w.heap.size w w' := by
  have b1 : Box ((w.alloc (.cells (Gm.cells g (.slice A n c)) 30)).alloc (.cells (Gm.cells zeroG (.slice none 0 0)) 30)) w.heap.size 30 (Gm.cells g (.slice A n c)) := (Box.made _ _ _).alloc _
  have b2 : Box ((w.alloc (.cells (Gm.cells g (.slice A n c)) 30)).alloc (.cells (Gm.cells zeroG (.slice none 0 0)) 30)) (w.heap.size + 1) 30 (Gm.cells zeroG (.slice none 0 0)) := Box.made_at _ _ _ (by simp)
  have hb0 := two_below' w (.cells (Gm.cells g (.slice A n c)) 30) (.cells (Gm.cells zeroG (.slice none 0 0)) 30)
  have cm := Lib.hid (refmay_yes g A n c _ hg hn ((hr.below hb0).wider hb0.size))
  have cp := fun X => Lib.hid (refplace_any g.dice hd X)
  rw [hx, hy, hdd] at cp
  have hi8 : (i : Int) < 8 := by omega
  obtain ⟨t, ht⟩ : ∃ t, t = g.ship i := ⟨_, rfl⟩
  have q0 : (Gm.cells g (.slice A n c))[2 + i * 7]? = some (.bool false) := (Gm.cells_ship g _ i 0 hi (by omega)).trans (by show some (Value.bool (g.ship i).on) = _; rw [ho])
  have q1 : (Gm.cells g (.slice A n c))[2 + i * 7 + 1]? = some (.int .i32 t.x) := (Gm.cells_ship g _ i 1 hi (by omega)).trans (by rw [ht]; rfl)
  have q2 : (Gm.cells g (.slice A n c))[2 + i * 7 + 2]? = some (.int .i32 t.y) := (Gm.cells_ship g _ i 2 hi (by omega)).trans (by rw [ht]; rfl)
  have q3 : (Gm.cells g (.slice A n c))[2 + i * 7 + 3]? = some (.int .i32 t.vx) := (Gm.cells_ship g _ i 3 hi (by omega)).trans (by rw [ht]; rfl)
  have q4 : (Gm.cells g (.slice A n c))[2 + i * 7 + 4]? = some (.int .i32 t.vy) := (Gm.cells_ship g _ i 4 hi (by omega)).trans (by rw [ht]; rfl)
  have q5 : (Gm.cells g (.slice A n c))[2 + i * 7 + 5]? = some (.int .i64 t.cool) := (Gm.cells_ship g _ i 5 hi (by omega)).trans (by rw [ht]; rfl)
  have q6 : (Gm.cells g (.slice A n c))[2 + i * 7 + 6]? = some (.int .i64 t.score) := (Gm.cells_ship g _ i 6 hi (by omega)).trans (by rw [ht]; rfl)
  have e1 := Gm.cells_1 g (.slice A n c)
  have hbz := Lib.hid hb0
  have B1 := Lib.hid b1
  have B2 := Lib.hid b2
  clear ht hn hr hb0 b1 b2 hx hy hdd ho hg
  go_enter Try.func18, Try.ntmps18
  go_wp2_with (first | (refine wpList_alloc_game rfl rfl ?_) | ((with_reducible refine load_gate rfl rfl ?_); apply LoadGame.mk rfl; (with_reducible exact B1.out)) | ((with_reducible refine load_gate rfl rfl ?_); apply LoadGame.mk rfl; exact F1.out) | (go_at_call 56; ((with_reducible refine (cm.out).mono ?_); rintro e w1 ⟨rfl, hb⟩; have c1 := B1.out.below hb (by simp; omega); have c2 := B2.out.below hb (by simp); have cc := c1.cell; have cf := c1.free; have cl := c1.lt; have hbb := Lib.hid (hbz.out.trans (hb.mono hbz.out.size)); have F1 := Lib.hid (spawned_own c1 hi x y d); have F2 := Lib.hid (spawned_other (B := w.heap.size) (i := i) c2 (by omega) x y d); clear c1 c2 hb)) | (go_at_call 57; ((with_reducible refine ((cp _).out).mono ?_); rintro e w' ⟨rfl, rfl⟩)) | (refine wpList_build_is rfl (t := 26) (vs := [(0, .bool true), (1, .int .i32 x), (2, .int .i32 y)]) rfl rfl (built_ship0 _ _) ?_) | ((with_reducible refine store_gate rfl rfl ?_); apply StoreGame.mk rfl rfl rfl; exact F2.out))
  refine bodyPost_ret (v := .tuple #[.agg (Gm.cells { g with dice := d, ship := Gm.upd g.ship i ⟨true, x, y, 0, 0, 0, 0⟩ } (.slice A n c)), .int .i64 0]) ?_ ?_ ?_
  · exact results_cell_tmp (p := 4) (q := 5) rfl _ _ _ _ (Gm.cells { g with dice := d, ship := Gm.upd g.ship i ⟨true, x, y, 0, 0, 0, 0⟩ } (.slice A n c)) _ rfl (Box.row F2.out _) Try.underlying30 rfl game_info
  · rfl
  · exact ⟨rfl, Below.setRow' (spawned_below hbb.out (Nat.le_refl _) x y d) (by omega) _⟩
theorem refspawn_yes (g : Gm.G) (A : Option Addr) (n c i : Nat) (w : World) (hg : Gm.ok g) (hd : 0 ≤ g.dice ∧ g.dice ≤ 18446744073709551615) (hn : n = g.shots.length) (hr : Lies w w.heap.size 6 A n (Gm.shotCells g.shots)) (hi : i < 8) (ho : (g.ship i).on = false) :
    Calls Try.prog 18 #[.agg (Gm.cells g (.slice A n c)), .int .i64 i] w fun e w' => e = .returned (.tuple #[.agg (Gm.cells (Gm.spawn g i) (.slice A n c)), .int .i64 0]) ∧ Below w.heap.size w w' :=
  refspawn_walk g A n c i _ _ _ w hg hd hn hr hi ho rfl rfl rfl
end Go.Proofs.Ytbihnmingedgfaa

/-
drafts
-/







namespace Go.Proofs.Ytbihnmingedgfaa
open Go.RowKit
set_option linter.unusedVariables false

theorem gs_info : (Try.prog.info? 27).map (·.size) = some 56 := by kernel_rfl
theorem gs_lie (g : Gm.G) (v : Value) : ∀ j u, (Gm.shipCells g.ship)[j]? = some u → (Gm.cells g v)[2 + j]? = some u := fun j u hu => by
  have hj : j < 56 := by have := (List.getElem?_eq_some_iff.1 hu).1; rwa [Gm.shipCells_len] at this
  rw [Gm.cells_shipj _ _ _ hj]; exact hu

set_option maxRecDepth 100000 in
set_option maxHeartbeats 4000000 in
theorem refsame_eq (g h : Gm.G) (A B : Option Addr) (n m c d : Nat) (w : World) (hn : n = g.shots.length) (hm : m = h.shots.length) (hr : Lies w w.heap.size 6 A n (Gm.shotCells g.shots)) (hq : Lies w w.heap.size 6 B m (Gm.shotCells h.shots))
    (n64 : n ≤ 9223372036854775807) (he : Gm.Eq g h) :
    Calls Try.prog 21 #[.agg (Gm.cells g (.slice A n c)), .agg (Gm.cells h (.slice B m d))] w fun e w' => e = .returned (.bool true) ∧ Below w.heap.size w w' := by
  obtain ⟨e1, e2, e3, e4⟩ := he
  obtain rfl : n = m := by rw [hn, hm, e4]
  have hN : Hid (n = g.shots.length) := Lib.hid hn
  clear hn hm
  rw [← e4] at hq
  have b1 : Box ((w.alloc (.cells (Gm.cells g (.slice A n c)) 30)).alloc (.cells (Gm.cells h (.slice B n d)) 30)) w.heap.size 30 (Gm.cells g (.slice A n c)) := (Box.made _ _ _).alloc _
  have b2 : Box ((w.alloc (.cells (Gm.cells g (.slice A n c)) 30)).alloc (.cells (Gm.cells h (.slice B n d)) 30)) (w.heap.size + 1) 30 (Gm.cells h (.slice B n d)) := Box.made_at _ _ _ (by simp)
  have ne : ∀ W, (binOp .neq 27 (.agg (Gm.shipCells g.ship).toArray) (.agg (Gm.shipCells h.ship).toArray)).run Try.prog W = .ok (.bool false) W := fun W => by
    rw [ships_neq, Gm.shipsEq_iff.2 e3]; rfl
  have g0 := Gm.cells_0 g (.slice A n c)
  have g1 := Gm.cells_1 g (.slice A n c)
  have g58 := Gm.cells_58 g (.slice A n c)
  have h0 := Gm.cells_0 h (.slice B n d)
  have h1 := Gm.cells_1 h (.slice B n d)
  have h58 := Gm.cells_58 h (.slice B n d)
  rw [← e1] at h0
  rw [← e2] at h1
  have hB1 := Lib.hid b1
  have hB2 := Lib.hid b2
  clear e1 e2 e3 e4 b1 b2
  go_enter Try.func21, Try.ntmps21
  go_wp2_with (first | (refine wpList_load_part_g (by rfl) (ty := 27) rfl rfl hB1.out _ (gs_lie _ _) Try.underlying27 rfl gs_info ?_) | (refine wpList_load_part_g (by rfl) (ty := 27) rfl rfl hB2.out _ (gs_lie _ _) Try.underlying27 rfl gs_info ?_))
  go_loopw [5] (fun i wr => ∃ k : Nat, k ≤ n ∧ i = .int .i64 k ∧ Box wr w.heap.size 30 (Gm.cells g (.slice A n c)) ∧ Box wr (w.heap.size + 1) 30 (Gm.cells h (.slice B n d)) ∧ Below w.heap.size w wr) (fun i _ => n - (intOf i).toNat)
  case atStart => exact ⟨0, by omega, rfl, hB1.out, hB2.out, two_below' _ _ _⟩
  case round =>
    obtain ⟨k, hk, rfl, hB, hC, hb⟩ := hrel
    have hcr := hB.cell
    have hds := hC.cell
    by_cases hlt : k < n
    · obtain ⟨ad, rfl, hbl, a0, a1, a2, a3, a4, a5⟩ := shots_at (hr.below hb) hN.out k (by have := hN.out; omega)
      obtain ⟨bd, rfl, hbm, c0, c1, c2, c3, c4, c5⟩ := shots_at (hq.below hb) hN.out k (by have := hN.out; omega)
      generalize g.shots[k]'(by have := hN.out; omega) = s at a0 a1 a2 a3 a4 a5 c0 c1 c2 c3 c4 c5
      obtain ⟨owner, x, y, vx, vy, left⟩ := s
      dsimp only at a0 a1 a2 a3 a4 a5 c0 c1 c2 c3 c4 c5
      have hk8 : (k : Int) < n := by omega
      clear hr hq ne hB1 hB2 g0 g1 h0 h1
      go_wp2
      go_quiet (fail)
      go_wp2
      go_roundw
      case rel => exact ⟨k + 1, by omega, by go_num, hB.draws _, hC.draws _, draws_below hb _⟩
      case measure => simp [intOf]; omega
    · have hk8 : ¬ (k : Int) < n := by omega
      clear hr hq ne hB1 hB2 g0 g1 h0 h1
      go_wp2
      go_ret
      exact ⟨rfl, hb⟩
end Go.Proofs.Ytbihnmingedgfaa

/-
GamePlays' walk.
-/











namespace Go.Proofs.Ytbihnmingedgfaa
open Go.RowKit Go.Shelf
set_option linter.unusedVariables false
set_option linter.unusedSimpArgs false

/-- The inputs of a frame, of every slot before k. -/
def inUp (ps : Nat → Gm.In) (k : Nat) (p : Gm.In) : Nat → Gm.In := fun j => if j = k then p else ps j
def pIn (l : List Gm.In) (f : Nat) : Nat → Nat → Gm.In
  | 0 => noIn
  | k + 1 => inUp (pIn l f k) k (l.getD ((f + 3 * k) % l.length) ⟨0, 0, 0⟩)
theorem noIn_ok (j : Nat) : Gm.tyIn (noIn j) := show Gm.tyIn ⟨0, 0, 0⟩ from ⟨by decide, by decide, by decide⟩
theorem pIn_ty {l : List Gm.In} (h : ∀ x ∈ l, Gm.tyIn x) (f : Nat) : ∀ k j, Gm.tyIn (pIn l f k j)
  | 0, j => noIn_ok j
  | k + 1, j => by
    show Gm.tyIn (inUp (pIn l f k) k (l.getD ((f + 3 * k) % l.length) ⟨0, 0, 0⟩) j)
    unfold inUp; split
    · exact getD_ty h _
    · exact pIn_ty h f k j
theorem insSet (ps : Nat → Gm.In) (k : Nat) (hk : k < 8) (p : Gm.In) : ((((Gm.insCells ps).toArray.setIfInBounds (k * 3) (.int .i8 p.x)).setIfInBounds (k * 3 + 1) (.int .i8 p.y)).setIfInBounds (k * 3 + 2) (.int .u8 p.b)) = (Gm.insCells (inUp ps k p)).toArray := by
  match k, hk with
  | 0, _ | 1, _ | 2, _ | 3, _ | 4, _ | 5, _ | 6, _ | 7, _ => rfl
theorem ins_at3 {w : World} {B : Nat} {ad : Addr} {l : List Gm.In} (h : Lies w B 3 (some ad) l.length (Gm.inCells l)) (k : Nat) (hk : k < l.length) :
    w.cell? (ad.add (k * 3)) = some (.int .i8 (l.getD k ⟨0, 0, 0⟩).x) ∧ w.cell? ⟨(ad.add (k * 3)).block, (ad.add (k * 3)).off + 1, none⟩ = some (.int .i8 (l.getD k ⟨0, 0, 0⟩).y) ∧
      w.cell? ⟨(ad.add (k * 3)).block, (ad.add (k * 3)).off + 2, none⟩ = some (.int .u8 (l.getD k ⟨0, 0, 0⟩).b) := ins_at' h k hk

/-- While ships are put there: two games of one kind, in blocks of their own. -/
structure PutsAt (BG BM : Nat) (w0 : World) (g : Gm.G) (w : World) : Prop where
  hg : ∃ A c, Box w BG 30 (Gm.cells g (.slice A g.shots.length c))
  hm : ∃ A c, Box w BM 30 (Gm.cells g (.slice A g.shots.length c))
  below : Below w0.heap.size w0 w
/-- Two games that are the same, in blocks of their own, with shots of their own. -/
structure PlaysAt (BG BM : Nat) (w0 : World) (f : Nat) (w : World) : Prop where
  has : ∃ g A1 A2 c1 c2, Gm.Good g ∧ g.frame = f ∧ Box w BG 30 (Gm.cells g (.slice A1 g.shots.length c1)) ∧ Box w BM 30 (Gm.cells g (.slice A2 g.shots.length c2)) ∧ Lies w w.heap.size 6 A1 g.shots.length (Gm.shotCells g.shots) ∧ Lies w w.heap.size 6 A2 g.shots.length (Gm.shotCells g.shots)
  below : Below w0.heap.size w0 w
/-- Beside them the inputs. -/
structure PlaysIn (BG BM BI : Nat) (w0 w1 : World) (CG CM : Array Value) (ps : Nat → Gm.In) (w : World) : Prop where
  g : Box w BG 30 CG
  m : Box w BM 30 CM
  i : Box w BI 38 (Gm.insCells ps).toArray
  ge : w0.heap.size ≤ w1.heap.size ∧ w1.heap.size ≤ BI ∧ BG < w1.heap.size ∧ BM < w1.heap.size
  below : Below w0.heap.size w0 w
  since : Below w1.heap.size w1 w
theorem PlaysIn.goes {BG BM BI : Nat} {w0 w1 : World} {CG CM : Array Value} {ps : Nat → Gm.In} {w w' : World} (h : PlaysIn BG BM BI w0 w1 CG CM ps w) (hb : Below w.heap.size w w') : PlaysIn BG BM BI w0 w1 CG CM ps w' :=
  ⟨h.g.below hb h.g.lt, h.m.below hb h.m.lt, h.i.below hb h.i.lt, h.ge, h.below.trans (hb.mono h.below.size), h.since.trans (hb.mono h.since.size)⟩
theorem PlaysIn.set {BG BM BI : Nat} {w0 w1 : World} {CG CM : Array Value} {ps : Nat → Gm.In} {w : World} (h : PlaysIn BG BM BI w0 w1 CG CM ps w) (k : Nat) (hk : k < 8) (p : Gm.In) :
    PlaysIn BG BM BI w0 w1 CG CM (inUp ps k p) (((w.setCell ⟨BI, k * 3, none⟩ (.int .i8 p.x)).setCell ⟨BI, k * 3 + 1, none⟩ (.int .i8 p.y)).setCell ⟨BI, k * 3 + 2, none⟩ (.int .u8 p.b)) := by
  obtain ⟨g1, g2, g5, g6⟩ := h.ge
  have n1 : BG ≠ BI := by omega
  have n2 : BM ≠ BI := by omega
  refine ⟨((h.g.far n1 _).far n1 _).far n1 _, ((h.m.far n2 _).far n2 _).far n2 _, ?_, h.ge, ((h.below.setCell (by show w0.heap.size ≤ BI; omega) _).setCell (by show w0.heap.size ≤ BI; omega) _).setCell (by show w0.heap.size ≤ BI; omega) _, ((h.since.setCell g2 _).setCell g2 _).setCell g2 _⟩
  rw [← insSet ps k hk p]; exact ((h.i.put _ _).put _ _).put _ _
/-- What holds while 'g, m = a, b' goes on. -/
structure SwapK (BG BM BU BV : Nat) (w0 : World) (G : Gm.G) (CM : Array Value) (A3 A4 : Option Addr) (c3 c4 : Nat) (X : World) : Prop where
  g : ∃ g' A' m' c', Box X BG 30 (Gm.cells g' (.slice A' m' c'))
  m : Box X BM 30 CM
  u : Box X BU 30 (Gm.cells G (.slice A3 G.shots.length c3))
  v : Box X BV 30 (Gm.cells G (.slice A4 G.shots.length c4))
  l3 : Lies X X.heap.size 6 A3 G.shots.length (Gm.shotCells G.shots)
  l4 : Lies X X.heap.size 6 A4 G.shots.length (Gm.shotCells G.shots)
  below : Below w0.heap.size w0 X

theorem two_made {w w2 : World} (hb : Below w.heap.size w w2) (C : Array Value) : Box ((w2.alloc (.cells (Gm.cells zeroG (.slice none 0 0)) 30)).alloc (.cells (Gm.cells zeroG (.slice none 0 0)) 30)) w2.heap.size 30 (Gm.cells zeroG (.slice none 0 0)) ∧ Box (((w2.alloc (.cells (Gm.cells zeroG (.slice none 0 0)) 30)).alloc (.cells (Gm.cells zeroG (.slice none 0 0)) 30)).setRow w2.heap.size C) (w2.alloc (.cells (Gm.cells zeroG (.slice none 0 0)) 30)).heap.size 30 (Gm.cells zeroG (.slice none 0 0)) ∧
    Below w.heap.size w ((((w2.alloc (.cells (Gm.cells zeroG (.slice none 0 0)) 30)).alloc (.cells (Gm.cells zeroG (.slice none 0 0)) 30)).setRow w2.heap.size C).setRow (w2.alloc (.cells (Gm.cells zeroG (.slice none 0 0)) 30)).heap.size C) ∧ Box ((((w2.alloc (.cells (Gm.cells zeroG (.slice none 0 0)) 30)).alloc (.cells (Gm.cells zeroG (.slice none 0 0)) 30)).setRow w2.heap.size C).setRow (w2.alloc (.cells (Gm.cells zeroG (.slice none 0 0)) 30)).heap.size C) w2.heap.size 30 C ∧ Box ((((w2.alloc (.cells (Gm.cells zeroG (.slice none 0 0)) 30)).alloc (.cells (Gm.cells zeroG (.slice none 0 0)) 30)).setRow w2.heap.size C).setRow (w2.alloc (.cells (Gm.cells zeroG (.slice none 0 0)) 30)).heap.size C) (w2.alloc (.cells (Gm.cells zeroG (.slice none 0 0)) 30)).heap.size 30 C := by
  have sz := hb.size
  have e : (w2.alloc (.cells (Gm.cells zeroG (.slice none 0 0)) 30)).heap.size = w2.heap.size + 1 := by simp
  have d1 : Box ((w2.alloc (.cells (Gm.cells zeroG (.slice none 0 0)) 30)).alloc (.cells (Gm.cells zeroG (.slice none 0 0)) 30)) w2.heap.size 30 (Gm.cells zeroG (.slice none 0 0)) := (Box.made w2 30 (Gm.cells zeroG (.slice none 0 0))).alloc (.cells (Gm.cells zeroG (.slice none 0 0)) 30)
  have d2 : Box (((w2.alloc (.cells (Gm.cells zeroG (.slice none 0 0)) 30)).alloc (.cells (Gm.cells zeroG (.slice none 0 0)) 30)).setRow w2.heap.size C) (w2.alloc (.cells (Gm.cells zeroG (.slice none 0 0)) 30)).heap.size 30 (Gm.cells zeroG (.slice none 0 0)) := (Box.made (w2.alloc (.cells (Gm.cells zeroG (.slice none 0 0)) 30)) 30 (Gm.cells zeroG (.slice none 0 0))).row_far (by omega) C
  exact ⟨d1, d2, Below.setRow' (Below.setRow' ((hb.alloc sz (.cells (Gm.cells zeroG (.slice none 0 0)) 30)).alloc (by omega) (.cells (Gm.cells zeroG (.slice none 0 0)) 30)) sz C) (by omega) C, (d1.row C).row_far (by omega) C, d2.row C⟩

set_option maxRecDepth 100000 in
set_option maxHeartbeats 2000000 in
theorem plays_big (s : ByteArray) (m : Int) (A : Option Addr) (n c : Nat) (w : World) (hs : s.size ≤ maxLen) (hn : n ≤ maxLen) (hbig : 20 < s.size ∨ 120 < n) :
    Calls Try.prog 3 #[.string s, .int .i64 m, .slice A n c] w fun e w' => e = .returned (.bool true) ∧ Kept w w' := by
  have ct := fun X => Lib.hid (told6_any X)
  by_cases h : 20 < s.size
  · have h1 : (20 : Int) < s.size := by omega
    go_enter Try.func3, Try.ntmps3
    go_wp2_with (first | (go_at_call 14; ((with_reducible refine ((ct _).out).mono ?_); rintro e w1 ⟨rfl, hb⟩)))
    go_ret
    exact ⟨rfl, hb⟩
  · have h1 : ¬ (20 : Int) < s.size := by omega
    have h2 : (120 : Int) < n := by omega
    go_enter Try.func3, Try.ntmps3
    go_wp2_with (first | (go_at_call 14; ((with_reducible refine ((ct _).out).mono ?_); rintro e w1 ⟨rfl, hb⟩)))
    go_ret
    exact ⟨rfl, hb⟩

set_option maxRecDepth 100000 in
set_option maxHeartbeats 8000000 in
theorem plays_small (s : ByteArray) (m : Int) (A : Option Addr) (c n : Nat) (l : List Gm.In) (w : World) (hs : s.size ≤ 20) (hnl : n = l.length) (hn : n ≤ 120) (hl : ∀ x ∈ l, Gm.tyIn x) (hL : Lies w w.heap.size 3 A n (Gm.inCells l)) :
    Calls Try.prog 3 #[.string s, .int .i64 m, .slice A n c] w fun e w' => e = .returned (.bool true) ∧ Kept w w' := by
  have h1 : ¬ (20 : Int) < s.size := by omega
  have h2 : ¬ (120 : Int) < n := by omega
  have ct := fun X => Lib.hid (told6_any X)
  have hss : s.size ≤ maxLen := by unfold maxLen; omega
  have hd : 0 ≤ Dn.seed s.data.toList ∧ Dn.seed s.data.toList ≤ 18446744073709551615 := Dn.seed_bd _
  have cn := fun X => Lib.hid (new_any s X hss)
  have crn := fun X => Lib.hid (refnew_any s X hss)
  have FR := Lib.hid (fun k hk => Gm.fresh_to m (Dn.seed s.data.toList) hd k hk)
  generalize Dn.seed s.data.toList = d at *
  obtain ⟨g0, hg0⟩ : ∃ g, g = Gm.new d := ⟨_, rfl⟩
  simp only [← hg0] at cn crn
  have hs0 : g0.shots.length = 0 := by rw [hg0]; rfl
  have HG0 := Lib.hid hg0
  have HL := Lib.hid hL
  have HT := Lib.hid hl
  have NL := Lib.hid hnl
  clear hg0 hd hL hl hs hss hnl
  go_enter Try.func3, Try.ntmps3
  go_wp2_with (first | ((with_reducible refine wpList_alloc_game rfl rfl ?_)) | ((with_reducible refine store_gate rfl rfl ?_); apply StoreGame.mk rfl rfl rfl; focus (with_reducible exact D1.out)) | ((with_reducible refine store_gate rfl rfl ?_); apply StoreGame.mk rfl rfl rfl; focus (with_reducible exact D2.out)) | (go_at_call 15; ((with_reducible refine ((cn _).out).mono ?_); rintro e w1 ⟨rfl, hb⟩; have B1 := Lib.hid hb; clear hb)) | (go_at_call 16; ((with_reducible refine ((crn _).out).mono ?_); rintro e w2 ⟨rfl, hb⟩; have szw : w.heap.size ≤ w2.heap.size := Nat.le_trans B1.out.size hb.size; obtain ⟨d1, d2, d3, d4, d5⟩ := two_made (B1.out.trans (hb.mono B1.out.size)) (Gm.cells g0 (.slice none 0 0)); have D1 := Lib.hid d1; have D2 := Lib.hid d2; have HB2 := Lib.hid d3; have P2 := Lib.hid d4; have Q2 := Lib.hid d5; clear hb d1 d2 d3 d4 d5)))
  have hbm : (w2.alloc (.cells (Gm.cells zeroG (.slice none 0 0)) 30)).heap.size = w2.heap.size + 1 := by simp
  simp only [hbm] at HB2 P2 Q2
  clear hbm
  generalize (((w2.alloc (.cells (Gm.cells zeroG (.slice none 0 0)) 30)).alloc (.cells (Gm.cells zeroG (.slice none 0 0)) 30)).setRow w2.heap.size (Gm.cells g0 (.slice none 0 0))).setRow (w2.heap.size + 1) (Gm.cells g0 (.slice none 0 0)) = V at *
  have hne : w2.heap.size ≠ w2.heap.size + 1 := by omega
  have szG : w.heap.size ≤ w2.heap.size := szw
  have szM : w.heap.size ≤ w2.heap.size + 1 := by omega
  clear D1 D2 cn crn B1
  generalize w2.heap.size + 1 = BM at *
  generalize w2.heap.size = BG at *
  clear szw
  go_loopw [9] (fun i wr => ∃ k : Nat, k ≤ 8 ∧ i = .int .i64 k ∧ PutsAt BG BM w (Gm.spawnTo m (Gm.new d) k) wr) (fun i _ => 8 - (intOf i).toNat)
  case atStart => exact ⟨0, Nat.zero_le _, rfl, by rw [show Gm.spawnTo m (Gm.new d) 0 = g0 from HG0.out.symm]; exact ⟨⟨none, 0, by rw [hs0]; exact P2.out⟩, ⟨none, 0, by rw [hs0]; exact Q2.out⟩, HB2.out⟩⟩
  case round =>
    obtain ⟨k, hk, rfl, hP⟩ := hrel
    clear P2 Q2 HB2 HG0 hs0
    obtain ⟨⟨A1, c1, hG⟩, ⟨A2, c2, hM⟩, hY⟩ := hP
    have fr := FR.out k hk
    by_cases hlt : k < 8
    · have hk8 : (k : Int) < 8 := by omega
      have hwk : IntKind.u64.wrap (k : Int) = (k : Int) := by rw [IntKind.wrap_u64]; omega
      have lz : ∀ X A, Lies X X.heap.size 6 A (Gm.spawnTo m (Gm.new d) k).shots.length (Gm.shotCells (Gm.spawnTo m (Gm.new d) k).shots) := fun X A => by rw [fr.shots]; exact Lies.empty
      have csp := fun X => Lib.hid (spawn_yes (Gm.spawnTo m (Gm.new d) k) A1 _ c1 k X fr.ok fr.dice rfl (lz X A1) hlt (by rw [fr.on k]; simp))
      have crs := fun X => Lib.hid (refspawn_yes (Gm.spawnTo m (Gm.new d) k) A2 _ c2 k X fr.ok fr.dice rfl (lz X A2) hlt (by rw [fr.on k]; simp))
      have hsl : (Gm.spawnTo m (Gm.new d) k).shots.length = (Gm.spawn (Gm.spawnTo m (Gm.new d) k) k).shots.length := rfl
      cases hbit : Gm.bit m k
      · have hb : (bits .and .i64 (m / 2 ^ k) 1 == 1) = false := hbit
        have hE : Gm.spawnTo m (Gm.new d) (k + 1) = Gm.spawnTo m (Gm.new d) k := by show (if Gm.bit m k = true then _ else _) = _; rw [hbit]; rfl
        have HP := Lib.hid (show PutsAt BG BM w (Gm.spawnTo m (Gm.new d) (k + 1)) wr from by rw [hE]; exact ⟨⟨A1, c1, hG⟩, ⟨A2, c2, hM⟩, hY⟩)
        clear hG hM hY fr lz csp crs hsl hbit hE
        go_wp2_with fail
        go_roundw
        case rel => exact ⟨k + 1, by omega, by go_num, HP.out⟩
        case measure => simp [intOf]; omega
      · have hb : (bits .and .i64 (m / 2 ^ k) 1 == 1) = true := hbit
        have hE : Gm.spawnTo m (Gm.new d) (k + 1) = Gm.spawn (Gm.spawnTo m (Gm.new d) k) k := by show (if Gm.bit m k = true then _ else _) = _; rw [hbit]; rfl
        rw [← hE] at csp crs hsl
        have HE := Lib.hid hsl
        obtain ⟨G, hGe⟩ : ∃ G, G = Gm.spawnTo m (Gm.new d) (k + 1) := ⟨_, rfl⟩
        rw [← hGe] at HE
        simp only [← hGe] at csp crs
        have GE := Lib.hid hGe
        clear hGe hsl hE
        generalize Gm.spawnTo m (Gm.new d) k = g at *
        have HG := Lib.hid hG
        have HM := Lib.hid hM
        have HY := Lib.hid hY
        clear hG hM hY fr lz hbit
        go_wp2_with (first | ((with_reducible refine load_gate rfl rfl ?_); apply LoadGame.mk rfl; (focus first | (with_reducible exact HG.out))) | ((with_reducible refine load_gate rfl rfl ?_); apply LoadGame.mk rfl; (focus first | (with_reducible exact M3.out))) | (go_at_call 17; ((with_reducible refine ((csp _).out).mono ?_); rintro e w3 ⟨A3, c3, rfl, _, hb⟩; have X3 := Lib.hid (HG.out.below hb HG.out.lt); have M3 := Lib.hid (((HM.out.below hb HM.out.lt).row_far (Ne.symm hne) (Gm.cells G (.slice A3 G.shots.length c3)))); have K3 := Lib.hid (Below.setRow' (HY.out.trans (hb.mono HY.out.size)) szG (Gm.cells G (.slice A3 G.shots.length c3))); clear hb)) | (go_at_call 18; ((with_reducible refine ((crs _).out).mono ?_); rintro e w4 ⟨rfl, hb⟩; have X4 := Lib.hid ((X3.out.row (Gm.cells G (.slice A3 G.shots.length c3))).below hb (X3.out.row (Gm.cells G (.slice A3 G.shots.length c3))).lt); have M4 := Lib.hid (M3.out.below hb M3.out.lt); have K4 := Lib.hid (K3.out.trans (hb.mono K3.out.size)); clear hb)) | ((with_reducible refine store_gate rfl rfl ?_); apply StoreGame.mk rfl rfl rfl; focus (with_reducible exact X3.out)) | ((with_reducible refine store_gate rfl rfl ?_); apply StoreGame.mk rfl rfl rfl; focus (with_reducible exact M4.out)))
        go_roundw
        case rel =>
          refine ⟨k + 1, by omega, by go_num, ?_⟩
          rw [← GE.out]
          exact ⟨⟨A3, c3, X4.out.row_far hne _⟩, ⟨A2, c2, by rw [← HE.out]; exact M4.out.row _⟩, Below.setRow' K4.out szM _⟩
        case measure => simp [intOf]; omega
    · obtain rfl : k = 8 := by omega
      have k8 : ¬ (8 : Int) < 8 := by omega
      obtain ⟨g0, hg0⟩ : ∃ g, g = Gm.spawnTo m (Gm.new d) 8 := ⟨_, rfl⟩
      rw [← hg0] at fr hG hM
      have P0 := Lib.hid (show PlaysAt BG BM w 0 wr from ⟨⟨g0, A1, A2, c1, c2, ⟨fr.ok, fr.dice⟩, fr.frame, hG, hM, by rw [fr.shots]; exact Lies.empty, by rw [fr.shots]; exact Lies.empty⟩, hY⟩)
      clear hG hM hY fr hg0 FR
      go_wp2_with fail
      go_loopw [10, 11, 12, 13, 14, 15, 16] (fun i _ _ _ _ _ _ wr => ∃ f : Nat, f ≤ n ∧ i = .int .i64 f ∧ PlaysAt BG BM w f wr) (fun i _ _ _ _ _ _ _ => n - (intOf i).toNat)
      case atStart => exact ⟨0, Nat.zero_le _, rfl, P0.out⟩
      case round =>
        obtain ⟨f, hf, rfl, hS⟩ := hrel
        obtain ⟨⟨g, A1, A2, c1, c2, hgood, hfr, hG, hM, l1, l2⟩, hY⟩ := hS
        clear P0
        by_cases hlt : f < n
        · have hf8 : (f : Int) < n := by omega
          have hfw : IntKind.i64.wrap (f : Int) = (f : Int) := by rw [IntKind.wrap_i64]; omega
          obtain ⟨ad, rfl, hadl⟩ := HL.out.start (by omega)
          have CELL := Lib.hid (show ∀ X, Below w.heap.size w X → ∀ k, k < n → X.cell? (ad.add (k * 3)) = some (.int .i8 (l.getD k ⟨0, 0, 0⟩).x) ∧ X.cell? ⟨(ad.add (k * 3)).block, (ad.add (k * 3)).off + 1, none⟩ = some (.int .i8 (l.getD k ⟨0, 0, 0⟩).y) ∧ X.cell? ⟨(ad.add (k * 3)).block, (ad.add (k * 3)).off + 2, none⟩ = some (.int .u8 (l.getD k ⟨0, 0, 0⟩).b) from fun X hX k hk => by
            have hL2 := HL.out.below hX
            rw [NL.out] at hL2 hk
            exact ins_at' hL2 k hk)
          have cs1 := fun X (hX : Below wr.heap.size wr X) => Lib.hid (step_yes (pIn l f 8) g A1 _ c1 X hgood.ok (by omega) hgood.dice (fun i _ => pIn_ty HT.out f 8 i) rfl (l1.call hX))
          have cs2 := fun X (hX : Below wr.heap.size wr X) => Lib.hid (refstep_yes (pIn l f 8) g A2 _ c2 X hgood.ok (by omega) hgood.dice (fun i _ => pIn_ty HT.out f 8 i) rfl (l2.call hX))
          obtain ⟨good', fr', _⟩ := Gm.step_good (ps := pIn l f 8) hgood (by omega)
          obtain ⟨G, hGe⟩ : ∃ G, G = Gm.step (pIn l f 8) g := ⟨_, rfl⟩
          simp only [← hGe] at cs1 cs2 good' fr'
          have GOOD := Lib.hid good'
          have GFR := Lib.hid (fr'.trans (by rw [hfr]))
          have g63 : G.shots.length ≤ 9223372036854775807 := by have := good'.ok.2.2.1; omega
          have SI := Lib.hid (show PlaysIn BG BM wr.heap.size w wr (Gm.cells g (.slice A1 g.shots.length c1)) (Gm.cells g (.slice A2 g.shots.length c2)) noIn (wr.alloc (.cells (Gm.insCells noIn).toArray 38)) from
            ⟨hG.alloc _, hM.alloc _, Box.made _ _ _, ⟨hY.size, Nat.le_refl _, hG.lt, hM.lt⟩, hY.alloc hY.size _, (Below.refl _ _).alloc (Nat.le_refl _) _⟩)
          clear hGe good' fr' hgood hfr hG hM hY l1 l2
          go_wp2_with (first | ((with_reducible refine wpList_alloc_z (t := 38) (cs := (Gm.insCells noIn).toArray) rfl rfl ins_zero rfl ?_)))
          generalize wr.alloc (.cells (Gm.insCells noIn).toArray 38) = W0 at *
          obtain ⟨BI, hBI⟩ : ∃ B, B = wr.heap.size := ⟨_, rfl⟩
          rw [← hBI] at SI
          try rw [← hBI]
          clear hBI
          obtain ⟨wo, rfl⟩ : ∃ x, x = wr := ⟨_, rfl⟩
          go_loopw [12] (fun s wx => ∃ k : Nat, k ≤ 8 ∧ s = .int .i64 k ∧ PlaysIn BG BM BI w wo (Gm.cells g (.slice A1 g.shots.length c1)) (Gm.cells g (.slice A2 g.shots.length c2)) (pIn l f k) wx) (fun s _ => 8 - (intOf s).toNat)
          case atStart => exact ⟨0, Nat.zero_le _, rfl, SI.out⟩
          case round =>
            obtain ⟨k, hk, rfl, hI⟩ := hrel
            clear SI
            by_cases hk8 : k < 8
            · have k8 : (k : Int) < 8 := by omega
              have hw3 : IntKind.i64.wrap (3 * (k : Int)) = 3 * (k : Int) := by rw [IntKind.wrap_i64]; omega
              have hw1 : IntKind.i64.wrap ((f : Int) + 3 * k) = (f : Int) + 3 * k := by rw [IntKind.wrap_i64]; omega
              have hq2 : ((f : Int) + 3 * k) % (n : Int) = (((f + 3 * k) % n : Nat) : Int) := by push_cast; rfl
              have hq : ((f : Int) + 3 * k).tmod n = (((f + 3 * k) % n : Nat) : Int) := by rw [Int.tmod_eq_emod_of_nonneg (by omega)]; exact hq2
              have hqn : (f + 3 * k) % n < n := Nat.mod_lt _ (by omega)
              have hn0 : (n : Int) ≠ 0 := by omega
              have Ep : pIn l f (k + 1) = inUp (pIn l f k) k (l.getD ((f + 3 * k) % n) ⟨0, 0, 0⟩) := by rw [NL.out]; rfl
              generalize (f + 3 * k) % n = q at *
              obtain ⟨q0, q1, q2⟩ := CELL.out wr hI.below q hqn
              generalize l.getD q ⟨0, 0, 0⟩ = p at *
              obtain ⟨px, py, pb⟩ := p
              dsimp only at q0 q1 q2
              have hqi : (q : Int) < n := by omega
              have hqw : IntKind.i64.wrap (q : Int) = (q : Int) := by rw [IntKind.wrap_i64]; omega
              have HI := Lib.hid hI
              have EP := Lib.hid Ep
              have ac := hI.i.cell
              have af := hI.i.free
              have al := hI.i.lt
              have i0 : (Gm.insCells (pIn l f k)).toArray[k * 3]? = some (.int .i8 (pIn l f k k).x) := Gm.insCells_at _ k 0 hk8 (by omega)
              have i1 : (Gm.insCells (pIn l f k)).toArray[k * 3 + 1]? = some (.int .i8 (pIn l f k k).y) := Gm.insCells_at _ k 1 hk8 (by omega)
              have i2 : (Gm.insCells (pIn l f k)).toArray[k * 3 + 2]? = some (.int .u8 (pIn l f k k).b) := Gm.insCells_at _ k 2 hk8 (by omega)
              clear hI Ep
              go_wp2_with fail
              go_roundw
              case rel => exact ⟨k + 1, by omega, by go_num, by rw [EP.out]; exact HI.out.set k hk8 ⟨px, py, pb⟩⟩
              case measure => simp [intOf]; omega
            · obtain rfl : k = 8 := by omega
              have k8 : ¬ (8 : Int) < 8 := by omega
              have ge := hI.ge
              have lG := hI.g.lt
              have S5 := Lib.hid hI
              have HG := Lib.hid hI.g
              have HH := Lib.hid hI.m
              have HA := Lib.hid hI.i
              clear hI
              go_upto_region 19 with (first | ((with_reducible refine load_gate rfl rfl ?_); apply LoadGame.mk rfl; (focus first | (with_reducible exact HG.out))) | ((with_reducible refine ins_gate rfl rfl ?_); apply LoadIns.mk rfl; (with_reducible exact HA.out)) | ((with_reducible refine wpList_alloc_game rfl rfl ?_)) | ((with_reducible refine wpList_store_game_new rfl rfl rfl rfl rfl rfl ?_)) | (go_at_call 19; ((with_reducible refine ((cs1 _ S5.out.since).out).mono ?_); rintro e w6 ⟨A3, c3, rfl, hl, hb⟩; have szU : wo.heap.size ≤ w6.heap.size := Nat.le_trans S5.out.since.size hb.size; have S6 := Lib.hid ((S5.out.goes hb).goes (one_below w6 (.cells (Gm.cells G (.slice A3 G.shots.length c3)) 30))); have U6 := Lib.hid (Box.made w6 30 (Gm.cells G (.slice A3 G.shots.length c3))); have L6 := Lib.hid (hl.alloc (.cells (Gm.cells G (.slice A3 G.shots.length c3)) 30)); clear hb hl)))
              generalize w6.heap.size = BU at *
              generalize w6.alloc (.cells (Gm.cells G (.slice A3 G.shots.length c3)) 30) = V6 at *
              have HH6 := Lib.hid S6.out.m
              have HB6 := Lib.hid S6.out.i
              clear HG HH HA S5
              go_upto_region 20 with (first | ((with_reducible refine load_gate rfl rfl ?_); apply LoadGame.mk rfl; (focus first | (with_reducible exact HH6.out))) | ((with_reducible refine ins_gate rfl rfl ?_); apply LoadIns.mk rfl; (with_reducible exact HB6.out)) | ((with_reducible refine wpList_alloc_game rfl rfl ?_)) | ((with_reducible refine wpList_store_game_new rfl rfl rfl rfl rfl rfl ?_)) | (go_at_call 20; ((with_reducible refine ((cs2 _ S6.out.since).out).mono ?_); rintro e w7 ⟨A4, c4, rfl, hl, hb⟩; have szV : wo.heap.size ≤ w7.heap.size := Nat.le_trans S6.out.since.size hb.size; have S7 := Lib.hid ((S6.out.goes hb).goes (one_below w7 (.cells (Gm.cells G (.slice A4 G.shots.length c4)) 30))); have U7 := Lib.hid ((U6.out.below hb U6.out.lt).alloc (.cells (Gm.cells G (.slice A4 G.shots.length c4)) 30)); have V7' := Lib.hid (Box.made w7 30 (Gm.cells G (.slice A4 G.shots.length c4))); have L7 := Lib.hid ((L6.out.call hb).alloc (.cells (Gm.cells G (.slice A4 G.shots.length c4)) 30)); have M7 := Lib.hid (hl.alloc (.cells (Gm.cells G (.slice A4 G.shots.length c4)) 30)); clear hb hl)))
              generalize w7.heap.size = BV at *
              generalize w7.alloc (.cells (Gm.cells G (.slice A4 G.shots.length c4)) 30) = V7 at *
              clear HH6 HB6 S6 U6 L6
              have cs := Lib.hid (refsame_eq G G A3 A4 G.shots.length G.shots.length c3 c4 V7 rfl rfl L7.out M7.out g63 (Gm.Eq.refl G))
              go_upto_region 22 with (first | ((with_reducible refine load_gate_g ?_ rfl ?_); (focus first | rfl | kernel_rfl | simp [Region.wanted, yielded]); apply LoadGame.mk rfl; (focus first | (with_reducible exact U7.out) | (with_reducible exact V7'.out))) | (go_at_call 21; ((with_reducible refine (cs.out).mono ?_); rintro e w8 ⟨rfl, hb⟩; have S8 := Lib.hid (S7.out.goes hb); have U8 := Lib.hid (U7.out.below hb U7.out.lt); have V8 := Lib.hid (V7'.out.below hb V7'.out.lt); have L8 := Lib.hid (L7.out.call hb); have M8 := Lib.hid (M7.out.call hb); clear hb)))
              have HK := Lib.hid (show SwapK BG BM BU BV w G (Gm.cells g (.slice A2 g.shots.length c2)) A3 A4 c3 c4 w8 from ⟨⟨_, _, _, _, S8.out.g⟩, S8.out.m, U8.out, V8.out, L8.out, M8.out, S8.out.below⟩)
              have n1 : BM ≠ BG := Ne.symm hne
              have n2 : BU ≠ BG := by omega
              have n3 : BV ≠ BG := by omega
              clear S8 U8 V8 L8 M8 S7 U7 V7' L7 M7 cs cs1 cs2
              refine Rz.wp_region_z (by kernel_rfl) 2 3 (by kernel_rfl) (fun X => SwapK BG BM BU BV w G (Gm.cells g (.slice A2 g.shots.length c2)) A3 A4 c3 c4 X) (fun _ _ X => Box X BG 30 (Gm.cells G (.slice A3 G.shots.length c3))) ?hK ?hvd ?_
              case hK => exact ⟨⟨_, _, _, _, HK.out.g.choose_spec.choose_spec.choose_spec.choose_spec.drew⟩, HK.out.m.drew, HK.out.u.drew, HK.out.v.drew, HK.out.l3.call (Below.refl _ _).drew, HK.out.l4.call (Below.refl _ _).drew, HK.out.below.drew⟩
              case hvd => intro j vm vm' X _ _ _ h; exact h
              simp only [List.take_succ_cons, List.take_zero, List.drop_succ_cons, List.drop_zero, Nat.reduceSub]
              apply Rz.head_op
              focus (intro W hW; exact exec_load_game rfl rfl hW.u)
              apply Rz.head_op
              focus (intro W hW; exact exec_load_game rfl rfl hW.v)
              refine Rz.head_split (fun A => True) trivial ?_ (fun _ _ => trivial) ?_
              · intro vm X hX hV
                simp only [Rz.putAll]
                clear hV
                obtain ⟨g', A', m', c', hg⟩ := hX.g
                refine gives_skip (exec_store_game (B := BG) (g := G) (A := A3) (m := G.shots.length) (c := c3) rfl ?_ ?_ hg) ⟨hg.row _, ⟨⟨_, _, _, _, hg.row _⟩, hX.m.row_far n1 _, hX.u.row_far n2 _, hX.v.row_far n3 _, hX.l3.game_row rfl hg _, hX.l4.game_row rfl hg _, Below.setRow' hX.below szG _⟩, fun j _ _ hj h => hg.row _⟩
                · rw [Rz.put_none]; rfl
                · rw [Rz.put_none]; rfl
              · intro vm X hX hV
                have hG' := Lib.hid (hV 2 (by omega) (by omega))
                have XM := Lib.hid hX.m
                have KX := Lib.hid hX.below
                have L9 := Lib.hid hX.l3
                have M9 := Lib.hid hX.l4
                clear hV hX HK
                simp only [Rz.putAll, Nat.reduceAdd]
                generalize vm 2 = v2
                go_wp2_with (first | ((with_reducible refine store_gate rfl rfl ?_); apply StoreGame.mk rfl rfl rfl; focus (with_reducible exact XM.out)))
                go_roundw
                case rel => exact ⟨f + 1, by omega, by go_num, ⟨⟨G, A3, A4, c3, c4, GOOD.out, GFR.out, hG'.out.row_far hne _, XM.out.row _, L9.out.game_row rfl XM.out _, M9.out.game_row rfl XM.out _⟩, Below.setRow' KX.out szM _⟩⟩
                case measure => simp [intOf]; omega
        · have hf8 : ¬ (f : Int) < n := by omega
          have g63 : g.shots.length ≤ 9223372036854775807 := by have := hgood.ok.2.2.1; omega
          have HG := Lib.hid hG
          have HM := Lib.hid hM
          have HY := Lib.hid hY
          have L1 := Lib.hid l1
          have L2 := Lib.hid l2
          clear hG hM hY hgood hfr l1 l2
          go_wp2_with (first | (go_at_call 14; ((with_reducible refine ((ct _).out).mono ?_); rintro e w9 ⟨rfl, hb⟩; have G9 := Lib.hid (HG.out.below hb HG.out.lt); have M9 := Lib.hid (HM.out.below hb HM.out.lt); have K9 := Lib.hid (HY.out.trans (hb.mono HY.out.size)); have cs9 := Lib.hid (refsame_eq g g A1 A2 _ _ c1 c2 w9 rfl rfl (L1.out.call hb) (L2.out.call hb) g63 (Gm.Eq.refl g)); clear hb)) | ((with_reducible refine load_gate_g ?_ rfl ?_); (focus first | rfl | kernel_rfl | simp [Region.wanted, yielded]); apply LoadGame.mk rfl; (focus first | (with_reducible exact G9.out) | (with_reducible exact M9.out))) | (go_at_call 21; ((with_reducible refine (cs9.out).mono ?_); rintro e w10 ⟨rfl, hb⟩; have K10 := Lib.hid (K9.out.trans (hb.mono K9.out.size)); clear hb)))
          go_ret
          exact ⟨rfl, K10.out⟩

theorem plays_law (s : ByteArray) (m : Int) (A : Option Addr) (c : Nat) (l : List Gm.In) (w : World) (hs : s.size ≤ maxLen) (hn : l.length ≤ maxLen) (hl : ∀ x ∈ l, Gm.tyIn x) (hL : Lies w w.heap.size 3 A l.length (Gm.inCells l)) :
    Calls Try.prog 3 #[.string s, .int .i64 m, .slice A l.length c] w fun e w' => e = .returned (.bool true) ∧ Kept w w' := by
  by_cases h : 20 < s.size ∨ 120 < l.length
  · exact plays_big s m A _ c w hs hn h
  · exact plays_small s m A c _ l w (by omega) rfl (by omega) hl hL
end Go.Proofs.Ytbihnmingedgfaa
