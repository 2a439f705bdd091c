/-
Several texts in one: Gj Gjt Rs Ru.
-/
import Derived.Test.YtmiopphcfdlneaaGreatCx14
set_option maxRecDepth 100000
set_option maxHeartbeats 8000000
set_option linter.unusedVariables false
set_option linter.unusedSimpArgs false
namespace Go.Proofs.YtmiopphcfdlneaaGreat
open Go.RowKit
structure qfa (ps : Nat -> Gm.In) (g : Gm.G) (w wr : World) (Bi Br Bn k : Nat) : Prop where
 own : ∃ A c, Box wr Bn 31 (Gm.cells { g with ship := (Gm.ph1 ps g k).1 } (.slice A (Gm.ph1 ps g k).2.length c)) /\ wr.ownsRow w.heap.size 80 6 (.slice A (Gm.ph1 ps g k).2.length c) (Gm.ph1 ps g k).2.length (Gm.qad (Gm.ph1 ps g k).2)
 ins : Box wr Bi 49 (Gm.qai ps).toArray
 res : Box wr Br 31 (Gm.cells qbx (.slice none 0 0))
 below : Below w.heap.size w wr
theorem qkx {ps : Nat -> Gm.In} {g : Gm.G} {w w1 w2 : World} {A1 : Option Addr} {c1 : Nat} {Bi Br n : Nat} {s : Value} (hn : n = g.qaa.length) (hb : Below w.heap.size w w1) (hi : Box w1 Bi 49 (Gm.qai ps).toArray) (hr : Box w1 Br 31 (Gm.cells qbx (.slice none 0 0)))
 (own1 : w2.ownsRow w.heap.size 80 6 (.slice A1 (0 + n) c1) (0 + n) ([] ++ Gm.qad g.qaa)) (hg : World.grownBy ((w1.alloc (.cells (Gm.cells g s) 31)).alloc (.cells #[] 80)) w2 (Value.ownBlock (.slice (some ⟨w1.heap.size + 1, 0, none⟩) 0 0))) :
 qfa ps g w (w2.setCell ⟨w1.heap.size, 58, none⟩ (.slice A1 n c1)) Bi Br w1.heap.size 0 := by
 have hB := hb.size
 have bn : Box w2 w1.heap.size 31 (Gm.cells g s) := ((Box.made w1 _ _).alloc _).grown hg (by intro e; injection e with e; simp at e)
 have bi := ((hi.alloc (.cells (Gm.cells g s) 31)).alloc (.cells #[] 80)).grown hg (by intro e; injection e with e; have := hi.lt; simp at e; omega)
 have br := ((hr.alloc (.cells (Gm.cells g s) 31)).alloc (.cells #[] 80)).grown hg (by intro e; injection e with e; have := hr.lt; simp at e; omega)
 rw [Nat.zero_add, List.nil_append] at own1
 subst hn
 have hne := bn.qaM own1 (by decide)
 refine ⟨⟨A1, c1, qch bn _, ?_⟩, bi.far (by have := hi.lt; show Bi ≠ w1.heap.size; omega) _, br.far (by have := hr.lt; show Br ≠ w1.heap.size; omega) _, ?_⟩
 · exact ownsRow_setCell_other own1 (a := ⟨w1.heap.size, 58, none⟩) hne _
 · refine Below.setCell ?_ hB _
   refine Below.grown ((hb.alloc hB _).alloc (by simp <;> omega) _) hg (by simp <;> omega) ?_
   intro k hk
   injection hk with hk
   have : w1.heap.size + 1 = k := hk
   omega
theorem qfa.alloc {ps : Nat -> Gm.In} {g : Gm.G} {w wr : World} {Bi Br Bn k : Nat} (h : qfa ps g w wr Bi Br Bn k) (o : Obj) : qfa ps g w (wr.alloc o) Bi Br Bn k := by
 obtain ⟨⟨A, c, hB, hO⟩, hI, hR, hb⟩ := h
 exact ⟨⟨A, c, hB.alloc o, hO.alloc o⟩, hI.alloc o, hR.alloc o, hb.alloc hb.size o⟩
theorem qfa.drew {ps : Nat -> Gm.In} {g : Gm.G} {w wr : World} {Bi Br Bn k : Nat} (h : qfa ps g w wr Bi Br Bn k) : qfa ps g w wr.drew Bi Br Bn k := by
 obtain ⟨⟨A, c, hB, hO⟩, hI, hR, hb⟩ := h
 exact ⟨⟨A, c, hB.drew, hO.drew⟩, hI.drew, hR.drew, hb.drew⟩
theorem qgx {ps : Nat -> Gm.In} {g : Gm.G} {w wr : World} {Bi Br Bn k m c1 : Nat} {A1 : Option Addr} (hk : k < 8) (hm : m = (Gm.ph1 ps g k).2.length)
 (hB : Box wr Bn 31 (Gm.cells { g with ship := (Gm.ph1 ps g k).1 } (.slice A1 m c1))) (hO : wr.ownsRow w.heap.size 80 6 (.slice A1 m c1) m (Gm.qad (Gm.ph1 ps g k).2))
 (hI : Box wr Bi 49 (Gm.qai ps).toArray) (hR : Box wr Br 31 (Gm.cells qbx (.slice none 0 0))) (hb : Below w.heap.size w wr) (hBn : w.heap.size <= Bn) (nI : Bi ≠ Bn) (nR : Br ≠ Bn)
 (t : Gm.Ship) (ht : Gm.moved (ps k) m ((Gm.ph1 ps g k).1 k) = t) (hmade : Gm.made (ps k) m k ((Gm.ph1 ps g k).1 k) = []) : qfa ps g w (stored wr Bn k t) Bi Br Bn (k + 1) := by
 have e1 : (Gm.ph1 ps g (k + 1)).1 = Gm.upd (Gm.ph1 ps g k).1 k t := by rw [<- ht, hm]; rfl
 have e2 : (Gm.ph1 ps g (k + 1)).2 = (Gm.ph1 ps g k).2 := by
  show (Gm.ph1 ps g k).2 ++ Gm.made _ _ _ _ = _
  rw [<- hm, hmade, List.append_nil]
 refine ⟨⟨A1, c1, ?_, ?_⟩, qcQ hI nI t, qcQ hR nR t, qda hb hBn t⟩
 · rw [e1, e2, <- hm]
   exact qdH (g := { g with ship := (Gm.ph1 ps g k).1 }) hB hk t
 · rw [e2, <- hm]
   exact qfg hO (hB.qaM hO (by decide)) t
theorem qnH {ps : Nat -> Gm.In} {g : Gm.G} {w wr : World} {Bi Br Bn k : Nat} (h : qfa ps g w wr Bi Br Bn k) (ho : ((Gm.ph1 ps g k).1 k).on = false) : qfa ps g w wr Bi Br Bn (k + 1) := by
 have e := Gm.qlP (p := ps k) (n := (Gm.ph1 ps g k).2.length) (i := k) ho
 have e0 : Gm.ph1 ps g (k + 1) = Gm.ph1 ps g k := by
  show (Gm.upd _ k _, _ ++ _) = _
  rw [e.1, e.2, Gm.qdZ, List.append_nil]
 obtain ⟨⟨A, c, hB, hO⟩, hI, hR, hb⟩ := h
 exact ⟨⟨A, c, by rw [e0]; exact hB, by rw [e0]; exact hO⟩, hI, hR, hb⟩
theorem qmb {ps : Nat -> Gm.In} {g : Gm.G} {w w2 : World} {Bi Br Bn Bs k m c1 c2 : Nat} {A1 A2 : Option Addr} (hk : k < 8) (hm : m = (Gm.ph1 ps g k).2.length) (s : Gm.Shot)
 (hB : Box w2 Bn 31 (Gm.cells { g with ship := (Gm.ph1 ps g k).1 } (.slice A1 m c1))) (hO : w2.ownsRow w.heap.size 80 6 (.slice A2 (m + 1) c2) (m + 1) (Gm.qad (Gm.ph1 ps g k).2 ++ Gm.qad [s]))
 (hI : Box w2 Bi 49 (Gm.qai ps).toArray) (hR : Box w2 Br 31 (Gm.cells qbx (.slice none 0 0))) {cs : Array Value} (hS : Box w2 Bs 27 cs) (hb : Below w.heap.size w w2) (hBn : w.heap.size <= Bn) (hBs : w.heap.size <= Bs) (nI : Bi ≠ Bn) (nR : Br ≠ Bn) (nIs : Bi ≠ Bs) (nRs : Br ≠ Bs) (nBs : Bn ≠ Bs)
 (t : Gm.Ship) (u : Value) (ht : Gm.moved (ps k) m ((Gm.ph1 ps g k).1 k) = t) (hmade : Gm.made (ps k) m k ((Gm.ph1 ps g k).1 k) = [s]) :
 qfa ps g w (stored ((w2.setCell ⟨Bn, 58, none⟩ (.slice A2 (m + 1) c2)).setCell ⟨Bs, 5, none⟩ u) Bn k t) Bi Br Bn (k + 1) := by
 have e1 : (Gm.ph1 ps g (k + 1)).1 = Gm.upd (Gm.ph1 ps g k).1 k t := by rw [<- ht, hm]; rfl
 have e2 : (Gm.ph1 ps g (k + 1)).2 = (Gm.ph1 ps g k).2 ++ [s] := by
  show (Gm.ph1 ps g k).2 ++ Gm.made _ _ _ _ = _
  rw [<- hm, hmade]
 have nO := hB.qaM hO (by decide)
 have nOs := hS.qaM hO (by decide)
 have hO1 := ownsRow_setCell_other (a := ⟨Bn, 58, none⟩) hO nO (.slice A2 (m + 1) c2)
 have hO2 := ownsRow_setCell_other (a := ⟨Bs, 5, none⟩) hO1 nOs u
 have hl : (Gm.ph1 ps g (k + 1)).2.length = m + 1 := by rw [e2, List.length_append, hm]; rfl
 refine ⟨⟨A2, c2, ?_, ?_⟩, qcQ ((hI.far (p := ⟨Bn, 58, none⟩) nI _).far (p := ⟨Bs, 5, none⟩) nIs _) nI t, qcQ ((hR.far (p := ⟨Bn, 58, none⟩) nR _).far (p := ⟨Bs, 5, none⟩) nRs _) nR t, qda ((hb.setCell hBn _).setCell hBs _) hBn t⟩
 · rw [e1, hl]
   exact qdH (g := { g with ship := (Gm.ph1 ps g k).1 }) ((qch hB _).far (p := ⟨Bs, 5, none⟩) nBs _) hk t
 · rw [hl, e2, Gm.qcH]
   exact qfg hO2 nO t
structure qcp (g : Gm.G) (l : List Gm.Shot) (st : Gm.St) (A1 : Option Addr) (c1 : Nat) (w wr : World) (Br Bn Bl : Nat) (s12 : Value) : Prop where
 game : Box wr Bn 31 (Gm.cells { g with dice := st.dice, ship := st.ship } (.slice A1 l.length c1))
 qaa : Lies wr Bl 6 A1 l.length (Gm.qad l)
 left : ∃ A c, s12 = .slice A st.left.length c /\ wr.ownsRow Bl 80 6 (.slice A st.left.length c) st.left.length (Gm.qad st.left)
 res : Box wr Br 31 (Gm.cells qbx (.slice none 0 0))
 below : Below w.heap.size w wr
 size : Bl <= wr.heap.size
theorem qcp.alloc {g : Gm.G} {l : List Gm.Shot} {st : Gm.St} {A1 : Option Addr} {c1 : Nat} {w wr : World} {Br Bn Bl : Nat} {s12 : Value} (h : qcp g l st A1 c1 w wr Br Bn Bl s12) (o : Obj) : qcp g l st A1 c1 w (wr.alloc o) Br Bn Bl s12 := by
 obtain ⟨h1, h2, ⟨A, c, e, h3⟩, h4, h5, h6⟩ := h
 exact ⟨h1.alloc o, h2.stays fun b hb => Below.heap_alloc wr o b (by omega), ⟨A, c, e, h3.alloc o⟩, h4.alloc o, h5.alloc h5.size o, by simp; omega⟩
theorem qcp.drew {g : Gm.G} {l : List Gm.Shot} {st : Gm.St} {A1 : Option Addr} {c1 : Nat} {w wr : World} {Br Bn Bl : Nat} {s12 : Value} (h : qcp g l st A1 c1 w wr Br Bn Bl s12) : qcp g l st A1 c1 w wr.drew Br Bn Bl s12 := by
 obtain ⟨h1, h2, ⟨A, c, e, h3⟩, h4, h5, h6⟩ := h
 exact ⟨h1.drew, ⟨h2.len, h2.start, h2.cell⟩, ⟨A, c, e, h3.drew⟩, h4.drew, h5.drew, h6⟩
theorem qcp.on {g : Gm.G} {l : List Gm.Shot} {st : Gm.St} {A1 : Option Addr} {c1 : Nat} {w wr w' : World} {Br Bn Bl : Nat} {s12 : Value} (h : qcp g l st A1 c1 w wr Br Bn Bl s12) (hb : Below wr.heap.size wr w') : qcp g l st A1 c1 w w' Br Bn Bl s12 := by
 obtain ⟨h1, h2, ⟨A, c, e, h3⟩, h4, h5, h6⟩ := h
 exact ⟨h1.below hb h1.lt, h2.stays fun b hb' => hb.block b (by omega), ⟨A, c, e, own_below h3 hb (Nat.le_refl _)⟩, h4.below hb h4.lt, h5.trans (hb.mono h5.size), Nat.le_trans h6 hb.size⟩
theorem qgw {g : Gm.G} {l : List Gm.Shot} {st : Gm.St} {A1 A2 A' : Option Addr} {c1 c2 c' : Nat} {w w1 w2 : World} {Br Bn Bl : Nat} {s12 : Value} {o : Obj} {s : Gm.Shot} (h : qcp g l st A1 c1 w w1 Br Bn Bl s12)
 (hO : w1.ownsRow Bl 80 6 (.slice A2 st.left.length c2) st.left.length (Gm.qad st.left)) (hO2 : w2.ownsRow Bl 80 6 (.slice A' (st.left.length + 1) c') (st.left.length + 1) (Gm.qad st.left ++ Gm.qad [s]))
 (hg : (w1.alloc o).grownBy w2 (Value.ownBlock (.slice A2 st.left.length c2))) (hBl : w.heap.size <= Bl) : qcp g l { st with left := st.left ++ [s] } A1 c1 w w2 Br Bn Bl (.slice A' (st.left.length + 1) c') := by
 have hs := h.size
 have hl : (st.left ++ [s]).length = st.left.length + 1 := by simp
 refine ⟨qcf h.game hO (by decide) hg, h.qaa.stays fun b hb => ?_, ⟨A', c', by rw [hl], ?_⟩, qcf h.res hO (by decide) hg, ?_, ?_⟩
 · have e1 := hg.block b (by simp; omega) (fun e => by have := (hO.lt b e.symm).1; omega)
   exact e1.trans (Below.heap_alloc w1 o b (by omega))
 · rw [hl, Gm.qcH]; exact hO2
 · exact (h.below.alloc h.below.size o).grown hg (by have := h.below.size; simp; omega) (fun k hk => by have := (hO.lt k hk).1; have := h.below.size; omega)
 · have := hg.size; simp at this; omega
theorem qpr {w w' : World} {b n size Bn : Nat} {e : TypeId} {v : Value} {xs : List Value} (h : w.ownsRow b e size v n xs) (hne : v.ownBlock ≠ some Bn) (hk : ∀ k, k ≠ Bn -> k < w.heap.size -> w'.heap[k]? = w.heap[k]?) : w'.ownsRow b e size v n xs := by
 obtain ⟨hl, e | ⟨gg, cap, cur, hv, hbg, hgg, hr⟩⟩ := h
 · exact ⟨hl, .inl e⟩
 · exact ⟨hl, .inr ⟨gg, cap, cur, hv, hbg, (hk gg (fun e => hne (by rw [hv, e]; rfl)) (Array.getElem?_eq_some_iff.1 hgg).1).trans hgg, hr⟩⟩
theorem Lies.qq2 {w w' : World} {B Bn n m c : Nat} {A A' : Option Addr} {l : List Gm.Shot} {g : Gm.G} (h : Lies w B 6 A n (Gm.qad l)) (hn : n = l.length) (hB : Box w Bn 31 (Gm.cells g (.slice A' m c))) (hk : ∀ k, k ≠ Bn -> k < B -> w'.heap[k]? = w.heap[k]?) : Lies w' B 6 A n (Gm.qad l) := by
 refine ⟨h.len, h.start, fun ad e h0 j u hu => ?_⟩
 have hne := h.qlO hn hB h0 ad e
 obtain ⟨ad', e', hlt⟩ := h.start h0
 rw [e] at e'; injection e' with e'; subst e'
 rw [World.cell?_of_block (w := w) (by rw [add_block]; exact hk _ hne hlt)]
 exact h.cell ad e h0 j u hu
theorem qcp.hit {g : Gm.G} {l : List Gm.Shot} {st st' : Gm.St} {A1 : Option Addr} {c1 : Nat} {w wr w' : World} {Br Bn Bl : Nat} {s12 : Value} (h : qcp g l st A1 c1 w wr Br Bn Bl s12) (hl : st'.left = st.left)
 (hB : Box w' Bn 31 (Gm.cells { g with dice := st'.dice, ship := st'.ship } (.slice A1 l.length c1))) (hk : ∀ b, b ≠ Bn -> b < wr.heap.size -> w'.heap[b]? = wr.heap[b]?) (hw : w.heap.size <= Bn) (hbn : Below Bn wr w') (nR : Br ≠ Bn) : qcp g l st' A1 c1 w w' Br Bn Bl s12 := by
 obtain ⟨h1, h2, ⟨A, c, e, h3⟩, h4, h5, h6⟩ := h
 exact ⟨hB, h2.qq2 rfl h1 (fun k hk1 hk2 => hk k hk1 (by omega)), ⟨A, c, by rw [hl]; exact e, by rw [hl]; exact qpr h3 (h1.qaM h3 (by decide)) hk⟩, ⟨(hk Br nR h4.lt).trans h4.is⟩, h5.trans (hbn.mono hw), by have := hbn.size; omega⟩
open Go.RowKit Go.Shelf
structure Typed (w : World) (t : TypeId) (A : Option Addr) : Prop where
 is : ∀ ad, A = some ad -> ∃ cs fz, w.heap[ad.block]? = some (.cells cs t fz)
section
variable {w w' : World} {t : TypeId} {A : Option Addr}
theorem Typed.lt (h : Typed w t A) {ad : Addr} (e : A = some ad) : ad.block < w.heap.size := by
 obtain ⟨cs, fz, h1⟩ := h.is ad e
 exact (Array.getElem?_eq_some_iff.1 h1).1
theorem Typed.below {B : Nat} (h : Typed w t A) (hb : Below B w w') (hB : w.heap.size <= B) : Typed w' t A := ⟨fun ad e => by
 obtain ⟨cs, fz, h1⟩ := h.is ad e
 exact ⟨cs, fz, (hb.block _ (Nat.lt_of_lt_of_le (h.lt e) hB)).trans h1⟩⟩
theorem Typed.call (h : Typed w t A) (hb : Below w.heap.size w w') : Typed w' t A := h.below hb (Nat.le_refl _)
theorem Typed.row {B : Nat} {t' : TypeId} {old : Array Value} (h : Typed w t A) (hB : Box w B t' old) (cs : Array Value) : Typed (w.setRow B cs) t A := ⟨fun ad e => by
 obtain ⟨cs1, fz, h1⟩ := h.is ad e
 by_cases eb : ad.block = B
 · rw [eb, hB.is] at h1
   injection h1 with h1
   injection h1 with _ ht _
   subst ht
   rw [eb]
   exact ⟨_, _, (hB.row cs).is⟩
 · exact ⟨cs1, fz, (setRow_other w B _ cs eb).trans h1⟩⟩
theorem Typed.owned {base size n c : Nat} {xs : List Value} (h : w.ownsRow base t size (.slice A n c) n xs) : Typed w t A := ⟨fun ad e => by
 obtain ⟨_, ⟨h1, _⟩ | ⟨g, cap, cur, hv, _, hg, _⟩⟩ := h
 · injection h1 with h1; rw [e] at h1; cases h1
 · injection hv with h1
   rw [e] at h1
   injection h1 with h1
   rw [h1]
   exact ⟨_, _, hg⟩⟩
end
def qpU (g' : Gm.G) (w : World) (e : Ending) (w' : World) : Prop :=
 ∃ A c, e = .returned (.tuple #[.agg (Gm.cells g' (.slice A g'.qaa.length c)), .int .i64 0]) /\ Lies w' w'.heap.size 6 A g'.qaa.length (Gm.qad g'.qaa) /\ Typed w' 80 A /\ Below w.heap.size w w'
theorem qkL (ps : Nat -> Gm.In) (g : Gm.G) (A : Option Addr) (n c : Nat) (w : World) (hg : Gm.ok g) (hf : g.frame < 1048576) (hd : 0 <= g.dice /\ g.dice <= 18446744073709551615) (hp : ∀ i, i < 8 -> Gm.tyIn (ps i)) (hn : n = g.qaa.length) (hr : Lies w w.heap.size 6 A n (Gm.qad g.qaa)) :
 Calls Tryz.prog 73 #[.agg (Gm.cells g (.slice A n c)), .agg (Gm.qai ps).toArray] w (qpU (Gm.step ps g) w) := by
 have b1 : Box (((w.alloc (.cells (Gm.cells g (.slice A n c)) 31)).alloc (.cells (Gm.qai ps).toArray 49)).alloc (.cells (Gm.cells qbx (.slice none 0 0)) 31)) w.heap.size 31 (Gm.cells g (.slice A n c)) := ((Box.made _ _ _).alloc _).alloc _
 have b2 : Box (((w.alloc (.cells (Gm.cells g (.slice A n c)) 31)).alloc (.cells (Gm.qai ps).toArray 49)).alloc (.cells (Gm.cells qbx (.slice none 0 0)) 31)) (w.heap.size + 1) 49 (Gm.qai ps).toArray := (Box.qaq _ _ _ (by simp)).alloc _
 have b3 : Box (((w.alloc (.cells (Gm.cells g (.slice A n c)) 31)).alloc (.cells (Gm.qai ps).toArray 49)).alloc (.cells (Gm.cells qbx (.slice none 0 0)) 31)) (w.heap.size + 1 + 1) 31 (Gm.cells qbx (.slice none 0 0)) := Box.qaq _ _ _ (by simp)
 have hb0 : Below w.heap.size w (((w.alloc (.cells (Gm.cells g (.slice A n c)) 31)).alloc (.cells (Gm.qai ps).toArray 49)).alloc (.cells (Gm.cells qbx (.slice none 0 0)) 31)) := (qap w _ _).alloc (by simp <;> omega) _
 have cm := qh (qfn g A n c _ hg hn ((hr.below hb0).wider hb0.size))
 have hf0 : 0 <= g.frame := hg.1
 have fr : (g.frame == 1048576) = false := by simpa using Int.ne_of_lt hf
 have e0 := Gm.qa1 g (.slice A n c)
 have e58 := Gm.qbc g (.slice A n c)
 have hN := qh hn
 have B1 := qh b1
 have B2 := qh b2
 have B3 := qh b3
 have HB := qh hb0
 have hn32 : n <= 32 := by rw [hn]; exact hg.2.2.1
 obtain ⟨i0, hi0, hz0, hz1, hz2⟩ := info_parts qdo
 have hI := qh hi0
 have hZ := qh hz0
 have hS := qh hz1
 have hY := qh hz2
 have hL := qh hr
 clear hn b1 b2 b3 hb0 hi0 hz0 hz1 hz2 hr
 go_enter Tryz.func73, Tryz.ntmps73
 go_upto_block 0 with (first | (refine qaK rfl rfl ?_) | ((with_reducible refine qaF rfl rfl ?_); apply qaN.mk rfl; (with_reducible exact B1.out)) | ((with_reducible refine qaF rfl rfl ?_); apply qaN.mk rfl; exact c1) | (go_at_call 66; ((with_reducible refine (cm.out).mono ?_); rintro e w1 ⟨rfl, hb⟩; have c1 := B1.out.below hb (by simp <;> omega); have c2 := qh (B2.out.below hb (by simp <;> omega)); have c3 := qh (B3.out.below hb (by simp)); have cc := c1.cell; have cl := c1.lt; have hbb := HB.out.trans (hb.mono HB.out.size); have hL1 := qh ((hL.out.below hbb).wider hbb.size); have hbH := qh hbb; have hws := hbb.size; clear hb hbb)) | (refine qaL rfl rfl rfl rfl rfl rfl ?_) | ((with_reducible refine qb5 (x := .tmp 28) (y := .tmp 30) (t := 29) (e := 80) (size := 6) (bytes := 32) rfl rfl Tryz.underlying29 hI.out hZ.out hS.out hY.out rfl (by decide) ?_); refine qdk.mk rfl (qoF w1 w.heap.size _ hws) (qpv hL1.out _ _) (qbG _) (by unfold maxLen; omega) (by omega) (by simp <;> omega) ?_; intro A1 k1 w2 own1 hg1; have bn := ((Box.made w1 31 (Gm.cells g (.slice A n c))).alloc (.cells #[] 80)).grown hg1 (by intro e; injection e with e; simp at e); have bc := bn.cell; have bf := bn.free; have bl := bn.lt; have HO := qh own1; have HG := qh hg1; clear own1 hg1 cc c1))
 go_step
 generalize hBn : w1.heap.size = Bn
 have hS := qh (qkx (ps := ps) hN.out hbH.out c2.out c3.out HO.out HG.out)
 rw [hBn] at hS
 have hBnw : w.heap.size + 1 + 1 < Bn := hBn ▸ c3.out.lt
 clear bn bc bf bl HO HG hL1 cl cm e58 hL B1 B2 B3 HB hbH hws c2 c3 hBn
 go_loopg [7] 8 (fun gg i wr => ∃ k : Nat, k <= 8 /\ gg = 8 - k /\ i = .int .i64 k /\ qfa ps g w wr (w.heap.size + 1) (w.heap.size + 1 + 1) Bn k)
 case atStart => exact ⟨0, by omega, rfl, rfl, hS.out⟩
 case round =>
  obtain ⟨k, hk, rfl, rfl, hR⟩ := hrel
  clear hS
  by_cases hlt : k < 8
  · obtain ⟨⟨A1, c1, hB, hO⟩, hI1, hR1, hb⟩ := hR
    have hcr := hB.cell
    have hlB := hB.lt
    have hfB := hB.free
    have hic := hI1.cell
    have hil := hI1.lt
    have way := Gm.qiz (ps := ps) hg k (by omega)
    have ho := way.qbZ k hlt
    have hl32 := way.len
    have a0 := qaY hcr hlt 0 (by omega)
    have a1 := qaY hcr hlt 1 (by omega)
    have a2 := qaY hcr hlt 2 (by omega)
    have a3 := qaY hcr hlt 3 (by omega)
    have a4 := qaY hcr hlt 4 (by omega)
    have a5 := qaY hcr hlt 5 (by omega)
    have a6 := qaY hcr hlt 6 (by omega)
    have q0 := (hic _).trans (Gm.qbe ps k 0 hlt (by omega))
    have q1 := (hic _).trans (Gm.qbe ps k 1 hlt (by omega))
    have q2 := (hic _).trans (Gm.qbe ps k 2 hlt (by omega))
    have hpk := hp k hlt
    obtain ⟨s, hs⟩ : ∃ s, s = (Gm.ph1 ps g k).1 k := ⟨_, rfl⟩
    obtain ⟨p, hpp⟩ : ∃ p, p = ps k := ⟨_, rfl⟩
    obtain ⟨m, hm⟩ : ∃ m, m = (Gm.ph1 ps g k).2.length := ⟨_, rfl⟩
    simp only [<- hs, <- hpp, <- hm] at a0 a1 a2 a3 a4 a5 a6 q0 q1 q2 hpk ho hl32
    have e58 := (hcr 58).trans (Gm.qbc _ _)
    rw [<- hm] at e58
    have c0 := Gm.qae { g with ship := (Gm.ph1 ps g k).1 } (.slice A1 m c1) k 0 hlt (by omega)
    have c1' := Gm.qae { g with ship := (Gm.ph1 ps g k).1 } (.slice A1 m c1) k 1 hlt (by omega)
    have c2 := Gm.qae { g with ship := (Gm.ph1 ps g k).1 } (.slice A1 m c1) k 2 hlt (by omega)
    have c3 := Gm.qae { g with ship := (Gm.ph1 ps g k).1 } (.slice A1 m c1) k 3 hlt (by omega)
    have c4 := Gm.qae { g with ship := (Gm.ph1 ps g k).1 } (.slice A1 m c1) k 4 hlt (by omega)
    have c5 := Gm.qae { g with ship := (Gm.ph1 ps g k).1 } (.slice A1 m c1) k 5 hlt (by omega)
    have c6 := Gm.qae { g with ship := (Gm.ph1 ps g k).1 } (.slice A1 m c1) k 6 hlt (by omega)
    have c58 := Gm.qbc { g with ship := (Gm.ph1 ps g k).1 } (.slice A1 m c1)
    simp only [<- hs] at c0 c1' c2 c3 c4 c5 c6
    have SS := qh hs
    have PP := qh hpp
    have MM := qh hm
    have HBB := qh hB
    have HOO := qh hO
    have HII := qh hI1
    have HRR := qh hR1
    have HSS := qh (show qfa ps g w wr (w.heap.size + 1) (w.heap.size + 1 + 1) Bn k from ⟨⟨A1, c1, hm ▸ hB, hm ▸ hO⟩, hI1, hR1, hb⟩)
    have hbH := qh hb
    clear hs hpp hm hB hO hI1 hR1 way hcr hic hb
    obtain ⟨on, x, y, vx, vy, cool, score⟩ := s
    obtain ⟨px, py, pb⟩ := p
    obtain ⟨o1, o2, o3, o4, o5, o6, o7, o8, o9⟩ := ho
    simp only [Gm.Ship.cells, List.getElem?_cons_zero, List.getElem?_cons_succ, Nat.add_zero] at c0 c1' c2 c3 c4 c5 c6
    have K0 := qh c0
    have K1 := qh c1'
    have K2 := qh c2
    have K3 := qh c3
    have K4 := qh c4
    have K5 := qh c5
    have K6 := qh c6
    have K58 := qh c58
    clear c0 c1' c2 c3 c4 c5 c6 c58
    simp only [Gm.Ship.cells, Gm.In.cells, Gm.inF, Gm.slow, Gm.tyIn, List.getElem?_cons_zero, List.getElem?_cons_succ, Nat.add_zero] at a0 a1 a2 a3 a4 a5 a6 q0 q1 q2 o2 o3 o4 o5 o6 o7 o8 o9 hpk
    obtain ⟨p1, p2, p3⟩ := hpk
    have hk8 : (k : Int) < 8 := by omega
    cases on
    · clear o1
      go_wp2
      go_roundg (8 - (k + 1))
      case measure => omega
      case rel => exact ⟨k + 1, by omega, rfl, by go_num, (qnH HSS.out (by rw [<- SS.out])).alloc _⟩
    · clear o1
      have tx := Gf.qid (a := px) (by omega)
      have ty := Gf.qid (a := py) (by omega)
      go_upto_region 13 with fail
      refine Ro.qcS (by kernel_rfl) (by kernel_rfl) ?_
      repeat (first | (apply Ro.qbg rfl rfl; focus (intro _; go_simp; first | done | rfl)) | (apply Ro.qd8 rfl rfl; focus (go_simp; first | done | rfl)) | (apply Ro.qbI rfl; focus (go_simp; first | done | rfl)) | (apply Ro.qcz rfl rfl; (focus (go_simp; first | done | rfl | exact ⟨rfl, rfl⟩)); (focus (first | exact qkJ _ (by omega) _))))
      refine Ro.qcd ?_
      generalize hX : Gf.tame px = X at tx
      generalize hY : Gf.tame py = Y at ty
      have HX := qh hX
      have HY := qh hY
      clear hX hY
      go_upto_region 14 with fail
      refine Ro.qcS (by kernel_rfl) (by kernel_rfl) ?_
      repeat (first | (apply Ro.qbg rfl rfl; focus (intro _; go_simp; first | done | rfl)) | (apply Ro.qd8 rfl rfl; focus (go_simp; first | done | rfl)) | (apply Ro.qbI rfl; focus (go_simp; first | done | rfl)) | (apply Ro.qcz rfl rfl; (focus (go_simp; first | done | rfl | exact ⟨rfl, rfl⟩)); (focus (first | exact qkO _ _ (by omega) (by omega) _))))
      refine Ro.qcd ?_
      have v1 := Gf.qfp vx X
      have v2 := Gf.qfp vy Y
      generalize hX : Gf.push vx X = VX at v1
      generalize hY : Gf.push vy Y = VY at v2
      have HVX := qh hX
      have HVY := qh hY
      clear hX hY
      go_upto_region 15 with fail
      refine Ro.qcS (by kernel_rfl) (by kernel_rfl) ?_
      repeat (first | (apply Ro.qbg rfl rfl; focus (intro _; go_simp; first | done | rfl)) | (apply Ro.qd8 rfl rfl; focus (go_simp; first | done | rfl)) | (apply Ro.qbI rfl; focus (go_simp; first | done | rfl)) | (apply Ro.qcz rfl rfl; (focus (go_simp; first | done | rfl | exact ⟨rfl, rfl⟩)); (focus (first | exact qgF _ _ (by omega) (by omega) _))))
      refine Ro.qcd ?_
      have m1 := Gf.qb3 x VX
      have m2 := Gf.qb3 y VY
      generalize hX : Gf.move x VX = NX at m1
      generalize hY : Gf.move y VY = NY at m2
      have HNX := qh hX
      have HNY := qh hY
      clear hX hY
      by_cases hcool : 0 < cool
      · go_wp2
        go_roundg (8 - (k + 1))
        case measure => omega
        case rel =>
         refine ⟨k + 1, by omega, rfl, by go_num, ?_⟩
         have e := Gm.qjM (p := ps k) (n := (Gm.ph1 ps g k).2.length) (i := k) (s := (Gm.ph1 ps g k).1 k) (by rw [<- SS.out]) (by rw [<- SS.out]; exact hcool)
         have hq := qgx (Bi := w.heap.size + 1) (Br := w.heap.size + 1 + 1) (Bn := Bn) hlt rfl HBB.out HOO.out HII.out HRR.out hbH.out (by have := hBnw; omega) (by have := hBnw; omega) (by have := hBnw; omega) ⟨true, NX, NY, VX, VY, cool - 1, score⟩ (by rw [e.1, <- SS.out, <- PP.out, <- HNX.out, <- HNY.out, <- HVX.out, <- HVY.out, <- HX.out, <- HY.out]; rfl) e.2
         exact ((((hq.alloc _).alloc _).drew).drew).drew
      · have hcool0 : cool = 0 := by omega
        subst hcool0
        have hbit : bits .and .u8 pb 1 = pb % 2 := by
         obtain ⟨b, rfl⟩ : ∃ b : Nat, pb = b := ⟨pb.toNat, by omega⟩
         rw [show (1 : Int) = ((1 : Nat) : Int) from rfl, u8_and_nat b 1 (by omega) (by omega), nat_mask1]
         rfl
        by_cases hsh : pb % 2 = 1 /\ m < 32
        · have hm32 : decide ((m : Int) < 32) = true := decide_eq_true (by omega)
          have hb1 : (pb % 2 == 1) = true := by simpa using hsh.1
          have hm31 : m < 32 := hsh.2
          have HYES := qh (show Gm.qcL ⟨px, py, pb⟩ m ⟨true, x, y, vx, vy, 0, score⟩ = true by unfold Gm.qcL; simp; omega)
          obtain ⟨AX, hAX⟩ : ∃ AX, AX = Gf.aimx X Y := ⟨_, rfl⟩
          obtain ⟨AY, hAY⟩ : ∃ AY, AY = Gf.aimy Y := ⟨_, rfl⟩
          have cA := fun W => qh (qmw X Y pb (by omega) (by omega) p3 W)
          rw [<- hAX, <- hAY] at cA
          have HAX := qh hAX
          have HAY := qh hAY
          have MM2 := qh MM.out
          clear hsh hAX hAY
          go_wp2_with (first | (go_at_call 112; ((with_reducible refine ((cA _).out).mono ?_); rintro e w1 ⟨rfl, hb1⟩; have sB := qh ((((((Box.made wr 27 #[.bool true, .int .i32 NX, .int .i32 NY, .int .i32 VX, .int .i32 VY, .int .i64 0, .int .i64 score]).alloc (.cells #[.int .i8 X, .int .i8 Y, .int .u8 pb] 48)).drew).drew).drew).below hb1 (by simp <;> omega)); have nB := qh ((((((HBB.out.alloc (.cells #[.bool true, .int .i32 NX, .int .i32 NY, .int .i32 VX, .int .i32 VY, .int .i64 0, .int .i64 score] 27)).alloc (.cells #[.int .i8 X, .int .i8 Y, .int .u8 pb] 48)).drew).drew).drew).below hb1 (by simp <;> omega)); have iB := qh ((((((HII.out.alloc (.cells #[.bool true, .int .i32 NX, .int .i32 NY, .int .i32 VX, .int .i32 VY, .int .i64 0, .int .i64 score] 27)).alloc (.cells #[.int .i8 X, .int .i8 Y, .int .u8 pb] 48)).drew).drew).drew).below hb1 (by simp <;> omega)); have rB := qh ((((((HRR.out.alloc (.cells #[.bool true, .int .i32 NX, .int .i32 NY, .int .i32 VX, .int .i32 VY, .int .i64 0, .int .i64 score] 27)).alloc (.cells #[.int .i8 X, .int .i8 Y, .int .u8 pb] 48)).drew).drew).drew).below hb1 (by simp <;> omega)); have oB := qh (own_below (((((HOO.out.alloc (.cells #[.bool true, .int .i32 NX, .int .i32 NY, .int .i32 VX, .int .i32 VY, .int .i64 0, .int .i64 score] 27)).alloc (.cells #[.int .i8 X, .int .i8 Y, .int .u8 pb] 48)).drew).drew).drew) hb1 (Nat.le_refl _)); have oM := qh (show w1.ownsRow w.heap.size 80 6 (.slice A1 m c1) m (Gm.qad (Gm.ph1 ps g k).2) from (by rw [MM2.out]; exact oB.out)); have nM := qh (show Box w1 Bn 31 (Gm.cells { g with ship := (Gm.ph1 ps g k).1 } (.slice A1 m c1)) from (by rw [MM2.out]; exact nB.out)); have bB := qh ((((((hbH.out.alloc (hbH.out.size) (.cells #[.bool true, .int .i32 NX, .int .i32 NY, .int .i32 VX, .int .i32 VY, .int .i64 0, .int .i64 score] 27)).alloc (by simp; have := hbH.out.size; omega) (.cells #[.int .i8 X, .int .i8 Y, .int .u8 pb] 48)).drew).drew).drew).trans (hb1.mono (by simp; have := hbH.out.size; omega))); have z1 : wr.heap.size + 1 < w1.heap.size := (by have := hb1.size; simp at this; omega); have sc := sB.out.cell; have nc := (nM.out.cell 58).trans K58.out; have nl := nM.out.lt; clear hb1)) | ((with_reducible refine qb5 (x := .tmp 102) (y := .tmp 111) (t := 29) (e := 80) (size := 6) (bytes := 32) rfl rfl Tryz.underlying29 hI.out hZ.out hS.out hY.out rfl (by decide) ?_); refine qdk.mk rfl (oM.out.alloc _) (qdT w1 80 ⟨k, NX, NY, AX, AY, 24⟩) (qbG _) (by unfold maxLen; omega) (by omega) (by have := bB.out.size; simp; omega) ?_; intro A2 k2 w2 own2 hg2; have sB2 := qcf sB.out oM.out (by decide) hg2; have nB2 := qcf nM.out oM.out (by decide) hg2; have iB2 := qh (qcf iB.out oM.out (by decide) hg2); have rB2 := qh (qcf rB.out oM.out (by decide) hg2); have bB2 := qh ((bB.out.alloc bB.out.size _).grown hg2 (by have := bB.out.size; simp; omega) (fun kk hk => (oM.out.lt kk hk).1)); have sc2 := sB2.cell; have sf2 := sB2.free; have sl2 := sB2.lt; have nc2 := nB2.cell; have nf2 := nB2.free; have nl2 := nB2.lt; have SB2 := qh sB2; have NB2 := qh nB2; have OB2 := qh own2; have q0 := K0.out; have q1 := K1.out; have q2 := K2.out; have q3 := K3.out; have q4 := K4.out; have q5 := K5.out; have q6 := K6.out; have q58 := K58.out; clear own2 hg2 sB2 nB2 sc nc))
          go_roundg (8 - (k + 1))
          case measure => omega
          case rel =>
           refine ⟨k + 1, by omega, rfl, by go_num, ?_⟩
           have e := Gm.qjK (p := ps k) (n := m) (i := k) (s := (Gm.ph1 ps g k).1 k) (by rw [<- SS.out]) (by rw [<- SS.out]) (by rw [<- SS.out, <- PP.out]; exact HYES.out)
           exact qmb hlt MM.out ⟨k, NX, NY, AX, AY, 24⟩ NB2.out OB2.out iB2.out rB2.out SB2.out bB2.out (by omega) (by omega) (by omega) (by omega) (by omega) (by omega) (by omega) ⟨true, NX, NY, VX, VY, 10, score⟩ (.int .i64 10)
            (by rw [e.1, <- SS.out, <- PP.out, <- HNX.out, <- HNY.out, <- HVX.out, <- HVY.out, <- HX.out, <- HY.out]; rfl)
            (by rw [e.2, <- SS.out, <- PP.out, HAX.out, HAY.out, <- HNX.out, <- HNY.out, <- HVX.out, <- HVY.out, <- HX.out, <- HY.out]; rfl)
        · have HNO := qh (show Gm.qcL ⟨px, py, pb⟩ m ⟨true, x, y, vx, vy, 0, score⟩ = false by
           unfold Gm.qcL; simp; intro h; omega)
          have hfin : ∀ w', w' = (((stored wr Bn k ⟨true, NX, NY, VX, VY, 0, score⟩).alloc (.cells #[.bool true, .int .i32 NX, .int .i32 NY, .int .i32 VX, .int .i32 VY, .int .i64 0, .int .i64 score] 27)).alloc (.cells #[.int .i8 X, .int .i8 Y, .int .u8 pb] 48)).drew.drew.drew -> qfa ps g w w' (w.heap.size + 1) (w.heap.size + 1 + 1) Bn (k + 1) := fun w' hw' => by
           subst hw'
           have e := Gm.qjL (p := ps k) (n := (Gm.ph1 ps g k).2.length) (i := k) (s := (Gm.ph1 ps g k).1 k) (by rw [<- SS.out]) (by rw [<- SS.out]) (by rw [<- SS.out, <- PP.out, <- MM.out]; exact HNO.out)
           have hq := qgx (Bi := w.heap.size + 1) (Br := w.heap.size + 1 + 1) (Bn := Bn) hlt rfl HBB.out HOO.out HII.out HRR.out hbH.out (by omega) (by omega) (by omega) ⟨true, NX, NY, VX, VY, 0, score⟩ (by rw [e.1, <- SS.out, <- PP.out, <- HNX.out, <- HNY.out, <- HVX.out, <- HVY.out, <- HX.out, <- HY.out]; rfl) e.2
           exact ((((hq.alloc _).alloc _).drew).drew).drew
          have HF := qh hfin
          clear hfin
          by_cases hodd : pb % 2 = 1
          · have hm32 : decide ((m : Int) < 32) = false := decide_eq_false (by omega)
            have hb1 : (pb % 2 == 1) = true := by simpa using hodd
            clear hsh hodd
            go_wp2
            go_roundg (8 - (k + 1))
            case measure => omega
            case rel => exact ⟨k + 1, by omega, rfl, by go_num, HF.out _ rfl⟩
          · have hb1 : (pb % 2 == 1) = false := by simpa using hodd
            clear hsh hodd
            go_wp2
            go_roundg (8 - (k + 1))
            case measure => omega
            case rel => exact ⟨k + 1, by omega, rfl, by go_num, HF.out _ rfl⟩
  · have hk' : k = 8 := by omega
    subst hk'
    obtain ⟨⟨A1, c1, hB, hO⟩, hI1, hR1, hb⟩ := hR
    have way := Gm.qiz (ps := ps) hg 8 (Nat.le_refl _)
    obtain ⟨F, hF⟩ : ∃ F, F = (Gm.ph1 ps g 8).1 := ⟨_, rfl⟩
    obtain ⟨l, hl⟩ : ∃ l, l = (Gm.ph1 ps g 8).2 := ⟨_, rfl⟩
    rw [<- hF, <- hl] at way
    rw [<- hF, <- hl] at hB
    rw [<- hl] at hO
    obtain ⟨wships, wshots, wlen⟩ := way
    have way0 : Gm.Way2 ⟨g.dice, F, []⟩ := ⟨wships, fun t ht => (by cases ht), hd⟩
    have hS0 := qh (show qcp g l ⟨g.dice, F, []⟩ A1 c1 w wr (w.heap.size + 1 + 1) Bn wr.heap.size (.slice none 0 0) from
     ⟨hB, Lies.owned hO, ⟨none, 0, rfl, World.ownsRow_nil _ _ _ _⟩, hR1, hb, Nat.le_refl _⟩)
    have hBnl := hB.lt
    have FF := qh hF
    have LL := qh hl
    generalize hBl : wr.heap.size = Bl at hBnl
    rw [hBl] at hS0
    clear hF hl hB hO hI1 hR1 hb hBl
    go_wp2
    go_loopg [12, 13] l.length (fun gg s12 i w' => ∃ j : Nat, j <= l.length /\ gg = l.length - j /\ i = .int .i64 j /\ qcp g l (Gm.ph2 ⟨g.dice, F, []⟩ (l.take j)) A1 c1 w w' (w.heap.size + 1 + 1) Bn Bl s12)
    case atStart => exact ⟨0, by omega, rfl, rfl, hS0.out⟩
    case round =>
     obtain ⟨j, hj, rfl, rfl, hR⟩ := hrel
     clear hS0
     have HR := qh hR
     obtain ⟨hB, hL, ⟨A2, c2, e12, hO⟩, hR1, hb, hsz⟩ := hR
     subst e12
     have hcr := hB.cell
     have hfB := hB.free
     have hlB := hB.lt
     have c58 := Gm.qbc { g with dice := (Gm.ph2 ⟨g.dice, F, []⟩ (l.take j)).dice, ship := (Gm.ph2 ⟨g.dice, F, []⟩ (l.take j)).ship } (.slice A1 l.length c1)
     by_cases hlt : j < l.length
     · have hjl : (j : Int) < (l.length : Int) := by omega
       obtain ⟨way2, len2⟩ := Gm.qgN way0 wshots j hj
       have hsn := qh (Gm.qf8 ⟨g.dice, F, []⟩ l j hlt)
       obtain ⟨ad, rfl, hbl, a0, a1, a2, a3, a4, a5⟩ := qd0 hL rfl j hlt
       have oks := wshots _ (List.getElem_mem hlt)
       obtain ⟨s, hs⟩ : ∃ s, s = l[j] := ⟨_, rfl⟩
       rw [<- hs] at a0 a1 a2 a3 a4 a5 oks
       have SS := qh hs
       generalize hst : Gm.ph2 ⟨g.dice, F, []⟩ (l.take j) = st at *
       obtain ⟨owner, x, y, vx, vy, left⟩ := s
       have OKS := qh oks
       obtain ⟨o1, o2, o3, o4, o5, o6, o7, o8⟩ := oks
       simp only [Gm.inF, Gm.slow] at o1 o2 o3 o4 o5 o6 o7 o8
       dsimp only at a0 a1 a2 a3 a4 a5
       have hsub : IntKind.i64.wrap (left - 1) = left - 1 := by rw [IntKind.wrap_i64]; omega
       have HSUB := qh hsub
       have HBB := qh hB
       have HOO := qh hO
       clear hsub hs hB hO hL hR1 hb hbl
       go_upto_region 28 with fail
       have hsub := HSUB.out
       refine Ro.qcS (by kernel_rfl) (by kernel_rfl) ?_
       repeat (first | (apply Ro.qbg rfl rfl; focus (intro _; go_simp; first | done | rfl)) | (apply Ro.qd8 rfl rfl; focus (go_simp; first | done | rfl)) | (apply Ro.qbI rfl; focus (go_simp; first | done | rfl)) | (apply Ro.qcz rfl rfl; (focus (go_simp; first | done | rfl | exact ⟨rfl, rfl⟩)); (focus (first | exact qgF _ _ (by omega) (by omega) _))))
       refine Ro.qcd ?_
       clear hsub
       have m1 := Gf.qb3 x vx
       have m2 := Gf.qb3 y vy
       generalize hX : Gf.move x vx = NX at m1
       generalize hY : Gf.move y vy = NY at m2
       have HNX := qh hX
       have HNY := qh hY
       clear hX hY
       by_cases hl1 : left = 1
       · subst hl1
         go_wp2
         go_roundg (l.length - (j + 1))
         case measure => omega
         case rel =>
          refine ⟨j + 1, by omega, rfl, by go_num, ?_⟩
          have e : Gm.ph2 ⟨g.dice, F, []⟩ (l.take (j + 1)) = st := by
           rw [hsn.out, <- SS.out]; unfold Gm.qeg; rw [if_pos (by show (1 : Int) - 1 = 0; rfl)]
          rw [e]
          exact (HR.out.alloc _).drew
       · have hl0 : (left - 1 == 0) = false := by simp; omega
         have hfly : Gm.fly ⟨owner, x, y, vx, vy, left⟩ = ⟨owner, NX, NY, vx, vy, left - 1⟩ := by rw [<- HNX.out, <- HNY.out]; rfl
         have hft := Gm.qqO OKS.out
         rw [hfly] at hft
         have cH := fun W => qh (qmu { g with dice := st.dice, ship := st.ship } (.slice (some ad) l.length c1) ⟨owner, NX, NY, vx, vy, left - 1⟩ W (fun i hi => (way2.qbZ i hi).ty) hft)
         simp only [Gm.Shot.cells] at cH
         have hbd := Gm.qor st.ship ⟨owner, NX, NY, vx, vy, left - 1⟩
         have HFLY := qh hfly
         obtain ⟨H, hH⟩ : ∃ H, H = Gm.hit st.ship ⟨owner, NX, NY, vx, vy, left - 1⟩ := ⟨_, rfl⟩
         rw [<- hH] at hbd
         have hcH : ∀ W, Hid (Calls Tryz.prog 113 #[.agg (Gm.cells { g with dice := st.dice, ship := st.ship } (.slice (some ad) l.length c1)), .agg #[.int .i64 owner, .int .i32 NX, .int .i32 NY, .int .i32 vx, .int .i32 vy, .int .i64 (left - 1)]] W fun e w' => e = .returned (.int .i64 H) /\ Below W.heap.size W w') := fun W => by rw [hH]; exact cH W
         have HH := qh hH
         have GB := qh (HBB.out.alloc (.cells #[.int .i64 owner, .int .i32 NX, .int .i32 NY, .int .i32 vx, .int .i32 vy, .int .i64 (left - 1)] 80)).drew
         have n32 : st.left.length <= 32 := by have : (Gm.St.left ⟨g.dice, F, []⟩).length = 0 := rfl; omega
         clear hfly hft cH hH
         rcases hbd with hno | ⟨kh, hyes, hkh, hhk⟩
         · subst hno
           go_wp2_with (first | ((with_reducible refine qaF rfl rfl ?_); apply qaN.mk rfl; exact GB.out) | (go_at_call 113; ((with_reducible refine ((hcH _).out).mono ?_); rintro e w1 ⟨rfl, hb1⟩; have s1 := qh ((((Box.made _ 80 #[.int .i64 owner, .int .i32 NX, .int .i32 NY, .int .i32 vx, .int .i32 vy, .int .i64 (left - 1)]).drew)).below hb1 (by simp)); have on1 := qh (((HR.out.alloc (.cells #[.int .i64 owner, .int .i32 NX, .int .i32 NY, .int .i32 vx, .int .i32 vy, .int .i64 (left - 1)] 80)).drew).on hb1); have oM := qh (own_below ((HOO.out.alloc (.cells #[.int .i64 owner, .int .i32 NX, .int .i32 NY, .int .i32 vx, .int .i32 vy, .int .i64 (left - 1)] 80)).drew) hb1 (Nat.le_refl _)); have sc := s1.out.cell; have sl := s1.out.lt; clear hb1)) | ((with_reducible refine qb5 (x := .tmp 155) (y := .tmp 157) (t := 29) (e := 80) (size := 6) (bytes := 32) rfl rfl Tryz.underlying29 hI.out hZ.out hS.out hY.out rfl (by decide) ?_); refine qdk.mk rfl (oM.out.alloc _) (qdT w1 80 ⟨owner, NX, NY, vx, vy, left - 1⟩) (qbG _) (by unfold maxLen; omega) (by omega) (by have := on1.out.size; simp; omega) ?_; intro A3 k3 w2 own2 hg2; have SH2 := qh (qgw on1.out oM.out own2 hg2 (by omega)); clear own2 hg2 sc))
           go_roundg (l.length - (j + 1))
           case measure => omega
           case rel =>
            refine ⟨j + 1, by omega, rfl, by go_num, ?_⟩
            have e : Gm.ph2 ⟨g.dice, F, []⟩ (l.take (j + 1)) = { st with left := st.left ++ [⟨owner, NX, NY, vx, vy, left - 1⟩] } := by
             rw [hsn.out, <- SS.out]; unfold Gm.qeg
             rw [HFLY.out, if_neg (by dsimp only; omega), if_pos (by rw [<- HH.out]; decide)]
            rw [e]
            exact SH2.out
         · subst hyes
           have hk0 : ¬ (kh : Int) < 0 := by omega
           have hk8 : (kh : Int) < 8 := by omega
           have hdice := way2.dice
           have hoks := fun i hi => (way2.qbZ i hi).2.2.2.2.2.2
           obtain ⟨o, rfl⟩ : ∃ o : Nat, owner = (o : Int) := ⟨owner.toNat, by omega⟩
           have ho : o < 8 := by omega
           have ho8 : (o : Int) < 8 := by omega
           obtain ⟨X, hX⟩ : ∃ X, X = Gm.qjF st.dice := ⟨_, rfl⟩
           obtain ⟨Y, hY⟩ : ∃ X, X = Gm.qjE st.dice := ⟨_, rfl⟩
           obtain ⟨D, hD⟩ : ∃ X, X = Gm.qeH st.dice := ⟨_, rfl⟩
           have cP : ∀ W, Hid (Calls Tryz.prog 108 #[.int .u64 st.dice] W fun e w' => e = .returned (.tuple #[.int .i32 X, .int .i32 Y, .int .u64 D]) /\ W = w') := fun W => qh (by rw [hX, hY, hD]; exact qfG st.dice hdice W)
           obtain ⟨t, ht⟩ : ∃ t, t = st.ship kh := ⟨_, rfl⟩
           have e1 := Gm.qcg { g with dice := st.dice, ship := st.ship } (.slice (some ad) l.length c1)
           have q0 := (Gm.qae { g with dice := st.dice, ship := st.ship } (.slice (some ad) l.length c1) kh 0 hkh (by omega)).trans (by rw [ht]; rfl : _ = some (.bool t.on))
           have q1 := (Gm.qae { g with dice := st.dice, ship := st.ship } (.slice (some ad) l.length c1) kh 1 hkh (by omega)).trans (by rw [ht]; rfl : _ = some (.int .i32 t.x))
           have q2 := (Gm.qae { g with dice := st.dice, ship := st.ship } (.slice (some ad) l.length c1) kh 2 hkh (by omega)).trans (by rw [ht]; rfl : _ = some (.int .i32 t.y))
           have q3 := (Gm.qae { g with dice := st.dice, ship := st.ship } (.slice (some ad) l.length c1) kh 3 hkh (by omega)).trans (by rw [ht]; rfl : _ = some (.int .i32 t.vx))
           have q4 := (Gm.qae { g with dice := st.dice, ship := st.ship } (.slice (some ad) l.length c1) kh 4 hkh (by omega)).trans (by rw [ht]; rfl : _ = some (.int .i32 t.vy))
           have q5 := (Gm.qae { g with dice := st.dice, ship := st.ship } (.slice (some ad) l.length c1) kh 5 hkh (by omega)).trans (by rw [ht]; rfl : _ = some (.int .i64 t.cool))
           have q6 := (Gm.qae { g with dice := st.dice, ship := st.ship } (.slice (some ad) l.length c1) kh 6 hkh (by omega)).trans (by rw [ht]; rfl : _ = some (.int .i64 t.score))
           simp only [Nat.add_zero] at q0
           have HX := qh hX
           have HY := qh hY
           have HD := qh hD
           have HTT := qh ht
           have HOKS := qh hoks
           have BNL := qh (show Bn < wr.heap.size from HBB.out.lt)
           clear hX hY hD ht hoks hdice hhk
           go_upto_region 36 with (first | ((with_reducible refine qaF rfl rfl ?_); apply qaN.mk rfl; exact GB.out) | (go_at_call 108; ((with_reducible refine ((cP _).out).mono ?_); rintro e w6 ⟨rfl, rfl⟩)) | (go_at_call 113; ((with_reducible refine ((hcH _).out).mono ?_); rintro e w5 ⟨rfl, hb1⟩; have S1 := qh ((((Box.made wr 80 #[.int .i64 o, .int .i32 NX, .int .i32 NY, .int .i32 vx, .int .i32 vy, .int .i64 (left - 1)]).drew)).below hb1 (by simp)); have H1 := qh (((HR.out.alloc (.cells #[.int .i64 o, .int .i32 NX, .int .i32 NY, .int .i32 vx, .int .i32 vy, .int .i64 (left - 1)] 80)).drew).on hb1); have G1 := qh (GB.out.below hb1 GB.out.lt); have gc := G1.out.cell; have gf := G1.out.free; have gl := G1.out.lt; clear hb1)))
           have hF0 : ∃ FN, FN = Gm.upd st.ship kh ⟨true, X, Y, 0, 0, 0, t.score⟩ := ⟨_, rfl⟩
           obtain ⟨FN, hF⟩ := hF0
           have hgen : ∀ W : World, W = stored (w5.setCell ⟨Bn, 1, none⟩ (.int .u64 D)) Bn kh ⟨true, X, Y, 0, 0, 0, t.score⟩ -> Box W Bn 31 (Gm.cells { g with dice := D, ship := FN } (.slice (some ad) l.length c1)) /\ Box W wr.heap.size 80 #[.int .i64 o, .int .i32 NX, .int .i32 NY, .int .i32 vx, .int .i32 vy, .int .i64 (left - 1)] /\ (∀ b, b ≠ Bn -> W.heap[b]? = w5.heap[b]?) /\ Below Bn w5 W := fun W hW => by
            subst hW
            have nes : wr.heap.size ≠ Bn := by have := BNL.out; omega
            refine ⟨?_, qcQ (S1.out.far nes _) nes _, fun b hb => (qem _ b hb).trans (heap_setCell_other _ _ b _ hb), qda ((Below.refl Bn w5).setCell (p := ⟨Bn, 1, none⟩) (Nat.le_refl Bn) _) (Nat.le_refl Bn) _⟩
            rw [hF]
            exact qdH (g := { g with dice := D, ship := st.ship }) (qgh G1.out D) hkh _
           obtain ⟨W2, hW2⟩ : ∃ W2, W2 = stored (w5.setCell ⟨Bn, 1, none⟩ (.int .u64 D)) Bn kh ⟨true, X, Y, 0, 0, 0, t.score⟩ := ⟨_, rfl⟩
           have hh2 := hgen W2 hW2
           simp only [stored] at hW2
           rw [<- hW2]
           obtain ⟨g2, s2, hk2, hb2⟩ := hh2
           have hsF : ∀ i, i < 8 -> 0 <= (FN i).score /\ (FN i).score <= 1073741824 := fun i hi => by
            have h1 := HOKS.out i hi
            have h2 := HOKS.out kh hkh
            rw [hF]; unfold Gm.upd; split
            · dsimp only; rw [HTT.out]; exact h2.2
            · exact h1.2
           have sco := hsF o ho
           have r0 := Gm.qae { g with dice := D, ship := FN } (.slice (some ad) l.length c1) o 0 ho (by omega)
           have r6 := Gm.qae { g with dice := D, ship := FN } (.slice (some ad) l.length c1) o 6 ho (by omega)
           simp only [Gm.Ship.cells, List.getElem?_cons_zero, List.getElem?_cons_succ, Nat.add_zero] at r0 r6
           have FH := qh hF
           have hsco := qh (fun u => (show Box (W2.setCell ⟨Bn, 2 + o * 7 + 6, none⟩ (.int .i64 u)) Bn 31 (Gm.cells { g with dice := D, ship := Gm.upd FN o { FN o with score := u } } (.slice (some ad) l.length c1)) from by
            have h := g2.put (2 + o * 7 + 6) (.int .i64 u)
            have e := qjf { g with dice := D, ship := FN } (.slice (some ad) l.length c1) o (FN o) ho u
            dsimp only at e
            rw [Gm.qdZ] at e
            rw [e] at h
            exact h))
           have G2 := qh g2
           have K2 := qh hk2
           have B2 := qh hb2
           have gc := g2.cell
           have gf := g2.free
           have gl := g2.lt
           have s0 := s2.cell
           have E1 := qh (show ∀ FN', (FN' = Gm.more FN o) -> Gm.ph2 ⟨g.dice, F, []⟩ (l.take (j + 1)) = ⟨D, FN', st.left⟩ from fun FN' hF' => by
            rw [hsn.out, <- SS.out]; unfold Gm.qeg
            rw [HFLY.out, if_neg (by dsimp only; omega), if_neg (by rw [<- HH.out]; omega), <- HH.out, HD.out, hF', FH.out, HX.out, HY.out, HTT.out]
            rfl)
           have FF2 : Hid (Gm.more FN o = if (FN o).on = true then Gm.upd FN o { FN o with score := min ((FN o).score + 1) 1073741824 } else FN) := qh rfl
           clear hgen hW2 hF g2 s2 hk2 hb2 S1 G1 hsF q0 q1 q2 q3 q4 q5 q6 e1 cP hcH GB
           cases hon : (FN o).on
           · rw [hon] at r0
             have HON := qh hon
             clear hon
             go_wp2
             go_roundg (l.length - (j + 1))
             case measure => omega
             case rel =>
              refine ⟨j + 1, by omega, rfl, by go_num, ?_⟩
              rw [E1.out FN (by rw [FF2.out, if_neg (by rw [HON.out]; simp)])]
              exact (H1.out.hit (st' := ⟨D, FN, st.left⟩) rfl G2.out (fun b hb _ => K2.out b hb) (by omega) B2.out (by omega))
           · rw [hon] at r0
             have HON := qh hon
             clear hon
             generalize (FN o).score = so at *
             have hwrap : IntKind.i64.wrap (so + 1) = so + 1 := by rw [IntKind.wrap_i64]; omega
             go_upto_region 37 with fail
             by_cases hms : so + 1 <= 1073741824
             · have MM := qh (Int.min_eq_left hms)
               refine Ro.qcS (by kernel_rfl) (by kernel_rfl) ?_
               repeat (first | (apply Ro.qbg rfl rfl; focus (intro _; go_simp; first | done | rfl)) | (apply Ro.qd8 rfl rfl; focus (go_simp; first | done | rfl)) | (apply Ro.qbI rfl; focus (go_simp; first | done | rfl)))
               refine Ro.qcd ?_
               go_wp2
               go_roundg (l.length - (j + 1))
               case measure => omega
               case rel =>
                refine ⟨j + 1, by omega, rfl, by go_num, ?_⟩
                rw [E1.out (Gm.upd FN o { FN o with score := (so + 1) }) (by rw [FF2.out, if_pos HON.out, MM.out])]
                have hfin := H1.out.hit (st' := ⟨D, Gm.upd FN o { FN o with score := (so + 1) }, st.left⟩) rfl (hsco.out (so + 1)) (fun b hb _ => (heap_setCell_other _ _ b _ hb).trans (K2.out b hb)) (by omega) (B2.out.setCell (p := ⟨Bn, 2 + o * 7 + 6, none⟩) (Nat.le_refl Bn) _) (by omega)
                first | exact hfin.drew | exact hfin
             · have MM := qh (Int.min_eq_right (show (1073741824 : Int) <= so + 1 by omega))
               refine Ro.qcS (by kernel_rfl) (by kernel_rfl) ?_
               repeat (first | (apply Ro.qbg rfl rfl; focus (intro _; go_simp; first | done | rfl)) | (apply Ro.qd8 rfl rfl; focus (go_simp; first | done | rfl)) | (apply Ro.qbI rfl; focus (go_simp; first | done | rfl)))
               refine Ro.qcd ?_
               go_wp2
               go_roundg (l.length - (j + 1))
               case measure => omega
               case rel =>
                refine ⟨j + 1, by omega, rfl, by go_num, ?_⟩
                rw [E1.out (Gm.upd FN o { FN o with score := 1073741824 }) (by rw [FF2.out, if_pos HON.out, MM.out])]
                have hfin := H1.out.hit (st' := ⟨D, Gm.upd FN o { FN o with score := 1073741824 }, st.left⟩) rfl (hsco.out 1073741824) (fun b hb _ => (heap_setCell_other _ _ b _ hb).trans (K2.out b hb)) (by omega) (B2.out.setCell (p := ⟨Bn, 2 + o * 7 + 6, none⟩) (Nat.le_refl Bn) _) (by omega)
                first | exact hfin.drew | exact hfin
     · have hjl : ¬ (j : Int) < (l.length : Int) := by omega
       have hje : j = l.length := by omega
       obtain ⟨st, hst⟩ : ∃ st, st = Gm.ph2 ⟨g.dice, F, []⟩ (l.take j) := ⟨_, rfl⟩
       rw [<- hst] at hB hO hcr c58 HR
       have e0 := Gm.qa1 { g with dice := st.dice, ship := st.ship } (.slice A1 l.length c1)
       have hstep : Gm.step ps g = ⟨g.frame + 1, st.dice, st.ship, st.left⟩ := by
        rw [hst, hje, List.take_length, FF.out, LL.out]; rfl
       have g1 := qh (qkf (qch hB (.slice A2 st.left.length c2)) (g.frame + 1))
       have g2 := qh ((hR1.far (p := ⟨Bn, 58, none⟩) (show w.heap.size + 1 + 1 ≠ Bn by omega) (.slice A2 st.left.length c2)).far (p := ⟨Bn, 0, none⟩) (show w.heap.size + 1 + 1 ≠ Bn by omega) (.int .i64 (g.frame + 1)))
       have ne : (Value.slice A2 st.left.length c2).ownBlock ≠ some Bn := hB.qaM hO (by decide)
       have ne2 : (Value.slice A2 st.left.length c2).ownBlock ≠ some (w.heap.size + 1 + 1) := hR1.qaM hO (by decide)
       have NE := qh ne
       have NE2 := qh ne2
       have HOO := qh hO
       have HBW := qh hb
       have HST := qh hstep
       rw [<- hst]
       clear hstep hst hB hO hR1 hb ne ne2 hL hje
       go_wp2_with (first | ((with_reducible refine qaF rfl rfl ?_); apply qaN.mk rfl; exact g1.out) | ((with_reducible refine qbq rfl rfl ?_); apply qbm.mk rfl rfl rfl; exact g2.out))
       refine bodyPost_ret (v := .tuple #[.agg (Gm.cells { g with frame := g.frame + 1, dice := st.dice, ship := st.ship } (.slice A2 st.left.length c2)), .int .i64 0]) ?_ ?_ ?_
       · exact results_cell_tmp (p := 4) (q := 5) rfl _ _ _ _ (Gm.cells { g with frame := g.frame + 1, dice := st.dice, ship := st.ship } (.slice A2 st.left.length c2)) _ rfl (Box.row g2.out _) Tryz.underlying31 rfl qbh
       · rfl
       · rw [HST.out]
         refine ⟨A2, c2, rfl, ?_, ?_, ?_⟩
         · exact Lies.owned (qbi (ownsRow_setCell_other (a := ⟨Bn, 0, none⟩) (ownsRow_setCell_other (a := ⟨Bn, 58, none⟩) HOO.out NE.out _) NE.out _) NE2.out _)
         · exact Typed.owned (qbi (ownsRow_setCell_other (a := ⟨Bn, 0, none⟩) (ownsRow_setCell_other (a := ⟨Bn, 58, none⟩) HOO.out NE.out _) NE.out _) NE2.out _)
         · exact Below.setRow' ((HBW.out.setCell (by show w.heap.size <= Bn; omega) _).setCell (by show w.heap.size <= Bn; omega) _) (by omega) _
def qp1 (r : Ros.R) (p v : Int) : Prop := (v = -1 /\ (Ros.Ok r -> 0 <= p -> ∀ k, k < 8 -> r.peer k ≠ p)) \/ ∃ k : Nat, k < 8 /\ v = k /\ Ros.Ok r /\ 0 <= p /\ r.peer k = p
theorem qkM (r : Ros.R) (p : Int) (w : World) :
 Calls Tryz.prog 51 #[.agg (Ros.cells r), .int .i64 p] w fun e w' => (∃ v, e = .returned (.int .i64 v) /\ qp1 r p v) /\ Below w.heap.size w w' := by
 have P0 := qh (Box.made w 36 (Ros.cells r))
 have K0 := qh (qac w (.cells (Ros.cells r) 36))
 have cm := fun X => qh (qd6 r X)
 by_cases hp : p < 0
 · have hp' : ¬ 0 <= p := by omega
   have HP := qh hp'
   clear hp
   go_enter Tryz.func51, Tryz.ntmps51
   go_wp2
   go_loopw [5] (fun i wr => i = .int .i64 0 /\ Below w.heap.size w wr) (fun i _ => 0)
   case atStart => exact ⟨rfl, K0.out⟩
   case round =>
    obtain ⟨rfl, hb⟩ := hrel
    clear P0 K0
    go_wp2
    go_ret
    exact ⟨⟨-1, rfl, .inl ⟨rfl, fun _ h => absurd h (by have := HP.out; omega)⟩⟩, hb⟩
 · have hp' : 0 <= p := by omega
   have HP := qh hp'
   clear hp
   by_cases hok : Ros.Ok r
   · have HOK := qh hok
     clear hok
     go_enter Tryz.func51, Tryz.ntmps51
     go_wp2
     go_loopw [5] (fun i wr => ∃ k : Nat, k <= 8 /\ i = .int .i64 k /\ Box wr w.heap.size 36 (Ros.cells r) /\ Below w.heap.size w wr /\ ∀ j, j < k -> r.peer j ≠ p) (fun i _ => 8 - (intOf i).toNat)
     case atStart => exact ⟨0, by omega, rfl, P0.out, K0.out, fun j hj => absurd hj (Nat.not_lt_zero j)⟩
     case round =>
      obtain ⟨k, hk, rfl, hB, hb, hall⟩ := hrel
      clear P0 K0
      have HB := qh hB
      have HBB := qh hb
      have HALL := qh hall
      clear hB hb hall
      by_cases hlt : k < 8
      · have hk8 : (k : Int) < 8 := by omega
        have hcell : ∀ X, Below wr.heap.size wr X -> X.cell? ⟨w.heap.size, 1 + k * 2, none⟩ = some (.int .i64 (r.peer k)) := fun X h => ((HB.out.below h HB.out.lt).cell _).trans (Ros.qaQ r k hlt)
        obtain ⟨pk, hpk⟩ : ∃ pk, pk = r.peer k := ⟨_, rfl⟩
        rw [<- hpk] at hcell
        by_cases he : pk = p
        · have HE := qh (show r.peer k = p from hpk ▸ he)
          clear hpk
          subst he
          go_wp2_with (first | ((with_reducible refine qb6 ?_ rfl ?_); (focus first | rfl | kernel_rfl | simp [Region.wanted, yielded]); apply qas.mk rfl; (focus (with_reducible exact HB.out)); (focus (exact qah))) | (go_at_call 67; ((with_reducible refine ((cm _).out).mono ?_); rintro e w1 ⟨⟨v, rfl, hv⟩, hb⟩; obtain rfl : v = true := hv.2 HOK.out; have k1 := hcell _ hb; have K1 := qh (HBB.out.trans (hb.mono HBB.out.size)); clear hb hv)))
          go_ret
          exact ⟨⟨k, rfl, .inr ⟨k, hlt, rfl, HOK.out, HP.out, HE.out⟩⟩, K1.out⟩
        · have hne : (pk == p) = false := by simpa using he
          have HE := qh (show ∀ j, j < k + 1 -> r.peer j ≠ p from fun j hj => by
           by_cases ej : j = k
           · rw [ej, <- hpk]; exact he
           · exact HALL.out j (by omega))
          clear hpk he
          go_wp2_with (first | ((with_reducible refine qb6 ?_ rfl ?_); (focus first | rfl | kernel_rfl | simp [Region.wanted, yielded]); apply qas.mk rfl; (focus (with_reducible exact HB.out)); (focus (exact qah))) | (go_at_call 67; ((with_reducible refine ((cm _).out).mono ?_); rintro e w1 ⟨⟨v, rfl, hv⟩, hb⟩; obtain rfl : v = true := hv.2 HOK.out; have k1 := hcell _ hb; have B1 := qh (HB.out.below hb HB.out.lt); have K1 := qh (HBB.out.trans (hb.mono HBB.out.size)); clear hb hv)))
          go_roundw
          case rel => exact ⟨k + 1, by omega, by go_num, B1.out, K1.out, HE.out⟩
          case measure => simp [intOf]; omega
      · have hk8 : ¬ (k : Int) < 8 := by omega
        obtain rfl : k = 8 := by omega
        go_wp2
        go_ret
        exact ⟨⟨-1, rfl, .inl ⟨rfl, fun _ _ => HALL.out⟩⟩, HBB.out⟩
   · have HOK := qh hok
     clear hok
     go_enter Tryz.func51, Tryz.ntmps51
     go_wp2
     go_loopw [5] (fun i wr => i = .int .i64 0 /\ Box wr w.heap.size 36 (Ros.cells r) /\ Below w.heap.size w wr) (fun i _ => 0)
     case atStart => exact ⟨rfl, P0.out, K0.out⟩
     case round =>
      obtain ⟨rfl, hB, hb⟩ := hrel
      have HB := qh hB
      have HBB := qh hb
      clear P0 K0 hB hb
      go_wp2_with (first | ((with_reducible refine qb6 ?_ rfl ?_); (focus first | rfl | kernel_rfl | simp [Region.wanted, yielded]); apply qas.mk rfl; (focus (with_reducible exact HB.out)); (focus (exact qah))) | (go_at_call 67; ((with_reducible refine ((cm _).out).mono ?_); rintro e w1 ⟨⟨v, rfl, hv⟩, hb⟩; obtain rfl : v = false := (by cases v <;> first | rfl | exact absurd (hv.1 rfl) HOK.out); have K1 := qh (HBB.out.trans (hb.mono HBB.out.size)); clear hb hv)))
      go_ret
      exact ⟨⟨-1, rfl, .inl ⟨rfl, fun h => absurd h HOK.out⟩⟩, K1.out⟩
theorem qp9 {r : Ros.R} {p v : Int} (hr : Ros.Ok r) (h0 : 0 <= p) (h1 : p < 12) (h : qp1 r p v) : v = Ros.of r p := by
 rcases Ros.qgb hr h0 h1 with ⟨e, hn⟩ | ⟨k, hk, e, hp⟩
 · rcases h with ⟨e', _⟩ | ⟨k, hk, _, _, _, hp⟩
   · rw [e, e']
   · exact absurd hp (hn k hk)
 · rcases h with ⟨_, hn⟩ | ⟨j, hj, e', _, _, hp'⟩
   · exact absurd hp (hn hr h0 k hk)
   · rw [e, e']
     have := hr.one hj hk (hp'.trans hp.symm) (by omega)
     rw [this]
theorem qme : (Tryz.prog.info? 33).map (·.size) = some 2 := by kernel_rfl
theorem qkz (r : Ros.R) (k : Nat) (hk : k < 8) (p g : Int) : splice (Ros.cells r) (1 + k * 2) [.int .i64 p, .int .i64 g] = Ros.cells ⟨r.version, Ros.upd r.peer k p, Ros.upd r.gen k g⟩ := by
 match k, hk with
 | 0, _ | 1, _ | 2, _ | 3, _ | 4, _ | 5, _ | 6, _ | 7, _ => rfl
section
variable {ops : Array Oper} {rest : List Oper} {o : Oper} {a : Act} {w : World} {Q : Exit -> Act -> World -> Prop} {x y : Operand} {dst : Option Tmp} {p v : Value}
def qe8 (ops : Array Oper) (Q : Exit -> Act -> World -> Prop) (rest : List Oper) (dst : Option Tmp) (p v : Value) (a : Act) (w : World) : Prop :=
 ∃ (B k : Nat) (r : Ros.R) (q g : Int), p = .pointer (some ⟨B, 1 + k * 2, none⟩) /\ v = .agg #[.int .i64 q, .int .i64 g] /\ k < 8 /\ Box w B 36 (Ros.cells r) /\ wpList Tryz.prog ops Q rest (a.put dst undef) (w.setRow B (Ros.cells ⟨r.version, Ros.upd r.peer k q, Ros.upd r.gen k g⟩))
theorem qe8.mk {B k : Nat} {r : Ros.R} {q g : Int} (hp : p = .pointer (some ⟨B, 1 + k * 2, none⟩)) (hv : v = .agg #[.int .i64 q, .int .i64 g]) (hk : k < 8) (hB : Box w B 36 (Ros.cells r)) (h : wpList Tryz.prog ops Q rest (a.put dst undef) (w.setRow B (Ros.cells ⟨r.version, Ros.upd r.peer k q, Ros.upd r.gen k g⟩))) : qe8 ops Q rest dst p v a w := ⟨B, k, r, q, g, hp, hv, hk, hB, h⟩
theorem qht (hgd : o.guard = none) (ho : o.op = .store 33 x y) (h : qe8 ops Q rest o.dst (a.eval x) (a.eval y) a w) : wpList Tryz.prog ops Q (o :: rest) a w := by
 obtain ⟨B, k, r, q, g, hx, hy, hk, hB, h⟩ := h
 refine wpList_store_mid hgd 33 x y ho B (1 + k * 2) #[.int .i64 q, .int .i64 g] hx hy (hB.there _ _ (by rw [Ros.qaf]; show 1 + k * 2 + 2 <= 17; omega)) qme (by simp [Value.oneCell']) ?_
 rw [qbP B 36 _ (1 + k * 2) (Ros.cells r) w hB.is (by rw [Ros.qaf]; show 1 + k * 2 + 2 <= 17; omega), qkz r k hk q g]
 exact h
end
theorem qkR (r : Ros.R) (k : Nat) (w : World) (hy : Ros.qck r k) :
 Calls Tryz.prog 95 #[.agg (Ros.cells r), .int .i64 (k : Int)] w fun e w' => e = .returned (.tuple #[.agg (Ros.cells (Ros.give r k)), .int .i64 0]) /\ Below w.heap.size w w' := by
 have P0 := qh ((Box.made w 36 (Ros.cells r)).alloc (.cells (Ros.cells qau) 36))
 have Z0 := qh (Box.qaq (n := w.heap.size + 1) (w.alloc (.cells (Ros.cells r) 36)) 36 (Ros.cells qau) (by simp))
 have K0 := qh (qap w (.cells (Ros.cells r) 36) (.cells (Ros.cells qau) 36))
 have cm := fun X => qh (qd6 r X)
 have r0 := Ros.qa1 r
 obtain ⟨⟨⟨hok, hv⟩, h0, h8⟩, hp⟩ := hy
 have HOK := qh hok
 have hk8 : k < 8 := by omega
 have hp' : ¬ r.peer k < 0 := by have := hok.seat k hk8; rcases this.2 with h | h; exact absurd h (by simpa using hp); omega
 have h0' : ¬ (k : Int) < 0 := by omega
 have hv' : ¬ 1073741824 <= r.version := by omega
 have hwv := IntWalk.i64_in (n := r.version + 1) (by have := hok.1; omega)
 have HK := qh hk8
 have q1 := Ros.qaQ r k hk8
 obtain ⟨pk, hpk⟩ : ∃ pk, pk = r.peer k := ⟨_, rfl⟩
 rw [<- hpk] at q1 hp'
 clear hok hp hpk hv
 go_enter Tryz.func95, Tryz.ntmps95
 go_upto_region 3 with (first | (with_reducible refine qaU rfl rfl ?_) | ((with_reducible refine qav rfl rfl ?_); apply qas.mk rfl; (focus first | (with_reducible exact P0.out) | (with_reducible exact P2.out) | (with_reducible exact P1.out) | (with_reducible exact P4.out)); (focus (exact qah))) | (go_at_call 67; ((with_reducible refine ((cm _).out).mono ?_); rintro e w1 ⟨⟨v, rfl, hv⟩, hb⟩; obtain rfl : v = true := hv.2 HOK.out; have P1 := qh (P0.out.below hb P0.out.lt); have Z1 := qh (Z0.out.below hb Z0.out.lt); have K1 := qh (K0.out.trans (hb.mono K0.out.size)); have k1 := P1.out.cell; have f1 := P1.out.free; clear hb hv)))
 have hg : Hid ((⟨r.version, Ros.upd r.peer k (-1), r.gen⟩ : Ros.R) = ⟨r.version, Ros.upd r.peer k (-1), r.gen⟩) := qh rfl
 have Q2 := P1.out.rosp HK.out (-1)
 have c2 := Q2.cell 0
 have d2 := Q2.free 0
 rw [Ros.qa1] at c2
 dsimp only at c2
 have P4 := qh (show Box ((w1.setCell ⟨w.heap.size, 1 + k * 2, none⟩ (.int .i64 (-1))).setCell ⟨w.heap.size, 0, none⟩ (.int .i64 (r.version + 1))) w.heap.size 36 (Ros.cells (Ros.give r k)) from Q2.rosv (r.version + 1))
 have Z4 := qh ((Z1.out.far (p := ⟨w.heap.size, 1 + k * 2, none⟩) (show w.heap.size + 1 ≠ w.heap.size by omega) (.int .i64 (-1))).far (p := ⟨w.heap.size, 0, none⟩) (show w.heap.size + 1 ≠ w.heap.size by omega) (.int .i64 (r.version + 1)))
 have K4 := qh ((K1.out.setCell (p := ⟨w.heap.size, 1 + k * 2, none⟩) (Nat.le_refl _) (.int .i64 (-1))).setCell (p := ⟨w.heap.size, 0, none⟩) (Nat.le_refl _) (.int .i64 (r.version + 1)))
 clear Q2 hg
 go_wp2_with (first | ((with_reducible refine qav rfl rfl ?_); apply qas.mk rfl; (focus first | (with_reducible exact P0.out) | (with_reducible exact P2.out) | (with_reducible exact P1.out) | (with_reducible exact P4.out)); (focus (exact qah))) | ((with_reducible refine qa5 rfl rfl ?_); apply qa6.mk rfl rfl; (focus first | (with_reducible exact Z4.out) | (with_reducible exact Z2.out) | (with_reducible exact Z1.out)); (focus (exact qah)); (focus rfl); (focus (exact qbr _))))
 refine bodyPost_ret (v := .tuple #[.agg (Ros.cells (Ros.give r k)), .int .i64 0]) ?_ ?_ ?_
 · exact results_cell_tmp (p := 4) (q := 5) rfl _ _ _ _ (Ros.cells (Ros.give r k)) _ rfl (Box.row Z4.out _) Tryz.underlying36 rfl qah
 · rfl
 · exact ⟨rfl, Below.setRow' K4.out (by omega) _⟩
theorem qkK (r : Ros.R) (k : Nat) (p : Int) (w : World) (hy : Ros.qbS r k p) :
 Calls Tryz.prog 94 #[.agg (Ros.cells r), .int .i64 (k : Int), .int .i64 p] w fun e w' => e = .returned (.tuple #[.agg (Ros.cells (Ros.take r k p)), .int .i64 0]) /\ Below w.heap.size w w' := by
 have P0 := qh ((Box.made w 36 (Ros.cells r)).alloc (.cells (Ros.cells qau) 36))
 have Z0 := qh (Box.qaq (n := w.heap.size + 1) (w.alloc (.cells (Ros.cells r) 36)) 36 (Ros.cells qau) (by simp))
 have K0 := qh (qap w (.cells (Ros.cells r) 36) (.cells (Ros.cells qau) 36))
 have cm := fun X => qh (qd6 r X)
 have r0 := Ros.qa1 r
 have cl := fun X => qh (qkM r p X)
 obtain ⟨⟨⟨⟨hok, hv⟩, h0, h8⟩, hpp, hof⟩, hpk0, hgk0⟩ := hy
 have HOK := qh hok
 have hk8 : k < 8 := by omega
 have hk8' : (k : Int) < 8 := by omega
 have h1' : ¬ (k : Int) < 0 := by omega
 have hs := hok.seat k hk8
 have hs1 := hs.1
 have h3 : ¬ 0 <= r.peer k := by have : r.peer k = -1 := hpk0; omega
 have hg3 : ¬ 60000 <= r.gen k := by have : r.gen k ≠ 60000 := hgk0; omega
 have hv3 : ¬ 1073741824 <= r.version := by omega
 have h4 : ¬ p < 0 := by omega
 have h5 : ¬ 12 <= p := by omega
 have h2 : ¬ 8 <= (k : Int) := by omega
 have HPP := qh hpp
 have H6 := qh hof
 have hwv := IntWalk.i64_in (n := r.version + 1) (by have := hok.1; omega)
 have hwg := IntWalk.i64_in (n := r.gen k + 1) (by omega)
 have HK := qh hk8
 have q1 := Ros.qaQ r k hk8
 have q2 := Ros.qbs r k hk8
 have HT := qh (show Ros.cells ⟨r.version + 1, Ros.upd r.peer k p, Ros.upd r.gen k (r.gen k + 1)⟩ = Ros.cells (Ros.take r k p) from rfl)
 obtain ⟨pk, hpk⟩ : ∃ pk, pk = r.peer k := ⟨_, rfl⟩
 obtain ⟨gk, hgk⟩ : ∃ gk, gk = r.gen k := ⟨_, rfl⟩
 rw [<- hpk] at q1 h3
 rw [<- hgk] at q2 hg3 hwg HT
 clear hok hpk hgk hv hs hs1 hpk0 hgk0 hof hpp
 go_enter Tryz.func94, Tryz.ntmps94
 go_upto_region 3 with (first | (with_reducible refine qaU rfl rfl ?_) | ((with_reducible refine qb6 ?_ rfl ?_); (focus first | (simp [Region.wanted, yielded, h1', h2, h3, h4, h5]; done) | (simp [Region.wanted, yielded]; done)); apply qas.mk rfl; (focus (with_reducible exact P1.out)); (focus (exact qah))) | ((with_reducible refine qav rfl rfl ?_); apply qas.mk rfl; (focus first | (with_reducible exact P0.out) | (with_reducible exact P2.out) | (with_reducible exact P1.out) | (with_reducible exact P4.out)); (focus (exact qah))) | (go_at_call 67; ((with_reducible refine ((cm _).out).mono ?_); rintro e w1 ⟨⟨v, rfl, hv⟩, hb⟩; obtain rfl : v = true := hv.2 HOK.out; have P1 := qh (P0.out.below hb P0.out.lt); have Z1 := qh (Z0.out.below hb Z0.out.lt); have K1 := qh (K0.out.trans (hb.mono K0.out.size)); have k1 := P1.out.cell; have f1 := P1.out.free; clear hb hv)) | (go_at_call 51; ((with_reducible refine ((cl _).out).mono ?_); rintro e w2 ⟨⟨v, rfl, hv⟩, hb⟩; have hv' := qp9 HOK.out HPP.out.1 HPP.out.2 hv; obtain rfl : v = -1 := hv'.trans H6.out; have P2 := qh (P1.out.below hb P1.out.lt); have Z2 := qh (Z1.out.below hb Z1.out.lt); have K2 := qh (K1.out.trans (hb.mono K1.out.size)); have k2 := P2.out.cell; have f2 := P2.out.free; clear hb hv hv')))
 have P3 := qh (P2.out.row (Ros.cells ⟨r.version, Ros.upd r.peer k p, Ros.upd r.gen k (gk + 1)⟩))
 have Z3 := qh (Z2.out.qbn (show w.heap.size + 1 ≠ w.heap.size by omega) (Ros.cells ⟨r.version, Ros.upd r.peer k p, Ros.upd r.gen k (gk + 1)⟩))
 have K3 := qh (Below.setRow' K2.out (Nat.le_refl _) (Ros.cells ⟨r.version, Ros.upd r.peer k p, Ros.upd r.gen k (gk + 1)⟩))
 go_upto_region 4 with ((with_reducible refine qht rfl rfl ?_); apply qe8.mk (q := p) (g := gk + 1) rfl rfl HK.out; (focus (with_reducible exact P2.out)); dsimp only)
 generalize hW3 : w2.setRow w.heap.size (Ros.cells ⟨r.version, Ros.upd r.peer k p, Ros.upd r.gen k (gk + 1)⟩) = W3 at P3 Z3 K3 ⊢
 clear hW3 P2 Z2 K2 k2 f2 P1 Z1 K1 k1 f1 P0 Z0 K0
 have c3 := P3.out.cell 0
 have d3 := P3.out.free 0
 rw [Ros.qa1] at c3
 dsimp only at c3
 have P4 := qh (show Box (W3.setCell ⟨w.heap.size, 0, none⟩ (.int .i64 (r.version + 1))) w.heap.size 36 (Ros.cells (Ros.take r k p)) from HT.out ▸ P3.out.rosv (r.version + 1))
 have Z4 := qh (Z3.out.far (p := ⟨w.heap.size, 0, none⟩) (show w.heap.size + 1 ≠ w.heap.size by omega) (.int .i64 (r.version + 1)))
 have K4 := qh (K3.out.setCell (p := ⟨w.heap.size, 0, none⟩) (Nat.le_refl _) (.int .i64 (r.version + 1)))
 clear P3 Z3 K3
 go_wp2_with (first | ((with_reducible refine qav rfl rfl ?_); apply qas.mk rfl; (focus first | (with_reducible exact P0.out) | (with_reducible exact P2.out) | (with_reducible exact P1.out) | (with_reducible exact P4.out)); (focus (exact qah))) | ((with_reducible refine qa5 rfl rfl ?_); apply qa6.mk rfl rfl; (focus first | (with_reducible exact Z4.out) | (with_reducible exact Z2.out) | (with_reducible exact Z1.out)); (focus (exact qah)); (focus rfl); (focus (exact qbr _))))
 refine bodyPost_ret (v := .tuple #[.agg (Ros.cells (Ros.take r k p)), .int .i64 0]) ?_ ?_ ?_
 · exact results_cell_tmp (p := 6) (q := 7) rfl _ _ _ _ (Ros.cells (Ros.take r k p)) _ rfl (Box.row Z4.out _) Tryz.underlying36 rfl qah
 · rfl
 · exact ⟨rfl, Below.setRow' K4.out (by omega) _⟩
end Go.Proofs.YtmiopphcfdlneaaGreat