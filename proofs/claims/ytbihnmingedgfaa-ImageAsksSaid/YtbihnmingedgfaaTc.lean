/-
The program's roster: which may be.
-/
import Derived.Test.YtbihnmingedgfaaTb
import Derived.Test.YtbihnmingedgfaaRt
namespace Go.Proofs.Ytbihnmingedgfaa
open Go.RowKit Go.Shelf
set_option linter.unusedVariables false
attribute [local go_sem] Oper.semAt_some

/-- What May knows on its way. -/
structure Maying (B Br Bh Bg : Nat) (w0 : World) (r : Ros.R) (pre : List Ros.Sl) (W : World) : Prop where
  ros : Box W B 51 (Ros.cells r)
  res : Box W Br 4 #[.bool false]
  has : Box W Bh 173 (Ros.hasCells (Ros.hasF r pre))
  sit : Box W Bg 177 #[.pointer (some ⟨B, 0, none⟩)]
  below : Below w0.heap.size w0 W
  good : Ros.Good r pre
theorem Below.turned {b : Nat} {w0 W W' : World} {row : Option Nat} (h : Below b w0 W) (hb : b ≤ w0.heap.size) (hg : W.grownBy W' row) (hr : ∀ r, row = some r → b ≤ r) : Below b w0 W' :=
  h.grown hg (Nat.le_trans hb h.size) fun k e => hr k e
theorem Maying.turned {B Br Bh Bg : Nat} {w0 : World} {r : Ros.R} {pre : List Ros.Sl} {W W' : World} {row : Option Nat} (h : Maying B Br Bh Bg w0 r pre W) (hg : W.grownBy W' row) (hr : ∀ r, row = some r → w0.heap.size ≤ r ∧ ∃ o : Obj, W.heap[r]? = some o ∧ o.isCells = false) : Maying B Br Bh Bg w0 r pre W' :=
  ⟨h.ros.turned hg fun r e => (hr r e).2, h.res.turned hg fun r e => (hr r e).2, h.has.turned hg fun r e => (hr r e).2, h.sit.turned hg fun r e => (hr r e).2, Below.turned h.below (Nat.le_refl _) hg fun r e => (hr r e).1, h.good⟩

theorem Maying.call {B Br Bh Bg : Nat} {w0 : World} {r : Ros.R} {pre : List Ros.Sl} {W W' : World} (h : Maying B Br Bh Bg w0 r pre W) (hb : Below W.heap.size W W') : Maying B Br Bh Bg w0 r pre W' :=
  ⟨h.ros.below hb h.ros.lt, h.res.below hb h.res.lt, h.has.below hb h.has.lt, h.sit.below hb h.sit.lt, h.below.trans (hb.mono h.below.size), h.good⟩

set_option maxRecDepth 100000 in
set_option maxHeartbeats 4000000 in
theorem rosmay_any (r : Ros.R) (w : World) :
    Calls Try.prog 123 #[.agg (Ros.cells r)] w fun e w' => e = .returned (.bool (Ros.may r)) ∧ Below w.heap.size w w' := by
  have B0 := Box.made w 51 (Ros.cells r)
  have hc : ∀ o j, ((w.alloc (.cells (Ros.cells r) 51)).alloc o).cell? ⟨w.heap.size, j, none⟩ = (Ros.cells r)[j]? := fun o j => (B0.alloc o).cell j
  have h0 := Ros.cells_0 r
  by_cases hv1 : r.version < 0
  · skip
    have hno : Ros.may r = false := decide_eq_false fun h => by have := h.1; omega
    have d1 : decide (r.version < 0) = true := decide_eq_true hv1
    rw [hno]
    have hres := (Box.made_at (n := w.heap.size + 1) (w.alloc (.cells (Ros.cells r) 51)) 4 #[.bool false] (by simp)).put 0 (.bool false)
    have hcr := hres.cell 0
    clear B0 hno hres
    go_enter Try.func123, Try.ntmps123
    go_wp2
    refine bodyPost_ret (v := .bool false) (by simp [results, Try.f123, go_sem] <;> exact hcr) rfl ?_
    exact ⟨rfl, two_below' w _ _⟩
  by_cases hv2 : 1073741824 < r.version
  · skip
    have hno : Ros.may r = false := decide_eq_false fun h => by have := h.1; omega
    have d1 : decide (r.version < 0) = false := decide_eq_false hv1
    have d2 : decide (1073741824 < r.version) = true := decide_eq_true hv2
    rw [hno]
    have hres := (Box.made_at (n := w.heap.size + 1) (w.alloc (.cells (Ros.cells r) 51)) 4 #[.bool false] (by simp)).put 0 (.bool false)
    have hcr := hres.cell 0
    clear B0 hno hres
    go_enter Try.func123, Try.ntmps123
    go_wp2
    refine bodyPost_ret (v := .bool false) (by simp [results, Try.f123, go_sem] <;> exact hcr) rfl ?_
    exact ⟨rfl, two_below' w _ _⟩
  have hver : 0 ≤ r.version ∧ r.version ≤ 1073741824 := by omega
  have d1 : decide (r.version < 0) = false := decide_eq_false hv1
  have d2 : decide (1073741824 < r.version) = false := decide_eq_false hv2
  have HV := Lib.hid hver
  have BB := Lib.hid B0
  clear hv1 hv2 hver
  refine (callsIn_wide (n := 10)).1 (callsIn_of_wp_marks Try.func123 rfl trivial (wpIn_wide.2 ?_) rfl)
  simp only [Try.ntmps123, List.size_toArray, List.length_cons, List.length_nil, Nat.reduceAdd, Nat.reduceSub, Array.replicate_succ, Array.replicate_zero, List.push_toArray, List.append_toArray, List.nil_append, List.cons_append]
  go_upto_block 0 with (go_at_call 151; ((with_reducible refine (seats_any _ _).mono ?_); rintro e w3 ⟨rfl, rfl⟩))
  have M0 : Maying w.heap.size (w.heap.size + 1) (w.heap.size + 1 + 1) (w.heap.size + 1 + 1 + 1) w r [] ((((w.alloc (.cells (Ros.cells r) 51)).alloc (.cells #[.bool false] 4)).alloc (.cells (Ros.hasCells fun _ => false) 173)).alloc (.cells #[.pointer (some ⟨w.heap.size, 0, none⟩)] 177)) :=
    ⟨((BB.out.alloc _).alloc _).alloc _, ((Box.made_at _ _ _ (by simp)).alloc _).alloc _, (Box.made_at _ _ _ (by simp)).alloc _, Box.made_at _ _ _ (by simp), ((((Below.refl _ _).alloc (Nat.le_refl _) _).alloc (by simp) _).alloc (by simp <;> omega) _).alloc (by simp <;> omega) _, Ros.good_nil r⟩
  simp only [Ros.hasCells] at M0
  generalize hW0 : ((((w.alloc (.cells (Ros.cells r) 51)).alloc (.cells #[.bool false] 4)).alloc _).alloc _) = W0 at M0 ⊢
  have MM0 := Lib.hid M0
  have hs0 : Sitting w.heap.size (w.heap.size + 1 + 1 + 1) W0 := M0.sit.cell 0
  clear hW0 M0 BB B0 hc h0 d1 d2
  refine (wpIn_wide (n := 10)).1 ?_
  refine wpIn_block ?_
  refine' wpIn_rangeFunc_ownF (n := 10) (w := W0) rfl (by omega) (gf := 159) (lb := #[.pointer (some ⟨w.heap.size + 1 + 1 + 1, 0, none⟩)]) rfl trivial (enters_of Try.func159 (by kernel_rfl) rfl)
    (seats1_stops w.heap.size (w.heap.size + 1 + 1 + 1) _ W0 hs0) sitkp_t (sitkp_b (n := W0.heap.size)) (Below.refl _ _) (fun _ => rfl)
    (fun pre W => Maying w.heap.size (w.heap.size + 1) (w.heap.size + 1 + 1) (w.heap.size + 1 + 1 + 1) w r pre W)
    (fun c pre W => c = .ret ∧ ¬ Ros.Good r pre ∧ Box W (w.heap.size + 1) 4 #[.bool false] ∧ Below w.heap.size w W)
    (fun pre W W' row h hgr hr => h.turned hgr (fun r e => ⟨Nat.le_trans MM0.out.below.size (hr r e).1, (hr r e).2⟩))
    (fun c pre W W' row h hgr hr => ⟨h.1, h.2.1, h.2.2.1.turned hgr (fun r e => (hr r e).2), Below.turned h.2.2.2 (Nat.le_refl _) hgr (fun r e => Nat.le_trans MM0.out.below.size (hr r e).1)⟩)
    MM0.out _ ?assign ?body ?done ?stop
  case assign =>
    intro l x W K hK
    gi_wp2
    exact hK
  case body =>
    rintro l pre ⟨k, hk⟩ W hM hlen
    have hk8 : (k : Int) < 8 := by omega
    have rc := hM.ros.cell
    have hl := hM.ros.lt
    have rp := Ros.cells_peer r k hk
    have rg := Ros.cells_gen r k hk
    have cs := fun X => Lib.hid (mayseat_any (r.peer k) (r.gen k) X)
    have HM := Lib.hid hM
    clear hM hlen
    by_cases hok : Ros.OkSeat r k
    · have hok' : (0 ≤ r.gen k ∧ r.gen k ≤ 60000) ∧ (r.peer k = -1 ∨ ((0 ≤ r.peer k ∧ r.peer k < 12) ∧ 0 < r.gen k)) := hok
      rw [decide_eq_true hok'] at cs
      have HOK := Lib.hid hok
      by_cases hp : r.peer k = -1
      · have HG : Hid (Ros.Good r (pre ++ [⟨k, hk⟩])) := Lib.hid (Ros.good_snoc.2 ⟨HM.out.good, hok, fun y hy => by rw [show r.peer (⟨k, hk⟩ : Ros.Sl).1 = -1 from hp]; omega⟩)
        have HF : Hid (Ros.hasF r (pre ++ [⟨k, hk⟩]) = Ros.hasF r pre) := Lib.hid (funext fun q => Ros.hasF_no (x := ⟨k, hk⟩) hp q)
        rw [hp] at rp cs
        generalize r.gen k = g at rg cs
        clear hok hok' hp
        gi_wp2_with (first | (gi_at_call 152; ((with_reducible refine (CallsIn.inRound l (callsIn_wide.2 (cs _).out)).mono ?_); rintro e v1 ⟨rfl, hb1⟩; have M1 := HM.out.call hb1; have s1 := M1.ros.cell; have s2 := M1.res.cell; have t2 := M1.res.free; have s3 := M1.has.cell; have t3 := M1.has.free; have l1 := M1.ros.lt; clear M1)) | (refine ⟨trivial, ?_⟩; gi_at_call 152; ((with_reducible refine (CallsIn.inRound l (callsIn_wide.2 (cs _).out)).mono ?_); rintro e v1 ⟨rfl, hb1⟩; have M1 := HM.out.call hb1; have s1 := M1.ros.cell; have s2 := M1.res.cell; have t2 := M1.res.free; have s3 := M1.has.cell; have t3 := M1.has.free; have l1 := M1.ros.lt; clear M1)))
        have M2 := HM.out.call hb1
        refine ⟨below_others hb1, fun h => h.below hb1, ?_⟩
        exact ⟨M2.ros, M2.res, by rw [HF.out]; exact M2.has, M2.sit, M2.below, HG.out⟩
      · obtain ⟨n, hn, hn12⟩ : ∃ n : Nat, r.peer k = n ∧ n < 12 := ⟨(r.peer k).toNat, by omega, by omega⟩
        have hne : ((n : Int) == -1) = false := by simp
        have hni : (n : Int) < 12 := by omega
        have ha := Ros.hasCells_at (Ros.hasF r pre) n hn12
        cases hh : Ros.hasF r pre n
        · rw [hh] at ha
          have HG : Hid (Ros.Good r (pre ++ [⟨k, hk⟩])) := Lib.hid (Ros.good_snoc.2 ⟨HM.out.good, hok, fun y hy => by rw [show r.peer (⟨k, hk⟩ : Ros.Sl).1 = n from hn]; exact .inr (Ros.hasF_iff.1 hh y hy)⟩)
          have HF : Hid (Ros.hasF r (pre ++ [⟨k, hk⟩]) = fun q => if q = n then true else Ros.hasF r pre q) := Lib.hid (funext fun q => Ros.hasF_yes (x := ⟨k, hk⟩) hn q)
          rw [hn] at rp cs
          generalize r.gen k = g at rg cs
          clear hok hok' hp hn hh
          gi_wp2_with (first | (gi_at_call 152; ((with_reducible refine (CallsIn.inRound l (callsIn_wide.2 (cs _).out)).mono ?_); rintro e v1 ⟨rfl, hb1⟩; have M1 := HM.out.call hb1; have s1 := M1.ros.cell; have s2 := M1.res.cell; have t2 := M1.res.free; have s3 := M1.has.cell; have t3 := M1.has.free; have l1 := M1.ros.lt; clear M1)) | (refine ⟨trivial, ?_⟩; gi_at_call 152; ((with_reducible refine (CallsIn.inRound l (callsIn_wide.2 (cs _).out)).mono ?_); rintro e v1 ⟨rfl, hb1⟩; have M1 := HM.out.call hb1; have s1 := M1.ros.cell; have s2 := M1.res.cell; have t2 := M1.res.free; have s3 := M1.has.cell; have t3 := M1.has.free; have l1 := M1.ros.lt; clear M1)))
          have M2 := HM.out.call hb1
          have hset := M2.has.put n (.bool true)
          rw [Ros.hasCells_set _ n hn12, ← HF.out] at hset
          refine ⟨(below_others hb1).trans (KeepsOthers.setCell _ _ _), fun h => (World.cell?_of_block (heap_setCell_other _ _ _ _ (by show w.heap.size + 1 + 1 + 1 ≠ w.heap.size + 1 + 1; omega))).trans (h.below hb1), ?_⟩
          exact ⟨M2.ros.far (by show _ ≠ _; simp; omega) _, M2.res.far (by show _ ≠ _; simp) _, hset, M2.sit.far (by show _ ≠ _; simp) _, M2.below.setCell (by simp; omega) _, HG.out⟩
        · rw [hh] at ha
          have HG : Hid (¬ Ros.Good r (pre ++ [⟨k, hk⟩])) := Lib.hid fun h => by
            have h3 := (Ros.good_snoc.1 h).2.2
            have : Ros.hasF r pre n = false := Ros.hasF_iff.2 fun y hy => by
              rcases h3 y hy with e | e
              · rw [e]; omega
              · rw [show r.peer (⟨k, hk⟩ : Ros.Sl).1 = n from hn] at e; exact e
            rw [this] at hh; cases hh
          rw [hn] at rp cs
          generalize r.gen k = g at rg cs
          clear hok hok' hp hn hh
          gi_wp2_with (first | (gi_at_call 152; ((with_reducible refine (CallsIn.inRound l (callsIn_wide.2 (cs _).out)).mono ?_); rintro e v1 ⟨rfl, hb1⟩; have M1 := HM.out.call hb1; have s1 := M1.ros.cell; have s2 := M1.res.cell; have t2 := M1.res.free; have s3 := M1.has.cell; have t3 := M1.has.free; have l1 := M1.ros.lt; clear M1)) | (refine ⟨trivial, ?_⟩; gi_at_call 152; ((with_reducible refine (CallsIn.inRound l (callsIn_wide.2 (cs _).out)).mono ?_); rintro e v1 ⟨rfl, hb1⟩; have M1 := HM.out.call hb1; have s1 := M1.ros.cell; have s2 := M1.res.cell; have t2 := M1.res.free; have s3 := M1.has.cell; have t3 := M1.has.free; have l1 := M1.ros.lt; clear M1)))
          have M2 := HM.out.call hb1
          exact ⟨(below_others hb1).trans (KeepsOthers.setCell _ _ _), rfl, HG.out, M2.res.put 0 _, M2.below.setCell (by simp) _⟩
    · have hok' : ¬ ((0 ≤ r.gen k ∧ r.gen k ≤ 60000) ∧ (r.peer k = -1 ∨ ((0 ≤ r.peer k ∧ r.peer k < 12) ∧ 0 < r.gen k))) := hok
      rw [decide_eq_false hok'] at cs
      have HG : Hid (¬ Ros.Good r (pre ++ [⟨k, hk⟩])) := Lib.hid fun h => hok (Ros.good_snoc.1 h).2.1
      generalize r.gen k = g at rg cs
      generalize r.peer k = p at rp cs
      clear hok hok'
      gi_wp2_with (first | (gi_at_call 152; ((with_reducible refine (CallsIn.inRound l (callsIn_wide.2 (cs _).out)).mono ?_); rintro e v1 ⟨rfl, hb1⟩; have M1 := HM.out.call hb1; have s1 := M1.ros.cell; have s2 := M1.res.cell; have t2 := M1.res.free; have s3 := M1.has.cell; have t3 := M1.has.free; have l1 := M1.ros.lt; clear M1)) | (refine ⟨trivial, ?_⟩; gi_at_call 152; ((with_reducible refine (CallsIn.inRound l (callsIn_wide.2 (cs _).out)).mono ?_); rintro e v1 ⟨rfl, hb1⟩; have M1 := HM.out.call hb1; have s1 := M1.ros.cell; have s2 := M1.res.cell; have t2 := M1.res.free; have s3 := M1.has.cell; have t3 := M1.has.free; have l1 := M1.ros.lt; clear M1)))
      have M2 := HM.out.call hb1
      exact ⟨(below_others hb1).trans (KeepsOthers.setCell _ _ _), rfl, HG.out, M2.res.put 0 _, M2.below.setCell (by simp) _⟩
  case done =>
    rintro D xs W hD rfl hM hK
    have hres := hM.res.put 0 (.bool true)
    have hK3 := others_kept (KeepsOthers.setCell W ⟨w.heap.size + 1, 0, none⟩ (.bool true)) hK
    have hDw : w.heap.size ≤ D := Nat.le_trans MM0.out.below.size hD
    have hT := hres.turned (grownBy_putObj' _ D (.deferred none)) (fun r e => by cases e; exact ⟨_, hK3, rfl⟩)
    have hT2 := Lib.hid (Below.turned (hM.below.setCell (p := ⟨w.heap.size + 1, 0, none⟩) (by simp) (.bool true)) (Nat.le_refl _) (grownBy_putObj' _ D (.deferred none)) (fun r e => by cases e; exact hDw))
    have hyes : Hid (Ros.may r = true) := Lib.hid (decide_eq_true ⟨HV.out, hM.good⟩)
    have HK3 := Lib.hid hK3
    have hc5 : ((W.setCell ⟨w.heap.size + 1, 0, none⟩ (.bool true)).putObj D (.deferred none)).cell? ⟨w.heap.size + 1, 0, none⟩ = some (.bool true) := hT.cell 0
    have u4 := hM.res.cell
    have v4 := hM.res.free
    clear hM hres hK3 hT hK
    go_wp2
    refine ⟨by simp, .inl ⟨_, _, rfl, run_takeDeferred HK3.out, ?_⟩⟩
    refine ⟨.bool true, ?_, by rw [hyes.out], hT2.out⟩
    simp [results, Try.f123, go_sem, hc5]
  case stop =>
    rintro D c' pre W hD ⟨rest, hpre⟩ ⟨rfl, h2, h3, h4⟩ hK
    have hno : Hid (Ros.may r = false) := Lib.hid (decide_eq_false fun h => h2 (Ros.good_front (m := rest) (by rw [← hpre]; exact h.2)))
    have hDw : w.heap.size ≤ D := Nat.le_trans MM0.out.below.size hD
    have hT := h3.turned (grownBy_putObj' _ D (.deferred none)) (fun r e => by cases e; exact ⟨_, hK, rfl⟩)
    have hT2 := Lib.hid (Below.turned h4 (Nat.le_refl _) (grownBy_putObj' _ D (.deferred none)) (fun r e => by cases e; exact hDw))
    have hc5 : (W.putObj D (.deferred none)).cell? ⟨w.heap.size + 1, 0, none⟩ = some (.bool false) := hT.cell 0
    have HK3 := Lib.hid hK
    clear h2 h3 h4 hK hpre hT
    refine wpIn_ret ?_
    refine ⟨by simp, .inl ⟨_, _, rfl, run_takeDeferred HK3.out, ?_⟩⟩
    refine ⟨.bool false, ?_, by rw [hno.out], hT2.out⟩
    simp [results, Try.f123, go_sem, hc5]
end Go.Proofs.Ytbihnmingedgfaa
