/-
Several texts in one: Ckk Ckl Ckm Ckn Gh.
-/
import Derived.Test.YtmiopphcfdlneaaGreatCx13
set_option maxRecDepth 100000
set_option maxHeartbeats 8000000
set_option linter.unusedVariables false
set_option linter.unusedSimpArgs false
namespace Go.Proofs.YtmiopphcfdlneaaGreat
open Go Go.RowKit
theorem qfN {o : Oper} {a : Act} {w : World} {x : Operand} {B : Nat} {e : En.E} {s : Value} (ho : o.op = .load 52 x) (hx : a.eval x = .pointer (some ⟨B, 0, none⟩)) (hB : Box w B 52 (En.cells e s)) :
 (execOp a.eval o).run Tryz.prog w = .ok (.value (.agg (En.cells e s))) w := qcP ho hx hB Tryz.underlying52 rfl qiR
theorem InO.askN {μ : Type} {LP : Nat -> (Nat -> Prop) -> Nat -> μ -> World -> Prop} (C : ObjC LP) {b B : Nat} {F0 : Nat -> Prop} {X0 X : World} {m m' : μ} {L : List (Nat × TypeId × Array Value)} {f : FuncId} {args : Array Value} {r : Value} (h : LP b F0 B m X0) (hb : b <= X0.heap.size) (hX : Below X0.heap.size X0 X) (hL : ∀ p ∈ L, X0.heap.size <= p.1 /\ Box X p.1 p.2.1 p.2.2) (hc : Calls Tryz.prog f args X (qbN LP b F0 B m' r X)) : Calls Tryz.prog f args X fun e X' => e = .returned r /\ InO LP b F0 X0 B m' L X' /\ (∀ k, X0.heap.size <= k -> k < X.heap.size -> X'.heap[k]? = X.heap[k]?) /\ X.heap.size <= X'.heap.size := by
 refine hc.mono fun e X' hh => ?_
 obtain ⟨rfl, F', hF, hL', hK⟩ := hh
 have hn : ∀ k, X0.heap.size <= k -> ¬ F0 k := fun k hk hf => by have := (C.up h k hf).2; omega
 refine ⟨rfl, ⟨⟨F', hL', fun k hk => ?_, fun p hp hf => ?_⟩, ((qaB.refl F0 X0).call hX).trans hK fun j hj => .inl hj, fun p hp => ?_, hb⟩, fun k h1 h2 => hK.block k h2 (hn k h1), hK.size⟩
 · exact (hF k hk).imp id fun h => Nat.le_trans hX.size h
 · have := (hL p hp).2.lt
   rcases hF _ hf with hf | hf
   · exact hn _ (hL p hp).1 hf
   · omega
 · exact ⟨(hL p hp).1, ⟨(hK.block _ (hL p hp).2.lt (hn _ (hL p hp).1)).trans (hL p hp).2.is⟩⟩
theorem InO.asks {μ : Type} {LP : Nat -> (Nat -> Prop) -> Nat -> μ -> World -> Prop} {b B : Nat} {F0 : Nat -> Prop} {X0 X : World} {m : μ} {Z : (Nat -> Nat) -> μ} {L : List (Nat × TypeId × Array Value)} {f : FuncId} {args : Array Value} {r : Value} (h : InO LP b F0 X0 B m L X) (hc : ∀ F, LP b F B m X -> (∀ k, F k -> F0 k \/ X0.heap.size <= k) -> Calls Tryz.prog f args X (fun e X' => ∃ Q, qbN LP b F B (Z Q) r X e X')) : Calls Tryz.prog f args X fun e X' => e = .returned r /\ ∃ Q, InO LP b F0 X0 B (Z Q) L X' := by
 obtain ⟨F, h1, h2, h3⟩ := h.fr
 refine (hc F h1 h2).mono fun e X' hh => ?_
 obtain ⟨Q, rfl, F', hF, hL, hK⟩ := hh
 refine ⟨rfl, Q, ⟨F', hL, fun k hk => ?_, fun p hp hf => ?_⟩, h.keep.trans hK h2, fun p hp => ?_, h.low⟩
 · rcases hF k hk with hk | hk
   · exact h2 k hk
   · exact .inr (Nat.le_trans h.keep.size hk)
 · have hlt := (h.own p hp).2.lt
   rcases hF _ hf with hf | hf
   · exact h3 p hp hf
   · omega
 · exact ⟨(h.own p hp).1, ⟨(hK.block _ (h.own p hp).2.lt (h3 p hp)).trans (h.own p hp).2.is⟩⟩
theorem qpw (b : Nat) (l : List Gm.Shot) : qoU (fun A _ W => qfy W b A l) := ⟨fun h hb => h.call hb, fun cs h hB => qfy.qa8 h rfl hB cs⟩
theorem Co.qj6 {m n : Co.M} (h : Co.Ok m) {e : En.E} {u : Fd.S} (he : ∀ k, k < 8 -> Gm.tyIn (e.inp k)) (ha : Fd.apply m.conf e = some u) (hn : Co.confirm m e = some n) :
 Co.Ok n /\ Co.sts n = Co.row u.r (Co.newQ (e.frame + 1) e.inp e.evs fun k => Qu.done (m.q k) (e.inp k)) u (max m.shown.g.frame u.g.frame - u.g.frame).toNat /\ n.q = (Co.newQ (e.frame + 1) e.inp e.evs fun k => Qu.done (m.q k) (e.inp k)) /\ Co.Way u.r (Co.newQ (e.frame + 1) e.inp e.evs fun k => Qu.done (m.q k) (e.inp k)) u (max m.shown.g.frame u.g.frame - u.g.frame).toNat := by
 obtain ⟨hm, _⟩ := Fd.qcw ha
 obtain ⟨f1, f2, f3⟩ := h.conf.apply ha
 have hef : e.frame = m.conf.g.frame := hm.2.2
 have hlo := h.low
 have hmx := h.shown.ok.1.2.1
 have hmc := f1.ok.1.2.1
 have hm0 := h.conf.ok.1.1
 have hev : ∀ v ∈ e.evs, v.slot.toNat < 8 := fun v hv => by have := (Co.qio _ _ hm.2.1.row v hv).2.1; omega
 have hin : ∀ k, k < 8 -> En.inOk (e.inp k) /\ Gm.tyIn (e.inp k) := fun k hk => ⟨hm.2.1.ins k hk, he k hk⟩
 have hq : ∀ k, k < 8 -> Co.qdv (Co.newQ u.g.frame e.inp e.evs (fun k => Qu.done (m.q k) (e.inp k)) k) u.g.frame := Co.qgR (by omega) hin e.evs _ hev fun k hk => by
  rw [f2]
  exact Co.qhO (h.q k hk) (by omega) (hin k hk).1 (hin k hk).2
 have hc := Co.qfw h he hn
 have e1 : n = Co.anew { m with conf := u, q := Co.newQ u.g.frame e.inp e.evs fun k => Qu.done (m.q k) (e.inp k) } (max m.shown.g.frame u.g.frame) := by
  unfold Co.confirm at hn
  rw [ha] at hn
  injection hn with hn
  exact hn.symm
 have eu : u.g.frame = e.frame + 1 := by omega
 have hw := Co.qpT (m := { m with conf := u, q := Co.newQ u.g.frame e.inp e.evs fun k => Qu.done (m.q k) (e.inp k) }) (fr := max m.shown.g.frame u.g.frame) f1 hq (by show u.g.frame <= _; omega) (by show _ <= u.g.frame + 8; omega) (by omega)
 have ha2 := Co.qdX (m := { m with conf := u, q := Co.newQ u.g.frame e.inp e.evs fun k => Qu.done (m.q k) (e.inp k) }) f1 hq (max m.shown.g.frame u.g.frame) (by show u.g.frame <= _; omega) (by show _ <= u.g.frame + 8; omega) (by omega)
 rw [<- e1] at hw ha2
 rw [<- eu]
 exact ⟨hc.1, hw.1, ha2.2.2.2, hw.2⟩
theorem qnS {c u : Fd.S} (hc : Rg.Ok [c]) (hu : Im.Ok u.g u.r) (ht : Gm.ty u.g) (hf : u.g.frame = c.g.frame + 1) : Rg.push [c] u = [c, u] /\ Rg.Ok [c, u] /\ Rg.drop [c, u] u.g.frame = [u] := by
 have hb : Rg.pushB [c] u = true := Rg.qgJ hu (by show u.g.frame = Rg.first [c] + ([c].length : Nat) - 1 + 1; show u.g.frame = c.g.frame + 1 - 1 + 1; omega) (by show 1 <= 8; omega)
 have e1 : Rg.push [c] u = [c, u] := Rg.qix hb
 refine ⟨e1, by rw [<- e1]; exact hc.push ht, ?_⟩
 have hh : Rg.hasB [c, u] u.g.frame = true := Rg.qjU.2 (by show c.g.frame <= u.g.frame /\ u.g.frame <= c.g.frame + 2 - 1; omega)
 unfold Rg.drop
 rw [if_pos hh, show (u.g.frame - Rg.first [c, u]).toNat = 1 by show (u.g.frame - c.g.frame).toNat = 1; omega]
 rfl
section
variable {RP : qcJ} {QP : QuP} (CR : qdM RP) (CQ : qcq QP) {b B : Nat} {F : Nat -> Prop} {m : Co.M} {X : World}
include CR CQ
theorem qgL (e : En.E) (A2 : Option Addr) (n2 c2 : Nat) (hn2 : n2 = e.evs.length) (hn63 : n2 <= maxLen) (hin : ∀ i, i < 8 -> Gm.tyIn (e.inp i)) (ha : Fd.apply m.conf e = none) 
 (hE : Lies X X.heap.size 4 A2 n2 (En.qa2 e.evs)) (hA2 : n2 ≠ 0 -> ∀ ad, A2 = some ad -> ¬ F ad.block) (h : PrgC RP QP b F B m X) (hb : b <= X.heap.size) :
 Calls Tryz.prog 27 #[.pointer (some ⟨B, 0, none⟩), .agg (En.cells e (.slice A2 n2 c2))] X (qbN (PrgC RP QP) b F B m (.int .i64 1) X) := by
 obtain ⟨hok, R, Q, h⟩ := h
 have CC := qaS.obj CR CQ
 obtain ⟨X1, hX1⟩ : ∃ X1, X1 = X.alloc (.cells (En.cells e (.slice A2 n2 c2)) 52) := ⟨_, rfl⟩
 have hb1 : Below X.heap.size X X1 := by rw [hX1]; exact qac X _
 have I1 := qh (show InO (qaS RP QP) b F X B ⟨R, Q, Co.sts m, m.q⟩ [(X.heap.size, 52, En.cells e (.slice A2 n2 c2))] X1 from by
  rw [hX1]
  exact (InO.start h hb).alloc CC _ _)
 have BE := qh (I1.out.box List.mem_cons_self)
 have HE := qh (show ∀ W, qaB F X W -> Lies W W.heap.size 4 A2 n2 (En.qa2 e.evs) from fun W hW => qcC hE hW.size fun h0 ad ea => by
  obtain ⟨ad', e', hlt⟩ := hE.start h0
  rw [ea] at e'
  injection e' with e'
  subst e'
  exact hW.block _ hlt (hA2 h0 ad ea))
 have c0 := qh (qca (h.box.below hb1 h.box.lt))
 have hfine := hok.conf
 have CC1 := qh (show ∀ W, Below X1.heap.size X1 W -> Calls Tryz.prog 18 #[.pointer (some ⟨B, 0, none⟩)] W (qhB m.conf W) from fun W hW => by
  obtain ⟨F1, h1⟩ := (I1.out.call CC hW).at_
  exact qdu CR CQ hok.rows m.conf (Co.qc9 m) h1)
 have CA := qh (show ∀ W, Below X1.heap.size X1 W -> ∀ A c, Lies W W.heap.size 6 A m.conf.g.qaa.length (Gm.qad m.conf.g.qaa) -> Calls Tryz.prog 21 #[.agg (Rg.St.arr ⟨m.conf.g, m.conf.r, A, c⟩), .agg (En.cells e (.slice A2 n2 c2))] W (SOut (m.conf.g) (m.conf.r) 1 W) from fun W hW A c hl => qhx m.conf e A A2 m.conf.g.qaa.length c n2 c2 W hfine.ty hfine.few rfl hl hn2 hn63 (HE.out W (I1.out.call CC hW).keep) hin ha)
 have HOK := qh hok
 have HX := qh hX1
 clear hX1 hb1 h hok hfine hE hA2 hin ha hb hn2 hn63
 go_enter Tryz.func27, Tryz.ntmps27
 go_upto_region 1 with fail
 rw [<- HX.out]
 go_upto_region 3 with (go_at_call 42; ((with_reducible refine ((c0).out).mono ?_); rintro x w1 ⟨rfl, rfl⟩))
 have hPV := (show ∀ j vm W, preV 3 (fun j vm W => (j = 1 /\ (∃ A c, vm 1 = .agg (Rg.St.arr ⟨m.conf.g, m.conf.r, A, c⟩) /\ Lies W W.heap.size 6 A m.conf.g.qaa.length (Gm.qad m.conf.g.qaa))) \/ (j = 2 /\ (vm 2 = .agg (En.cells e (.slice A2 n2 c2))))) (fun k vm W => stP m.conf.g m.conf.r (.int .i64 1) (fun A _ W => Lies W W.heap.size 6 A (m.conf.g).qaa.length (Gm.qad (m.conf.g).qaa)) X1.heap.size k vm W) j vm W = preV 3 (fun j vm W => (j = 1 /\ (∃ A c, vm 1 = .agg (Rg.St.arr ⟨m.conf.g, m.conf.r, A, c⟩) /\ Lies W W.heap.size 6 A m.conf.g.qaa.length (Gm.qad m.conf.g.qaa))) \/ (j = 2 /\ (vm 2 = .agg (En.cells e (.slice A2 n2 c2))))) (fun k vm W => stP m.conf.g m.conf.r (.int .i64 1) (fun A _ W => Lies W W.heap.size 6 A (m.conf.g).qaa.length (Gm.qad (m.conf.g).qaa)) X1.heap.size k vm W) j vm W from fun _ _ _ => rfl)
 clear hPV
 have hMP := qlH (m.conf.g).qaa
 refine Rz.qbF (by kernel_rfl) 1 9 (by kernel_rfl) (fun X => Below X1.heap.size X1 X) (preV 3 (fun j vm W => (j = 1 /\ (∃ A c, vm 1 = .agg (Rg.St.arr ⟨m.conf.g, m.conf.r, A, c⟩) /\ Lies W W.heap.size 6 A m.conf.g.qaa.length (Gm.qad m.conf.g.qaa))) \/ (j = 2 /\ (vm 2 = .agg (En.cells e (.slice A2 n2 c2))))) (stP m.conf.g m.conf.r (.int .i64 1) (fun A _ W => Lies W W.heap.size 6 A (m.conf.g).qaa.length (Gm.qad (m.conf.g).qaa)) X1.heap.size)) ((Below.refl _ _).drew) ?hvd ?_
 case hvd =>
  intro j vm vm' X h1 h2 he hV
  obtain rfl | rfl | rfl | rfl | rfl | rfl | rfl | rfl : j = 1 \/ j = 2 \/ j = 3 \/ j = 4 \/ j = 5 \/ j = 6 \/ j = 7 \/ j = 8 := by omega
  · rw [qa0 (by omega)] at hV ⊢
    have e0 := he 1 (.inl rfl)
    simp only [Nat.reduceEqDiff, false_and, true_and, or_false, false_or, reduceCtorEq] at hV ⊢
    rw [<- e0]; exact hV
  · rw [qa0 (by omega)] at hV ⊢
    have e0 := he 2 (.inl rfl)
    simp only [Nat.reduceEqDiff, false_and, true_and, or_false, false_or, reduceCtorEq] at hV ⊢
    rw [<- e0]; exact hV
  · rw [qaj (by omega)] at hV ⊢; exact qaJ hV (by omega) (he 3 (.inl rfl)) (fun h => absurd h (by decide))
  · rw [qaj (by omega)] at hV ⊢; exact qaJ hV (by omega) (he 4 (.inl rfl)) (fun h => absurd h (by decide))
  · rw [qaj (by omega)] at hV ⊢; exact qaJ hV (by omega) (he 5 (.inl rfl)) (fun h => absurd h (by decide))
  · rw [qaj (by omega)] at hV ⊢; exact qaJ hV (by omega) (he 6 (.inl rfl)) (fun h => absurd h (by decide))
  · rw [qaj (by omega)] at hV ⊢; exact qaJ hV (by omega) (he 7 (.inl rfl)) (fun h => absurd h (by decide))
  · rw [qaj (by omega)] at hV ⊢; exact qaJ hV (by omega) (he 8 (.inl rfl)) (fun _ => he 7 (.inr (by kernel_rfl)))
 have hmv : ∀ (j : Nat) vm W W', preV 3 (fun j vm W => (j = 1 /\ (∃ A c, vm 1 = .agg (Rg.St.arr ⟨m.conf.g, m.conf.r, A, c⟩) /\ Lies W W.heap.size 6 A m.conf.g.qaa.length (Gm.qad m.conf.g.qaa))) \/ (j = 2 /\ (vm 2 = .agg (En.cells e (.slice A2 n2 c2))))) (stP m.conf.g m.conf.r (.int .i64 1) (fun A _ W => Lies W W.heap.size 6 A (m.conf.g).qaa.length (Gm.qad (m.conf.g).qaa)) X1.heap.size) j vm W -> Below W.heap.size W W' -> preV 3 (fun j vm W => (j = 1 /\ (∃ A c, vm 1 = .agg (Rg.St.arr ⟨m.conf.g, m.conf.r, A, c⟩) /\ Lies W W.heap.size 6 A m.conf.g.qaa.length (Gm.qad m.conf.g.qaa))) \/ (j = 2 /\ (vm 2 = .agg (En.cells e (.slice A2 n2 c2))))) (stP m.conf.g m.conf.r (.int .i64 1) (fun A _ W => Lies W W.heap.size 6 A (m.conf.g).qaa.length (Gm.qad (m.conf.g).qaa)) X1.heap.size) j vm W' := fun j vm W W' h hb => by
  by_cases hj : j < 3
  · rw [qa0 hj] at h ⊢
    rcases h with ⟨hj, h⟩ | ⟨hj, h⟩
    · exact .inl ⟨hj, (by obtain ⟨A, c, e1, hl⟩ := h; exact ⟨A, c, e1, hl.call hb⟩)⟩
    · exact .inr (⟨hj, h⟩)
  · rw [qaj (by omega)] at h ⊢
    exact qdP hMP h hb
 simp only [List.take_succ_cons, List.take_zero, List.drop_succ_cons, List.drop_zero, Nat.reduceSub]
 refine Rz.qar (v := .pointer (some ⟨B, 0, none⟩)) (fun W hW => ?_) ?_
 · exact Rz.qaV rfl rfl
 simp only [Act.put, List.setIfInBounds_toArray, List.set_cons_succ, List.set_cons_zero]
 refine qbW (fun A0 => A0.tmps.size = 55 /\ A0.eval (.tmp 11) = .pointer (some ⟨B, 0, none⟩) /\ A0.eval (.tmp 3) = .pointer (some ⟨X.heap.size, 0, none⟩)) ⟨rfl, rfl, rfl⟩ ?_ ?_
 · intro A0 hA0
   obtain ⟨hAs, hAr, hAt⟩ : A0.tmps.size = 55 /\ A0.eval (.tmp 11) = .pointer (some ⟨B, 0, none⟩) /\ A0.eval (.tmp 3) = .pointer (some ⟨X.heap.size, 0, none⟩) := hA0
   refine ⟨?_, ?_, ?_, ?_, ?_, ?_, ?_, ?_, trivial⟩
   · intro vm Y hX hV
     refine qbk (f := 18) (args := #[.pointer (some ⟨B, 0, none⟩)]) (qdF (fun _ _ => by go_simp) rfl ?_) ((CC1.out Y hX).mono ?_)
     · simp only [Rz.qan]
       rw [Rz.qay, Rz.qab (by decide), Rz.qab (by decide), Rz.qab (by decide), Rz.qab (by decide), Rz.qab (by decide), Rz.qab (by decide), Rz.qab (by decide)]
       exact hAr
     · rintro x w' ⟨A, c, rfl, hl, hb⟩
       exact ⟨_, rfl, (qa0 (by omega)).2 (.inl ⟨rfl, A, c, by simp [Rz.upd], hl.1⟩), hX.trans (hb.mono hX.size), fun j _ _ _ h => hmv j vm _ _ h hb⟩
   · intro vm Y hX hV
     refine qaH (w' := Y) (qfN rfl ?_ (BE.out.below hX BE.out.lt)) ⟨(qa0 (by omega)).2 (.inr ⟨rfl, by simp [Rz.upd]⟩), hX, fun j _ _ _ h => h⟩
     simp only [Rz.qan]
     rw [Rz.qay, Rz.qab (by decide), Rz.qab (by decide), Rz.qab (by decide), Rz.qab (by decide), Rz.qab (by decide), Rz.qab (by decide), Rz.qab (by decide)]
     exact hAt
   · intro vm Y hX hV
     obtain ⟨A, c, e1, hl1⟩ : ∃ A c, vm 1 = .agg (Rg.St.arr ⟨m.conf.g, m.conf.r, A, c⟩) /\ Lies Y Y.heap.size 6 A m.conf.g.qaa.length (Gm.qad m.conf.g.qaa) := by simpa using (qa0 (by omega)).1 (hV 1 (by omega) (by omega) (by kernel_rfl))
     have e2 : vm 2 = .agg (En.cells e (.slice A2 n2 c2)) := by simpa using (qa0 (by omega)).1 (hV 2 (by omega) (by omega) (by kernel_rfl))
     refine qbk (f := 21) (args := #[.agg (Rg.St.arr ⟨m.conf.g, m.conf.r, A, c⟩), .agg (En.cells e (.slice A2 n2 c2))]) (qb4 (fun _ _ => by go_simp) rfl ?_ ?_) ((CA.out Y hX A c hl1).mono ?_)
     · simp only [Rz.qan]
       rw [Rz.qay, Rz.qab (by decide), Rz.qab (by decide), Rz.qab (by decide), Rz.qab (by decide), Rz.qab (by decide), Rz.qab (by decide), Rz.qaE (by simp only [Rz.qaD, hAs]; decide)]
       exact e1
     · simp only [Rz.qan]
       rw [Rz.qay, Rz.qab (by decide), Rz.qab (by decide), Rz.qab (by decide), Rz.qab (by decide), Rz.qab (by decide), Rz.qaE (by simp only [Rz.qaD, hAs]; decide)]
       exact e2
     · rintro x w' ⟨A3, c3, rfl, hl, hb⟩
       exact ⟨_, rfl, (qaj (by omega)).2 ⟨A3, c3, by simp [Rz.upd], hl⟩, hX.trans (hb.mono hX.size), fun j _ _ _ h => hmv j vm _ _ h hb⟩
   · intro vm Y hX hV
     obtain ⟨A2, c2, e, hl⟩ := qny ((qaj (by omega)).1 (hV 3 (by omega) (by omega) (by kernel_rfl)))
     refine qaH (w' := Y) (Rz.qaV (v := vm 3) rfl ?_) ⟨(qaj (by omega)).2 ⟨A2, c2, by simpa [Rz.upd] using e, hl⟩, hX, fun j _ _ _ h => h⟩
     simp only [Rz.qan]
     rw [Rz.qay, Rz.qab (by decide), Rz.qab (by decide), Rz.qab (by decide), Rz.qab (by decide), Rz.qaE (by simp only [Rz.qaD, hAs]; decide)]
   · intro vm Y hX hV
     obtain ⟨A2, c2, e, hl⟩ := qhr ((qaj (by omega)).1 (hV 4 (by omega) (by omega) (by kernel_rfl)))
     refine qaH (w' := Y) (Rz.qbo (v := .agg (Im.cells m.conf.g (.slice A2 (m.conf.g).qaa.length c2) m.conf.r)) (vs := #[.agg (Im.cells m.conf.g (.slice A2 (m.conf.g).qaa.length c2) m.conf.r), (.int .i64 1)]) rfl ?_ rfl) ⟨(qaj (by omega)).2 ⟨A2, c2, by simp [Rz.upd], hl⟩, hX, fun j _ _ _ h => h⟩
     simp only [Rz.qan]
     rw [Rz.qay, Rz.qab (by decide), Rz.qab (by decide), Rz.qab (by decide), Rz.qaE (by simp only [Rz.qaD, hAs]; decide)]
     exact e
   · intro vm Y hX hV
     obtain ⟨A2, c2, e, hl⟩ := qhr ((qaj (by omega)).1 (hV 4 (by omega) (by omega) (by kernel_rfl)))
     refine qaH (w' := Y) (Rz.qbo (v := (.int .i64 1)) (vs := #[.agg (Im.cells m.conf.g (.slice A2 (m.conf.g).qaa.length c2) m.conf.r), (.int .i64 1)]) rfl ?_ rfl) ⟨(qaj (by omega)).2 (by simp [Rz.upd, stP]), hX, fun j _ _ _ h => h⟩
     simp only [Rz.qan]
     rw [Rz.qay, Rz.qab (by decide), Rz.qab (by decide), Rz.qab (by decide), Rz.qaE (by simp only [Rz.qaD, hAs]; decide)]
     exact e
   · intro vm Y hX hV
     exact qaH (qcE rfl qcr rfl) ⟨(qaj (by omega)).2 ⟨_, Im.G0, none, 0, 0, Im.R0, by simp [Rz.upd], hX.size, Box.made _ _ _⟩, hX.alloc hX.size _, fun j _ _ _ h => hmv j vm _ _ h (qac _ _)⟩
   · intro vm Y hX hV
     obtain ⟨B5, g', A', m', c', r', e4, hbB, hB5⟩ := qnv ((qaj (by omega)).1 (hV 7 (by omega) (by omega) (by kernel_rfl)))
     obtain ⟨A2, c2, e2, hl⟩ := qnx ((qaj (by omega)).1 (hV 5 (by omega) (by omega) (by kernel_rfl)))
     have e4' : vm 7 = .pointer (some ⟨B5, 0, none⟩) := e4
     have e2' : vm 5 = .agg (Im.cells m.conf.g (.slice A2 (m.conf.g).qaa.length c2) m.conf.r) := e2
     refine qdt (qb0 (B := B5) (cs := Im.cells m.conf.g (.slice A2 (m.conf.g).qaa.length c2) m.conf.r) rfl ?_ ?_ hB5 (by rw [Im.qaf]; exact qax) (by rw [Im.qaf, Im.qaf]) (qdO rfl)) ⟨(qaj (by omega)).2 ⟨B5, A2, c2, by simpa [Rz.upd] using e4', hbB, hB5.row _, hMP.row (c := c2) _ hl hB5⟩, Below.setRow' hX hbB _, fun j h1 h2 h3 h => ?_⟩
     · simp only [Rz.qan]
       rw [Rz.qay, Rz.qaE (by simp only [Rz.qaD, hAs]; decide)]
       exact e4'
     · simp only [Rz.qan]
       rw [Rz.qay, Rz.qab (by decide), Rz.qab (by decide), Rz.qaE (by simp only [Rz.qaD, hAs]; decide)]
       exact e2'
     · by_cases hj : j < 3
       · rw [qa0 hj] at h ⊢
         rcases h with ⟨hj, h⟩ | ⟨hj, h⟩
         · exact .inl ⟨hj, (by obtain ⟨A, c, e1, hl⟩ := h; exact ⟨A, c, e1, Lies.qa8 hl rfl hB5 _⟩)⟩
         · exact .inr (⟨hj, h⟩)
       · rw [qaj (by omega)] at h ⊢
         exact qgt hMP h (by omega) e4 hB5
 · intro vm Y hX hV
   obtain ⟨BX, A2', c2', e4, hbB, hBX, hl⟩ := qnu ((qaj (by omega)).1 (hV 8 (by omega) (by omega)))
   have e3 := qnw ((qaj (by omega)).1 (hV 6 (by omega) (by omega)))
   clear hV
   simp only [Nat.reduceAdd] at e4 e3
   simp only [Rz.qan, Nat.reduceAdd, e4, e3]
   generalize vm 1 = v1
   generalize vm 2 = v2
   generalize vm 3 = v3
   generalize vm 4 = v4
   generalize vm 5 = v5
   generalize vm 8 = v8
   clear hbB hBX hl
   have I5 := qh (I1.out.call CC hX)
   clear hMP hmv CC1 CA BE
   simp only [Act.put, List.setIfInBounds_toArray, List.set_cons_succ, List.set_cons_zero]
   clear hX
   go_wp2_with fail
   go_ret
   exact PrgC.says I5.out.says HOK.out rfl rfl
theorem qgK (e : En.E) (A2 : Option Addr) (n2 c2 : Nat) (hn2 : n2 = e.evs.length) (hn63 : n2 <= maxLen) (hin : ∀ i, i < 8 -> Gm.tyIn (e.inp i)) (u : Fd.S) (ha : Fd.apply m.conf e = some u) (n : Co.M) (hn : Co.confirm m e = some n) 
 (hE : Lies X X.heap.size 4 A2 n2 (En.qa2 e.evs)) (hA2 : n2 ≠ 0 -> ∀ ad, A2 = some ad -> ¬ F ad.block) (h : PrgC RP QP b F B m X) (hb : b <= X.heap.size) :
 Calls Tryz.prog 27 #[.pointer (some ⟨B, 0, none⟩), .agg (En.cells e (.slice A2 n2 c2))] X (qbN (PrgC RP QP) b F B n (.int .i64 0) X) := by
 obtain ⟨hok, R, Q, h⟩ := h
 have CC := qaS.obj CR CQ
 obtain ⟨X1, hX1⟩ : ∃ X1, X1 = X.alloc (.cells (En.cells e (.slice A2 n2 c2)) 52) := ⟨_, rfl⟩
 have hb1 : Below X.heap.size X X1 := by rw [hX1]; exact qac X _
 have I1 := qh (show InO (qaS RP QP) b F X B ⟨R, Q, Co.sts m, m.q⟩ [(X.heap.size, 52, En.cells e (.slice A2 n2 c2))] X1 from by
  rw [hX1]
  exact (InO.start h hb).alloc CC _ _)
 have BE := qh (I1.out.box List.mem_cons_self)
 have HE := qh (show ∀ W, qaB F X W -> Lies W W.heap.size 4 A2 n2 (En.qa2 e.evs) from fun W hW => qcC hE hW.size fun h0 ad ea => by
  obtain ⟨ad', e', hlt⟩ := hE.start h0
  rw [ea] at e'
  injection e' with e'
  subst e'
  exact hW.block _ hlt (hA2 h0 ad ea))
 have c0 := qh (qca (h.box.below hb1 h.box.lt))
 have hfine := hok.conf
 have CC1 := qh (show ∀ W, Below X1.heap.size X1 W -> Calls Tryz.prog 18 #[.pointer (some ⟨B, 0, none⟩)] W (qhB m.conf W) from fun W hW => by
  obtain ⟨F1, h1⟩ := (I1.out.call CC hW).at_
  exact qdu CR CQ hok.rows m.conf (Co.qc9 m) h1)
 have CA := qh (show ∀ W, Below X1.heap.size X1 W -> ∀ A c, Lies W W.heap.size 6 A m.conf.g.qaa.length (Gm.qad m.conf.g.qaa) -> Calls Tryz.prog 21 #[.agg (Rg.St.arr ⟨m.conf.g, m.conf.r, A, c⟩), .agg (En.cells e (.slice A2 n2 c2))] W (qoS (u.g) (u.r) 0 W) from fun W hW A c hl => qeQ u m.conf e A A2 m.conf.g.qaa.length c n2 c2 W hfine.ty hfine.few rfl hl hn2 hn63 (HE.out W (I1.out.call CC hW).keep) hin ha)
 have HOK := qh hok
 have HX := qh hX1
 have HCORE := qh h
 have KX1 := qh hb1
 have BE1 := BE
 have hbb := hb
 obtain ⟨hmay, hmay2⟩ := Fd.qcw ha
 have HEF := qh (show e.frame = m.conf.g.frame from hmay.2.2)
 obtain ⟨g1, g2, g3⟩ := hok.conf.apply ha
 have HFU := qh g1
 have HUF0 := qh g2
 have HC1 := qh (show Rg.Ok [m.conf] from Rg.Ok.new hok.conf.ok hok.conf.ty)
 have HNX := qh (qnS HC1.out g1.ok g1.ty g2)
 have HCUT := qh (show Rg.cut (Co.sts m) e.frame = [m.conf] from by
  have := Co.qip m.conf.r m.q m.conf (m.shown.g.frame - m.conf.g.frame).toNat 0 (Nat.zero_le _)
  rw [show m.conf.g.frame + ((0 : Nat) : Int) = e.frame by rw [HEF.out]; omega] at this
  exact this)
 have HEV := qh (show ∀ v ∈ e.evs, 0 <= v.slot /\ v.slot < 8 from fun v hv => (Co.qio _ _ hmay.2.1.row v hv).2.1)
 have HIN := qh hin
 have HN2 := qh hn2
 have HN63 := qh hn63
 have HAP := qh ha
 have HNN := qh hn
 have HE0 := qh hE
 have HA2 := qh hA2
 obtain ⟨fs, hfs⟩ : ∃ f, f = m.shown.g.frame := ⟨_, rfl⟩
 have HFS := qh hfs
 have cl := qh (show ∀ W, Below X1.heap.size X1 W -> Calls Tryz.prog 46 #[.pointer (some ⟨R, 0, none⟩)] W (fun x W' => x = .returned (.int .i64 fs) /\ Below W.heap.size W W') from fun W hW => by
  obtain ⟨F1, h1⟩ := (I1.out.call CC hW).at_
  obtain ⟨FR, FQ, hR, _⟩ := h1.fr
  rw [hfs, <- hok.last]
  exact CR.last b FR R _ hok.rows W hR)
 clear hX1 hb1 h hok hfine hE hA2 hin ha hb hn2 hn63 hn hmay hmay2 g1 g2 g3 hfs
 go_enter Tryz.func27, Tryz.ntmps27
 go_upto_region 1 with fail
 rw [<- HX.out]
 go_upto_region 3 with (go_at_call 42; ((with_reducible refine ((c0).out).mono ?_); rintro x w1 ⟨rfl, rfl⟩))
 have hPV := (show ∀ j vm W, preV 3 (fun j vm W => (j = 1 /\ (∃ A c, vm 1 = .agg (Rg.St.arr ⟨m.conf.g, m.conf.r, A, c⟩) /\ Lies W W.heap.size 6 A m.conf.g.qaa.length (Gm.qad m.conf.g.qaa))) \/ (j = 2 /\ (vm 2 = .agg (En.cells e (.slice A2 n2 c2))))) (fun k vm W => stP u.g u.r (.int .i64 0) (fun A _ W => qfy W X1.heap.size A (u.g).qaa) X1.heap.size k vm W) j vm W = preV 3 (fun j vm W => (j = 1 /\ (∃ A c, vm 1 = .agg (Rg.St.arr ⟨m.conf.g, m.conf.r, A, c⟩) /\ Lies W W.heap.size 6 A m.conf.g.qaa.length (Gm.qad m.conf.g.qaa))) \/ (j = 2 /\ (vm 2 = .agg (En.cells e (.slice A2 n2 c2))))) (fun k vm W => stP u.g u.r (.int .i64 0) (fun A _ W => qfy W X1.heap.size A (u.g).qaa) X1.heap.size k vm W) j vm W from fun _ _ _ => rfl)
 clear hPV
 have hMP := qpw X1.heap.size (u.g).qaa
 refine Rz.qbF (by kernel_rfl) 1 9 (by kernel_rfl) (fun X => Below X1.heap.size X1 X) (preV 3 (fun j vm W => (j = 1 /\ (∃ A c, vm 1 = .agg (Rg.St.arr ⟨m.conf.g, m.conf.r, A, c⟩) /\ Lies W W.heap.size 6 A m.conf.g.qaa.length (Gm.qad m.conf.g.qaa))) \/ (j = 2 /\ (vm 2 = .agg (En.cells e (.slice A2 n2 c2))))) (stP u.g u.r (.int .i64 0) (fun A _ W => qfy W X1.heap.size A (u.g).qaa) X1.heap.size)) ((Below.refl _ _).drew) ?hvd ?_
 case hvd =>
  intro j vm vm' X h1 h2 he hV
  obtain rfl | rfl | rfl | rfl | rfl | rfl | rfl | rfl : j = 1 \/ j = 2 \/ j = 3 \/ j = 4 \/ j = 5 \/ j = 6 \/ j = 7 \/ j = 8 := by omega
  · rw [qa0 (by omega)] at hV ⊢
    have e0 := he 1 (.inl rfl)
    simp only [Nat.reduceEqDiff, false_and, true_and, or_false, false_or, reduceCtorEq] at hV ⊢
    rw [<- e0]; exact hV
  · rw [qa0 (by omega)] at hV ⊢
    have e0 := he 2 (.inl rfl)
    simp only [Nat.reduceEqDiff, false_and, true_and, or_false, false_or, reduceCtorEq] at hV ⊢
    rw [<- e0]; exact hV
  · rw [qaj (by omega)] at hV ⊢; exact qaJ hV (by omega) (he 3 (.inl rfl)) (fun h => absurd h (by decide))
  · rw [qaj (by omega)] at hV ⊢; exact qaJ hV (by omega) (he 4 (.inl rfl)) (fun h => absurd h (by decide))
  · rw [qaj (by omega)] at hV ⊢; exact qaJ hV (by omega) (he 5 (.inl rfl)) (fun h => absurd h (by decide))
  · rw [qaj (by omega)] at hV ⊢; exact qaJ hV (by omega) (he 6 (.inl rfl)) (fun h => absurd h (by decide))
  · rw [qaj (by omega)] at hV ⊢; exact qaJ hV (by omega) (he 7 (.inl rfl)) (fun h => absurd h (by decide))
  · rw [qaj (by omega)] at hV ⊢; exact qaJ hV (by omega) (he 8 (.inl rfl)) (fun _ => he 7 (.inr (by kernel_rfl)))
 have hmv : ∀ (j : Nat) vm W W', preV 3 (fun j vm W => (j = 1 /\ (∃ A c, vm 1 = .agg (Rg.St.arr ⟨m.conf.g, m.conf.r, A, c⟩) /\ Lies W W.heap.size 6 A m.conf.g.qaa.length (Gm.qad m.conf.g.qaa))) \/ (j = 2 /\ (vm 2 = .agg (En.cells e (.slice A2 n2 c2))))) (stP u.g u.r (.int .i64 0) (fun A _ W => qfy W X1.heap.size A (u.g).qaa) X1.heap.size) j vm W -> Below W.heap.size W W' -> preV 3 (fun j vm W => (j = 1 /\ (∃ A c, vm 1 = .agg (Rg.St.arr ⟨m.conf.g, m.conf.r, A, c⟩) /\ Lies W W.heap.size 6 A m.conf.g.qaa.length (Gm.qad m.conf.g.qaa))) \/ (j = 2 /\ (vm 2 = .agg (En.cells e (.slice A2 n2 c2))))) (stP u.g u.r (.int .i64 0) (fun A _ W => qfy W X1.heap.size A (u.g).qaa) X1.heap.size) j vm W' := fun j vm W W' h hb => by
  by_cases hj : j < 3
  · rw [qa0 hj] at h ⊢
    rcases h with ⟨hj, h⟩ | ⟨hj, h⟩
    · exact .inl ⟨hj, (by obtain ⟨A, c, e1, hl⟩ := h; exact ⟨A, c, e1, hl.call hb⟩)⟩
    · exact .inr (⟨hj, h⟩)
  · rw [qaj (by omega)] at h ⊢
    exact qdP hMP h hb
 simp only [List.take_succ_cons, List.take_zero, List.drop_succ_cons, List.drop_zero, Nat.reduceSub]
 refine Rz.qar (v := .pointer (some ⟨B, 0, none⟩)) (fun W hW => ?_) ?_
 · exact Rz.qaV rfl rfl
 simp only [Act.put, List.setIfInBounds_toArray, List.set_cons_succ, List.set_cons_zero]
 refine qbW (fun A0 => A0.tmps.size = 55 /\ A0.eval (.tmp 11) = .pointer (some ⟨B, 0, none⟩) /\ A0.eval (.tmp 3) = .pointer (some ⟨X.heap.size, 0, none⟩)) ⟨rfl, rfl, rfl⟩ ?_ ?_
 · intro A0 hA0
   obtain ⟨hAs, hAr, hAt⟩ : A0.tmps.size = 55 /\ A0.eval (.tmp 11) = .pointer (some ⟨B, 0, none⟩) /\ A0.eval (.tmp 3) = .pointer (some ⟨X.heap.size, 0, none⟩) := hA0
   refine ⟨?_, ?_, ?_, ?_, ?_, ?_, ?_, ?_, trivial⟩
   · intro vm Y hX hV
     refine qbk (f := 18) (args := #[.pointer (some ⟨B, 0, none⟩)]) (qdF (fun _ _ => by go_simp) rfl ?_) ((CC1.out Y hX).mono ?_)
     · simp only [Rz.qan]
       rw [Rz.qay, Rz.qab (by decide), Rz.qab (by decide), Rz.qab (by decide), Rz.qab (by decide), Rz.qab (by decide), Rz.qab (by decide), Rz.qab (by decide)]
       exact hAr
     · rintro x w' ⟨A, c, rfl, hl, hb⟩
       exact ⟨_, rfl, (qa0 (by omega)).2 (.inl ⟨rfl, A, c, by simp [Rz.upd], hl.1⟩), hX.trans (hb.mono hX.size), fun j _ _ _ h => hmv j vm _ _ h hb⟩
   · intro vm Y hX hV
     refine qaH (w' := Y) (qfN rfl ?_ (BE.out.below hX BE.out.lt)) ⟨(qa0 (by omega)).2 (.inr ⟨rfl, by simp [Rz.upd]⟩), hX, fun j _ _ _ h => h⟩
     simp only [Rz.qan]
     rw [Rz.qay, Rz.qab (by decide), Rz.qab (by decide), Rz.qab (by decide), Rz.qab (by decide), Rz.qab (by decide), Rz.qab (by decide), Rz.qab (by decide)]
     exact hAt
   · intro vm Y hX hV
     obtain ⟨A, c, e1, hl1⟩ : ∃ A c, vm 1 = .agg (Rg.St.arr ⟨m.conf.g, m.conf.r, A, c⟩) /\ Lies Y Y.heap.size 6 A m.conf.g.qaa.length (Gm.qad m.conf.g.qaa) := by simpa using (qa0 (by omega)).1 (hV 1 (by omega) (by omega) (by kernel_rfl))
     have e2 : vm 2 = .agg (En.cells e (.slice A2 n2 c2)) := by simpa using (qa0 (by omega)).1 (hV 2 (by omega) (by omega) (by kernel_rfl))
     refine qbk (f := 21) (args := #[.agg (Rg.St.arr ⟨m.conf.g, m.conf.r, A, c⟩), .agg (En.cells e (.slice A2 n2 c2))]) (qb4 (fun _ _ => by go_simp) rfl ?_ ?_) ((CA.out Y hX A c hl1).mono ?_)
     · simp only [Rz.qan]
       rw [Rz.qay, Rz.qab (by decide), Rz.qab (by decide), Rz.qab (by decide), Rz.qab (by decide), Rz.qab (by decide), Rz.qab (by decide), Rz.qaE (by simp only [Rz.qaD, hAs]; decide)]
       exact e1
     · simp only [Rz.qan]
       rw [Rz.qay, Rz.qab (by decide), Rz.qab (by decide), Rz.qab (by decide), Rz.qab (by decide), Rz.qab (by decide), Rz.qaE (by simp only [Rz.qaD, hAs]; decide)]
       exact e2
     · rintro x w' ⟨A3, c3, rfl, hl, hb, hnw⟩
       exact ⟨_, rfl, (qaj (by omega)).2 ⟨A3, c3, by simp [Rz.upd], ⟨hl, hnw.mono hX.size⟩⟩, hX.trans (hb.mono hX.size), fun j _ _ _ h => hmv j vm _ _ h hb⟩
   · intro vm Y hX hV
     obtain ⟨A2, c2, e, hl⟩ := qny ((qaj (by omega)).1 (hV 3 (by omega) (by omega) (by kernel_rfl)))
     refine qaH (w' := Y) (Rz.qaV (v := vm 3) rfl ?_) ⟨(qaj (by omega)).2 ⟨A2, c2, by simpa [Rz.upd] using e, hl⟩, hX, fun j _ _ _ h => h⟩
     simp only [Rz.qan]
     rw [Rz.qay, Rz.qab (by decide), Rz.qab (by decide), Rz.qab (by decide), Rz.qab (by decide), Rz.qaE (by simp only [Rz.qaD, hAs]; decide)]
   · intro vm Y hX hV
     obtain ⟨A2, c2, e, hl⟩ := qhr ((qaj (by omega)).1 (hV 4 (by omega) (by omega) (by kernel_rfl)))
     refine qaH (w' := Y) (Rz.qbo (v := .agg (Im.cells u.g (.slice A2 (u.g).qaa.length c2) u.r)) (vs := #[.agg (Im.cells u.g (.slice A2 (u.g).qaa.length c2) u.r), (.int .i64 0)]) rfl ?_ rfl) ⟨(qaj (by omega)).2 ⟨A2, c2, by simp [Rz.upd], hl⟩, hX, fun j _ _ _ h => h⟩
     simp only [Rz.qan]
     rw [Rz.qay, Rz.qab (by decide), Rz.qab (by decide), Rz.qab (by decide), Rz.qaE (by simp only [Rz.qaD, hAs]; decide)]
     exact e
   · intro vm Y hX hV
     obtain ⟨A2, c2, e, hl⟩ := qhr ((qaj (by omega)).1 (hV 4 (by omega) (by omega) (by kernel_rfl)))
     refine qaH (w' := Y) (Rz.qbo (v := (.int .i64 0)) (vs := #[.agg (Im.cells u.g (.slice A2 (u.g).qaa.length c2) u.r), (.int .i64 0)]) rfl ?_ rfl) ⟨(qaj (by omega)).2 (by simp [Rz.upd, stP]), hX, fun j _ _ _ h => h⟩
     simp only [Rz.qan]
     rw [Rz.qay, Rz.qab (by decide), Rz.qab (by decide), Rz.qab (by decide), Rz.qaE (by simp only [Rz.qaD, hAs]; decide)]
     exact e
   · intro vm Y hX hV
     exact qaH (qcE rfl qcr rfl) ⟨(qaj (by omega)).2 ⟨_, Im.G0, none, 0, 0, Im.R0, by simp [Rz.upd], hX.size, Box.made _ _ _⟩, hX.alloc hX.size _, fun j _ _ _ h => hmv j vm _ _ h (qac _ _)⟩
   · intro vm Y hX hV
     obtain ⟨B5, g', A', m', c', r', e4, hbB, hB5⟩ := qnv ((qaj (by omega)).1 (hV 7 (by omega) (by omega) (by kernel_rfl)))
     obtain ⟨A2, c2, e2, hl⟩ := qnx ((qaj (by omega)).1 (hV 5 (by omega) (by omega) (by kernel_rfl)))
     have e4' : vm 7 = .pointer (some ⟨B5, 0, none⟩) := e4
     have e2' : vm 5 = .agg (Im.cells u.g (.slice A2 (u.g).qaa.length c2) u.r) := e2
     refine qdt (qb0 (B := B5) (cs := Im.cells u.g (.slice A2 (u.g).qaa.length c2) u.r) rfl ?_ ?_ hB5 (by rw [Im.qaf]; exact qax) (by rw [Im.qaf, Im.qaf]) (qdO rfl)) ⟨(qaj (by omega)).2 ⟨B5, A2, c2, by simpa [Rz.upd] using e4', hbB, hB5.row _, hMP.row (c := c2) _ hl hB5⟩, Below.setRow' hX hbB _, fun j h1 h2 h3 h => ?_⟩
     · simp only [Rz.qan]
       rw [Rz.qay, Rz.qaE (by simp only [Rz.qaD, hAs]; decide)]
       exact e4'
     · simp only [Rz.qan]
       rw [Rz.qay, Rz.qab (by decide), Rz.qab (by decide), Rz.qaE (by simp only [Rz.qaD, hAs]; decide)]
       exact e2'
     · by_cases hj : j < 3
       · rw [qa0 hj] at h ⊢
         rcases h with ⟨hj, h⟩ | ⟨hj, h⟩
         · exact .inl ⟨hj, (by obtain ⟨A, c, e1, hl⟩ := h; exact ⟨A, c, e1, Lies.qa8 hl rfl hB5 _⟩)⟩
         · exact .inr (⟨hj, h⟩)
       · rw [qaj (by omega)] at h ⊢
         exact qgt hMP h (by omega) e4 hB5
 · intro vm Y hX hV
   obtain ⟨BX, A2', c2', e4, hbB, hBX, hl⟩ := qnu ((qaj (by omega)).1 (hV 8 (by omega) (by omega)))
   have e3 := qnw ((qaj (by omega)).1 (hV 6 (by omega) (by omega)))
   clear hV
   simp only [Nat.reduceAdd] at e4 e3
   simp only [Rz.qan, Nat.reduceAdd, e4, e3]
   generalize vm 1 = v1
   generalize vm 2 = v2
   generalize vm 3 = v3
   generalize vm 4 = v4
   generalize vm 5 = v5
   generalize vm 8 = v8
   have B5 := qh (show Box Y BX 38 (Im.cells u.g (.slice A2' u.g.qaa.length c2') u.r) from hBX)
   have L5 := qh hl
   have I5 := qh (I1.out.call CC hX)
   clear hMP hmv CC1 CA BE
   simp only [Act.put, List.setIfInBounds_toArray, List.set_cons_succ, List.set_cons_zero]
   have NBX := qh (show X.heap.size <= BX from Nat.le_trans KX1.out.size hbB)
   have kc : Y.cell? ⟨B, 0, none⟩ = some (.pointer (some ⟨R, 0, none⟩)) := (HCORE.out.kept CR CQ (KX1.out.trans (hX.mono KX1.out.size))).box.cell 0
   clear hbB hBX hl
   go_upto_region 7 with (go_at_call 46; ((with_reducible refine ((cl.out Y hX).mono ?_)); rintro x w6 ⟨rfl, hb6⟩; have K6 := qh (hX.trans (hb6.mono hX.size)); have B6 := qh (B5.out.below hb6 B5.out.lt); have L6 := qh (L5.out.call hb6); clear hb6))
   clear B5 L5 hX I5 cl
   have BE6 := qh (BE1.out.below K6.out BE1.out.lt)
   have c7 := fun W (hW : Below w6.heap.size w6 W) => qh (show Calls Tryz.prog 59 #[.pointer (some ⟨R, 0, none⟩), .int .i64 e.frame] W (fun x W' => x = .returned (.bool (Rg.hasB (Co.sts m) e.frame)) /\ InO (qaS RP QP) b F X B ⟨R, Q, [m.conf], m.q⟩ [(BX, 38, Im.cells u.g (.slice A2' u.g.qaa.length c2') u.r), (X.heap.size, 52, En.cells e (.slice A2 n2 c2))] W' /\ (∀ k, X.heap.size <= k -> k < W.heap.size -> W'.heap[k]? = W.heap[k]?) /\ W.heap.size <= W'.heap.size) from by
    have hXW : Below X.heap.size X W := KX1.out.trans ((K6.out.trans (hW.mono K6.out.size)).mono KX1.out.size)
    refine InO.askN (m := ⟨R, Q, Co.sts m, m.q⟩) CC HCORE.out hbb hXW (fun p hp => ?_) (qaS.ring CR CQ (HCORE.out.kept CR CQ hXW) fun FR hR => ?_)
    · rcases List.mem_cons.1 hp with rfl | hp
      · exact ⟨NBX.out, B6.out.below hW B6.out.lt⟩
      · obtain rfl := List.mem_singleton.1 hp
        exact ⟨Nat.le_refl _, BE6.out.below hW BE6.out.lt⟩
    · rw [<- HCUT.out]
      exact CR.cut b FR R _ HOK.out.rows e.frame (by have := HEF.out; have := HOK.out.conf.ok.1.1; have := HOK.out.conf.ok.1.2.1; omega) W hR (Nat.le_trans hbb hXW.size))
   have x0 : ∀ w : Ext w6.heap.size w6, w.w.cell? ⟨B, 0, none⟩ = some (.pointer (some ⟨R, 0, none⟩)) := fun w => (HCORE.out.kept CR CQ (KX1.out.trans ((K6.out.trans (w.h.mono K6.out.size)).mono KX1.out.size))).box.cell 0
   have x1 : ∀ w : Ext w6.heap.size w6, w.w.cell? ⟨X.heap.size, 0, none⟩ = some (.int .i64 e.frame) := fun w => w.cell BE6.out.lt ((BE6.out.cell 0).trans (En.qa1 _ _))
   refine Qt.qbM 6 w6.heap.size w6 (by kernel_rfl) (by kernel_rfl) (Below.refl _ _) ?_
   simp only [List.take_succ_cons, List.take_zero, List.drop_succ_cons, List.drop_zero]
   repeat (go_big_quiet_step (first | fail))
   refine wpQuiet_nil ?_
   intro _ hw'
   obtain ⟨q7, hw''⟩ := hw'
   subst hw''
   have cc7 := c7 _ q7.h
   have L7 := qh (L6.out.call q7.h)
   clear x0 x1 c7 L6 B6 BE6
   go_upto_region 8 with (go_at_call 59; ((with_reducible refine ((cc7.out).mono ?_)); rintro x w7 ⟨rfl, hI, hkk, hsz⟩; have I7 := qh hI; have L8 := qh (show Lies w7 w7.heap.size 6 A2' u.g.qaa.length (Gm.qad u.g.qaa) from qcC L7.out.lies hsz fun h0 ad ea => (hkk _ (Nat.le_trans KX1.out.size (L7.out.new h0 ad ea)) (by obtain ⟨ad2, e2, hlt2⟩ := L7.out.lies.start h0; rw [ea] at e2; injection e2 with e2; rw [e2]; exact hlt2))); clear hI hkk hsz cc7 L7))
   have CP := fun W (hW : Below w7.heap.size w7 W) => qh (show Calls Tryz.prog 60 #[.pointer (some ⟨R, 0, none⟩), .agg (Im.cells u.g (.slice A2' u.g.qaa.length c2') u.r)] W (fun x W' => x = .returned (.bool (Rg.pushB [m.conf] u)) /\ InO (qaS RP QP) b F X B ⟨R, Q, [m.conf, u], m.q⟩ [(BX, 38, Im.cells u.g (.slice A2' u.g.qaa.length c2') u.r), (X.heap.size, 52, En.cells e (.slice A2 n2 c2))] W') from (I7.out.call CC hW).ask fun F1 h1 => qaS.ring (m := ⟨R, Q, [m.conf], m.q⟩) CR CQ h1 fun FR hR => by
    rw [<- HNX.out.1]
    exact CR.push b FR R _ HC1.out ⟨u.g, u.r, A2', c2'⟩ HFU.out.ty (by have h : u.g.qaa.length <= 60 := HFU.out.few; unfold maxLen; show u.g.qaa.length <= _; omega) W hR (I7.out.call CC hW).down (L8.out.call hW))
   have KB := qh (show ∀ W, Below w7.heap.size w7 W -> W.cell? ⟨B, 0, none⟩ = some (.pointer (some ⟨R, 0, none⟩)) from fun W hW => by
    obtain ⟨F1, h1⟩ := (I7.out.call CC hW).at_
    exact h1.box.cell 0)
   have B7 := qh (I7.out.box List.mem_cons_self)
   refine Rz.qbF (by kernel_rfl) 5 5 (by kernel_rfl) (fun W => Below w7.heap.size w7 W) (fun _ _ _ => True) ((Below.refl _ _).drew) (fun _ _ _ _ _ _ _ h => h) ?_
   simp only [List.take_succ_cons, List.take_zero, List.drop_succ_cons, List.drop_zero, Nat.reduceSub]
   refine Rz.qar (v := .pointer (some ⟨B, 0, none⟩)) (fun W hW => Rz.qaV rfl rfl) ?_
   refine Rz.qar (v := .pointer (some ⟨B, 0, none⟩)) (fun W hW => qa4 rfl rfl) ?_
   refine Rz.qar (v := .pointer (some ⟨B, 0, none⟩)) (fun W hW => qcu rfl rfl) ?_
   refine Rz.qar (v := .pointer (some ⟨R, 0, none⟩)) (fun W hW => qcW rfl rfl (KB.out W hW)) ?_
   refine Rz.qar (v := .agg (Im.cells u.g (.slice A2' u.g.qaa.length c2') u.r)) (fun W hW => qc7 rfl rfl (B7.out.below hW B7.out.lt)) ?_
   simp only [Act.put, List.setIfInBounds_toArray, List.set_cons_succ, List.set_cons_zero]
   refine qbW (fun _ => True) trivial (fun _ _ => trivial) ?_
   intro vm W hW hV
   have cp := CP W hW
   clear hW hV CP KB B7 L8 I7
   simp only [Rz.qan]
   go_upto_region 9 with (go_at_call 60; ((with_reducible refine ((cp).out.mono ?_)); rintro x w8 ⟨rfl, hI⟩; have I8 := qh hI; clear hI cp))
   obtain ⟨uf, huf⟩ : ∃ f, f = u.g.frame := ⟨_, rfl⟩
   have HUF := qh huf
   have c9 := fun W (hW : Below w8.heap.size w8 W) => qh (show Calls Tryz.prog 61 #[.pointer (some ⟨R, 0, none⟩), .int .i64 uf] W (fun x W' => x = .returned (.bool (Rg.hasB [m.conf, u] uf)) /\ InO (qaS RP QP) b F X B ⟨R, Q, [u], m.q⟩ [(BX, 38, Im.cells u.g (.slice A2' u.g.qaa.length c2') u.r), (X.heap.size, 52, En.cells e (.slice A2 n2 c2))] W') from (I8.out.call CC hW).ask fun F1 h1 => qaS.ring (m := ⟨R, Q, [m.conf, u], m.q⟩) CR CQ h1 fun FR hR => by
    rw [HUF.out]
    have := CR.drop b FR R _ HNX.out.2.1 u.g.frame (by have := HFU.out.ok.1.1; have := HFU.out.ok.1.2.1; omega) W hR (I8.out.call CC hW).down
    rwa [HNX.out.2.2] at this)
   have B8 := qh (I8.out.box List.mem_cons_self)
   have x0 : ∀ w : Ext w8.heap.size w8, w.w.cell? ⟨B, 0, none⟩ = some (.pointer (some ⟨R, 0, none⟩)) := fun w => by
    obtain ⟨F1, h1⟩ := (I8.out.call CC w.h).at_
    exact h1.box.cell 0
   have x1 : ∀ w : Ext w8.heap.size w8, w.w.cell? ⟨BX, 0, none⟩ = some (.int .i64 uf) := fun w => by
    rw [HUF.out]
    exact w.cell B8.out.lt ((B8.out.cell 0).trans (Rg.St.first ⟨u.g, u.r, A2', c2'⟩))
   clear huf
   refine Qt.qbM 7 w8.heap.size w8 (by kernel_rfl) (by kernel_rfl) (Below.refl _ _) ?_
   simp only [List.take_succ_cons, List.take_zero, List.drop_succ_cons, List.drop_zero]
   repeat (go_big_quiet_step (first | fail))
   refine wpQuiet_nil ?_
   intro _ hw'
   obtain ⟨q9, hw''⟩ := hw'
   subst hw''
   have cc9 := c9 _ q9.h
   clear x0 x1 c9 I8 B8
   go_upto_region 10 with (go_at_call 61; ((with_reducible refine ((cc9.out).mono ?_)); rintro x w9 ⟨rfl, hI⟩; have I9 := qh hI; clear hI cc9))
   have BE9 := qh (I9.out.box (List.mem_cons_of_mem _ List.mem_cons_self))
   have c10 := qh (I9.out.asks (Z := fun Q' => ⟨R, Q', [u], Co.newQ (e.frame + 1) e.inp e.evs fun k => Qu.done (m.q k) (e.inp k)⟩) fun F1 h1 hF1 => qj8 CR CQ e A2 n2 c2 HN2.out HN63.out HIN.out HEV.out (by have := HEF.out; have := HOK.out.conf.ok.1.1; have := HFU.out.ok.1.2.1; have := HUF0.out; omega) (fun k hk => ⟨(HOK.out.q k hk).ok, by have := (HOK.out.q k hk).at_; have := HOK.out.conf.ok.1.2.1; omega⟩) (HE.out w9 I9.out.keep) (fun h0 ad ea hf => by
    rcases hF1 _ hf with hf | hf
    · exact HA2.out h0 ad ea hf
    · obtain ⟨ad2, e2, hlt2⟩ := HE0.out.start h0
      rw [ea] at e2
      injection e2 with e2
      rw [e2] at hf
      omega) h1 I9.out.down)
   go_upto_region 11 with (first
    | ((with_reducible refine qhb rfl rfl ?_); apply qcl.mk rfl; (focus (with_reducible exact BE9.out)); dsimp only)
    | (go_at_call 62; ((with_reducible refine ((c10.out.mono ?_))); rintro x w10 ⟨rfl, Q', hI⟩; have I10 := qh hI; clear hI c10)))
   clear BE9
   obtain ⟨r1, r2, r3, r4⟩ := Co.qj6 HOK.out HIN.out HAP.out HNN.out
   have hdf : fs = m.shown.g.frame := HFS.out
   have h8 := HOK.out.low
   have hu0 := HFU.out.ok.1.1
   have hu1 := HFU.out.ok.1.2.1
   have hu2 := HUF0.out
   have B10 := qh (I10.out.box List.mem_cons_self)
   have kx : w10.cell? ⟨BX, 0, none⟩ = some (.int .i64 uf) := by
    rw [HUF.out]
    exact (B10.out.cell 0).trans (Rg.St.first ⟨u.g, u.r, A2', c2'⟩)
   have c11 := qh (I10.out.ask (m' := ⟨R, Q', Co.sts n, n.q⟩) (f := 56) (args := #[.pointer (some ⟨B, 0, none⟩), .int .i64 uf, .int .i64 fs]) (r := .int .i64 0) fun F1 h1 => by
    rw [r2, r3, HUF.out]
    have hz := qdV (m := ⟨R, Q', [u], Co.newQ (e.frame + 1) e.inp e.evs fun k => Qu.done (m.q k) (e.inp k)⟩) CR CQ (Rg.Ok.new HFU.out.ok HFU.out.ty) u (by
     have := Co.qf5 u.r m.q u 0 0 (Nat.le_refl _)
     rwa [show u.g.frame + ((0 : Nat) : Int) = u.g.frame by omega] at this) 0 (max m.shown.g.frame u.g.frame - u.g.frame).toNat u.g.frame fs (by omega) (by rw [Nat.zero_add]; exact r4) (by omega) (by
     have := Co.qip u.r (Co.newQ (e.frame + 1) e.inp e.evs fun k => Qu.done (m.q k) (e.inp k)) u 0 0 (Nat.le_refl _)
     rwa [show u.g.frame + ((0 : Nat) : Int) = u.g.frame by omega] at this) (by omega) (by have := HOK.out.shown.ok.1.1; omega) h1 I10.out.down
    rw [Nat.zero_add] at hz
    exact hz)
   have R1 := qh r1
   clear r1 r2 r3 r4 hdf h8 hu0 hu1 hu2 B10
   go_wp2_with (go_at_call 56; ((with_reducible refine ((c11.out.mono ?_))); rintro x w11 ⟨rfl, hI⟩; have I11 := qh hI; clear hI c11))
   go_ret
   exact PrgC.says I11.out.says R1.out rfl rfl
end
abbrev vrow (g : List (Nat -> Gm.In)) : List Value := g.flatMap Gm.qai
def qiY (g : List (Nat -> Gm.In)) (X : World) (e : Ending) (X' : World) : Prop :=
 ∃ A c, e = .returned (.slice A g.length c) /\ X'.ownsRow X.heap.size 49 24 (.slice A g.length c) g.length (vrow g) /\ Below X.heap.size X X'
theorem qnm (f : Nat -> Gm.In) : Instr.fill (fun i => some (i * 24, 24)) ((Array.range (1 * 24)).map ((Value.agg (Gm.qai fun _ => Co.in0).toArray).cells[· % (Value.agg (Gm.qai fun _ => Co.in0).toArray).cells.size]!)) [(0, .agg (Gm.qai f).toArray)] = some (Gm.qai f).toArray := by kernel_rfl
theorem qnn : (Tryz.prog.info? 49).map (·.bytes) = some 24 := by kernel_rfl
theorem qi2 : ∃ i, Tryz.prog.info? 49 = some i /\ i.zero = some (.agg (Gm.qai fun _ => Co.in0).toArray) /\ i.size = 24 /\ i.bytes = 24 := by
 have h1 := qdG
 have h2 := qhh
 have h3 := qnn
 cases hq : Tryz.prog.info? 49 with
 | none => rw [hq] at h1; cases h1
 | some ie =>
  rw [hq] at h1 h2 h3
  exact ⟨ie, rfl, by simpa using h2, by simpa using h1, by simpa using h3⟩
theorem qp5 (f : Nat -> Gm.In) (w : World) : (Instr.buildSlice 58 1 #[(0, .agg (Gm.qai f).toArray)]).run Tryz.prog w = .ok (.slice (some ⟨w.heap.size, 0, none⟩) 1 1) (w.alloc (.cells (Gm.qai f).toArray 49)) := by
 obtain ⟨ie, hq, hz, hs, _⟩ := qi2
 exact run_buildSlice w _ _ 1 _ _ ie (.agg (Gm.qai fun _ => Co.in0).toArray) Tryz.underlying58 hq hz (by rw [hs]; decide) (by rw [hs]; decide) (by rw [hs]; exact qnm f)
theorem ql6 {ops : Array Oper} {Q : Exit -> Act -> World -> Prop} {o : Oper} {rest : List Oper} {a : Act} {w : World} {x : Operand} {f : Nat -> Gm.In} (hgd : o.guard = none) (ho : o.op = .buildSlice 58 1 #[(0, x)]) (hv : a.eval x = .agg (Gm.qai f).toArray)
 (h : wpList Tryz.prog ops Q rest (a.put o.dst (.slice (some ⟨w.heap.size, 0, none⟩) 1 1)) (w.alloc (.cells (Gm.qai f).toArray 49))) : wpList Tryz.prog ops Q (o :: rest) a w := by
 refine wpList_plain hgd fun _ hK => ?_
 unfold Oper.wp execOp
 simp only [ho, List.map_toArray, List.map_cons, List.map_nil, hv, Sem.run_bind, qp5, Result.andThen_ok, Sem.run_pure]
 exact hK _ _ h
theorem qpu (w : World) (f : Nat -> Gm.In) : Lies (w.alloc (.cells (Gm.qai f).toArray 49)) (w.alloc (.cells (Gm.qai f).toArray 49)).heap.size 24 (some ⟨w.heap.size, 0, none⟩) 1 (Gm.qai f) := by
 refine ⟨rfl, fun _ => ⟨_, rfl, by simp⟩, fun ad e _ j u hu => ?_⟩
 injection e with e
 subst e
 have hadd : (⟨w.heap.size, 0, none⟩ : Addr).add j = ⟨w.heap.size, j, none⟩ := by unfold Addr.add; split <;> simp_all
 rw [hadd, (Box.made w 49 (Gm.qai f).toArray).cell j]
 simpa using hu
theorem qic (f : Nat -> Gm.In) : ∀ u ∈ Gm.qai f, u.oneCell' = true := by
 intro u hu
 have h := qh2 f
 rw [Array.all_eq_true'] at h
 exact h u (by simpa using hu)
theorem qkc {w : World} {base : Nat} {e : TypeId} {size n : Nat} {v : Value} {xs : List Value} (h : w.ownsRow base e size v n xs) : ∀ r, v.ownBlock = some r -> base <= r := fun r hr => by
 obtain ⟨_, ⟨rfl, _⟩ | ⟨g, cap, cur, rfl, hb, _⟩⟩ := h
 · cases hr
 · injection hr with hr
   subst hr
   exact hb
theorem qoV (w : World) (b : Nat) : w.ownsRow b 49 24 (.slice none 0 0) 0 [] := ⟨rfl, .inl ⟨rfl, rfl⟩⟩
section
variable {RP : qcJ} {QP : QuP} (CR : qdM RP) (CQ : qcq QP) {b B : Nat} {F : Nat -> Prop} {m : Co.M} {X : World}
include CR CQ
theorem qjC (h : PrgC RP QP b F B m X) :
 Calls Tryz.prog 19 #[.pointer (some ⟨B, 0, none⟩)] X (qiY m.qa3 X) := by
 obtain ⟨hok, R, Q, h⟩ := h
 have c0 := qh (qca h.box)
 have c1 := qh (qeZ CR CQ hok.rows m.conf (Co.qc9 m) h)
 have HC := qh (fun W (hW : Below X.heap.size X W) => h.kept CR CQ hW)
 have HOK := qh hok
 obtain ⟨fc, hfc⟩ : ∃ f, f = m.conf.g.frame := ⟨_, rfl⟩
 obtain ⟨fs, hfs⟩ : ∃ f, f = m.shown.g.frame := ⟨_, rfl⟩
 have cf := qh (show ∀ W, Below X.heap.size X W -> Calls Tryz.prog 44 #[.pointer (some ⟨R, 0, none⟩)] W (fun e W' => e = .returned (.int .i64 fc) /\ Below W.heap.size W W') from fun W hW => by
  obtain ⟨FR, FQ, hR, _⟩ := (h.kept CR CQ hW).fr
  rw [hfc, <- Co.qgo m]
  exact CR.first b FR R _ hok.rows W hR)
 have cl := qh (show ∀ W, Below X.heap.size X W -> Calls Tryz.prog 46 #[.pointer (some ⟨R, 0, none⟩)] W (fun e W' => e = .returned (.int .i64 fs) /\ Below W.heap.size W W') from fun W hW => by
  obtain ⟨FR, FQ, hR, _⟩ := (h.kept CR CQ hW).fr
  rw [hfs, <- hok.last]
  exact CR.last b FR R _ hok.rows W hR)
 have kR := qh (show ∀ W, Below X.heap.size X W -> W.cell? ⟨B, 0, none⟩ = some (.pointer (some ⟨R, 0, none⟩)) from fun W hW => (h.kept CR CQ hW).box.cell 0)
 obtain ⟨n, hn⟩ : ∃ n, n = m.qa3.length := ⟨_, rfl⟩
 have hlen : (n : Int) = fs - fc := by rw [hn, hfs, hfc]; exact hok.len
 have hc0 : 0 <= fc := by rw [hfc]; exact hok.conf.ok.1.1
 have hs1 : fs <= 1048576 := by rw [hfs]; exact hok.shown.ok.1.2.1
 have hn8 : n <= 8 := by have := hok.low; omega
 have HG := qh (fun (k : Nat) (hk : k < n) => show m.qa3[k]? = some (Co.vec m.conf.r m.q (fc + k)) from by rw [hfc]; exact hok.qa3 k (by omega))
 have HN := qh hn
 have HLEN := qh hlen
 obtain ⟨i24, hI', hZ', hS', hY'⟩ := qi2
 have hI := qh hI'
 have hZ := qh hZ'
 have hS := qh hS'
 have hY := qh hY'
 unfold qiY
 rw [<- hn]
 clear h hok hfc hfs hn hlen hI' hZ' hS' hY'
 go_enter Tryz.func19, Tryz.ntmps19
 go_wp2_with (first
  | (go_at_call 42; ((with_reducible refine ((c0).out).mono ?_); rintro e w1 ⟨rfl, rfl⟩))
  | (go_at_call 45; ((with_reducible refine ((c1).out).mono ?_); rintro e w2 ⟨S, P, rfl, ⟨hS2, hP2, hne⟩, hSl, hPl, hb2⟩; have K2 := qh hb2; have BS := qh hS2; have BP := qh hP2; have NE := qh hne; have k2 := kR.out _ hb2; clear hS2 hP2 hne hSl hPl hb2))
  | (go_at_call 44; ((with_reducible refine ((cf.out _ K2.out)).mono ?_); rintro e w3 ⟨rfl, hb3⟩; have K3 := qh (K2.out.trans (hb3.mono K2.out.size)); have BS3 := qh (BS.out.below hb3 BS.out.lt); have BP3 := qh (BP.out.below hb3 BP.out.lt); clear hb3 k2)))
 clear c0 c1 cf K2 BS BP
 go_loopw [4, 5] (fun al fr wr => ∃ (k : Nat) (A : Option Addr) (c : Nat), k <= n /\ fr = .int .i64 (fc + k) /\ al = .slice A k c /\ wr.ownsRow X.heap.size 49 24 (.slice A k c) k (vrow (m.qa3.take k)) /\ Box wr S 34 (Ros.qaP m.conf.r).toArray /\ Box wr P 41 #[.pointer (some ⟨B, 0, none⟩)] /\ Below X.heap.size X wr) (fun _ fr _ => n - (intOf fr - fc).toNat)
 case atStart => exact ⟨0, none, 0, Nat.zero_le _, by rw [show fc + ((0 : Nat) : Int) = fc by omega], rfl, qoV _ _, BS3.out, BP3.out, K3.out⟩
 case round =>
  obtain ⟨k, A, c, hk, rfl, rfl, ho, hS3, hP3, hW⟩ := hrel
  have HO := qh ho
  have BS := qh hS3
  have BP := qh hP3
  have KW := qh hW
  clear ho hS3 hP3 hW K3 BS3 BP3
  have kr := kR.out _ KW.out
  have ccl := qh (cl.out _ KW.out)
  obtain ⟨fr, hfr⟩ : ∃ f, f = fc + (k : Int) := ⟨_, rfl⟩
  rw [<- hfr]
  have hw1 := show IntKind.i64.wrap (fr + 1) = fr + 1 by rw [IntKind.wrap_i64]; have := HLEN.out; omega
  by_cases hlt : k < n
  · have hlt2 : fr < fs := by have := HLEN.out; omega
    have HFR := qh hfr
    obtain ⟨vv, hvv⟩ : ∃ v, v = Co.vec m.conf.r m.q fr := ⟨_, rfl⟩
    have HTK := qh (show m.qa3.take (k + 1) = m.qa3.take k ++ [vv] from by
     have hg := HG.out k hlt
     rw [<- hfr, <- hvv] at hg
     obtain ⟨hl, he⟩ := List.getElem?_eq_some_iff.1 hg
     rw [List.take_succ_eq_append_getElem hl, he])
    have cv := qh (show ∀ W, Below wr.heap.size wr W -> Calls Tryz.prog 84 #[.int .i64 fr, .pointer (some ⟨S, 0, none⟩), .pointer (some ⟨P, 0, none⟩)] W (fun e W' => e = .returned (.agg (Gm.qai vv).toArray) /\ Below W.heap.size W W') from fun W hW => by
     rw [hvv]
     exact qj7 CR CQ m.conf.r S P fr (by have := HLEN.out; omega) (fun k hk => (HOK.out.q k hk).ok) (HC.out W (KW.out.trans (hW.mono KW.out.size))) ⟨BS.out.below hW BS.out.lt, BP.out.below hW BP.out.lt, NE.out⟩)
    clear hfr hvv
    unfold vecV
    go_wp2_with (first
     | (go_at_call 46; ((with_reducible refine ((ccl.out)).mono ?_); rintro e w4 ⟨rfl, hb4⟩; have D4 := qh hb4; have cv4 := qh (cv.out _ hb4); clear hb4))
     | (go_at_call 84; ((with_reducible refine ((cv4.out)).mono ?_); rintro e w5 ⟨rfl, hb5⟩; have D5 := qh (D4.out.trans (hb5.mono D4.out.size)); have O5 := qh (own_below HO.out D5.out (Nat.le_refl _)); clear hb5))
     | (with_reducible refine ql6 rfl rfl rfl ?_)
     | ((with_reducible refine qb5 (x := .tmp 24) (y := .tmp 28) (t := 58) (e := 49) (size := 24) (bytes := 24) rfl rfl Tryz.underlying58 hI.out hZ.out hS.out hY.out rfl (by decide) ?_); refine qdk.mk rfl (O5.out.alloc _) (qpu w5 vv) (qic vv) (by unfold maxLen; omega) (by omega) (by have := KW.out.size; have := D5.out.size; simp; omega) ?_; intro A6 c6 w6 own6 hg6; have O6 := qh own6; have G6 := qh hg6; clear own6 hg6))
    go_roundw
    case rel =>
     have hb5 : Below X.heap.size X w5 := KW.out.trans (D5.out.mono KW.out.size)
     have hrow := O5.out.alloc (.cells (Gm.qai vv).toArray 49)
     have bS := ((BS.out.below D5.out BS.out.lt).alloc (.cells (Gm.qai vv).toArray 49)).grown G6.out (Box.qaM ((BS.out.below D5.out BS.out.lt).alloc _) hrow (by decide))
     have bP := ((BP.out.below D5.out BP.out.lt).alloc (.cells (Gm.qai vv).toArray 49)).grown G6.out (Box.qaM ((BP.out.below D5.out BP.out.lt).alloc _) hrow (by decide))
     refine ⟨k + 1, A6, c6, by omega, by rw [HFR.out]; push_cast; rw [Int.add_assoc], rfl, ?_, bS, bP, ?_⟩
     · rw [HTK.out]
       unfold vrow
       rw [List.flatMap_append]
       have : ([vv] : List (Nat -> Gm.In)).flatMap Gm.qai = Gm.qai vv := by simp
       rw [this]
       exact O6.out
     · exact (hb5.trans ((qac w5 _).mono hb5.size)).grown G6.out (Nat.le_trans hb5.size (qac w5 _).size) (qkc hrow)
    case measure => have := HFR.out; simp [intOf, hw1]; omega
  · obtain rfl : k = n := by omega
    have hlt2 : ¬ fr < fs := by have := HLEN.out; omega
    have HTK := qh (show m.qa3.take k = m.qa3 from by rw [HN.out, List.take_length])
    clear hfr
    go_wp2_with (go_at_call 46; ((with_reducible refine ((ccl.out)).mono ?_); rintro e w4 ⟨rfl, hb4⟩; have D4 := qh hb4; clear hb4))
    go_ret
    have O4 := own_below HO.out D4.out (Nat.le_refl _)
    rw [HTK.out] at O4
    exact ⟨A, c, rfl, O4, KW.out.trans (D4.out.mono KW.out.size)⟩
end
theorem qjB (X : World) : Calls Tryz.prog 19 #[.pointer none] X fun e X' => e = .returned (.slice none 0 0) /\ Below X.heap.size X X' := by
 have c0 := qh (qeb X)
 go_enter Tryz.func19, Tryz.ntmps19
 go_wp2_with (go_at_call 42; ((with_reducible refine ((c0).out).mono ?_); rintro e w1 ⟨rfl, rfl⟩))
 go_ret
 exact ⟨rfl, Below.refl _ _⟩
namespace Ck
def pc (Q : Nat -> Nat) (k j : Nat) : Value := if j < k then ptr (Q j) else .pointer none
def qbQ (R : Nat) (Q : Nat -> Nat) (k : Nat) : Array Value := #[ptr R, pc Q k 0, pc Q k 1, pc Q k 2, pc Q k 3, pc Q k 4, pc Q k 5, pc Q k 6, pc Q k 7]
theorem qn7 (R : Nat) (Q : Nat -> Nat) (n k : Nat) (hk : k < 8) : (qbQ R Q n)[1 + k]? = some (pc Q n k) := by
 match k, hk with
 | 0, _ | 1, _ | 2, _ | 3, _ | 4, _ | 5, _ | 6, _ | 7, _ => rfl
theorem qqK (Q : Nat -> Nat) (k N j : Nat) (hj : j ≠ k) : pc (Qu.upd Q k N) (k + 1) j = pc Q k j := by
 unfold pc
 by_cases h : j < k
 · rw [if_pos h, if_pos (by omega), Qu.qam _ _ hj]
 · rw [if_neg h, if_neg (by omega)]
theorem qqh (Q : Nat -> Nat) (k N : Nat) : pc (Qu.upd Q k N) (k + 1) k = ptr N := by
 unfold pc
 rw [if_pos (by omega), Qu.upd_same]
theorem qmG (R : Nat) (Q : Nat -> Nat) (k N : Nat) (hk : k < 8) : (qbQ R Q k).setIfInBounds (1 + k) (ptr N) = qbQ R (Qu.upd Q k N) (k + 1) := by
 have h := qqK Q k N
 have hs := qqh Q k N
 unfold qbQ
 match k, hk with
 | 0, _ => rw [h 1 (by omega), h 2 (by omega), h 3 (by omega), h 4 (by omega), h 5 (by omega), h 6 (by omega), h 7 (by omega), hs]; rfl
 | 1, _ => rw [h 0 (by omega), h 2 (by omega), h 3 (by omega), h 4 (by omega), h 5 (by omega), h 6 (by omega), h 7 (by omega), hs]; rfl
 | 2, _ => rw [h 0 (by omega), h 1 (by omega), h 3 (by omega), h 4 (by omega), h 5 (by omega), h 6 (by omega), h 7 (by omega), hs]; rfl
 | 3, _ => rw [h 0 (by omega), h 1 (by omega), h 2 (by omega), h 4 (by omega), h 5 (by omega), h 6 (by omega), h 7 (by omega), hs]; rfl
 | 4, _ => rw [h 0 (by omega), h 1 (by omega), h 2 (by omega), h 3 (by omega), h 5 (by omega), h 6 (by omega), h 7 (by omega), hs]; rfl
 | 5, _ => rw [h 0 (by omega), h 1 (by omega), h 2 (by omega), h 3 (by omega), h 4 (by omega), h 6 (by omega), h 7 (by omega), hs]; rfl
 | 6, _ => rw [h 0 (by omega), h 1 (by omega), h 2 (by omega), h 3 (by omega), h 4 (by omega), h 5 (by omega), h 7 (by omega), hs]; rfl
 | 7, _ => rw [h 0 (by omega), h 1 (by omega), h 2 (by omega), h 3 (by omega), h 4 (by omega), h 5 (by omega), h 6 (by omega), hs]; rfl
theorem qmH (R : Nat) (Q : Nat -> Nat) : qbQ R Q 8 = cells R Q := rfl
theorem qkW (R : Nat) (Q : Nat -> Nat) : qbQ R Q 0 = #[ptr R, .pointer none, .pointer none, .pointer none, .pointer none, .pointer none, .pointer none, .pointer none, .pointer none] := rfl
end Ck
theorem qm1 (R : Nat) : Tryz.prog.built 88 [(0, .pointer (some ⟨R, 0, none⟩))] = some #[.pointer (some ⟨R, 0, none⟩), .pointer none, .pointer none, .pointer none, .pointer none, .pointer none, .pointer none, .pointer none, .pointer none] := by kernel_rfl
theorem qpF : Tryz.prog.built 48 [] = some #[.int .i8 0, .int .i8 0, .int .u8 0] := by kernel_rfl
structure qhC (RP : qcJ) (QP : QuP) (b base : Nat) (R B : Nat) (M : List Fd.S) (Q : Nat -> Nat) (q : Nat -> Qu.M) (k : Nat) (X : World) : Prop where
 box : Box X B 88 (Ck.qbQ R Q k)
 fr : ∃ (FR : Nat -> Prop) (FQ : Nat -> Nat -> Prop), RP b FR R M X /\ (∀ j, j < k -> QP b (FQ j) (Q j) (q j) X) /\ (∀ j, FR j -> base <= j /\ j ≠ B) /\ (∀ i j, i < k -> FQ i j -> base <= j /\ j ≠ B /\ ¬ FR j) /\ (∀ i i' j, i < k -> i' < k -> i ≠ i' -> FQ i j -> ¬ FQ i' j)
 low : base <= B /\ b <= base
theorem qn4 {RP : qcJ} (CR : qdM RP) {X : World} (q : Rg.St) (hty : Gm.ty q.g) (hok : ¬ Im.Ok q.g q.r) (hnm : q.g.qaa.length <= maxLen) (hL : Lies X X.heap.size 6 q.A q.g.qaa.length (Gm.qad q.g.qaa)) :
 Calls Tryz.prog 14 #[.agg q.arr] X fun e X' => e = .returned (.pointer none) /\ Below X.heap.size X X' := by
 obtain ⟨X1, hX1⟩ : ∃ X1, X1 = X.alloc (.cells q.arr 38) := ⟨_, rfl⟩
 have hb1 : Below X.heap.size X X1 := by rw [hX1]; exact qac X _
 have c1 := qh (CR.new_no q X1 hty hok hnm ((hL.below hb1).wider hb1.size))
 have B1 := qh (show Box X1 X.heap.size 38 (Im.cells q.g (.slice q.A q.g.qaa.length q.c) q.r) by rw [hX1]; exact Box.made _ _ _)
 have K1 := qh hb1
 have HX := qh hX1
 clear hX1 hb1 hL hok hty hnm
 unfold Rg.St.arr
 unfold Rg.St.arr at HX c1
 go_enter Tryz.func14, Tryz.ntmps14
 go_upto_region 1 with fail
 rw [<- HX.out]
 go_wp2_with (first
  | ((with_reducible refine qak rfl rfl ?_); apply qaC.mk rfl; (focus (with_reducible exact B1.out)); dsimp only)
  | (go_at_call 34; ((with_reducible refine ((c1).out).mono ?_); rintro e w1 ⟨rfl, hb2⟩; have K2 := qh (K1.out.trans (hb2.mono K1.out.size)); clear hb2)))
 go_ret
 exact ⟨rfl, K2.out⟩
section
variable {RP : qcJ} {QP : QuP} (CR : qdM RP) (CQ : qcq QP) {b base B R : Nat} {M : List Fd.S} {Q : Nat -> Nat} {q : Nat -> Qu.M} {X W : World} {k : Nat}
include CR CQ
theorem qhC.call (h : qhC RP QP b base R B M Q q k X) (hb : Below X.heap.size X W) : qhC RP QP b base R B M Q q k W := by
 obtain ⟨FR, FQ, h1, h2, h3⟩ := h.fr
 exact ⟨h.box.below hb h.box.lt, ⟨FR, FQ, CR.ob.keep h1 (qaB.qa9 hb) (fun _ _ h => h), fun j hj => CQ.ob.keep (h2 j hj) (qaB.qa9 hb) (fun _ _ h => h), h3⟩, h.low⟩
theorem qhC.next {FN : Nat -> Prop} {N : Nat} {mq : Qu.M} (hk : k < 8) (h : qhC RP QP b base R B M Q q k X) (hW : Below X.heap.size X W) (hN : QP b FN N mq W) (hF : ∀ j, FN j -> X.heap.size <= j) (hq : q k = mq) (hbX : base <= X.heap.size) : qhC RP QP b base R B M (Qu.upd Q k N) q (k + 1) (W.setCell ⟨B, 1 + k, none⟩ (Ck.ptr N)) := by
 have h' := h.call CR CQ hW
 obtain ⟨FR, FQ, h1, h2, h3, h4, h5⟩ := h.fr
 have ho : Only B W (W.setCell ⟨B, 1 + k, none⟩ (Ck.ptr N)) := Only.set _ _ _
 have hK := qaB.qfr ho
 have hKW := qaB.qa9 hW
 have hNB : ∀ j, FN j -> j ≠ B := fun j hj e => by subst e; have := hF _ hj; have := h.box.lt; omega
 refine ⟨?_, ⟨FR, Qu.upd FQ k FN, CR.ob.keep (CR.ob.keep h1 hKW (fun _ _ h => h)) hK fun j hj e => (h3 j hj).2 e, fun j hj => ?_, h3, fun i j hi hj => ?_, fun i i' j hi hi' hne hj hj' => ?_⟩, h.low⟩
 · have := h'.box.put (1 + k) (Ck.ptr N)
   rwa [Ck.qmG _ _ _ _ hk] at this
 · by_cases e : j = k
   · subst e; rw [Qu.upd_same, Qu.upd_same, hq]; exact CQ.ob.keep hN hK fun j hj e => hNB j hj e
   · rw [Qu.qam _ _ e, Qu.qam _ _ e]
     exact CQ.ob.keep (CQ.ob.keep (h2 j (by omega)) hKW (fun _ _ h => h)) hK fun i hi e => (h4 j i (by omega) hi).2.1 e
 · by_cases e : i = k
   · subst e
     rw [Qu.upd_same] at hj
     exact ⟨Nat.le_trans hbX (hF j hj), hNB j hj, fun hr => by have := (CR.ob.up h1 j hr).2; have := hF j hj; omega⟩
   · rw [Qu.qam _ _ e] at hj
     exact h4 i j (by omega) hj
 · by_cases e : i = k
   · subst e
     rw [Qu.upd_same] at hj
     rw [Qu.qam _ _ (Ne.symm hne)] at hj'
     have := (CQ.ob.up (h2 i' (by omega)) j hj').2
     have := hF j hj
     omega
   · rw [Qu.qam _ _ e] at hj
     by_cases e' : i' = k
     · subst e'
       rw [Qu.upd_same] at hj'
       have := (CQ.ob.up (h2 i (by omega)) j hj).2
       have := hF j hj'
       omega
     · rw [Qu.qam _ _ e'] at hj'
       exact h5 i i' j (by omega) (by omega) hne hj hj'
theorem qhC.whole (h : qhC RP QP b base R B M Q q 8 X) : ∃ F, qaS RP QP b F B ⟨R, Q, M, q⟩ X /\ ∀ k, F k -> base <= k := by
 obtain ⟨FR, FQ, h1, h2, h3, h4, h5⟩ := h.fr
 have hlt := h.box.lt
 have hl := h.low
 refine ⟨fun j => j = B \/ FR j \/ ∃ i, i < 8 /\ FQ i j, ⟨by rw [<- Ck.qmH]; exact h.box, ⟨FR, FQ, h1, h2, fun j hj => ⟨.inr (.inl hj), (h3 j hj).2⟩, fun i j hi hj => ⟨.inr (.inr ⟨i, hi, hj⟩), (h4 i j hi hj).2⟩, h5⟩, .inl rfl, fun j hj => ?_⟩, fun j hj => ?_⟩
 · rcases hj with rfl | hj | ⟨i, hi, hj⟩
   · exact ⟨Nat.le_trans hl.2 hl.1, hlt⟩
   · exact CR.ob.up h1 j hj
   · exact CQ.ob.up (h2 i hi) j hj
 · rcases hj with rfl | hj | ⟨i, hi, hj⟩
   · exact hl.1
   · exact (h3 j hj).1
   · exact (h4 i j hi hj).1
theorem qmA (s : Rg.St) (hf : Fd.Fine s.s) (hb : b <= X.heap.size) (hL : Lies X X.heap.size 6 s.A s.g.qaa.length (Gm.qad s.g.qaa)) :
 Calls Tryz.prog 14 #[.agg s.arr] X fun e X' => ∃ B F, e = .returned (.pointer (some ⟨B, 0, none⟩)) /\ PrgC RP QP b F B (Co.new s.s) X' /\ Below X.heap.size X X' /\ ∀ k, F k -> X.heap.size <= k := by
 obtain ⟨X1, hX1⟩ : ∃ X1, X1 = X.alloc (.cells s.arr 38) := ⟨_, rfl⟩
 have hb1 : Below X.heap.size X X1 := by rw [hX1]; exact qac X _
 have c1 := qh (CR.new_yes b s X1 (Nat.le_trans hb hb1.size) hf.ty hf.ok ((hL.below hb1).wider hb1.size))
 have B1 := qh (show Box X1 X.heap.size 38 (Im.cells s.g (.slice s.A s.g.qaa.length s.c) s.r) by rw [hX1]; exact Box.made _ _ _)
 have K1 := qh hb1
 have HX := qh hX1
 have HF := qh hf
 have HB := qh hb
 obtain ⟨fr, hfr⟩ : ∃ f, f = s.g.frame := ⟨_, rfl⟩
 have HFR := qh hfr
 have hf0 : 0 <= fr /\ fr <= 1048576 := by rw [hfr]; exact ⟨hf.ok.1.1, hf.ok.1.2.1⟩
 have cb := qm1
 clear hX1 hb1 hL hf hb hfr
 unfold Rg.St.arr
 unfold Rg.St.arr at HX c1
 go_enter Tryz.func14, Tryz.ntmps14
 go_upto_region 1 with fail
 rw [<- HX.out]
 go_upto_region 5 with (first
  | ((with_reducible refine qak rfl rfl ?_); apply qaC.mk rfl; (focus (with_reducible exact B1.out)); dsimp only)
  | (go_at_call 34; ((with_reducible refine ((c1).out).mono ?_); rintro e w1 ⟨R, FR, rfl, hR, hb2, hFR⟩; have HR := qh hR; have HFR2 := qh hFR; have K2 := qh hb2; have cbR := cb R; clear hb2 hR hFR))
  | (refine qaT rfl (t := 88) (vs := [(0, .pointer (some ⟨_, 0, none⟩))]) rfl rfl cbR ?_))
 obtain ⟨X3, hX3⟩ : ∃ X3, X3 = w1.alloc (.cells #[.pointer (some ⟨R, 0, none⟩), .pointer none, .pointer none, .pointer none, .pointer none, .pointer none, .pointer none, .pointer none, .pointer none] 88) := ⟨_, rfl⟩
 have hb3 : Below w1.heap.size w1 X3 := by rw [hX3]; exact qac _ _
 have I3 := qh (show qhC RP QP b X1.heap.size R w1.heap.size [s.s] (fun _ => 0) (fun _ => Qu.new fr Co.in0) 0 X3 from by
  refine ⟨?_, ⟨FR, fun _ _ => False, CR.ob.keep HR.out (qaB.qa9 hb3) (fun _ _ h => h), fun j hj => absurd hj (Nat.not_lt_zero j), fun j hj => ⟨HFR2.out j hj, fun e => ?_⟩, fun i j hi => absurd hi (Nat.not_lt_zero i), fun i i' j hi => absurd hi (Nat.not_lt_zero i)⟩, K2.out.size, Nat.le_trans HB.out K1.out.size⟩
  · rw [Ck.qkW, hX3]; exact Box.made _ _ _
  · have := (CR.ob.up HR.out j hj).2; omega)
 have K3 := qh (show Below X.heap.size X X3 from (K1.out.trans (K2.out.mono K1.out.size)).trans (hb3.mono (Nat.le_trans K1.out.size K2.out.size)))
 have B3 := qh ((B1.out.below K2.out B1.out.lt).below hb3 (Nat.lt_of_lt_of_le B1.out.lt K2.out.size))
 have Z3 := qh (show X1.heap.size <= X3.heap.size from Nat.le_trans K2.out.size hb3.size)
 rw [<- hX3]
 clear hb3 hX3 HR K2 cb cbR
 generalize w1.heap.size = B at *
 go_wp2_with fail
 go_loopw [13] (fun i wr => ∃ k : Nat, k <= 8 /\ i = .int .i64 k /\ (∃ Q, qhC RP QP b X1.heap.size R B [s.s] Q (fun _ => Qu.new fr Co.in0) k wr) /\ Box wr X.heap.size 38 (Im.cells s.g (.slice s.A s.g.qaa.length s.c) s.r) /\ Below X.heap.size X wr /\ X1.heap.size <= wr.heap.size) (fun i _ => 8 - (intOf i).toNat)
 case atStart => exact ⟨0, Nat.zero_le _, rfl, ⟨_, I3.out⟩, B3.out, K3.out, Z3.out⟩
 case round =>
  obtain ⟨k, hk, rfl, ⟨Q, hI⟩, hBS, hW, hZ⟩ := hrel
  have IR := qh hI
  have BR := qh hBS
  have KW := qh hW
  have ZW := qh hZ
  clear hI hBS hW hZ I3 B3 K3 Z3
  by_cases hlt : k < 8
  · have hk8 : (k : Int) < 8 := by omega
    have hw1 := show IntKind.i64.wrap ((k : Int) + 1) = (k : Int) + 1 by rw [IntKind.wrap_i64]; omega
    have y0 := qh (show ∀ W, Below wr.heap.size wr W -> W.cell? ⟨X.heap.size, 0, none⟩ = some (.int .i64 fr) from fun W hW => by
     rw [HFR.out]
     exact ((BR.out.below hW BR.out.lt).cell 0).trans (Rg.St.first s))
    have hCN := qh (show ∀ W, Below wr.heap.size wr W -> Calls Tryz.prog 35 #[.int .i64 fr, .agg #[.int .i8 0, .int .i8 0, .int .u8 0]] W (fun x W' => ∃ N FN, x = .returned (.pointer (some ⟨N, 0, none⟩)) /\ QP b FN N (Qu.new fr Co.in0) W' /\ Below W.heap.size W W' /\ ∀ k, FN k -> W.heap.size <= k) from fun W hW => CQ.new b fr Co.in0 W (Nat.le_trans IR.out.low.2 (Nat.le_trans ZW.out hW.size)) (by omega) Co.qfK)
    go_upto_region 8 with fail
    refine Rz.qbF (by kernel_rfl) 6 10 (by kernel_rfl) (fun W => Below wr.heap.size wr W) (fun j vm W => qeh QP b wr.heap.size B k (Qu.new fr Co.in0) (j + 5) (fun i => vm (i - 5)) W) ((Below.refl _ _).drew) (fun j vm vm' W h1 h2 he hV => hV.congr (by simpa using he j (.inl rfl))) ?_
    simp only [List.take_succ_cons, List.take_zero, List.drop_succ_cons, List.drop_zero, Nat.reduceSub]
    refine Rz.qar (v := .pointer (some ⟨B, 0, none⟩)) (fun W hW => Rz.qaV rfl rfl) ?_
    refine Rz.qar (v := .int .i64 (k : Int)) (fun W hW => Rz.qaV rfl rfl) ?_
    refine Rz.qar (v := .pointer (some ⟨X.heap.size, 0, none⟩)) (fun W hW => ?_) ?_
    · go_simp
    refine Rz.qar (v := .pointer (some ⟨X.heap.size, 0, none⟩)) (fun W hW => ?_) ?_
    · go_simp
    simp only [Act.put, List.setIfInBounds_toArray, List.set_cons_succ, List.set_cons_zero]
    refine Rz.qar (v := .int .i64 fr) (fun W hW => ?_) ?_
    · have k1 := y0.out W hW; go_simp
    refine Rz.qar (v := .agg #[.int .i8 0, .int .i8 0, .int .u8 0]) (fun W hW => ?_) ?_
    · exact qeU (l := []) (vs := []) rfl rfl qpF
    simp only [Act.put, List.setIfInBounds_toArray, List.set_cons_succ, List.set_cons_zero]
    refine qbW (fun A => A.tmps.size = 28 /\ A.eval (.tmp 16) = .pointer (some ⟨B, 0, none⟩) /\ A.eval (.tmp 17) = .int .i64 (k : Int) /\ A.eval (.tmp 20) = .int .i64 fr /\ A.eval (.tmp 21) = .agg #[.int .i8 0, .int .i8 0, .int .u8 0]) ⟨rfl, rfl, rfl, rfl, rfl⟩ ?_ ?_
    · intro A1 hA1
      obtain ⟨hAs, h30, h32, h35, h40⟩ := hA1
      refine ⟨?_, ?_, ?_, ?_, trivial⟩
      · intro vm W hW hV
        refine qbk (f := 35) (args := #[.int .i64 fr, .agg #[.int .i8 0, .int .i8 0, .int .u8 0]]) (qb4 (fun _ _ => by go_simp) rfl ?_ ?_) ((hCN.out W hW).mono ?_)
        · simp only [Rz.qan]
          rw [Rz.qab (by decide), Rz.qab (by decide), Rz.qab (by decide), Rz.qab (by decide)]
          exact h35
        · simp only [Rz.qan]
          rw [Rz.qab (by decide), Rz.qab (by decide), Rz.qab (by decide), Rz.qab (by decide)]
          exact h40
        · rintro x W' ⟨N, FN, rfl, h1, hb, h2⟩
          exact ⟨_, rfl, .inl ⟨rfl, N, FN, by simp [Rz.upd], h1, fun k hk => Nat.le_trans hW.size (h2 k hk)⟩, hW.trans (hb.mono hW.size), fun j _ _ _ h => h.below CQ hb⟩
      · intro vm W hW hV
        refine qaH (w' := W) (qa4 (ad := ⟨B, 0, none⟩) rfl ?_) ⟨.inr (.inl ⟨rfl, by simp [Rz.upd]⟩), hW, fun j _ _ _ h => h⟩
        simp only [Rz.qan]
        rw [Rz.qab (by decide), Rz.qab (by decide), Rz.qab (by decide), Rz.qab (by decide)]
        exact h30
      · intro vm W hW hV
        have e12 := (hV 7 (by omega) (by omega) (by kernel_rfl)).v12
        refine qaH (w' := W) (qfO (B := B) rfl ?_) ⟨.inr (.inr (.inl ⟨rfl, by simp [Rz.upd]⟩)), hW, fun j _ _ _ h => h⟩
        simp only [Rz.qan]
        rw [Rz.qab (by decide), Rz.qab (by decide), Rz.qaE (by simp only [Rz.qaD, hAs]; decide)]
        exact e12
      · intro vm W hW hV
        have e13 := (hV 8 (by omega) (by omega) (by kernel_rfl)).v13
        refine qaH (w' := W) (qg8 (B := B) (k := k) rfl ?_ ?_ hlt) ⟨.inr (.inr (.inr ⟨rfl, by simp [Rz.upd]⟩)), hW, fun j _ _ _ h => h⟩
        · simp only [Rz.qan]
          rw [Rz.qab (by decide), Rz.qaE (by simp only [Rz.qaD, hAs]; decide)]
          exact e13
        · simp only [Rz.qan]
          rw [Rz.qab (by decide), Rz.qab (by decide), Rz.qab (by decide), Rz.qab (by decide)]
          exact h32
    · intro vm W hW hV
      obtain ⟨N, FN, e11, hN, hF⟩ := (hV 6 (by omega) (by omega)).v11
      have e14 := (hV 9 (by omega) (by omega)).v14
      have e11 : vm 6 = .pointer (some ⟨N, 0, none⟩) := e11
      have e14 : vm 9 = .pointer (some ⟨B, 1 + k, none⟩) := e14
      have I6 := qh (IR.out.next CR CQ hlt hW hN hF rfl ZW.out)
      have hbx := (IR.out.call CR CQ hW).box
      have xc := (hbx.cell (1 + k)).trans (Ck.qn7 _ _ k k hlt)
      have xf := hbx.free (1 + k)
      have xl := hbx.lt
      have hlow := IR.out.low.1
      have KW2 := qh ((KW.out.trans (hW.mono KW.out.size)).setCell (p := ⟨B, 1 + k, none⟩) (Nat.le_trans K1.out.size hlow) (Ck.ptr N))
      have B6 := qh ((BR.out.below hW BR.out.lt).far (p := ⟨B, 1 + k, none⟩) (show X.heap.size ≠ B by have h := B1.out.lt; omega) (Ck.ptr N))
      have Z6 := qh (show X1.heap.size <= (W.setCell ⟨B, 1 + k, none⟩ (Ck.ptr N)).heap.size by rw [World.size_setCell]; exact Nat.le_trans ZW.out hW.size)
      clear hW hV hN hF hbx hCN y0 BR IR
      simp only [Rz.qan, e11, e14]
      clear e11 e14
      go_wp2_with fail
      go_roundw
      case rel => exact ⟨k + 1, by omega, by go_num, ⟨_, I6.out⟩, B6.out, KW2.out, Z6.out⟩
      case measure => simp [intOf]; omega
  · obtain rfl : k = 8 := by omega
    have hk8 : ¬ ((8 : Nat) : Int) < 8 := by omega
    go_wp2_with fail
    go_ret
    obtain ⟨F, hK, hFk⟩ := IR.out.whole CR CQ
    have hnew := Co.qlQ HF.out
    refine ⟨B, rfl, F, ⟨hnew, R, Q, ?_⟩, KW.out, fun k hk => Nat.le_trans K1.out.size (hFk k hk)⟩
    have e1 : Co.sts (Co.new s.s) = [s.s] := by
     unfold Co.sts
     show Co.row _ _ s.s (s.g.frame - s.g.frame).toNat = _
     rw [Int.sub_self]
     rfl
    have e2 : (Co.new s.s).q = fun _ => Qu.new fr Co.in0 := by rw [HFR.out]; rfl
    rw [e1, e2]
    exact hK
end
abbrev qko := Nat -> (Nat -> Prop) -> Nat -> Co.M -> World -> Prop
def i64R (f : Int) : Prop := -9223372036854775808 <= f /\ f <= 9223372036854775807
structure qlE (LP : qko) : Prop where
 ob : ObjC LP
 ok : ∀ {b F B m X}, LP b F B m X -> Co.Ok m
 new_yes : ∀ (b : Nat) (q : Rg.St) (X : World), b <= X.heap.size -> Fd.Fine q.s -> Lies X X.heap.size 6 q.A q.g.qaa.length (Gm.qad q.g.qaa) -> Calls Tryz.prog 14 #[.agg q.arr] X fun e X' => ∃ B, e = .returned (.pointer (some ⟨B, 0, none⟩)) /\ ∃ F, LP b F B (Co.new q.s) X' /\ Below X.heap.size X X' /\ ∀ k, F k -> X.heap.size <= k
 new_no : ∀ (q : Rg.St) (X : World), Gm.ty q.g -> ¬ Im.Ok q.g q.r -> q.g.qaa.length <= maxLen -> Lies X X.heap.size 6 q.A q.g.qaa.length (Gm.qad q.g.qaa) -> Calls Tryz.prog 14 #[.agg q.arr] X fun e X' => e = .returned (.pointer none) /\ Below X.heap.size X X'
 input : ∀ (b : Nat) (F : Nat -> Prop) (B : Nat) (m : Co.M) (slot gen frame : Int), i64R frame -> ∀ (i : Gm.In), Gm.tyIn i -> ∀ X, LP b F B m X -> b <= X.heap.size -> Calls Tryz.prog 26 #[.pointer (some ⟨B, 0, none⟩), .int .i64 slot, .int .i64 gen, .int .i64 frame, .agg (Qu.qao i)] X (qbN LP b F B (Co.input m slot gen frame i) (.bool (Co.qcm m slot gen frame i)) X)
 advance : ∀ (b : Nat) (F : Nat -> Prop) (B : Nat) (m : Co.M) X, LP b F B m X -> b <= X.heap.size -> Calls Tryz.prog 25 #[.pointer (some ⟨B, 0, none⟩)] X (qbN LP b F B (Co.advance m) (.int .i64 (Co.qbt m)) X)
 qbR : ∀ (b : Nat) (F : Nat -> Prop) (B : Nat) (m n : Co.M) (e : En.E) (A2 : Option Addr) (n2 c2 : Nat), n2 = e.evs.length -> n2 <= maxLen -> (∀ i, i < 8 -> Gm.tyIn (e.inp i)) -> Co.confirm m e = some n -> ∀ X, Lies X X.heap.size 4 A2 n2 (En.qa2 e.evs) -> (n2 ≠ 0 -> ∀ ad, A2 = some ad -> ¬ F ad.block) -> LP b F B m X -> b <= X.heap.size -> Calls Tryz.prog 27 #[.pointer (some ⟨B, 0, none⟩), .agg (En.cells e (.slice A2 n2 c2))] X (qbN LP b F B n (.int .i64 0) X)
 confirm_none : ∀ (b : Nat) (F : Nat -> Prop) (B : Nat) (m : Co.M) (e : En.E) (A2 : Option Addr) (n2 c2 : Nat), n2 = e.evs.length -> n2 <= maxLen -> (∀ i, i < 8 -> Gm.tyIn (e.inp i)) -> Co.confirm m e = none -> ∀ X, Lies X X.heap.size 4 A2 n2 (En.qa2 e.evs) -> (n2 ≠ 0 -> ∀ ad, A2 = some ad -> ¬ F ad.block) -> LP b F B m X -> b <= X.heap.size -> Calls Tryz.prog 27 #[.pointer (some ⟨B, 0, none⟩), .agg (En.cells e (.slice A2 n2 c2))] X (qbN LP b F B m (.int .i64 1) X)
 confirmed : ∀ (b : Nat) (F : Nat -> Prop) (B : Nat) (m : Co.M) X, LP b F B m X -> Calls Tryz.prog 18 #[.pointer (some ⟨B, 0, none⟩)] X (qhB m.conf X)
 shown : ∀ (b : Nat) (F : Nat -> Prop) (B : Nat) (m : Co.M) X, LP b F B m X -> Calls Tryz.prog 20 #[.pointer (some ⟨B, 0, none⟩)] X (qhB m.shown X)
 qa3 : ∀ (b : Nat) (F : Nat -> Prop) (B : Nat) (m : Co.M) X, LP b F B m X -> Calls Tryz.prog 19 #[.pointer (some ⟨B, 0, none⟩)] X (qiY m.qa3 X)
 adv0 : ∀ X, Calls Tryz.prog 25 #[.pointer none] X fun e X' => e = .returned (.int .i64 3) /\ Below X.heap.size X X'
 guess0 : ∀ X, Calls Tryz.prog 19 #[.pointer none] X fun e X' => e = .returned (.slice none 0 0) /\ Below X.heap.size X X'
 confirm0 : ∀ cs X, Calls Tryz.prog 27 #[.pointer none, .agg cs] X fun e X' => e = .returned (.int .i64 3) /\ Below X.heap.size X X'
 input0 : ∀ (slot gen frame x y b : Int) X, Calls Tryz.prog 26 #[.pointer none, .int .i64 slot, .int .i64 gen, .int .i64 frame, .agg #[.int .i8 x, .int .i8 y, .int .u8 b]] X fun e X' => e = .returned (.bool false) /\ Below X.heap.size X X'
theorem qhv (cs : Array Value) (X : World) : Calls Tryz.prog 27 #[.pointer none, .agg cs] X fun e X' => e = .returned (.int .i64 3) /\ Below X.heap.size X X' := by
 obtain ⟨X1, hX1⟩ : ∃ X1, X1 = X.alloc (.cells cs 52) := ⟨_, rfl⟩
 have K1 := qh (show Below X.heap.size X X1 by rw [hX1]; exact qac X _)
 have c0 := qh (qeb X1)
 have HX := qh hX1
 clear hX1
 go_enter Tryz.func27, Tryz.ntmps27
 go_upto_region 1 with fail
 rw [<- HX.out]
 go_wp2_with (go_at_call 42; ((with_reducible refine ((c0).out).mono ?_); rintro e w1 ⟨rfl, rfl⟩))
 go_ret
 exact ⟨rfl, K1.out⟩
theorem qjA (slot gen frame x y b : Int) (X : World) : Calls Tryz.prog 26 #[.pointer none, .int .i64 slot, .int .i64 gen, .int .i64 frame, .agg #[.int .i8 x, .int .i8 y, .int .u8 b]] X fun e X' => e = .returned (.bool false) /\ Below X.heap.size X X' := by
 obtain ⟨X1, hX1⟩ : ∃ X1, X1 = X.alloc (.cells #[.int .i8 x, .int .i8 y, .int .u8 b] 48) := ⟨_, rfl⟩
 have K1 := qh (show Below X.heap.size X X1 by rw [hX1]; exact qac X _)
 have c0 := qh (fun (w : Ext X1.heap.size X1) => (qeb w.w).mono fun e w' hh => show e = .returned (.bool true) /\ Below w.w.heap.size w.w w' from ⟨hh.1, by rw [<- hh.2]; exact Below.refl _ _⟩)
 have HX := qh hX1
 clear hX1
 go_enter Tryz.func26, Tryz.ntmps26
 go_upto_region 1 with fail
 rw [<- HX.out]
 refine qby X1.heap.size X1 (by kernel_rfl) (by kernel_rfl) (Below.refl _ _) ?_
 repeat (go_big_quiet_step (first | (go_at_call 42; with_reducible exact Calls.qcn (Nat.le_refl _) (c0.out _)) | fail))
 refine wpQuiet_nil ?_
 intro _ hw'
 obtain ⟨q5, hw''⟩ := hw'
 subst hw''
 have R5 := qh (K1.out.trans (q5.h.mono K1.out.size))
 go_wp2_with fail
 go_ret
 exact ⟨rfl, R5.out⟩
theorem Co.qiS {m n : Co.M} {e : En.E} (h : Co.confirm m e = some n) : ∃ u, Fd.apply m.conf e = some u := by
 unfold Co.confirm at h
 cases ha : Fd.apply m.conf e with
 | none => rw [ha] at h; cases h
 | some u => exact ⟨u, rfl⟩
theorem Co.qhe {m : Co.M} {e : En.E} (h : Co.confirm m e = none) : Fd.apply m.conf e = none := by
 unfold Co.confirm at h
 cases ha : Fd.apply m.conf e with
 | none => rfl
 | some u => rw [ha] at h; cases h
theorem coreC {RP : qcJ} {QP : QuP} (CR : qdM RP) (CQ : qcq QP) : qlE (PrgC RP QP) where
 ob := PrgC.obj CR CQ
 ok := fun h => h.ok
 new_yes := fun b q X hb hf hL => (qmA CR CQ q hf hb hL).mono fun e X' hh => by
  obtain ⟨B, F, h1, h2⟩ := hh
  exact ⟨B, h1, F, h2⟩
 new_no := fun q X hty hok hnm hL => qn4 CR q hty hok hnm hL
 input := fun b F B m slot gen frame hfr i hi X h hb => by
  cases hh : hasB m.conf.r slot gen with
  | false =>
   have e1 : Co.qcm m slot gen frame i = false := by rw [Co.qds, hh]; rfl
   have e2 : Co.input m slot gen frame i = m := by unfold Co.input; rw [if_neg (by rw [e1]; decide)]
   rw [e1, e2]
   exact qkT CR CQ slot gen frame i hh h hb
  | true =>
   have hd : 0 <= slot /\ slot < 8 /\ 0 <= m.conf.r.peer slot.toNat /\ m.conf.r.gen slot.toNat = gen := by unfold hasB at hh; exact of_decide_eq_true hh
   obtain ⟨k, rfl⟩ : ∃ k : Nat, slot = k := ⟨slot.toNat, by omega⟩
   have e1 : Co.qcm m k gen frame i = Qu.qbT (m.q k) frame i := by rw [Co.qds, hh]; rfl
   rw [e1]
   exact qkU CR CQ k (by omega) gen frame hfr i hi hh h hb
 advance := fun b F B m X h hb => qmC CR CQ h hb
 qbR := fun b F B m n e A2 n2 c2 h1 h2 h3 hc X hE hA h hb => by
  obtain ⟨u, hu⟩ := Co.qiS hc
  exact qgK CR CQ e A2 n2 c2 h1 h2 h3 u hu n hc hE hA h hb
 confirm_none := fun b F B m e A2 n2 c2 h1 h2 h3 hc X hE hA h hb => qgL CR CQ e A2 n2 c2 h1 h2 h3 (Co.qhe hc) hE hA h hb
 confirmed := fun b F B m X h => by
  obtain ⟨hok, R, Q, h⟩ := h
  exact qdu (m := ⟨R, Q, Co.sts m, m.q⟩) CR CQ hok.rows m.conf (Co.qc9 m) h
 shown := fun b F B m X h => by
  obtain ⟨hok, R, Q, h⟩ := h
  exact qlg (m := ⟨R, Q, Co.sts m, m.q⟩) CR CQ hok.rows m.shown hok.qnr h
 qa3 := fun b F B m X h => qjC CR CQ h
 adv0 := qmB
 guess0 := qjB
 confirm0 := qhv
 input0 := qjA
abbrev P16 (LP : qko) := qb1 LP
section
variable {LP : qko} (C : qlE LP) {w : World} {B : Nat} {m : Co.M} {G : Nat -> Prop} {X X' : World}
include C
theorem P16.new (q : Rg.St) (hf : Fd.Fine q.s) (hL : Lies X X.heap.size 6 q.A q.g.qaa.length (Gm.qad q.g.qaa)) (hw : Below w.heap.size w X) (hG : ∀ j, G j -> w.heap.size <= j /\ j < X.heap.size) :
 Calls Tryz.prog 14 #[.agg q.arr] X fun e X' => ∃ B, e = .returned (.pointer (some ⟨B, 0, none⟩)) /\ P16 LP w B (Co.new q.s) G X' /\ Below X.heap.size X X' := by
 refine (C.new_yes w.heap.size q X hw.size hf hL).mono fun e X' => ?_
 rintro ⟨B, rfl, F, h1, h2, h3⟩
 exact ⟨B, rfl, qb1.new h1 h3 hw hG h2, h2⟩
theorem P16.input (slot gen frame : Int) (hf : i64R frame) (i : Gm.In) (hi : Gm.tyIn i) (h : P16 LP w B m G X) :
 Calls Tryz.prog 26 #[.pointer (some ⟨B, 0, none⟩), .int .i64 slot, .int .i64 gen, .int .i64 frame, .agg (Qu.qao i)] X fun e X' => e = .returned (.bool (Co.qcm m slot gen frame i)) /\ P16 LP w B (Co.input m slot gen frame i) G X' /\ qlD G X X' := by
 obtain ⟨F, h1, h2, h3⟩ := h
 exact (C.input _ F B m slot gen frame hf i hi X h1 h3.size).mono fun e X' h => qb1.says C.ob h1 h2 h3 h
theorem P16.advance (h : P16 LP w B m G X) :
 Calls Tryz.prog 25 #[.pointer (some ⟨B, 0, none⟩)] X fun e X' => e = .returned (.int .i64 (Co.qbt m)) /\ P16 LP w B (Co.advance m) G X' /\ qlD G X X' := by
 obtain ⟨F, h1, h2, h3⟩ := h
 exact (C.advance _ F B m X h1 h3.size).mono fun e X' h => qb1.says C.ob h1 h2 h3 h
theorem P16.qbR {n : Co.M} (e : En.E) (A2 : Option Addr) (n2 c2 : Nat) (g1 : n2 = e.evs.length) (g2 : n2 <= maxLen) (g3 : ∀ i, i < 8 -> Gm.tyIn (e.inp i)) (hc : Co.confirm m e = some n) (hE : Lies X X.heap.size 4 A2 n2 (En.qa2 e.evs)) (hA : n2 ≠ 0 -> ∀ ad, A2 = some ad -> G ad.block \/ ad.block < w.heap.size) (h : P16 LP w B m G X) :
 Calls Tryz.prog 27 #[.pointer (some ⟨B, 0, none⟩), .agg (En.cells e (.slice A2 n2 c2))] X fun x X' => x = .returned (.int .i64 0) /\ P16 LP w B n G X' /\ qlD G X X' := by
 obtain ⟨F, h1, h2, h3⟩ := h
 refine (C.qbR _ F B m n e A2 n2 c2 g1 g2 g3 hc X hE (fun h0 ad ea hf => ?_) h1 h3.size).mono fun e X' h => qb1.says C.ob h1 h2 h3 h
 rcases hA h0 ad ea with hg | hg
 · exact (h2 _ hg).1 hf
 · have := (C.ob.up h1 _ hf).1; omega
theorem P16.confirmed (h : P16 LP w B m G X) :
 Calls Tryz.prog 18 #[.pointer (some ⟨B, 0, none⟩)] X fun e X' => qhB m.conf X e X' /\ P16 LP w B m G X' := by
 obtain ⟨F, h1, h2, h3⟩ := h
 exact (C.confirmed _ F B m X h1).mono fun e X' h => ⟨h, qb1.below C.ob ⟨F, h1, h2, h3⟩ (by obtain ⟨_, _, _, _, h⟩ := h; exact h)⟩
theorem P16.shown (h : P16 LP w B m G X) :
 Calls Tryz.prog 20 #[.pointer (some ⟨B, 0, none⟩)] X fun e X' => qhB m.shown X e X' /\ P16 LP w B m G X' := by
 obtain ⟨F, h1, h2, h3⟩ := h
 exact (C.shown _ F B m X h1).mono fun e X' h => ⟨h, qb1.below C.ob ⟨F, h1, h2, h3⟩ (by obtain ⟨_, _, _, _, h⟩ := h; exact h)⟩
theorem P16.qa3 (h : P16 LP w B m G X) :
 Calls Tryz.prog 19 #[.pointer (some ⟨B, 0, none⟩)] X fun e X' => qiY m.qa3 X e X' /\ P16 LP w B m G X' := by
 obtain ⟨F, h1, h2, h3⟩ := h
 exact (C.qa3 _ F B m X h1).mono fun e X' h => ⟨h, qb1.below C.ob ⟨F, h1, h2, h3⟩ (by obtain ⟨_, _, _, _, h⟩ := h; exact h)⟩
end
open Go.RowKit
theorem qkJ (a : Int) (wa : -128 <= a /\ a <= 127) (w : World) :
 Calls Tryz.prog 109 #[.int .i8 a] w fun e w' => e = .returned (.int .i8 (Gf.tame a)) /\ w = w' := by
 go_enter Tryz.func109, Tryz.ntmps109
 go_wp2
 · go_ret
   exact ⟨qbL (by unfold Gf.tame; simp_all), rfl⟩
 · go_ret
   exact ⟨qbL (by unfold Gf.tame; simp_all), rfl⟩
theorem qmu (g : Gm.G) (v : Value) (s : Gm.Shot) (w : World) (hg : ∀ i, i < 8 -> Gm.qdK (g.ship i)) (hs : Gm.qdN s) :
 Calls Tryz.prog 113 #[.agg (Gm.cells g v), .agg s.cells.toArray] w fun e w' => e = .returned (.int .i64 (Gm.hit g.ship s)) /\ Below w.heap.size w w' := by
 obtain ⟨owner, sx, sy, svx, svy, left⟩ := s
 obtain ⟨t1, t2, t3, t4, t5, t6⟩ := hs
 simp only [Gm.i32, Gm.i64] at t1 t2 t3 t4 t5 t6
 simp only [Gm.Shot.cells]
 go_enter Tryz.func113, Tryz.ntmps113
 go_wp2
 go_loopw [5] (fun i wr => ∃ k : Nat, k <= 8 /\ i = .int .i64 k /\ Box wr w.heap.size 31 (Gm.cells g v) /\ Box wr (w.heap.size + 1) 80 #[.int .i64 owner, .int .i32 sx, .int .i32 sy, .int .i32 svx, .int .i32 svy, .int .i64 left] /\ Below w.heap.size w wr /\
  Hid (Gm.hit g.ship ⟨owner, sx, sy, svx, svy, left⟩ = Gm.qcZ g.ship ⟨owner, sx, sy, svx, svy, left⟩ (8 - k) k)) (fun i _ => 8 - (intOf i).toNat)
 case atStart => exact ⟨0, by omega, rfl, (Box.made _ _ _).alloc _, Box.qaq _ _ _ (by simp), qap _ _ _, qh rfl⟩
 case round =>
  obtain ⟨k, hk, rfl, hB, hC, hb, hh⟩ := hrel
  by_cases hlt : k < 8
  · have hcr := hB.cell
    have hds := hC.cell
    have hlB := hB.lt
    have e0 := qaY hcr hlt 0 (by omega)
    have e1 := qaY hcr hlt 1 (by omega)
    have e2 := qaY hcr hlt 2 (by omega)
    have ho := hg k hlt
    have hq : Gm.qcD g.ship ⟨owner, sx, sy, svx, svy, left⟩ k = ((g.ship k).on && (decide ((k : Int) ≠ owner) && Gf.hits sx sy (g.ship k).x (g.ship k).y)) := rfl
    have HQ := qh hq
    clear hq
    generalize g.ship k = s at e0 e1 e2 ho HQ
    obtain ⟨on, x, y, vx, vy, cool, score⟩ := s
    simp only [Gm.Ship.cells, List.getElem?_cons_zero, List.getElem?_cons_succ, Nat.add_zero] at e0 e1 e2
    obtain ⟨o1, o2, o3, o4, o5, o6⟩ := ho
    simp only [Gm.i32] at o1 o2
    dsimp only at HQ
    have f0 := hds 0
    have f1 := hds 1
    have f2 := hds 2
    simp only [List.getElem?_toArray, List.getElem?_cons_zero, List.getElem?_cons_succ] at f0 f1 f2
    have hk8 : (k : Int) < 8 := by omega
    clear hcr hds
    have HN : Gm.qcD g.ship ⟨owner, sx, sy, svx, svy, left⟩ k = false -> Hid (Gm.hit g.ship ⟨owner, sx, sy, svx, svy, left⟩ = Gm.qcZ g.ship ⟨owner, sx, sy, svx, svy, left⟩ (8 - (k + 1)) (k + 1)) := fun h => qh (by
     rw [hh.out, show 8 - k = (8 - (k + 1)) + 1 from by omega, Gm.qcT h])
    have HY : Gm.qcD g.ship ⟨owner, sx, sy, svx, svy, left⟩ k = true -> Gm.hit g.ship ⟨owner, sx, sy, svx, svy, left⟩ = (k : Int) := fun h => by
     rw [hh.out, show 8 - k = (8 - (k + 1)) + 1 from by omega, Gm.qes h]
    rw [HQ.out] at HN HY
    have HN := qh HN
    have HY := qh HY
    clear hh HQ
    cases on
    · have HN := HN.out (by simp)
      clear HY
      go_wp2_with fail
      go_quiet (fail)
      go_wp2
      go_roundw
      case rel => exact ⟨k + 1, by omega, by go_num, hB.draws _, hC.draws _, qaA hb _, HN⟩
      case measure => simp [intOf]; omega
    · by_cases hko : (k : Int) = owner
      · have hko' : ((k : Int) != owner) = false := by simpa using hko
        have HN := HN.out (by simp [hko])
        clear HY hko
        go_wp2_with fail
        go_quiet (fail)
        go_wp2
        go_roundw
        case rel => exact ⟨k + 1, by omega, by go_num, hB.draws _, hC.draws _, qaA hb _, HN⟩
        case measure => simp [intOf]; omega
      · have hko' : ((k : Int) != owner) = true := by simpa using hko
        cases hH : Gf.hits sx sy x y
        · have HN := HN.out (by simp [hH])
          have c1 := fun X => qh (qgG sx sy x y t2 t3 o1 o2 X)
          rw [hH] at c1
          clear HY hko hH
          go_wp2_with fail
          go_quiet ((go_at_call 139; with_reducible exact qb9 (c1 _).out))
          go_wp2
          go_roundw
          case rel => exact ⟨k + 1, by omega, by go_num, hB.draws _, hC.draws _, qaA hb _, HN⟩
          case measure => simp [intOf]; omega
        · have HY := HY.out (by simp [hH, hko])
          have HY := qh HY
          have c1 := fun X => qh (qgG sx sy x y t2 t3 o1 o2 X)
          rw [hH] at c1
          clear HN hko hH
          go_wp2_with fail
          go_quiet ((go_at_call 139; with_reducible exact qb9 (c1 _).out))
          go_wp2
          go_ret
          exact ⟨qbL HY.out.symm, qaA hb _⟩
  · have hk8 : ¬ (k : Int) < 8 := by omega
    have HH := qh (show Gm.hit g.ship ⟨owner, sx, sy, svx, svy, left⟩ = -1 by rw [hh.out, show 8 - k = 0 from by omega]; rfl)
    clear hh
    go_wp2
    go_ret
    exact ⟨qbL HH.out.symm, hb⟩
end Go.Proofs.YtmiopphcfdlneaaGreat