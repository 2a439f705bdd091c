/-
Several texts in one: Ckg Ckh Qt Cki Rgo Rgu Ckj.
-/
import Derived.Test.YtmiopphcfdlneaaGreatCx12
set_option maxRecDepth 100000
set_option maxHeartbeats 8000000
set_option linter.unusedVariables false
set_option linter.unusedSimpArgs false
namespace Go.Proofs.YtmiopphcfdlneaaGreat
open Go Go.RowKit
theorem InO.laid {μ : Type} {LP : Nat -> (Nat -> Prop) -> Nat -> μ -> World -> Prop} (C : ObjC LP) {b B : Nat} {F0 : Nat -> Prop} {X0 X X' : World} {m : μ} {L L2 : List (Nat × TypeId × Array Value)} (h : InO LP b F0 X0 B m L X) (hb : Below X.heap.size X X') (h2 : ∀ p ∈ L2, X.heap.size <= p.1 /\ Box X' p.1 p.2.1 p.2.2) : InO LP b F0 X0 B m (L2 ++ L) X' := by
 obtain ⟨F, h1, h3, h4⟩ := h.fr
 have k := h.call C hb
 refine ⟨⟨F, C.keep h1 (qaB.qa9 hb) (fun _ _ h => h), h3, fun p hp hf => ?_⟩, k.keep, fun p hp => ?_, h.low⟩
 · rcases List.mem_append.1 hp with hp | hp
   · have := (C.up h1 _ hf).2
     have := (h2 p hp).1
     omega
   · exact h4 p hp hf
 · rcases List.mem_append.1 hp with hp | hp
   · exact ⟨Nat.le_trans h.keep.size (h2 p hp).1, (h2 p hp).2⟩
   · exact k.own p hp
theorem InO.at_ {μ : Type} {LP : Nat -> (Nat -> Prop) -> Nat -> μ -> World -> Prop} {b B : Nat} {F0 : Nat -> Prop} {X0 X : World} {m : μ} {L : List (Nat × TypeId × Array Value)} (h : InO LP b F0 X0 B m L X) : ∃ F, LP b F B m X := by
 obtain ⟨F, h1, _⟩ := h.fr
 exact ⟨F, h1⟩
theorem qj4 (f : Int) (v : Nat -> Gm.In) : Tryz.prog.built 52 [(0, .int .i64 f), (2, .agg (Gm.qai v).toArray)] = some (En.cells ⟨f, [], v⟩ (.slice none 0 0)) := by kernel_rfl
theorem qeU {o : Oper} {a : Act} {w : World} {t : TypeId} {l : List (Nat × Operand)} {vs : List (Nat × Value)} {cs : Array Value} (ho : o.op = .build t l.toArray) (hv : (l.map fun (i, x) => (i, a.eval x)) = vs) (hb : Tryz.prog.built t vs = some cs) : (execOp a.eval o).run Tryz.prog w = .ok (.value (.agg cs)) w := by
 have e : (l.toArray.map fun (i, x) => (i, a.eval x)).toList = vs := by rw [<- hv]; simp
 unfold execOp
 simp only [ho, Sem.run_bind, run_build w t _ cs (by rw [e]; exact hb), Result.andThen_ok]
 rfl
theorem qeI (w : World) (k : Nat) : Lies w w.heap.size k none 0 [] := ⟨by simp, fun h => absurd rfl h, fun ad e => by cases e⟩
section
variable {RP : qcJ} {QP : QuP} (CR : qdM RP) (CQ : qcq QP) {b B : Nat} {F : Nat -> Prop} {m : Ck.K} {X : World}
include CR CQ
theorem qdV (ho : Rg.Ok m.M) (s : Fd.S) (hs : Rg.at_ m.M (Rg.first m.M) = some s) (i d : Nat) (frm til : Int) (hfr : frm = s.g.frame + i) (hW : Co.Way s.r m.q s (i + d)) (h8 : i + d <= 8) (hcut : Rg.cut m.M frm = Co.row s.r m.q s i) (hto : til = frm + d \/ (d = 0 /\ til <= frm)) (hlo : 0 <= til) (h : qaS RP QP b F B m X) (hb : b <= X.heap.size) :
 Calls Tryz.prog 56 #[.pointer (some ⟨B, 0, none⟩), .int .i64 frm, .int .i64 til] X (qbN (qaS RP QP) b F B { m with M := Co.row s.r m.q s (i + d) } (.int .i64 0) X) := by
 have hf0 := hW.fine.ok.1.1
 have hf1 := hW.top
 have CC := qaS.obj CR CQ
 have I0 := qh (InO.start h hb)
 have c1 := qh (qeZ CR CQ ho s hs h)
 have c2 := qh (show ∀ L W, InO (qaS RP QP) b F X B m L W -> Calls Tryz.prog 59 #[.pointer (some ⟨m.R, 0, none⟩), .int .i64 frm] W (fun e W' => e = .returned (.bool (Rg.hasB m.M frm)) /\ InO (qaS RP QP) b F X B { m with M := Co.row s.r m.q s i } L W') from fun L W hI => hI.ask fun F1 h1 => qaS.ring CR CQ h1 fun FR hR => by
  rw [<- hcut]
  exact CR.cut b FR m.R m.M ho frm (by omega) _ hR hI.down)
 have HW := qh hW
 have hbk : Box X B 88 (Ck.cells m.R m.Q) := h.box
 have HBX := qh hbk
 have hfb : 0 <= frm /\ frm + d <= 1048576 := by omega
 have HFRM := qh hfr
 have HTO := qh hto
 clear hs h hcut hbk hb hfr hto
 go_enter Tryz.func56, Tryz.ntmps56
 go_wp2_with (first
  | (go_at_call 45; ((with_reducible refine ((c1).out).mono ?_); rintro e w1 ⟨S, P, rfl, ⟨hS, hP, hne⟩, hSl, hPl, hb1⟩; have I1 := qh (I0.out.laid CC hb1 (L2 := [(S, 34, (Ros.qaP s.r).toArray), (P, 41, #[.pointer (some ⟨B, 0, none⟩)])]) (fun p hp => by rcases List.mem_cons.1 hp with rfl | hp; exact ⟨hSl, hS⟩; obtain rfl := List.mem_singleton.1 hp; exact ⟨hPl, hP⟩)); have k1 : w1.cell? ⟨B, 0, none⟩ = some (.pointer (some ⟨m.R, 0, none⟩)) := (HBX.out.below hb1 HBX.out.lt).cell 0; have NE := qh hne; clear hS hP hne hSl hPl hb1))
  | (go_at_call 59; ((with_reducible refine ((c2.out _ _ I1.out)).mono ?_); rintro e w2 ⟨rfl, hI⟩; have I2 := qh hI; clear hI k1)))
 clear c1 I0 I1 HBX
 go_loopw [8] (fun fr wr => ∃ k : Nat, k <= d /\ fr = .int .i64 (frm + k) /\ InO (qaS RP QP) b F X B { m with M := Co.row s.r m.q s (i + k) } [(S, 34, (Ros.qaP s.r).toArray), (P, 41, #[.pointer (some ⟨B, 0, none⟩)])] wr) (fun fr _ => d - (intOf fr - frm).toNat)
 case atStart => exact ⟨0, Nat.zero_le _, by rw [show frm + ((0 : Nat) : Int) = frm by omega], I2.out⟩
 case round =>
  obtain ⟨k, hk, rfl, hI⟩ := hrel
  have IR := qh hI
  clear hI I2
  by_cases hlt : k < d
  · have hlt2 : frm + (k : Int) < til := by have := HTO.out; omega
    obtain ⟨fr, hfrk⟩ : ∃ fr, fr = frm + (k : Int) := ⟨_, rfl⟩
    have hw1 := show IntKind.i64.wrap (fr + 1) = fr + 1 by rw [IntKind.wrap_i64]; omega
    rw [<- hfrk] at hlt2 ⊢
    have HFK := qh hfrk
    obtain ⟨s1, hs1⟩ : ∃ s1, s1 = Co.st s.r m.q s (i + k) := ⟨_, rfl⟩
    obtain ⟨t1, ht1⟩ : ∃ t1, t1 = Co.st s.r m.q s (i + (k + 1)) := ⟨_, rfl⟩
    obtain ⟨f1, r1, g1⟩ := HW.out.st (i + k) (by omega)
    obtain ⟨f2, r2, g2⟩ := HW.out.st (i + (k + 1)) (by omega)
    rw [<- hs1] at f1 r1 g1
    rw [<- ht1] at f2 r2 g2
    have hap := HW.out.apply (i + k) (by omega)
    have efr : s.g.frame + ((i + k : Nat) : Int) = fr := by rw [hfrk, HFRM.out]; push_cast; omega
    rw [efr, <- hs1, show i + k + 1 = i + (k + 1) by omega, <- ht1] at hap
    obtain ⟨vv, hvv⟩ : ∃ v, v = Co.vec s.r m.q fr := ⟨_, rfl⟩
    rw [<- hvv] at hap
    have hvin : ∀ i, i < 8 -> Gm.tyIn (vv i) := fun j hj => by rw [hvv]; exact (Co.qpX HW.out.q fr j).2
    have hrow : Rg.Ok (Co.row s.r m.q s (i + k)) := (HW.out.less (by omega)).ok (by omega)
    have hat : Rg.at_ (Co.row s.r m.q s (i + k)) fr = some s1 := by rw [hs1, <- efr]; exact Co.qf5 _ _ _ _ _ (Nat.le_refl _)
    have hpu := (HW.out.push (i + k) (by omega) h8).2
    rw [show i + k + 1 = i + (k + 1) by omega, <- ht1] at hpu
    have CT := qh (show Calls Tryz.prog 43 #[.pointer (some ⟨m.R, 0, none⟩), .int .i64 fr] wr (qkm s1 wr) from by
     obtain ⟨F1, h1⟩ := IR.out.at_
     obtain ⟨FR, FQ, hR, _⟩ := h1.fr
     exact CR.at_yes b FR m.R _ hrow fr s1 hat wr hR)
    have k2 : wr.cell? ⟨B, 0, none⟩ = some (.pointer (some ⟨m.R, 0, none⟩)) := by
     obtain ⟨F1, h1⟩ := IR.out.at_
     exact h1.box.cell 0
    have HVV := qh hvv
    have HAP := qh hap
    have HF1 := qh f1
    have HF2 := qh f2
    have HVI := qh hvin
    have HPU := qh hpu
    have HROW := qh hrow
    have HFR := qh (show 0 <= fr /\ fr <= 1099511627776 by omega)
    clear hfrk hs1 ht1 f1 r1 g1 f2 r2 g2 hap efr hvv hvin hrow hat hpu
    go_upto_region 7 with (first
     | (go_at_call 43; ((with_reducible refine (CT.out).mono ?_); rintro e w2 ⟨A, c, rfl, hL, hown, hb2⟩; have I2 := qh (IR.out.call CC hb2); have L2 := qh hL; clear hL hown hb2 CT))
     | (with_reducible refine qaz rfl rfl ?_)
     | (with_reducible refine qb8 rfl rfl rfl rfl Im.qaO rfl ?_))
    obtain ⟨w3, hw3⟩ : ∃ w3, w3 = w2.alloc (.cells (Im.cells s1.g (.slice A s1.g.qaa.length c) s1.r) 38) := ⟨_, rfl⟩
    have hb3 : Below w2.heap.size w2 w3 := by rw [hw3]; exact qac _ _
    have B3 := qh (show Box w3 w2.heap.size 38 (Im.cells s1.g (.slice A s1.g.qaa.length c) s1.r) by rw [hw3]; exact Box.made _ _ _)
    have L3 := qh (L2.out.call hb3)
    have I3 := qh (I2.out.call CC hb3)
    rw [<- hw3]
    clear hw3 hb3 I2 L2 k2 IR
    have CV := qh (show ∀ W, Below w3.heap.size w3 W -> Calls Tryz.prog 84 #[.int .i64 fr, .pointer (some ⟨S, 0, none⟩), .pointer (some ⟨P, 0, none⟩)] W (fun e W' => e = .returned (.agg (Gm.qai vv).toArray) /\ Below W.heap.size W W') from fun W hW => by
     have IW := I3.out.call CC hW
     obtain ⟨F1, h1⟩ := IW.at_
     have := qj7 (m := { m with M := Co.row s.r m.q s (i + k) }) CR CQ s.r S P fr HFR.out (fun k hk => (HW.out.q k hk).ok) h1 ⟨IW.box List.mem_cons_self, IW.box (List.mem_cons_of_mem _ List.mem_cons_self), NE.out⟩
     rwa [<- HVV.out] at this)
    have CA := qh (show ∀ W, Below w3.heap.size w3 W -> Calls Tryz.prog 21 #[.agg (Im.cells s1.g (.slice A s1.g.qaa.length c) s1.r), .agg (En.cells ⟨fr, [], vv⟩ (.slice none 0 0))] W (SOut t1.g t1.r 0 W) from fun W hW => qhw t1 s1 ⟨fr, [], vv⟩ A none s1.g.qaa.length c 0 0 W HF1.out.ty HF1.out.few rfl (L3.out.call hW) rfl (Nat.zero_le _) (qeI W 4) HVI.out HAP.out)
    clear L3
    generalize w2.heap.size = B2 at *
    have hPV := (show ∀ j vm W, preV 6 (fun j vm W => (j = 4 /\ (vm 4 = .agg (Gm.qai vv).toArray)) \/ (j = 5 /\ (vm 5 = .agg (En.cells ⟨fr, [], vv⟩ (.slice none 0 0))))) (fun k vm W => stP t1.g t1.r (.int .i64 0) (fun A _ W => Lies W W.heap.size 6 A t1.g.qaa.length (Gm.qad t1.g.qaa)) w3.heap.size k vm W) j vm W = preV 6 (fun j vm W => (j = 4 /\ (vm 4 = .agg (Gm.qai vv).toArray)) \/ (j = 5 /\ (vm 5 = .agg (En.cells ⟨fr, [], vv⟩ (.slice none 0 0))))) (fun k vm W => stP t1.g t1.r (.int .i64 0) (fun A _ W => Lies W W.heap.size 6 A t1.g.qaa.length (Gm.qad t1.g.qaa)) w3.heap.size k vm W) j vm W from fun _ _ _ => rfl)
    clear hPV
    have hMP := qlH t1.g.qaa
    refine Rz.qbF (by kernel_rfl) 4 12 (by kernel_rfl) (fun X => Below w3.heap.size w3 X) (preV 6 (fun j vm W => (j = 4 /\ (vm 4 = .agg (Gm.qai vv).toArray)) \/ (j = 5 /\ (vm 5 = .agg (En.cells ⟨fr, [], vv⟩ (.slice none 0 0))))) (stP t1.g t1.r (.int .i64 0) (fun A _ W => Lies W W.heap.size 6 A t1.g.qaa.length (Gm.qad t1.g.qaa)) w3.heap.size)) ((Below.refl _ _).drew) ?hvd ?_
    case hvd =>
     intro j vm vm' X h1 h2 he hV
     obtain rfl | rfl | rfl | rfl | rfl | rfl | rfl | rfl : j = 4 \/ j = 5 \/ j = 6 \/ j = 7 \/ j = 8 \/ j = 9 \/ j = 10 \/ j = 11 := by omega
     · rw [qa0 (by omega)] at hV ⊢
       have e0 := he 4 (.inl rfl)
       simp only [Nat.reduceEqDiff, false_and, true_and, or_false, false_or, reduceCtorEq] at hV ⊢
       rw [<- e0]; exact hV
     · rw [qa0 (by omega)] at hV ⊢
       have e0 := he 5 (.inl rfl)
       simp only [Nat.reduceEqDiff, false_and, true_and, or_false, false_or, reduceCtorEq] at hV ⊢
       rw [<- e0]; exact hV
     · rw [qaj (by omega)] at hV ⊢; exact qaJ hV (by omega) (he 6 (.inl rfl)) (fun h => absurd h (by decide))
     · rw [qaj (by omega)] at hV ⊢; exact qaJ hV (by omega) (he 7 (.inl rfl)) (fun h => absurd h (by decide))
     · rw [qaj (by omega)] at hV ⊢; exact qaJ hV (by omega) (he 8 (.inl rfl)) (fun h => absurd h (by decide))
     · rw [qaj (by omega)] at hV ⊢; exact qaJ hV (by omega) (he 9 (.inl rfl)) (fun h => absurd h (by decide))
     · rw [qaj (by omega)] at hV ⊢; exact qaJ hV (by omega) (he 10 (.inl rfl)) (fun h => absurd h (by decide))
     · rw [qaj (by omega)] at hV ⊢; exact qaJ hV (by omega) (he 11 (.inl rfl)) (fun _ => he 10 (.inr (by kernel_rfl)))
    have hmv : ∀ (j : Nat) vm W W', preV 6 (fun j vm W => (j = 4 /\ (vm 4 = .agg (Gm.qai vv).toArray)) \/ (j = 5 /\ (vm 5 = .agg (En.cells ⟨fr, [], vv⟩ (.slice none 0 0))))) (stP t1.g t1.r (.int .i64 0) (fun A _ W => Lies W W.heap.size 6 A t1.g.qaa.length (Gm.qad t1.g.qaa)) w3.heap.size) j vm W -> Below W.heap.size W W' -> preV 6 (fun j vm W => (j = 4 /\ (vm 4 = .agg (Gm.qai vv).toArray)) \/ (j = 5 /\ (vm 5 = .agg (En.cells ⟨fr, [], vv⟩ (.slice none 0 0))))) (stP t1.g t1.r (.int .i64 0) (fun A _ W => Lies W W.heap.size 6 A t1.g.qaa.length (Gm.qad t1.g.qaa)) w3.heap.size) j vm W' := fun j vm W W' h hb => by
     by_cases hj : j < 6
     · rw [qa0 hj] at h ⊢
       rcases h with ⟨hj, h⟩ | ⟨hj, h⟩
       · exact .inl ⟨hj, h⟩
       · exact .inr (⟨hj, h⟩)
     · rw [qaj (by omega)] at h ⊢
       exact qdP hMP h hb
    simp only [List.take_succ_cons, List.take_zero, List.drop_succ_cons, List.drop_zero, Nat.reduceSub]
    refine Rz.qar (v := .agg (Im.cells s1.g (.slice A s1.g.qaa.length c) s1.r)) (fun W hW => ?_) ?_
    · exact qc7 rfl rfl (B3.out.below hW B3.out.lt)
    refine Rz.qar (v := .int .i64 fr) (fun W hW => ?_) ?_
    · exact Rz.qaV rfl rfl
    refine Rz.qar (v := vecV S P) (fun W hW => ?_) ?_
    · exact Rz.qaV rfl rfl
    refine Rz.qar (v := .int .i64 fr) (fun W hW => ?_) ?_
    · exact Rz.qaV rfl rfl
    simp only [Act.put, List.setIfInBounds_toArray, List.set_cons_succ, List.set_cons_zero]
    refine qbW (fun A0 => A0.tmps.size = 55 /\ A0.eval (.tmp 37) = .agg (Im.cells s1.g (.slice A s1.g.qaa.length c) s1.r) /\ A0.eval (.tmp 38) = .int .i64 fr /\ A0.eval (.tmp 39) = vecV S P /\ A0.eval (.tmp 40) = .int .i64 fr) ⟨rfl, rfl, rfl, rfl, rfl⟩ ?_ ?_
    · intro A0 hA0
      obtain ⟨hAs, hAr⟩ : A0.tmps.size = 55 /\ A0.eval (.tmp 37) = .agg (Im.cells s1.g (.slice A s1.g.qaa.length c) s1.r) /\ A0.eval (.tmp 38) = .int .i64 fr /\ A0.eval (.tmp 39) = vecV S P /\ A0.eval (.tmp 40) = .int .i64 fr := hA0
      refine ⟨?_, ?_, ?_, ?_, ?_, ?_, ?_, ?_, trivial⟩
      · intro vm X2 hX hV
        refine qbk (f := 84) (args := #[.int .i64 fr, .pointer (some ⟨S, 0, none⟩), .pointer (some ⟨P, 0, none⟩)]) (qmY (fun _ _ => by go_simp) rfl ?_ ?_) ((CV.out X2 hX).mono ?_)
        · simp only [Rz.qan]
          rw [Rz.qay, Rz.qab (by decide), Rz.qab (by decide), Rz.qab (by decide), Rz.qab (by decide), Rz.qab (by decide), Rz.qab (by decide), Rz.qab (by decide)]
          exact hAr.2.2.1
        · simp only [Rz.qan]
          rw [Rz.qay, Rz.qab (by decide), Rz.qab (by decide), Rz.qab (by decide), Rz.qab (by decide), Rz.qab (by decide), Rz.qab (by decide), Rz.qab (by decide)]
          exact hAr.2.2.2
        · rintro e w' ⟨rfl, hb⟩
          exact ⟨_, rfl, (qa0 (by omega)).2 (.inl ⟨rfl, by simp [Rz.upd]⟩), hX.trans (hb.mono hX.size), fun j _ _ _ h => hmv j vm _ _ h hb⟩
      · intro vm X2 hX hV
        have e4 : vm 4 = .agg (Gm.qai vv).toArray := by simpa using (qa0 (by omega)).1 (hV 4 (by omega) (by omega) (by kernel_rfl))
        refine qaH (w' := X2) (qeU (vs := [(0, .int .i64 fr), (2, .agg (Gm.qai vv).toArray)]) rfl ?_ (qj4 fr vv)) ⟨(qa0 (by omega)).2 (.inr ⟨rfl, by simp [Rz.upd]⟩), hX, fun j _ _ _ h => h⟩
        simp only [Rz.qan, List.map_cons, List.map_nil]
        rw [Rz.qay, Rz.qab (by decide), Rz.qab (by decide), Rz.qab (by decide), Rz.qab (by decide), Rz.qab (by decide), Rz.qab (by decide), Rz.qab (by decide), Rz.qay, Rz.qab (by decide), Rz.qab (by decide), Rz.qab (by decide), Rz.qab (by decide), Rz.qab (by decide), Rz.qab (by decide), Rz.qaE (by simp only [Rz.qaD, hAs]; decide)]
        rw [hAr.2.1, e4]
      · intro vm X2 hX hV
        have e5 : vm 5 = .agg (En.cells ⟨fr, [], vv⟩ (.slice none 0 0)) := by simpa using (qa0 (by omega)).1 (hV 5 (by omega) (by omega) (by kernel_rfl))
        refine qbk (f := 21) (args := #[.agg (Im.cells s1.g (.slice A s1.g.qaa.length c) s1.r), .agg (En.cells ⟨fr, [], vv⟩ (.slice none 0 0))]) (qb4 (fun _ _ => by go_simp) rfl ?_ ?_) ((CA.out X2 hX).mono ?_)
        · simp only [Rz.qan]
          rw [Rz.qay, Rz.qab (by decide), Rz.qab (by decide), Rz.qab (by decide), Rz.qab (by decide), Rz.qab (by decide), Rz.qab (by decide), Rz.qab (by decide)]
          exact hAr.1
        · simp only [Rz.qan]
          rw [Rz.qay, Rz.qab (by decide), Rz.qab (by decide), Rz.qab (by decide), Rz.qab (by decide), Rz.qab (by decide), Rz.qaE (by simp only [Rz.qaD, hAs]; decide)]
          exact e5
        · rintro e w' ⟨A2, c2, rfl, hl, hb⟩
          exact ⟨_, rfl, (qaj (by omega)).2 ⟨A2, c2, by simp [Rz.upd], hl⟩, hX.trans (hb.mono hX.size), fun j _ _ _ h => hmv j vm _ _ h hb⟩
      · intro vm X2 hX hV
        obtain ⟨A2, c2, e, hl⟩ := qny ((qaj (by omega)).1 (hV 6 (by omega) (by omega) (by kernel_rfl)))
        refine qaH (w' := X2) (Rz.qaV (v := vm 6) rfl ?_) ⟨(qaj (by omega)).2 ⟨A2, c2, by simpa [Rz.upd] using e, hl⟩, hX, fun j _ _ _ h => h⟩
        simp only [Rz.qan]
        rw [Rz.qay, Rz.qab (by decide), Rz.qab (by decide), Rz.qab (by decide), Rz.qab (by decide), Rz.qaE (by simp only [Rz.qaD, hAs]; decide)]
      · intro vm X2 hX hV
        obtain ⟨A2, c2, e, hl⟩ := qhr ((qaj (by omega)).1 (hV 7 (by omega) (by omega) (by kernel_rfl)))
        refine qaH (w' := X2) (Rz.qbo (v := .agg (Im.cells t1.g (.slice A2 (t1.g).qaa.length c2) t1.r)) (vs := #[.agg (Im.cells t1.g (.slice A2 (t1.g).qaa.length c2) t1.r), (.int .i64 0)]) rfl ?_ rfl) ⟨(qaj (by omega)).2 ⟨A2, c2, by simp [Rz.upd], hl⟩, hX, fun j _ _ _ h => h⟩
        simp only [Rz.qan]
        rw [Rz.qay, Rz.qab (by decide), Rz.qab (by decide), Rz.qab (by decide), Rz.qaE (by simp only [Rz.qaD, hAs]; decide)]
        exact e
      · intro vm X2 hX hV
        obtain ⟨A2, c2, e, hl⟩ := qhr ((qaj (by omega)).1 (hV 7 (by omega) (by omega) (by kernel_rfl)))
        refine qaH (w' := X2) (Rz.qbo (v := (.int .i64 0)) (vs := #[.agg (Im.cells t1.g (.slice A2 (t1.g).qaa.length c2) t1.r), (.int .i64 0)]) rfl ?_ rfl) ⟨(qaj (by omega)).2 (by simp [Rz.upd, stP]), hX, fun j _ _ _ h => h⟩
        simp only [Rz.qan]
        rw [Rz.qay, Rz.qab (by decide), Rz.qab (by decide), Rz.qab (by decide), Rz.qaE (by simp only [Rz.qaD, hAs]; decide)]
        exact e
      · intro vm X2 hX hV
        exact qaH (qcE rfl qcr rfl) ⟨(qaj (by omega)).2 ⟨_, Im.G0, none, 0, 0, Im.R0, by simp [Rz.upd], hX.size, Box.made _ _ _⟩, hX.alloc hX.size _, fun j _ _ _ h => hmv j vm _ _ h (qac _ _)⟩
      · intro vm X2 hX hV
        obtain ⟨B5, g', A', m', c', r', e4, hbB, hB5⟩ := qnv ((qaj (by omega)).1 (hV 10 (by omega) (by omega) (by kernel_rfl)))
        obtain ⟨A2, c2, e2, hl⟩ := qnx ((qaj (by omega)).1 (hV 8 (by omega) (by omega) (by kernel_rfl)))
        have e4' : vm 10 = .pointer (some ⟨B5, 0, none⟩) := e4
        have e2' : vm 8 = .agg (Im.cells t1.g (.slice A2 (t1.g).qaa.length c2) t1.r) := e2
        refine qdt (qb0 (B := B5) (cs := Im.cells t1.g (.slice A2 (t1.g).qaa.length c2) t1.r) rfl ?_ ?_ hB5 (by rw [Im.qaf]; exact qax) (by rw [Im.qaf, Im.qaf]) (qdO rfl)) ⟨(qaj (by omega)).2 ⟨B5, A2, c2, by simpa [Rz.upd] using e4', hbB, hB5.row _, hMP.row (c := c2) _ hl hB5⟩, Below.setRow' hX hbB _, fun j h1 h2 h3 h => ?_⟩
        · simp only [Rz.qan]
          rw [Rz.qay, Rz.qaE (by simp only [Rz.qaD, hAs]; decide)]
          exact e4'
        · simp only [Rz.qan]
          rw [Rz.qay, Rz.qab (by decide), Rz.qab (by decide), Rz.qaE (by simp only [Rz.qaD, hAs]; decide)]
          exact e2'
        · by_cases hj : j < 6
          · rw [qa0 hj] at h ⊢
            rcases h with ⟨hj, h⟩ | ⟨hj, h⟩
            · exact .inl ⟨hj, h⟩
            · exact .inr (⟨hj, h⟩)
          · rw [qaj (by omega)] at h ⊢
            exact qgt hMP h (by omega) e4 hB5
    · intro vm X2 hX hV
      obtain ⟨BX, A2, c2, e4, hbB, hBX, hl⟩ := qnu ((qaj (by omega)).1 (hV 11 (by omega) (by omega)))
      have e3 := qnw ((qaj (by omega)).1 (hV 9 (by omega) (by omega)))
      clear hV
      simp only [Nat.reduceAdd] at e4 e3
      simp only [Rz.qan, Nat.reduceAdd, e4, e3]
      generalize vm 4 = v4
      generalize vm 5 = v5
      generalize vm 6 = v6
      generalize vm 7 = v7
      generalize vm 8 = v8
      generalize vm 11 = v11
      have B5 := qh hBX
      have L5 := qh hl
      have I5 := qh (I3.out.call (qaS.obj CR CQ) hX)
      have CP := qh (show ∀ W, Below X2.heap.size X2 W -> Calls Tryz.prog 60 #[.pointer (some ⟨m.R, 0, none⟩), .agg (Im.cells t1.g (.slice A2 t1.g.qaa.length c2) t1.r)] W (fun e W' => e = .returned (.bool (Rg.pushB (Co.row s.r m.q s (i + k)) t1)) /\ InO (qaS RP QP) b F X B { m with M := Co.row s.r m.q s (i + (k + 1)) } [(S, 34, (Ros.qaP s.r).toArray), (P, 41, #[.pointer (some ⟨B, 0, none⟩)])] W') from fun W hW => (I5.out.call (qaS.obj CR CQ) hW).ask fun F1 h1 => qaS.ring (m := { m with M := Co.row s.r m.q s (i + k) }) CR CQ h1 fun FR hR => by
       rw [<- HPU.out]
       exact CR.push b FR m.R _ HROW.out ⟨t1.g, t1.r, A2, c2⟩ HF2.out.ty (by have h : t1.g.qaa.length <= 60 := HF2.out.few; unfold maxLen; show t1.g.qaa.length <= _; omega) W hR (I5.out.call (qaS.obj CR CQ) hW).down (L5.out.call hW))
      have KB := qh (show ∀ W, Below X2.heap.size X2 W -> W.cell? ⟨B, 0, none⟩ = some (.pointer (some ⟨m.R, 0, none⟩)) from fun W hW => by
       obtain ⟨F1, h1⟩ := (I5.out.call (qaS.obj CR CQ) hW).at_
       exact h1.box.cell 0)
      clear hbB hBX hl hX CV CA I3 B3 hMP hmv I5 L5
      simp only [Act.put, List.setIfInBounds_toArray, List.set_cons_succ, List.set_cons_zero]
      go_upto_region 10 with fail
      refine Rz.qbF (by kernel_rfl) 5 5 (by kernel_rfl) (fun W => Below X2.heap.size X2 W) (fun _ _ _ => True) ((Below.refl _ _).drew) (fun _ _ _ _ _ _ _ h => h) ?_
      simp only [List.take_succ_cons, List.take_zero, List.drop_succ_cons, List.drop_zero, Nat.reduceSub]
      refine Rz.qar (v := .pointer (some ⟨B, 0, none⟩)) (fun W hW => Rz.qaV rfl rfl) ?_
      refine Rz.qar (v := .pointer (some ⟨B, 0, none⟩)) (fun W hW => qa4 rfl rfl) ?_
      refine Rz.qar (v := .pointer (some ⟨B, 0, none⟩)) (fun W hW => qcu rfl rfl) ?_
      refine Rz.qar (v := .pointer (some ⟨m.R, 0, none⟩)) (fun W hW => qcW rfl rfl (KB.out W hW)) ?_
      refine Rz.qar (v := .agg (Im.cells t1.g (.slice A2 t1.g.qaa.length c2) t1.r)) (fun W hW => qc7 rfl rfl (B5.out.below hW B5.out.lt)) ?_
      simp only [Act.put, List.setIfInBounds_toArray, List.set_cons_succ, List.set_cons_zero]
      refine qbW (fun _ => True) trivial (fun _ _ => trivial) ?_
      intro vm W hW hV
      have cp := qh (CP.out W hW)
      clear hW hV CP KB B5
      simp only [Rz.qan]
      go_wp2_with (go_at_call 60; ((with_reducible refine ((cp).out.mono ?_)); rintro e w5 ⟨rfl, hI⟩; have I6 := qh hI; clear hI cp))
      go_roundw
      case rel => exact ⟨k + 1, by omega, by rw [HFK.out]; push_cast; rw [Int.add_assoc], I6.out⟩
      case measure => have := HFK.out; simp [intOf, hw1]; omega
  · obtain rfl : k = d := by omega
    have hlt2 : ¬ frm + (k : Int) < til := by have := HTO.out; omega
    go_wp2_with fail
    go_ret
    exact IR.out.says
end
structure PrgC (RP : qcJ) (QP : QuP) (b : Nat) (F : Nat -> Prop) (B : Nat) (m : Co.M) (X : World) : Prop where
 ok : Co.Ok m
 core : ∃ R Q, qaS RP QP b F B ⟨R, Q, Co.sts m, m.q⟩ X
theorem Co.qlC {m : Co.M} (h : Co.Ok m) (h0 : Co.qbt m = 0) : (Co.advance m).conf = m.conf /\ (Co.advance m).q = m.q /\ (Co.advance m).shown.g.frame = m.shown.g.frame + 1 /\ m.shown.g.frame - m.conf.g.frame < 8 /\ m.shown.g.frame < 1048576 := by
 have hlim : m.shown.g.frame - m.conf.g.frame < 8 /\ m.shown.g.frame < 1048576 := by
  unfold Co.qbt at h0
  split at h0
  · omega
  · split at h0 <;> omega
 have h1 := Co.qfq h.shown h.ros h.q hlim.2
 obtain ⟨_, f2, _⟩ := Co.qga h.shown h1
 unfold Co.advance
 rw [if_pos h0]
 refine ⟨rfl, rfl, ?_, hlim⟩
 show (Co.goN m.conf.r m.q 1 (m.shown, m.qa3)).1.g.frame = _
 have e : Co.goN m.conf.r m.q 1 (m.shown, m.qa3) = match Co.on1 m.conf.r m.q m.shown with | some t => (t, m.qa3 ++ [Co.vec m.conf.r m.q m.shown.g.frame]) | none => (m.shown, m.qa3) := rfl
 rw [e, h1]
 exact f2
theorem PrgC.says {RP : qcJ} {QP : QuP} {b B : Nat} {F : Nat -> Prop} {X : World} {R : Nat} {Q : Nat -> Nat} {M : List Fd.S} {q : Nat -> Qu.M} {m' : Co.M} {r : Value} {e : Ending} {X' : World} (h : qbN (qaS RP QP) b F B ⟨R, Q, M, q⟩ r X e X') (ho : Co.Ok m') (hM : M = Co.sts m') (hq : q = m'.q) : qbN (PrgC RP QP) b F B m' r X e X' := by
 subst hM hq
 obtain ⟨e1, F', h1, h2, h3⟩ := h
 exact ⟨e1, F', h1, ⟨ho, R, Q, h2⟩, h3⟩
section
variable {RP : qcJ} {QP : QuP} (CR : qdM RP) (CQ : qcq QP) {b B : Nat} {F : Nat -> Prop} {m : Co.M} {X : World}
include CR CQ
theorem PrgC.obj : ObjC (PrgC RP QP) :=
 ⟨fun h => by obtain ⟨_, _, h⟩ := h.core; exact h.up, fun h hK hd => ⟨h.ok, by obtain ⟨R, Q, h⟩ := h.core; exact ⟨R, Q, (qaS.obj CR CQ).keep h hK hd⟩⟩⟩
end
section
variable {RP : qcJ} {QP : QuP} (CR : qdM RP) (CQ : qcq QP) {b B : Nat} {F : Nat -> Prop} {m : Co.M} {X : World}
include CR CQ
theorem qmC (h : PrgC RP QP b F B m X) (hb : b <= X.heap.size) :
 Calls Tryz.prog 25 #[.pointer (some ⟨B, 0, none⟩)] X (qbN (PrgC RP QP) b F B (Co.advance m) (.int .i64 (Co.qbt m)) X) := by
 obtain ⟨hok, R, Q, h⟩ := h
 have CC := qaS.obj CR CQ
 have hrows := hok.rows
 have I0 := qh (InO.start h hb)
 have c0 := qh (qca h.box)
 have hlow := hok.low
 have hc0 := hok.conf.ok.1.1
 have hs1 := hok.shown.ok.1.2.1
 have cl := qh (show ∀ L W, InO (qaS RP QP) b F X B ⟨R, Q, Co.sts m, m.q⟩ L W -> Calls Tryz.prog 46 #[.pointer (some ⟨R, 0, none⟩)] W (fun e W' => e = .returned (.int .i64 m.shown.g.frame) /\ Below W.heap.size W W') from fun L W hI => by
  obtain ⟨F1, h1⟩ := hI.at_
  obtain ⟨FR, FQ, hR, _⟩ := h1.fr
  rw [<- hok.last]
  exact CR.last b FR R _ hrows W hR)
 have cf := qh (show ∀ L W, InO (qaS RP QP) b F X B ⟨R, Q, Co.sts m, m.q⟩ L W -> Calls Tryz.prog 44 #[.pointer (some ⟨R, 0, none⟩)] W (fun e W' => e = .returned (.int .i64 m.conf.g.frame) /\ Below W.heap.size W W') from fun L W hI => by
  obtain ⟨F1, h1⟩ := hI.at_
  obtain ⟨FR, FQ, hR, _⟩ := h1.fr
  rw [<- Co.qgo m]
  exact CR.first b FR R _ hrows W hR)
 have kB := qh (show ∀ L W, InO (qaS RP QP) b F X B ⟨R, Q, Co.sts m, m.q⟩ L W -> W.cell? ⟨B, 0, none⟩ = some (.pointer (some ⟨R, 0, none⟩)) from fun L W hI => by
  obtain ⟨F1, h1⟩ := hI.at_
  exact h1.box.cell 0)
 have k0 := kB.out _ _ I0.out
 have HOK := qh hok
 obtain ⟨fs, hfs⟩ : ∃ f, f = m.shown.g.frame := ⟨_, rfl⟩
 obtain ⟨fc, hfc⟩ : ∃ f, f = m.conf.g.frame := ⟨_, rfl⟩
 rw [<- hfs] at hlow hs1 cl
 rw [<- hfc] at hlow hc0 cf
 have HFS := qh hfs
 have HFC := qh hfc
 have hw1 := show IntKind.i64.wrap (fs - fc) = fs - fc by rw [IntKind.wrap_i64]; omega
 have hw3 := show wrap64 (fs - fc) = fs - fc from IntWalk.wrap64_in _ (by omega)
 have hw2 := show IntKind.i64.wrap (fs + 1) = fs + 1 by rw [IntKind.wrap_i64]; omega
 have hadv : Co.qbt m = if 8 <= fs - fc then 6 else if 1048576 <= fs then 7 else 0 := by rw [hfs, hfc]; rfl
 have HADV := qh hadv
 clear hok hrows h hfs hfc hadv hb
 by_cases h8 : 8 <= fs - fc
 · have e1 : Co.qbt m = 6 := by rw [HADV.out, if_pos h8]
   have e2 : Co.advance m = m := by unfold Co.advance; rw [if_neg (by rw [e1]; decide)]
   rw [e1, e2]
   have H8 := qh h8
   clear e1 e2
   go_enter Tryz.func25, Tryz.ntmps25
   go_wp2_with (first
    | (go_at_call 42; ((with_reducible refine ((c0).out).mono ?_); rintro e w1 ⟨rfl, rfl⟩))
    | (go_at_call 46; ((with_reducible refine ((cl.out _ _ I0.out)).mono ?_); rintro e w2 ⟨rfl, hb2⟩; have I2 := qh (I0.out.call CC hb2); have k2 := kB.out _ _ I2.out; clear hb2))
    | (go_at_call 44; ((with_reducible refine ((cf.out _ _ I2.out)).mono ?_); rintro e w3 ⟨rfl, hb3⟩; have I3 := qh (I2.out.call CC hb3); clear hb3)))
   go_ret
   exact PrgC.says I3.out.says HOK.out rfl rfl
 have h8' : fs - fc < 8 := by omega
 by_cases hmx : 1048576 <= fs
 · have e1 : Co.qbt m = 7 := by rw [HADV.out, if_neg h8, if_pos hmx]
   have e2 : Co.advance m = m := by unfold Co.advance; rw [if_neg (by rw [e1]; decide)]
   rw [e1, e2]
   clear e1 e2
   go_enter Tryz.func25, Tryz.ntmps25
   go_wp2_with (first
    | (go_at_call 42; ((with_reducible refine ((c0).out).mono ?_); rintro e w1 ⟨rfl, rfl⟩))
    | (go_at_call 46; ((with_reducible refine ((cl.out _ _ I0.out)).mono ?_); rintro e w2 ⟨rfl, hb2⟩; have I2 := qh (I0.out.call CC hb2); have k2 := kB.out _ _ I2.out; clear hb2))
    | (go_at_call 44; ((with_reducible refine ((cf.out _ _ I2.out)).mono ?_); rintro e w3 ⟨rfl, hb3⟩; have I3 := qh (I2.out.call CC hb3); clear hb3)))
   go_ret
   exact PrgC.says I3.out.says HOK.out rfl rfl
 · have e1 : Co.qbt m = 0 := by rw [HADV.out, if_neg h8, if_neg hmx]
   have hmx' : fs < 1048576 := by omega
   obtain ⟨a1, a2, a3, a4, a5⟩ := Co.qlC HOK.out e1
   have HA := qh (show Co.Ok (Co.advance m) /\ Co.row m.conf.r m.q m.conf ((m.shown.g.frame - m.conf.g.frame).toNat + 1) = Co.sts (Co.advance m) /\ m.q = (Co.advance m).q from by
    refine ⟨Co.qia HOK.out, ?_, a2.symm⟩
    have hl := HOK.out.low
    unfold Co.sts
    rw [a1, a2, a3, show (m.shown.g.frame + 1 - m.conf.g.frame).toNat = (m.shown.g.frame - m.conf.g.frame).toNat + 1 by omega])
   have cr := qh (show ∀ L W, InO (qaS RP QP) b F X B ⟨R, Q, Co.sts m, m.q⟩ L W -> Calls Tryz.prog 56 #[.pointer (some ⟨B, 0, none⟩), .int .i64 fs, .int .i64 (fs + 1)] W (fun e W' => e = .returned (.int .i64 0) /\ InO (qaS RP QP) b F X B ⟨R, Q, Co.row m.conf.r m.q m.conf ((m.shown.g.frame - m.conf.g.frame).toNat + 1), m.q⟩ L W') from fun L W hI => hI.ask fun F1 h1 => by
    have hl := HOK.out.low
    have e3 := HFS.out
    have e4 := HFC.out
    have hl1 := HOK.out.last
    exact qdV CR CQ HOK.out.rows m.conf (Co.qc9 m) (m.shown.g.frame - m.conf.g.frame).toNat 1 fs (fs + 1) (by omega) ⟨HOK.out.conf, rfl, HOK.out.q, by omega⟩ (by omega) (by
     rw [show fs = m.conf.g.frame + ((m.shown.g.frame - m.conf.g.frame).toNat : Int) by omega]
     exact Co.qip _ _ _ _ _ (Nat.le_refl _)) (.inl (by omega)) (by omega) h1 hI.down)
   rw [e1]
   clear e1 a1 a2 a3 a4 a5
   go_enter Tryz.func25, Tryz.ntmps25
   go_wp2_with (first
    | (go_at_call 42; ((with_reducible refine ((c0).out).mono ?_); rintro e w1 ⟨rfl, rfl⟩))
    | (go_at_call 46; ((with_reducible refine ((cl.out _ _ I0.out)).mono ?_); rintro e w2 ⟨rfl, hb2⟩; have I2 := qh (I0.out.call CC hb2); have k2 := kB.out _ _ I2.out; clear hb2))
    | (go_at_call 44; ((with_reducible refine ((cf.out _ _ I2.out)).mono ?_); rintro e w3 ⟨rfl, hb3⟩; have I3 := qh (I2.out.call CC hb3); clear hb3))
    | (go_at_call 56; ((with_reducible refine ((cr.out _ _ I3.out)).mono ?_); rintro e w4 ⟨rfl, hI⟩; have I4 := qh hI; clear hI)))
   go_ret
   exact PrgC.says I4.out.says HA.out.1 HA.out.2.1 HA.out.2.2
end
theorem qmB (X : World) : Calls Tryz.prog 25 #[.pointer none] X fun e X' => e = .returned (.int .i64 3) /\ Below X.heap.size X X' := by
 have c0 := qh (qeb X)
 go_enter Tryz.func25, Tryz.ntmps25
 go_wp2_with (go_at_call 42; ((with_reducible refine ((c0).out).mono ?_); rintro e w1 ⟨rfl, rfl⟩))
 go_ret
 exact ⟨rfl, Below.refl _ _⟩
end Go.Proofs.YtmiopphcfdlneaaGreat
namespace Qt
open Go Go.RowKit
section
variable {P : Program} {md : Region.Mode} {ops : Array Oper} {C : World -> Prop} {n : Nat}
def qot (P : Program) (md : Region.Mode) (ops : Array Oper) (C : World -> Prop) (n : Nat) (L : Array Bool -> Act -> Prop) : Nat -> Array Bool -> Act -> Prop
 | 0, listed, a => L listed a
 | f + 1, listed, a => Region.ready md ops listed ≠ [] /\ ∀ i ∈ Region.ready md ops listed, i < n /\ qOp P ops C i (qot P md ops C n L f (listed.setIfInBounds i true)) a
theorem qgm {g : Nat} {L : Array Bool -> Act -> Prop} {Q' : Exit -> Act -> World -> Prop} (hL : ∀ listed a w, C w -> L listed a -> wpAny P md ops Q' g listed a w) :
 ∀ (f : Nat) (listed : Array Bool) (a : Act) (w : World), C w -> qot P md ops C n L f listed a -> wpAny P md ops Q' (f + g) listed a w
 | 0, listed, a, w, hw, h => by rw [Nat.zero_add]; exact hL _ _ _ hw h
 | f + 1, listed, a, w, hw, h => by
  rw [show f + 1 + g = (f + g) + 1 by omega]
  exact ⟨fun h0 => absurd h0 h.1, fun i hi => wpOp_of_qOp hw (fun a' w' hw' h' => qgm hL f _ a' w' hw' h') (h.2 i hi).2⟩
theorem qk7 {i : Nat} {oi : Oper} {v : Value} {L : Array Bool -> Act -> Prop} (hi : ops[i]? = some oi) (hsel : ∀ (j : Nat) (o : Oper) cs b, ops[j]? = some o -> o.op ≠ .select cs b)
 (hs : Region.sinkB md ops n = true) (hc : Region.chainB md ops n = true) (hn : n < ops.size) (hin : i < n)
 (hdone : ∀ listed a, L listed a -> ∀ j ∈ Region.ready md ops listed, n <= j) :
 ∀ (f : Nat) (listed : Array Bool) (a : Act), HeadInv md ops n listed ->
  (∀ j oj, ops[j]? = some oj -> j ≠ i -> listed.getD j true = false -> (∀ e ∈ oj.after, Region.binds md e = true -> e.on ≠ i) -> oi.apart ops oj = true) ->
  i ∈ Region.ready md ops listed -> YieldsIn P ops C oi v a ->
  qot P md ops C n L f (listed.setIfInBounds i true) (a.put oi.dst v) -> qot P md ops C n L (f + 1) listed a := by
 intro f
 induction f with
 | zero =>
  intro listed a inv _ hr hy H
  refine ⟨fun e => (by rw [e] at hr; cases hr), fun j hj => ?_⟩
  have hjn : j < n := (Nat.lt_or_ge j n).elim id fun h => absurd hj (tail_waits hs hc hn inv _ i rfl hin (mem_ready.1 hr).1 j h)
  refine ⟨hjn, ?_⟩
  by_cases hji : j = i
  · subst hji; exact hy.qOp hi H
  · have := hdone _ _ H j (ready_mono hj hji)
    omega
 | succ f ih =>
  intro listed a inv hfree hr hy H
  have hun := (mem_ready.1 hr).1
  refine ⟨fun e => (by rw [e] at hr; cases hr), fun j hj => ?_⟩
  have hjn : j < n := (Nat.lt_or_ge j n).elim id fun h => absurd hj (tail_waits hs hc hn inv _ i rfl hin hun j h)
  refine ⟨hjn, ?_⟩
  by_cases hji : j = i
  · subst hji; exact hy.qOp hi H
  · obtain ⟨hjun, oj, hoj, hall⟩ := mem_ready.1 hj
    have hnot : ∀ e ∈ oj.after, Region.binds md e = true -> e.on ≠ i := fun e he hb heq => by
     have h1 := hall e he hb
     rw [heq, getD_both hun] at h1
     cases h1
    have h2 := qOp_put hoj (hfree j oj hoj hji hjun hnot) (fun cs b => hsel i oi cs b hi) (fun cs b => hsel j oj cs b hoj) hy (H.2 j (ready_mono hj hji)).2
    refine qOp_mono (fun a' h3 => ih (listed.setIfInBounds j true) a' (inv.set hj hjn) (fun k ok hk hki hku hno => hfree k ok hk hki ?_ hno) (ready_mono hr (Ne.symm hji)) h3.1 ?_) h2
    · by_cases hjk : j = k
      · subst hjk; exact hjun
      · rwa [getD_set_ne true hjk] at hku
    · rw [Array.setIfInBounds_comm _ _ hji]
      exact h3.2
theorem qjT {g : Nat} {Lq : Act -> Prop} (hsel : Region.noSelect ops = true) (hs : Region.sinkB md ops n = true) (hc : Region.chainB md ops n = true) (hn : n < ops.size) :
 ∀ (l : List Oper) (k : Nat) (listed : Array Bool) (a : Act), (∀ j, j < l.length -> l[j]? = ops[k + j]?) -> k + l.length = n -> HeadInv md ops n listed ->
 Region.lexHead md ops g l.length k listed = true -> wpQuiet P ops C Lq l a ->
 qot P md ops C n (fun listed' a' => Region.seqB md ops g n listed' = true /\ Lq a') l.length listed a
 | [], k, listed, a, _, hk, _, hB, h => by
  have : k = n := by simpa using hk
  subst this
  exact ⟨by simpa [Region.lexHead] using hB, h⟩
 | o :: l, k, listed, a, hl, hk, inv, hB, h => by
  have h0 : ops[k]? = some o := by simpa using (hl 0 (by simp)).symm
  simp only [List.length_cons, Region.lexHead, Bool.and_eq_true] at hB
  obtain ⟨⟨hr, hf⟩, hB'⟩ := hB
  have hkn : k < n := by simp only [List.length_cons] at hk; omega
  have hr' : k ∈ Region.ready md ops listed := by simpa using hr
  obtain ⟨v, hy, hK⟩ := yieldsIn_of_qOp h0 (show qOp P ops C k (wpQuiet P ops C Lq l) a by unfold qOp; simp only [h0]; exact h)
  exact qk7 h0 (Region.noSelect_spec hsel) hs hc hn hkn (fun listed' a' hL => seqB_ready hL.1) l.length listed a inv (Region.free_spec h0 hf) hr' hy
   (qjT hsel hs hc hn l (k + 1) _ _ (fun j hj => by have := hl (j + 1) (by simp; omega); simpa [Nat.add_assoc, Nat.add_comm 1 j] using this) (by simp only [List.length_cons] at hk; omega) (inv.set hr' hkn) hB' hK)
end
theorem qbM {P : Program} {id : Nat} {Q : Exit -> Act -> World -> Prop} {a : Act} {w : World} {l : List Oper} (n : Nat) (B : Nat) (W : World) (hm : P.follows .mixedOrders = true) (hB : Region.lexTailB .any l.toArray n = true) (hC : Below B W w)
 (h : wpQuiet P l.toArray (fun w' => ∃ q : Ext B W, w' = q.w) (fun a' => ∀ w', (∃ q : Ext B W, w' = q.w) -> wpList P l.toArray Q (l.drop n) a' w') (l.take n) a) : (Code.region id l.toArray true).wp P Q a w := by
 simp only [Region.lexTailB, Bool.and_eq_true, decide_eq_true_eq] at hB
 obtain ⟨⟨⟨⟨hsel, hn⟩, hs⟩, hc⟩, hlex⟩ := hB
 have hn' : n < l.length := by simpa using hn
 have htl : (l.take n).length = n := by simp; omega
 have hdl : (l.drop n).length = l.toArray.size - n := by simp
 have inv0 : HeadInv .any l.toArray n (Array.replicate l.toArray.size false) :=
  ⟨by simp, fun j oj _ hl => (by rw [getD_replicate_false] at hl; cases hl), fun t _ ht => getD_in (by simpa using ht) (getD_replicate_false _ _)⟩
 have H := qjT (md := .any) (g := l.toArray.size - n) hsel hs hc hn (l.take n) 0 _ a (fun j hj => by
  have hj' : j < n := by rw [htl] at hj; exact hj
  simp [hj']) (by simpa using htl) inv0 (by rw [htl]; exact hlex) h
 refine wp_region_any hm ?_
 have := qgm (Q' := Q) (g := l.toArray.size - n) (fun listed a' w' hw' hL => by
  have := wpAny_of_seq (md := .any) (Q' := Q) (l.drop n) n listed a' w' (fun j => by simp [List.getElem?_drop]) (by rw [hdl]; exact hL.1) (hL.2 w' hw')
  rwa [hdl] at this) _ _ _ _ ⟨(⟨_, hC.drew⟩ : Ext B W), rfl⟩ H
 rw [htl, show n + (l.toArray.size - n) = l.toArray.size by omega] at this
 exact this
end Qt
namespace Go.Proofs.YtmiopphcfdlneaaGreat
open Go Go.RowKit
theorem Co.qds (m : Co.M) (slot gen frame : Int) (i : Gm.In) : Co.qcm m slot gen frame i = (hasB m.conf.r slot gen && Qu.qbT (m.q slot.toNat) frame i) := rfl
theorem Co.qgZ {m : Co.M} (h : Co.Ok m) (k : Nat) (hk : k < 8) (gen frame : Int) (i : Gm.In) (hi : Gm.tyIn i) (hh : hasB m.conf.r k gen = true) :
 Co.Ok (Co.input m k gen frame i) /\ (Co.input m k gen frame i).conf = m.conf /\ (Co.input m k gen frame i).q = (if Qu.qbT (m.q k) frame i = true then Qu.upd m.q k (Qu.put (m.q k) frame i) else m.q) /\ (Co.input m k gen frame i).shown.g.frame = m.shown.g.frame := by
 refine ⟨Co.qpC h _ _ _ hi, ?_⟩
 by_cases hp : Qu.qbT (m.q k) frame i = true
 · have hb : Co.qcm m k gen frame i = true := by rw [Co.qds, hh]; exact hp
   obtain ⟨h1, h2⟩ := Co.qoo hb
   rw [if_pos hp, h1, h2]
   refine ⟨rfl, rfl, ?_⟩
   unfold Co.input
   rw [if_pos hb]
   dsimp only
   have hq : ∀ j, j < 8 -> Co.qdv (Qu.upd m.q (k : Int).toNat (Qu.put (m.q (k : Int).toNat) frame i) j) m.conf.g.frame := fun j hj => by
    by_cases hks : j = (k : Int).toNat
    · rw [hks, Qu.upd_same]; exact Co.qgI (h.q _ (by omega)) _ hi
    · rw [Qu.qam _ _ hks]; exact h.q j hj
   have hmx := h.shown.ok.1.2.1
   have hlo := h.low
   have ha := Co.qdX (m := { m with q := Qu.upd m.q (k : Int).toNat (Qu.put (m.q (k : Int).toNat) frame i) }) h.conf hq m.shown.g.frame hlo.1 hlo.2 hmx
   split
   · exact ha.2.1
   · rfl
 · have hb : Co.qcm m k gen frame i = false := by rw [Co.qds, hh]; exact Bool.eq_false_iff.2 hp
   rw [if_neg hp]
   unfold Co.input
   rw [if_neg (by rw [hb]; decide)]
   exact ⟨rfl, rfl, rfl⟩
theorem Co.qmO {m : Co.M} (h : Co.Ok m) (k : Nat) (hk : k < 8) (gen frame : Int) (i : Gm.In) (hi : Gm.tyIn i) (hh : hasB m.conf.r k gen = true) (hp : Qu.qbT (m.q k) frame i = true) :
 Co.sts (Co.input m k gen frame i) = Co.row m.conf.r (Qu.upd m.q k (Qu.put (m.q k) frame i)) m.conf (m.shown.g.frame - m.conf.g.frame).toNat /\ Co.Way m.conf.r (Qu.upd m.q k (Qu.put (m.q k) frame i)) m.conf (m.shown.g.frame - m.conf.g.frame).toNat /\ (Co.input m k gen frame i).q = Qu.upd m.q k (Qu.put (m.q k) frame i) /\ m.conf.g.frame <= frame /\
 ∀ n : Nat, m.conf.g.frame + n <= frame -> Co.row m.conf.r m.q m.conf n = Co.row m.conf.r (Qu.upd m.q k (Qu.put (m.q k) frame i)) m.conf n := by
 obtain ⟨h1, h2, h3, h4⟩ := Co.qgZ h k hk gen frame i hi hh
 rw [if_pos hp] at h3
 have hlo := h.low
 have hmx := h.shown.ok.1.2.1
 refine ⟨by unfold Co.sts; rw [h2, h3, h4], ⟨h.conf, rfl, fun j hj => ?_, by omega⟩, h3, ?_, fun n hn => ?_⟩
 · by_cases hks : j = k
   · rw [hks, Qu.upd_same]; exact Co.qgI (h.q _ hk) _ hi
   · rw [Qu.qam _ _ hks]; exact h.q j hj
 · have hp' := hp
   unfold Qu.qbT at hp'
   rw [Bool.and_eq_true, Bool.and_eq_true] at hp'
   have := of_decide_eq_true hp'.1.2
   have := (h.q k hk).at_
   omega
 · exact Co.qnQ h.conf n fun j h1 h2 => (Co.qnl k frame j i (by omega)).symm
section
variable {RP : qcJ} {QP : QuP} (CR : qdM RP) (CQ : qcq QP) {b B : Nat} {F : Nat -> Prop} {m : Co.M} {X : World}
include CR CQ
theorem qkT (slot gen frame : Int) (i : Gm.In) (hh : hasB m.conf.r slot gen = false) (h : PrgC RP QP b F B m X) (hb : b <= X.heap.size) :
 Calls Tryz.prog 26 #[.pointer (some ⟨B, 0, none⟩), .int .i64 slot, .int .i64 gen, .int .i64 frame, .agg (Qu.qao i)] X (qbN (PrgC RP QP) b F B m (.bool false) X) := by
 have HP := qh h
 have CP := PrgC.obj CR CQ
 have I0 := qh (InO.start h hb)
 obtain ⟨ix, iy, ib⟩ := i
 unfold Qu.qao
 dsimp only
 obtain ⟨X1, hX1⟩ : ∃ X1, X1 = X.alloc (.cells #[.int .i8 ix, .int .i8 iy, .int .u8 ib] 48) := ⟨_, rfl⟩
 have hb1 : Below X.heap.size X X1 := by rw [hX1]; exact qac X _
 have I1 := qh (I0.out.call CP hb1)
 have c0 := qh (fun (w : Ext X1.heap.size X1) => show Calls Tryz.prog 42 #[.pointer (some ⟨B, 0, none⟩)] w.w fun e w' => e = .returned (.bool false) /\ Below w.w.heap.size w.w w' from by
  obtain ⟨F1, h1⟩ := (I1.out.call CP w.h).at_
  obtain ⟨_, _, h2⟩ := h1.core
  exact (qca h2.box).mono fun e w' hh => ⟨hh.1, by rw [<- hh.2]; exact Below.refl _ _⟩)
 have c1 := qh (fun (w : Ext X1.heap.size X1) => show Calls Tryz.prog 57 #[.pointer (some ⟨B, 0, none⟩), .int .i64 slot, .int .i64 gen] w.w fun e w' => e = .returned (.bool false) /\ Below w.w.heap.size w.w w' from by
  obtain ⟨F1, h1⟩ := (I1.out.call CP w.h).at_
  obtain ⟨_, _, h2⟩ := h1.core
  rw [<- hh]
  exact qj9 CR CQ h1.ok.rows m.conf (Co.qc9 m) slot gen h2)
 have HX := qh hX1
 clear hX1 hb1 h hb hh
 go_enter Tryz.func26, Tryz.ntmps26
 go_upto_region 1 with fail
 rw [<- HX.out]
 refine qby X1.heap.size X1 (by kernel_rfl) (by kernel_rfl) (Below.refl _ _) ?_
 repeat (go_big_quiet_step (first | (go_at_call 42; with_reducible exact Calls.qcn (Nat.le_refl _) (c0.out _)) | (go_at_call 57; with_reducible exact Calls.qcn (Nat.le_refl _) (c1.out _)) | fail))
 refine wpQuiet_nil ?_
 intro _ hw'
 obtain ⟨q5, hw''⟩ := hw'
 subst hw''
 have I5 := qh (I1.out.call CP q5.h)
 go_wp2_with fail
 go_ret
 exact I5.out.says
theorem qkU (k : Nat) (hk : k < 8) (gen frame : Int) (hfr : -9223372036854775808 <= frame /\ frame <= 9223372036854775807) (i : Gm.In) (hi : Gm.tyIn i) (hh : hasB m.conf.r k gen = true) (h : PrgC RP QP b F B m X) (hb : b <= X.heap.size) :
 Calls Tryz.prog 26 #[.pointer (some ⟨B, 0, none⟩), .int .i64 k, .int .i64 gen, .int .i64 frame, .agg (Qu.qao i)] X (qbN (PrgC RP QP) b F B (Co.input m k gen frame i) (.bool (Qu.qbT (m.q k) frame i)) X) := by
 obtain ⟨hok, R, Q, h⟩ := h
 have CC := qaS.obj CR CQ
 have I0 := qh (InO.start h hb)
 have HI := qh hi
 have HH := qh hh
 have HSTS := qh (Co.qgZ hok k hk gen frame i hi hh)
 obtain ⟨ix, iy, ib⟩ := i
 unfold Qu.qao
 dsimp only
 obtain ⟨X1, hX1⟩ : ∃ X1, X1 = X.alloc (.cells #[.int .i8 ix, .int .i8 iy, .int .u8 ib] 48) := ⟨_, rfl⟩
 have hb1 : Below X.heap.size X X1 := by rw [hX1]; exact qac X _
 have I1 := qh (I0.out.call CC hb1)
 have B1 := qh (show Box X1 X.heap.size 48 #[.int .i8 ix, .int .i8 iy, .int .u8 ib] by rw [hX1]; exact Box.made _ _ _)
 have c0 := qh (fun (w : Ext X1.heap.size X1) => show Calls Tryz.prog 42 #[.pointer (some ⟨B, 0, none⟩)] w.w fun e w' => e = .returned (.bool false) /\ Below w.w.heap.size w.w w' from by
  obtain ⟨F1, h1⟩ := (I1.out.call CC w.h).at_
  exact (qca h1.box).mono fun e w' hh => ⟨hh.1, by rw [<- hh.2]; exact Below.refl _ _⟩)
 have hrows := hok.rows
 have c1 := qh (fun (w : Ext X1.heap.size X1) => show Calls Tryz.prog 57 #[.pointer (some ⟨B, 0, none⟩), .int .i64 k, .int .i64 gen] w.w fun e w' => e = .returned (.bool true) /\ Below w.w.heap.size w.w w' from by
  obtain ⟨F1, h1⟩ := (I1.out.call CC w.h).at_
  rw [<- hh]
  exact qj9 CR CQ hrows m.conf (Co.qc9 m) k gen h1)
 have hqk := (hok.q k hk).ok
 obtain ⟨pb, hpb⟩ : ∃ p, p = Qu.qbT (m.q k) frame ⟨ix, iy, ib⟩ := ⟨_, rfl⟩
 have c2 := fun W (hW : Below X1.heap.size X1 W) => qh (show Calls Tryz.prog 58 #[.pointer (some ⟨Q k, 0, none⟩), .int .i64 frame, .agg #[.int .i8 ix, .int .i8 iy, .int .u8 ib]] W (fun e W' => e = .returned (.bool pb) /\ InO (qaS RP QP) b F X B ⟨R, Q, Co.sts m, Qu.upd m.q k (Qu.put (m.q k) frame ⟨ix, iy, ib⟩)⟩ [] W') from by
  rw [hpb]
  exact (I1.out.call CC hW).ask fun F1 h1 => qaS.queue CR CQ k hk h1 fun FQ hq => CQ.put b FQ (Q k) (m.q k) hqk frame ⟨ix, iy, ib⟩ hfr hi W hq (I1.out.call CC hW).down)
 have kB : ∀ (w : Ext X1.heap.size X1), w.w.cell? ⟨B, 1 + k, none⟩ = some (.pointer (some ⟨Q k, 0, none⟩)) := fun w => by
  obtain ⟨F1, h1⟩ := (I1.out.call CC w.h).at_
  exact (h1.box.cell (1 + k)).trans (Ck.qaY _ _ k hk)
 have z0 : ∀ w : Ext X1.heap.size X1, w.w.cell? ⟨X.heap.size, 0, none⟩ = some (.int .i8 ix) := fun w => w.cell B1.out.lt (B1.out.cell 0)
 have z1 : ∀ w : Ext X1.heap.size X1, w.w.cell? ⟨X.heap.size, 1, none⟩ = some (.int .i8 iy) := fun w => w.cell B1.out.lt (B1.out.cell 1)
 have z2 : ∀ w : Ext X1.heap.size X1, w.w.cell? ⟨X.heap.size, 2, none⟩ = some (.int .u8 ib) := fun w => w.cell B1.out.lt (B1.out.cell 2)
 have HX := qh hX1
 have HOK := qh hok
 have hk8 : (k : Int) < 8 := by omega
 have HPB := qh hpb
 rw [<- hpb]
 clear hX1 hb1 h hb hok hrows hqk hh hpb hi
 go_enter Tryz.func26, Tryz.ntmps26
 go_upto_region 1 with fail
 rw [<- HX.out]
 refine Qt.qbM 18 X1.heap.size X1 (by kernel_rfl) (by kernel_rfl) (Below.refl _ _) ?_
 simp only [List.take_succ_cons, List.take_zero, List.drop_succ_cons, List.drop_zero]
 repeat (go_big_quiet_step (first | (go_at_call 42; with_reducible exact Calls.qcn (Nat.le_refl _) (c0.out _)) | (go_at_call 57; with_reducible exact Calls.qcn (Nat.le_refl _) (c1.out _)) | fail))
 refine wpQuiet_nil ?_
 intro _ hw'
 obtain ⟨q5, hw''⟩ := hw'
 subst hw''
 have cc2 := c2 _ q5.h
 clear kB z0 z1 z2 c0 c1 c2 B1
 cases pb with
 | false =>
  go_wp2_with (go_at_call 58; ((with_reducible refine ((cc2).out).mono ?_); rintro e w3 ⟨rfl, hI⟩; have I3 := qh hI; clear hI cc2))
  go_ret
  have hp : ¬ Qu.qbT (m.q k) frame ⟨ix, iy, ib⟩ = true := by rw [<- HPB.out]; decide
  obtain ⟨s1, s2, s3, s4⟩ := HSTS.out
  rw [if_neg hp] at s3
  have eq : Qu.upd m.q k (Qu.put (m.q k) frame ⟨ix, iy, ib⟩) = m.q := by
   funext j
   by_cases hj : j = k
   · rw [hj, Qu.upd_same]; unfold Qu.put; rw [if_neg hp]
   · rw [Qu.qam _ _ hj]
  have e2 : Co.sts m = Co.sts (Co.input m k gen frame ⟨ix, iy, ib⟩) := by unfold Co.sts; rw [s2, s3, s4]
  have I4 := I3.out
  rw [eq] at I4
  exact PrgC.says I4.says s1 e2 s3.symm
 | true =>
  obtain ⟨r1, r2, r3, r4, r5⟩ := Co.qmO HOK.out k hk gen frame _ HI.out HH.out HPB.out.symm
  obtain ⟨q', hq'⟩ : ∃ q, q = Qu.upd m.q k (Qu.put (m.q k) frame ⟨ix, iy, ib⟩) := ⟨_, rfl⟩
  rw [<- hq'] at r1 r2 r3 r5 cc2
  have R1 := qh r1
  have R2 := qh r2
  have R3 := qh r3
  have R5 := qh r5
  have hmx := HOK.out.shown.ok.1.2.1
  have hlow := HOK.out.low
  have hc0 := HOK.out.conf.ok.1.1
  have cl := qh (show ∀ L W, InO (qaS RP QP) b F X B ⟨R, Q, Co.sts m, q'⟩ L W -> Calls Tryz.prog 46 #[.pointer (some ⟨R, 0, none⟩)] W (fun e W' => e = .returned (.int .i64 m.shown.g.frame) /\ Below W.heap.size W W') from fun L W hI => by
   obtain ⟨F1, h1⟩ := hI.at_
   obtain ⟨FR, FQ, hR, _⟩ := h1.fr
   rw [<- HOK.out.last]
   exact CR.last b FR R _ HOK.out.rows W hR)
  have kR := qh (show ∀ L W, InO (qaS RP QP) b F X B ⟨R, Q, Co.sts m, q'⟩ L W -> W.cell? ⟨B, 0, none⟩ = some (.pointer (some ⟨R, 0, none⟩)) from fun L W hI => by
   obtain ⟨F1, h1⟩ := hI.at_
   exact h1.box.cell 0)
  obtain ⟨fs, hfs⟩ : ∃ f, f = m.shown.g.frame := ⟨_, rfl⟩
  have HFS := qh hfs
  rw [<- hfs] at hlow cl
  clear r1 r2 r3 r5 hq' hfs
  by_cases hlt : frame < fs
  · have cr := qh (show ∀ L W, InO (qaS RP QP) b F X B ⟨R, Q, Co.sts m, q'⟩ L W -> Calls Tryz.prog 56 #[.pointer (some ⟨B, 0, none⟩), .int .i64 frame, .int .i64 fs] W (fun e W' => e = .returned (.int .i64 0) /\ InO (qaS RP QP) b F X B ⟨R, Q, Co.row m.conf.r q' m.conf (m.shown.g.frame - m.conf.g.frame).toNat, q'⟩ L W') from fun L W hI => hI.ask fun F1 h1 => by
     have e3 := HFS.out
     have ei : (m.shown.g.frame - m.conf.g.frame).toNat = (frame - m.conf.g.frame).toNat + (fs - frame).toNat := by omega
     have := qdV CR CQ HOK.out.rows m.conf (Co.qc9 m) (frame - m.conf.g.frame).toNat (fs - frame).toNat frame fs (by omega) (by rw [<- ei]; exact R2.out) (by omega) (by
      show Rg.cut (Co.sts m) frame = Co.row m.conf.r q' m.conf _
      rw [<- R5.out _ (by omega)]
      have hcut := Co.qip m.conf.r m.q m.conf (m.shown.g.frame - m.conf.g.frame).toNat (frame - m.conf.g.frame).toNat (by omega)
      rw [show m.conf.g.frame + (((frame - m.conf.g.frame).toNat : Nat) : Int) = frame by omega] at hcut
      exact hcut) (.inl (by omega)) (by omega) h1 hI.down
     rw [ei]
     exact this)
    go_wp2_with (first
     | (go_at_call 58; ((with_reducible refine ((cc2).out).mono ?_); rintro e w3 ⟨rfl, hI⟩; have I3 := qh hI; have k3 := kR.out _ _ hI; clear hI cc2))
     | (go_at_call 46; ((with_reducible refine ((cl.out _ _ I3.out)).mono ?_); rintro e w4 ⟨rfl, hb4⟩; have I4 := qh (I3.out.call CC hb4); clear hb4 k3))
     | (go_at_call 56; ((with_reducible refine ((cr.out _ _ I4.out)).mono ?_); rintro e w5 ⟨rfl, hI⟩; have I5 := qh hI; clear hI)))
    go_ret
    exact PrgC.says I5.out.says HSTS.out.1 R1.out.symm R3.out.symm
  · have hle : fs <= frame := by omega
    go_wp2_with (first
     | (go_at_call 58; ((with_reducible refine ((cc2).out).mono ?_); rintro e w3 ⟨rfl, hI⟩; have I3 := qh hI; have k3 := kR.out _ _ hI; clear hI cc2))
     | (go_at_call 46; ((with_reducible refine ((cl.out _ _ I3.out)).mono ?_); rintro e w4 ⟨rfl, hb4⟩; have I4 := qh (I3.out.call CC hb4); clear hb4 k3)))
    go_ret
    have e3 := HFS.out
    have er : Co.sts m = Co.sts (Co.input m k gen frame ⟨ix, iy, ib⟩) := by rw [R1.out]; exact R5.out _ (by omega)
    exact PrgC.says I4.out.says HSTS.out.1 er R3.out.symm
end
open Go.RowKit
section
variable {LP : qcJ} (C : qdM LP) {w : World} {B : Nat} {M : List Fd.S} {L : List (Nat × TypeId × Array Value)} {X X' : World}
include C
end
section
variable {LP : qcJ} (C : ObjC LP) {w : World} {Br : Nat} {M M' : List Fd.S} {L : List Rg.St} {AO : Option Addr} {cO bs : Nat} {q : Rg.St} {G G' : Nat -> Prop} {X X' : World}
theorem qcC {W W' : World} {A : Option Addr} {n size : Nat} {xs : List Value} (h : Lies W W.heap.size size A n xs) (hs : W.heap.size <= W'.heap.size) (hk : n ≠ 0 -> ∀ ad, A = some ad -> W'.heap[ad.block]? = W.heap[ad.block]?) : Lies W' W'.heap.size size A n xs :=
 ⟨h.len, fun hn => by obtain ⟨ad, e, hb⟩ := h.start hn; exact ⟨ad, e, Nat.lt_of_lt_of_le hb hs⟩, fun ad e hn j u hu => by
  rw [World.cell?_of_block (w := W) (by rw [add_block]; exact hk hn ad e)]
  exact h.cell ad e hn j u hu⟩
end
section
variable {RP : qcJ} {QP : QuP}
theorem qaS.congr {b B : Nat} {F : Nat -> Prop} {R : Nat} {Q : Nat -> Nat} {M : List Fd.S} {q q' : Nat -> Qu.M} {X : World} (h : qaS RP QP b F B ⟨R, Q, M, q⟩ X) (e : ∀ k, k < 8 -> q k = q' k) : qaS RP QP b F B ⟨R, Q, M, q'⟩ X := by
 obtain ⟨h1, ⟨FR, FQ, g1, g2, g3⟩, h2, h3⟩ := h
 exact ⟨h1, ⟨FR, FQ, g1, fun k hk => by show QP b (FQ k) (Q k) (q' k) X; rw [<- e k hk]; exact g2 k hk, g3⟩, h2, h3⟩
theorem InO.congr {b B : Nat} {F0 : Nat -> Prop} {X0 X : World} {R : Nat} {Q : Nat -> Nat} {M : List Fd.S} {q q' : Nat -> Qu.M} {L : List (Nat × TypeId × Array Value)} (h : InO (qaS RP QP) b F0 X0 B ⟨R, Q, M, q⟩ L X) (e : ∀ k, k < 8 -> q k = q' k) : InO (qaS RP QP) b F0 X0 B ⟨R, Q, M, q'⟩ L X := by
 obtain ⟨⟨F, h1, h2⟩, h3, h4, h5⟩ := h
 exact ⟨⟨F, h1.congr e, h2⟩, h3, h4, h5⟩
end
section
variable {RP : qcJ} {QP : QuP} (CR : qdM RP) (CQ : qcq QP) {b B : Nat} {F0 : Nat -> Prop} {X0 U W : World} {R : Nat} {Q : Nat -> Nat} {M : List Fd.S} {q : Nat -> Qu.M} {L : List (Nat × TypeId × Array Value)}
include CR CQ
theorem InO.newq {FN : Nat -> Prop} {N : Nat} {q' : Qu.M} (s : Nat) (hs : s < 8) (h : InO (qaS RP QP) b F0 X0 B ⟨R, Q, M, q⟩ L U) (hW : Below U.heap.size U W) (hN : QP b FN N q' W) (hF : ∀ k, FN k -> U.heap.size <= k) : InO (qaS RP QP) b F0 X0 B ⟨R, Qu.upd Q s N, M, Qu.upd q s q'⟩ L (W.setCell ⟨B, 1 + s, none⟩ (Ck.ptr N)) := by
 obtain ⟨F, h1, h2, h3⟩ := h.fr
 have k1 := h1.kept CR CQ hW
 have hd : ∀ j, FN j -> ¬ F j := fun j hj hf => by have := hF j hj; have := (h1.up j hf).2; omega
 have ho : Only B W (W.setCell ⟨B, 1 + s, none⟩ (Ck.ptr N)) := Only.set _ _ _
 have kc := h.call (qaS.obj CR CQ) hW
 refine ⟨⟨fun j => F j \/ FN j, k1.newq CR CQ s hs hN hd, fun k hk => ?_, fun p hp hf => ?_⟩, kc.keep.trans (qaB.qfr ho) (fun j e => by subst e; exact h2 _ h1.own), fun p hp => ?_, h.low⟩
 · rcases hk with hk | hk
   · exact h2 k hk
   · exact .inr (Nat.le_trans h.keep.size (hF k hk))
 · rcases hf with hf | hf
   · exact h3 p hp hf
   · have := hF _ hf
     have := (h.own p hp).2.lt
     omega
 · exact ⟨(kc.own p hp).1, ho.box (kc.own p hp).2 fun e => h3 p hp (by rw [e]; exact h1.own)⟩
end
theorem qfO {o : Oper} {a : Act} {w : World} {x : Operand} {B : Nat} (ho : o.op = .fieldAddr 88 x 1) (hx : a.eval x = .pointer (some ⟨B, 0, none⟩)) : (execOp a.eval o).run Tryz.prog w = .ok (.value (.pointer (some ⟨B, 1, none⟩))) w := by
 unfold execOp
 simp only [ho, hx]
 go_simp
theorem qg8 {o : Oper} {a : Act} {w : World} {x y : Operand} {B k : Nat} (ho : o.op = .indexAddr 86 x y) (hx : a.eval x = .pointer (some ⟨B, 1, none⟩)) (hy : a.eval y = .int .i64 (k : Int)) (hk : k < 8) : (execOp a.eval o).run Tryz.prog w = .ok (.value (.pointer (some ⟨B, 1 + k, none⟩))) w := by
 have hk8 : (k : Int) < 8 := by omega
 unfold execOp
 simp only [ho, hx, hy]
 go_simp
theorem Co.qjN (f : Int) (p : Nat -> Gm.In) : ∀ (l : List En.Ev) (v : En.Ev) (q : Nat -> Qu.M), Co.newQ f p (l ++ [v]) q = Qu.upd (Co.newQ f p l q) v.slot.toNat (Qu.new f (p v.slot.toNat))
 | [], v, q => rfl
 | u :: l, v, q => Co.qjN f p l v _
def qeh (QP : QuP) (b U : Nat) (B s : Nat) (mq : Qu.M) (j : Nat) (vm : Nat -> Value) (W : World) : Prop :=
 (j = 11 /\ ∃ N FN, vm 11 = .pointer (some ⟨N, 0, none⟩) /\ QP b FN N mq W /\ ∀ k, FN k -> U <= k) \/ (j = 12 /\ vm 12 = .pointer (some ⟨B, 0, none⟩)) \/ (j = 13 /\ vm 13 = .pointer (some ⟨B, 1, none⟩)) \/ (j = 14 /\ vm 14 = .pointer (some ⟨B, 1 + s, none⟩))
theorem qeh.below {QP : QuP} (CQ : qcq QP) {b U B s j : Nat} {mq : Qu.M} {vm : Nat -> Value} {W W' : World} (h : qeh QP b U B s mq j vm W) (hb : Below W.heap.size W W') : qeh QP b U B s mq j vm W' := by
 rcases h with ⟨h1, N, FN, h2, h3, h4⟩ | h
 · exact .inl ⟨h1, N, FN, h2, CQ.ob.keep h3 (qaB.qa9 hb) (fun _ _ h => h), h4⟩
 · exact .inr h
theorem qeh.congr {QP : QuP} {b U B s j : Nat} {mq : Qu.M} {vm vm' : Nat -> Value} {W : World} (h : qeh QP b U B s mq j vm W) (he : vm j = vm' j) : qeh QP b U B s mq j vm' W := by
 rcases h with ⟨rfl, N, FN, h2, h3⟩ | ⟨rfl, h⟩ | ⟨rfl, h⟩ | ⟨rfl, h⟩
 · exact .inl ⟨rfl, N, FN, he ▸ h2, h3⟩
 · exact .inr (.inl ⟨rfl, he ▸ h⟩)
 · exact .inr (.inr (.inl ⟨rfl, he ▸ h⟩))
 · exact .inr (.inr (.inr ⟨rfl, he ▸ h⟩))
theorem qeh.v11 {QP : QuP} {b U B s : Nat} {mq : Qu.M} {vm : Nat -> Value} {W : World} (h : qeh QP b U B s mq 11 vm W) : ∃ N FN, vm 11 = .pointer (some ⟨N, 0, none⟩) /\ QP b FN N mq W /\ ∀ k, FN k -> U <= k := by
 rcases h with ⟨_, h⟩ | ⟨h, _⟩ | ⟨h, _⟩ | ⟨h, _⟩
 · exact h
 all_goals exact absurd h (by decide)
theorem qeh.v12 {QP : QuP} {b U B s : Nat} {mq : Qu.M} {vm : Nat -> Value} {W : World} (h : qeh QP b U B s mq 12 vm W) : vm 12 = .pointer (some ⟨B, 0, none⟩) := by
 rcases h with ⟨h, _⟩ | ⟨_, h⟩ | ⟨h, _⟩ | ⟨h, _⟩
 · exact absurd h (by decide)
 · exact h
 all_goals exact absurd h (by decide)
theorem qeh.v13 {QP : QuP} {b U B s : Nat} {mq : Qu.M} {vm : Nat -> Value} {W : World} (h : qeh QP b U B s mq 13 vm W) : vm 13 = .pointer (some ⟨B, 1, none⟩) := by
 rcases h with ⟨h, _⟩ | ⟨h, _⟩ | ⟨_, h⟩ | ⟨h, _⟩
 · exact absurd h (by decide)
 · exact absurd h (by decide)
 · exact h
 · exact absurd h (by decide)
theorem qeh.v14 {QP : QuP} {b U B s : Nat} {mq : Qu.M} {vm : Nat -> Value} {W : World} (h : qeh QP b U B s mq 14 vm W) : vm 14 = .pointer (some ⟨B, 1 + s, none⟩) := by
 rcases h with ⟨h, _⟩ | ⟨h, _⟩ | ⟨h, _⟩ | ⟨_, h⟩
 · exact absurd h (by decide)
 · exact absurd h (by decide)
 · exact absurd h (by decide)
 · exact h
def qdL (q : Nat -> Qu.M) (p : Nat -> Gm.In) (k : Nat) : Nat -> Qu.M := fun j => if j < k then Qu.done (q j) (p j) else q j
theorem qlm (q : Nat -> Qu.M) (p : Nat -> Gm.In) (k : Nat) : Qu.upd (qdL q p k) k (Qu.done (qdL q p k k) (p k)) = qdL q p (k + 1) := by
 funext j
 by_cases hj : j = k
 · subst hj; rw [Qu.upd_same]; unfold qdL; rw [if_neg (by omega), if_pos (by omega)]
 · rw [Qu.qam _ _ hj]
   unfold qdL
   by_cases h : j < k
   · rw [if_pos h, if_pos (by omega)]
   · rw [if_neg h, if_neg (by omega)]
section
variable {RP : qcJ} {QP : QuP} (CR : qdM RP) (CQ : qcq QP) {b B : Nat} {F : Nat -> Prop} {R : Nat} {Q : Nat -> Nat} {M : List Fd.S} {q : Nat -> Qu.M} {X : World}
include CR CQ
theorem qj8 (e : En.E) (A : Option Addr) (n c : Nat) (hn : n = e.evs.length) (hn63 : n <= maxLen) (hin : ∀ i, i < 8 -> Gm.tyIn (e.inp i)) (hev : ∀ v ∈ e.evs, 0 <= v.slot /\ v.slot < 8) (hfr : 0 <= e.frame /\ e.frame < 1048576) (hq : ∀ k, k < 8 -> (q k).Ok /\ (q k).from_ < 1099511627776)
 (hE : Lies X X.heap.size 4 A n (En.qa2 e.evs)) (hA : n ≠ 0 -> ∀ ad, A = some ad -> ¬ F ad.block) (h : qaS RP QP b F B ⟨R, Q, M, q⟩ X) (hb : b <= X.heap.size) :
 Calls Tryz.prog 62 #[.pointer (some ⟨B, 0, none⟩), .agg (En.cells e (.slice A n c))] X (fun x X' => ∃ Q', qbN (qaS RP QP) b F B ⟨R, Q', M, Co.newQ (e.frame + 1) e.inp e.evs fun k => Qu.done (q k) (e.inp k)⟩ (.tuple #[]) X x X') := by
 have CC := qaS.obj CR CQ
 obtain ⟨X1, hX1⟩ : ∃ X1, X1 = X.alloc (.cells (En.cells e (.slice A n c)) 52) := ⟨_, rfl⟩
 have I1 := qh (show InO (qaS RP QP) b F X B ⟨R, Q, M, qdL q e.inp 0⟩ [(X.heap.size, 52, En.cells e (.slice A n c))] X1 from by
  rw [hX1]
  exact ((InO.start h hb).alloc CC _ _).congr fun k hk => rfl)
 have HE := qh (show ∀ W, qaB F X W -> Lies W W.heap.size 4 A n (En.qa2 e.evs) from fun W hW => qcC hE hW.size fun h0 ad ea => by
  obtain ⟨ad', e', hlt⟩ := hE.start h0
  rw [ea] at e'
  injection e' with e'
  subst e'
  exact hW.block _ hlt (hA h0 ad ea))
 have xi := fun k (hk : k < 8) => qiH e.inp k hk
 have HIN := qh hin
 have HEV := qh hev
 have HQ := qh hq
 have HN := qh hn
 have HX := qh hX1
 clear hX1 hin hev hq hE hA h hb hn
 go_enter Tryz.func62, Tryz.ntmps62
 go_upto_region 1 with fail
 rw [<- HX.out]
 have B1 := qh (I1.out.box List.mem_cons_self)
 go_wp2_with ((with_reducible refine qc8 rfl rfl ?_); apply qcl.mk rfl; (focus (with_reducible exact B1.out)); dsimp only)
 clear B1
 go_loopw [10] (fun i wr => ∃ k : Nat, k <= 8 /\ i = .int .i64 k /\ InO (qaS RP QP) b F X B ⟨R, Q, M, qdL q e.inp k⟩ [(X.heap.size, 52, En.cells e (.slice A n c))] wr) (fun i _ => 8 - (intOf i).toNat)
 case atStart => exact ⟨0, Nat.zero_le _, rfl, I1.out⟩
 case round =>
  obtain ⟨k, hk, rfl, hI⟩ := hrel
  have IR := qh hI
  clear hI I1
  by_cases hlt : k < 8
  · have hk8 : (k : Int) < 8 := by omega
    have hw1 := show IntKind.i64.wrap ((k : Int) + 1) = (k : Int) + 1 by rw [IntKind.wrap_i64]; omega
    have xk := xi k hlt
    clear xi
    obtain ⟨qk, hqk⟩ : ∃ m, m = q k := ⟨_, rfl⟩
    obtain ⟨ho, hf⟩ := HQ.out k hlt
    have hik := HIN.out k hlt
    have hdk : qdL q e.inp k k = q k := if_neg (Nat.lt_irrefl k)
    obtain ⟨U, hU⟩ : ∃ U, U = wr.alloc (.cells #[.int .i8 (e.inp k).x, .int .i8 (e.inp k).y, .int .u8 (e.inp k).b] 48) := ⟨_, rfl⟩
    have IU := qh (show InO (qaS RP QP) b F X B ⟨R, Q, M, qdL q e.inp k⟩ [(wr.heap.size, 48, #[.int .i8 (e.inp k).x, .int .i8 (e.inp k).y, .int .u8 (e.inp k).b]), (X.heap.size, 52, En.cells e (.slice A n c))] U from by rw [hU]; exact IR.out.alloc CC _ _)
    have kB : ∀ (w : Ext U.heap.size U), w.w.cell? ⟨B, 1 + k, none⟩ = some (.pointer (some ⟨Q k, 0, none⟩)) := fun w => by
     obtain ⟨F1, h1⟩ := (IU.out.call CC w.h).at_
     exact (h1.box.cell (1 + k)).trans (Ck.qaY _ _ k hlt)
    have BU := qh (IU.out.box List.mem_cons_self)
    have z0 : ∀ w : Ext U.heap.size U, w.w.cell? ⟨wr.heap.size, 0, none⟩ = some (.int .i8 (e.inp k).x) := fun w => w.cell BU.out.lt (BU.out.cell 0)
    have z1 : ∀ w : Ext U.heap.size U, w.w.cell? ⟨wr.heap.size, 1, none⟩ = some (.int .i8 (e.inp k).y) := fun w => w.cell BU.out.lt (BU.out.cell 1)
    have z2 : ∀ w : Ext U.heap.size U, w.w.cell? ⟨wr.heap.size, 2, none⟩ = some (.int .u8 (e.inp k).b) := fun w => w.cell BU.out.lt (BU.out.cell 2)
    have c2 := fun W (hW : Below U.heap.size U W) => qh (show Calls Tryz.prog 102 #[.pointer (some ⟨Q k, 0, none⟩), .agg #[.int .i8 (e.inp k).x, .int .i8 (e.inp k).y, .int .u8 (e.inp k).b]] W (fun x W' => x = .returned (.tuple #[]) /\ InO (qaS RP QP) b F X B ⟨R, Q, M, qdL q e.inp (k + 1)⟩ [(wr.heap.size, 48, #[.int .i8 (e.inp k).x, .int .i8 (e.inp k).y, .int .u8 (e.inp k).b]), (X.heap.size, 52, En.cells e (.slice A n c))] W') from
     (IU.out.call CC hW).ask fun F1 h1 => by
      rw [<- qlm]
      exact qaS.queue (m := ⟨R, Q, M, qdL q e.inp k⟩) CR CQ k hlt h1 fun FQ hq => CQ.done b FQ (Q k) (qdL q e.inp k k) (by rw [hdk]; exact ho) (by rw [hdk]; exact hf) (e.inp k) hik W hq (IU.out.call CC hW).down)
    have HU := qh hU
    clear hU hqk ho hf hik hdk
    go_upto_region 4 with fail
    rw [<- HU.out]
    refine Qt.qbM 7 U.heap.size U (by kernel_rfl) (by kernel_rfl) (Below.refl _ _) ?_
    simp only [List.take_succ_cons, List.take_zero, List.drop_succ_cons, List.drop_zero]
    repeat (go_big_quiet_step (first | fail))
    refine wpQuiet_nil ?_
    intro _ hw'
    obtain ⟨q5, hw''⟩ := hw'
    subst hw''
    have cc2 := c2 _ q5.h
    clear kB z0 z1 z2 c2 BU
    go_wp2_with (go_at_call 102; ((with_reducible refine ((cc2).out).mono ?_); rintro x w3 ⟨rfl, hI⟩; have I3 := qh (hI.less (L' := [(X.heap.size, 52, En.cells e (.slice A n c))]) (fun p hp => List.mem_cons_of_mem _ hp)); clear hI cc2))
    go_roundw
    case rel => exact ⟨k + 1, by omega, by go_num, I3.out⟩
    case measure => simp [intOf]; omega
  · obtain rfl : k = 8 := by omega
    have hk8 : ¬ ((8 : Nat) : Int) < 8 := by omega
    have IS := qh (IR.out.congr (q' := Co.newQ (e.frame + 1) e.inp (e.evs.take 0) fun k => Qu.done (q k) (e.inp k)) fun k hk => if_pos hk)
    have k1 : wr.cell? ⟨X.heap.size, 1, none⟩ = some (.slice A n c) := ((IR.out.box List.mem_cons_self).cell 1).trans (En.qcg _ _)
    clear xi IR
    go_wp2_with fail
    go_loopw [26] (fun i wr => ∃ k : Nat, k <= n /\ i = .int .i64 k /\ ∃ Q', InO (qaS RP QP) b F X B ⟨R, Q', M, Co.newQ (e.frame + 1) e.inp (e.evs.take k) fun k => Qu.done (q k) (e.inp k)⟩ [(X.heap.size, 52, En.cells e (.slice A n c))] wr) (fun i _ => n - (intOf i).toNat)
    case atStart => exact ⟨0, Nat.zero_le _, rfl, Q, IS.out⟩
    case round =>
     obtain ⟨k, hk, rfl, Q', hI⟩ := hrel
     have IR := qh hI
     clear hI IS
     by_cases hlt : k < n
     · have hk8 : (k : Int) < n := by omega
       have hkl : k < e.evs.length := by have := HN.out; omega
       have hw1 := show IntKind.i64.wrap ((k : Int) + 1) = (k : Int) + 1 by rw [IntKind.wrap_i64]; have := HN.out; have := hn63; unfold maxLen at this; omega
       obtain ⟨ad, hA1, hbl, e0, e1, e2, e3⟩ := qj1 (HE.out wr IR.out.keep) HN.out k hkl
       obtain ⟨hs0, hs8⟩ := HEV.out _ (List.getElem_mem hkl)
       have htk : e.evs.take (k + 1) = e.evs.take k ++ [e.evs[k]] := List.take_succ_eq_append_getElem hkl
       have hsn := Co.qjN (e.frame + 1) e.inp (e.evs.take k) e.evs[k] fun k => Qu.done (q k) (e.inp k)
       rw [<- htk] at hsn
       generalize e.evs[k] = v at e0 e1 e2 e3 hs0 hs8 hsn
       obtain ⟨vk, vs, vg, vp⟩ := v
       dsimp only at e0 e1 e2 e3 hs0 hs8 hsn
       obtain ⟨s, rfl⟩ : ∃ s : Nat, vs = s := ⟨vs.toNat, by omega⟩
       have hs : s < 8 := by omega
       rw [Int.toNat_natCast] at hsn
       have HSN := qh hsn
       subst hA1
       obtain ⟨U, hU⟩ : ∃ U, U = wr.alloc (.cells #[.int .i64 vk, .int .i64 s, .int .i64 vg, .int .i64 vp] 76) := ⟨_, rfl⟩
       have IU := qh (show InO (qaS RP QP) b F X B ⟨R, Q', M, Co.newQ (e.frame + 1) e.inp (e.evs.take k) fun k => Qu.done (q k) (e.inp k)⟩ [(wr.heap.size, 76, #[.int .i64 vk, .int .i64 s, .int .i64 vg, .int .i64 vp]), (X.heap.size, 52, En.cells e (.slice (some ad) n c))] U from by rw [hU]; exact IR.out.alloc CC _ _)
       have HU := qh hU
       clear hU htk hsn
       go_upto_region 9 with fail
       rw [<- HU.out]
       clear e0 e1 e2 e3
       have BV := qh (IU.out.box List.mem_cons_self)
       have BE := qh (IU.out.box (List.mem_cons_of_mem _ List.mem_cons_self))
       have y1 := qh (show ∀ W, Below U.heap.size U W -> W.cell? ⟨wr.heap.size, 1, none⟩ = some (.int .i64 (s : Int)) from fun W hW => (BV.out.below hW BV.out.lt).cell 1)
       have y0 := qh (show ∀ W, Below U.heap.size U W -> W.cell? ⟨X.heap.size, 0, none⟩ = some (.int .i64 e.frame) from fun W hW => ((BE.out.below hW BE.out.lt).cell 0).trans (En.qa1 _ _))
       have yi := qh (show ∀ W, Below U.heap.size U W -> W.cell? ⟨X.heap.size, 2 + s * 3, none⟩ = some (.int .i8 (e.inp s).x) /\ W.cell? ⟨X.heap.size, 2 + s * 3 + 1, none⟩ = some (.int .i8 (e.inp s).y) /\ W.cell? ⟨X.heap.size, 2 + s * 3 + 2, none⟩ = some (.int .u8 (e.inp s).b) from fun W hW => by
        have hB := BE.out.below hW BE.out.lt
        refine ⟨(hB.cell _).trans ?_, (hB.cell _).trans ?_, (hB.cell _).trans ?_⟩
        · exact En.qe2 _ _ (s * 3) _ (by have := Gm.qbe e.inp s 0 hs (by omega); simpa [Gm.In.cells] using this)
        · exact En.qe2 _ _ (s * 3 + 1) _ (by have := Gm.qbe e.inp s 1 hs (by omega); simpa [Gm.In.cells] using this)
        · exact En.qe2 _ _ (s * 3 + 2) _ (by have := Gm.qbe e.inp s 2 hs (by omega); simpa [Gm.In.cells] using this))
       have hwf : IntKind.i64.wrap (e.frame + 1) = e.frame + 1 := by rw [IntKind.wrap_i64]; omega
       have hs8 : (s : Int) < 8 := by omega
       have hCN := qh (show ∀ W, Below U.heap.size U W -> Calls Tryz.prog 35 #[.int .i64 (e.frame + 1), .agg #[.int .i8 (e.inp s).x, .int .i8 (e.inp s).y, .int .u8 (e.inp s).b]] W (fun x W' => ∃ N FN, x = .returned (.pointer (some ⟨N, 0, none⟩)) /\ QP b FN N (Qu.new (e.frame + 1) (e.inp s)) W' /\ Below W.heap.size W W' /\ ∀ k, FN k -> W.heap.size <= k) from fun W hW => CQ.new b (e.frame + 1) (e.inp s) W (IU.out.call CC hW).down (by omega) (HIN.out s hs))
       refine Rz.qbF (by kernel_rfl) 11 15 (by kernel_rfl) (fun W => Below U.heap.size U W) (qeh QP b U.heap.size B s (Qu.new (e.frame + 1) (e.inp s))) ((Below.refl _ _).drew) (fun j vm vm' W h1 h2 he hV => hV.congr (he j (.inl rfl))) ?_
       simp only [List.take_succ_cons, List.take_zero, List.drop_succ_cons, List.drop_zero, Nat.reduceSub]
       refine Rz.qar (v := .pointer (some ⟨B, 0, none⟩)) (fun W hW => Rz.qaV rfl rfl) ?_
       refine Rz.qar (v := .pointer (some ⟨wr.heap.size, 1, none⟩)) (fun W hW => ?_) ?_
       · go_simp
       refine Rz.qar (v := .int .i64 (s : Int)) (fun W hW => ?_) ?_
       · have k1 := y1.out W hW; go_simp
       refine Rz.qar (v := .pointer (some ⟨X.heap.size, 0, none⟩)) (fun W hW => ?_) ?_
       · go_simp
       simp only [Act.put, List.setIfInBounds_toArray, List.set_cons_succ, List.set_cons_zero]
       refine Rz.qar (v := .int .i64 e.frame) (fun W hW => ?_) ?_
       · have k1 := y0.out W hW; go_simp
       refine Rz.qar (v := .int .i64 (e.frame + 1)) (fun W hW => ?_) ?_
       · go_simp
       refine Rz.qar (v := .pointer (some ⟨wr.heap.size, 1, none⟩)) (fun W hW => ?_) ?_
       · go_simp
       refine Rz.qar (v := .int .i64 (s : Int)) (fun W hW => ?_) ?_
       · have k1 := y1.out W hW; go_simp
       simp only [Act.put, List.setIfInBounds_toArray, List.set_cons_succ, List.set_cons_zero]
       refine Rz.qar (v := .pointer (some ⟨X.heap.size, 2, none⟩)) (fun W hW => ?_) ?_
       · go_simp
       refine Rz.qar (v := .pointer (some ⟨X.heap.size, 2 + s * 3, none⟩)) (fun W hW => ?_) ?_
       · go_simp
       refine Rz.qar (v := .agg #[.int .i8 (e.inp s).x, .int .i8 (e.inp s).y, .int .u8 (e.inp s).b]) (fun W hW => ?_) ?_
       · obtain ⟨k1, k2, k3⟩ := yi.out W hW; go_simp
       simp only [Act.put, List.setIfInBounds_toArray, List.set_cons_succ, List.set_cons_zero]
       refine qbW (fun A => A.tmps.size = 46 /\ A.eval (.tmp 30) = .pointer (some ⟨B, 0, none⟩) /\ A.eval (.tmp 32) = .int .i64 (s : Int) /\ A.eval (.tmp 35) = .int .i64 (e.frame + 1) /\ A.eval (.tmp 40) = .agg #[.int .i8 (e.inp s).x, .int .i8 (e.inp s).y, .int .u8 (e.inp s).b]) ⟨rfl, rfl, rfl, rfl, rfl⟩ ?_ ?_
       · intro A1 hA1
         obtain ⟨hAs, h30, h32, h35, h40⟩ := hA1
         refine ⟨?_, ?_, ?_, ?_, trivial⟩
         · intro vm W hW hV
           refine qbk (f := 35) (args := #[.int .i64 (e.frame + 1), .agg #[.int .i8 (e.inp s).x, .int .i8 (e.inp s).y, .int .u8 (e.inp s).b]]) (qb4 (fun _ _ => by go_simp) rfl ?_ ?_) ((hCN.out W hW).mono ?_)
           · simp only [Rz.qan]
             rw [Rz.qab (by decide), Rz.qab (by decide), Rz.qab (by decide), Rz.qab (by decide)]
             exact h35
           · simp only [Rz.qan]
             rw [Rz.qab (by decide), Rz.qab (by decide), Rz.qab (by decide), Rz.qab (by decide)]
             exact h40
           · rintro x W' ⟨N, FN, rfl, h1, hb, h2⟩
             exact ⟨_, rfl, .inl ⟨rfl, N, FN, by simp [Rz.upd], h1, fun k hk => Nat.le_trans hW.size (h2 k hk)⟩, hW.trans (hb.mono hW.size), fun j _ _ _ h => h.below CQ hb⟩
         · intro vm W hW hV
           refine qaH (w' := W) (qa4 (ad := ⟨B, 0, none⟩) rfl ?_) ⟨.inr (.inl ⟨rfl, by simp [Rz.upd]⟩), hW, fun j _ _ _ h => h⟩
           simp only [Rz.qan]
           rw [Rz.qab (by decide), Rz.qab (by decide), Rz.qab (by decide), Rz.qab (by decide)]
           exact h30
         · intro vm W hW hV
           have e12 := (hV 12 (by omega) (by omega) (by kernel_rfl)).v12
           refine qaH (w' := W) (qfO (B := B) rfl ?_) ⟨.inr (.inr (.inl ⟨rfl, by simp [Rz.upd]⟩)), hW, fun j _ _ _ h => h⟩
           simp only [Rz.qan]
           rw [Rz.qab (by decide), Rz.qab (by decide), Rz.qaE (by simp only [Rz.qaD, hAs]; decide)]
           exact e12
         · intro vm W hW hV
           have e13 := (hV 13 (by omega) (by omega) (by kernel_rfl)).v13
           refine qaH (w' := W) (qg8 (B := B) (k := s) rfl ?_ ?_ hs) ⟨.inr (.inr (.inr ⟨rfl, by simp [Rz.upd]⟩)), hW, fun j _ _ _ h => h⟩
           · simp only [Rz.qan]
             rw [Rz.qab (by decide), Rz.qaE (by simp only [Rz.qaD, hAs]; decide)]
             exact e13
           · simp only [Rz.qan]
             rw [Rz.qab (by decide), Rz.qab (by decide), Rz.qab (by decide), Rz.qab (by decide)]
             exact h32
       · intro vm W hW hV
         obtain ⟨N, FN, e11, hN, hF⟩ := (hV 11 (by omega) (by omega)).v11
         have e14 := (hV 14 (by omega) (by omega)).v14
         have I6 := qh (InO.newq CR CQ s hs IU.out hW hN hF)
         have hbx : Box W B 88 (Ck.cells R Q') := by
          obtain ⟨F1, h1⟩ := (IU.out.call CC hW).at_
          exact h1.box
         have xc : W.cell? ⟨B, 1 + s, none⟩ = some (.pointer (some ⟨Q' s, 0, none⟩)) := (hbx.cell (1 + s)).trans (Ck.qaY _ _ s hs)
         have xf := hbx.free (1 + s)
         have xl := hbx.lt
         clear hW hV hN hF hbx hCN y0 y1 yi BV BE IU
         simp only [Rz.qan, e11, e14]
         clear e11 e14
         go_wp2_with fail
         go_roundw
         case rel =>
          have I7 := I6.out.less (L' := [(X.heap.size, 52, En.cells e (.slice (some ad) n c))]) (fun p hp => List.mem_cons_of_mem _ hp)
          rw [<- HSN.out] at I7
          exact ⟨k + 1, by omega, by go_num, _, I7⟩
         case measure => simp [intOf]; omega
     · obtain rfl : k = n := by omega
       have hk8 : ¬ (k : Int) < k := by omega
       go_wp2_with fail
       go_end0
       have I9 := IR.out
       rw [HN.out, List.take_length] at I9
       exact ⟨Q', I9.says⟩
end
end Go.Proofs.YtmiopphcfdlneaaGreat