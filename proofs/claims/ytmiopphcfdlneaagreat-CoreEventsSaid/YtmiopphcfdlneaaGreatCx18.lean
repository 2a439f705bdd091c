/-
Several texts in one: Rpd Rpe Rpf Rpg Lrc Imp Iwk.
-/
import Derived.Test.YtmiopphcfdlneaaGreatCx17
set_option maxRecDepth 100000
set_option maxHeartbeats 8000000
set_option linter.unusedVariables false
set_option linter.unusedSimpArgs false
namespace Go.Proofs.YtmiopphcfdlneaaGreat
open Go.RowKit
theorem qg5 (L : List Rg.St) (i : Nat) (hi : i <= L.length) : (L.flatMap Rg.St.cells).take (i * 76) = (L.take i).flatMap Rg.St.cells := by
 have h : ((L.take i).flatMap Rg.St.cells).length = i * 76 := by
  rw [qdE (cells := Rg.St.cells) (c := 76) Rg.St.len, List.length_take, Nat.min_eq_left hi]
 conv => lhs; rw [<- List.take_append_drop i L, List.flatMap_append]
 exact List.take_left' h
theorem qkr (cs : Array Value) (o : Nat) (vs : List Value) (h : o + vs.length <= cs.size) : (splice cs o vs).size = cs.size := by
 unfold splice
 simp only [List.size_toArray, List.length_append, List.length_take, List.length_drop, Array.length_toList]
 omega
section
variable {g : Nat} {L L' : List Rg.St} {w : World}
theorem PRow.set (h : PRow g L w) (o : Nat) (vs : List Value) (hb : o + vs.length <= 684) (h9 : L'.length <= 9) (hc : ∀ cur : List Value, cur.length = 684 -> cur.take (L.length * 76) = L.flatMap Rg.St.cells -> (cur.take o ++ vs ++ cur.drop (o + vs.length)).take (L'.length * 76) = L'.flatMap Rg.St.cells) : PRow g L' (w.setCells g o vs) := by
 obtain ⟨cur, hB, h1, h2⟩ := h.row
 refine ⟨h9, splice cur o vs, ?_, by rw [qkr cur o vs (by omega)]; exact h1, ?_⟩
 · rw [qbP g _ vs o cur w hB.is (by omega)]
   exact hB.row _
 · have := hc cur.toList (by rw [Array.length_toList]; exact h1) h2
   unfold splice
   rw [List.toList_toArray]
   exact this
theorem PRow.behind (h : PRow g L w) (o : Nat) (vs : List Value) (ho : L.length * 76 <= o) (hb : o + vs.length <= 684) : PRow g L (w.setCells g o vs) :=
 h.set o vs hb h.few fun cur hl hc => by
  rw [List.append_assoc, List.take_append_of_le_length (by rw [List.length_take]; omega), List.take_take, Nat.min_eq_left ho]
  exact hc
theorem PRow.push (h : PRow g L w) (q : Rg.St) (h8 : L.length <= 8) : PRow g (L ++ [q]) (w.setCells g (L.length * 76) q.cells) :=
 h.set _ _ (by rw [q.len]; omega) (by rw [List.length_append]; simp; omega) fun cur hl hc => by
  rw [hc]
  have hf : (L.flatMap Rg.St.cells).length = L.length * 76 := qdE (cells := Rg.St.cells) (c := 76) Rg.St.len L
  rw [List.take_left' (by rw [List.length_append, hf, q.len, List.length_append]; simp; omega)]
  rw [List.flatMap_append, List.flatMap_cons, List.flatMap_nil, List.append_nil]
theorem PRow.over (h : PRow g L w) (i j : Nat) (hij : i <= j) (hj : j <= L.length) : PRow g (L.take i ++ L.drop j) (w.setCells g (i * 76) ((L.drop j).flatMap Rg.St.cells)) := by
 have h9 := h.few
 have hf : ((L.drop j).flatMap Rg.St.cells).length = (L.length - j) * 76 := by rw [qdE (cells := Rg.St.cells) (c := 76) Rg.St.len, List.length_drop]
 refine h.set _ _ (by rw [hf]; omega) (by rw [List.length_append, List.length_take, List.length_drop]; omega) fun cur hl hc => ?_
 have e : cur.take (i * 76) = (L.take i).flatMap Rg.St.cells := by
  rw [<- qg5 L i (by omega), <- hc, List.take_take, Nat.min_eq_left (by omega)]
 rw [e, List.take_left' (by rw [List.length_append, hf, qdE (cells := Rg.St.cells) (c := 76) Rg.St.len, List.length_append, List.length_take, List.length_drop]; omega), List.flatMap_append]
end
theorem qaB.qn2 {F : Nat -> Prop} {X : World} {B : Nat} (hF : F B \/ X.heap.size <= B) : ∀ (vs : List Value) (o : Nat) {X' : World} (h : qaB F X X'), qaB F X (X'.setCells B o vs)
 | [], _, _, h => h
 | v :: r, o, X', h => qaB.qn2 hF r (o + 1) (h.put hF o v)
theorem qaB.qkp {F F' : Nat -> Prop} {X X' : World} (h : qaB F X X') (hs : ∀ j, F j -> F' j) : qaB F' X X' := ⟨h.os, h.tape, h.output, h.size, fun k hk hn => h.block k hk fun hf => hn (hs k hf)⟩
theorem qfY {o : Oper} {a : Act} {w : World} {x y : Operand} {g N : Nat} {L : List Rg.St} {q : Rg.St} (ho : o.op = .call { callee := .builtin .append, args := #[x, y], argTypes := #[123, 123] }) (hx : a.eval x = .slice (some ⟨g, 0, none⟩) L.length 9) (hy : a.eval y = .slice (some ⟨N, 0, none⟩) 1 1) (hR : PRow g L w) (h8 : L.length <= 8) (hB : Box w N 38 q.arr) :
 (execOp a.eval o).run Tryz.prog w = .ok (.value (.slice (some ⟨g, 0, none⟩) (L.length + 1) 9)) (w.setCells g (L.length * 76) q.cells) := by
 obtain ⟨i, hi, hz, hs, hby⟩ := qf2
 obtain ⟨cur, hC, h1, h2⟩ := hR.row
 have hrun := run_append_room_cells (P := Tryz.prog) w 123 o.type 38 i Tryz.underlying123 hi g 0 L.length 9 ⟨N, 0, none⟩ 1 1 q.cells (by rw [q.len, hs]) (fun j u hu => by
  rw [Addr.add_lit, Nat.zero_add, hB.cell j]
  unfold Rg.St.cells at hu
  rwa [Array.getElem?_toList] at hu) (qgs q) (by omega) (fun j hj => by
  rw [hC.cell, Array.getElem?_eq_getElem (by rw [hs]; rw [q.len] at hj; omega)]; rfl) (fun j hj => hC.free _)
 rw [hs, Nat.zero_add] at hrun
 unfold execOp
 simp [ho, resolve, invoke, builtin, hx, hy, hrun, Result.andThen]
def putV (q : Rg.St) (L : List Rg.St) (g base : Nat) (j : Nat) (vm : Nat -> Value) (w : World) : Prop :=
 match j with
 | 6 => ∃ A' c', vm 6 = .agg (Rg.St.arr ⟨q.g, q.r, A', c'⟩) /\ Lies w w.heap.size 6 A' q.g.qaa.length (Gm.qad q.g.qaa) /\ (q.g.qaa.length ≠ 0 -> ∀ ad, A' = some ad -> base <= ad.block)
 | 7 => ∃ A' c' N, vm 6 = .agg (Rg.St.arr ⟨q.g, q.r, A', c'⟩) /\ vm 7 = .slice (some ⟨N, 0, none⟩) 1 1 /\ Box w N 38 (Rg.St.arr ⟨q.g, q.r, A', c'⟩) /\ base <= N
 | 8 => ∃ A' c', vm 6 = .agg (Rg.St.arr ⟨q.g, q.r, A', c'⟩) /\ vm 8 = .slice (some ⟨g, 0, none⟩) (L.length + 1) 9 /\ PRow g (L ++ [⟨q.g, q.r, A', c'⟩]) w
 | _ => True
theorem qfo {q : Rg.St} {L : List Rg.St} {g base j : Nat} {vm vm' : Nat -> Value} {w : World} (h : putV q L g base j vm w) (h1 : 6 <= j /\ j < 9) (h6 : vm 6 = vm' 6) (hj : vm j = vm' j) : putV q L g base j vm' w := by
 obtain rfl | rfl | rfl : j = 6 \/ j = 7 \/ j = 8 := by omega
 · obtain ⟨A, c, e, h⟩ := h; exact ⟨A, c, h6 ▸ e, h⟩
 · obtain ⟨A, c, N, e, e2, h⟩ := h; exact ⟨A, c, N, h6 ▸ e, hj ▸ e2, h⟩
 · obtain ⟨A, c, e, e2, h⟩ := h; exact ⟨A, c, h6 ▸ e, hj ▸ e2, h⟩
theorem qhP {q : Rg.St} {L : List Rg.St} {g base j : Nat} {vm : Nat -> Value} {w w' : World} (h : putV q L g base j vm w) (hb : Below w.heap.size w w') (h1 : 6 <= j /\ j < 9) : putV q L g base j vm w' := by
 obtain rfl | rfl | rfl : j = 6 \/ j = 7 \/ j = 8 := by omega
 · obtain ⟨A, c, e, h, h2⟩ := h; exact ⟨A, c, e, (h.below hb).wider hb.size, h2⟩
 · obtain ⟨A, c, N, e, e2, h, h2⟩ := h; exact ⟨A, c, N, e, e2, h.below hb h.lt, h2⟩
 · obtain ⟨A, c, e, e2, h⟩ := h; exact ⟨A, c, e, e2, h.kept (hb.block _ h.lt)⟩
theorem qpk {q : Rg.St} {L : List Rg.St} {g base j : Nat} {vm : Nat -> Value} {w w' : World} (h : putV q L g base j vm w) (hK : qaB (fun k => k = g) w w') (hg : g < base) (h1 : 6 <= j /\ j < 8) : putV q L g base j vm w' := by
 obtain rfl | rfl : j = 6 \/ j = 7 := by omega
 · obtain ⟨A, c, e, h, h2⟩ := h
   refine ⟨A, c, e, qcC h hK.size fun h0 ad ea => ?_, h2⟩
   obtain ⟨ad', ea', hb'⟩ := h.start h0
   rw [ea] at ea'; injection ea' with ea'; subst ea'
   have := h2 h0 _ ea
   exact hK.block _ hb' (by omega)
 · obtain ⟨A, c, N, e, e2, h, h2⟩ := h; exact ⟨A, c, N, e, e2, ⟨(hK.block N h.lt (by omega)).trans h.is⟩, h2⟩
theorem qpR {q : Rg.St} {A A' : Option Addr} {c c' : Nat} (h : Value.agg (Rg.St.arr ⟨q.g, q.r, A, c⟩) = .agg (Rg.St.arr ⟨q.g, q.r, A', c'⟩)) : A = A' /\ c = c' := by
 injection h with h
 have h58 := congrArg (fun x : Array Value => x[58]?) h
 have e : some (Value.slice A q.g.qaa.length c) = some (.slice A' q.g.qaa.length c') := (qiK _ _ _).symm.trans (h58.trans (qiK _ _ _))
 injection e with e
 injection e with e1 e2 e3
 exact ⟨e1, e3⟩
theorem qeu {o : Oper} {a : Act} {w : World} {x : Operand} {B : Nat} (ho : o.op = .fieldAddr 125 x 0) (hx : a.eval x = .pointer (some ⟨B, 0, none⟩)) : (execOp a.eval o).run Tryz.prog w = .ok (.value (.pointer (some ⟨B, 0, none⟩))) w := by
 unfold execOp
 simp only [ho, hx]
 go_simp
theorem qjk (B g : Nat) (L : List Rg.St) (q : Rg.St) (h8 : L.length <= 8) (hn : q.g.qaa.length <= 60) (X : World) (hB : Box X B 125 #[.slice (some ⟨g, 0, none⟩) L.length 9]) (hR : PRow g L X) (hL : Lies X X.heap.size 6 q.A q.g.qaa.length (Gm.qad q.g.qaa)) :
 Calls Tryz.prog 75 #[.pointer (some ⟨B, 0, none⟩), .agg q.arr] X fun e X' => e = .returned (.tuple #[]) /\ ∃ A' c', Box X' B 125 #[.slice (some ⟨g, 0, none⟩) (L.length + 1) 9] /\ PRow g (L ++ [⟨q.g, q.r, A', c'⟩]) X' /\ Lies X' X'.heap.size 6 A' q.g.qaa.length (Gm.qad q.g.qaa) /\ (q.g.qaa.length ≠ 0 -> ∀ ad, A' = some ad -> X.heap.size <= ad.block) /\ qaB (fun k => k = g \/ k = B) X X' := by
 have hBg : B ≠ g := by obtain ⟨cur, hC, _⟩ := hR.row; exact hB.apart hC (by decide)
 obtain ⟨X1, hX1⟩ : ∃ X1, X1 = X.alloc (.cells q.arr 38) := ⟨_, rfl⟩
 have hb1 : Below X.heap.size X X1 := by rw [hX1]; exact qac X _
 have hs1 : X1.heap.size = X.heap.size + 1 := by rw [hX1]; simp
 have P1 := qh (show Box X1 X.heap.size 38 q.arr by rw [hX1]; exact Box.made _ _ _)
 have B1 := qh (hB.below hb1 hB.lt)
 have R1 := qh (hR.kept (hb1.block _ hR.lt))
 have hgl := hR.lt
 have hBl := hB.lt
 have L1 := qh ((hL.below hb1).wider hb1.size)
 have K1 := qh hb1
 have HX := qh hX1
 have HS := qh hs1
 have co := qh (fun w hw => show Calls Tryz.prog 82 #[.agg q.arr] w _ from qjl q hn w hw)
 have HBG := qh hBg
 clear hB hR hL hb1 hX1 hs1 hBg
 go_enter Tryz.func75, Tryz.ntmps75
 go_upto_region 1 with fail
 rw [<- HX.out]
 have kB : ∀ W, qaB (fun k => k = g) X1 W -> Box W B 125 #[.slice (some ⟨g, 0, none⟩) L.length 9] := fun W hK => ⟨(hK.block B (B1.out.lt) HBG.out).trans B1.out.is⟩
 have kP : ∀ W, qaB (fun k => k = g) X1 W -> Box W X.heap.size 38 q.arr := fun W hK => ⟨(hK.block _ P1.out.lt (by omega)).trans P1.out.is⟩
 have KB := qh kB
 have KP := qh kP
 clear kB kP
 refine Rj.qgl (by kernel_rfl) 6 9 (by kernel_rfl) (fun W => qaB (fun k => k = g) X1 W /\ PRow g L W) (fun j vm W => putV q L g X1.heap.size j vm W) (fun S vm W => (S 8 = true -> S 6 = true) /\ (S 8 = false -> Below X1.heap.size X1 W)) ⟨(qaB.refl _ _).call (Below.drew (Below.refl _ _)), R1.out.kept rfl⟩ (fun _ => ⟨fun h => (by cases h), fun _ => Below.drew (Below.refl _ _)⟩) (fun S vm vm' W he h => h) ?hvd ?_
 case hvd =>
  intro j vm vm' W h1 h2 he hV
  obtain rfl | rfl | rfl : j = 6 \/ j = 7 \/ j = 8 := by omega
  · exact qfo hV (by omega) (he 6 (.inl rfl)) (he 6 (.inl rfl))
  · exact qfo hV (by omega) (he 6 (.inr (by kernel_rfl))) (he 7 (.inl rfl))
  · exact qfo hV (by omega) (he 6 (.inr (by kernel_rfl))) (he 8 (.inl rfl))
 simp only [List.take_succ_cons, List.take_zero, List.drop_succ_cons, List.drop_zero, Nat.reduceSub]
 refine Rz.qar (v := .pointer (some ⟨B, 0, none⟩)) (fun W hW => Rz.qaV rfl rfl) ?_
 refine Rz.qar (v := .pointer (some ⟨B, 0, none⟩)) (fun W hW => Rz.qaV rfl rfl) ?_
 refine Rz.qar (v := .pointer (some ⟨B, 0, none⟩)) (fun W hW => qa4 rfl rfl) ?_
 refine Rz.qar (v := .pointer (some ⟨B, 0, none⟩)) (fun W hW => qeu rfl rfl) ?_
 refine Rz.qar (v := .slice (some ⟨g, 0, none⟩) L.length 9) (fun W hW => qfv rfl rfl ((KB.out W hW.1).cell 0)) ?_
 refine Rz.qar (v := .agg q.arr) (fun W hW => qjZ q rfl rfl (KP.out W hW.1)) ?_
 refine Rz.qhZ (fun A => A.tmps.size = 15 /\ A.eval (.tmp 8) = .slice (some ⟨g, 0, none⟩) L.length 9) ⟨rfl, rfl⟩ ?_ ?_ ?_
 · intro S vm W hW hSi hS hV hD
   simp only [Rz.qan]
   have hd8 : S 8 = false := by
    cases h : S 8 with
    | false => rfl
    | true => have := hD.1 h; rw [hSi] at this; cases this
   have hWb := hD.2 hd8
   refine qbk (f := 82) (args := #[.agg q.arr]) ?_ ((co.out W ((L1.out.below hWb).wider hWb.size)).mono ?_)
   · go_simp
   · rintro e w' ⟨A', c', rfl, ho, hb⟩
     refine ⟨_, rfl, ⟨A', c', by simp [Rz.upd], Lies.owned ho, fun h0 ad ea => ?_⟩, ⟨hW.1.call hb, hW.2.kept (hb.block _ hW.2.lt)⟩, fun j h1 h2 _ _ h => qhP h hb ⟨h1, h2⟩, fun h => ?_, fun h => ?_⟩
     · obtain ⟨_, ⟨q0, hq0⟩ | ⟨gq, _, _, q0, hq, _⟩⟩ := ho
       · exact absurd hq0 h0
       · injection q0 with q0
         rw [q0] at ea
         injection ea with ea
         subst ea
         exact Nat.le_trans hWb.size hq
     · simp [Rj.also]
     · exact hWb.trans (hb.mono hWb.size)
 · intro A ⟨hAs, hA8⟩
   refine ⟨?_, ?_, trivial⟩
   · intro S vm W hW hSi hS hV hD
     have s6 := hS 6 (by omega) (by omega) (by kernel_rfl)
     obtain ⟨A', c', e6, _, _⟩ := hV 6 (by omega) (by omega) s6
     refine qaH (qlc ⟨q.g, q.r, A', c'⟩ rfl ?_) ⟨⟨A', c', W.heap.size, by simp [Rz.upd]; exact e6, by simp [Rz.upd], Box.made _ _ _, hW.1.size⟩, ⟨hW.1.call (qac _ _), hW.2.kept (by exact (qac W _).block _ hW.2.lt)⟩, fun j h1 h2 _ _ h => qhP h (qac _ _) ⟨h1, h2⟩, fun h => ?_, fun h => ?_⟩
     · simp only [Rz.qan]
       repeat rw [Rz.qab (by decide)]
       rw [Rz.qaE (by simp only [Rz.qaD, hAs]; decide)]
       exact e6
     · simp [Rj.also, s6]
     · have hd := hD.2 (by simpa [Rj.also] using h)
       exact hd.alloc hd.size _
   · intro S vm W hW hSi hS hV hD
     have s6 := hS 6 (by omega) (by omega) (by kernel_rfl)
     have s7 := hS 7 (by omega) (by omega) (by kernel_rfl)
     obtain ⟨A', c', N, e6, e7, hN, hNb⟩ := hV 7 (by omega) (by omega) s7
     have hk : qaB (fun k => k = g) W (W.setCells g (L.length * 76) (Rg.St.cells ⟨q.g, q.r, A', c'⟩)) := qaB.qn2 (F := fun k => k = g) (B := g) (.inl rfl) _ _ (qaB.refl _ _)
     refine qaH (qfY (g := g) (N := N) (L := L) (q := ⟨q.g, q.r, A', c'⟩) rfl ?_ ?_ hW.2 h8 hN) ⟨⟨A', c', by simp [Rz.upd]; exact e6, by simp [Rz.upd], hW.2.push _ h8⟩, ⟨hW.1.trans hk (fun j hj => .inl hj), hW.2.behind _ _ (Nat.le_refl _) (by rw [Rg.St.len]; omega)⟩, fun j h1 h2 hne _ h => qpk h hk (by have := HS.out; omega) (by omega), fun _ => ?_, fun h => ?_⟩
     · simp only [Rz.qan]
       repeat rw [Rz.qab (by decide)]
       exact hA8
     · simp only [Rz.qan]
       repeat rw [Rz.qab (by decide)]
       rw [Rz.qaE (by simp only [Rz.qaD, hAs]; decide)]
       exact e7
     · simp [Rj.also, s6]
     · simp [Rj.also] at h
 · intro S vm W hW hS hV hD
   obtain ⟨A', c', e6, hl6, ha6⟩ := hV 6 (by omega) (by omega)
   obtain ⟨A2, c2, e8, e8b, hR8⟩ := hV 8 (by omega) (by omega)
   obtain ⟨rfl, rfl⟩ := qpR (e6.symm.trans e8)
   have BW := qh (KB.out W hW.1)
   have KW := qh hW.1
   have R8 := qh hR8
   have L6 := qh hl6
   have A6 := qh ha6
   have xf := BW.out.free 0
   have xl := BW.out.lt
   have xc := BW.out.cell 0
   clear hW hS hV hD hl6 ha6 hR8 e6 e8
   simp only [Rz.qan, Nat.reduceAdd, e8b]
   generalize vm 6 = v6
   generalize vm 7 = v7
   clear e8b
   go_wp2_with fail
   (try simp only [Exit.inBlock, Exit.then])
   refine bodyPost_end (results_none rfl _ _ _) rfl ?_
   have hne : B ≠ g := HBG.out
   refine ⟨rfl, A', c', BW.out.put 0 _, R8.out.kept (heap_setCell_other _ _ _ _ (Ne.symm hne)), ?_, fun h0 ad ea => ?_, ?_⟩
   · refine qcC L6.out (by simp) fun h0 ad ea => heap_setCell_other _ _ _ _ ?_
     have := A6.out h0 ad ea
     have := HS.out
     show ad.block ≠ B
     omega
   · have := A6.out h0 ad ea
     have := HS.out
     omega
   · have h0 : qaB (fun k => k = g \/ k = B) X X1 := (qaB.qa9 K1.out).qkp fun j hj => hj.elim
     have h1 : qaB (fun k => k = g \/ k = B) X W := h0.trans KW.out (fun j hj => .inl (.inl hj))
     exact h1.put (.inl (.inr rfl)) 0 _
theorem qkq (w : World) : (zeroValue 38).run Tryz.prog w = .ok (.agg Im.zero) w := by
 obtain ⟨i, hi, hz, hs, hby⟩ := qf2
 simp [zeroValue, typeInfo, hi, hz]
theorem qhp (n : Nat) : ∀ u ∈ (Builtin.zeroCells Im.zero n).toList, u.oneCell' = true := by
 intro u hu
 have hz : Im.zero.all (·.oneCell') = true := by kernel_rfl
 unfold Builtin.zeroCells at hu
 rw [Array.toList_map] at hu
 obtain ⟨k, _, rfl⟩ := List.mem_map.1 hu
 have hk : k % Im.zero.size < Im.zero.size := Nat.mod_lt _ (by rw [Im.qaO]; decide)
 rw [getElem!_pos Im.zero _ hk]
 exact Array.all_eq_true_iff_forall_mem.1 hz _ (Array.getElem_mem _)
theorem qdd (n : Nat) : (Builtin.zeroCells Im.zero n).toList.length = n * 76 := by
 unfold Builtin.zeroCells
 rw [Array.length_toList, Array.size_map, Array.size_range, Im.qaO]
theorem PRow.clear_ {g : Nat} {L : List Rg.St} {w : World} (h : PRow g L w) (i n : Nat) (hi : i < n) (hn : n <= 9) (c : Nat) (ty : TypeId) :
 (Builtin.clear_ #[123] ty #[.slice (some ⟨g, i * 76, none⟩) (n - i) c]).run Tryz.prog w = .ok (.tuple #[]) (w.setCells g (i * 76) (Builtin.zeroCells Im.zero (n - i)).toList) := by
 obtain ⟨cur, hB, h1, h2⟩ := h.row
 have hst := run_storeCells_cells (P := Tryz.prog) g (i * 76) (Builtin.zeroCells Im.zero (n - i)).toList 0 w (fun j hj => by
  rw [qdd] at hj
  rw [hB.cell, Array.getElem?_eq_getElem (by omega)]; rfl) (fun j hj => hB.free _) (qhp _)
 simp only [Nat.add_zero] at hst
 obtain ⟨m, hm⟩ : ∃ m, n - i = m + 1 := ⟨n - i - 1, by omega⟩
 rw [hm] at hst ⊢
 have e2 : (Value.agg Tryz.zeroCells38).cells = Im.zero := rfl
 simp [Builtin.clear_, run_underlying Tryz.underlying123, qkq, e2, hst]
theorem qjn (g : Nat) (L : List Rg.St) (i j : Nat) (hij : i <= j) (hj : j <= L.length) (X : World) (hR : PRow g L X) :
 Calls Tryz.prog 101 #[.slice (some ⟨g, 0, none⟩) L.length 9, .int .i64 i, .int .i64 j] X fun e X' => e = .returned (.slice (some ⟨g, 0, none⟩) (i + (L.length - j)) 9) /\ PRow g (L.take i ++ L.drop j) X' /\ qaB (fun k => k = g) X X' := by
 have h9 := hR.few
 have HR := qh hR
 have hi0 : (0 : Int) <= (i : Int) := by omega
 have hiji : (i : Int) <= (j : Int) := by omega
 have hji : (j : Int) <= (L.length : Int) := by omega
 have hn9 : (L.length : Int) <= 9 := by omega
 by_cases heq : i = j
 · subst heq
   have HE := qh (show L.take i ++ L.drop i = L from List.take_append_drop i L)
   have HN := qh (show i + (L.length - i) = L.length by omega)
   clear hR
   go_enter Tryz.func101, Tryz.ntmps101
   go_wp2_with fail
   all_goals (go_ret; exact ⟨rfl, HR.out, qaB.refl _ _⟩)
 · obtain ⟨I, hI, hz, hs, hby⟩ := qf2
   obtain ⟨news, hnews⟩ : ∃ news, news = (L.drop j).flatMap Rg.St.cells := ⟨_, rfl⟩
   have hnl : news.length = (L.length - j) * 76 := by rw [hnews, qdE (cells := Rg.St.cells) (c := 76) Rg.St.len, List.length_drop]
   have s1 := qh hnl
   have s2 := qh (show ∀ u ∈ news, u.oneCell' = true by rw [hnews]; exact qja _)
   have hlies := hR.lies
   have hsrc := qh (show ∀ (t : Nat) (u : Value), news[t]? = some u -> X.drew.cell? (Addr.add ⟨g, j * 76, none⟩ t) = some u from fun t u hu => by
    rw [hnews, <- Nat.zero_add t, <- Nat.zero_mul 76, <- Nat.zero_add t] at hu
    have ht : t < (L.length - j) * 76 := by rw [<- hnl, hnews]; have := (List.getElem?_eq_some_iff.1 hu).1; simpa using this
    have := hlies.cell _ rfl (by omega) (j * 76 + t) u (by rw [qqt L j t hj]; simpa using hu)
    rw [Addr.add_lit] at this ⊢
    rw [Nat.zero_add] at this
    exact this)
   obtain ⟨cur, hB, hc1, hc2⟩ := hR.row
   have s3 := qh (show ∀ t, t < news.length -> (X.drew.cell? ⟨g, 0 + i * 76 + t, none⟩).isSome = true /\ X.drew.frozen? ⟨g, 0 + i * 76 + t, none⟩ = false from fun t ht => ⟨by
    show (X.cell? _).isSome = true
    rw [hB.cell, Array.getElem?_eq_getElem (by omega)]; rfl, hB.free _⟩)
   obtain ⟨W1, hW1⟩ : ∃ W1, W1 = X.drew.setCells g (0 + i * 76) news := ⟨_, rfl⟩
   have Q1 : PRow g (L.take i ++ L.drop j) W1 := by rw [hW1, hnews, Nat.zero_add]; exact (hR.kept (X' := X.drew) rfl).over i j (by omega) hj
   have K1 : qaB (fun k => k = g) X W1 := by
    rw [hW1]
    exact qaB.qn2 (F := fun k => k = g) (.inl rfl) news (0 + i * 76) ((qaB.refl _ X).call (Below.drew (Below.refl _ _)))
   obtain ⟨n, hn⟩ : ∃ n, n = L.length := ⟨_, rfl⟩
   obtain ⟨m, hm⟩ : ∃ m, m = i + (n - j) := ⟨_, rfl⟩
   have hlen2 : (L.take i ++ L.drop j).length = m := by rw [List.length_append, List.length_take, List.length_drop]; omega
   have hcl : ∀ ty c, (Builtin.clear_ #[123] ty #[.slice (some ⟨g, m * 76, none⟩) (n - m) c]).run Tryz.prog W1 = .ok (.tuple #[]) (W1.setCells g (m * 76) (Builtin.zeroCells Im.zero (n - m)).toList) := fun ty c => Q1.clear_ m n (by omega) (by omega) c ty
   have HQ := qh Q1
   have HK := qh K1
   have HW := qh hW1
   have HL2 := qh hlen2
   have hmn : m < n := by omega
   have hmi : (m : Int) <= (n : Int) := by omega
   have hne : ((i : Int) == (j : Int)) = false := by simp; omega
   have hroom : i + (n - j) <= 9 := by omega
   rw [<- hn] at s1 hji hn9 h9 hj ⊢
   have HH := qh hn
   clear hlies hR hB hc1 hc2 Q1 K1 hW1 hlen2 hnl hnews hn hz hby
   go_enter Tryz.func101, Tryz.ntmps101
   have hni : ¬ n = i := by omega
   have hin : (i : Int) <= (n : Int) := by omega
   have hi9 : (i : Int) <= 9 := by omega
   have hj9i : (j : Int) <= 9 := by omega
   by_cases hj9 : j = 9
   · subst hj9
     obtain rfl : n = 9 := by omega
     obtain rfl : m = i := by omega
     clear hm
     have hnil : news = [] := List.eq_nil_of_length_eq_zero (by have h1 := s1.out; rw [h1])
     obtain rfl : W1 = X.drew := by rw [HW.out, hnil]; rfl
     clear hsrc
     go_wp2_with fail
     go_region
     go_wp2_with fail
     go_ret
     refine ⟨rfl, HQ.out.behind _ _ (by rw [HL2.out]; exact Nat.le_refl _) (by rw [qdd]; omega), qaB.qn2 (F := fun k => k = g) (.inl rfl) _ _ HK.out⟩
   · have hj9' : ¬ 9 = j := fun e => hj9 e.symm
     clear hj9
     subst hm
     go_wp2_with fail
     go_region_law (refine step_append_room rfl (.tmp 22) (.tmp 25) 123 rfl 38 I 76 Tryz.underlying123 hI hs g 0 i 9 (by simp [Act.eval, Act.put]) ⟨g, j * 76, none⟩ (n - j) (9 - j) news (by simp [Act.eval, Act.put, hj9']) s1.out hsrc.out s2.out hroom s3.out ?_; rw [<- HW.out])
     go_wp2_with fail
     go_ret
     refine ⟨rfl, HQ.out.behind _ _ (by rw [HL2.out]; exact Nat.le_refl _) (by rw [qdd]; omega), qaB.qn2 (F := fun k => k = g) (.inl rfl) _ _ HK.out⟩
theorem qmo (B g : Nat) (L : List Rg.St) (f : Int) (hv : Rg.qbJ L f (-1)) (X : World) (hB : Box X B 125 #[.slice (some ⟨g, 0, none⟩) L.length 9]) (hR : PRow g L X) :
 Calls Tryz.prog 59 #[.pointer (some ⟨B, 0, none⟩), .int .i64 f] X fun e X' => e = .returned (.bool false) /\ Below X.heap.size X X' := by
 have cp := qh (qcR B g L f (-1) hv X hB hR)
 clear hv hB hR
 go_enter Tryz.func59, Tryz.ntmps59
 go_wp2_with (go_at_call 81; ((with_reducible refine (cp).out.mono ?_); rintro e w1 ⟨rfl, hb⟩; have K1 := qh hb; clear hb))
 go_ret
 exact ⟨rfl, K1.out⟩
theorem qkH (B g : Nat) (L : List Rg.St) (f : Int) (hv : Rg.qbJ L f (-1)) (X : World) (hB : Box X B 125 #[.slice (some ⟨g, 0, none⟩) L.length 9]) (hR : PRow g L X) :
 Calls Tryz.prog 61 #[.pointer (some ⟨B, 0, none⟩), .int .i64 f] X fun e X' => e = .returned (.bool false) /\ Below X.heap.size X X' := by
 have cp := qh (qcR B g L f (-1) hv X hB hR)
 clear hv hB hR
 go_enter Tryz.func61, Tryz.ntmps61
 go_wp2_with (go_at_call 81; ((with_reducible refine (cp).out.mono ?_); rintro e w1 ⟨rfl, hb⟩; have K1 := qh hb; clear hb))
 go_ret
 exact ⟨rfl, K1.out⟩
theorem qnV (f : Int) (X : World) :
 Calls Tryz.prog 59 #[.pointer none, .int .i64 f] X fun e X' => e = .returned (.bool false) /\ Below X.heap.size X X' := by
 have cp := qh (qhL f X)
 go_enter Tryz.func59, Tryz.ntmps59
 go_wp2_with (go_at_call 81; ((with_reducible refine (cp).out.mono ?_); rintro e w1 ⟨rfl, hb⟩; have K1 := qh hb; clear hb))
 go_ret
 exact ⟨rfl, K1.out⟩
theorem qmm (f : Int) (X : World) :
 Calls Tryz.prog 61 #[.pointer none, .int .i64 f] X fun e X' => e = .returned (.bool false) /\ Below X.heap.size X X' := by
 have cp := qh (qhL f X)
 go_enter Tryz.func61, Tryz.ntmps61
 go_wp2_with (go_at_call 81; ((with_reducible refine (cp).out.mono ?_); rintro e w1 ⟨rfl, hb⟩; have K1 := qh hb; clear hb))
 go_ret
 exact ⟨rfl, K1.out⟩
theorem qkG (B g : Nat) (L : List Rg.St) (f : Int) (i : Nat) (hi : i < L.length) (hv : Rg.qbJ L f i) (X : World) (hB : Box X B 125 #[.slice (some ⟨g, 0, none⟩) L.length 9]) (hR : PRow g L X) :
 Calls Tryz.prog 61 #[.pointer (some ⟨B, 0, none⟩), .int .i64 f] X fun e X' => e = .returned (.bool true) /\ Box X' B 125 #[.slice (some ⟨g, 0, none⟩) (L.drop i).length 9] /\ PRow g (L.drop i) X' /\ qaB (fun k => k = g \/ k = B) X X' := by
 have hBg : B ≠ g := by obtain ⟨cur, hC, _⟩ := hR.row; exact hB.apart hC (by decide)
 have h9 := hR.few
 have cp := qh (qcR B g L f i hv X hB hR)
 have hd : ∀ W, Below X.heap.size X W -> Calls Tryz.prog 101 #[.slice (some ⟨g, 0, none⟩) L.length 9, .int .i64 0, .int .i64 i] W fun e X' => e = .returned (.slice (some ⟨g, 0, none⟩) (L.drop i).length 9) /\ PRow g (L.drop i) X' /\ qaB (fun k => k = g) W X' := fun W hW => (qjn g L 0 i (Nat.zero_le _) (by omega) W (hR.kept (hW.block _ hR.lt))).mono fun e X' h => by
  rw [Nat.zero_add, List.take_zero, List.nil_append] at h
  rw [List.length_drop]
  exact h
 have hD := qh hd
 have HB := qh hB
 have HBG := qh hBg
 have hnn : ¬ (i : Int) < 0 := by omega
 clear hv hR hd hB hBg
 generalize hLd : L.drop i = L' at *
 generalize L'.length = n' at *
 generalize L.length = n at *
 go_enter Tryz.func61, Tryz.ntmps61
 go_wp2_with (first
  | (go_at_call 81; ((with_reducible refine (cp).out.mono ?_); rintro e w1 ⟨rfl, hb⟩; have K1 := qh hb; have B1 := qh (HB.out.below hb HB.out.lt); have k1 := B1.out.cell 0; have c1 := qh (hD.out w1 hb); clear hb))
  | (go_at_call 101; ((with_reducible refine (c1).out.mono ?_); rintro e w2 ⟨rfl, hR2, hK2⟩; have R2 := qh hR2; have K2 := qh hK2; have B2 : Box w2 B 125 _ := (⟨(hK2.block B B1.out.lt HBG.out).trans B1.out.is⟩); clear k1 hR2 hK2; have k2 := B2.cell 0; have f2 := B2.free 0; have l2 := B2.lt; have HB2 := qh B2; clear B2)))
 go_ret
 have hne : B ≠ g := HBG.out
 refine ⟨rfl, HB2.out.put 0 _, R2.out.kept (heap_setCell_other _ _ _ _ (Ne.symm hne)), ?_⟩
 have h0 : qaB (fun k => k = g \/ k = B) X w1 := (qaB.qa9 K1.out).qkp fun j hj => hj.elim
 have h1 : qaB (fun k => k = g \/ k = B) X w2 := h0.trans K2.out (fun j hj => .inl (.inl hj))
 exact h1.put (.inl (.inr rfl)) 0 _
theorem qmn (B g : Nat) (L : List Rg.St) (f : Int) (i : Nat) (hi : i < L.length) (hv : Rg.qbJ L f i) (X : World) (hB : Box X B 125 #[.slice (some ⟨g, 0, none⟩) L.length 9]) (hR : PRow g L X) :
 Calls Tryz.prog 59 #[.pointer (some ⟨B, 0, none⟩), .int .i64 f] X fun e X' => e = .returned (.bool true) /\ Box X' B 125 #[.slice (some ⟨g, 0, none⟩) (L.take (i + 1)).length 9] /\ PRow g (L.take (i + 1)) X' /\ qaB (fun k => k = g \/ k = B) X X' := by
 have hBg : B ≠ g := by obtain ⟨cur, hC, _⟩ := hR.row; exact hB.apart hC (by decide)
 have h9 := hR.few
 have cp := qh (qcR B g L f i hv X hB hR)
 have hd : ∀ W, PRow g L W -> Calls Tryz.prog 101 #[.slice (some ⟨g, 0, none⟩) L.length 9, .int .i64 ((i : Int) + 1), .int .i64 L.length] W fun e X' => e = .returned (.slice (some ⟨g, 0, none⟩) (L.take (i + 1)).length 9) /\ PRow g (L.take (i + 1)) X' /\ qaB (fun k => k = g) W X' := fun W hW => by
  rw [show ((i : Int) + 1) = ((i + 1 : Nat) : Int) by omega]
  refine (qjn g L (i + 1) L.length (by omega) (Nat.le_refl _) W hW).mono fun e X' h => ?_
  rw [Nat.sub_self, Nat.add_zero, List.drop_length, List.append_nil] at h
  rw [List.length_take, Nat.min_eq_left (by omega)]
  exact h
 have hD := qh hd
 have HB := qh hB
 have HR := qh hR
 have HBG := qh hBg
 have hnn : ¬ (i : Int) < 0 := by omega
 have hw1 : IntKind.i64.wrap ((i : Int) + 1) = (i : Int) + 1 := by rw [IntKind.wrap_i64]; omega
 clear hv hR hd hB hBg
 generalize hLd : L.take (i + 1) = L' at *
 generalize hn' : L'.length = n' at *
 generalize hnn2 : L.length = n at *
 go_enter Tryz.func59, Tryz.ntmps59
 go_upto_region 4 with (go_at_call 81; ((with_reducible refine (cp).out.mono ?_); rintro e w1 ⟨rfl, hb⟩; have K1 := qh hb; have B1 := qh (HB.out.below hb HB.out.lt); have R1 := qh (HR.out.kept (hb.block _ HR.out.lt)); clear hb))
 have KB := qh (show ∀ W, qaB (fun k => k = g) w1 W -> Box W B 125 #[.slice (some ⟨g, 0, none⟩) n 9] from fun W hK => ⟨(hK.block B (B1.out.lt) HBG.out).trans B1.out.is⟩)
 refine Rj.qgl (by kernel_rfl) 12 13 (by kernel_rfl) (fun W => qaB (fun k => k = g) w1 W) (fun j vm W => j = 12 -> vm 12 = .slice (some ⟨g, 0, none⟩) n' 9 /\ PRow g L' W) (fun S vm W => S 12 = false -> PRow g L W) ((qaB.refl _ _).call (Below.drew (Below.refl _ _))) (fun _ _ => R1.out.kept rfl) (fun S vm vm' W he h => h) (fun j vm vm' W h1 h2 he hV e => by subst e; rw [<- he 12 (.inl rfl)]; exact hV rfl) ?_
 simp only [List.take_succ_cons, List.take_zero, List.drop_succ_cons, List.drop_zero, Nat.reduceSub]
 refine Rz.qar (v := .pointer (some ⟨B, 0, none⟩)) (fun W hW => Rz.qaV rfl rfl) ?_
 refine Rz.qar (v := .pointer (some ⟨B, 0, none⟩)) (fun W hW => Rz.qaV rfl rfl) ?_
 refine Rz.qar (v := .pointer (some ⟨B, 0, none⟩)) (fun W hW => qa4 rfl rfl) ?_
 refine Rz.qar (v := .pointer (some ⟨B, 0, none⟩)) (fun W hW => qeu rfl rfl) ?_
 refine Rz.qar (v := .slice (some ⟨g, 0, none⟩) n 9) (fun W hW => qfv rfl rfl ((KB.out W hW).cell 0)) ?_
 simp only [Act.put, List.setIfInBounds_toArray, List.set_cons_succ, List.set_cons_zero]
 refine Rz.qar (v := .int .i64 i) (fun W hW => Rz.qaV rfl rfl) ?_
 refine Rz.qar (v := .int .i64 ((i : Int) + 1)) (fun W hW => ?_) ?_
 · go_simp
 simp only [Act.put, List.setIfInBounds_toArray, List.set_cons_succ, List.set_cons_zero]
 refine Rz.qar (v := .pointer (some ⟨B, 0, none⟩)) (fun W hW => Rz.qaV rfl rfl) ?_
 refine Rz.qar (v := .pointer (some ⟨B, 0, none⟩)) (fun W hW => qa4 rfl rfl) ?_
 refine Rz.qar (v := .pointer (some ⟨B, 0, none⟩)) (fun W hW => qeu rfl rfl) ?_
 refine Rz.qar (v := .slice (some ⟨g, 0, none⟩) n 9) (fun W hW => qfv rfl rfl ((KB.out W hW).cell 0)) ?_
 simp only [Act.put, List.setIfInBounds_toArray, List.set_cons_succ, List.set_cons_zero]
 refine Rz.qar (v := .int .i64 n) (fun W hW => ?_) ?_
 · go_simp
 simp only [Act.put, List.setIfInBounds_toArray, List.set_cons_succ, List.set_cons_zero]
 refine Rz.qhZ (fun A => True) trivial ?_ (fun _ _ => trivial) ?_
 · intro S vm W hW hSi hS hV hD'
   simp only [Rz.qan]
   refine qbk (f := 101) (args := #[.slice (some ⟨g, 0, none⟩) n 9, .int .i64 ((i : Int) + 1), .int .i64 n]) ?_ ((hD.out W (hD' hSi)).mono ?_)
   · go_simp
   · rintro e w' ⟨rfl, hR2, hK2⟩
     refine ⟨_, rfl, fun _ => ⟨by simp [Rz.upd], hR2⟩, hW.trans hK2 (fun j hj => .inl hj), fun j h1 h2 hne _ h => absurd (show j = 12 by omega) hne, fun h => ?_⟩
     simp [Rj.also] at h
 · intro S vm W hW hS hV hD'
   obtain ⟨e12, hR2⟩ := hV 12 (by omega) (by omega) rfl
   have BW := qh (KB.out W hW)
   have KW := qh hW
   have R2 := qh hR2
   have xf := BW.out.free 0
   have xl := BW.out.lt
   have xc := BW.out.cell 0
   clear hW hS hV hD' hR2
   simp only [Rz.qan, Nat.reduceAdd, e12]
   clear e12
   go_wp2_with fail
   go_ret
   have hne : B ≠ g := HBG.out
   refine ⟨rfl, BW.out.put 0 _, R2.out.kept (heap_setCell_other _ _ _ _ (Ne.symm hne)), ?_⟩
   have h0 : qaB (fun k => k = g \/ k = B) X w1 := (qaB.qa9 K1.out).qkp fun j hj => hj.elim
   have h1 : qaB (fun k => k = g \/ k = B) X W := h0.trans KW.out (fun j hj => .inl (.inl hj))
   exact h1.put (.inl (.inr rfl)) 0 _
theorem qql (W : World) : (Instr.makeSlice 123 (.int .i64 0) (.int .i64 9)).run Tryz.prog W = .ok (.slice (some ⟨W.heap.size, 0, none⟩) 0 9) (W.alloc (.cells (madeCells (Value.agg Im.zero).cells (9 * 76)) 38)) := by
 obtain ⟨i0, hi0, hz0, hz1, hz2⟩ := qf2
 have := run_make (P := Tryz.prog) W 123 38 i0 _ Tryz.underlying123 hi0 hz0 .i64 .i64 0 9 (by omega) (by omega) (by omega) (by omega)
 rw [this, hz1]
 rfl
theorem qkD (a : Option Addr) (m c : Nat) : Tryz.prog.built 125 [(0, .slice a m c)] = some #[.slice a m c] := by kernel_rfl
theorem qnT (q : Rg.St) (hty : Gm.ty q.g) (hok : Im.Ok q.g q.r) (hn : q.g.qaa.length <= 60) (X : World) (hL : Lies X X.heap.size 6 q.A q.g.qaa.length (Gm.qad q.g.qaa)) :
 Calls Tryz.prog 34 #[.agg q.arr] X fun e X' => ∃ g B A' c', e = .returned (.pointer (some ⟨B, 0, none⟩)) /\ Box X' B 125 #[.slice (some ⟨g, 0, none⟩) 1 9] /\ PRow g [⟨q.g, q.r, A', c'⟩] X' /\ Lies X' X'.heap.size 6 A' q.g.qaa.length (Gm.qad q.g.qaa) /\ (q.g.qaa.length ≠ 0 -> ∀ ad, A' = some ad -> X.heap.size <= ad.block /\ ad.block ≠ g /\ ad.block ≠ B) /\ Below X.heap.size X X' /\ X.heap.size <= g /\ X.heap.size <= B := by
 have cput := fun B g w h1 h2 h3 => qjk B g [] q (by decide) hn w h1 h2 h3
 obtain ⟨G, r, A, c⟩ := q
 dsimp only at hty hok hn hL cput ⊢
 have hnm : G.qaa.length <= maxLen := by unfold maxLen; omega
 obtain ⟨X1, hX1⟩ : ∃ X1, X1 = X.alloc (.cells (Im.cells G (.slice A G.qaa.length c) r) 38) := ⟨_, rfl⟩
 have B0 := qh (show Box X1 X.heap.size 38 (Im.cells G (.slice A G.qaa.length c) r) by rw [hX1]; exact Box.made _ _ _)
 have K0 := qh (show Below X.heap.size X X1 by rw [hX1]; exact qac _ _)
 have L0 := qh ((hL.below K0.out).wider K0.out.size)
 have cm := qh (qcs G r A G.qaa.length c X1 hty hnm rfl L0.out)
 have HOK := qh hok
 obtain ⟨Z, hZ⟩ : ∃ Z, Z = madeCells (Value.agg Im.zero).cells (9 * 76) := ⟨_, rfl⟩
 have HZ := qh (show Z.size = 684 by rw [hZ, size_madeCells])
 have hmk := qql
 rw [<- hZ] at hmk
 have rb := fun m => qkD (some ⟨m, 0, none⟩) 0 9
 unfold Rg.St.arr
 dsimp only
 unfold Rg.St.arr at cput
 have CP := qh cput
 clear hok hL hZ cput
 go_enter Tryz.func34, Tryz.ntmps34
 go_upto_region 1 with fail
 rw [<- hX1]
 clear hX1
 go_upto_region 4 with (first
  | ((with_reducible refine qak rfl rfl ?_); apply qaC.mk rfl; (focus (with_reducible exact B0.out)); dsimp only)
  | (go_at_call 74; ((with_reducible refine ((cm).out).mono ?_); rintro x w1 ⟨⟨v, rfl, hv⟩, hb⟩; obtain rfl : v = true := hv.2 HOK.out; have B2 := qh (B0.out.below hb B0.out.lt); have L2 := qh ((L0.out.below hb).wider hb.size); have K2 := qh (K0.out.trans (hb.mono K0.out.size)); have S2 := qh hb.size; clear hb hv))
  | (refine qaT rfl (t := 125) (vs := [(0, .slice (some ⟨_, 0, none⟩) 0 9)]) rfl rfl (rb _) ?_))
 obtain ⟨X3, hX3⟩ : ∃ X3, X3 = (w1.alloc (.cells Z 38)).alloc (.cells #[.slice (some ⟨w1.heap.size, 0, none⟩) 0 9] 125) := ⟨_, rfl⟩
 have D1 : Box X3 w1.heap.size 38 Z := by rw [hX3]; exact (Box.made _ _ _).alloc _
 have D2 : Box X3 (w1.heap.size + 1) 125 #[.slice (some ⟨w1.heap.size, 0, none⟩) 0 9] := by rw [hX3]; exact Box.qaq _ _ _ (by simp)
 have hb3 : Below w1.heap.size w1 X3 := by rw [hX3]; exact qap w1 _ _
 have B3 := qh (B2.out.below hb3 B2.out.lt)
 have c3 := qh (CP.out (w1.heap.size + 1) w1.heap.size X3 D2 ⟨Nat.zero_le _, Z, D1, HZ.out, by simp⟩ ((L2.out.below hb3).wider hb3.size))
 have K3 := qh (K2.out.trans (hb3.mono K2.out.size))
 have hsz := qh (show X.heap.size <= w1.heap.size from K2.out.size)
 have d1 := qh D1.lt
 have d2 := qh D2.lt
 have S3 := qh hb3.size
 rw [<- hX3]
 clear D1 D2 hb3 hX3 hmk
 generalize w1.heap.size = g at *
 go_wp2_with (first
  | ((with_reducible refine qak rfl rfl ?_); apply qaC.mk rfl; (focus (with_reducible exact B3.out)); dsimp only)
  | (go_at_call 75; ((with_reducible refine ((c3).out).mono ?_); rintro e w5 ⟨rfl, A', c', p1, p2, p3, p4, p5⟩; have P1 := qh p1; have P2 := qh p2; have P3 := qh p3; have P4 := qh p4; have P5 := qh p5; clear p1 p2 p3 p4 p5)))
 go_ret
 have h1 := hsz.out
 have h2 := d1.out
 have h3 := d2.out
 have h4 := S3.out
 refine ⟨g, g + 1, A', c', rfl, P1.out, P2.out, P3.out, fun h0 ad ea => ?_, ?_, h1, by omega⟩
 · have := P4.out h0 ad ea
   omega
 · exact K3.out.trans (P5.out.below (fun k hk => by rcases hk with hk | hk <;> omega) K3.out.size)
theorem qpf (q : Rg.St) (hty : Gm.ty q.g) (hok : ¬ Im.Ok q.g q.r) (hnm : q.g.qaa.length <= maxLen) (X : World) (hL : Lies X X.heap.size 6 q.A q.g.qaa.length (Gm.qad q.g.qaa)) :
 Calls Tryz.prog 34 #[.agg q.arr] X fun e X' => e = .returned (.pointer none) /\ Below X.heap.size X X' := by
 obtain ⟨G, r, A, c⟩ := q
 dsimp only at hty hok hnm hL ⊢
 obtain ⟨X1, hX1⟩ : ∃ X1, X1 = X.alloc (.cells (Im.cells G (.slice A G.qaa.length c) r) 38) := ⟨_, rfl⟩
 have B0 := qh (show Box X1 X.heap.size 38 (Im.cells G (.slice A G.qaa.length c) r) by rw [hX1]; exact Box.made _ _ _)
 have K0 := qh (show Below X.heap.size X X1 by rw [hX1]; exact qac _ _)
 have L0 := qh ((hL.below K0.out).wider K0.out.size)
 have cm := qh (qcs G r A G.qaa.length c X1 hty hnm rfl L0.out)
 have HOK := qh hok
 unfold Rg.St.arr
 dsimp only
 clear hok hL
 go_enter Tryz.func34, Tryz.ntmps34
 go_upto_region 1 with fail
 rw [<- hX1]
 clear hX1
 go_wp2_with (first
  | ((with_reducible refine qak rfl rfl ?_); apply qaC.mk rfl; (focus (with_reducible exact B0.out)); dsimp only)
  | (go_at_call 74; ((with_reducible refine ((cm).out).mono ?_); rintro x w1 ⟨⟨v, rfl, hv⟩, hb⟩; obtain rfl : v = false := (by cases v with | false => rfl | true => exact absurd (hv.1 rfl) HOK.out); have K2 := qh (K0.out.trans (hb.mono K0.out.size)); clear hb hv)))
 go_ret
 exact ⟨rfl, K2.out⟩
theorem qmk (q : Rg.St) (X : World) :
 Calls Tryz.prog 60 #[.pointer none, .agg q.arr] X fun e X' => e = .returned (.bool false) /\ Below X.heap.size X X' := by
 obtain ⟨X1, hX1⟩ : ∃ X1, X1 = X.alloc (.cells q.arr 38) := ⟨_, rfl⟩
 have K0 := qh (show Below X.heap.size X X1 by rw [hX1]; exact qac _ _)
 have cl := qh (fun (w : Ext X1.heap.size X1) => (qjm w.w).mono fun e w' hh => show e = .returned (.int .i64 0) /\ Below w.w.heap.size w.w w' from ⟨hh.1, by rw [<- hh.2]; exact Below.refl _ _⟩)
 generalize q.arr = arr at *
 go_enter Tryz.func60, Tryz.ntmps60
 go_upto_region 1 with fail
 rw [<- hX1]
 clear hX1
 refine qby X1.heap.size X1 (by kernel_rfl) (by kernel_rfl) (Below.refl _ _) ?_
 repeat (go_big_quiet_step (first | (go_at_call 83; with_reducible exact Calls.qcn (Nat.le_refl _) (cl.out _)) | fail))
 refine wpQuiet_nil ?_
 intro _ hw'
 obtain ⟨q5, hw''⟩ := hw'
 subst hw''
 have R5 := qh (K0.out.trans (q5.h.mono K0.out.size))
 go_wp2_with fail
 go_ret
 exact ⟨rfl, R5.out⟩
theorem qkE (B g k : Nat) (L : List Rg.St) (q l : Rg.St) (hk : L.length = k + 1) (hl : L[k]? = some l) (hlo : 0 <= l.g.frame /\ l.g.frame <= 1048576) (hty : Gm.ty q.g) (hnm : q.g.qaa.length <= maxLen) (hk8 : k = 8) (X : World) (hB : Box X B 125 #[.slice (some ⟨g, 0, none⟩) L.length 9]) (hR : PRow g L X) (hq : Lies X X.heap.size 6 q.A q.g.qaa.length (Gm.qad q.g.qaa)) :
 Calls Tryz.prog 60 #[.pointer (some ⟨B, 0, none⟩), .agg q.arr] X fun e X' => e = .returned (.bool false) /\ Below X.heap.size X X' := by
 obtain ⟨G, r, Aq, cq⟩ := q
 dsimp only at *
 obtain ⟨X1, hX1⟩ : ∃ X1, X1 = X.alloc (.cells (Im.cells G (.slice Aq G.qaa.length cq) r) 38) := ⟨_, rfl⟩
 have hb1 : Below X.heap.size X X1 := by rw [hX1]; exact qac X _
 have P1 := qh (show Box X1 X.heap.size 38 (Im.cells G (.slice Aq G.qaa.length cq) r) by rw [hX1]; exact Box.made _ _ _)
 have K1 := qh hb1
 have L1 := qh ((hq.below hb1).wider hb1.size)
 have HX := qh hX1
 have BB := qh (hB.below hb1 hB.lt)
 have RR := qh (hR.kept (hb1.block _ hR.lt))
 have h9 := hR.few
 have ek : ((L.length : Nat) : Int) = (k : Int) + 1 := by omega
 have cl := qh (fun (w : Ext X1.heap.size X1) => show Calls Tryz.prog 83 #[.pointer (some ⟨B, 0, none⟩)] w.w fun e w' => e = .returned (.int .i64 ((k : Int) + 1)) /\ Below w.w.heap.size w.w w' from by
  refine (qcX B L.length 9 _ w.w ((BB.out.below w.h BB.out.lt).cell 0)).mono fun e w' hh => ?_
  rw [<- ek]
  exact ⟨hh.1, by rw [<- hh.2]; exact Below.refl _ _⟩)
 have z0 : ∀ w : Ext X1.heap.size X1, w.w.cell? ⟨X.heap.size, 0, none⟩ = some (.int .i64 G.frame) := fun w => w.cell P1.out.lt ((P1.out.cell 0).trans (Rg.St.first ⟨G, r, Aq, cq⟩))
 have PX := qh (fun (w : Ext X1.heap.size X1) => P1.out.below w.h P1.out.lt)
 have hwf : IntKind.i64.wrap (l.g.frame + 1) = l.g.frame + 1 := by rw [IntKind.wrap_i64]; omega
 have hwf2 : wrap64 (l.g.frame + 1) = l.g.frame + 1 := IntWalk.wrap64_in _ (by omega)
 have hne : ((k : Int) + 1 == 0) = false := by simp; omega
 have h8i : (9 : Int) <= (k : Int) + 1 := by omega
 have h8j : (8 : Int) <= (k : Int) := by omega
 have HK := qh hk
 unfold Rg.St.arr
 dsimp only
 clear hX1 hb1 hq hB hR hl hlo hty ek h9 hk
 generalize hfl : l.g.frame = fl at *
 generalize hfq : G.frame = fq at *
 clear hfl hfq
 go_enter Tryz.func60, Tryz.ntmps60
 go_upto_region 1 with fail
 rw [<- HX.out]
 refine qby X1.heap.size X1 (by kernel_rfl) (by kernel_rfl) (Below.refl _ _) ?_
 repeat (first | (go_big_quiet_want; (refine qgf rfl rfl PX.out ?_); simp only [Act.put, List.setIfInBounds_toArray, List.set_cons_succ, List.set_cons_zero]; go_big_quiet_on) | go_big_quiet_step (first | (go_at_call 83; with_reducible exact Calls.qcn (Nat.le_refl _) (cl.out _)) | fail))
 refine wpQuiet_nil ?_
 intro _ hw'
 obtain ⟨q5, hw''⟩ := hw'
 subst hw''
 have R5 := qh (K1.out.trans (q5.h.mono K1.out.size))
 clear z0 cl PX
 go_wp2_with fail
 go_ret
 exact ⟨rfl, R5.out⟩
theorem qml (B g k : Nat) (L : List Rg.St) (q l : Rg.St) (hk : L.length = k + 1) (hl : L[k]? = some l) (hlo : 0 <= l.g.frame /\ l.g.frame <= 1048576) (hty : Gm.ty q.g) (hnm : q.g.qaa.length <= maxLen) (h8 : L.length <= 8) (hfr : q.g.frame ≠ l.g.frame + 1) (X : World) (hB : Box X B 125 #[.slice (some ⟨g, 0, none⟩) L.length 9]) (hR : PRow g L X) (hq : Lies X X.heap.size 6 q.A q.g.qaa.length (Gm.qad q.g.qaa)) :
 Calls Tryz.prog 60 #[.pointer (some ⟨B, 0, none⟩), .agg q.arr] X fun e X' => e = .returned (.bool false) /\ Below X.heap.size X X' := by
 obtain ⟨G, r, Aq, cq⟩ := q
 dsimp only at *
 obtain ⟨X1, hX1⟩ : ∃ X1, X1 = X.alloc (.cells (Im.cells G (.slice Aq G.qaa.length cq) r) 38) := ⟨_, rfl⟩
 have hb1 : Below X.heap.size X X1 := by rw [hX1]; exact qac X _
 have P1 := qh (show Box X1 X.heap.size 38 (Im.cells G (.slice Aq G.qaa.length cq) r) by rw [hX1]; exact Box.made _ _ _)
 have K1 := qh hb1
 have L1 := qh ((hq.below hb1).wider hb1.size)
 have HX := qh hX1
 have BB := qh (hB.below hb1 hB.lt)
 have RR := qh (hR.kept (hb1.block _ hR.lt))
 have h9 := hR.few
 have ek : ((L.length : Nat) : Int) = (k : Int) + 1 := by omega
 have cl := qh (fun (w : Ext X1.heap.size X1) => show Calls Tryz.prog 83 #[.pointer (some ⟨B, 0, none⟩)] w.w fun e w' => e = .returned (.int .i64 ((k : Int) + 1)) /\ Below w.w.heap.size w.w w' from by
  refine (qcX B L.length 9 _ w.w ((BB.out.below w.h BB.out.lt).cell 0)).mono fun e w' hh => ?_
  rw [<- ek]
  exact ⟨hh.1, by rw [<- hh.2]; exact Below.refl _ _⟩)
 have ca := qh (fun (w : Ext X1.heap.size X1) => qd5 B g k L l hk hl w.w (BB.out.below w.h BB.out.lt) (RR.out.kept (w.h.block _ RR.out.lt)))
 have z0 : ∀ w : Ext X1.heap.size X1, w.w.cell? ⟨X.heap.size, 0, none⟩ = some (.int .i64 G.frame) := fun w => w.cell P1.out.lt ((P1.out.cell 0).trans (Rg.St.first ⟨G, r, Aq, cq⟩))
 have PX := qh (fun (w : Ext X1.heap.size X1) => P1.out.below w.h P1.out.lt)
 have hwf : IntKind.i64.wrap (l.g.frame + 1) = l.g.frame + 1 := by rw [IntKind.wrap_i64]; omega
 have hwf2 : wrap64 (l.g.frame + 1) = l.g.frame + 1 := IntWalk.wrap64_in _ (by omega)
 have hne : ((k : Int) + 1 == 0) = false := by simp; omega
 have h8i : ¬ (9 : Int) <= (k : Int) + 1 := by omega
 have h8j : (k : Int) + 1 < 9 := by omega
 have h8k : (k : Int) < 8 := by omega
 have hfn : (G.frame != l.g.frame + 1) = true := by simpa using hfr
 clear hfr
 have HK := qh hk
 unfold Rg.St.arr
 dsimp only
 clear hX1 hb1 hq hB hR hl hlo hty ek h9 hk
 generalize hfl : l.g.frame = fl at *
 generalize hfq : G.frame = fq at *
 clear hfl hfq
 go_enter Tryz.func60, Tryz.ntmps60
 go_upto_region 1 with fail
 rw [<- HX.out]
 refine qby X1.heap.size X1 (by kernel_rfl) (by kernel_rfl) (Below.refl _ _) ?_
 repeat (first | (go_big_quiet_want; (refine qgf rfl rfl PX.out ?_); simp only [Act.put, List.setIfInBounds_toArray, List.set_cons_succ, List.set_cons_zero]; go_big_quiet_on) | go_big_quiet_step (first | (go_at_call 83; with_reducible exact Calls.qcn (Nat.le_refl _) (cl.out _)) | (go_at_call 46; with_reducible exact Calls.qcn (Nat.le_refl _) (ca.out _)) | fail))
 refine wpQuiet_nil ?_
 intro _ hw'
 obtain ⟨q5, hw''⟩ := hw'
 subst hw''
 have R5 := qh (K1.out.trans (q5.h.mono K1.out.size))
 clear z0 cl ca PX
 go_wp2_with fail
 go_ret
 exact ⟨rfl, R5.out⟩
theorem qmj (B g k : Nat) (L : List Rg.St) (q l : Rg.St) (hk : L.length = k + 1) (hl : L[k]? = some l) (hlo : 0 <= l.g.frame /\ l.g.frame <= 1048576) (hty : Gm.ty q.g) (hnm : q.g.qaa.length <= maxLen) (h8 : L.length <= 8) (hfr : q.g.frame = l.g.frame + 1) (hok : ¬ Im.Ok q.g q.r) (X : World) (hB : Box X B 125 #[.slice (some ⟨g, 0, none⟩) L.length 9]) (hR : PRow g L X) (hq : Lies X X.heap.size 6 q.A q.g.qaa.length (Gm.qad q.g.qaa)) :
 Calls Tryz.prog 60 #[.pointer (some ⟨B, 0, none⟩), .agg q.arr] X fun e X' => e = .returned (.bool false) /\ Below X.heap.size X X' := by
 obtain ⟨G, r, Aq, cq⟩ := q
 dsimp only at *
 obtain ⟨X1, hX1⟩ : ∃ X1, X1 = X.alloc (.cells (Im.cells G (.slice Aq G.qaa.length cq) r) 38) := ⟨_, rfl⟩
 have hb1 : Below X.heap.size X X1 := by rw [hX1]; exact qac X _
 have P1 := qh (show Box X1 X.heap.size 38 (Im.cells G (.slice Aq G.qaa.length cq) r) by rw [hX1]; exact Box.made _ _ _)
 have K1 := qh hb1
 have L1 := qh ((hq.below hb1).wider hb1.size)
 have HX := qh hX1
 have BB := qh (hB.below hb1 hB.lt)
 have RR := qh (hR.kept (hb1.block _ hR.lt))
 have h9 := hR.few
 have ek : ((L.length : Nat) : Int) = (k : Int) + 1 := by omega
 have cl := qh (fun (w : Ext X1.heap.size X1) => show Calls Tryz.prog 83 #[.pointer (some ⟨B, 0, none⟩)] w.w fun e w' => e = .returned (.int .i64 ((k : Int) + 1)) /\ Below w.w.heap.size w.w w' from by
  refine (qcX B L.length 9 _ w.w ((BB.out.below w.h BB.out.lt).cell 0)).mono fun e w' hh => ?_
  rw [<- ek]
  exact ⟨hh.1, by rw [<- hh.2]; exact Below.refl _ _⟩)
 have ca := qh (fun (w : Ext X1.heap.size X1) => qd5 B g k L l hk hl w.w (BB.out.below w.h BB.out.lt) (RR.out.kept (w.h.block _ RR.out.lt)))
 have cm := qh (fun (w : Ext X1.heap.size X1) => (qcs G r Aq G.qaa.length cq w.w hty hnm rfl ((L1.out.below w.h).wider w.h.size)).mono fun e w' hh => show e = .returned (.bool false) /\ Below w.w.heap.size w.w w' from ⟨by obtain ⟨⟨v, e1, e2⟩, _⟩ := hh; rw [e1]; obtain rfl : v = false := (by cases v with | false => rfl | true => exact absurd (e2.1 rfl) hok); rfl, hh.2⟩)
 have z0 : ∀ w : Ext X1.heap.size X1, w.w.cell? ⟨X.heap.size, 0, none⟩ = some (.int .i64 G.frame) := fun w => w.cell P1.out.lt ((P1.out.cell 0).trans (Rg.St.first ⟨G, r, Aq, cq⟩))
 have PX := qh (fun (w : Ext X1.heap.size X1) => P1.out.below w.h P1.out.lt)
 have hwf : IntKind.i64.wrap (l.g.frame + 1) = l.g.frame + 1 := by rw [IntKind.wrap_i64]; omega
 have hwf2 : wrap64 (l.g.frame + 1) = l.g.frame + 1 := IntWalk.wrap64_in _ (by omega)
 have hne : ((k : Int) + 1 == 0) = false := by simp; omega
 have h8i : ¬ (9 : Int) <= (k : Int) + 1 := by omega
 have h8j : (k : Int) + 1 < 9 := by omega
 have h8k : (k : Int) < 8 := by omega
 have hfn : (G.frame != l.g.frame + 1) = false := by simpa using hfr
 clear hfr
 have HK := qh hk
 unfold Rg.St.arr
 dsimp only
 clear hX1 hb1 hq hB hR hl hlo hty ek h9 hk
 generalize hfl : l.g.frame = fl at *
 generalize hfq : G.frame = fq at *
 clear hfl hfq
 go_enter Tryz.func60, Tryz.ntmps60
 go_upto_region 1 with fail
 rw [<- HX.out]
 refine qby X1.heap.size X1 (by kernel_rfl) (by kernel_rfl) (Below.refl _ _) ?_
 repeat (first | (go_big_quiet_want; (refine qgf rfl rfl PX.out ?_); simp only [Act.put, List.setIfInBounds_toArray, List.set_cons_succ, List.set_cons_zero]; go_big_quiet_on) | go_big_quiet_step (first | (go_at_call 83; with_reducible exact Calls.qcn (Nat.le_refl _) (cl.out _)) | (go_at_call 46; with_reducible exact Calls.qcn (Nat.le_refl _) (ca.out _)) | (go_at_call 74; with_reducible exact Calls.qcn (Nat.le_refl _) (cm.out _)) | fail))
 refine wpQuiet_nil ?_
 intro _ hw'
 obtain ⟨q5, hw''⟩ := hw'
 subst hw''
 have R5 := qh (K1.out.trans (q5.h.mono K1.out.size))
 clear z0 cl ca cm PX
 go_wp2_with fail
 go_ret
 exact ⟨rfl, R5.out⟩
theorem qmi (B g k : Nat) (L : List Rg.St) (q l : Rg.St) (hk : L.length = k + 1) (hl : L[k]? = some l) (hlo : 0 <= l.g.frame /\ l.g.frame <= 1048576) (hty : Gm.ty q.g) (hnm : q.g.qaa.length <= maxLen) (h8 : L.length <= 8) (hfr : q.g.frame = l.g.frame + 1) (hok : Im.Ok q.g q.r) (hn60 : q.g.qaa.length <= 60) (X : World) (hB : Box X B 125 #[.slice (some ⟨g, 0, none⟩) L.length 9]) (hR : PRow g L X) (hq : Lies X X.heap.size 6 q.A q.g.qaa.length (Gm.qad q.g.qaa)) :
 Calls Tryz.prog 60 #[.pointer (some ⟨B, 0, none⟩), .agg q.arr] X fun e X' => e = .returned (.bool true) /\ ∃ A' c', Box X' B 125 #[.slice (some ⟨g, 0, none⟩) (L.length + 1) 9] /\ PRow g (L ++ [⟨q.g, q.r, A', c'⟩]) X' /\ Lies X' X'.heap.size 6 A' q.g.qaa.length (Gm.qad q.g.qaa) /\ (q.g.qaa.length ≠ 0 -> ∀ ad, A' = some ad -> X.heap.size <= ad.block) /\ qaB (fun k => k = g \/ k = B) X X' := by
 have cput := fun w h1 h2 h3 => qjk B g L q h8 hn60 w h1 h2 h3
 obtain ⟨G, r, Aq, cq⟩ := q
 dsimp only at *
 obtain ⟨X1, hX1⟩ : ∃ X1, X1 = X.alloc (.cells (Im.cells G (.slice Aq G.qaa.length cq) r) 38) := ⟨_, rfl⟩
 have hb1 : Below X.heap.size X X1 := by rw [hX1]; exact qac X _
 have P1 := qh (show Box X1 X.heap.size 38 (Im.cells G (.slice Aq G.qaa.length cq) r) by rw [hX1]; exact Box.made _ _ _)
 have K1 := qh hb1
 have L1 := qh ((hq.below hb1).wider hb1.size)
 have HX := qh hX1
 have BB := qh (hB.below hb1 hB.lt)
 have RR := qh (hR.kept (hb1.block _ hR.lt))
 have h9 := hR.few
 have ek : ((L.length : Nat) : Int) = (k : Int) + 1 := by omega
 have cl := qh (fun (w : Ext X1.heap.size X1) => show Calls Tryz.prog 83 #[.pointer (some ⟨B, 0, none⟩)] w.w fun e w' => e = .returned (.int .i64 ((k : Int) + 1)) /\ Below w.w.heap.size w.w w' from by
  refine (qcX B L.length 9 _ w.w ((BB.out.below w.h BB.out.lt).cell 0)).mono fun e w' hh => ?_
  rw [<- ek]
  exact ⟨hh.1, by rw [<- hh.2]; exact Below.refl _ _⟩)
 have ca := qh (fun (w : Ext X1.heap.size X1) => qd5 B g k L l hk hl w.w (BB.out.below w.h BB.out.lt) (RR.out.kept (w.h.block _ RR.out.lt)))
 have cm := qh (fun (w : Ext X1.heap.size X1) => (qcs G r Aq G.qaa.length cq w.w hty hnm rfl ((L1.out.below w.h).wider w.h.size)).mono fun e w' hh => show e = .returned (.bool true) /\ Below w.w.heap.size w.w w' from ⟨by obtain ⟨⟨v, e1, e2⟩, _⟩ := hh; rw [e1]; obtain rfl : v = true := e2.2 hok; rfl, hh.2⟩)
 have z0 : ∀ w : Ext X1.heap.size X1, w.w.cell? ⟨X.heap.size, 0, none⟩ = some (.int .i64 G.frame) := fun w => w.cell P1.out.lt ((P1.out.cell 0).trans (Rg.St.first ⟨G, r, Aq, cq⟩))
 have PX := qh (fun (w : Ext X1.heap.size X1) => P1.out.below w.h P1.out.lt)
 have hwf : IntKind.i64.wrap (l.g.frame + 1) = l.g.frame + 1 := by rw [IntKind.wrap_i64]; omega
 have hwf2 : wrap64 (l.g.frame + 1) = l.g.frame + 1 := IntWalk.wrap64_in _ (by omega)
 have hne : ((k : Int) + 1 == 0) = false := by simp; omega
 have h8i : ¬ (9 : Int) <= (k : Int) + 1 := by omega
 have h8j : (k : Int) + 1 < 9 := by omega
 have h8k : (k : Int) < 8 := by omega
 have hfn : (G.frame != l.g.frame + 1) = false := by simpa using hfr
 clear hfr
 have HK := qh hk
 unfold Rg.St.arr at cput
 have CP := qh cput
 clear cput
 unfold Rg.St.arr
 dsimp only
 clear hX1 hb1 hq hB hR hl hlo hty ek h9 hk
 generalize hfl : l.g.frame = fl at *
 generalize hfq : G.frame = fq at *
 clear hfl hfq
 go_enter Tryz.func60, Tryz.ntmps60
 go_upto_region 1 with fail
 rw [<- HX.out]
 refine qby X1.heap.size X1 (by kernel_rfl) (by kernel_rfl) (Below.refl _ _) ?_
 repeat (first | (go_big_quiet_want; (refine qgf rfl rfl PX.out ?_); simp only [Act.put, List.setIfInBounds_toArray, List.set_cons_succ, List.set_cons_zero]; go_big_quiet_on) | go_big_quiet_step (first | (go_at_call 83; with_reducible exact Calls.qcn (Nat.le_refl _) (cl.out _)) | (go_at_call 46; with_reducible exact Calls.qcn (Nat.le_refl _) (ca.out _)) | (go_at_call 74; with_reducible exact Calls.qcn (Nat.le_refl _) (cm.out _)) | fail))
 refine wpQuiet_nil ?_
 intro _ hw'
 obtain ⟨q5, hw''⟩ := hw'
 subst hw''
 have R5 := qh (K1.out.trans (q5.h.mono K1.out.size))
 clear z0 cl ca cm PX
 have B5 := BB.out.below q5.h BB.out.lt
 have P5 := qh (P1.out.below q5.h P1.out.lt)
 have c5 := qh (CP.out q5.w B5 (RR.out.kept (q5.h.block _ RR.out.lt)) ((L1.out.below q5.h).wider q5.h.size))
 clear B5
 generalize q5.w = X5 at *
 go_wp2_with (first
  | ((with_reducible refine qak rfl rfl ?_); apply qaC.mk rfl; (focus (with_reducible exact P5.out)); dsimp only)
  | (go_at_call 75; ((with_reducible refine ((c5).out).mono ?_); rintro e w5 ⟨rfl, A', c', p1, p2, p3, p4, p5⟩; have P1 := qh p1; have P2 := qh p2; have P3 := qh p3; have P4 := qh p4; have P5 := qh p5; clear p1 p2 p3 p4 p5)))
 go_ret
 have hs := R5.out.size
 refine ⟨rfl, A', c', P1.out, P2.out, P3.out, fun h0 ad ea => Nat.le_trans hs (P4.out h0 ad ea), ?_⟩
 have h0 : qaB (fun k => k = g \/ k = B) X X5 := (qaB.qa9 R5.out).qkp fun j hj => hj.elim
 exact h0.trans P5.out (fun j hj => .inl hj)
section
variable {b g B : Nat} {F : Nat -> Prop} {L : List Rg.St} {X X' : World}
def qdj (F : Nat -> Prop) (g B : Nat) (L : List Rg.St) (X : World) : Prop := ∀ q ∈ L, Lies X X.heap.size 6 q.A q.g.qaa.length (Gm.qad q.g.qaa) /\ (q.g.qaa.length ≠ 0 -> ∀ ad, q.A = some ad -> F ad.block /\ ad.block ≠ g /\ ad.block ≠ B)
theorem qdj.old (hs : qdj F g B L X) (hup : ∀ k, F k -> k < X.heap.size) (hK : qaB (fun k => k = g \/ k = B) X X') : qdj F g B L X' := fun q hq =>
 ⟨qcC (hs q hq).1 hK.size fun h0 ad e => by
  obtain ⟨h1, h2, h3⟩ := (hs q hq).2 h0 ad e
  exact hK.block _ (hup _ h1) (by rintro (h | h) <;> contradiction), (hs q hq).2⟩
theorem qdj.sub {L' : List Rg.St} (hs : qdj F g B L X) (h : ∀ q ∈ L', q ∈ L) : qdj F g B L' X := fun q hq => hs q (h q hq)
theorem PrgR.says {L' : List Rg.St} {v : Bool} (hB : Box X' B 125 #[.slice (some ⟨g, 0, none⟩) L'.length 9]) (hR : PRow g L' X') (hs : qdj F g B L' X') (hg : F g) (hF : F B) (hup : ∀ k, F k -> b <= k /\ k < X.heap.size) (hK : qaB (fun k => k = g \/ k = B) X X') : qbN PrgR b F B (L'.map Rg.St.s) (.bool v) X (.returned (.bool v)) X' :=
 ⟨rfl, F, fun k hk => .inl hk, ⟨⟨g, L', rfl, hB, hR, hg, hs⟩, hF, fun k hk => ⟨(hup k hk).1, Nat.lt_of_lt_of_le (hup k hk).2 hK.size⟩⟩, hK.qkp fun j hj => by rcases hj with rfl | rfl <;> assumption⟩
theorem PrgR.quiet {M : List Fd.S} {v : Value} (h : PrgR b F B M X) (hb : Below X.heap.size X X') : qbN PrgR b F B M v X (.returned v) X' :=
 ⟨rfl, F, fun k hk => .inl hk, PrgR.obj.keep h (qaB.qa9 hb) (fun _ _ h => h), (qaB.qa9 hb).qkp fun j hj => hj.elim⟩
end
theorem qqD {M : List Fd.S} {L : List Rg.St} (ho : Rg.Ok M) (e : M = L.map Rg.St.s) {q : Rg.St} (hq : q ∈ L) : q.g.qaa.length <= 60 := by
 have h := (ho.all q.s (by rw [e]; exact List.mem_map_of_mem hq)).1.1.2.2.1
 have h2 : q.g.qaa.length <= 32 := h
 omega
theorem qkI {M : List Fd.S} {L : List Rg.St} (ho : Rg.Ok M) (e : M = L.map Rg.St.s) : ∃ k l, L.length = k + 1 /\ L[k]? = some l /\ l.g.frame = Rg.last M /\ 0 <= l.g.frame /\ l.g.frame <= 1048576 := by
 have hl : 0 < L.length := by have := Rg.qqn ho.some; rw [e, List.length_map] at this; exact this
 obtain ⟨k, hk⟩ : ∃ k, L.length = k + 1 := ⟨L.length - 1, by omega⟩
 have hlt : k < L.length := by omega
 refine ⟨k, L[k], hk, List.getElem?_eq_getElem hlt, ?_, ?_⟩
 · have := ho.runs k (L[k]).s (by rw [e]; exact Rg.qhU (List.getElem?_eq_getElem hlt))
   have h2 : (L[k]).g.frame = Rg.first M + (k : Int) := this
   unfold Rg.last
   rw [h2, e, List.length_map]
   omega
 · have h := (ho.all (L[k]).s (by rw [e]; exact List.mem_map_of_mem (List.getElem_mem _))).1.1
   exact ⟨h.1, h.2.1⟩
theorem qqY : qdM PrgR where
 ob := PrgR.obj
 new_yes := fun b q X hb hty hok hL => (qnT q hty hok (by have := hok.1.2.2.1; omega) X hL).mono fun e X' h => by
  obtain ⟨g, B, A', c', rfl, h1, h2, h3, h4, h5, h6, h7⟩ := h
  refine ⟨B, fun k => X.heap.size <= k /\ k < X'.heap.size, rfl, ⟨⟨g, [⟨q.g, q.r, A', c'⟩], rfl, h1, h2, ⟨h6, h2.lt⟩, fun x hx => ?_⟩, ⟨h7, h1.lt⟩, fun k hk => ⟨Nat.le_trans hb hk.1, hk.2⟩⟩, h5, fun k hk => hk.1⟩
  obtain rfl := List.mem_singleton.1 hx
  refine ⟨h3, fun h0 ad ea => ?_⟩
  obtain ⟨a1, a2, a3⟩ := h4 h0 ad ea
  obtain ⟨ad', ea', hb'⟩ := h3.start h0
  have ea2 : A' = some ad := ea
  rw [ea2] at ea'; injection ea' with ea'; subst ea'
  exact ⟨⟨a1, hb'⟩, a2, a3⟩
 new_no := fun q X hty hok hn hL => qpf q hty hok hn X hL
 push := fun b F B M ho q hty hn X h hb hL => by
  obtain ⟨g, L, e, hB, hR, hg, hs⟩ := h.box
  obtain ⟨k, l, hk, hl, hfl, hlo⟩ := qkI ho e
  have hlen : M.length = L.length := by rw [e, List.length_map]
  have hno : ¬ (Im.Ok q.g q.r /\ q.g.frame = Rg.last M + 1 /\ M.length <= 8) -> (Calls Tryz.prog 60 #[.pointer (some ⟨B, 0, none⟩), .agg q.arr] X fun e X' => e = .returned (.bool false) /\ Below X.heap.size X X') -> Calls Tryz.prog 60 #[.pointer (some ⟨B, 0, none⟩), .agg q.arr] X (qbN PrgR b F B (Rg.push M q.s) (.bool (Rg.pushB M q.s)) X) := fun hc hcall => by
   have hp : Rg.pushB M q.s = false := Rg.qpm hc
   rw [Rg.qqf hp, hp]
   exact hcall.mono fun e X' hh => by rw [hh.1]; exact h.quiet hh.2
  by_cases h8 : L.length <= 8
  · by_cases hfr : q.g.frame = l.g.frame + 1
    · by_cases hok : Im.Ok q.g q.r
      · have hp : Rg.pushB M q.s = true := Rg.qgJ hok (by rw [<- hfl]; exact hfr) (by omega)
        rw [Rg.qix hp, hp]
        have hn60 : q.g.qaa.length <= 60 := by have := hok.1.2.2.1; omega
        refine (qmi B g k L q l hk hl hlo hty hn h8 hfr hok hn60 X hB hR hL).mono fun e' X' hh => ?_
        obtain ⟨rfl, A', c', h1, h2, h3, h4, h5⟩ := hh
        have hsz := h5.size
        refine ⟨rfl, fun k => F k \/ (X.heap.size <= k /\ k < X'.heap.size), fun k hk => hk.imp id And.left, ⟨⟨g, L ++ [⟨q.g, q.r, A', c'⟩], by rw [e, List.map_append]; rfl, by rw [List.length_append]; exact h1, h2, .inl hg, fun x hx => ?_⟩, .inl h.own, fun k hk => ?_⟩, h5.qkp fun j hj => hj.elim (fun e => e ▸ hg) (fun e => e ▸ h.own)⟩
        · rcases List.mem_append.1 hx with hx | hx
          · have := (qdj.old hs (fun k hk => (h.up k hk).2) h5) x hx
            exact ⟨this.1, fun h0 ad ea => ⟨.inl (this.2 h0 ad ea).1, (this.2 h0 ad ea).2⟩⟩
          · obtain rfl := List.mem_singleton.1 hx
            refine ⟨h3, fun h0 ad ea => ?_⟩
            have a1 := h4 h0 ad ea
            obtain ⟨ad', ea', hb'⟩ := h3.start h0
            have ea2 : A' = some ad := ea
            rw [ea2] at ea'; injection ea' with ea'; subst ea'
            have g1 := (h.up g hg).2
            have g2 := (h.up B h.own).2
            exact ⟨.inr ⟨a1, hb'⟩, by omega, by omega⟩
        · rcases hk with hk | hk
          · exact ⟨(h.up k hk).1, Nat.lt_of_lt_of_le (h.up k hk).2 hsz⟩
          · exact ⟨Nat.le_trans hb hk.1, hk.2⟩
      · exact hno (fun hc => hok hc.1) (qmj B g k L q l hk hl hlo hty hn h8 hfr hok X hB hR hL)
    · exact hno (fun hc => hfr (by rw [hfl]; exact hc.2.1)) (qml B g k L q l hk hl hlo hty hn h8 hfr X hB hR hL)
  · have h9 := hR.few
    exact hno (fun hc => h8 (by rw [<- hlen]; exact hc.2.2)) (qkE B g k L q l hk hl hlo hty hn (by omega) X hB hR hL)
 at_yes := fun b F B M ho f s hs X h => by
  obtain ⟨g, L, e, hB, hR, hg, hsh⟩ := h.box
  obtain ⟨hp, hat⟩ := Rg.qqw hs
  rw [e] at hp hat
  obtain ⟨hv, hi⟩ := Rg.qgM (by rw [<- e]; exact ho) hp
  have hm := List.getElem_mem hi
  have hq := Rg.qhU (List.getElem?_eq_getElem hi)
  rw [hq] at hat
  injection hat with hat
  rw [<- hat]
  exact qnW B g L f _ hi hv X hB hR (qqD ho e hm) (hsh _ hm).1
 at_no := fun b F B M ho f hf hs X h => by
  obtain ⟨g, L, e, hB, hR, hg, hsh⟩ := h.box
  have hp := Rg.qlt hs
  rw [e] at hp ho
  exact qnX B g L f (Rg.qiy ho hp) X hB hR
 cut := fun b F B M ho f hf X h hb => by
  obtain ⟨g, L, e, hB, hR, hg, hsh⟩ := h.box
  subst e
  cases hp : Rg.hasB (L.map Rg.St.s) f with
  | false =>
   have ec : Rg.cut (L.map Rg.St.s) f = L.map Rg.St.s := by unfold Rg.cut; rw [hp]; rfl
   rw [ec]
   exact (qmo B g L f (Rg.qiy ho hp) X hB hR).mono fun e X' hh => by rw [hh.1]; exact h.quiet hh.2
  | true =>
   obtain ⟨hv, hi⟩ := Rg.qgM ho hp
   have ec : Rg.cut (L.map Rg.St.s) f = (L.take ((f - Rg.first (L.map Rg.St.s)).toNat + 1)).map Rg.St.s := by unfold Rg.cut; rw [hp, if_pos rfl, List.map_take]
   rw [ec]
   refine (qmn B g L f _ hi hv X hB hR).mono fun e X' hh => ?_
   obtain ⟨rfl, h1, h2, h3⟩ := hh
   exact PrgR.says h1 h2 ((qdj.old hsh (fun k hk => (h.up k hk).2) h3).sub fun q hq => List.mem_of_mem_take hq) hg h.own h.up h3
 drop := fun b F B M ho f hf X h hb => by
  obtain ⟨g, L, e, hB, hR, hg, hsh⟩ := h.box
  subst e
  cases hp : Rg.hasB (L.map Rg.St.s) f with
  | false =>
   have ec : Rg.drop (L.map Rg.St.s) f = L.map Rg.St.s := by unfold Rg.drop; rw [hp]; rfl
   rw [ec]
   exact (qkH B g L f (Rg.qiy ho hp) X hB hR).mono fun e X' hh => by rw [hh.1]; exact h.quiet hh.2
  | true =>
   obtain ⟨hv, hi⟩ := Rg.qgM ho hp
   have ec : Rg.drop (L.map Rg.St.s) f = (L.drop (f - Rg.first (L.map Rg.St.s)).toNat).map Rg.St.s := by unfold Rg.drop; rw [hp, if_pos rfl, List.map_drop]
   rw [ec]
   refine (qkG B g L f _ hi hv X hB hR).mono fun e X' hh => ?_
   obtain ⟨rfl, h1, h2, h3⟩ := hh
   exact PrgR.says h1 h2 ((qdj.old hsh (fun k hk => (h.up k hk).2) h3).sub fun q hq => List.mem_of_mem_drop hq) hg h.own h.up h3
 len := fun b F B M ho X h => by
  obtain ⟨g, L, e, hB, hR, hg, hsh⟩ := h.box
  rw [e, List.length_map]
  exact (qcX B L.length 9 _ X (hB.cell 0)).mono fun e X' hh => ⟨hh.1, by rw [<- hh.2]; exact Below.refl _ _⟩
 first := fun b F B M ho X h => by
  obtain ⟨g, L, e, hB, hR, hg, hsh⟩ := h.box
  obtain ⟨k, l, hk, _⟩ := qkI ho e
  have h0 : L[0]? = some (L[0]'(by omega)) := List.getElem?_eq_getElem (by omega)
  have hf : (L[0]'(by omega)).g.frame = Rg.first M := ho.qpL (by rw [e]; exact Rg.qhU h0)
  rw [<- hf]
  exact (qkF B g k L _ hk h0 X hB hR).mono fun e X' hh => ⟨hh.1, by rw [<- hh.2]; exact Below.refl _ _⟩
 last := fun b F B M ho X h => by
  obtain ⟨g, L, e, hB, hR, hg, hsh⟩ := h.box
  obtain ⟨k, l, hk, hl, hfl, _⟩ := qkI ho e
  rw [<- hfl]
  exact qd5 B g k L l hk hl X hB hR
 push0 := fun q X _ _ _ => qmk q X
 cut0 := fun f X => qnV f X
 drop0 := fun f X => qmm f X
 len0 := fun X => (qjm X).mono fun e X' hh => ⟨hh.1, by rw [<- hh.2]; exact Below.refl _ _⟩
structure IMap (W : World) (r : Nat) (k : IntKind) (g : Int -> Option Value) : Prop where
 ex : ∃ es clock, W.heap[r]? = some (.map es clock) /\ Go.MapKept.Stamped es clock /\ (∀ x ∈ es.toList, Go.MapKept.IsKey (.int k) x.key) /\ ∀ a v, g a = some v ↔ ∃ e ∈ es.toList, e.key = .int k a /\ e.val = v
section
variable {P : Program} {W W' : World} {r : Nat} {k : IntKind} {g : Int -> Option Value} {mt kt et : TypeId}
theorem IMap.lt (h : IMap W r k g) : r < W.heap.size := by
 obtain ⟨es, clock, hb, _⟩ := h.ex
 exact (Array.getElem?_eq_some_iff.1 hb).1
theorem IMap.same (h : IMap W r k g) (hb : W'.heap[r]? = W.heap[r]?) : IMap W' r k g := by
 obtain ⟨es, clock, h1, h2⟩ := h.ex
 exact ⟨es, clock, hb.trans h1, h2⟩
theorem IMap.congr {g' : Int -> Option Value} (h : IMap W r k g) (e : ∀ a, g a = g' a) : IMap W r k g' := by
 have : g = g' := funext e
 exact this ▸ h
theorem IMap.box {b : Nat} {t : TypeId} {cs : Array Value} (h : IMap W r k g) (hB : Box W b t cs) : r ≠ b := fun e => by
 obtain ⟨es, clock, h1, _⟩ := h.ex
 rw [e, hB.is] at h1
 cases h1
theorem IMap.made (W : World) (k : IntKind) : IMap (W.alloc (.map #[] 0)) W.heap.size k (fun _ => none) :=
 ⟨#[], 0, heap_alloc_new W _, Go.MapKept.stamped_empty 0, by simp, by simp⟩
theorem IMap.finds (h : IMap W r k g) (hk : P.underlying kt = some (.int k)) (a : Int) : ∃ es clock, W.heap[r]? = some (.map es clock) /\ Go.MapKept.Stamped es clock /\ (∀ x ∈ es.toList, Go.MapKept.IsKey (.int k) x.key) /\ (∀ a v, g a = some v ↔ ∃ e ∈ es.toList, e.key = .int k a /\ e.val = v) /\
 ((g a = none /\ (∀ x ∈ es.toList, x.key ≠ .int k a) /\ ∀ w, (Instr.findKey kt (.int k a) es.toList).run P w = .ok none w) \/ ∃ j e, g a = some e.val /\ es[j]? = some e /\ e.key = .int k a /\ ∀ w, (Instr.findKey kt (.int k a) es.toList).run P w = .ok (some (j, e.val)) w) := by
 obtain ⟨es, clock, h1, h2, h3, h4⟩ := h.ex
 refine ⟨es, clock, h1, h2, h3, h4, ?_⟩
 rcases Go.MapKept.findNow_spec (d := .int k) (k := .int k a) rfl es.toList 0 h3 with ⟨f1, f2⟩ | ⟨j, e, f1, f2, f3⟩
 · refine .inl ⟨?_, f2, fun w => Go.MapKept.run_findKey hk f1⟩
   cases hg : g a with
   | none => rfl
   | some v =>
    obtain ⟨e, he, hke, _⟩ := (h4 a v).1 hg
    exact absurd hke (f2 e he)
 · rw [Nat.zero_add] at f1
   have hj : es[j]? = some e := by simpa using f2
   exact .inr ⟨j, e, (h4 a e.val).2 ⟨e, List.mem_of_getElem? f2, f3, rfl⟩, hj, f3, fun w => Go.MapKept.run_findKey hk f1⟩
theorem IMap.look (h : IMap W r k g) (hm : P.underlying mt = some (.map kt et)) (hk : P.underlying kt = some (.int k)) {z : Value} (hz : ∀ w, (zeroValue et).run P w = .ok z w) (a : Int) :
 (Instr.lookup mt (.map (some r)) (.int k a) true).run P W = .ok (.tuple #[(g a).getD z, .bool (g a).isSome]) W := by
 obtain ⟨es, clock, h1, _, _, _, hf⟩ := h.finds hk a
 have hc := fun e n => Go.MapKept.run_checkKey (P := P) (w := W) hk (k := .int k a) rfl e n
 rcases hf with ⟨hg, _, hf⟩ | ⟨j, e, hg, _, _, hf⟩
 · rw [hg]
   simp [Instr.lookup, run_underlying hm, Go.MapKept.run_getObj_map h1, hc, hf, hz, Result.andThen]
 · rw [hg]
   simp [Instr.lookup, run_underlying hm, Go.MapKept.run_getObj_map h1, hc, hf, Result.andThen]
def updI (g : Int -> Option Value) (a : Int) (o : Option Value) : Int -> Option Value := fun b => if b = a then o else g b
theorem qf9 {W : World} {r : Nat} {o o' : Obj} (h : W.heap[r]? = some o) : Only r W { W with heap := W.heap.setIfInBounds r o' } :=
 ⟨rfl, rfl, rfl, by simp, fun k _ hne => by simp [Array.getElem?_setIfInBounds, Ne.symm hne]⟩
theorem IMap.store (h : IMap W r k g) (hm : P.underlying mt = some (.map kt et)) (hk : P.underlying kt = some (.int k)) (a : Int) (v : Value) :
 ∃ W', (Instr.mapUpdate mt (.map (some r)) (.int k a) v).run P W = .ok () W' /\ IMap W' r k (updI g a (some v)) /\ Only r W W' := by
 obtain ⟨es, clock, h1, hs, h3, h4, hf⟩ := h.finds hk a
 have hc := fun e n => Go.MapKept.run_checkKey (P := P) (w := W) hk (k := .int k a) rfl e n
 have hst := Go.MapKept.run_keyThatStays (P := P) (w := W) (d := .int k) (k := .int k a) rfl
 rcases hf with ⟨hg, hno, hf⟩ | ⟨j, e, hg, hj, hke, hf⟩
 · refine ⟨{ W with heap := W.heap.setIfInBounds r (.map (es.push { key := .int k a, val := v, born := clock }) (clock + 1)) }, ?_, ⟨_, _, (Go.MapKept.heap_set h1).1, Go.MapKept.stamped_push hs hno, ?_, fun b u => ?_⟩, qf9 h1⟩
   · simp [Instr.mapUpdate, run_underlying hm, Go.MapKept.run_getObj_map h1, hc, hf, Go.MapKept.run_setObj_map _ h1, Result.andThen]
   · intro x hx
     simp only [Array.toList_push, List.mem_append, List.mem_singleton] at hx
     rcases hx with hx | rfl
     · exact h3 x hx
     · rfl
   · unfold updI
     by_cases hb : b = a
     · subst hb
       rw [if_pos rfl]
       constructor
       · intro hu
         injection hu with hu
         exact ⟨{ key := .int k b, val := v, born := clock }, by simp, rfl, hu⟩
       · rintro ⟨x, hx, hkx, hvx⟩
         simp only [Array.toList_push, List.mem_append, List.mem_singleton] at hx
         rcases hx with hx | rfl
         · exact absurd hkx (hno x hx)
         · exact congrArg some hvx
     · rw [if_neg hb, h4]
       constructor
       · rintro ⟨x, hx, hkx, hvx⟩
         exact ⟨x, by simp [hx], hkx, hvx⟩
       · rintro ⟨x, hx, hkx, hvx⟩
         simp only [Array.toList_push, List.mem_append, List.mem_singleton] at hx
         rcases hx with hx | rfl
         · exact ⟨x, hx, hkx, hvx⟩
         · injection hkx with _ hkx
           exact absurd hkx.symm hb
 · have hjl : j < es.size := (Array.getElem?_eq_some_iff.1 hj).1
   have hkey : ∀ e', es[j]? = some e' -> ({ e' with key := .int k a, val := v } : MapEntry).key = e'.key := fun e' he' => by rw [hj] at he'; cases he'; exact hke.symm
   have hone : ∀ i x, es[i]? = some x -> x.key = .int k a -> i = j := fun i x hi hx => by
    have hl : i < (es.toList.map (·.key)).length := by simpa using (Array.getElem?_eq_some_iff.1 hi).1
    refine (List.getElem?_inj hl hs.2.2).1 ?_
    rw [List.getElem?_map, List.getElem?_map, Array.getElem?_toList, Array.getElem?_toList, hi, hj]
    show some x.key = some e.key
    rw [hx, hke]
   refine ⟨{ W with heap := W.heap.setIfInBounds r (.map (es.modify j fun e' => { e' with key := .int k a, val := v }) clock) }, ?_, ⟨_, _, (Go.MapKept.heap_set h1).1, Go.MapKept.stamped_modify hs _ _ (fun _ _ => rfl) (fun e' _ he' => hkey e' he'), Go.MapKept.isKey_modify h3 _ _ hkey, fun b u => ?_⟩, qf9 h1⟩
   · simp [Instr.mapUpdate, run_underlying hm, Go.MapKept.run_getObj_map h1, hc, hf, hj, hke, hst, Go.MapKept.run_setObj_map _ h1, Result.andThen]
   · have hmod : ∀ i, (es.modify j fun e' => { e' with key := .int k a, val := v })[i]? = if j = i then (es[i]?).map (fun e' => { e' with key := .int k a, val := v }) else es[i]? := fun i => Array.getElem?_modify
     have hmem : ∀ x, x ∈ (es.modify j fun e' => { e' with key := .int k a, val := v }).toList ↔ ∃ i, (es.modify j fun e' => { e' with key := .int k a, val := v })[i]? = some x := fun x => by
      rw [Array.mem_toList_iff, Array.mem_iff_getElem?]
     have hmem0 : ∀ x, x ∈ es.toList ↔ ∃ i, es[i]? = some x := fun x => by rw [Array.mem_toList_iff, Array.mem_iff_getElem?]
     unfold updI
     by_cases hb : b = a
     · subst hb
       rw [if_pos rfl]
       constructor
       · intro hu
         injection hu with hu
         refine ⟨{ e with key := .int k b, val := v }, (hmem _).2 ⟨j, by rw [hmod, if_pos rfl, hj]; rfl⟩, rfl, hu⟩
       · rintro ⟨x, hx, hkx, hvx⟩
         obtain ⟨i, hi⟩ := (hmem x).1 hx
         rw [hmod] at hi
         by_cases hij : j = i
         · subst hij
           rw [if_pos rfl, hj] at hi
           injection hi with hi
           subst hi
           exact congrArg some hvx
         · rw [if_neg hij] at hi
           exact absurd (hone i x hi hkx).symm hij
     · rw [if_neg hb, h4]
       constructor
       · rintro ⟨x, hx, hkx, hvx⟩
         obtain ⟨i, hi⟩ := (hmem0 x).1 hx
         refine ⟨x, (hmem x).2 ⟨i, ?_⟩, hkx, hvx⟩
         rw [hmod, if_neg]
         · exact hi
         · rintro rfl
           rw [hj] at hi
           cases hi
           rw [hke] at hkx
           injection hkx with _ hkx
           exact hb hkx.symm
       · rintro ⟨x, hx, hkx, hvx⟩
         obtain ⟨i, hi⟩ := (hmem x).1 hx
         rw [hmod] at hi
         by_cases hij : j = i
         · subst hij
           rw [if_pos rfl, hj] at hi
           injection hi with hi
           subst hi
           injection hkx with _ hkx
           exact absurd hkx.symm hb
         · rw [if_neg hij] at hi
           exact ⟨x, (hmem0 x).2 ⟨i, hi⟩, hkx, hvx⟩
theorem IMap.del (h : IMap W r k g) (hm : P.underlying mt = some (.map kt et)) (hk : P.underlying kt = some (.int k)) (a : Int) (t2 ty : TypeId) :
 ∃ W', (Builtin.delete_ #[mt, t2] ty #[.map (some r), .int k a]).run P W = .ok (.tuple #[]) W' /\ IMap W' r k (updI g a none) /\ Only r W W' := by
 obtain ⟨es, clock, h1, hs, h3, h4, hf⟩ := h.finds hk a
 have hc := fun e n => Go.MapKept.run_checkKey (P := P) (w := W) hk (k := .int k a) rfl e n
 rcases hf with ⟨hg, hno, hf⟩ | ⟨j, e, hg, hj, hke, hf⟩
 · refine ⟨{ W with heap := W.heap.setIfInBounds r (.map es clock) }, ?_, ⟨es, clock, (Go.MapKept.heap_set h1).1, hs, h3, fun b u => ?_⟩, qf9 h1⟩
   · simp [Builtin.delete_, run_underlying hm, Go.MapKept.run_getObj_map h1, hc, hf, Go.MapKept.run_setObj_map _ h1, Result.andThen]
   · unfold updI
     by_cases hb : b = a
     · subst hb
       rw [if_pos rfl, <- h4, hg]
     · rw [if_neg hb, h4]
 · have hone : ∀ i x, es[i]? = some x -> x.key = .int k a -> i = j := fun i x hi hx => by
    have hl : i < (es.toList.map (·.key)).length := by simpa using (Array.getElem?_eq_some_iff.1 hi).1
    refine (List.getElem?_inj hl hs.2.2).1 ?_
    rw [List.getElem?_map, List.getElem?_map, Array.getElem?_toList, Array.getElem?_toList, hi, hj]
    show some x.key = some e.key
    rw [hx, hke]
   have hl : (es.eraseIdxIfInBounds j).toList = es.toList.eraseIdx j := by simp
   have hmem : ∀ x, x ∈ (es.eraseIdxIfInBounds j).toList ↔ ∃ i, i ≠ j /\ es[i]? = some x := fun x => by
    rw [hl, List.mem_eraseIdx_iff_getElem?]
    simp
   have hmem0 : ∀ x, x ∈ es.toList ↔ ∃ i, es[i]? = some x := fun x => by rw [Array.mem_toList_iff, Array.mem_iff_getElem?]
   refine ⟨{ W with heap := W.heap.setIfInBounds r (.map (es.eraseIdxIfInBounds j) clock) }, ?_, ⟨_, clock, (Go.MapKept.heap_set h1).1, Go.MapKept.stamped_erase hs j, fun x hx => ?_, fun b u => ?_⟩, qf9 h1⟩
   · simp [Builtin.delete_, run_underlying hm, Go.MapKept.run_getObj_map h1, hc, hf, Go.MapKept.run_setObj_map _ h1, Result.andThen]
   · obtain ⟨i, _, hi⟩ := (hmem x).1 hx
     exact h3 x ((hmem0 x).2 ⟨i, hi⟩)
   · unfold updI
     by_cases hb : b = a
     · subst hb
       rw [if_pos rfl]
       constructor
       · intro hu; cases hu
       · rintro ⟨x, hx, hkx, hvx⟩
         obtain ⟨i, hij, hi⟩ := (hmem x).1 hx
         exact absurd (hone i x hi hkx) hij
     · rw [if_neg hb, h4]
       constructor
       · rintro ⟨x, hx, hkx, hvx⟩
         obtain ⟨i, hi⟩ := (hmem0 x).1 hx
         refine ⟨x, (hmem x).2 ⟨i, ?_, hi⟩, hkx, hvx⟩
         rintro rfl
         rw [hj] at hi
         cases hi
         rw [hke] at hkx
         injection hkx with _ hkx
         exact hb hkx.symm
       · rintro ⟨x, hx, hkx, hvx⟩
         obtain ⟨i, _, hi⟩ := (hmem x).1 hx
         exact ⟨x, (hmem0 x).2 ⟨i, hi⟩, hkx, hvx⟩
end
open Go.ChangeMaps (setBlock)
def GMap (W : World) (o : Option Nat) (k : IntKind) (g : Int -> Option Value) : Prop := (o = none /\ ∀ a, g a = none) \/ ∃ r, o = some r /\ IMap W r k g
structure IGo (W : World) (r t : Nat) (k : IntKind) (g : Int -> Option Value) (left : Int -> Bool) (n : Nat) : Prop where
 ex : ∃ es clock seen, W.heap[r]? = some (.map es clock) /\ W.heap[t]? = some (.mapIter (some r) clock seen clock) /\ Go.MapKept.Stamped es clock /\ (∀ x ∈ es.toList, Go.MapKept.IsKey (.int k) x.key) /\ (∀ a v, g a = some v ↔ ∃ e ∈ es.toList, e.key = .int k a /\ e.val = v) /\ (∀ a, left a = true ↔ ∃ e ∈ es.toList, e.key = .int k a /\ seen.contains e.born = false) /\ (leftOf es seen).size = n
def GGo (W : World) (o : Option Nat) (t : Nat) (k : IntKind) (g : Int -> Option Value) (left : Int -> Bool) (n : Nat) : Prop :=
 (o = none /\ W.heap[t]? = some (.mapIter none 0 #[] 0) /\ (∀ a, left a = false) /\ n = 0) \/ ∃ r, o = some r /\ IGo W r t k g left n
section
variable {P : Program} {W W' : World} {r t n : Nat} {o : Option Nat} {k : IntKind} {g : Int -> Option Value} {left : Int -> Bool} {mt kt et : TypeId}
theorem qon {v : Value} (h : Go.MapKept.IsKey (.int k) v) : ∃ a, v = .int k a := by
 cases v <;> simp [Go.MapKept.IsKey] at h
 subst h
 exact ⟨_, rfl⟩
theorem IGo.same (h : IGo W r t k g left n) (hr : W'.heap[r]? = W.heap[r]?) (ht : W'.heap[t]? = W.heap[t]?) : IGo W' r t k g left n := by
 obtain ⟨es, clock, seen, h1, h2, h3⟩ := h.ex
 exact ⟨es, clock, seen, hr.trans h1, ht.trans h2, h3⟩
theorem IGo.lt (h : IGo W r t k g left n) : r < W.heap.size /\ t < W.heap.size /\ r ≠ t := by
 obtain ⟨es, clock, seen, h1, h2, _⟩ := h.ex
 refine ⟨(Array.getElem?_eq_some_iff.1 h1).1, (Array.getElem?_eq_some_iff.1 h2).1, fun e => ?_⟩
 rw [e, h2] at h1
 cases h1
theorem IGo.left_eq (h : IGo W r t k g left n) : W.rangeLeft r t = n := by
 obtain ⟨es, clock, seen, h1, h2, _, _, _, _, h9⟩ := h.ex
 simp only [World.rangeLeft, h1, h2]
 exact h9
theorem GGo.left_eq (h : GGo W o t k g left n) : W.rangeLeft (o.getD t) t = n := by
 rcases h with ⟨rfl, h1, _, rfl⟩ | ⟨r, rfl, h⟩
 · show W.rangeLeft t t = 0
   simp only [World.rangeLeft, h1]
 · exact h.left_eq
theorem GGo.lt (h : GGo W o t k g left n) : t < W.heap.size := by
 rcases h with ⟨rfl, h1, _, rfl⟩ | ⟨r, rfl, h⟩
 · exact (Array.getElem?_eq_some_iff.1 h1).1
 · exact h.lt.2.1
theorem GGo.same (h : GGo W o t k g left n) (hr : ∀ r, o = some r -> W'.heap[r]? = W.heap[r]?) (ht : W'.heap[t]? = W.heap[t]?) : GGo W' o t k g left n := by
 rcases h with ⟨rfl, h1, h2, rfl⟩ | ⟨r, rfl, h⟩
 · exact .inl ⟨rfl, ht.trans h1, h2, rfl⟩
 · exact .inr ⟨r, rfl, h.same (hr r rfl) ht⟩
theorem GGo.below {b : Nat} (h : GGo W o t k g left n) (hb : Below b W W') (ht : t < b) (hr : ∀ r, o = some r -> r < b) : GGo W' o t k g left n := h.same (fun r e => hb.block r (hr r e)) (hb.block t ht)
theorem GMap.same (h : GMap W o k g) (hr : ∀ r, o = some r -> W'.heap[r]? = W.heap[r]?) : GMap W' o k g := by
 rcases h with ⟨rfl, h⟩ | ⟨r, rfl, h⟩
 · exact .inl ⟨rfl, h⟩
 · exact .inr ⟨r, rfl, h.same (hr r rfl)⟩
theorem GMap.lt (h : GMap W o k g) {r : Nat} (e : o = some r) : r < W.heap.size := by
 rcases h with ⟨rfl, h⟩ | ⟨r', rfl, h⟩
 · cases e
 · injection e with e
   subst e
   exact h.lt
theorem GMap.below {b : Nat} (h : GMap W o k g) (hb : Below b W W') (hr : ∀ r, o = some r -> r < b) : GMap W' o k g := h.same fun r e => hb.block r (hr r e)
theorem GMap.box {b : Nat} {T : TypeId} {cs : Array Value} (h : GMap W o k g) (hB : Box W b T cs) : ∀ r, o = some r -> r ≠ b := fun r e => by
 rcases h with ⟨rfl, h⟩ | ⟨r', rfl, h⟩
 · cases e
 · injection e with e
   subst e
   exact h.box hB
theorem GMap.congr {g' : Int -> Option Value} (h : GMap W o k g) (e : ∀ a, g a = g' a) : GMap W o k g' := by
 have : g = g' := funext e
 exact this ▸ h
theorem GMap.look (h : GMap W o k g) (hm : P.underlying mt = some (.map kt et)) (hk : P.underlying kt = some (.int k)) {z : Value} (hz : ∀ w, (zeroValue et).run P w = .ok z w) (a : Int) :
 (Instr.lookup mt (.map o) (.int k a) true).run P W = .ok (.tuple #[(g a).getD z, .bool (g a).isSome]) W := by
 rcases h with ⟨rfl, h⟩ | ⟨r, rfl, h⟩
 · have hc := fun e n => Go.MapKept.run_checkKey (P := P) (w := W) hk (k := .int k a) rfl e n
   have hf : ∀ w, (Instr.findKey kt (.int k a) []).run P w = .ok none w := fun w => Go.MapKept.run_findKey hk (by simp [Instr.findNow])
   rw [h]
   simp [Instr.lookup, run_underlying hm, hc, hf, hz, Result.andThen]
 · exact h.look hm hk hz a
theorem GMap.del (h : GMap W o k g) (hm : P.underlying mt = some (.map kt et)) (hk : P.underlying kt = some (.int k)) (a : Int) (t2 ty : TypeId) :
 ∃ W', (Builtin.delete_ #[mt, t2] ty #[.map o, .int k a]).run P W = .ok (.tuple #[]) W' /\ GMap W' o k (updI g a none) /\ qaB (fun j => o = some j) W W' /\ W'.heap.size = W.heap.size := by
 rcases h with ⟨rfl, h⟩ | ⟨r, rfl, h⟩
 · have hc := fun e n => Go.MapKept.run_checkKey (P := P) (w := W) hk (k := .int k a) rfl e n
   refine ⟨W, ?_, .inl ⟨rfl, fun b => ?_⟩, qaB.refl _ _, rfl⟩
   · simp [Builtin.delete_, run_underlying hm, hc, Result.andThen]
   · unfold updI
     split
     · rfl
     · exact h b
 · obtain ⟨W', h1, h2, h3⟩ := h.del hm hk a t2 ty
   have hsz : W'.heap.size = W.heap.size := by
    obtain ⟨es, clock, hb, _, _, _, hf⟩ := h.finds (P := P) hk a
    have hc := fun e n => Go.MapKept.run_checkKey (P := P) (w := W) hk (k := .int k a) rfl e n
    rcases hf with ⟨_, _, hf⟩ | ⟨j, e, _, _, _, hf⟩
    · simp [Builtin.delete_, run_underlying hm, Go.MapKept.run_getObj_map hb, hc, hf, Go.MapKept.run_setObj_map _ hb, Result.andThen] at h1
      rw [<- h1]
      simp
    · simp [Builtin.delete_, run_underlying hm, Go.MapKept.run_getObj_map hb, hc, hf, Go.MapKept.run_setObj_map _ hb, Result.andThen] at h1
      rw [<- h1]
      simp
   exact ⟨W', h1, .inr ⟨r, rfl, h2⟩, ⟨h3.os, h3.tape, h3.output, h3.size, fun j hj hne => h3.block j hj fun e => hne (by rw [e])⟩, hsz⟩
theorem GMap.range (h : GMap W o k g) (hm : P.underlying mt = some (.map kt et)) :
 ∃ it, (Instr.range mt (.map o)).run P W = .ok (.pointer (some ⟨W.heap.size, 0, none⟩)) (W.alloc it) /\ ∃ n, GGo (W.alloc it) o W.heap.size k g (fun a => (g a).isSome) n := by
 rcases h with ⟨rfl, h⟩ | ⟨r, rfl, h⟩
 · exact ⟨_, run_range_nilMap W mt kt et hm, 0, .inl ⟨rfl, heap_alloc_new _ _, fun a => by show (g a).isSome = false; rw [h a]; rfl, rfl⟩⟩
 · obtain ⟨es, clock, h1, hs, h3, h4⟩ := h.ex
   refine ⟨_, run_range_map W mt kt et r es clock hm h1, _, .inr ⟨r, rfl, es, clock, #[], ?_, heap_alloc_new _ _, hs, h3, h4, fun a => ?_, rfl⟩⟩
   · rw [heap_alloc_old _ _ h.lt]
     exact h1
   · rw [Option.isSome_iff_exists]
     constructor
     · rintro ⟨v, hv⟩
       obtain ⟨e, he, hke, _⟩ := (h4 a v).1 hv
       exact ⟨e, he, hke, by simp⟩
     · rintro ⟨e, he, hke, _⟩
       exact ⟨e.val, (h4 a e.val).2 ⟨e, he, hke, rfl⟩⟩
theorem qn9 {W w1 : World} {t : Nat} {x : Obj} (hw : w1 = W \/ w1 = W.drew) : Only t W (setBlock w1 t x) /\ (setBlock w1 t x).heap.size = W.heap.size := by
 have e1 : w1.heap = W.heap /\ w1.os = W.os /\ w1.tape = W.tape /\ w1.output = W.output := by rcases hw with rfl | rfl <;> exact ⟨rfl, rfl, rfl, rfl⟩
 have e2 : (setBlock w1 t x).heap = w1.heap.setIfInBounds t x := rfl
 refine ⟨⟨e1.2.1, e1.2.2.1, e1.2.2.2, by rw [e2, e1.1]; simp, fun k _ hne => ?_⟩, by rw [e2, e1.1]; simp⟩
 rw [e2, e1.1]
 simp [Array.getElem?_setIfInBounds, Ne.symm hne]
theorem GGo.next (h : GGo W o t k g left n) (ty : TypeId) :
 ((∀ a, left a = false) /\ (Instr.next (.pointer (some ⟨t, 0, none⟩)) false ty).run P W = .ok (.tuple #[.bool false]) W) \/
 ∃ a v W1 n1, left a = true /\ g a = some v /\ (Instr.next (.pointer (some ⟨t, 0, none⟩)) false ty).run P W = .ok (.tuple #[.bool true, .int k a, v]) W1 /\ (Instr.entry (.pointer (some ⟨t, 0, none⟩))).run P W1 = .ok (.tuple #[.int k a, v]) W1 /\
  GGo W1 o t k g (fun b => left b && decide (b ≠ a)) n1 /\ n1 < n /\ Only t W W1 /\ W1.heap.size = W.heap.size := by
 rcases h with ⟨rfl, h1, h2, rfl⟩ | ⟨r, rfl, h⟩
 · refine .inl ⟨h2, ?_⟩
   simp only [Instr.next, getObj, Sem.run_bind, Sem.run, h1, Result.andThen]
   rfl
 · have hlt := h.lt
   obtain ⟨es, clock, seen, h1, h2, hs, h3, h4, h7, h8⟩ := h.ex
   rcases run_next_at (P := P) W ty t r clock clock seen es clock h2 h1 hs.1 (Nat.le_refl _) with ⟨h0, hrun⟩ | ⟨e, he, w1, hw1, hrun⟩
   · refine .inl ⟨fun a => ?_, hrun⟩
     rw [<- Bool.not_eq_true, h7]
     rintro ⟨x, hx, _, hsx⟩
     rw [all_seen es seen h0 x hx] at hsx
     cases hsx
   · right
     have hm := mem_left he
     obtain ⟨a, ha⟩ := qon (h3 e hm.1)
     obtain ⟨ho, hz⟩ := qn9 (x := .mapIter (some r) clock (seen.push e.born) clock) (t := t) hw1
     have hr1 : (setBlock w1 t (.mapIter (some r) clock (seen.push e.born) clock)).heap[r]? = some (.map es clock) := (ho.block r hlt.1 hlt.2.2).trans h1
     have ht1 : (setBlock w1 t (.mapIter (some r) clock (seen.push e.born) clock)).heap[t]? = some (.mapIter (some r) clock (seen.push e.born) clock) := by
      have : t < w1.heap.size := by rcases hw1 with rfl | rfl <;> exact hlt.2.1
      simp [setBlock, this]
     have hkey : ∀ x ∈ es.toList, x.key = .int k a -> x = e := fun x hx hxk => by
      exact Go.entry_eq_of_key ((Go.MapKept.stamped_iff es clock).1 hs).2.2 hx hm.1 (hxk.trans ha.symm)
     refine ⟨a, e.val, _, _, (h7 a).2 ⟨e, hm.1, ha, hm.2⟩, (h4 a e.val).2 ⟨e, hm.1, ha, rfl⟩, by rw [hrun, ha], ?_, .inr ⟨r, rfl, es, clock, seen.push e.born, hr1, ht1, hs, h3, h4, fun b => ?_, rfl⟩, ?_, ho, hz⟩
     · rw [run_entry_at (P := P) _ t r clock seen es clock e ht1 hr1 hm.1 hs.2.1, ha]
     · rw [Bool.and_eq_true, decide_eq_true_eq, h7]
       constructor
       · rintro ⟨⟨x, hx, hxk, hxs⟩, hba⟩
         refine ⟨x, hx, hxk, ?_⟩
         rw [contains_push, hxs, Bool.false_or]
         rw [beq_eq_false_iff_ne]
         intro hb
         have := born_inj hs.2.1 hx hm.1 hb
         subst this
         rw [ha] at hxk
         injection hxk with _ hxk
         exact hba hxk.symm
       · rintro ⟨x, hx, hxk, hxs⟩
         rw [contains_push, Bool.or_eq_false_iff] at hxs
         refine ⟨⟨x, hx, hxk, hxs.1⟩, fun hb => ?_⟩
         subst hb
         have := hkey x hx hxk
         subst this
         simp at hxs
     · rw [<- h8]
       exact left_shrinks es seen e he
end
end Go.Proofs.YtmiopphcfdlneaaGreat