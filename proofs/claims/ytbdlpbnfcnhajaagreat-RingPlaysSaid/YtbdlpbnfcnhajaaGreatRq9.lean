/-
Several texts in one: Rgb Rgc Ol Rgd Apr Fqs Rj Jn Rge So Rgu Rgh.
-/
import Derived.Test.YtbdlpbnfcnhajaaGreatRq8
set_option maxRecDepth 100000
set_option maxHeartbeats 8000000
set_option linter.unusedVariables false
set_option linter.unusedSimpArgs false
namespace Go.Proofs.YtbdlpbnfcnhajaaGreat
open Go.RowKit
theorem qkF (B : Nat) (L : List Rg.St) (f : Int) (hv : Rg.qa6 L f (-1)) (h9 : L.length <= 1000) (X : World) (h : qa1 B L X) :
 Calls Tryz.prog 16 #[.pointer (some ⟨B, 0, none⟩), .int .i64 f] X fun e X' => e = .returned (.bool false) /\ X = X' := by
 have cp := fun X hX => qh (qbO B L f (-1) hv h9 X hX)
 have H := qh h
 clear h hv
 go_enter Tryz.func16, Tryz.ntmps16
 go_wp2_with (go_at_call 43; ((with_reducible refine (cp _ H.out).out.mono ?_); rintro e w1 ⟨rfl, rfl⟩))
 go_ret
 exact ⟨rfl, rfl⟩
theorem qjm (B : Nat) (L : List Rg.St) (f : Int) (hv : Rg.qa6 L f (-1)) (h9 : L.length <= 1000) (X : World) (h : qa1 B L X) :
 Calls Tryz.prog 18 #[.pointer (some ⟨B, 0, none⟩), .int .i64 f] X fun e X' => e = .returned (.bool false) /\ X = X' := by
 have cp := fun X hX => qh (qbO B L f (-1) hv h9 X hX)
 have H := qh h
 clear h hv
 go_enter Tryz.func18, Tryz.ntmps18
 go_wp2_with (go_at_call 43; ((with_reducible refine (cp _ H.out).out.mono ?_); rintro e w1 ⟨rfl, rfl⟩))
 go_ret
 exact ⟨rfl, rfl⟩
theorem qit {w : World} {b size n B : Nat} {A : Option Addr} {xs : List Value} {t : TypeId} {a : Option Addr} {m c : Nat} (h : Lies w b size A n xs) {u : Value} (h0 : xs[0]? = some u) (hu : ∀ a m c, u ≠ .slice a m c) (hB : Box w B t #[.slice a m c]) (hn : n ≠ 0) (ad : Addr) (e : A = some ad) : ad.block ≠ B := fun eb => by
 have hc := h.cell ad e hn 0 u h0
 rw [show ad.add 0 = ad from rfl] at hc
 unfold World.cell? at hc
 rw [eb, hB.is] at hc
 dsimp only at hc
 split at hc
 · cases hc
 · cases ho : ad.off with
   | zero => rw [ho] at hc; injection hc with hc; exact hu _ _ _ hc.symm
   | succ k => rw [ho] at hc; simp at hc
theorem qlD {w : World} {c m B i : Nat} {A' : Option Addr} {xs : List Value} {u : Value} (hl : Lies w w.heap.size c A' m xs) (hA : m ≠ 0 -> ∀ ad, A' = some ad -> ad.block ≠ B) : Lies (w.setCell ⟨B, i, none⟩ u) (w.setCell ⟨B, i, none⟩ u).heap.size c A' m xs := by
 refine ⟨hl.len, fun hn => by obtain ⟨ad, e, hb⟩ := hl.start hn; exact ⟨ad, e, by simpa using hb⟩, fun ad e hn j u' hj => ?_⟩
 rw [World.cell?_of_block (w := w) (by
  rw [show (ad.add j).block = ad.block from by unfold Addr.add; split <;> rfl]
  exact heap_setCell_other w ⟨B, i, none⟩ _ u (hA hn ad e))]
 exact hl.cell ad e hn j u' hj
theorem qdU.ring {w : World} {A : Option Addr} {n B : Nat} {L : List Rg.St} {a : Option Addr} {m c : Nat} (h : qdU w A n L) (hB : Box w B 57 #[.slice a m c]) (u : Value) : qdU (w.setCell ⟨B, 0, none⟩ u) A n L := by
 have hl := h.len
 refine ⟨h.len, qlD h.row fun hn ad e => ?_, fun q hq => qlD (h.qaa q hq) fun hn ad e => ?_⟩
 · cases L with
   | nil => exact absurd hl hn
   | cons q L => exact qit h.row (u := .int .i64 q.g.frame) (by
    rw [List.flatMap_cons, List.getElem?_append_left (by rw [Rg.St.len]; decide)]
    unfold Rg.St.cells
    rw [Array.getElem?_toList]
    exact q.first) (fun a m c h => by cases h) hB hn ad e
 · cases hs : q.g.qaa with
   | nil => rw [hs] at hn; exact absurd rfl hn
   | cons s l =>
    refine qit (h.qaa q hq) (u := .int .i64 s.owner) ?_ (fun a m c h => by cases h) hB hn ad e
    rw [hs]
    rfl
theorem qkE (B : Nat) (L : List Rg.St) (f : Int) (i : Nat) (hi : i < L.length) (hv : Rg.qa6 L f i) (h9 : L.length <= 1000) (X : World) (h : qa1 B L X) :
 Calls Tryz.prog 16 #[.pointer (some ⟨B, 0, none⟩), .int .i64 f] X fun e X' => e = .returned (.bool true) /\ qa1 B (L.take (i + 1)) X' /\ Only B X X' /\ ∀ Q, qbW Q B X -> qbW Q B X' := by
 have cp := fun X hX => qh (qbO B L f i hv h9 X hX)
 have H := qh h
 obtain ⟨A, c, hB, hR, hc, hm⟩ := h.box
 have k0 : X.cell? ⟨B, 0, none⟩ = some (.slice A L.length c) := hB.cell 0
 have f0 := hB.free 0
 have l0 := hB.lt
 have hi0 : (0 : Int) <= (i : Int) := by omega
 have hic : (i : Int) + 1 <= (c : Int) := by omega
 have hw1 : IntKind.i64.wrap ((i : Int) + 1) = (i : Int) + 1 := by rw [IntKind.wrap_i64]; omega
 have hw2 : wrap64 ((i : Int) + 1) = (i : Int) + 1 := IntWalk.wrap64_in _ (by omega)
 have E := qh (show qa1 B (L.take (i + 1)) (X.setCell ⟨B, 0, none⟩ (.slice A (i + 1) c)) from by
  have hl : (L.take (i + 1)).length = i + 1 := by rw [List.length_take]; omega
  refine ⟨⟨A, c, ?_, ?_, by omega, hm⟩⟩
  · rw [hl]; exact hB.put 0 _
  · rw [hl]; exact ((hR.take (i + 1) (by omega)).ring hB _))
 have O := qh (Only.set (B := B) X 0 (.slice A (i + 1) c))
 have M := qh (show ∀ Q, qbW Q B X -> qbW Q B (X.setCell ⟨B, 0, none⟩ (.slice A (i + 1) c)) from fun Q ⟨A', n', c', e, hq⟩ => by
  rw [k0] at e
  injection e with e
  injection e with e
  exact ⟨A, _, _, (hB.put 0 (.slice A (i + 1) c)).cell 0, e ▸ hq⟩)
 clear h hv hB hR hm
 go_enter Tryz.func16, Tryz.ntmps16
 go_wp2_with (go_at_call 43; ((with_reducible refine (cp _ H.out).out.mono ?_); rintro e w1 ⟨rfl, rfl⟩))
 go_ret
 exact ⟨rfl, E.out, O.out, M.out⟩
theorem qjl (B : Nat) (L : List Rg.St) (f : Int) (i : Nat) (hi : i < L.length) (hv : Rg.qa6 L f i) (h9 : L.length <= 1000) (X : World) (h : qa1 B L X) :
 Calls Tryz.prog 18 #[.pointer (some ⟨B, 0, none⟩), .int .i64 f] X fun e X' => e = .returned (.bool true) /\ qa1 B (L.drop i) X' /\ Only B X X' /\ ∀ Q, qbW Q B X -> qbW Q B X' := by
 have cp := fun X hX => qh (qbO B L f i hv h9 X hX)
 have H := qh h
 obtain ⟨A, c, hB, hR, hc, hm⟩ := h.box
 obtain ⟨ad, rfl, _⟩ := hR.row.start (by omega)
 have k0 : X.cell? ⟨B, 0, none⟩ = some (.slice (some ad) L.length c) := hB.cell 0
 have f0 := hB.free 0
 have l0 := hB.lt
 have hi0 : (0 : Int) <= (i : Int) := by omega
 have hil : (i : Int) <= (L.length : Int) := by omega
 have hci : ¬ c = i := by omega
 have E := qh (show qa1 B (L.drop i) (X.setCell ⟨B, 0, none⟩ (.slice (some (ad.add (i * 76))) (L.length - i) (c - i))) from by
  have hl : (L.drop i).length = L.length - i := List.length_drop
  refine ⟨⟨some (ad.add (i * 76)), c - i, ?_, ?_, by omega, by omega⟩⟩
  · rw [hl]; exact hB.put 0 _
  · rw [hl]; exact ((hR.drop i hi).ring hB _))
 have O := qh (Only.set (B := B) X 0 (.slice (some (ad.add (i * 76))) (L.length - i) (c - i)))
 have M := qh (show ∀ Q, qbW Q B X -> qbW Q B (X.setCell ⟨B, 0, none⟩ (.slice (some (ad.add (i * 76))) (L.length - i) (c - i))) from fun Q ⟨A', n', c', e, hq⟩ => by
  rw [k0] at e
  injection e with e
  injection e with e
  refine ⟨some (ad.add (i * 76)), _, _, (hB.put 0 (.slice (some (ad.add (i * 76))) (L.length - i) (c - i))).cell 0, fun ad' e' => ?_⟩
  injection e' with e'
  rw [<- e', add_block]
  exact hq ad e.symm)
 clear h hv hB hR hm
 go_enter Tryz.func18, Tryz.ntmps18
 go_wp2_with (go_at_call 43; ((with_reducible refine (cp _ H.out).out.mono ?_); rintro e w1 ⟨rfl, rfl⟩))
 go_ret
 exact ⟨rfl, E.out, O.out, M.out⟩
theorem qoE (g : Gm.G) (s : Value) (r : Ros.R) : Instr.fill (fun i => some (i * 76, 76)) ((Array.range (1 * 76)).map ((Value.agg Im.zero).cells[· % (Value.agg Im.zero).cells.size]!)) [(0, .agg (Im.cells g s r))] = some (Im.cells g s r) := by kernel_rfl
theorem qh5 : ∃ i, Tryz.prog.info? 40 = some i /\ i.zero = some (.agg Im.zero) /\ i.size = 76 := by
 have h1 := qaw
 have h2 := qhB
 cases hq : Tryz.prog.info? 40 with
 | none => rw [hq] at h1; cases h1
 | some ie =>
  rw [hq] at h1 h2
  exact ⟨ie, rfl, by simpa using h2, by simpa using h1⟩
theorem qps (g : Gm.G) (s : Value) (r : Ros.R) (w : World) : (Instr.buildSlice 42 1 #[(0, .agg (Im.cells g s r))]).run Tryz.prog w = .ok (.slice (some ⟨w.heap.size, 0, none⟩) 1 1) (w.alloc (.cells (Im.cells g s r) 40)) := by
 obtain ⟨ie, hq, hz, hs⟩ := qh5
 exact run_buildSlice w _ _ 1 _ _ ie (.agg Im.zero) Tryz.underlying42 hq hz (by rw [hs]; decide) (by rw [hs]; decide) (by rw [hs]; exact qoE g s r)
theorem qgd {ops : Array Oper} {Q : Exit -> Act -> World -> Prop} {o : Oper} {rest : List Oper} {a : Act} {w : World} {x : Operand} {g : Gm.G} {s : Value} {r : Ros.R} (hgd : o.guard = none) (ho : o.op = .buildSlice 42 1 #[(0, x)]) (hv : a.eval x = .agg (Im.cells g s r))
 (h : wpList Tryz.prog ops Q rest (a.put o.dst (.slice (some ⟨w.heap.size, 0, none⟩) 1 1)) (w.alloc (.cells (Im.cells g s r) 40))) : wpList Tryz.prog ops Q (o :: rest) a w := by
 refine wpList_plain hgd fun _ hK => ?_
 unfold Oper.wp execOp
 simp only [ho, List.map_toArray, List.map_cons, List.map_nil, hv, Sem.run_bind, qps, Result.andThen_ok, Sem.run_pure]
 exact hK _ _ h
theorem qma (a : Option Addr) (m c : Nat) : Tryz.prog.built 57 [(0, .slice a m c)] = some #[.slice a m c] := by kernel_rfl
theorem qkz (q : Rg.St) (hty : Gm.ty q.g) (hok : Im.Ok q.g q.r) (hnm : q.g.qaa.length <= maxLen) (X : World) (hL : Lies X X.heap.size 6 q.A q.g.qaa.length (Gm.qab q.g.qaa)) :
 Calls Tryz.prog 11 #[.agg q.arr] X fun e X' => ∃ B, e = .returned (.pointer (some ⟨B, 0, none⟩)) /\ qa1 B [q] X' /\ Below X.heap.size X X' /\ X.heap.size <= B /\ qbW (fun k => X.heap.size <= k) B X' := by
 obtain ⟨g, r, A, c⟩ := q
 dsimp only at hty hok hnm hL
 obtain ⟨X1, hX1⟩ : ∃ X1, X1 = X.alloc (.cells (Im.cells g (.slice A g.qaa.length c) r) 40) := ⟨_, rfl⟩
 have B0 := qh (show Box X1 X.heap.size 40 (Im.cells g (.slice A g.qaa.length c) r) by rw [hX1]; exact Box.made _ _ _)
 have K0 := qh (show Below X.heap.size X X1 by rw [hX1]; exact qac _ _)
 have L0 := qh ((hL.below K0.out).wider K0.out.size)
 have cm := qh (qbL g r A g.qaa.length c X1 hty rfl hnm L0.out)
 have HOK := qh hok
 have rb := fun m => qma (some ⟨m, 0, none⟩) 1 1
 unfold Rg.St.arr
 dsimp only
 clear hok hL
 go_enter Tryz.func11, Tryz.ntmps11
 go_upto_region 1 with fail
 rw [<- hX1]
 clear hX1
 go_wp2_with (first
  | ((with_reducible refine qam rfl rfl ?_); apply qay.mk rfl; (focus first | (with_reducible exact B2.out) | (with_reducible exact B0.out)); dsimp only)
  | (go_at_call 34; ((with_reducible refine ((cm).out).mono ?_); rintro x w1 ⟨⟨v, rfl, hv⟩, hb⟩; obtain rfl : v = true := hv.2 HOK.out; have B2 := qh (B0.out.below hb B0.out.lt); have L2 := qh ((L0.out.below hb).wider hb.size); have K2 := qh (K0.out.trans (hb.mono K0.out.size)); clear hb hv))
  | (with_reducible refine qgd (g := g) (s := .slice A g.qaa.length c) (r := r) rfl rfl rfl ?_)
  | (refine qaM rfl (t := 57) (vs := [(0, .slice (some ⟨_, 0, none⟩) 1 1)]) rfl rfl (rb _) ?_))
 go_ret
 obtain ⟨X2, hX2⟩ : ∃ X2, X2 = w1.alloc (.cells (Im.cells g (.slice A g.qaa.length c) r) 40) := ⟨_, rfl⟩
 have B3 : Box X2 w1.heap.size 40 (Im.cells g (.slice A g.qaa.length c) r) := by rw [hX2]; exact Box.made _ _ _
 have K3 : Below w1.heap.size w1 X2 := by rw [hX2]; exact qac _ _
 have L3 := (L2.out.below K3).wider K3.size
 have hs2 : X2.heap.size = w1.heap.size + 1 := by rw [hX2]; simp
 rw [<- hX2]
 have hL1 := L3.below (qac X2 (.cells #[.slice (some ⟨w1.heap.size, 0, none⟩) 1 1] 57))
 have K4 := qac X2 (.cells #[.slice (some ⟨w1.heap.size, 0, none⟩) 1 1] 57)
 refine ⟨w1.heap.size + 1, rfl, ⟨⟨some ⟨w1.heap.size, 0, none⟩, 1, Box.qan _ _ _ hs2.symm, ⟨rfl, ⟨?_, fun _ => ⟨_, rfl, ?_⟩, fun ad e _ j u hj => ?_⟩, fun q hq => ?_⟩, Nat.le_refl _, by unfold maxLen; omega⟩⟩, ?_, ?_, ⟨some ⟨w1.heap.size, 0, none⟩, 1, 1, (Box.qan X2 57 #[.slice (some ⟨w1.heap.size, 0, none⟩) 1 1] hs2.symm).cell 0, fun ad e => by injection e with e; subst e; exact K2.out.size⟩⟩
 · show (List.flatMap Rg.St.cells [_]).length = 1 * 76
   rw [qca (cells := Rg.St.cells) (c := 76) Rg.St.len]; rfl
 · exact Nat.lt_of_lt_of_le B3.lt K4.size
 · injection e with e
   subst e
   rw [Addr.add_lit, Nat.zero_add, ((B3.below K4 B3.lt).cell j)]
   rw [List.flatMap_cons, List.flatMap_nil, List.append_nil] at hj
   unfold Rg.St.cells Rg.St.arr at hj
   rw [Array.getElem?_toList] at hj
   exact hj
 · obtain rfl := List.mem_singleton.1 hq
   exact hL1.wider K4.size
 · exact K2.out.trans ((K3.trans (K4.mono K3.size)).mono K2.out.size)
 · have := K2.out.size; omega
section
variable {P : Program} {ops : Array Oper} {rest : List Oper} {o : Oper} {a : Act} {w : World} {Q : Exit -> Act -> World -> Prop}
theorem qgs (w : World) (ad : Addr) (ty : TypeId) (cs : List Value) (d : TypeDesc) (hc : ∀ j v, cs[j]? = some v -> w.cell? (ad.add j) = some v)
 (hu : P.underlying ty = some d) (hd : d.isRow = true) (hi : (P.info? ty).map (·.size) = some cs.length) :
 (loadVar ty ad).run P w = .ok (.agg cs.toArray) w := by
 have hl : (loadCells ad cs.length).run P w = .ok cs.toArray w := run_loadCells_list (P := P) w ad cs hc
 cases hq : P.info? ty with
 | none => simp [hq] at hi
 | some i =>
  have hs : i.size = cs.length := by simpa [hq] using hi
  have hagg : (isAgg ty).run P w = .ok true w := by
   unfold isAgg
   rw [Sem.run_bind, run_underlying hu w]
   cases d <;> simp_all
  simp [loadVar, Sem.run_bind, hagg, sizeOf, typeInfo, hq, hs, hl]
def qpA (P : Program) (ops : Array Oper) (Q : Exit -> Act -> World -> Prop) (rest : List Oper) (dst : Option Tmp) (p : Value) (size : Nat) (a : Act) (w : World) : Prop :=
 ∃ (ad : Addr) (cs : List Value), p = .pointer (some ad) /\ (∀ j v, cs[j]? = some v -> w.cell? (ad.add j) = some v) /\ cs.length = size /\ wpList P ops Q rest (a.put dst (.agg cs.toArray)) w
theorem qpA.mk {dst : Option Tmp} {p : Value} {size : Nat} {ad : Addr} {cs : List Value} (hp : p = .pointer (some ad)) (hc : ∀ j v, cs[j]? = some v -> w.cell? (ad.add j) = some v) (hs : cs.length = size) (h : wpList P ops Q rest (a.put dst (.agg cs.toArray)) w) : qpA P ops Q rest dst p size a w := ⟨ad, cs, hp, hc, hs, h⟩
theorem qcc {x : Operand} {ty : TypeId} {ad : Addr} {cs : List Value} {d : TypeDesc} (ho : o.op = .load ty x) (hx : a.eval x = .pointer (some ad)) (hc : ∀ j v, cs[j]? = some v -> w.cell? (ad.add j) = some v) (hu : P.underlying ty = some d) (hd : d.isRow = true) (hi : (P.info? ty).map (·.size) = some cs.length) :
 (execOp a.eval o).run P w = .ok (.value (.agg cs.toArray)) w := by
 unfold execOp
 simp only [ho, hx, Instr.loadAt, Instr.sureAddr, Sem.run_bind, Sem.run_pure, Result.andThen_ok, qgs w ad ty cs d hc hu hd hi]
end
theorem qa1.call {B : Nat} {L : List Rg.St} {X X' : World} (h : qa1 B L X) (hb : Below X.heap.size X X') : qa1 B L X' := by
 obtain ⟨A, c, hB, hR, h1, h2⟩ := h.box
 exact ⟨⟨A, c, hB.below hb hB.lt, hR.call hb, h1, h2⟩⟩
section
variable {ops : Array Oper} {rest : List Oper} {o : Oper} {a : Act} {w : World} {Q : Exit -> Act -> World -> Prop} {x y : Operand}
def qhh (ops : Array Oper) (Q : Exit -> Act -> World -> Prop) (rest : List Oper) (dst : Option Tmp) (p : Value) (a : Act) (w : World) : Prop :=
 ∃ (ad : Addr) (q : Rg.St), p = .pointer (some ad) /\ (∀ j, j < 76 -> w.cell? (ad.add j) = q.cells[j]?) /\ wpList Tryz.prog ops Q rest (a.put dst (.agg (Im.cells q.g (.slice q.A q.g.qaa.length q.c) q.r))) w
theorem qhh.mk {dst : Option Tmp} {p : Value} {ad : Addr} {q : Rg.St} (hp : p = .pointer (some ad)) (hc : ∀ j, j < 76 -> w.cell? (ad.add j) = q.cells[j]?) (h : wpList Tryz.prog ops Q rest (a.put dst (.agg (Im.cells q.g (.slice q.A q.g.qaa.length q.c) q.r))) w) : qhh ops Q rest dst p a w := ⟨ad, q, hp, hc, h⟩
theorem qdY (hgd : o.guard = none) (ho : o.op = .load 40 x) (h : qhh ops Q rest o.dst (a.eval x) a w) : wpList Tryz.prog ops Q (o :: rest) a w := by
 obtain ⟨ad, q, hx, hc, h⟩ := h
 refine wpList_plain hgd fun _ hK => ?_
 unfold Oper.wp
 rw [qcc (cs := q.cells) ho hx (fun j v hv => by
  have hj : j < 76 := by have := (List.getElem?_eq_some_iff.1 hv).1; rwa [q.len] at this
  rw [hc j hj]; exact hv) Tryz.underlying40 rfl (by rw [q.len]; exact qaw)]
 have e : q.cells.toArray = Im.cells q.g (.slice q.A q.g.qaa.length q.c) q.r := by unfold Rg.St.cells Rg.St.arr; rw [Array.toArray_toList]
 rw [e]
 exact hK _ _ h
def qj3 (ops : Array Oper) (Q : Exit -> Act -> World -> Prop) (rest : List Oper) (dst : Option Tmp) (p v : Value) (a : Act) (w : World) : Prop :=
 ∃ (B : Nat) (old : Array Value), p = .pointer (some ⟨B, 0, none⟩) /\ v = .agg Im.zero /\ Box w B 40 old /\ old.size = 76 /\ wpList Tryz.prog ops Q rest (a.put dst undef) (w.setRow B Im.zero)
theorem qj3.mk {dst : Option Tmp} {p v : Value} {B : Nat} {old : Array Value} (hp : p = .pointer (some ⟨B, 0, none⟩)) (hv : v = .agg Im.zero) (hB : Box w B 40 old) (ho : old.size = 76) (h : wpList Tryz.prog ops Q rest (a.put dst undef) (w.setRow B Im.zero)) : qj3 ops Q rest dst p v a w := ⟨B, old, hp, hv, hB, ho, h⟩
theorem qeR (hgd : o.guard = none) (ho : o.op = .store 40 x y) (h : qj3 ops Q rest o.dst (a.eval x) (a.eval y) a w) : wpList Tryz.prog ops Q (o :: rest) a w := by
 obtain ⟨B, old, hx, hy, hB, h76, h⟩ := h
 exact qbF hgd ho hx hy hB (by rw [Im.qar]; exact qaw) (by rw [Im.qar]; exact h76) (by kernel_rfl) h
end
theorem qmv (B : Nat) (L : List Rg.St) (f : Int) (hv : Rg.qa6 L f (-1)) (h9 : L.length <= 1000) (X : World) (h : qa1 B L X) :
 Calls Tryz.prog 20 #[.pointer (some ⟨B, 0, none⟩), .int .i64 f] X fun e X' => e = .returned (.tuple #[.agg Im.zero, .bool false]) /\ Below X.heap.size X X' := by
 have cp := fun X hX => qh (qbO B L f (-1) hv h9 X hX)
 obtain ⟨X1, hX1⟩ : ∃ X1, X1 = X.alloc (.cells Im.zero 40) := ⟨_, rfl⟩
 have hb1 : Below X.heap.size X X1 := by rw [hX1]; exact qac X _
 have B0 := qh (show Box X1 X.heap.size 40 Im.zero by rw [hX1]; exact Box.made _ _ _)
 have K0 := qh hb1
 have H := qh (h.call hb1)
 have HX := qh hX1
 clear h hv hb1 hX1
 go_enter Tryz.func20, Tryz.ntmps20
 go_upto_region 1 with (with_reducible refine qau rfl rfl ?_)
 rw [<- HX.out]
 go_wp2_with (first
  | (go_at_call 43; ((with_reducible refine (cp _ H.out).out.mono ?_); rintro e w1 ⟨rfl, rfl⟩))
  | (refine qaM rfl (t := 40) (vs := []) rfl rfl qeo ?_)
  | ((with_reducible refine qeR rfl rfl ?_); apply qj3.mk rfl rfl; (focus (with_reducible exact B0.out)); (focus exact Im.qar)))
 refine bodyPost_ret (v := .tuple #[.agg Im.zero, .bool false]) ?_ ?_ ?_
 · exact results_cell_tmp (p := 4) (q := 5) rfl _ _ _ _ Im.zero _ rfl (B0.out.row _) Tryz.underlying40 rfl (by rw [Im.qar]; exact qaw)
 · rfl
 · exact ⟨rfl, Below.setRow' K0.out (Nat.le_refl _) _⟩
theorem qmu (B : Nat) (L : List Rg.St) (f : Int) (i : Nat) (hi : i < L.length) (hv : Rg.qa6 L f i) (h9 : L.length <= 1000) (X : World) (h : qa1 B L X) :
 Calls Tryz.prog 20 #[.pointer (some ⟨B, 0, none⟩), .int .i64 f] X fun e X' => e = .returned (.tuple #[.agg (L[i]).arr, .bool true]) /\ Below X.heap.size X X' := by
 have cp := fun X hX => qh (qbO B L f i hv h9 X hX)
 obtain ⟨X1, hX1⟩ : ∃ X1, X1 = X.alloc (.cells Im.zero 40) := ⟨_, rfl⟩
 have hb1 : Below X.heap.size X X1 := by rw [hX1]; exact qac X _
 have B0 := qh (show Box X1 X.heap.size 40 Im.zero by rw [hX1]; exact Box.made _ _ _)
 have K0 := qh hb1
 have H := qh (h.call hb1)
 have HX := qh hX1
 clear h hv hb1 hX1
 obtain ⟨A, c, hB, hR, _, _⟩ := H.out.box
 obtain ⟨ad, rfl, _⟩ := hR.row.start (by omega)
 have k0 : X1.cell? ⟨B, 0, none⟩ = some (.slice (some ad) L.length c) := hB.cell 0
 have Q := qh (qeb hR.row rfl i hi)
 have hil : (i : Int) < (L.length : Int) := by omega
 have hnn : ¬ (i : Int) < 0 := by omega
 have hq : ((L[i]).arr) = Im.cells (L[i]).g (.slice (L[i]).A (L[i]).g.qaa.length (L[i]).c) (L[i]).r := rfl
 have HQ := qh hq
 clear hB hR hq
 generalize hqi : L[i] = q at *
 clear hqi
 generalize L.length = n at *
 go_enter Tryz.func20, Tryz.ntmps20
 go_upto_region 1 with (with_reducible refine qau rfl rfl ?_)
 rw [<- HX.out]
 go_wp2_with (first
  | (go_at_call 43; ((with_reducible refine (cp _ H.out).out.mono ?_); rintro e w1 ⟨rfl, rfl⟩))
  | (refine qdY rfl rfl ?_; apply qhh.mk (q := q) rfl (fun j hj => Q.out j hj))
  | ((with_reducible refine qaE rfl rfl ?_); apply qb4.mk rfl rfl; (focus (with_reducible exact B0.out)); (focus exact Im.qar); (focus rfl)))
 refine bodyPost_ret (v := .tuple #[.agg q.arr, .bool true]) ?_ ?_ ?_
 · exact results_cell_tmp (p := 4) (q := 5) rfl _ _ _ _ q.arr _ rfl (B0.out.row _) Tryz.underlying40 rfl (by rw [q.size]; exact qaw)
 · rfl
 · exact ⟨rfl, Below.setRow' K0.out (Nat.le_refl _) _⟩
open Go Go.RowKit Go.Shelf
theorem qeA {P : Program} (w : World) {t ty e : TypeId} {i : TypeInfo} {z : Value} {size bytes : Nat} (ht : P.underlying t = some (.slice e)) (hi : P.info? e = some i) (hz : i.zero = some z) (hs : i.size = size) (hby : i.bytes = bytes) (hzs : z.cells.size = size) (hsz : 0 < size)
 {base n : Nat} {v : Value} {xs : List Value} (ho : w.ownsRow base e size v n xs) {A : Option Addr} {m c : Nat} {news : List Value} (hl : Lies w w.heap.size size A m news) (h1 : ∀ u ∈ news, u.oneCell' = true) (h63 : n + m <= maxLen) (hb : (n + m) * bytes <= 140737488355328) (hbase : base <= w.heap.size) :
 ∃ A' c' w', (Builtin.append_ #[t, t] ty #[v, .slice A m c]).run P w = .ok (.slice A' (n + m) c') w' /\ w'.ownsRow base e size (.slice A' (n + m) c') (n + m) (xs ++ news) /\ w.grownBy w' v.ownBlock /\ ((Value.slice A' (n + m) c').ownBlock = v.ownBlock \/ (Value.slice A' (n + m) c').ownBlock = some w.heap.size) := by
 have hrun : ∃ v' w', (Builtin.append_ #[t, t] ty #[v, .slice A m c]).run P w = .ok v' w' /\ w'.ownsRow base e size v' (n + m) (xs ++ news) /\ w.grownBy w' v.ownBlock /\ (v'.ownBlock = v.ownBlock \/ v'.ownBlock = some w.heap.size) := by
  cases A with
  | none =>
   have hm : m = 0 := by
    by_cases hm : m = 0
    · exact hm
    · obtain ⟨ad, he, _⟩ := hl.start hm
      cases he
   subst hm
   have hn : news = [] := List.eq_nil_of_length_eq_zero (by simpa using hl.len)
   subst hn
   exact ⟨_, w, qdc w ht hi ho c, by simpa using ho, World.grownBy.refl w _, .inl rfl⟩
  | some ad =>
   have hcells : ∀ j u, news[j]? = some u -> w.cell? (ad.add j) = some u := fun j u hu => by
    by_cases hm : m = 0
    · subst hm
      have hn : news = [] := List.eq_nil_of_length_eq_zero (by simpa using hl.len)
      subst hn
      simp at hu
    · exact hl.cell ad rfl hm j u hu
   obtain ⟨v', w', hr, h2, h3, _, h5⟩ := run_append_own_at (P := P) w base t ty e i z size bytes ht hi hz hs hby hzs hsz v n xs ho ad m c news hl.len hcells h1 h63 hb hbase
   exact ⟨v', w', hr, h2, h3, h5⟩
 obtain ⟨v', w', hr, h2, h3, h5⟩ := hrun
 obtain ⟨A', c', rfl⟩ := qck h2
 exact ⟨A', c', w', hr, h2, h3, h5⟩
theorem qbY {B0 : Nat} {W : World} {o : Oper} {a : Act} {K : Act -> Prop} {B : Nat} {g : Gm.G} {s : Value} {r : Ros.R} {x : Operand} (ho : o.op = .load 40 x) (hx : a.eval x = .pointer (some ⟨B, 0, none⟩)) (hB : ∀ q : Ext B0 W, Box q.w B 40 (Im.cells g s r)) (h : K (a.put o.dst (.agg (Im.cells g s r)))) :
 o.quiet Tryz.prog a (fun w' => ∃ q : Ext B0 W, w' = q.w) K :=
 ⟨_, fun w hw => by obtain ⟨q, e'⟩ := hw; subst e'; unfold Oper.quietAt; rw [qcb ho hx (hB q) Tryz.underlying40 rfl (by rw [Im.qag]; exact qaw)]; exact ⟨rfl, rfl⟩, h⟩
end Go.Proofs.YtbdlpbnfcnhajaaGreat
namespace Rj
open Go Go.RowKit Rz
def done (n0 : Nat) (listed : Array Bool) : Nat -> Bool := fun j => decide (n0 <= j) && listed.getD j false
def also (S : Nat -> Bool) (i : Nat) : Nat -> Bool := fun j => S j || j == i
structure Inv (l : List Oper) (n0 n : Nat) (u : Nat -> Value) (V : Nat -> (Nat -> Value) -> World -> Prop) (D : (Nat -> Bool) -> (Nat -> Value) -> World -> Prop) (K : World -> Prop) (a0 : Act) (listed : Array Bool) (a : Act) (w : World) : Prop where
 head : HeadInv .any l.toArray n listed
 shape : ∃ vm : Nat -> Value, Rx.Shape l (fun j => if j < n0 then u j else vm j) a0 (fun j => listed.getD j false) a /\ (∀ j, n0 <= j -> j < n -> listed.getD j false = true -> V j vm w) /\ D (done n0 listed) vm w
 world : K w
section
variable {P : Program} {l : List Oper} {n0 n : Nat} {K : World -> Prop} {V : Nat -> (Nat -> Value) -> World -> Prop} {D : (Nat -> Bool) -> (Nat -> Value) -> World -> Prop} {A : Nat -> Act} {u : Nat -> Value}
theorem all_ {Q : Exit -> Act -> World -> Prop} (hr : Run P K (l.take n0) A u) (ok : Ok n0 n l) (hDc : ∀ S vm vm' w, (∀ j, n0 <= j -> vm j = vm' j) -> D S vm w -> D S vm' w) (hVd : ∀ j vm vm' w, n0 <= j -> j < n -> (∀ k, k = j \/ dep l j k = true -> vm k = vm' k) -> V j vm w -> V j vm' w)
 (hmid : ∀ i o, n0 <= i -> i < n -> l[i]? = some o -> ∀ (S : Nat -> Bool) (vm : Nat -> Value) w, K w -> S i = false -> (∀ j, n0 <= j -> j < n -> dep l i j = true -> S j = true) -> (∀ j, n0 <= j -> j < n -> S j = true -> V j vm w) -> D S vm w -> Gives P o (qaA ((l.drop n0).take (n - n0)) n0 vm (A n0)) w (fun v w' => V i (upd vm i v) w' /\ K w' /\ (∀ j, n0 <= j -> j < n -> j ≠ i -> S j = true -> V j vm w -> V j vm w') /\ D (also S i) (upd vm i v) w'))
 (htail : ∀ (S : Nat -> Bool) (vm : Nat -> Value) w, K w -> (∀ j, n0 <= j -> j < n -> S j = true) -> (∀ j, n0 <= j -> j < n -> V j vm w) -> D S vm w -> wpList P l.toArray Q (l.drop n) (qaA ((l.drop n0).take (n - n0)) n0 vm (A n0)) w) :
 ∀ (m : Nat) (listed : Array Bool) (a : Act) (w : World), Inv l n0 n u V D K (A 0) listed a w -> Rx.unl (fun i => listed.getD i false) n = m -> wpAny P .any l.toArray Q (m + (l.length - n)) listed a w := by
 have hll : l.toArray.size = l.length := by simp
 have shapeA : ∀ vm : Nat -> Value, Rx.Shape l (fun j => if j < n0 then u j else vm j) (A 0) (fun j => decide (j < n)) (qaA ((l.drop n0).take (n - n0)) n0 vm (A n0)) := fun vm => by
  have h := qdP ok (v := fun j => if j < n0 then u j else vm j) (a0 := A 0) (n - n0) n0 (A n0) (by have := ok.le; omega) (hr.shape ok (fun j hj => by simp [hj]) n0 (Nat.le_refl _))
  rw [qcX (v := fun j => if j < n0 then u j else vm j) (v' := vm) _ _ _ (fun j hj => by simp; intro h; omega)] at h
  exact h
 intro m
 induction m with
 | zero =>
  intro listed a w inv hm
  have hall := Rx.qb5 (f := fun i => listed.getD i false) (n := n) hm
  have e : listed = Array.replicate n true ++ Array.replicate (l.length - n) false := by
   apply Array.ext
   · rw [inv.head.size]; simp; have := ok.lt; omega
   · intro i h1 h2
     have hs := inv.head.size
     by_cases hin : i < n
     · have := hall i hin
       simp [h1] at this
       rw [Array.getElem_append_left (by simpa using hin)]
       simpa using this
     · have := inv.head.tail i (by omega) (by rw [<- hs]; exact h1)
       simp [h1] at this
       rw [Array.getElem_append_right (by simp; omega)]
       simpa using this
  obtain ⟨vm, hs, hV, hD⟩ := inv.shape
  have ea : a = qaA ((l.drop n0).take (n - n0)) n0 vm (A n0) := hs.ext (shapeA vm) fun j o hj => by
   have hjl : j < l.length := (List.getElem?_eq_some_iff.1 hj).1
   by_cases hjn : j < n
   · rw [hall j hjn]; simp [hjn]
   · have := inv.head.tail j (by omega) (by rw [hll]; exact hjl)
     rw [getD_both this]; simp [hjn]
  have hw := htail _ vm w inv.world (fun j h1 h2 => (by unfold done; rw [hall j h2]; simp [h1])) (fun j h1 h2 => hV j h1 h2 (hall j h2)) hD
  rw [<- ea] at hw
  have hdl : (l.drop n).length = l.length - n := by simp
  have := wpAny_of_seq (md := .any) (Q' := Q) (l.drop n) n listed a w (fun j => by simp [List.getElem?_drop]) (by rw [hdl, e]; exact ok.seq) hw
  rw [hdl] at this
  rw [Nat.zero_add]
  exact this
 | succ m ih =>
  intro listed a w inv hm
  rw [show m + 1 + (l.length - n) = (m + (l.length - n)) + 1 by omega]
  -- somebody of the head has not been
  have hex : ∃ i, i < n /\ listed.getD i false = false := by
   refine Classical.byContradiction fun hno => ?_
   have : ∀ k, k <= n -> Rx.unl (fun i => listed.getD i false) k = 0 := by
    intro k
    induction k with
    | zero => intro _; rfl
    | succ k ihk =>
     intro hk
     unfold Rx.unl
     rw [ihk (by omega)]
     cases h : listed.getD k false
     · exact absurd ⟨k, by omega, h⟩ hno
     · simp
   have := this n (Nat.le_refl _)
   omega
  obtain ⟨i0, hi0, hun0⟩ := hex
  have his0 : i0 < listed.size := by rw [inv.head.size, hll]; have := ok.lt; omega
  refine ⟨fun hr' => ?_, fun i hi => ?_⟩
  · exfalso
    have key : ∀ i, i < n -> listed.getD i false = true := by
     intro i
     induction i using Nat.strongRecOn with
     | _ i ihi =>
      intro hin
      cases hu : listed.getD i false
      · have hil : i < l.length := by have := ok.lt; omega
        have ho : l[i]? = some (l[i]'hil) := List.getElem?_eq_getElem hil
        have his : i < listed.size := by rw [inv.head.size, hll]; exact hil
        have : i ∈ Region.ready .any l.toArray listed := mem_ready.2 ⟨getD_in his hu, _, (by rw [List.getElem?_toArray]; exact ho), fun e he hb => by
         have hd := ok.down i _ hin ho e he hb
         exact ihi e.on hd (by omega)⟩
        rw [hr'] at this; cases this
      · rfl
    rw [key i0 hi0] at hun0; cases hun0
  · have hin : i < n := by
     refine Classical.byContradiction fun hge => ?_
     exact tail_waits ok.sink ok.chain (by rw [hll]; exact ok.lt) inv.head (n - i0) i0 rfl hi0 (getD_in his0 hun0) i (by omega) hi
    obtain ⟨hun, o, ho', hdeps⟩ := mem_ready.1 hi
    have ho : l[i]? = some o := by simpa using ho'
    have hil : i < l.length := (List.getElem?_eq_some_iff.1 ho).1
    have his : i < listed.size := by rw [inv.head.size, hll]; exact hil
    have hun' : listed.getD i false = false := getD_both hun
    have getset : ∀ j, (listed.setIfInBounds i true).getD j false = (listed.getD j false || j == i) := fun j => by
     by_cases hji : j = i
     · subst hji; simp [his]
     · rw [getD_set_ne false (fun e => hji e.symm)]; simp [hji]
    have hun2 : Rx.unl (fun j => (listed.setIfInBounds i true).getD j false) n = m := by
     have := Rx.qcL (f := fun j => listed.getD j false) (g := fun j => (listed.setIfInBounds i true).getD j false) (i := i) hun' (by rw [getset]; simp) (fun j hj => by rw [getset]; simp [hj]) hin
     omega
    obtain ⟨vm, hs, hV, hD⟩ := inv.shape
    have next : ∀ v w', (i < n0 -> v = u i) -> (n0 <= i -> V i (upd vm i v) w') -> K w' -> (∀ j, n0 <= j -> j < n -> j ≠ i -> done n0 listed j = true -> V j vm w -> V j vm w') -> D (done n0 (listed.setIfInBounds i true)) (upd vm i v) w' -> wpAny P .any l.toArray Q (m + (l.length - n)) (listed.setIfInBounds i true) (a.put o.dst v) w' := fun v w' h1 h2 hKw hst hDn => by
     refine ih _ _ _ ⟨inv.head.set hi hin, ⟨upd vm i v, ?_, fun j hj1 hj2 hl => ?_, hDn⟩, hKw⟩ hun2
     · have hs' := qdL (v' := fun j => if j < n0 then u j else upd vm i v j) hs fun j hj => by
        by_cases hjn : j < n0
        · simp [hjn]
        · have : j ≠ i := fun e => by subst e; rw [hun'] at hj; cases hj
          simp [hjn, this, upd]
       have hp := hs'.put ok.dist ho
       have ev : (if i < n0 then u i else upd vm i v i) = v := by
        by_cases hin0 : i < n0
        · simp [hin0, h1 hin0]
        · simp [hin0, upd]
       rw [ev] at hp
       exact hp.congr fun j o hj => (getset j).symm
     · by_cases hji : j = i
       · subst hji; exact h2 hj1
       · rw [getset] at hl
         have hlj : listed.getD j false = true := by simpa [hji] using hl
         refine hVd j vm _ w' hj1 hj2 (fun k hk => ?_) (hst j hj1 hj2 hji (by unfold done; rw [hlj]; simp [hj1]) (hV j hj1 hj2 hlj))
         have hki : k ≠ i := fun e => by
          subst e
          rcases hk with rfl | hk
          · exact hji rfl
          · have hjl : j < l.length := by have := ok.lt; omega
            have hoj : l[j]? = some (l[j]'hjl) := List.getElem?_eq_getElem hjl
            obtain ⟨e, he, hb, hon⟩ := qcC hoj hk
            have := inv.head.closed j _ (by rw [List.getElem?_toArray]; exact hoj) hlj e he hb
            rw [hon, hun'] at this; cases this
         simp [upd, hki]
    have before : ∀ j, dep l i j = true -> listed.getD j false = true := fun j hd => by
     obtain ⟨e, he, hb, rfl⟩ := qcC ho hd
     exact hdeps e he hb
    unfold wpOp
    simp only [ho', Region.wanted, ok.guard i o hin ho, if_true]
    refine .inl ?_
    by_cases hi0' : i < n0
    · have ho2 : (l.take n0)[i]? = some o := by rw [List.getElem?_take, if_pos hi0']; exact ho
      have exec : execOp a.eval o = execOp (A i).eval o := execOp_congr o (fun cs b => Region.noSelect_spec ok.sel i o cs b ho') fun x hx => by
       cases x with
       | tmp t =>
        have ht : t ∈ o.looksAt l.toArray := List.mem_append_left _ (List.mem_filterMap.2 ⟨.tmp t, by simpa using hx, rfl⟩)
        have e := hs.same (hr.shape ok (v := fun j => if j < n0 then u j else vm j) (fun j hj => by simp [hj]) i (by omega)) (t := t) fun j oj hj hd => by
         by_cases hji : j = i
         · subst hji; rw [hun']; simp
         · by_cases hjn : j < n
           · have hdp := ok.looks i j o oj t hin hjn ho hj (fun e => hji e.symm) hd ht
             obtain ⟨e, he, hb, hon⟩ := qcC ho hdp
             have := ok.down i o hin ho e he hb
             rw [before j hdp]; simp; omega
           · have hjl : j < l.length := (List.getElem?_eq_some_iff.1 hj).1
             rw [getD_both (inv.head.tail j (by omega) (by rw [hll]; exact hjl))]; simp; omega
        simp only [Act.eval, Array.getD_eq_getD_getElem?, e]
       | const => rfl
       | global => rfl
       | func => rfl
      have hrun := hr.run i o ho2 w inv.world
      have hg : Gives P o (A i) w (fun v w' => v = u i /\ w' = w) := ⟨by unfold gives; rw [hrun]; exact ⟨rfl, rfl⟩⟩
      refine (hg.congr exec).wp fun v w' ⟨hv, hw⟩ => ?_
      subst hw
      refine next v w' (fun _ => hv) (fun h => absurd h (by omega)) inv.world (fun j _ _ _ _ h => h) ?_
      have eS : done n0 (listed.setIfInBounds i true) = done n0 listed := funext fun j => by
       unfold done
       rw [getset]
       by_cases hj : n0 <= j
       · have : (j == i) = false := by simp; omega
         simp [this]
       · simp [hj]
      rw [eS]
      exact hDc _ _ _ _ (fun j hj => by simp [upd, show j ≠ i by omega]) hD
    · have exec : execOp a.eval o = execOp (qaA ((l.drop n0).take (n - n0)) n0 vm (A n0)).eval o := execOp_congr o (fun cs b => Region.noSelect_spec ok.sel i o cs b ho') fun x hx => by
       cases x with
       | tmp t =>
        have ht : t ∈ o.looksAt l.toArray := List.mem_append_left _ (List.mem_filterMap.2 ⟨.tmp t, by simpa using hx, rfl⟩)
        by_cases hself : o.dst = some t
        · -- it reads what it writes: told by the check to be nobody else's
          exact (ok.self i o t hin ho hself ht).elim
        · have e := hs.same (shapeA vm) (t := t) fun j oj hj hd => by
           have hji : j ≠ i := fun e => by subst e; rw [ho] at hj; injection hj with hj; subst hj; exact hself hd
           by_cases hjn : j < n
           · rw [before j (ok.looks i j o oj t hin hjn ho hj (fun e => hji e.symm) hd ht)]; simp [hjn]
           · have hjl : j < l.length := (List.getElem?_eq_some_iff.1 hj).1
             rw [getD_both (inv.head.tail j (by omega) (by rw [hll]; exact hjl))]; simp [hjn]
          simp only [Act.eval, Array.getD_eq_getD_getElem?, e]
       | const => rfl
       | global => rfl
       | func => rfl
      refine ((hmid i o (by omega) hin ho (done n0 listed) vm w inv.world (by unfold done; rw [hun']; simp) (fun j h1 h2 hd => (by unfold done; rw [before j hd]; simp [h1])) (fun j h1 h2 hd => hV j h1 h2 (by unfold done at hd; simp at hd; simpa using hd.2)) hD).congr exec).wp fun v w' ⟨h1, h2, h3, h4⟩ => ?_
      refine next v w' (fun h => absurd h (by omega)) (fun _ => h1) h2 h3 ?_
      have eS : done n0 (listed.setIfInBounds i true) = also (done n0 listed) i := funext fun j => by
       unfold done also
       rw [getset]
       by_cases hji : j = i
       · subst hji; simp; omega
       · have hb : (j == i) = false := by simpa using hji
         rw [hb, Bool.or_false, Bool.or_false]
      rw [eS]
      exact h4
end
theorem qel {P : Program} {l : List Oper} {a : Act} {w : World} {id : Nat} {Q : Exit -> Act -> World -> Prop} (hm : P.follows .mixedOrders = true) (n0 n : Nat) (hB : okB n0 n l = true) (K : World -> Prop) (V : Nat -> (Nat -> Value) -> World -> Prop) (D : (Nat -> Bool) -> (Nat -> Value) -> World -> Prop) (hK : K w.drew)
 (hD0 : ∀ vm, D (fun _ => false) vm w.drew) (hDc : ∀ S vm vm' w, (∀ j, n0 <= j -> vm j = vm' j) -> D S vm w -> D S vm' w)
 (hVd : ∀ j vm vm' w, n0 <= j -> j < n -> (∀ k, k = j \/ dep l j k = true -> vm k = vm' k) -> V j vm w -> V j vm' w)
 (h : qeD P K (fun A => (qjG (fun i o => ∀ (S : Nat -> Bool) (vm : Nat -> Value) w, K w -> S i = false -> (∀ j, n0 <= j -> j < n -> depO o j = true -> S j = true) -> (∀ j, n0 <= j -> j < n -> S j = true -> V j vm w) -> D S vm w -> Gives P o (qaA ((l.drop n0).take (n - n0)) n0 vm A) w (fun v w' => V i (upd vm i v) w' /\ K w' /\ (∀ j, n0 <= j -> j < n -> j ≠ i -> S j = true -> V j vm w -> V j vm w') /\ D (also S i) (upd vm i v) w')) ((l.drop n0).take (n - n0)) n0) /\
  (∀ (S : Nat -> Bool) (vm : Nat -> Value) w, K w -> (∀ j, n0 <= j -> j < n -> S j = true) -> (∀ j, n0 <= j -> j < n -> V j vm w) -> D S vm w -> wpList P l.toArray Q (l.drop n) (qaA ((l.drop n0).take (n - n0)) n0 vm A) w)) (l.take n0) a) : (Code.region id l.toArray true).wp P Q a w := by
 have ok := Ok.of hB
 obtain ⟨A, u, hr, hA, hmid, htail⟩ := qds _ _ h
 have hlen : (l.take n0).length = n0 := by simp; have := ok.lt; have := ok.le; omega
 rw [hlen] at hmid htail
 have hmid := fun i o (h1 : n0 <= i) (h2 : i < n) (ho : l[i]? = some o) => (by
  have := qeN _ _ hmid (i - n0) o (by rw [List.getElem?_take, if_pos (by omega), List.getElem?_drop, show n0 + (i - n0) = i by omega]; exact ho)
  rw [show n0 + (i - n0) = i by omega] at this
  exact fun S vm w hK hi hS hV hD => this S vm w hK hi (fun j h1 h2 hd => hS j h1 h2 (by unfold dep; rw [ho]; exact hd)) hV hD : ∀ (S : Nat -> Bool) (vm : Nat -> Value) w, K w -> S i = false -> (∀ j, n0 <= j -> j < n -> dep l i j = true -> S j = true) -> (∀ j, n0 <= j -> j < n -> S j = true -> V j vm w) -> D S vm w -> Gives P o (qaA ((l.drop n0).take (n - n0)) n0 vm (A n0)) w (fun v w' => V i (upd vm i v) w' /\ K w' /\ (∀ j, n0 <= j -> j < n -> j ≠ i -> S j = true -> V j vm w -> V j vm w') /\ D (also S i) (upd vm i v) w'))
 refine wp_region_any hm ?_
 have hinv : Inv l n0 n u V D K (A 0) (Array.replicate l.toArray.size false) a w.drew := by
  refine ⟨⟨by simp, fun j oj _ hl => (by rw [getD_replicate_false] at hl; cases hl), fun t _ ht => getD_in (by simpa using ht) (getD_replicate_false _ _)⟩, ⟨fun _ => undef, ?_, fun j _ _ hl => (by rw [getD_replicate_false] at hl; cases hl), ?_⟩, hK⟩
  · rw [hA]
    exact Rx.Shape.start.congr fun j o _ => by rw [getD_replicate_false]
  · have e : done n0 (Array.replicate l.toArray.size false) = fun _ => false := funext fun j => by unfold done; rw [getD_replicate_false]; simp
    rw [e]
    exact hD0 _
 have := all_ (Q := Q) hr ok hDc hVd hmid htail n _ _ _ hinv (qh0 n _ fun i _ => getD_replicate_false _ _)
 rw [show n + (l.length - n) = l.toArray.size by have := ok.lt; simp; omega] at this
 exact this
end Rj
namespace Go.Proofs.YtbdlpbnfcnhajaaGreat
open Go.RowKit Go.Shelf
theorem qgX {P : Program} {o : Oper} {a : Act} {w : World} {t e : TypeId} {i : TypeInfo} {z : Value} {size bytes : Nat} {x y : Operand} {v : Value} {base n : Nat} {xs : List Value} {A : Option Addr} {m c : Nat} {news : List Value}
 (ho : o.op = .call { callee := .builtin .append, args := #[x, y], argTypes := #[t, t] }) (hx : a.eval x = v) (hy : a.eval y = .slice A m c) (ht : P.underlying t = some (.slice e)) (hi : P.info? e = some i) (hz : i.zero = some z) (hs : i.size = size) (hby : i.bytes = bytes) (hzs : z.cells.size = size) (hsz : 0 < size)
 (hown : w.ownsRow base e size v n xs) (hl : Lies w w.heap.size size A m news) (h1 : ∀ u ∈ news, u.oneCell' = true) (h63 : n + m <= maxLen) (hb47 : (n + m) * bytes <= 140737488355328) (hbase : base <= w.heap.size) :
 ∃ A' c' w', (execOp a.eval o).run P w = .ok (.value (.slice A' (n + m) c')) w' /\ w'.ownsRow base e size (.slice A' (n + m) c') (n + m) (xs ++ news) /\ w.grownBy w' v.ownBlock /\ ((Value.slice A' (n + m) c').ownBlock = v.ownBlock \/ (Value.slice A' (n + m) c').ownBlock = some w.heap.size) := by
 have hrun : ∃ v' w', (Builtin.append_ #[t, t] o.type #[v, .slice A m c]).run P w = .ok v' w' /\ w'.ownsRow base e size v' (n + m) (xs ++ news) /\ w.grownBy w' v.ownBlock /\ (v'.ownBlock = v.ownBlock \/ v'.ownBlock = some w.heap.size) := by
  cases A with
  | none =>
   have hm : m = 0 := by
    by_cases hm : m = 0
    · exact hm
    · obtain ⟨ad, he, _⟩ := hl.start hm
      cases he
   subst hm
   have hn : news = [] := List.eq_nil_of_length_eq_zero (by simpa using hl.len)
   subst hn
   exact ⟨_, w, qdc w ht hi hown c, by simpa using hown, World.grownBy.refl w _, .inl rfl⟩
  | some ad =>
   have hcells : ∀ j u, news[j]? = some u -> w.cell? (ad.add j) = some u := fun j u hu => by
    by_cases hm : m = 0
    · subst hm
      have hn : news = [] := List.eq_nil_of_length_eq_zero (by simpa using hl.len)
      subst hn
      simp at hu
    · exact hl.cell ad rfl hm j u hu
   obtain ⟨v', w', hr, h2, h3, _, h5⟩ := run_append_own_at (P := P) w base t o.type e i z size bytes ht hi hz hs hby hzs hsz _ n xs hown ad m c news hl.len hcells h1 h63 hb47 hbase
   exact ⟨v', w', hr, h2, h3, h5⟩
 obtain ⟨v', w', hr, h2, h3, h5⟩ := hrun
 obtain ⟨A', c', rfl⟩ := qck h2
 refine ⟨A', c', w', ?_, h2, h3, h5⟩
 unfold execOp
 simp only [ho, resolve, invoke, builtin, Sem.run_bind, Sem.run_pure, Result.andThen_ok, List.map_toArray, List.map_cons, List.map_nil, hx, hy, hr]
theorem qhW {B : Nat} {w0 w w' : World} {row : Option Nat} (h : Below B w0 w) (hg : w.grownBy w' row) (hr : ∀ r, row = some r -> B <= r) (hB : B <= w0.heap.size) : Below B w0 w' :=
 ⟨hg.os.trans h.os, hg.tape.trans h.tape, hg.output.trans h.output, Nat.le_trans h.size hg.size, fun i hi => (hg.block i (Nat.lt_of_lt_of_le hi (Nat.le_trans hB h.size)) (fun e => by have := hr i e.symm; omega)).trans (h.block i hi)⟩
theorem qlt {w : World} {base : Nat} {e : TypeId} {size n : Nat} {v : Value} {xs : List Value} (h : w.ownsRow base e size v n xs) : ∀ r, v.ownBlock = some r -> base <= r := fun r hr => by
 obtain ⟨_, ⟨rfl, _⟩ | ⟨g, cap, cur, rfl, hbg, _⟩⟩ := h
 · cases hr
 · have e' : g = r := by injection hr
   omega
theorem qfF {P : Program} {o : Oper} {a : Act} {w : World} {t e : TypeId} {i : TypeInfo} {z : Value} {size bytes : Nat} {x y : Operand} {v : Value} {base n : Nat} {xs : List Value} {A : Option Addr} {m c : Nat} {news : List Value} {R : Value -> World -> Prop}
 (ho : o.op = .call { callee := .builtin .append, args := #[x, y], argTypes := #[t, t] }) (hx : a.eval x = v) (hy : a.eval y = .slice A m c) (ht : P.underlying t = some (.slice e)) (hi : P.info? e = some i) (hz : i.zero = some z) (hs : i.size = size) (hby : i.bytes = bytes) (hzs : z.cells.size = size) (hsz : 0 < size)
 (hown : w.ownsRow base e size v n xs) (hl : Lies w w.heap.size size A m news) (h1 : ∀ u ∈ news, u.oneCell' = true) (h63 : n + m <= maxLen) (hb47 : (n + m) * bytes <= 140737488355328) (hbase : base <= w.heap.size)
 (h : ∀ A' c' w', w'.ownsRow base e size (.slice A' (n + m) c') (n + m) (xs ++ news) -> w.grownBy w' v.ownBlock -> ((Value.slice A' (n + m) c').ownBlock = v.ownBlock \/ (Value.slice A' (n + m) c').ownBlock = some w.heap.size) -> R (.slice A' (n + m) c') w') : Rz.Gives P o a w R := by
 obtain ⟨A', c', w', hr, h2, h3, h5⟩ := qgX ho hx hy ht hi hz hs hby hzs hsz hown hl h1 h63 hb47 hbase
 exact qaX hr (h A' c' w' h2 h3 h5)
theorem qjw {w : World} {base n : Nat} {e : TypeId} {size : Nat} {v : Value} {xs : List Value} (h : w.ownsRow base e size v n xs) : v.ownBlock ≠ some w.heap.size := by
 obtain ⟨_, ⟨rfl, _⟩ | ⟨g, cap, cur, rfl, _, hg, _⟩⟩ := h
 · intro h; cases h
 · intro he
   have e' : g = w.heap.size := by injection he
   have := (Array.getElem?_eq_some_iff.1 hg).1
   omega
theorem qfm {P : Program} {K : World -> Prop} {M T : Act -> Prop} {a : Act} (R : Act -> Prop) (hR : R a) (hM : ∀ A, R A -> M A) (hT : T a) : Rz.qeD P K (fun A => M A /\ T A) [] a := ⟨hM a hR, hT⟩
open Go.RowKit
theorem qcV : ∃ i, Tryz.prog.info? 40 = some i /\ i.zero = some (.agg Im.zero) /\ i.size = 76 /\ i.bytes <= 100000 := by
 have h3 : (Tryz.prog.info? 40).all (fun i => decide (i.bytes <= 100000)) = true := by kernel_rfl
 obtain ⟨i, h, hz, hs⟩ := qh5
 rw [h] at h3
 exact ⟨i, h, hz, hs, of_decide_eq_true h3⟩
theorem qoY {w : World} {base n size c : Nat} {e : TypeId} {A : Option Addr} {xs : List Value} (ho : w.ownsRow base e size (.slice A n c) n xs) : n <= c /\ c <= maxLen := by
 obtain ⟨_, ⟨e, h0⟩ | ⟨g, cap, cur, e, _, _, hc, hm, _⟩⟩ := ho
 · injection e with _ _ e; subst e; exact ⟨by omega, Nat.zero_le _⟩
 · injection e with _ _ e; subst e; exact ⟨hc, hm⟩
theorem qci (q : Rg.St) : ∀ u ∈ q.cells, u.oneCell' = true := by
 have h := qn0 q.g (.slice q.A q.g.qaa.length q.c) q.r rfl
 intro u hu
 exact (Array.all_eq_true_iff_forall_mem.1 h) u (Array.mem_toList_iff.1 hu)
theorem qfv (L : List Rg.St) : ∀ u ∈ L.flatMap Rg.St.cells, u.oneCell' = true := fun u hu => by
 obtain ⟨q, _, h⟩ := List.mem_flatMap.1 hu
 exact qci q u h
theorem qmD {W : World} {S n size : Nat} {t : TypeId} {xs : List Value} (h : Box W S t xs.toArray) (hl : xs.length = n * size) : Lies W W.heap.size size (some ⟨S, 0, none⟩) n xs :=
 ⟨hl, fun _ => ⟨_, rfl, h.lt⟩, fun ad e _ j u hu => by
  injection e with e
  subst e
  rw [Addr.add_lit, Nat.zero_add, h.cell j]
  simpa using hu⟩
theorem qfW {W : World} {S : Nat} {q : Rg.St} (h : Box W S 40 q.arr) : Lies W W.heap.size 76 (some ⟨S, 0, none⟩) 1 q.cells :=
 qmD (t := 40) (by rw [show q.cells.toArray = q.arr by unfold Rg.St.cells; rw [Array.toArray_toList]]; exact h) (by rw [q.len])
theorem qnk (W : World) : (Instr.buildSlice 42 0 #[]).run Tryz.prog W = .ok (.slice (some ⟨W.heap.size, 0, none⟩) 0 0) (W.alloc (.cells #[] 40)) := by
 obtain ⟨ie, hq, hz, hs⟩ := qh5
 simp [Instr.buildSlice, run_underlying (Tryz.underlying42) W, sizeOf, typeInfo, zeroValue, hq, hs, hz, Instr.fill, newRow]
 rw [show Array.range 0 = #[] from by simp]
 simp
theorem qht {o : Oper} {a : Act} {w : World} (ho : o.op = .buildSlice 42 0 #[]) :
 (execOp a.eval o).run Tryz.prog w = .ok (.value (.slice (some ⟨w.heap.size, 0, none⟩) 0 0)) (w.alloc (.cells #[] 40)) := by
 have hr := qnk w
 unfold execOp
 simp only [ho, List.map_toArray, List.map_nil, Sem.run_bind, hr, Result.andThen_ok, Sem.run_pure]
theorem qcp {o : Oper} {a : Act} {w : World} {x : Operand} {ad : Addr} (ho : o.op = .nilCheck x) (hx : a.eval x = .pointer (some ad)) : (execOp a.eval o).run Tryz.prog w = .ok (.value (.pointer (some ad))) w := by
 unfold execOp
 simp only [ho, hx]
 go_simp
theorem qkZ {o : Oper} {a : Act} {w : World} {x : Operand} {B : Nat} (ho : o.op = .fieldAddr 57 x 0) (hx : a.eval x = .pointer (some ⟨B, 0, none⟩)) : (execOp a.eval o).run Tryz.prog w = .ok (.value (.pointer (some ⟨B, 0, none⟩))) w := by
 unfold execOp
 simp only [ho, hx]
 go_simp
theorem qd7 {o : Oper} {a : Act} {w : World} {x : Operand} {B : Nat} {v : Value} (ho : o.op = .load 42 x) (hx : a.eval x = .pointer (some ⟨B, 0, none⟩)) (hc : w.cell? ⟨B, 0, none⟩ = some v) : (execOp a.eval o).run Tryz.prog w = .ok (.value v) w := by
 unfold execOp
 simp only [ho, hx]
 go_simp
structure FsD (L : List Rg.St) (k : Nat) (q : Rg.St) (base : Nat) (S : Nat -> Bool) (vm : Nat -> Value) (w : World) : Prop where
 a0 : S 1 = true -> S 6 = false -> w.ownsRow base 40 76 (vm 1) 0 []
 a4 : S 6 = true -> S 9 = false -> w.ownsRow base 40 76 (vm 6) k (L.flatMap Rg.St.cells)
 a6 : S 8 = true -> S 9 = false -> ∃ X : Nat, vm 8 = .slice (some ⟨X, 0, none⟩) 1 1 /\ Box w X 40 (q.arr) /\ (S 1 = true -> S 6 = false -> (vm 1).ownBlock ≠ some X) /\ (S 6 = true -> (vm 6).ownBlock ≠ some X)
 a7 : S 9 = true -> w.ownsRow base 40 76 (vm 9) (k + 1) ((L ++ [q]).flatMap Rg.St.cells)
 a8 : S 9 = true -> S 6 = true
section
variable {L : List Rg.St} {k : Nat} {q : Rg.St} {base : Nat} {S : Nat -> Bool} {vm vm' : Nat -> Value} {w w' : World}
theorem FsD.start : FsD L k q base (fun _ => false) vm w := ⟨fun h => (by cases h), fun h => (by cases h), fun h => (by cases h), fun h => (by cases h), fun h => (by cases h)⟩
theorem FsD.congr (h : FsD L k q base S vm w) (he : ∀ j, 0 <= j -> vm j = vm' j) : FsD L k q base S vm' w := by
 have : vm = vm' := funext fun j => he j (Nat.zero_le _)
 rw [<- this]; exact h
theorem FsD.skip (h : FsD L k q base S vm w) (i : Nat) (hi : i = 0 \/ i = 2 \/ i = 3 \/ i = 4 \/ i = 5 \/ i = 7) (v : Value) : FsD L k q base (Rj.also S i) (Rz.upd vm i v) w := by
 have eS : ∀ j, j = 1 \/ j = 6 \/ j = 8 \/ j = 9 -> Rj.also S i j = S j /\ Rz.upd vm i v j = vm j := fun j hj => by
  have hne : j ≠ i := by omega
  have hb : (j == i) = false := by simpa using hne
  exact ⟨by unfold Rj.also; rw [hb, Bool.or_false], by unfold Rz.upd; rw [if_neg hne]⟩
 obtain ⟨s0, v0⟩ := eS 1 (by omega)
 obtain ⟨s4, v4⟩ := eS 6 (by omega)
 obtain ⟨s6, v6⟩ := eS 8 (by omega)
 obtain ⟨s7, v7⟩ := eS 9 (by omega)
 refine ⟨?_, ?_, ?_, ?_, ?_⟩
 · rw [s0, s4, v0]; exact h.a0
 · rw [s4, s7, v4]; exact h.a4
 · rw [s6, s7, s0, s4, v6, v0, v4]; exact h.a6
 · rw [s7, v7]; exact h.a7
 · rw [s7, s4]; exact h.a8
theorem FsD.op0 (h : FsD L k q base S vm w) (hb : base <= w.heap.size) (h0 : S 1 = false) : FsD L k q base (Rj.also S 1) (Rz.upd vm 1 (.slice (some ⟨w.heap.size, 0, none⟩) 0 0)) (w.alloc (.cells #[] 40)) := by
 have hB := qac w (.cells #[] 40)
 refine ⟨fun _ _ => ?_, fun h4 h7 => ?_, fun h6 h7 => ?_, fun h7 => ?_, fun h7 => ?_⟩
 · exact World.ownsRow_lit (base := base) (e := 40) (size := 76) w #[] 0 hb (Nat.zero_le _) rfl
 · exact own_below (h.a4 (by simpa [Rj.also] using h4) (by simpa [Rj.also] using h7)) hB (Nat.le_refl _)
 · obtain ⟨X, e, hX, _, h4⟩ := h.a6 (by simpa [Rj.also] using h6) (by simpa [Rj.also] using h7)
   refine ⟨X, e, hX.alloc _, fun _ _ he => ?_, fun hh => h4 (by simpa [Rj.also] using hh)⟩
   have e' : w.heap.size = X := by injection he
   have := hX.lt
   omega
 · exact own_below (h.a7 (by simpa [Rj.also] using h7)) hB (Nat.le_refl _)
 · simpa [Rj.also] using h.a8 (by simpa [Rj.also] using h7)
theorem FsD.op6 (h : FsD L k q base S vm w) : FsD L k q base (Rj.also S 8) (Rz.upd vm 8 (.slice (some ⟨w.heap.size, 0, none⟩) 1 1)) (w.alloc (.cells (q.arr) 40)) := by
 have hB := qac w (.cells (q.arr) 40)
 refine ⟨fun h0 h4 => ?_, fun h4 h7 => ?_, fun h6 h7 => ?_, fun h7 => ?_, fun h7 => ?_⟩
 · exact own_below (h.a0 (by simpa [Rj.also] using h0) (by simpa [Rj.also] using h4)) hB (Nat.le_refl _)
 · exact own_below (h.a4 (by simpa [Rj.also] using h4) (by simpa [Rj.also] using h7)) hB (Nat.le_refl _)
 · refine ⟨w.heap.size, rfl, Box.made _ _ _, fun h0 h4 => ?_, fun h4 => ?_⟩
   · exact qjw (h.a0 (by simpa [Rj.also] using h0) (by simpa [Rj.also] using h4))
   · exact qjw (h.a4 (by simpa [Rj.also] using h4) (by simpa [Rj.also] using h7))
 · exact own_below (h.a7 (by simpa [Rj.also] using h7)) hB (Nat.le_refl _)
 · simpa [Rj.also] using h.a8 (by simpa [Rj.also] using h7)
theorem FsD.op4 (h : FsD L k q base S vm w) {A : Option Addr} {c : Nat} (h4 : S 6 = false) (h0 : S 1 = true) (ho : w'.ownsRow base 40 76 (.slice A k c) k (L.flatMap Rg.St.cells)) (hg : w.grownBy w' (vm 1).ownBlock) (hn : (Value.slice A k c).ownBlock = (vm 1).ownBlock \/ (Value.slice A k c).ownBlock = some w.heap.size) :
 FsD L k q base (Rj.also S 6) (Rz.upd vm 6 (.slice A k c)) w' := by
 have h7 : S 9 = false := by cases h7 : S 9 with | false => rfl | true => have := h.a8 h7; rw [h4] at this; cases this
 refine ⟨fun _ hh => ?_, fun _ _ => ho, fun h6 _ => ?_, fun hh => ?_, fun hh => ?_⟩
 · simp [Rj.also] at hh
 · obtain ⟨X, e, hX, hne, _⟩ := h.a6 (by simpa [Rj.also] using h6) h7
   refine ⟨X, e, hX.grown hg (hne h0 h4), fun _ hh => by simp [Rj.also] at hh, fun _ he => ?_⟩
   have he' : (Value.slice A k c).ownBlock = some X := he
   rcases hn with hn | hn
   · exact hne h0 h4 (hn ▸ he')
   · rw [hn] at he'
     have e' : w.heap.size = X := by injection he'
     have := hX.lt
     omega
 · have : S 9 = true := by simpa [Rj.also] using hh
   rw [h7] at this; cases this
 · simp [Rj.also]
theorem FsD.op7 (h : FsD L k q base S vm w) {v : Value} (h7 : S 9 = false) (h4 : S 6 = true) (ho : w'.ownsRow base 40 76 v (k + 1) ((L ++ [q]).flatMap Rg.St.cells)) : FsD L k q base (Rj.also S 9) (Rz.upd vm 9 v) w' := by
 refine ⟨fun _ hh => ?_, fun _ hh => ?_, fun _ hh => ?_, fun _ => ho, fun _ => ?_⟩
 · have : S 6 = false := by simpa [Rj.also] using hh
   rw [h4] at this; cases this
 · simp [Rj.also] at hh
 · simp [Rj.also] at hh
 · simp [Rj.also, h4]
end
def fsV (B : Nat) (v : Value) (q : Rg.St) (j : Nat) (vm : Nat -> Value) : Prop :=
 match j with
 | 0 => vm 0 = .pointer (some ⟨B, 0, none⟩)
 | 2 => vm 2 = .pointer (some ⟨B, 0, none⟩)
 | 3 => vm 3 = .pointer (some ⟨B, 0, none⟩)
 | 4 => vm 4 = .pointer (some ⟨B, 0, none⟩)
 | 5 => vm 5 = v
 | 7 => vm 7 = .agg q.arr
 | _ => True
theorem qn4 {B : Nat} {v : Value} {j : Nat} {q : Rg.St} {vm vm' : Nat -> Value} (h : fsV B v q j vm) (he : vm j = vm' j) : fsV B v q j vm' := by
 unfold fsV at *
 split at h <;> first | (rw [<- he]; exact h) | trivial
theorem qgU {o : Oper} {a : Act} {W : World} {x : Operand} (q : Rg.St) (ho : o.op = .buildSlice 42 1 #[(0, x)]) (hx : a.eval x = .agg q.arr) : (execOp a.eval o).run Tryz.prog W = .ok (.value (.slice (some ⟨W.heap.size, 0, none⟩) 1 1)) (W.alloc (.cells q.arr 40)) := by
 unfold execOp
 simp only [ho, List.map_toArray, List.map_cons, List.map_nil, hx, Sem.run_bind]
 unfold Rg.St.arr
 simp only [qps, Result.andThen_ok, Sem.run_pure]
theorem qfH {o : Oper} {a : Act} {W : World} {x : Operand} {B : Nat} (q : Rg.St) (ho : o.op = .load 40 x) (hx : a.eval x = .pointer (some ⟨B, 0, none⟩)) (hB : Box W B 40 q.arr) : (execOp a.eval o).run Tryz.prog W = .ok (.value (.agg q.arr)) W :=
 qcb ho hx hB Tryz.underlying40 rfl (by rw [q.size]; exact qaw)
-- PUSH
theorem qjh (B : Nat) (L : List Rg.St) (q l : Rg.St) (hl : L[L.length - 1]? = some l) (h0 : L.length ≠ 0) (h9 : L.length <= 1000) (hlo : 0 <= l.g.frame /\ l.g.frame <= 1048576) (hty : Gm.ty q.g) (hnm : q.g.qaa.length <= maxLen) (hok : ¬ Im.Ok q.g q.r) (X : World) (h : qa1 B L X) (hq : Lies X X.heap.size 6 q.A q.g.qaa.length (Gm.qab q.g.qaa)) :
 Calls Tryz.prog 13 #[.pointer (some ⟨B, 0, none⟩), .agg q.arr] X fun e X' => e = .returned (.bool false) /\ Below X.heap.size X X' := by
 obtain ⟨g, r, Aq, cq⟩ := q
 dsimp only at hty hnm hq hok
 obtain ⟨X1, hX1⟩ : ∃ X1, X1 = X.alloc (.cells (Im.cells g (.slice Aq g.qaa.length cq) r) 40) := ⟨_, rfl⟩
 have hb1 : Below X.heap.size X X1 := by rw [hX1]; exact qac X _
 have P1 := qh (show Box X1 X.heap.size 40 (Im.cells g (.slice Aq g.qaa.length cq) r) by rw [hX1]; exact Box.made _ _ _)
 have K1 := qh hb1
 have L1 := qh ((hq.below hb1).wider hb1.size)
 have H1 := qh (h.call hb1)
 have HX := qh hX1
 obtain ⟨A, c, hB, hR, hc, hm⟩ := H1.out.box
 have cm := qh (fun (w : Ext X1.heap.size X1) => (qbL g r Aq g.qaa.length cq w.w hty rfl hnm ((L1.out.below w.h).wider w.h.size)).mono fun e w' hh => show e = .returned (.bool false) /\ Below w.w.heap.size w.w w' from ⟨by obtain ⟨⟨v, e1, e2⟩, _⟩ := hh; rw [e1]; obtain rfl : v = false := (by cases v with | false => rfl | true => exact absurd (e2.1 rfl) hok); rfl, hh.2⟩)
 obtain ⟨ad, rfl, _⟩ := hR.row.start h0
 have hlt : L.length - 1 < L.length := by omega
 have hl1 : L[L.length - 1] = l := by rw [List.getElem?_eq_getElem hlt] at hl; injection hl
 have kl := qeb hR.row rfl (L.length - 1) hlt 0 (by decide)
 rw [hl1, show l.cells[0]? = some (.int .i64 l.g.frame) from by unfold Rg.St.cells; rw [Array.getElem?_toList]; exact l.first] at kl
 have kl0 : X1.cell? (ad.add ((L.length - 1) * 76)) = some (.int .i64 l.g.frame) := kl
 have hba : (ad.add ((L.length - 1) * 76)).block < X1.heap.size := by
  obtain ⟨ad', e, hb⟩ := hR.row.start h0
  injection e with e
  subst e
  rw [add_block]
  exact hb
 have BB := qh hB
 have RR := qh hR
 have CC := qh (show L.length <= c /\ c <= maxLen from ⟨hc, hm⟩)
 have z0 : ∀ w : Ext X1.heap.size X1, w.w.cell? ⟨X.heap.size, 0, none⟩ = some (.int .i64 g.frame) := fun w => w.cell P1.out.lt ((P1.out.cell 0).trans (Rg.St.first ⟨g, r, Aq, cq⟩))
 have zB : ∀ w : Ext X1.heap.size X1, w.w.cell? ⟨B, 0, none⟩ = some (.slice (some ad) L.length c) := fun w => w.cell BB.out.lt (BB.out.cell 0)
 have zl : ∀ w : Ext X1.heap.size X1, w.w.cell? (ad.add ((L.length - 1) * 76)) = some (.int .i64 l.g.frame) := fun w => (w.h.cell (p := ad.add ((L.length - 1) * 76)) hba).trans kl0
 have PX := qh (fun (w : Ext X1.heap.size X1) => P1.out.below w.h P1.out.lt)
 obtain ⟨k, hk⟩ : ∃ k, L.length = k + 1 := ⟨L.length - 1, by omega⟩
 have HN := qh hk
 have HQ := qh hq
 have hwm : IntKind.i64.wrap (((k + 1 : Nat) : Int) - 1) = (k : Int) := by rw [IntKind.wrap_i64]; omega
 have hwm2 : wrap64 (k : Int) = (k : Int) := IntWalk.wrap64_in _ (by omega)
 have hkl : (k : Int) < (k : Int) + 1 := by omega
 have hwf : IntKind.i64.wrap (l.g.frame + 1) = l.g.frame + 1 := by rw [IntKind.wrap_i64]; omega
 have hwf2 : wrap64 (l.g.frame + 1) = l.g.frame + 1 := IntWalk.wrap64_in _ (by omega)
 rw [hk] at zl zB
 rw [Nat.add_sub_cancel] at zl
 unfold Rg.St.arr
 dsimp only
 clear hX1 hb1 h hq hB hR hc hm kl kl0 hba hl hlt hl1 hlo h0 h9 hty
 generalize hfl : l.g.frame = fl at *
 generalize hfq : g.frame = fq at *
 clear hfl hfq
 go_enter Tryz.func13, Tryz.ntmps13
 go_upto_region 1 with fail
 rw [<- HX.out]
 clear hk
 refine qa0 X1.heap.size X1 (by kernel_rfl) (by kernel_rfl) (Below.refl _ _) ?_
 repeat (first | (go_big_quiet_want; (refine qbY rfl rfl PX.out ?_); simp only [Act.put, List.setIfInBounds_toArray, List.set_cons_succ, List.set_cons_zero]; go_big_quiet_on) | go_big_quiet_step (first | (go_at_call 34; with_reducible exact Calls.qbz (Nat.le_refl _) (cm.out _)) | fail))
 refine wpQuiet_nil ?_
 intro _ hw'
 obtain ⟨q5, hw''⟩ := hw'
 subst hw''
 have R5 := qh (K1.out.trans (q5.h.mono K1.out.size))
 clear z0 zB zl cm PX
 go_wp2_with fail
 go_ret
 exact ⟨rfl, R5.out⟩
theorem qji (B : Nat) (L : List Rg.St) (q l : Rg.St) (hl : L[L.length - 1]? = some l) (h0 : L.length ≠ 0) (h9 : L.length <= 1000) (hlo : 0 <= l.g.frame /\ l.g.frame <= 1048576) (hty : Gm.ty q.g) (hnm : q.g.qaa.length <= maxLen) (hok : Im.Ok q.g q.r) (hfr : q.g.frame ≠ l.g.frame + 1) (X : World) (h : qa1 B L X) (hq : Lies X X.heap.size 6 q.A q.g.qaa.length (Gm.qab q.g.qaa)) :
 Calls Tryz.prog 13 #[.pointer (some ⟨B, 0, none⟩), .agg q.arr] X fun e X' => e = .returned (.bool false) /\ Below X.heap.size X X' := by
 obtain ⟨g, r, Aq, cq⟩ := q
 dsimp only at hty hnm hq hok hfr
 obtain ⟨X1, hX1⟩ : ∃ X1, X1 = X.alloc (.cells (Im.cells g (.slice Aq g.qaa.length cq) r) 40) := ⟨_, rfl⟩
 have hb1 : Below X.heap.size X X1 := by rw [hX1]; exact qac X _
 have P1 := qh (show Box X1 X.heap.size 40 (Im.cells g (.slice Aq g.qaa.length cq) r) by rw [hX1]; exact Box.made _ _ _)
 have K1 := qh hb1
 have L1 := qh ((hq.below hb1).wider hb1.size)
 have H1 := qh (h.call hb1)
 have HX := qh hX1
 obtain ⟨A, c, hB, hR, hc, hm⟩ := H1.out.box
 have cm := qh (fun (w : Ext X1.heap.size X1) => (qbL g r Aq g.qaa.length cq w.w hty rfl hnm ((L1.out.below w.h).wider w.h.size)).mono fun e w' hh => show e = .returned (.bool true) /\ Below w.w.heap.size w.w w' from ⟨by obtain ⟨⟨v, e1, e2⟩, _⟩ := hh; rw [e1]; obtain rfl : v = true := (by cases v with | false => exact absurd (e2.2 hok) (by decide) | true => rfl); rfl, hh.2⟩)
 obtain ⟨ad, rfl, _⟩ := hR.row.start h0
 have hlt : L.length - 1 < L.length := by omega
 have hl1 : L[L.length - 1] = l := by rw [List.getElem?_eq_getElem hlt] at hl; injection hl
 have kl := qeb hR.row rfl (L.length - 1) hlt 0 (by decide)
 rw [hl1, show l.cells[0]? = some (.int .i64 l.g.frame) from by unfold Rg.St.cells; rw [Array.getElem?_toList]; exact l.first] at kl
 have kl0 : X1.cell? (ad.add ((L.length - 1) * 76)) = some (.int .i64 l.g.frame) := kl
 have hba : (ad.add ((L.length - 1) * 76)).block < X1.heap.size := by
  obtain ⟨ad', e, hb⟩ := hR.row.start h0
  injection e with e
  subst e
  rw [add_block]
  exact hb
 have BB := qh hB
 have RR := qh hR
 have CC := qh (show L.length <= c /\ c <= maxLen from ⟨hc, hm⟩)
 have z0 : ∀ w : Ext X1.heap.size X1, w.w.cell? ⟨X.heap.size, 0, none⟩ = some (.int .i64 g.frame) := fun w => w.cell P1.out.lt ((P1.out.cell 0).trans (Rg.St.first ⟨g, r, Aq, cq⟩))
 have zB : ∀ w : Ext X1.heap.size X1, w.w.cell? ⟨B, 0, none⟩ = some (.slice (some ad) L.length c) := fun w => w.cell BB.out.lt (BB.out.cell 0)
 have zl : ∀ w : Ext X1.heap.size X1, w.w.cell? (ad.add ((L.length - 1) * 76)) = some (.int .i64 l.g.frame) := fun w => (w.h.cell (p := ad.add ((L.length - 1) * 76)) hba).trans kl0
 have PX := qh (fun (w : Ext X1.heap.size X1) => P1.out.below w.h P1.out.lt)
 obtain ⟨k, hk⟩ : ∃ k, L.length = k + 1 := ⟨L.length - 1, by omega⟩
 have hfn : (g.frame != l.g.frame + 1) = true := by simpa using hfr
 clear hfr
 have HN := qh hk
 have HQ := qh hq
 have hwm : IntKind.i64.wrap (((k + 1 : Nat) : Int) - 1) = (k : Int) := by rw [IntKind.wrap_i64]; omega
 have hwm2 : wrap64 (k : Int) = (k : Int) := IntWalk.wrap64_in _ (by omega)
 have hkl : (k : Int) < (k : Int) + 1 := by omega
 have hwf : IntKind.i64.wrap (l.g.frame + 1) = l.g.frame + 1 := by rw [IntKind.wrap_i64]; omega
 have hwf2 : wrap64 (l.g.frame + 1) = l.g.frame + 1 := IntWalk.wrap64_in _ (by omega)
 rw [hk] at zl zB
 rw [Nat.add_sub_cancel] at zl
 unfold Rg.St.arr
 dsimp only
 clear hX1 hb1 h hq hB hR hc hm kl kl0 hba hl hlt hl1 hlo h0 h9 hty
 generalize hfl : l.g.frame = fl at *
 generalize hfq : g.frame = fq at *
 clear hfl hfq
 go_enter Tryz.func13, Tryz.ntmps13
 go_upto_region 1 with fail
 rw [<- HX.out]
 clear hk
 refine qa0 X1.heap.size X1 (by kernel_rfl) (by kernel_rfl) (Below.refl _ _) ?_
 repeat (first | (go_big_quiet_want; (refine qbY rfl rfl PX.out ?_); simp only [Act.put, List.setIfInBounds_toArray, List.set_cons_succ, List.set_cons_zero]; go_big_quiet_on) | go_big_quiet_step (first | (go_at_call 34; with_reducible exact Calls.qbz (Nat.le_refl _) (cm.out _)) | fail))
 refine wpQuiet_nil ?_
 intro _ hw'
 obtain ⟨q5, hw''⟩ := hw'
 subst hw''
 have R5 := qh (K1.out.trans (q5.h.mono K1.out.size))
 clear z0 zB zl cm PX
 go_wp2_with fail
 go_ret
 exact ⟨rfl, R5.out⟩
theorem qil (B : Nat) (L : List Rg.St) (q l : Rg.St) (hl : L[L.length - 1]? = some l) (h0 : L.length ≠ 0) (h9 : L.length <= 1000) (hlo : 0 <= l.g.frame /\ l.g.frame <= 1048576) (hty : Gm.ty q.g) (hnm : q.g.qaa.length <= maxLen) (hok : Im.Ok q.g q.r) (hfr : q.g.frame = l.g.frame + 1) (h8 : 8 < L.length) (X : World) (h : qa1 B L X) (hq : Lies X X.heap.size 6 q.A q.g.qaa.length (Gm.qab q.g.qaa)) :
 Calls Tryz.prog 13 #[.pointer (some ⟨B, 0, none⟩), .agg q.arr] X fun e X' => e = .returned (.bool false) /\ Below X.heap.size X X' := by
 obtain ⟨g, r, Aq, cq⟩ := q
 dsimp only at hty hnm hq hok hfr
 obtain ⟨X1, hX1⟩ : ∃ X1, X1 = X.alloc (.cells (Im.cells g (.slice Aq g.qaa.length cq) r) 40) := ⟨_, rfl⟩
 have hb1 : Below X.heap.size X X1 := by rw [hX1]; exact qac X _
 have P1 := qh (show Box X1 X.heap.size 40 (Im.cells g (.slice Aq g.qaa.length cq) r) by rw [hX1]; exact Box.made _ _ _)
 have K1 := qh hb1
 have L1 := qh ((hq.below hb1).wider hb1.size)
 have H1 := qh (h.call hb1)
 have HX := qh hX1
 obtain ⟨A, c, hB, hR, hc, hm⟩ := H1.out.box
 have cm := qh (fun (w : Ext X1.heap.size X1) => (qbL g r Aq g.qaa.length cq w.w hty rfl hnm ((L1.out.below w.h).wider w.h.size)).mono fun e w' hh => show e = .returned (.bool true) /\ Below w.w.heap.size w.w w' from ⟨by obtain ⟨⟨v, e1, e2⟩, _⟩ := hh; rw [e1]; obtain rfl : v = true := (by cases v with | false => exact absurd (e2.2 hok) (by decide) | true => rfl); rfl, hh.2⟩)
 obtain ⟨ad, rfl, _⟩ := hR.row.start h0
 have hlt : L.length - 1 < L.length := by omega
 have hl1 : L[L.length - 1] = l := by rw [List.getElem?_eq_getElem hlt] at hl; injection hl
 have kl := qeb hR.row rfl (L.length - 1) hlt 0 (by decide)
 rw [hl1, show l.cells[0]? = some (.int .i64 l.g.frame) from by unfold Rg.St.cells; rw [Array.getElem?_toList]; exact l.first] at kl
 have kl0 : X1.cell? (ad.add ((L.length - 1) * 76)) = some (.int .i64 l.g.frame) := kl
 have hba : (ad.add ((L.length - 1) * 76)).block < X1.heap.size := by
  obtain ⟨ad', e, hb⟩ := hR.row.start h0
  injection e with e
  subst e
  rw [add_block]
  exact hb
 have BB := qh hB
 have RR := qh hR
 have CC := qh (show L.length <= c /\ c <= maxLen from ⟨hc, hm⟩)
 have z0 : ∀ w : Ext X1.heap.size X1, w.w.cell? ⟨X.heap.size, 0, none⟩ = some (.int .i64 g.frame) := fun w => w.cell P1.out.lt ((P1.out.cell 0).trans (Rg.St.first ⟨g, r, Aq, cq⟩))
 have zB : ∀ w : Ext X1.heap.size X1, w.w.cell? ⟨B, 0, none⟩ = some (.slice (some ad) L.length c) := fun w => w.cell BB.out.lt (BB.out.cell 0)
 have zl : ∀ w : Ext X1.heap.size X1, w.w.cell? (ad.add ((L.length - 1) * 76)) = some (.int .i64 l.g.frame) := fun w => (w.h.cell (p := ad.add ((L.length - 1) * 76)) hba).trans kl0
 have PX := qh (fun (w : Ext X1.heap.size X1) => P1.out.below w.h P1.out.lt)
 obtain ⟨k, hk⟩ : ∃ k, L.length = k + 1 := ⟨L.length - 1, by omega⟩
 have hfn : (g.frame != l.g.frame + 1) = false := by simpa using hfr
 have h8i : (8 : Int) < (k : Int) + 1 := by omega
 clear hfr h8
 have HN := qh hk
 have HQ := qh hq
 have hwm : IntKind.i64.wrap (((k + 1 : Nat) : Int) - 1) = (k : Int) := by rw [IntKind.wrap_i64]; omega
 have hwm2 : wrap64 (k : Int) = (k : Int) := IntWalk.wrap64_in _ (by omega)
 have hkl : (k : Int) < (k : Int) + 1 := by omega
 have hwf : IntKind.i64.wrap (l.g.frame + 1) = l.g.frame + 1 := by rw [IntKind.wrap_i64]; omega
 have hwf2 : wrap64 (l.g.frame + 1) = l.g.frame + 1 := IntWalk.wrap64_in _ (by omega)
 rw [hk] at zl zB
 rw [Nat.add_sub_cancel] at zl
 unfold Rg.St.arr
 dsimp only
 clear hX1 hb1 h hq hB hR hc hm kl kl0 hba hl hlt hl1 hlo h0 h9 hty
 generalize hfl : l.g.frame = fl at *
 generalize hfq : g.frame = fq at *
 clear hfl hfq
 go_enter Tryz.func13, Tryz.ntmps13
 go_upto_region 1 with fail
 rw [<- HX.out]
 clear hk
 refine qa0 X1.heap.size X1 (by kernel_rfl) (by kernel_rfl) (Below.refl _ _) ?_
 repeat (first | (go_big_quiet_want; (refine qbY rfl rfl PX.out ?_); simp only [Act.put, List.setIfInBounds_toArray, List.set_cons_succ, List.set_cons_zero]; go_big_quiet_on) | go_big_quiet_step (first | (go_at_call 34; with_reducible exact Calls.qbz (Nat.le_refl _) (cm.out _)) | fail))
 refine wpQuiet_nil ?_
 intro _ hw'
 obtain ⟨q5, hw''⟩ := hw'
 subst hw''
 have R5 := qh (K1.out.trans (q5.h.mono K1.out.size))
 clear z0 zB zl cm PX
 go_wp2_with fail
 go_ret
 exact ⟨rfl, R5.out⟩
theorem qjg (B : Nat) (L : List Rg.St) (q l : Rg.St) (hl : L[L.length - 1]? = some l) (h0 : L.length ≠ 0) (h9 : L.length <= 1000) (hlo : 0 <= l.g.frame /\ l.g.frame <= 1048576) (hty : Gm.ty q.g) (hnm : q.g.qaa.length <= maxLen) (hok : Im.Ok q.g q.r) (hfr : q.g.frame = l.g.frame + 1) (h8 : L.length <= 8) (X : World) (h : qa1 B L X) (hq : Lies X X.heap.size 6 q.A q.g.qaa.length (Gm.qab q.g.qaa)) :
 Calls Tryz.prog 13 #[.pointer (some ⟨B, 0, none⟩), .agg q.arr] X fun e X' => e = .returned (.bool true) /\ qa1 B (L ++ [q]) X' /\ Only B X X' /\ qbW (fun k => X.heap.size <= k) B X' := by
 obtain ⟨g, r, Aq, cq⟩ := q
 dsimp only at hty hnm hq hok hfr
 obtain ⟨X1, hX1⟩ : ∃ X1, X1 = X.alloc (.cells (Im.cells g (.slice Aq g.qaa.length cq) r) 40) := ⟨_, rfl⟩
 have hb1 : Below X.heap.size X X1 := by rw [hX1]; exact qac X _
 have P1 := qh (show Box X1 X.heap.size 40 (Im.cells g (.slice Aq g.qaa.length cq) r) by rw [hX1]; exact Box.made _ _ _)
 have K1 := qh hb1
 have L1 := qh ((hq.below hb1).wider hb1.size)
 have H1 := qh (h.call hb1)
 have HX := qh hX1
 obtain ⟨A, c, hB, hR, hc, hm⟩ := H1.out.box
 have cm := qh (fun (w : Ext X1.heap.size X1) => (qbL g r Aq g.qaa.length cq w.w hty rfl hnm ((L1.out.below w.h).wider w.h.size)).mono fun e w' hh => show e = .returned (.bool true) /\ Below w.w.heap.size w.w w' from ⟨by obtain ⟨⟨v, e1, e2⟩, _⟩ := hh; rw [e1]; obtain rfl : v = true := (by cases v with | false => exact absurd (e2.2 hok) (by decide) | true => rfl); rfl, hh.2⟩)
 obtain ⟨ad, rfl, _⟩ := hR.row.start h0
 have hlt : L.length - 1 < L.length := by omega
 have hl1 : L[L.length - 1] = l := by rw [List.getElem?_eq_getElem hlt] at hl; injection hl
 have kl := qeb hR.row rfl (L.length - 1) hlt 0 (by decide)
 rw [hl1, show l.cells[0]? = some (.int .i64 l.g.frame) from by unfold Rg.St.cells; rw [Array.getElem?_toList]; exact l.first] at kl
 have kl0 : X1.cell? (ad.add ((L.length - 1) * 76)) = some (.int .i64 l.g.frame) := kl
 have hba : (ad.add ((L.length - 1) * 76)).block < X1.heap.size := by
  obtain ⟨ad', e, hb⟩ := hR.row.start h0
  injection e with e
  subst e
  rw [add_block]
  exact hb
 have BB := qh hB
 have RR := qh hR
 have CC := qh (show L.length <= c /\ c <= maxLen from ⟨hc, hm⟩)
 have z0 : ∀ w : Ext X1.heap.size X1, w.w.cell? ⟨X.heap.size, 0, none⟩ = some (.int .i64 g.frame) := fun w => w.cell P1.out.lt ((P1.out.cell 0).trans (Rg.St.first ⟨g, r, Aq, cq⟩))
 have zB : ∀ w : Ext X1.heap.size X1, w.w.cell? ⟨B, 0, none⟩ = some (.slice (some ad) L.length c) := fun w => w.cell BB.out.lt (BB.out.cell 0)
 have zl : ∀ w : Ext X1.heap.size X1, w.w.cell? (ad.add ((L.length - 1) * 76)) = some (.int .i64 l.g.frame) := fun w => (w.h.cell (p := ad.add ((L.length - 1) * 76)) hba).trans kl0
 have PX := qh (fun (w : Ext X1.heap.size X1) => P1.out.below w.h P1.out.lt)
 obtain ⟨k, hk⟩ : ∃ k, L.length = k + 1 := ⟨L.length - 1, by omega⟩
 have hfn : (g.frame != l.g.frame + 1) = false := by simpa using hfr
 have h8i : ¬ (8 : Int) < (k : Int) + 1 := by omega
 have N8 := qh h8
 clear hfr h8
 have HN := qh hk
 have HQ := qh hq
 have hwm : IntKind.i64.wrap (((k + 1 : Nat) : Int) - 1) = (k : Int) := by rw [IntKind.wrap_i64]; omega
 have hwm2 : wrap64 (k : Int) = (k : Int) := IntWalk.wrap64_in _ (by omega)
 have hkl : (k : Int) < (k : Int) + 1 := by omega
 have hwf : IntKind.i64.wrap (l.g.frame + 1) = l.g.frame + 1 := by rw [IntKind.wrap_i64]; omega
 have hwf2 : wrap64 (l.g.frame + 1) = l.g.frame + 1 := IntWalk.wrap64_in _ (by omega)
 rw [hk] at zl zB
 rw [Nat.add_sub_cancel] at zl
 unfold Rg.St.arr
 dsimp only
 clear hX1 hb1 h hq hB hR hc hm kl kl0 hba hl hlt hl1 hlo h0 h9 hty
 generalize hfl : l.g.frame = fl at *
 generalize hfq : g.frame = fq at *
 clear hfl hfq
 go_enter Tryz.func13, Tryz.ntmps13
 go_upto_region 1 with fail
 rw [<- HX.out]
 clear hk
 refine qa0 X1.heap.size X1 (by kernel_rfl) (by kernel_rfl) (Below.refl _ _) ?_
 repeat (first | (go_big_quiet_want; (refine qbY rfl rfl PX.out ?_); simp only [Act.put, List.setIfInBounds_toArray, List.set_cons_succ, List.set_cons_zero]; go_big_quiet_on) | go_big_quiet_step (first | (go_at_call 34; with_reducible exact Calls.qbz (Nat.le_refl _) (cm.out _)) | fail))
 refine wpQuiet_nil ?_
 intro _ hw'
 obtain ⟨q5, hw''⟩ := hw'
 subst hw''
 have R5 := qh (K1.out.trans (q5.h.mono K1.out.size))
 clear z0 zl cm
 have B5 := qh (BB.out.below q5.h BB.out.lt)
 have R6 := qh (RR.out.call q5.h)
 have P5 := qh (P1.out.below q5.h P1.out.lt)
 have L5 := qh ((L1.out.below q5.h).wider q5.h.size)
 clear zB PX
 go_upto_region 3 with fail
 generalize q5.w = X5 at *
 have NN := HN.out
 have bd := qh (show Below X5.heap.size X5 X5.drew from Below.drew (Below.refl _ _))
 obtain ⟨ib, hi0, hz0, hz1, hz2⟩ := qcV
 have hI := qh hi0
 have hZ := qh hz0
 have hSZ := qh hz1
 have hBY := qh hz2
 have hz76 := qh (show (Value.agg Im.zero).cells.size = 76 from Im.qar)
 clear hi0 hz0 hz1 hz2
 have kB := qh (show ∀ V, Below X5.heap.size X5 V -> V.cell? ⟨B, 0, none⟩ = some (.slice (some ad) (k + 1) c) from fun V hV => ((B5.out.below hV B5.out.lt).cell 0).trans (by rw [NN]; rfl))
 refine Rj.qel (by kernel_rfl) 0 10 (by kernel_rfl) (fun V => Below X5.heap.size X5 V) (fun j vm _ => fsV B (.slice (some ad) (k + 1) c) ⟨g, r, Aq, cq⟩ j vm) (fun S vm V => FsD L (k + 1) ⟨g, r, Aq, cq⟩ X5.heap.size S vm V) ((Below.refl _ _).drew) (fun _ => FsD.start) (fun S vm vm' V he h => h.congr he) (fun j vm vm' V h1 h2 he hV => qn4 hV (he j (.inl rfl))) ?_
 simp only [List.take_succ_cons, List.take_zero, List.drop_succ_cons, List.drop_zero, Nat.reduceSub]
 refine qfm (fun A' => A'.tmps.size = 49 /\ A'.eval (.tmp 0) = .pointer (some ⟨B, 0, none⟩) /\ A'.eval (.tmp 3) = .pointer (some ⟨X.heap.size, 0, none⟩)) ⟨rfl, rfl, rfl⟩ ?_ ?_
 · intro A' ⟨hAs, hA0, hA3⟩
   refine ⟨?_, ?_, ?_, ?_, ?_, ?_, ?_, ?_, ?_, ?_, trivial⟩
   · intro S vm V hX hSi hS hV hD
     refine qaX (w' := V) (Rz.qaR (v := .pointer (some ⟨B, 0, none⟩)) rfl ?_) ⟨by simp [fsV, Rz.upd], hX, fun j _ _ _ _ h => h, hD.skip 0 (by omega) _⟩
     simp only [Rz.qaA]
     repeat rw [Rz.qaD (by decide)]
     exact hA0
   · intro S vm V hX hSi hS hV hD
     exact qaX (v := .slice (some ⟨V.heap.size, 0, none⟩) 0 0) (w' := V.alloc (.cells #[] 40)) (qht rfl) ⟨trivial, hX.alloc hX.size _, fun j _ _ _ _ h => h, hD.op0 hX.size hSi⟩
   · intro S vm V hX hSi hS hV hD
     refine qaX (w' := V) (Rz.qaR (v := .pointer (some ⟨B, 0, none⟩)) rfl ?_) ⟨by simp [fsV, Rz.upd], hX, fun j _ _ _ _ h => h, hD.skip 2 (by omega) _⟩
     simp only [Rz.qaA]
     repeat rw [Rz.qaD (by decide)]
     exact hA0
   · intro S vm V hX hSi hS hV hD
     have e2 : vm 2 = .pointer (some ⟨B, 0, none⟩) := hV 2 (by omega) (by omega) (hS 2 (by omega) (by omega) (by kernel_rfl))
     refine qaX (w' := V) (qcp (ad := ⟨B, 0, none⟩) rfl ?_) ⟨by simp [fsV, Rz.upd], hX, fun j _ _ _ _ h => h, hD.skip 3 (by omega) _⟩
     simp only [Rz.qaA]
     repeat rw [Rz.qaD (by decide)]
     rw [Rz.qa9 (by simp only [Rz.qa8, hAs]; decide)]
     exact e2
   · intro S vm V hX hSi hS hV hD
     have e3 : vm 3 = .pointer (some ⟨B, 0, none⟩) := hV 3 (by omega) (by omega) (hS 3 (by omega) (by omega) (by kernel_rfl))
     refine qaX (w' := V) (qkZ (B := B) rfl ?_) ⟨by simp [fsV, Rz.upd], hX, fun j _ _ _ _ h => h, hD.skip 4 (by omega) _⟩
     simp only [Rz.qaA]
     repeat rw [Rz.qaD (by decide)]
     rw [Rz.qa9 (by simp only [Rz.qa8, hAs]; decide)]
     exact e3
   · intro S vm V hX hSi hS hV hD
     have e4 : vm 4 = .pointer (some ⟨B, 0, none⟩) := hV 4 (by omega) (by omega) (hS 4 (by omega) (by omega) (by kernel_rfl))
     refine qaX (w' := V) (qd7 (B := B) rfl ?_ (kB.out V hX)) ⟨by simp [fsV, Rz.upd], hX, fun j _ _ _ _ h => h, hD.skip 5 (by omega) _⟩
     simp only [Rz.qaA]
     repeat rw [Rz.qaD (by decide)]
     rw [Rz.qa9 (by simp only [Rz.qa8, hAs]; decide)]
     exact e4
   · intro S vm V hX hSi hS hV hD
     have e5 : vm 5 = .slice (some ad) (k + 1) c := hV 5 (by omega) (by omega) (hS 5 (by omega) (by omega) (by kernel_rfl))
     have s1 := hS 1 (by omega) (by omega) (by kernel_rfl)
     have hlies := (R6.out.row.below hX).wider hX.size
     rw [NN] at hlies
     refine qfF (t := 42) (size := 76) (bytes := ib.bytes) (v := vm 1) (base := X5.heap.size) (n := 0) (xs := []) (A := some ad) (m := k + 1) (c := c) (news := L.flatMap Rg.St.cells) rfl ?_ ?_ Tryz.underlying42 hI.out hZ.out hSZ.out rfl hz76.out (by decide) (hD.a0 s1 hSi) hlies (qfv L) (by have := N8.out; unfold maxLen; omega) (by have := Nat.mul_le_mul (show 0 + (k + 1) <= 1000 by have := N8.out; omega) hBY.out; omega) hX.size ?_
     · simp only [Rz.qaA]
       repeat rw [Rz.qaD (by decide)]
       rw [Rz.qa9 (by simp only [Rz.qa8, hAs]; decide)]
     · simp only [Rz.qaA]
       repeat rw [Rz.qaD (by decide)]
       rw [Rz.qa9 (by simp only [Rz.qa8, hAs]; decide)]
       exact e5
     · intro A5 c5 w5 ho5 hg5 hn5
       simp only [Nat.zero_add, List.nil_append] at ho5 hn5 ⊢
       exact ⟨trivial, qhW hX hg5 (qlt (hD.a0 s1 hSi)) (Nat.le_refl _), fun j _ _ _ _ h => h, hD.op4 hSi s1 ho5 hg5 hn5⟩
   · intro S vm V hX hSi hS hV hD
     refine qaX (w' := V) (qfH ⟨g, r, Aq, cq⟩ (B := X.heap.size) rfl ?_ (P5.out.below hX P5.out.lt)) ⟨by simp [fsV, Rz.upd], hX, fun j _ _ _ _ h => h, hD.skip 7 (by omega) _⟩
     simp only [Rz.qaA]
     repeat rw [Rz.qaD (by decide)]
     exact hA3
   · intro S vm V hX hSi hS hV hD
     have e7 : vm 7 = .agg (Rg.St.arr ⟨g, r, Aq, cq⟩) := hV 7 (by omega) (by omega) (hS 7 (by omega) (by omega) (by kernel_rfl))
     refine qaX (qgU ⟨g, r, Aq, cq⟩ rfl ?_) ⟨trivial, hX.alloc hX.size _, fun j _ _ _ _ h => h, hD.op6⟩
     simp only [Rz.qaA]
     repeat rw [Rz.qaD (by decide)]
     rw [Rz.qa9 (by simp only [Rz.qa8, hAs]; decide)]
     exact e7
   · intro S vm V hX hSi hS hV hD
     have s6 := hS 6 (by omega) (by omega) (by kernel_rfl)
     have s8 := hS 8 (by omega) (by omega) (by kernel_rfl)
     obtain ⟨Y, e8, hY, _, hne⟩ := hD.a6 s8 hSi
     refine qfF (t := 42) (size := 76) (bytes := ib.bytes) (v := vm 6) (base := X5.heap.size) (n := k + 1) (xs := L.flatMap Rg.St.cells) (A := some ⟨Y, 0, none⟩) (m := 1) (c := 1) (news := Rg.St.cells ⟨g, r, Aq, cq⟩) rfl ?_ ?_ Tryz.underlying42 hI.out hZ.out hSZ.out rfl hz76.out (by decide) (hD.a4 s6 hSi) (qfW hY) (qci _) (by have := N8.out; unfold maxLen; omega) (by have := Nat.mul_le_mul (show k + 1 + 1 <= 1000 by have := N8.out; omega) hBY.out; omega) hX.size ?_
     · simp only [Rz.qaA]
       repeat rw [Rz.qaD (by decide)]
       rw [Rz.qa9 (by simp only [Rz.qa8, hAs]; decide)]
     · simp only [Rz.qaA]
       repeat rw [Rz.qaD (by decide)]
       rw [Rz.qa9 (by simp only [Rz.qa8, hAs]; decide)]
       exact e8
     · intro A5 c5 w5 ho5 hg5 hn5
       rw [show L.flatMap Rg.St.cells ++ Rg.St.cells ⟨g, r, Aq, cq⟩ = (L ++ [(⟨g, r, Aq, cq⟩ : Rg.St)]).flatMap Rg.St.cells by rw [List.flatMap_append, List.flatMap_cons, List.flatMap_nil, List.append_nil]] at ho5
       exact ⟨trivial, qhW hX hg5 (qlt (hD.a4 s6 hSi)) (Nat.le_refl _), fun j _ _ _ _ h => h, hD.op7 hSi s6 ho5⟩
 · intro S vm w4 hX hS hV hD
   have own9 := hD.a7 (hS 9 (by omega) (by omega))
   obtain ⟨A9, c9, e9⟩ := qck own9
   rw [e9] at own9
   have CP := qh (qoY own9)
   have A9B := qh (show ∀ ad, A9 = some ad -> X.heap.size <= ad.block from fun ad e => by
    obtain ⟨_, ⟨q0, _⟩ | ⟨gq, _, _, q0, hq, _⟩⟩ := own9
    · injection q0 with q0
      rw [q0] at e
      cases e
    · injection q0 with q0
      rw [q0] at e
      injection e with e
      subst e
      exact Nat.le_trans R5.out.size hq)
   have k4 := qh (show Below X5.heap.size X5 w4 from hX)
   have HR4 := qh (show qdU w4 A9 (k + 1 + 1) (L ++ [(⟨g, r, Aq, cq⟩ : Rg.St)]) from ⟨by rw [List.length_append, NN]; rfl, Lies.owned own9, fun x hx => by
    rcases List.mem_append.1 hx with hx | hx
    · exact ((R6.out.qaa x hx).below hX).wider hX.size
    · obtain rfl := List.mem_singleton.1 hx
      exact (L5.out.below hX).wider hX.size⟩)
   have B6 := qh (B5.out.below k4.out B5.out.lt)
   have xf := B6.out.free 0
   have xl := B6.out.lt
   have xc := B6.out.cell 0
   have e0 : vm 0 = .pointer (some ⟨B, 0, none⟩) := hV 0 (by omega) (by omega)
   clear hS hV hD own9 hX
   simp only [Rz.qaA, Nat.reduceAdd, e9, e0]
   generalize vm 1 = v1
   generalize vm 2 = v2
   generalize vm 3 = v3
   generalize vm 4 = v4
   generalize vm 5 = v5
   generalize vm 6 = v6
   generalize vm 7 = v7
   generalize vm 8 = v8
   clear e9 e0
   simp only [Act.put, List.setIfInBounds_toArray, List.set_cons_succ, List.set_cons_zero]
   go_wp2_with fail
   go_ret
   have hlen : (L ++ [(⟨g, r, Aq, cq⟩ : Rg.St)]).length = k + 1 + 1 := by rw [List.length_append, NN]; rfl
   have HC := CP.out
   have HRR := HR4.out
   refine ⟨rfl, ⟨⟨A9, c9, ?_, ?_, by omega, HC.2⟩⟩, ?_, ⟨A9, _, _, (B6.out.put 0 _).cell 0, A9B.out⟩⟩
   · rw [hlen]; exact B6.out.put 0 _
   · rw [hlen]; exact HRR.ring B6.out _
   · exact (Only.of_below (R5.out.trans ((k4.out).mono R5.out.size))).trans (Only.set _ _ _)
def qgc : List Nat := qf2 ++ List.replicate 17 1
theorem qhC (g : Gm.G) (A : Option Addr) (n c : Nat) (r : Ros.R) (o : Nat) : ((Im.cells g (.slice A n c) r)[o]?).map tagV = qgc[o]? := by
 rw [show (Im.cells g (.slice A n c) r)[o]? = ((([Value.int .i64 g.frame, Value.int .u64 g.dice] ++ Gm.qax g.ship ++ [Value.slice A n c]) ++ (Value.int .i64 r.version :: Ros.qbl r))[o]?) from by unfold Im.cells Gm.cells Ros.cells; simp]
 rw [<- List.getElem?_map]
 rfl
theorem qfS : ∀ o, o < 76 -> ¬ (qgc[o]? = some 1 /\ qgc[o + 1]? = some 2) := by decide
theorem Lies.qnP {w : World} {B BG n m : Nat} {A A' : Option Addr} {c : Nat} {l : List Gm.Shot} {g : Gm.G} {r : Ros.R} (h : Lies w B 6 A n (Gm.qab l)) (hn : n = l.length) (hB : Box w BG 40 (Im.cells g (.slice A' m c) r)) (h0 : n ≠ 0) (ad : Addr) (e : A = some ad) : ad.block ≠ BG := by
 intro eb
 subst hn
 have hlt : 0 < l.length := by omega
 have hc := h.cell ad e h0
 have e0 := hc 0 (.int .i64 l[0].owner) (by have := Gm.qbq l 0 0 hlt (by omega); simpa [Gm.Shot.cells] using this)
 have e1 := hc 1 (.int .i32 l[0].x) (by have := Gm.qbq l 0 1 hlt (by omega); simpa [Gm.Shot.cells] using this)
 rw [show ad.add 0 = ad from rfl] at e0
 rw [show ad.add 1 = ⟨ad.block, ad.off + 1, none⟩ from rfl] at e1
 rw [eb, hB.cell] at e1
 have e0' : (Im.cells g (.slice A' m c) r)[ad.off]? = some (.int .i64 l[0].owner) := by
  unfold World.cell? at e0
  rw [eb, hB.is] at e0
  dsimp only at e0
  split at e0
  · cases e0
  · exact e0
 have t0 := qhC g A' m c r ad.off
 have t1 := qhC g A' m c r (ad.off + 1)
 rw [e0'] at t0
 rw [e1] at t1
 have hlt' : ad.off < 76 := by have := (Array.getElem?_eq_some_iff.1 e0').1; rwa [Im.qag] at this
 exact qfS _ hlt' ⟨t0.symm, t1.symm⟩
theorem Lies.qbk {w : World} {n BG m : Nat} {A A' : Option Addr} {c : Nat} {l : List Gm.Shot} {g : Gm.G} {r : Ros.R} (h : Lies w w.heap.size 6 A n (Gm.qab l)) (hn : n = l.length) (hB : Box w BG 40 (Im.cells g (.slice A' m c) r)) (cs : Array Value) : Lies (w.setRow BG cs) (w.setRow BG cs).heap.size 6 A n (Gm.qab l) := by
 refine ⟨h.len, fun hn => by obtain ⟨ad, e, hb⟩ := h.start hn; exact ⟨ad, e, by rw [setRow_size]; exact hb⟩, fun ad e h0 j u hu => ?_⟩
 have hne := h.qnP hn hB h0 ad e
 rw [World.cell?_of_block (w := w) (by rw [add_block]; exact setRow_other w BG _ cs hne)]
 exact h.cell ad e h0 j u hu
theorem Lies.qbX {w : World} {n BG : Nat} {A : Option Addr} {l : List Gm.Shot} (h : Lies w w.heap.size 6 A n (Gm.qab l)) (hn : n = l.length) (hB : Box w BG 40 Im.zero) (cs : Array Value) : Lies (w.setRow BG cs) (w.setRow BG cs).heap.size 6 A n (Gm.qab l) :=
 h.qbk hn hB cs
theorem Lies.qnO {w0 w : World} {n B size : Nat} {A : Option Addr} {xs : List Value} (h : Lies w w0.heap.size size A n xs) (hB : w0.heap.size <= B) (cs : Array Value) : Lies (w.setRow B cs) w0.heap.size size A n xs :=
 h.stays fun b hb => setRow_other w B b cs (by omega)
structure qdq (LP : qdG) (w : World) (Br : Nat) (M : List Fd.S) (L : List Rg.St) (AO : Option Addr) (cO bs : Nat) (q : Rg.St) (G : Nat -> Prop) (X : World) : Prop where
 hold : P15 LP w Br M G X
 row : X.ownsRow w.heap.size 40 76 (.slice AO L.length cO) L.length (L.flatMap Rg.St.cells)
 rowG : ∀ g, (Value.slice AO L.length cO).ownBlock = some g -> G g /\ g ≠ bs
 rowD : ∀ g, (Value.slice AO L.length cO).ownBlock = some g -> ∀ x ∈ L, x.g.qaa.length ≠ 0 -> ∀ ad, x.A = some ad -> ad.block ≠ g
 sh : ∀ x ∈ L, Lies X X.heap.size 6 x.A x.g.qaa.length (Gm.qab x.g.qaa) /\ (x.g.qaa.length ≠ 0 -> ∀ ad, x.A = some ad -> G ad.block)
 st : Box X bs 40 q.arr
 stG : G bs
 ne : 0 < L.length
 qs : Lies X X.heap.size 6 q.A q.g.qaa.length (Gm.qab q.g.qaa) /\ (q.g.qaa.length ≠ 0 -> ∀ ad, q.A = some ad -> G ad.block)
section
variable {LP : qdG} (C : ObjC LP) {w : World} {Br : Nat} {M M' : List Fd.S} {L : List Rg.St} {AO : Option Addr} {cO bs : Nat} {q : Rg.St} {G G' : Nat -> Prop} {X X' : World}
theorem qfZ {base n size : Nat} {e : TypeId} {v : Value} {xs : List Value} {W W' : World} (h : W.ownsRow base e size v n xs) (hk : ∀ g, v.ownBlock = some g -> W'.heap[g]? = W.heap[g]?) : W'.ownsRow base e size v n xs := by
 obtain ⟨h1, ⟨e1, h0⟩ | ⟨g, cap, cur, e1, hb, hg, hc⟩⟩ := h
 · exact ⟨h1, .inl ⟨e1, h0⟩⟩
 · exact ⟨h1, .inr ⟨g, cap, cur, e1, hb, (hk g (by rw [e1]; rfl)).trans hg, hc⟩⟩
theorem qba {W W' : World} {A : Option Addr} {n size : Nat} {xs : List Value} (h : Lies W W.heap.size size A n xs) (hs : W.heap.size <= W'.heap.size) (hk : n ≠ 0 -> ∀ ad, A = some ad -> W'.heap[ad.block]? = W.heap[ad.block]?) : Lies W' W'.heap.size size A n xs :=
 ⟨h.len, fun hn => by obtain ⟨ad, e, hb⟩ := h.start hn; exact ⟨ad, e, Nat.lt_of_lt_of_le hb hs⟩, fun ad e hn j u hu => by
  rw [World.cell?_of_block (w := W) (by rw [add_block]; exact hk hn ad e)]
  exact h.cell ad e hn j u hu⟩
theorem qdq.kept (h : qdq LP w Br M L AO cO bs q G X) (hh : P15 LP w Br M' G' X') (hs : X.heap.size <= X'.heap.size) (hG : ∀ j, G j -> G' j) (hk : ∀ j, G j -> X'.heap[j]? = X.heap[j]?) : qdq LP w Br M' L AO cO bs q G' X' :=
 ⟨hh, qfZ h.row fun g e => hk g (h.rowG g e).1, fun g e => ⟨hG g (h.rowG g e).1, (h.rowG g e).2⟩, h.rowD, fun x hx => ⟨qba (h.sh x hx).1 hs fun h0 ad e => hk _ ((h.sh x hx).2 h0 ad e), fun h0 ad e => hG _ ((h.sh x hx).2 h0 ad e)⟩, ⟨(hk bs h.stG).trans h.st.is⟩, hG bs h.stG, h.ne, qba h.qs.1 hs fun h0 ad e => hk _ (h.qs.2 h0 ad e), fun h0 ad e => hG _ (h.qs.2 h0 ad e)⟩
theorem qdq.says (h : qdq LP w Br M L AO cO bs q G X) (hh : P15 LP w Br M' G X') (hk : qe7 G X X') (hs : X.heap.size <= X'.heap.size) : qdq LP w Br M' L AO cO bs q G X' := h.kept hh hs (fun _ h => h) hk
include C
theorem qdq.call (h : qdq LP w Br M L AO cO bs q G X) (hb : Below X.heap.size X X') : qdq LP w Br M L AO cO bs q (fun j => G j \/ (X.heap.size <= j /\ j < X'.heap.size)) X' :=
 h.kept (qbd.more C h.hold hb) hb.size (fun _ h => .inl h) fun j hj => hb.block j (h.hold.lt hj).2
theorem qdq.store (h : qdq LP w Br M L AO cO bs q G X) {x : Rg.St} (hx : Lies X X.heap.size 6 x.A x.g.qaa.length (Gm.qab x.g.qaa)) (hxG : x.g.qaa.length ≠ 0 -> ∀ ad, x.A = some ad -> G ad.block) : qdq LP w Br M L AO cO bs x G (X.setRow bs x.arr) := by
 have ho : Only bs X (X.setRow bs x.arr) := ⟨rfl, rfl, rfl, by rw [setRow_size]; exact Nat.le_refl _, fun k _ hne => setRow_other X bs k _ hne⟩
 have hrow : ∀ {A : Option Addr} {l : List Gm.Shot}, Lies X X.heap.size 6 A l.length (Gm.qab l) -> Lies (X.setRow bs x.arr) (X.setRow bs x.arr).heap.size 6 A l.length (Gm.qab l) := fun hl => by
  obtain ⟨g, r, A, c⟩ := q
  exact hl.qbk rfl (show Box X bs 40 (Im.cells g (.slice A g.qaa.length c) r) from h.st) _
 refine ⟨h.hold.only C h.stG ho, qfZ h.row fun g e => setRow_other X bs g _ (h.rowG g e).2, h.rowG, h.rowD, fun y hy => ⟨hrow (h.sh y hy).1, (h.sh y hy).2⟩, h.st.row _, h.stG, h.ne, hrow hx, hxG⟩
theorem qdq.appended (h : qdq LP w Br M L AO cO bs q G X) {x : Rg.St} (hx : Lies X X.heap.size 6 x.A x.g.qaa.length (Gm.qab x.g.qaa)) (hxG : x.g.qaa.length ≠ 0 -> ∀ ad, x.A = some ad -> G ad.block /\ ∀ g, (Value.slice AO L.length cO).ownBlock = some g -> ad.block ≠ g) (hn : L.length <= 1000) (hqD : q.g.qaa.length ≠ 0 -> ∀ ad, q.A = some ad -> ∀ g, (Value.slice AO L.length cO).ownBlock = some g -> ad.block ≠ g) (ty : TypeId) :
 ∃ A' c' X', (Builtin.append_ #[42, 42] ty #[.slice AO L.length cO, .slice (some ⟨X.heap.size, 0, none⟩) 1 1]).run Tryz.prog (X.alloc (.cells x.arr 40)) = .ok (.slice A' (L.length + 1) c') X' /\
  ∃ G', qdq LP w Br M (L ++ [x]) A' c' bs q G' X' := by
 obtain ⟨i, hi, hz, hs, hby⟩ := qcV
 have hz76 : (Value.agg Im.zero).cells.size = 76 := Im.qar
 have h1 := h.call C (qac X (.cells x.arr 40))
 have B1 := Box.made X 40 x.arr
 have S1 : (X.alloc (.cells x.arr 40)).heap.size = X.heap.size + 1 := by simp
 have hx1 : Lies (X.alloc (.cells x.arr 40)) (X.alloc (.cells x.arr 40)).heap.size 6 x.A x.g.qaa.length (Gm.qab x.g.qaa) := hx.call (qac X _)
 have hxG1 : x.g.qaa.length ≠ 0 -> ∀ ad, x.A = some ad -> (G ad.block \/ (X.heap.size <= ad.block /\ ad.block < (X.alloc (.cells x.arr 40)).heap.size)) := fun h0 ad e => .inl (hxG h0 ad e).1
 obtain ⟨Y, hY⟩ : ∃ Y, Y = X.alloc (.cells x.arr 40) := ⟨_, rfl⟩
 rw [<- hY] at h1 B1 S1 hx1 hxG1 ⊢
 obtain ⟨A', c', X', r, o, g, h5⟩ := qeA (P := Tryz.prog) Y (ty := ty) Tryz.underlying42 hi hz hs rfl hz76 (by decide) h1.row (c := 1) (qfW B1) (qci x) (by unfold maxLen; omega) (by have := Nat.mul_le_mul (show L.length + 1 <= 1001 by omega) hby; omega) h1.hold.down.size
 obtain ⟨_, ⟨e0, h0⟩ | ⟨gb, cap, cur, e0, hgb, hgc, _⟩⟩ := id h1.row
 · have hl := h.ne
   omega
 · have eb : (Value.slice AO L.length cO).ownBlock = some gb := by rw [e0]; rfl
   obtain ⟨hgG, hgne⟩ := h1.rowG gb eb
   have ho : Only gb Y X' := ⟨g.os, g.tape, g.output, g.size, fun k hk hne => g.block k hk (by rw [eb]; intro e; injection e with e; exact hne e)⟩
   have hold2 : P15 LP w Br M (fun j => (G j \/ (X.heap.size <= j /\ j < Y.heap.size)) \/ (Y.heap.size <= j /\ j < X'.heap.size)) X' := by
    obtain ⟨F, f1, f2, f3⟩ := h1.hold
    refine ⟨F, C.keep f1 (qaQ.qkJ ho) (fun j hf he => ?_), fun j hj => ?_, f3.trans (ho.below (f2 gb hgG).2.1 f3.size)⟩
    · subst he; exact (f2 _ hgG).1 hf
    · rcases hj with hj | ⟨hj, hj2⟩
      · exact ⟨(f2 j hj).1, (f2 j hj).2.1, Nat.lt_of_lt_of_le (f2 j hj).2.2 ho.size⟩
      · exact ⟨fun hf => by have := (C.up f1 _ hf).2; omega, Nat.le_trans f3.size hj, hj2⟩
   refine ⟨A', c', X', r, _, hold2, ?_, fun g' eg => ?_, fun g' eg y hy h0 ad ea => ?_, fun y hy => ?_, ho.box h1.st (Ne.symm hgne), .inl h1.stG, by rw [List.length_append]; exact Nat.lt_of_lt_of_le h1.ne (Nat.le_add_right _ _), qba h1.qs.1 ho.size fun h0 ad e => ho.block _ (h1.hold.lt (h1.qs.2 h0 ad e)).2 (hqD h0 ad e gb eb), fun h0 ad e => .inl (h1.qs.2 h0 ad e)⟩
   · rw [List.length_append, List.flatMap_append, List.flatMap_cons, List.flatMap_nil, List.append_nil]
     exact o
   · rw [List.length_append] at eg
     rcases h5 with h5 | h5
     · have e2 : some gb = some g' := eb.symm.trans (h5.symm.trans eg)
       injection e2 with e2
       subst e2
       exact ⟨.inl hgG, hgne⟩
     · have e2 : some Y.heap.size = some g' := h5.symm.trans eg
       injection e2 with e2
       subst e2
       refine ⟨.inr ⟨Nat.le_refl _, ?_⟩, fun e => by have := h1.st.lt; omega⟩
       obtain ⟨_, ⟨q0, hq0⟩ | ⟨gq, _, _, q0, _, hq, _⟩⟩ := o
       · omega
       · rw [q0] at h5
         have e3 : some gq = some Y.heap.size := h5
         injection e3 with e3
         rw [<- e3]
         exact (Array.getElem?_eq_some_iff.1 hq).1
   · rw [List.length_append] at eg
     have hlt : ad.block < Y.heap.size := by
      rcases List.mem_append.1 hy with hy | hy
      · obtain ⟨ad', ea', hb'⟩ := (h1.sh y hy).1.start h0
        rw [ea] at ea'; injection ea' with ea'; rw [ea']; exact hb'
      · obtain rfl := List.mem_singleton.1 hy
        obtain ⟨ad', ea', hb'⟩ := hx1.start h0
        rw [ea] at ea'; injection ea' with ea'; rw [ea']; exact hb'
     rcases h5 with h5 | h5
     · have e2 : some gb = some g' := eb.symm.trans (h5.symm.trans eg)
       injection e2 with e2
       subst e2
       rcases List.mem_append.1 hy with hy | hy
       · exact h1.rowD gb eb y hy h0 ad ea
       · obtain rfl := List.mem_singleton.1 hy
         exact (hxG h0 ad ea).2 gb eb
     · have e2 : some Y.heap.size = some g' := h5.symm.trans eg
       injection e2 with e2
       omega
   · rcases List.mem_append.1 hy with hy | hy
     · exact ⟨qba (h1.sh y hy).1 ho.size fun h0 ad e => ho.block _ (h1.hold.lt ((h1.sh y hy).2 h0 ad e)).2 (h1.rowD gb eb y hy h0 ad e), fun h0 ad e => .inl ((h1.sh y hy).2 h0 ad e)⟩
     · obtain rfl := List.mem_singleton.1 hy
       exact ⟨qba hx1 ho.size fun h0 ad e => ho.block _ (h1.hold.lt (hxG1 h0 ad e)).2 ((hxG h0 ad e).2 gb eb), fun h0 ad e => .inl (hxG1 h0 ad e)⟩
end
theorem qbW.more {Q Q' : Nat -> Prop} {B : Nat} {X : World} (h : qbW Q B X) (hq : ∀ k, Q k -> Q' k) : qbW Q' B X := by
 obtain ⟨A, n, c, e, hA⟩ := h
 exact ⟨A, n, c, e, fun ad ea => hq _ (hA ad ea)⟩
theorem qa1.kept {Q : Nat -> Prop} {B : Nat} {L : List Rg.St} {X X' : World} (h : qa1 B L X) (hq : qbW Q B X) (hs : X.heap.size <= X'.heap.size) (hB : X'.heap[B]? = X.heap[B]?) (hk : ∀ k, Q k -> X'.heap[k]? = X.heap[k]?) (hsh : ∀ x ∈ L, x.g.qaa.length ≠ 0 -> ∀ ad, x.A = some ad -> Q ad.block) : qa1 B L X' /\ qbW Q B X' := by
 obtain ⟨A, c, hb, hr, hc, hm⟩ := h.box
 obtain ⟨A', n', c', e, hA⟩ := hq
 have k0 : X.cell? ⟨B, 0, none⟩ = some (.slice A L.length c) := hb.cell 0
 rw [k0] at e
 injection e with e
 injection e with e1 e2 e3
 subst e1
 have hb' : Box X' B 57 #[.slice A L.length c] := ⟨hB.trans hb.is⟩
 exact ⟨⟨A, c, hb', ⟨hr.len, qba hr.row hs (fun _ ad e => hk _ (hA ad e)), fun x hx => qba (hr.qaa x hx) hs fun h0 ad e => hk _ (hsh x hx h0 ad e)⟩, hc, hm⟩, A, _, _, hb'.cell 0, hA⟩
structure TwoR (LP : qdG) (w : World) (Br Bm : Nat) (M : List Fd.S) (L : List Rg.St) (AO : Option Addr) (ML : List Rg.St) (G : Nat -> Prop) (X : World) : Prop where
 hold : P15 LP w Br M G X
 row : Lies X X.heap.size 76 AO L.length (L.flatMap Rg.St.cells)
 rowG : ∀ ad, AO = some ad -> G ad.block /\ ad.block ≠ Bm
 sh : ∀ x ∈ L, Lies X X.heap.size 6 x.A x.g.qaa.length (Gm.qab x.g.qaa)
 shG : ∀ x ∈ L, x.g.qaa.length ≠ 0 -> ∀ ad, x.A = some ad -> (G ad.block \/ ad.block < w.heap.size) /\ ad.block ≠ Bm
 ring : qa1 Bm ML X
 stG : G Bm
 rin : qbW (fun k => (G k \/ k < w.heap.size) /\ k ≠ Bm) Bm X
 rsh : ∀ x ∈ ML, x.g.qaa.length ≠ 0 -> ∀ ad, x.A = some ad -> (G ad.block \/ ad.block < w.heap.size) /\ ad.block ≠ Bm
section
variable {LP : qdG} {w : World} {Br Bm : Nat} {M M' : List Fd.S} {L : List Rg.St} {AO : Option Addr} {ML ML' : List Rg.St} {G G' : Nat -> Prop} {X X' : World}
theorem TwoR.kept (h : TwoR LP w Br Bm M L AO ML G X) (hh : P15 LP w Br M' G' X') (hs : X.heap.size <= X'.heap.size) (hG : ∀ j, G j -> G' j) (hk : ∀ j, G j -> X'.heap[j]? = X.heap[j]?) : TwoR LP w Br Bm M' L AO ML G' X' := by
 have hq : ∀ k, ((G k \/ k < w.heap.size) /\ k ≠ Bm) -> X'.heap[k]? = X.heap[k]? := fun k hk' => by
  rcases hk'.1 with h1 | h1
  · exact hk k h1
  · exact (hh.down.block k h1).trans (h.hold.down.block k h1).symm
 obtain ⟨r1, r2⟩ := h.ring.kept h.rin hs (hk Bm h.stG) hq h.rsh
 exact ⟨hh, qba h.row hs (fun _ ad e => hk _ (h.rowG ad e).1), fun ad e => ⟨hG _ (h.rowG ad e).1, (h.rowG ad e).2⟩, fun x hx => qba (h.sh x hx) hs fun h0 ad e => hq _ (h.shG x hx h0 ad e), fun x hx h0 ad e => ⟨(h.shG x hx h0 ad e).1.imp (hG _) id, (h.shG x hx h0 ad e).2⟩, r1, hG _ h.stG, r2.more fun k hk' => ⟨hk'.1.imp (hG k) id, hk'.2⟩, fun x hx h0 ad e => ⟨(h.rsh x hx h0 ad e).1.imp (hG _) id, (h.rsh x hx h0 ad e).2⟩⟩
theorem TwoR.says (h : TwoR LP w Br Bm M L AO ML G X) (hh : P15 LP w Br M' G X') (hk : qe7 G X X') (hs : X.heap.size <= X'.heap.size) : TwoR LP w Br Bm M' L AO ML G X' := h.kept hh hs (fun _ h => h) hk
theorem TwoR.rows (h : TwoR LP w Br Bm M L AO ML G X) : qdU X AO L.length L := ⟨rfl, h.row, h.sh⟩
variable (C : qhg LP)
include C
theorem TwoR.call (h : TwoR LP w Br Bm M L AO ML G X) (hb : Below X.heap.size X X') : TwoR LP w Br Bm M L AO ML (fun j => G j \/ (X.heap.size <= j /\ j < X'.heap.size)) X' :=
 h.kept (qbd.more C.ob h.hold hb) hb.size (fun _ h => .inl h) fun j hj => hb.block j (h.hold.lt hj).2
theorem TwoR.mine (h : TwoR LP w Br Bm M L AO ML G X) (hne : ML'.length ≠ 0) (ho : Only Bm X X') (hr : qa1 Bm ML' X') (hi : qbW (fun k => ((G k \/ k < w.heap.size) /\ k ≠ Bm) \/ X.heap.size <= k) Bm X') (hsh : ∀ x ∈ ML', x.g.qaa.length ≠ 0 -> ∀ ad, x.A = some ad -> (G ad.block \/ ad.block < w.heap.size) /\ ad.block ≠ Bm) : TwoR LP w Br Bm M L AO ML' (fun j => G j \/ (X.heap.size <= j /\ j < X'.heap.size)) X' := by
 have hlt := h.hold.lt h.stG
 have hb : ∀ j, G j -> j ≠ Bm -> X'.heap[j]? = X.heap[j]? := fun j hj hne => ho.block j (h.hold.lt hj).2 hne
 have hP : P15 LP w Br M (fun j => G j \/ (X.heap.size <= j /\ j < X'.heap.size)) X' := by
  obtain ⟨F, f1, f2, f3⟩ := h.hold
  refine ⟨F, C.ob.keep f1 (qaQ.qkJ ho) (fun j hf he => ?_), fun j hj => ?_, f3.trans (ho.below (f2 Bm h.stG).2.1 f3.size)⟩
  · subst he; exact (f2 _ h.stG).1 hf
  · rcases hj with hj | ⟨hj, hj2⟩
    · exact ⟨(f2 j hj).1, (f2 j hj).2.1, Nat.lt_of_lt_of_le (f2 j hj).2.2 ho.size⟩
    · exact ⟨fun hf => by have := (C.ob.up f1 _ hf).2; omega, Nat.le_trans f3.size hj, hj2⟩
 refine ⟨hP, qba h.row ho.size (fun _ ad e => hb _ (h.rowG ad e).1 (h.rowG ad e).2), fun ad e => ⟨.inl (h.rowG ad e).1, (h.rowG ad e).2⟩, fun x hx => qba (h.sh x hx) ho.size fun h0 ad e => (h.shG x hx h0 ad e).1.elim (fun hg => hb _ hg (h.shG x hx h0 ad e).2) (fun hl => ho.block _ (Nat.lt_of_lt_of_le hl h.hold.down.size) (h.shG x hx h0 ad e).2), fun x hx h0 ad e => ⟨(h.shG x hx h0 ad e).1.imp .inl id, (h.shG x hx h0 ad e).2⟩, hr, .inl h.stG, ?_, fun x hx h0 ad e => ⟨(hsh x hx h0 ad e).1.imp .inl id, (hsh x hx h0 ad e).2⟩⟩
 obtain ⟨A, c, hbx, hrw, _, _⟩ := hr.box
 obtain ⟨A', n', c', e, hA⟩ := hi
 have k0 : X'.cell? ⟨Bm, 0, none⟩ = some (.slice A ML'.length c) := hbx.cell 0
 rw [k0] at e
 injection e with e
 injection e with e1 e2 e3
 subst e1
 refine ⟨A, _, _, k0, fun ad ea => ?_⟩
 obtain ⟨ad', ea', hl⟩ := hrw.row.start hne
 rw [ea] at ea'
 injection ea' with ea'
 subst ea'
 rcases hA ad ea with h1 | h1
 · exact ⟨h1.1.imp .inl id, h1.2⟩
 · exact ⟨.inl (.inr ⟨h1, hl⟩), fun e => by omega⟩
end
end Go.Proofs.YtbdlpbnfcnhajaaGreat