/-
Several texts in one: Ry Qub Quc Qud Qug Quh Sa Obb Coa Cob Coc Cod Cof Cka.
-/
import Derived.Test.YtmiopphcfdlneaaGreatCx8
set_option maxRecDepth 100000
set_option maxHeartbeats 8000000
set_option linter.unusedVariables false
set_option linter.unusedSimpArgs false
namespace Qu
open Go Go.RowKit
def qao (i : Gm.In) : Array Value := #[.int .i8 i.x, .int .i8 i.y, .int .u8 i.b]
end Qu
namespace Go.Proofs.YtmiopphcfdlneaaGreat
open Go.RowKit
section
variable {w : World} {B n : Nat} {t : TypeId} {f : Nat -> Value}
end
theorem qf6 : (Tryz.prog.info? 48).map (·.size) = some (#[Value.int .i8 0, .int .i8 0, .int .u8 0] : Array Value).size := by kernel_rfl
theorem qeO {w : World} {P : Nat} {a b c : Value} (h : Box w P 48 #[a, b, c]) (i : Gm.In) :
 Box (((w.setCell ⟨P, 0, none⟩ (.int .i8 i.x)).setCell ⟨P, 1, none⟩ (.int .i8 i.y)).setCell ⟨P, 2, none⟩ (.int .u8 i.b)) P 48 (Qu.qao i) := ((h.put 0 _).put 1 _).put 2 _
theorem qe3 {b P : Nat} {w w' : World} (h : Below b w w') (hb : b <= P) (u v x : Value) : Below b w (((w'.setCell ⟨P, 0, none⟩ u).setCell ⟨P, 1, none⟩ v).setCell ⟨P, 2, none⟩ x) :=
 ((h.setCell (p := ⟨P, 0, none⟩) hb u).setCell (p := ⟨P, 1, none⟩) hb v).setCell (p := ⟨P, 2, none⟩) hb x
theorem qqq {w : World} {P g : Nat} {t : TypeId} {cs : Array Value} (h : Box w g t cs) (hg : g ≠ P) (u v x : Value) : Box (((w.setCell ⟨P, 0, none⟩ u).setCell ⟨P, 1, none⟩ v).setCell ⟨P, 2, none⟩ x) g t cs :=
 ((h.far (p := ⟨P, 0, none⟩) hg u).far (p := ⟨P, 1, none⟩) hg v).far (p := ⟨P, 2, none⟩) hg x
end Go.Proofs.YtmiopphcfdlneaaGreat
namespace Qu
open Go Go.RowKit
theorem qqN (i : Gm.In) : inB i = decide (-127 <= i.x /\ -127 <= i.y) := rfl
end Qu
namespace Go.Proofs.YtmiopphcfdlneaaGreat
open Go.RowKit
end Go.Proofs.YtmiopphcfdlneaaGreat
namespace Qu
open Go Go.RowKit
end Qu
namespace Go.Proofs.YtmiopphcfdlneaaGreat
open Go.RowKit
abbrev QuP := Nat -> (Nat -> Prop) -> Nat -> Qu.M -> World -> Prop
structure qcq (LP : QuP) : Prop where
 ob : ObjC LP
 new : ∀ (b : Nat) (f : Int) (i : Gm.In) (X : World), b <= X.heap.size -> 0 <= f /\ f <= 1099511627776 -> Gm.tyIn i -> Calls Tryz.prog 35 #[.int .i64 f, .agg (Qu.qao i)] X fun e X' => ∃ B F, e = .returned (.pointer (some ⟨B, 0, none⟩)) /\ LP b F B (Qu.new f i) X' /\ Below X.heap.size X X' /\ ∀ k, F k -> X.heap.size <= k
 put : ∀ (b : Nat) (F : Nat -> Prop) (B : Nat) (m : Qu.M), m.Ok -> ∀ (f : Int) (i : Gm.In), -9223372036854775808 <= f /\ f <= 9223372036854775807 -> Gm.tyIn i -> ∀ X, LP b F B m X -> b <= X.heap.size -> Calls Tryz.prog 58 #[.pointer (some ⟨B, 0, none⟩), .int .i64 f, .agg (Qu.qao i)] X (qbN LP b F B (Qu.put m f i) (.bool (Qu.qbT m f i)) X)
 at_ : ∀ (b : Nat) (F : Nat -> Prop) (B : Nat) (m : Qu.M), m.Ok -> ∀ (f : Int), 0 <= f /\ f <= 1099511627776 -> ∀ X, LP b F B m X -> Calls Tryz.prog 86 #[.pointer (some ⟨B, 0, none⟩), .int .i64 f] X fun e X' => e = .returned (.tuple #[.agg (Qu.qao (Qu.at_ m f).1), .bool (Qu.at_ m f).2]) /\ Below X.heap.size X X'
 done : ∀ (b : Nat) (F : Nat -> Prop) (B : Nat) (m : Qu.M), m.Ok -> m.from_ < 1099511627776 -> ∀ (i : Gm.In), Gm.tyIn i -> ∀ X, LP b F B m X -> b <= X.heap.size -> Calls Tryz.prog 102 #[.pointer (some ⟨B, 0, none⟩), .agg (Qu.qao i)] X (qbN LP b F B (Qu.done m i) (.tuple #[]) X)
 put0 : ∀ (f x y b : Int) X, Calls Tryz.prog 58 #[.pointer none, .int .i64 f, .agg #[.int .i8 x, .int .i8 y, .int .u8 b]] X fun e X' => e = .returned (.bool false) /\ Below X.heap.size X X'
 at0 : ∀ (f : Int) X, Calls Tryz.prog 86 #[.pointer none, .int .i64 f] X fun e X' => e = .returned (.tuple #[.agg #[.int .i8 0, .int .i8 0, .int .u8 0], .bool false]) /\ Below X.heap.size X X'
section
variable {LP : QuP} (C : qcq LP) {w : World} {B : Nat} {m : Qu.M} {G : Nat -> Prop} {X X' : World}
include C
end
open Go.RowKit Go.Shelf
def splice (cs : Array Value) (o : Nat) (l : List Value) : Array Value := (cs.toList.take o ++ l ++ cs.toList.drop (o + l.length)).toArray
theorem qks (cs : Array Value) (o : Nat) (v : Value) (l : List Value) (h : o + (l.length + 1) <= cs.size) : splice (cs.setIfInBounds o v) (o + 1) l = splice cs o (v :: l) := by
 unfold splice
 congr 1
 rw [Array.toList_setIfInBounds, List.length_cons]
 have ho : o < cs.toList.length := by rw [Array.length_toList]; omega
 rw [List.take_set, List.drop_set, if_pos (by omega), List.append_assoc, List.append_assoc]
 rw [show o + 1 + l.length = o + (l.length + 1) by omega]
 rw [List.take_add_one, List.getElem?_eq_getElem ho, Option.toList_some, List.set_append_right _ _ (by rw [List.length_take]; omega)]
 rw [List.length_take, Nat.min_eq_left (by omega), Nat.sub_self]
 simp
theorem qbP (g : Nat) (t : TypeId) : ∀ (l : List Value) (o : Nat) (cs : Array Value) (w : World), w.heap[g]? = some (.cells cs t (0, 0)) -> o + l.length <= cs.size -> w.setCells g o l = w.setRow g (splice cs o l)
 | [], o, cs, w, hg, hl => by
  have e : splice cs o [] = cs := by unfold splice; simp
  rw [e]
  show w = _
  have hv : w.heap[g]'(Array.getElem?_eq_some_iff.1 hg).1 = .cells cs t (0, 0) := (Array.getElem?_eq_some_iff.1 hg).2
  unfold World.setRow
  cases w with
  | mk heap tape drawn os output =>
   congr 1
   apply Array.ext
   · simp
   · intro k h1 h2
     simp only [Array.getElem_modify]
     split
     · rename_i hk; subst hk; simp at hv; simp [hv]
     · rfl
 | v :: l, o, cs, w, hg, hl => by
  rw [List.length_cons] at hl
  rw [World.setCells, setCell_eq_setRow w g o cs t (0, 0) v hg, qbP g t l (o + 1) _ _ (setRow_heap w g cs _ t _ hg) (by rw [Array.size_setIfInBounds]; omega), setRow_setRow, qks cs o v l hl]
theorem Im.qec (g : Gm.G) (s : Value) (r : Ros.R) : (Im.cells g s r).toList = (Gm.cells g s).toList ++ (Ros.cells r).toList := by unfold Im.cells; rw [Array.toList_append]
theorem Im.qo5 (g g' : Gm.G) (s s' : Value) (r : Ros.R) : splice (Im.cells g s r) 0 (Gm.cells g' s').toList = Im.cells g' s' r := by
 unfold splice
 rw [Im.qec, List.take_zero, List.nil_append, Nat.zero_add, List.drop_left' (by rw [Array.length_toList, Array.length_toList, Gm.qaf, Gm.qaf]), <- Im.qec, Array.toArray_toList]
theorem Im.qo4 (g : Gm.G) (s : Value) (r r' : Ros.R) : splice (Im.cells g s r) 59 (Ros.cells r').toList = Im.cells g s r' := by
 have e : (59 : Nat) = (Gm.cells g s).toList.length := by rw [Array.length_toList, Gm.qaf]
 have e2 : ((Gm.cells g s).toList ++ (Ros.cells r).toList).length <= 59 + (Ros.cells r').toList.length := by rw [List.length_append, Array.length_toList, Array.length_toList, Array.length_toList, Gm.qaf, Ros.qaf, Ros.qaf]; omega
 unfold splice
 rw [Im.qec, List.drop_of_length_le e2, List.append_nil, List.take_left' e.symm, <- Im.qec, Array.toArray_toList]
theorem qoq (g : Gm.G) (s : Value) (r : Ros.R) (hs : s.oneCell' = true) : (Im.cells g s r).all (·.oneCell') = true := by
 refine Array.all_eq_true_iff_forall_mem.2 fun v hv => ?_
 rcases Array.mem_append.1 hv with h | h
 · exact Array.all_eq_true_iff_forall_mem.1 (cells_one g s hs) v h
 · exact Array.all_eq_true_iff_forall_mem.1 (qbr r) v h
section
variable {ops : Array Oper} {rest : List Oper} {o : Oper} {a : Act} {w : World} {Q : Exit -> Act -> World -> Prop} {x y : Operand} {dst : Option Tmp} {p v : Value}
theorem qcY (hgd : o.guard = none) (ho : o.op = .load 36 x) (h : qaC ops Q rest o.dst (a.eval x) 59 (fun _ _ r => Ros.cells r) a w) : wpList Tryz.prog ops Q (o :: rest) a w := by
 obtain ⟨B, g, s, r, hx, hB, h⟩ := h
 refine qbH hgd ho hx hB (Ros.cells r).toList (fun j v hv => ?_) Tryz.underlying36 rfl qah h
 rw [Im.qez]
 simpa using hv
def qe9 (ops : Array Oper) (Q : Exit -> Act -> World -> Prop) (rest : List Oper) (dst : Option Tmp) (p v : Value) (a : Act) (w : World) : Prop :=
 ∃ (B : Nat) (g : Gm.G) (s : Value) (r : Ros.R) (g' : Gm.G) (s' : Value), p = .pointer (some ⟨B, 0, none⟩) /\ v = .agg (Gm.cells g' s') /\ Box w B 38 (Im.cells g s r) /\ s'.oneCell' = true /\ wpList Tryz.prog ops Q rest (a.put dst undef) (w.setRow B (Im.cells g' s' r))
theorem qe9.mk {B : Nat} {g : Gm.G} {s : Value} {r : Ros.R} {g' : Gm.G} {s' : Value} (hp : p = .pointer (some ⟨B, 0, none⟩)) (hv : v = .agg (Gm.cells g' s')) (hB : Box w B 38 (Im.cells g s r)) (hs : s'.oneCell' = true)
 (h : wpList Tryz.prog ops Q rest (a.put dst undef) (w.setRow B (Im.cells g' s' r))) : qe9 ops Q rest dst p v a w := ⟨B, g, s, r, g', s', hp, hv, hB, hs, h⟩
theorem Box.there {g : Nat} {t : TypeId} {cs : Array Value} (h : Box w g t cs) (f n : Nat) (hf : f + n <= cs.size) : w.there g f n := fun j hj => ⟨by rw [h.cell, Array.getElem?_eq_getElem (by omega)]; rfl, h.free _⟩
theorem qbU (hgd : o.guard = none) (ho : o.op = .store 31 x y) (h : qe9 ops Q rest o.dst (a.eval x) (a.eval y) a w) : wpList Tryz.prog ops Q (o :: rest) a w := by
 obtain ⟨B, g, s, r, g', s', hx, hy, hB, hs, h⟩ := h
 refine wpList_store_mid hgd 31 x y ho B 0 (Gm.cells g' s') hx hy (hB.there 0 _ (by rw [Im.qaf, Gm.qaf]; omega)) qbh (cells_one _ _ hs) ?_
 rw [qbP B 38 _ 0 (Im.cells g s r) w hB.is (by rw [Im.qaf, Array.length_toList, Gm.qaf]; omega), Im.qo5]
 exact h
def qhn (ops : Array Oper) (Q : Exit -> Act -> World -> Prop) (rest : List Oper) (dst : Option Tmp) (p v : Value) (a : Act) (w : World) : Prop :=
 ∃ (B : Nat) (g : Gm.G) (s : Value) (r r' : Ros.R), p = .pointer (some ⟨B, 59, none⟩) /\ v = .agg (Ros.cells r') /\ Box w B 38 (Im.cells g s r) /\ wpList Tryz.prog ops Q rest (a.put dst undef) (w.setRow B (Im.cells g s r'))
theorem qhn.mk {B : Nat} {g : Gm.G} {s : Value} {r r' : Ros.R} (hp : p = .pointer (some ⟨B, 59, none⟩)) (hv : v = .agg (Ros.cells r')) (hB : Box w B 38 (Im.cells g s r))
 (h : wpList Tryz.prog ops Q rest (a.put dst undef) (w.setRow B (Im.cells g s r'))) : qhn ops Q rest dst p v a w := ⟨B, g, s, r, r', hp, hv, hB, h⟩
theorem qdc (hgd : o.guard = none) (ho : o.op = .store 36 x y) (h : qhn ops Q rest o.dst (a.eval x) (a.eval y) a w) : wpList Tryz.prog ops Q (o :: rest) a w := by
 obtain ⟨B, g, s, r, r', hx, hy, hB, h⟩ := h
 refine wpList_store_mid hgd 36 x y ho B 59 (Ros.cells r') hx hy (hB.there 59 _ (by rw [Im.qaf, Ros.qaf]; omega)) qah (qbr _) ?_
 rw [qbP B 38 _ 59 (Im.cells g s r) w hB.is (by rw [Im.qaf, Array.length_toList, Ros.qaf]; omega), Im.qo4]
 exact h
def qcj (ops : Array Oper) (Q : Exit -> Act -> World -> Prop) (rest : List Oper) (dst : Option Tmp) (p v : Value) (a : Act) (w : World) : Prop :=
 ∃ (B : Nat) (old : Array Value) (g' : Gm.G) (s' : Value) (r' : Ros.R), p = .pointer (some ⟨B, 0, none⟩) /\ v = .agg (Im.cells g' s' r') /\ Box w B 38 old /\ old.size = 76 /\ s'.oneCell' = true /\ wpList Tryz.prog ops Q rest (a.put dst undef) (w.setRow B (Im.cells g' s' r'))
theorem qcj.mk {B : Nat} {old : Array Value} {g' : Gm.G} {s' : Value} {r' : Ros.R} (hp : p = .pointer (some ⟨B, 0, none⟩)) (hv : v = .agg (Im.cells g' s' r')) (hB : Box w B 38 old) (ho : old.size = 76) (hs : s'.oneCell' = true)
 (h : wpList Tryz.prog ops Q rest (a.put dst undef) (w.setRow B (Im.cells g' s' r'))) : qcj ops Q rest dst p v a w := ⟨B, old, g', s', r', hp, hv, hB, ho, hs, h⟩
theorem qaI (hgd : o.guard = none) (ho : o.op = .store 38 x y) (h : qcj ops Q rest o.dst (a.eval x) (a.eval y) a w) : wpList Tryz.prog ops Q (o :: rest) a w := by
 obtain ⟨B, old, g', s', r', hx, hy, hB, h76, hs, h⟩ := h
 exact qbw hgd ho hx hy hB (by rw [Im.qaf]; exact qax) (by rw [Im.qaf]; exact h76) (qoq _ _ _ hs) h
end
structure qbA {μ : Type} (LP : Nat -> (Nat -> Prop) -> Nat -> μ -> World -> Prop) (w : World) (B : Nat) (m : μ) (L : List (Nat × TypeId × Array Value)) (X : World) : Prop where
 hold : qb1 LP w B m (fun j => ∃ p ∈ L, p.1 = j) X
 boxes : ∀ p ∈ L, Box X p.1 p.2.1 p.2.2
section
variable {μ : Type} {LP : Nat -> (Nat -> Prop) -> Nat -> μ -> World -> Prop} {w : World} {B : Nat} {m m' : μ} {L L' : List (Nat × TypeId × Array Value)} {X X' : World}
theorem qbA.down (h : qbA LP w B m L X) : Below w.heap.size w X := h.hold.down
theorem qbA.box {b : Nat} {t : TypeId} {cs : Array Value} (h : qbA LP w B m L X) (hm : (b, t, cs) ∈ L) : Box X b t cs := h.boxes _ hm
theorem qbA.says (h : qbA LP w B m L X) (h' : qb1 LP w B m' (fun j => ∃ p ∈ L, p.1 = j) X') (hk : qlD (fun j => ∃ p ∈ L, p.1 = j) X X') : qbA LP w B m' L X' :=
 ⟨h', fun p hp => hk.box ⟨p, hp, rfl⟩ (h.boxes p hp)⟩
variable (C : ObjC LP)
include C
theorem qbA.call (h : qbA LP w B m L X) (hb : Below X.heap.size X X') : qbA LP w B m L X' :=
 ⟨h.hold.below C hb, fun p hp => (h.boxes p hp).below hb (h.boxes p hp).lt⟩
theorem qbA.alloc (h : qbA LP w B m L X) (cs : Array Value) (t : TypeId) : qbA LP w B m ((X.heap.size, t, cs) :: L) (X.alloc (.cells cs t)) := by
 refine ⟨(h.hold.alloc C (.cells cs t)).less fun j hj => ?_, fun p hp => ?_⟩
 · obtain ⟨p, hp, rfl⟩ := hj
   rcases List.mem_cons.1 hp with rfl | hp
   · exact .inr rfl
   · exact .inl ⟨p, hp, rfl⟩
 · rcases List.mem_cons.1 hp with rfl | hp
   · exact Box.made X t cs
   · exact (h.boxes p hp).alloc _
theorem qbA.row {b : Nat} {t : TypeId} {cs : Array Value} (h : qbA LP w B m ((b, t, cs) :: L) X) (hd : ∀ p ∈ L, p.1 ≠ b) (cs' : Array Value) : qbA LP w B m ((b, t, cs') :: L) (X.setRow b cs') := by
 have ho : Only b X (X.setRow b cs') := ⟨rfl, rfl, rfl, by rw [setRow_size]; exact Nat.le_refl _, fun k _ hne => setRow_other X b k cs' hne⟩
 refine ⟨(h.hold.only C (g := b) ⟨_, List.mem_cons_self, rfl⟩ ho).less fun j hj => ?_, fun p hp => ?_⟩
 · obtain ⟨p, hp, rfl⟩ := hj
   rcases List.mem_cons.1 hp with rfl | hp
   · exact ⟨_, List.mem_cons_self, rfl⟩
   · exact ⟨p, List.mem_cons_of_mem _ hp, rfl⟩
 · rcases List.mem_cons.1 hp with rfl | hp
   · exact (h.boxes _ List.mem_cons_self).row cs'
   · exact (h.boxes p (List.mem_cons_of_mem _ hp)).qbn (hd p hp) cs'
end
end Go.Proofs.YtmiopphcfdlneaaGreat
namespace Go.Proofs.YtmiopphcfdlneaaGreat.Co
open Go Go.RowKit
def in0 : Gm.In := ⟨0, 0, 0⟩
structure M where
 conf : Fd.S
 shown : Fd.S
 q : Nat -> Qu.M
 qa3 : List (Nat -> Gm.In)
def vec (r : Ros.R) (q : Nat -> Qu.M) (f : Int) : Nat -> Gm.In := fun k => if k < 8 /\ 0 <= r.peer k then (Qu.at_ (q k) f).1 else in0
def new (s : Fd.S) : M := ⟨s, s, fun _ => Qu.new s.g.frame in0, []⟩
noncomputable def on1 (r : Ros.R) (q : Nat -> Qu.M) (s : Fd.S) : Option Fd.S := Fd.apply s ⟨s.g.frame, [], vec r q s.g.frame⟩
noncomputable def goN (r : Ros.R) (q : Nat -> Qu.M) : Nat -> Fd.S × List (Nat -> Gm.In) -> Fd.S × List (Nat -> Gm.In)
 | 0, x => x
 | n + 1, x => match on1 r q x.1 with
  | some t => goN r q n (t, x.2 ++ [vec r q x.1.g.frame])
  | none => x
noncomputable def anew (m : M) (fr : Int) : M :=
 let x := goN m.conf.r m.q (fr - m.conf.g.frame).toNat (m.conf, [])
 { m with shown := x.1, qa3 := x.2 }
def qcm (m : M) (slot gen frame : Int) (i : Gm.In) : Bool := decide (0 <= slot /\ slot < 8 /\ 0 <= m.conf.r.peer slot.toNat /\ m.conf.r.gen slot.toNat = gen) && Qu.qbT (m.q slot.toNat) frame i
noncomputable def input (m : M) (slot gen frame : Int) (i : Gm.In) : M :=
 if qcm m slot gen frame i = true then
  let n : M := { m with q := Qu.upd m.q slot.toNat (Qu.put (m.q slot.toNat) frame i) }
  if frame < m.shown.g.frame then anew n m.shown.g.frame else n
 else m
def qbt (m : M) : Int := if 8 <= m.shown.g.frame - m.conf.g.frame then 6 else if 1048576 <= m.shown.g.frame then 7 else 0
noncomputable def advance (m : M) : M :=
 if qbt m = 0 then
  let x := goN m.conf.r m.q 1 (m.shown, m.qa3)
  { m with shown := x.1, qa3 := x.2 }
 else m
def newQ (f : Int) (p : Nat -> Gm.In) : List En.Ev -> (Nat -> Qu.M) -> Nat -> Qu.M
 | [], q => q
 | v :: l, q => newQ f p l (Qu.upd q v.slot.toNat (Qu.new f (p v.slot.toNat)))
noncomputable def confirm (m : M) (e : En.E) : Option M :=
 (Fd.apply m.conf e).map fun s =>
  anew { m with conf := s, q := newQ s.g.frame e.inp e.evs fun k => Qu.done (m.q k) (e.inp k) } (max m.shown.g.frame s.g.frame)
structure qdv (m : Qu.M) (f : Int) : Prop where
 ok : m.Ok
 at_ : m.from_ = f
 last : En.inOk m.last
 known : ∀ k v, m.known k = some v -> En.inOk v
theorem qjR : En.inOk in0 := by unfold En.inOk in0; decide
theorem qfK : Gm.tyIn in0 := by unfold Gm.tyIn in0; decide
theorem qgc : En.zero in0 = true := by unfold En.zero in0; decide
theorem qoP {m : Qu.M} {f : Int} (h : qdv m f) (d : Nat) : ∀ i, En.inOk (Qu.atN m d i).1 /\ Gm.tyIn (Qu.atN m d i).1
 | 0 => ⟨h.last, h.ok.last⟩
 | i + 1 => by
  unfold Qu.atN
  cases hk : m.known i with
  | none => exact qoP h d i
  | some v =>
   dsimp only
   split
   · exact ⟨h.known i v hk, (h.ok.known i v hk).2⟩
   · exact qoP h d i
theorem qq4 {m : Qu.M} {f : Int} (h : qdv m f) (g : Int) : En.inOk (Qu.at_ m g).1 /\ Gm.tyIn (Qu.at_ m g).1 := by
 unfold Qu.at_
 split
 · exact ⟨h.last, h.ok.last⟩
 · exact qoP h _ 64
theorem qpX {r : Ros.R} {q : Nat -> Qu.M} {f : Int} (h : ∀ k, k < 8 -> qdv (q k) f) (g : Int) (k : Nat) : En.inOk (vec r q g k) /\ Gm.tyIn (vec r q g k) := by
 unfold vec
 split
 · rename_i hk; exact qq4 (h k hk.1) g
 · exact ⟨qjR, qfK⟩
theorem qoW (r : Ros.R) (q : Nat -> Qu.M) (g : Int) : Fd.Idle r (vec r q g) := fun k hk hp => by
 unfold vec
 rw [if_neg (by omega)]
 exact qgc
theorem qfq {r : Ros.R} {q : Nat -> Qu.M} {f : Int} {s : Fd.S} (hs : Fd.Fine s) (hr : s.r = r) (hq : ∀ k, k < 8 -> qdv (q k) f) (hf : s.g.frame < 1048576) : on1 r q s = some ⟨Gm.step (vec r q s.g.frame) s.g, s.r⟩ := by
 unfold on1
 rw [Fd.qcG ⟨hs.ok, ⟨⟨hs.ok.1.1, hf⟩, by exact trivial, fun i hi => (qpX hq _ i).1⟩, rfl⟩]
 rw [Fd.qex, Option.bind_some]
 rw [if_pos (by rw [hr]; exact qoW _ _ _)]
theorem qga {r : Ros.R} {q : Nat -> Qu.M} {s t : Fd.S} (hs : Fd.Fine s) (h : on1 r q s = some t) : Fd.Fine t /\ t.g.frame = s.g.frame + 1 /\ t.r = s.r := by
 obtain ⟨h1, h2, _⟩ := hs.apply h
 refine ⟨h1, h2, ?_⟩
 obtain ⟨_, u, hu, _, rfl⟩ := Fd.qcw h
 have : Fd.changes s [] = some u := hu
 rw [Fd.qex] at this
 injection this with this
 rw [this]
end Go.Proofs.YtmiopphcfdlneaaGreat.Co
namespace Go.Proofs.YtmiopphcfdlneaaGreat.Co
open Go Go.RowKit
theorem qfu {r : Ros.R} {q : Nat -> Qu.M} {f : Int} (hq : ∀ k, k < 8 -> qdv (q k) f) : ∀ (n : Nat) (s : Fd.S) (g : List (Nat -> Gm.In)), Fd.Fine s -> s.r = r -> s.g.frame + n <= 1048576 ->
 ∃ t l, goN r q n (s, g) = (t, g ++ l) /\ Fd.Fine t /\ t.r = r /\ t.g.frame = s.g.frame + n /\ l.length = n /\ ∀ i, i < n -> l[i]? = some (vec r q (s.g.frame + i))
 | 0, s, g, hs, hr, hf => ⟨s, [], by rw [List.append_nil]; rfl, hs, hr, by omega, rfl, fun i hi => absurd hi (Nat.not_lt_zero _)⟩
 | n + 1, s, g, hs, hr, hf => by
  have h1 := qfq hs hr hq (show s.g.frame < 1048576 by omega)
  obtain ⟨f1, f2, f3⟩ := qga hs h1
  obtain ⟨t, l, e, ht, hrt, hft, hl, hi⟩ := qfu hq n _ (g ++ [vec r q s.g.frame]) f1 (f3.trans hr) (by rw [f2]; omega)
  refine ⟨t, vec r q s.g.frame :: l, ?_, ht, hrt, by rw [hft, f2]; omega, by rw [List.length_cons, hl], fun i hin => ?_⟩
  · rw [List.append_assoc] at e
    rw [<- show g ++ ([vec r q s.g.frame] ++ l) = g ++ vec r q s.g.frame :: l from rfl, <- e]
    show (match on1 r q s with | some t => goN r q n (t, g ++ [vec r q s.g.frame]) | none => (s, g)) = _
    rw [h1]
  · cases i with
    | zero => show some _ = some (vec r q (s.g.frame + (0 : Nat))); rw [show s.g.frame + ((0 : Nat) : Int) = s.g.frame by omega]
    | succ i =>
     show l[i]? = _
     rw [hi i (by omega), f2]
     congr 2
     omega
theorem qk9 (r : Ros.R) (q : Nat -> Qu.M) : ∀ (a b : Nat) (x : Fd.S × List (Nat -> Gm.In)), (∀ y, goN r q a x = y -> on1 r q y.1 = none -> b = 0 \/ True) -> ∀ t, goN r q a x = t -> (∀ c, c < a -> ∃ u, on1 r q (goN r q c x).1 = some u) -> goN r q (a + b) x = goN r q b t
 | 0, b, x, _, t, e, _ => by rw [Nat.zero_add, <- e]; rfl
 | a + 1, b, x, _, t, e, hc => by
  obtain ⟨u, hu⟩ := hc 0 (by omega)
  have hu' : on1 r q x.1 = some u := hu
  rw [show a + 1 + b = (a + b) + 1 by omega]
  show (match on1 r q x.1 with | some t => goN r q (a + b) (t, x.2 ++ [vec r q x.1.g.frame]) | none => x) = _
  have e' : (match on1 r q x.1 with | some t => goN r q a (t, x.2 ++ [vec r q x.1.g.frame]) | none => x) = t := e
  rw [hu'] at e' ⊢
  refine qk9 r q a b _ (fun _ _ _ => .inr trivial) t e' fun c hca => ?_
  obtain ⟨v, hv⟩ := hc (c + 1) (by omega)
  have : goN r q (c + 1) x = goN r q c (u, x.2 ++ [vec r q x.1.g.frame]) := by
   show (match on1 r q x.1 with | some t => goN r q c (t, x.2 ++ [vec r q x.1.g.frame]) | none => x) = _
   rw [hu']
  rw [this] at hv
  exact ⟨v, hv⟩
structure Ok (m : M) : Prop where
 conf : Fd.Fine m.conf
 shown : Fd.Fine m.shown
 ros : m.shown.r = m.conf.r
 q : ∀ k, k < 8 -> qdv (m.q k) m.conf.g.frame
 low : m.conf.g.frame <= m.shown.g.frame /\ m.shown.g.frame <= m.conf.g.frame + 8
 is : goN m.conf.r m.q (m.shown.g.frame - m.conf.g.frame).toNat (m.conf, []) = (m.shown, m.qa3)
 len : (m.qa3.length : Int) = m.shown.g.frame - m.conf.g.frame
theorem Ok.qa3 {m : M} (h : Ok m) (i : Nat) (hi : i < m.qa3.length) : m.qa3[i]? = some (vec m.conf.r m.q (m.conf.g.frame + i)) := by
 obtain ⟨t, l, e, _, _, _, hl, hg⟩ := qfu h.q (m.shown.g.frame - m.conf.g.frame).toNat m.conf [] h.conf rfl (by have := h.shown.ok.1.2.1; have := h.low; omega)
 rw [h.is] at e
 injection e with e1 e2
 rw [e2]
 exact hg i (by rw [e2, List.nil_append] at hi; omega)
theorem qjy {f : Int} {i : Gm.In} (hf : 0 <= f /\ f <= 1048576) (ho : En.inOk i) (ht : Gm.tyIn i) : qdv (Qu.new f i) f :=
 ⟨Qu.qlQ (by omega) ht, rfl, ho, fun k v h => by cases h⟩
theorem qlQ {s : Fd.S} (hs : Fd.Fine s) : Ok (new s) := by
 have hf : 0 <= s.g.frame /\ s.g.frame <= 1048576 := ⟨hs.ok.1.1, hs.ok.1.2.1⟩
 refine ⟨hs, hs, rfl, fun k _ => qjy hf qjR qfK, by show s.g.frame <= s.g.frame /\ s.g.frame <= s.g.frame + 8; omega, ?_, ?_⟩
 · show goN s.r _ (s.g.frame - s.g.frame).toNat (s, []) = (s, [])
   rw [Int.sub_self]; rfl
 · show ((0 : Nat) : Int) = s.g.frame - s.g.frame
   omega
theorem qdX {m : M} (hc : Fd.Fine m.conf) (hq : ∀ k, k < 8 -> qdv (m.q k) m.conf.g.frame) (fr : Int) (h1 : m.conf.g.frame <= fr) (h2 : fr <= m.conf.g.frame + 8) (h3 : fr <= 1048576) : Ok (anew m fr) /\ (anew m fr).shown.g.frame = fr /\ (anew m fr).conf = m.conf /\ (anew m fr).q = m.q := by
 obtain ⟨t, l, e, ht, hr, hf, hl, _⟩ := qfu hq (fr - m.conf.g.frame).toNat m.conf [] hc rfl (by omega)
 have hft : t.g.frame = fr := by rw [hf]; omega
 have ea : anew m fr = { m with shown := t, qa3 := l } := by
  unfold anew
  rw [e]
  rfl
 rw [ea]
 refine ⟨⟨hc, ht, hr, hq, by show m.conf.g.frame <= t.g.frame /\ t.g.frame <= m.conf.g.frame + 8; omega, ?_, ?_⟩, hft, rfl, rfl⟩
 · show goN m.conf.r m.q (t.g.frame - m.conf.g.frame).toNat (m.conf, []) = (t, l)
   rw [hft, e]; rfl
 · show (l.length : Int) = t.g.frame - m.conf.g.frame
   omega
end Go.Proofs.YtmiopphcfdlneaaGreat.Co
namespace Go.Proofs.YtmiopphcfdlneaaGreat.Co
open Go Go.RowKit
theorem qgI {m : Qu.M} {f : Int} (h : qdv m f) (g : Int) {i : Gm.In} (ht : Gm.tyIn i) : qdv (Qu.put m g i) f := by
 by_cases hp : Qu.qbT m g i = true
 · have e : Qu.put m g i = { m with known := Qu.upd m.known (g - m.from_).toNat (some i) } := by unfold Qu.put; rw [if_pos hp]
   have hin : En.inOk i := by
    unfold Qu.qbT at hp
    rw [Bool.and_eq_true, Bool.and_eq_true] at hp
    have := hp.1.1
    unfold Qu.inB at this
    exact of_decide_eq_true this
   refine ⟨Qu.qqF h.ok g ht, ?_, ?_, fun k v hk => ?_⟩
   · rw [e]; exact h.at_
   · rw [e]; exact h.last
   · rw [e] at hk
     have hk' : Qu.upd m.known (g - m.from_).toNat (some i) k = some v := hk
     by_cases hkk : k = (g - m.from_).toNat
     · rw [hkk, Qu.upd_same] at hk'
       injection hk' with hk'
       rw [<- hk']
       exact hin
     · rw [Qu.qam _ _ hkk] at hk'
       exact h.known k v hk'
 · have e : Qu.put m g i = m := by unfold Qu.put; rw [if_neg hp]
   rw [e]; exact h
theorem qhO {m : Qu.M} {f : Int} (h : qdv m f) {i : Gm.In} (hf : f <= 1048576) (ho : En.inOk i) (ht : Gm.tyIn i) : qdv (Qu.done m i) (f + 1) := by
 have hfr := h.ok.from_
 refine ⟨⟨by show 0 <= m.from_ + 1 /\ m.from_ + 1 <= 1099511627776; have := h.at_; omega, ht, fun k v hk => ?_⟩, by show m.from_ + 1 = f + 1; rw [h.at_], ho, fun k v hk => ?_⟩
 · have hk' : (if k < 63 then m.known (k + 1) else none) = some v := hk
   split at hk'
   · rename_i h63
     exact ⟨by omega, (h.ok.known _ v hk').2⟩
   · cases hk'
 · have hk' : (if k < 63 then m.known (k + 1) else none) = some v := hk
   split at hk'
   · exact h.known _ v hk'
   · cases hk'
theorem qgR {f : Int} {p : Nat -> Gm.In} (hf : 0 <= f /\ f <= 1048576) (hp : ∀ k, k < 8 -> En.inOk (p k) /\ Gm.tyIn (p k)) : ∀ (l : List En.Ev) (q : Nat -> Qu.M), (∀ v ∈ l, v.slot.toNat < 8) -> (∀ k, k < 8 -> qdv (q k) f) -> ∀ k, k < 8 -> qdv (newQ f p l q k) f
 | [], q, _, hq, k, hk => hq k hk
 | v :: l, q, hl, hq, k, hk => by
  refine qgR hf hp l _ (fun u hu => hl u (List.mem_cons_of_mem _ hu)) (fun j hj => ?_) k hk
  by_cases hjv : j = v.slot.toNat
  · rw [hjv, Qu.upd_same]
    have := hp _ (hl v List.mem_cons_self)
    exact qjy hf this.1 this.2
  · rw [Qu.qam _ _ hjv]; exact hq j hj
theorem qoO {m : Qu.M} {k : Nat} {v : Gm.In} (hk : m.known k = none) (d : Nat) (hd : d < k) : ∀ n, Qu.atN { m with known := Qu.upd m.known k (some v) } d n = Qu.atN m d n
 | 0 => rfl
 | n + 1 => by
  have ih := qoO (v := v) hk d hd n
  unfold Qu.atN
  by_cases hn : n = k
  · subst hn
    show (match Qu.upd m.known n (some v) n with | some v => if n <= d then (v, decide (d = n)) else Qu.atN _ d n | none => Qu.atN _ d n) = _
    rw [Qu.upd_same, hk]
    dsimp only
    rw [if_neg (by omega)]
    exact ih
  · show (match Qu.upd m.known k (some v) n with | some v => if n <= d then (v, decide (d = n)) else Qu.atN _ d n | none => Qu.atN _ d n) = _
    rw [Qu.qam _ _ hn]
    cases m.known n with
    | none => exact ih
    | some u =>
     dsimp only
     rw [ih]
theorem qp0 (m : Qu.M) (f g : Int) (i : Gm.In) (h : g < f) : Qu.at_ (Qu.put m f i) g = Qu.at_ m g := by
 by_cases hp : Qu.qbT m f i = true
 · have e : Qu.put m f i = { m with known := Qu.upd m.known (f - m.from_).toNat (some i) } := by unfold Qu.put; rw [if_pos hp]
   have hq := hp
   unfold Qu.qbT at hq
   rw [Bool.and_eq_true, Bool.and_eq_true] at hq
   have hn : m.known (f - m.from_).toNat = none := by simpa using hq.2
   have hf := of_decide_eq_true hq.1.2
   rw [e]
   unfold Qu.at_
   dsimp only
   by_cases hg : g < m.from_
   · rw [if_pos hg, if_pos hg]
   · rw [if_neg hg, if_neg hg]
     exact qoO hn _ (by omega) 64
 · have e : Qu.put m f i = m := by unfold Qu.put; rw [if_neg hp]
   rw [e]
theorem qg2 {r : Ros.R} {q q' : Nat -> Qu.M} : ∀ (n : Nat) (s : Fd.S) (g : List (Nat -> Gm.In)), Fd.Fine s -> (∀ j : Int, s.g.frame <= j -> j < s.g.frame + n -> vec r q j = vec r q' j) -> goN r q n (s, g) = goN r q' n (s, g)
 | 0, _, _, _, _ => rfl
 | n + 1, s, g, hs, h => by
  have hv := h s.g.frame (Int.le_refl _) (by omega)
  have e1 : on1 r q s = on1 r q' s := by unfold on1; rw [hv]
  show (match on1 r q s with | some t => goN r q n (t, g ++ [vec r q s.g.frame]) | none => (s, g)) = (match on1 r q' s with | some t => goN r q' n (t, g ++ [vec r q' s.g.frame]) | none => (s, g))
  rw [e1, hv]
  cases ho : on1 r q' s with
  | none => rfl
  | some t =>
   obtain ⟨h1, h2, _⟩ := qga hs ho
   exact qg2 n t _ h1 fun j hj1 hj2 => h j (by omega) (by omega)
theorem qnl {r : Ros.R} {q : Nat -> Qu.M} (k : Nat) (f g : Int) (i : Gm.In) (h : g < f) : vec r (Qu.upd q k (Qu.put (q k) f i)) g = vec r q g := by
 funext j
 unfold vec
 split
 · by_cases hj : j = k
   · rw [hj, Qu.upd_same, qp0 _ _ _ _ h]
   · rw [Qu.qam _ _ hj]
 · rfl
theorem qpC {m : M} (h : Ok m) (slot gen frame : Int) {i : Gm.In} (ht : Gm.tyIn i) : Ok (input m slot gen frame i) := by
 unfold input
 by_cases hb : qcm m slot gen frame i = true
 · rw [if_pos hb]
   have hq : ∀ k, k < 8 -> qdv (Qu.upd m.q slot.toNat (Qu.put (m.q slot.toNat) frame i) k) m.conf.g.frame := fun k hk => by
    by_cases hks : k = slot.toNat
    · rw [hks, Qu.upd_same]; exact qgI (h.q _ (by omega)) _ ht
    · rw [Qu.qam _ _ hks]; exact h.q k hk
   have hlo := h.low
   have hmx := h.shown.ok.1.2.1
   dsimp only
   by_cases hf : frame < m.shown.g.frame
   · rw [if_pos hf]
     exact (qdX (m := { m with q := Qu.upd m.q slot.toNat (Qu.put (m.q slot.toNat) frame i) }) h.conf hq m.shown.g.frame hlo.1 hlo.2 hmx).1
   · rw [if_neg hf]
     refine ⟨h.conf, h.shown, h.ros, hq, hlo, ?_, h.len⟩
     show goN m.conf.r (Qu.upd m.q slot.toNat (Qu.put (m.q slot.toNat) frame i)) (m.shown.g.frame - m.conf.g.frame).toNat (m.conf, []) = (m.shown, m.qa3)
     rw [qg2 (q' := m.q) _ _ _ h.conf fun j h1 h2 => qnl _ _ _ _ (by omega)]
     exact h.is
 · rw [if_neg hb]; exact h
theorem qio : ∀ (l : List En.Ev) (last : Int), En.Row last l -> ∀ v ∈ l, En.evOk v
 | [], _, _, v, hv => nomatch hv
 | u :: l, last, h, v, hv => by
  rcases List.mem_cons.1 hv with rfl | hv
  · exact h.1.1
  · exact qio l _ h.2 v hv
theorem qfw {m n : M} (h : Ok m) {e : En.E} (he : ∀ k, k < 8 -> Gm.tyIn (e.inp k)) (hc : confirm m e = some n) : Ok n /\ n.conf.g.frame = m.conf.g.frame + 1 /\ n.shown.g.frame = max m.shown.g.frame (m.conf.g.frame + 1) := by
 unfold confirm at hc
 cases ha : Fd.apply m.conf e with
 | none => rw [ha] at hc; cases hc
 | some s =>
  rw [ha] at hc
  injection hc with hc
  subst hc
  obtain ⟨hm, _⟩ := Fd.qcw ha
  obtain ⟨f1, f2, f3⟩ := h.conf.apply ha
  have hlo := h.low
  have hmx := h.shown.ok.1.2.1
  have hmc := f1.ok.1.2.1
  have hm0 := h.conf.ok.1.1
  have hev : ∀ v ∈ e.evs, v.slot.toNat < 8 := fun v hv => by have := (qio _ _ hm.2.1.row v hv).2.1; omega
  have hin : ∀ k, k < 8 -> En.inOk (e.inp k) /\ Gm.tyIn (e.inp k) := fun k hk => ⟨hm.2.1.ins k hk, he k hk⟩
  have hq : ∀ k, k < 8 -> qdv (newQ s.g.frame e.inp e.evs (fun k => Qu.done (m.q k) (e.inp k)) k) s.g.frame := qgR (by omega) hin e.evs _ hev fun k hk => by
   rw [f2]
   exact qhO (h.q k hk) (by omega) (hin k hk).1 (hin k hk).2
  obtain ⟨h1, h2, h3, _⟩ := qdX (m := { m with conf := s, q := newQ s.g.frame e.inp e.evs fun k => Qu.done (m.q k) (e.inp k) }) f1 hq (max m.shown.g.frame s.g.frame) (by show s.g.frame <= _; omega) (by show _ <= s.g.frame + 8; omega) (by omega)
  refine ⟨h1, ?_, ?_⟩
  · rw [h3]; exact f2
  · rw [h2, f2]
theorem qia {m : M} (h : Ok m) : Ok (advance m) := by
 unfold advance
 by_cases ha : qbt m = 0
 · rw [if_pos ha]
   have hlim : m.shown.g.frame - m.conf.g.frame < 8 /\ m.shown.g.frame < 1048576 := by
    unfold qbt at ha
    split at ha
    · omega
    · split at ha <;> omega
   have hs : m.shown.r = m.conf.r := h.ros
   have h1 := qfq h.shown hs h.q hlim.2
   obtain ⟨f1, f2, f3⟩ := qga h.shown h1
   have hlo := h.low
   have hx : goN m.conf.r m.q 1 (m.shown, m.qa3) = (⟨Gm.step (vec m.conf.r m.q m.shown.g.frame) m.shown.g, m.shown.r⟩, m.qa3 ++ [vec m.conf.r m.q m.shown.g.frame]) := by
    show (match on1 m.conf.r m.q m.shown with | some t => goN m.conf.r m.q 0 (t, m.qa3 ++ [vec m.conf.r m.q m.shown.g.frame]) | none => (m.shown, m.qa3)) = _
    rw [h1]
    rfl
   dsimp only
   rw [hx]
   dsimp only
   have f2' : (Gm.step (vec m.conf.r m.q m.shown.g.frame) m.shown.g).frame = m.shown.g.frame + 1 := f2
   refine ⟨h.conf, f1, f3.trans hs, h.q, ⟨by show m.conf.g.frame <= (Gm.step (vec m.conf.r m.q m.shown.g.frame) m.shown.g).frame; omega, by show (Gm.step (vec m.conf.r m.q m.shown.g.frame) m.shown.g).frame <= m.conf.g.frame + 8; omega⟩, ?_, by rw [List.length_append, f2]; have := h.len; simp; omega⟩
   obtain ⟨t, l, e, ht, hr, hf, hl, hg⟩ := qfu h.q (m.shown.g.frame - m.conf.g.frame).toNat m.conf [] h.conf rfl (by omega)
   rw [f2, show (m.shown.g.frame + 1 - m.conf.g.frame).toNat = (m.shown.g.frame - m.conf.g.frame).toNat + 1 by omega]
   rw [qk9 _ _ _ 1 _ (fun _ _ _ => .inr trivial) _ h.is fun c hc => ?_]
   · exact hx
   · obtain ⟨u, l', e', hu, hur, huf, _, _⟩ := qfu h.q c m.conf [] h.conf rfl (by omega)
     rw [e']
     exact ⟨_, qfq hu hur h.q (by rw [huf]; omega)⟩
 · rw [if_neg ha]; exact h
end Go.Proofs.YtmiopphcfdlneaaGreat.Co
namespace Go.Proofs.YtmiopphcfdlneaaGreat.Co
open Go Go.RowKit
theorem qee {m : Qu.M} {d n : Nat} (h : m.known n = none) : Qu.atN m d (n + 1) = Qu.atN m d n := by
 have e : Qu.atN m d (n + 1) = (match m.known n with | some v => if n <= d then (v, decide (d = n)) else Qu.atN m d n | none => Qu.atN m d n) := rfl
 rw [e, h]
end Go.Proofs.YtmiopphcfdlneaaGreat.Co
namespace Go.Proofs.YtmiopphcfdlneaaGreat.Co
open Go Go.RowKit
theorem qoo {m : M} {slot gen frame : Int} {i : Gm.In} (hb : qcm m slot gen frame i = true) : (input m slot gen frame i).conf = m.conf /\ (input m slot gen frame i).q = Qu.upd m.q slot.toNat (Qu.put (m.q slot.toNat) frame i) := by
 unfold input
 rw [if_pos hb]
 dsimp only
 split
 · exact ⟨rfl, rfl⟩
 · exact ⟨rfl, rfl⟩
theorem qqx {m : Qu.M} {f g : Int} {i : Gm.In} (hp : Qu.qbT m f i = true) (hfg : f <= g) (hn : ∀ k, m.known k = none) : (Qu.at_ (Qu.put m f i) g).1 = i := by
 have e : Qu.put m f i = { m with known := Qu.upd m.known (f - m.from_).toNat (some i) } := by unfold Qu.put; rw [if_pos hp]
 unfold Qu.qbT at hp
 rw [Bool.and_eq_true, Bool.and_eq_true] at hp
 have hf := of_decide_eq_true hp.1.2
 rw [e]
 unfold Qu.at_
 dsimp only
 rw [if_neg (by omega)]
 obtain ⟨a, ha⟩ : ∃ a, a = (f - m.from_).toNat := ⟨_, rfl⟩
 have key : ∀ n, a < n -> (Qu.atN { m with known := Qu.upd m.known a (some i) } (g - m.from_).toNat n).1 = i := fun n => by
  induction n with
  | zero => intro h; omega
  | succ n ih =>
   intro hlt
   by_cases hna : n = a
   · subst hna
     have := Qu.qbX (m := { m with known := Qu.upd m.known n (some i) }) (d := (g - m.from_).toNat) (i := n) (v := i) (Qu.upd_same _ _ _) (by omega)
     rw [this]
   · have hk : ({ m with known := Qu.upd m.known a (some i) } : Qu.M).known n = none := by
      show Qu.upd m.known a (some i) n = none
      rw [Qu.qam _ _ hna]; exact hn n
     rw [qee hk]
     exact ih (by omega)
 rw [<- ha]
 exact key 64 (by omega)
theorem qhS (f : Int) (p : Nat -> Gm.In) (k : Nat) : ∀ (l : List En.Ev) (q : Nat -> Qu.M), (∀ v ∈ l, v.slot.toNat ≠ k) -> newQ f p l q k = q k
 | [], _, _ => rfl
 | v :: l, q, h => by
  show newQ f p l (Qu.upd q v.slot.toNat (Qu.new f (p v.slot.toNat))) k = q k
  rw [qhS f p k l _ fun u hu => h u (List.mem_cons_of_mem _ hu), Qu.qam _ _ (Ne.symm (h v List.mem_cons_self))]
theorem qhT (f : Int) (p : Nat -> Gm.In) (k : Nat) : ∀ (l : List En.Ev) (q : Nat -> Qu.M), (∃ v ∈ l, v.slot.toNat = k) -> newQ f p l q k = Qu.new f (p k)
 | [], _, h => by obtain ⟨v, hv, _⟩ := h; cases hv
 | v :: l, q, h => by
  show newQ f p l (Qu.upd q v.slot.toNat (Qu.new f (p v.slot.toNat))) k = _
  by_cases hl : ∃ u ∈ l, u.slot.toNat = k
  · exact qhT f p k l _ hl
  · have hv : v.slot.toNat = k := by
     obtain ⟨u, hu, hk⟩ := h
     rcases List.mem_cons.1 hu with rfl | hu
     · exact hk
     · exact absurd ⟨u, hu, hk⟩ hl
    rw [qhS f p k l _ fun u hu hk => hl ⟨u, hu, hk⟩, hv, Qu.upd_same]
theorem at_new (f g : Int) (i : Gm.In) : (Qu.at_ (Qu.new f i) g).1 = i := by
 unfold Qu.at_
 split
 · rfl
 · have : ∀ n, (Qu.atN (Qu.new f i) (g - (Qu.new f i).from_).toNat n).1 = i := fun n => by
    induction n with
    | zero => rfl
    | succ n ih => rw [qee rfl]; exact ih
   exact this 64
end Go.Proofs.YtmiopphcfdlneaaGreat.Co
namespace Go.Proofs.YtmiopphcfdlneaaGreat
open Go.RowKit
theorem qaB.wider {F G : Nat -> Prop} {X X' : World} (h : qaB F X X') (hs : ∀ j, F j -> G j) : qaB G X X' :=
 ⟨h.os, h.tape, h.output, h.size, fun k hk hn => h.block k hk fun hf => hn (hs k hf)⟩
structure InO {μ : Type} (LP : Nat -> (Nat -> Prop) -> Nat -> μ -> World -> Prop) (b : Nat) (F0 : Nat -> Prop) (X0 : World) (B : Nat) (m : μ) (L : List (Nat × TypeId × Array Value)) (X : World) : Prop where
 fr : ∃ F, LP b F B m X /\ (∀ k, F k -> F0 k \/ X0.heap.size <= k) /\ (∀ p ∈ L, ¬ F p.1)
 keep : qaB F0 X0 X
 own : ∀ p ∈ L, X0.heap.size <= p.1 /\ Box X p.1 p.2.1 p.2.2
 low : b <= X0.heap.size
section
variable {μ : Type} {LP : Nat -> (Nat -> Prop) -> Nat -> μ -> World -> Prop} {b B : Nat} {F0 : Nat -> Prop} {X0 X X' : World} {m m' : μ} {L L' : List (Nat × TypeId × Array Value)}
theorem InO.start (h : LP b F0 B m X) (hb : b <= X.heap.size) : InO LP b F0 X B m [] X :=
 ⟨⟨F0, h, fun _ h => .inl h, fun p hp => absurd hp List.not_mem_nil⟩, qaB.refl _ _, fun p hp => absurd hp List.not_mem_nil, hb⟩
theorem InO.box {g : Nat} {t : TypeId} {cs : Array Value} (h : InO LP b F0 X0 B m L X) (hm : (g, t, cs) ∈ L) : Box X g t cs := (h.own _ hm).2
theorem InO.less (h : InO LP b F0 X0 B m L X) (hs : ∀ p ∈ L', p ∈ L) : InO LP b F0 X0 B m L' X := by
 obtain ⟨F, h1, h2, h3⟩ := h.fr
 exact ⟨⟨F, h1, h2, fun p hp => h3 p (hs p hp)⟩, h.keep, fun p hp => h.own p (hs p hp), h.low⟩
theorem InO.says {r : Value} (h : InO LP b F0 X0 B m L X) : qbN LP b F0 B m r X0 (.returned r) X := by
 obtain ⟨F, h1, h2, _⟩ := h.fr
 exact ⟨rfl, F, h2, h1, h.keep⟩
theorem InO.down (h : InO LP b F0 X0 B m L X) : b <= X.heap.size := Nat.le_trans h.low h.keep.size
theorem InO.ask {f : FuncId} {args : Array Value} {r : Value} (h : InO LP b F0 X0 B m L X) (hc : ∀ F, LP b F B m X -> Calls Tryz.prog f args X (qbN LP b F B m' r X)) : Calls Tryz.prog f args X fun e X' => e = .returned r /\ InO LP b F0 X0 B m' L X' := by
 obtain ⟨F, h1, h2, h3⟩ := h.fr
 refine (hc F h1).mono fun e X' hh => ?_
 obtain ⟨rfl, F', hF, hL, hK⟩ := hh
 refine ⟨rfl, ⟨F', hL, fun k hk => ?_, fun p hp hf => ?_⟩, h.keep.trans hK h2, fun p hp => ?_, h.low⟩
 · rcases hF k hk with hk | hk
   · exact h2 k hk
   · exact .inr (Nat.le_trans h.keep.size hk)
 · have hlt := (h.own p hp).2.lt
   rcases hF _ hf with hf | hf
   · exact h3 p hp hf
   · omega
 · exact ⟨(h.own p hp).1, ⟨(hK.block _ (h.own p hp).2.lt (h3 p hp)).trans (h.own p hp).2.is⟩⟩
variable (C : ObjC LP)
include C
theorem InO.call (h : InO LP b F0 X0 B m L X) (hb : Below X.heap.size X X') : InO LP b F0 X0 B m L X' := by
 obtain ⟨F, h1, h2, h3⟩ := h.fr
 exact ⟨⟨F, C.keep h1 (qaB.qa9 hb) (fun _ _ h => h), h2, h3⟩, h.keep.call hb, fun p hp => ⟨(h.own p hp).1, (h.own p hp).2.below hb (h.own p hp).2.lt⟩, h.low⟩
theorem InO.alloc (h : InO LP b F0 X0 B m L X) (cs : Array Value) (t : TypeId) : InO LP b F0 X0 B m ((X.heap.size, t, cs) :: L) (X.alloc (.cells cs t)) := by
 obtain ⟨F, h1, h2, h3⟩ := h.fr
 have hb := qac X (.cells cs t)
 refine ⟨⟨F, C.keep h1 (qaB.qa9 hb) (fun _ _ h => h), h2, fun p hp => ?_⟩, h.keep.call hb, fun p hp => ?_, h.low⟩
 · rcases List.mem_cons.1 hp with rfl | hp
   · intro hf
     have := (C.up h1 _ hf).2
     exact Nat.lt_irrefl _ this
   · exact h3 p hp
 · rcases List.mem_cons.1 hp with rfl | hp
   · exact ⟨h.keep.size, Box.made X t cs⟩
   · exact ⟨(h.own p hp).1, (h.own p hp).2.alloc _⟩
end
namespace Ck
structure K where
 R : Nat
 Q : Nat -> Nat
 M : List Fd.S
 q : Nat -> Qu.M
def ptr (n : Nat) : Value := .pointer (some ⟨n, 0, none⟩)
def cells (R : Nat) (Q : Nat -> Nat) : Array Value := #[ptr R, ptr (Q 0), ptr (Q 1), ptr (Q 2), ptr (Q 3), ptr (Q 4), ptr (Q 5), ptr (Q 6), ptr (Q 7)]
theorem qaY (R : Nat) (Q : Nat -> Nat) (k : Nat) (hk : k < 8) : (cells R Q)[1 + k]? = some (ptr (Q k)) := by
 match k, hk with
 | 0, _ => rfl
 | 1, _ => rfl
 | 2, _ => rfl
 | 3, _ => rfl
 | 4, _ => rfl
 | 5, _ => rfl
 | 6, _ => rfl
 | 7, _ => rfl
theorem qoJ (R : Nat) (Q : Nat -> Nat) (k N : Nat) (hk : k < 8) : (cells R Q).setIfInBounds (1 + k) (ptr N) = cells R (Qu.upd Q k N) := by
 match k, hk with
 | 0, _ => rfl
 | 1, _ => rfl
 | 2, _ => rfl
 | 3, _ => rfl
 | 4, _ => rfl
 | 5, _ => rfl
 | 6, _ => rfl
 | 7, _ => rfl
end Ck
structure qaS (RP : qcJ) (QP : QuP) (b : Nat) (F : Nat -> Prop) (B : Nat) (m : Ck.K) (X : World) : Prop where
 box : Box X B 88 (Ck.cells m.R m.Q)
 fr : ∃ (FR : Nat -> Prop) (FQ : Nat -> Nat -> Prop), RP b FR m.R m.M X /\ (∀ k, k < 8 -> QP b (FQ k) (m.Q k) (m.q k) X) /\ (∀ j, FR j -> F j /\ j ≠ B) /\ (∀ k j, k < 8 -> FQ k j -> F j /\ j ≠ B /\ ¬ FR j) /\ (∀ k k' j, k < 8 -> k' < 8 -> k ≠ k' -> FQ k j -> ¬ FQ k' j)
 own : F B
 up : ∀ k, F k -> b <= k /\ k < X.heap.size
section
variable {RP : qcJ} {QP : QuP} (CR : qdM RP) (CQ : qcq QP) {b B : Nat} {F : Nat -> Prop} {m : Ck.K} {X X' : World}
include CR CQ
theorem qaS.obj : ObjC (qaS RP QP) := by
 refine ⟨fun h => h.up, fun {b F B m X G X'} h hK hd => ?_⟩
 obtain ⟨FR, FQ, h1, h2, h3, h4, h5⟩ := h.fr
 refine ⟨⟨(hK.block B (h.up B h.own).2 (hd B h.own)).trans h.box.is⟩, ⟨FR, FQ, CR.ob.keep h1 hK fun j hj => hd j (h3 j hj).1, fun k hk => CQ.ob.keep (h2 k hk) hK fun j hj => hd j (h4 k j hk hj).1, h3, h4, h5⟩, h.own, fun k hk => ⟨(h.up k hk).1, Nat.lt_of_lt_of_le (h.up k hk).2 hK.size⟩⟩
theorem qaS.ring {f : FuncId} {args : Array Value} {M' : List Fd.S} {r : Value} (h : qaS RP QP b F B m X) (hc : ∀ FR, RP b FR m.R m.M X -> Calls Tryz.prog f args X (qbN RP b FR m.R M' r X)) : Calls Tryz.prog f args X (qbN (qaS RP QP) b F B { m with M := M' } r X) := by
 obtain ⟨FR, FQ, h1, h2, h3, h4, h5⟩ := h.fr
 refine (hc FR h1).mono fun e X' hh => ?_
 obtain ⟨rfl, FR', hF, hL, hK⟩ := hh
 have hsz := hK.size
 have hout : ∀ j, F j -> ¬ FR j -> ¬ FR' j := fun j hj hn hf => by
  rcases hF j hf with hf | hf
  · exact hn hf
  · have := (h.up j hj).2; omega
 refine ⟨rfl, fun j => F j \/ FR' j, fun k hk => ?_, ⟨⟨(hK.block B (h.up B h.own).2 fun hf => (h3 B hf).2 rfl).trans h.box.is⟩, ⟨FR', FQ, hL, fun k hk => CQ.ob.keep (h2 k hk) hK fun j hj => (h4 k j hk hj).2.2, fun j hj => ⟨.inr hj, fun e => ?_⟩, fun k j hk hj => ⟨.inl (h4 k j hk hj).1, (h4 k j hk hj).2.1, hout j (h4 k j hk hj).1 (h4 k j hk hj).2.2⟩, h5⟩, .inl h.own, fun k hk => ?_⟩, hK.wider fun j hj => (h3 j hj).1⟩
 · rcases hk with hk | hk
   · exact .inl hk
   · exact (hF k hk).imp (fun h => (h3 k h).1) id
 · subst e
   exact hout _ h.own (fun hf => (h3 _ hf).2 rfl) hj
 · rcases hk with hk | hk
   · exact ⟨(h.up k hk).1, Nat.lt_of_lt_of_le (h.up k hk).2 hsz⟩
   · exact CR.ob.up hL k hk
theorem qaS.queue {f : FuncId} {args : Array Value} {q' : Qu.M} {r : Value} (s : Nat) (hs : s < 8) (h : qaS RP QP b F B m X) (hc : ∀ FQ, QP b FQ (m.Q s) (m.q s) X -> Calls Tryz.prog f args X (qbN QP b FQ (m.Q s) q' r X)) : Calls Tryz.prog f args X (qbN (qaS RP QP) b F B { m with q := Qu.upd m.q s q' } r X) := by
 obtain ⟨FR, FQ, h1, h2, h3, h4, h5⟩ := h.fr
 refine (hc (FQ s) (h2 s hs)).mono fun e X' hh => ?_
 obtain ⟨rfl, FS, hF, hL, hK⟩ := hh
 have hsz := hK.size
 have hout : ∀ j, F j -> ¬ FQ s j -> ¬ FS j := fun j hj hn hf => by
  rcases hF j hf with hf | hf
  · exact hn hf
  · have := (h.up j hj).2; omega
 refine ⟨rfl, fun j => F j \/ FS j, fun k hk => ?_, ⟨⟨(hK.block B (h.up B h.own).2 fun hf => (h4 s B hs hf).2.1 rfl).trans h.box.is⟩, ⟨FR, Qu.upd FQ s FS, CR.ob.keep h1 hK fun j hj hq => (h4 s j hs hq).2.2 hj, fun k hk => ?_, fun j hj => ⟨.inl (h3 j hj).1, (h3 j hj).2⟩, fun k j hk hj => ?_, fun k k' j hk hk' hne hj hj' => ?_⟩, .inl h.own, fun k hk => ?_⟩, hK.wider fun j hj => (h4 s j hs hj).1⟩
 · rcases hk with hk | hk
   · exact .inl hk
   · exact (hF k hk).imp (fun h => (h4 s k hs h).1) id
 · show QP b (Qu.upd FQ s FS k) (m.Q k) (Qu.upd m.q s q' k) X'
   by_cases e : k = s
   · subst e; rw [Qu.upd_same, Qu.upd_same]; exact hL
   · rw [Qu.qam _ _ e, Qu.qam _ _ e]; exact CQ.ob.keep (h2 k hk) hK fun j hj => h5 k s j hk hs e hj
 · by_cases e : k = s
   · subst e
     rw [Qu.upd_same] at hj
     refine ⟨.inr hj, fun e => ?_, fun hr => ?_⟩
     · subst e; exact hout _ h.own (fun hf => (h4 k _ hs hf).2.1 rfl) hj
     · exact hout j (h3 j hr).1 (fun hf => (h4 k j hs hf).2.2 hr) hj
   · rw [Qu.qam _ _ e] at hj
     exact ⟨.inl (h4 k j hk hj).1, (h4 k j hk hj).2⟩
 · by_cases e : k = s
   · subst e
     rw [Qu.upd_same] at hj
     rw [Qu.qam _ _ (Ne.symm hne)] at hj'
     exact hout j (h4 k' j hk' hj').1 (fun hf => h5 k k' j hk hk' hne hf hj') hj
   · rw [Qu.qam _ _ e] at hj
     by_cases e' : k' = s
     · subst e'
       rw [Qu.upd_same] at hj'
       exact hout j (h4 k j hk hj).1 (fun hf => h5 k k' j hk hk' hne hj hf) hj'
     · rw [Qu.qam _ _ e'] at hj'
       exact h5 k k' j hk hk' hne hj hj'
 · rcases hk with hk | hk
   · exact ⟨(h.up k hk).1, Nat.lt_of_lt_of_le (h.up k hk).2 hsz⟩
   · exact CQ.ob.up hL k hk
theorem qaS.newq {FN : Nat -> Prop} {N : Nat} {q' : Qu.M} (s : Nat) (hs : s < 8) (h : qaS RP QP b F B m X) (hN : QP b FN N q' X) (hd : ∀ j, FN j -> ¬ F j) : qaS RP QP b (fun j => F j \/ FN j) B { m with Q := Qu.upd m.Q s N, q := Qu.upd m.q s q' } (X.setCell ⟨B, 1 + s, none⟩ (Ck.ptr N)) := by
 obtain ⟨FR, FQ, h1, h2, h3, h4, h5⟩ := h.fr
 have ho : Only B X (X.setCell ⟨B, 1 + s, none⟩ (Ck.ptr N)) := Only.set _ _ _
 have hK := qaB.qfr ho
 have hNB : ¬ FN B := fun hf => hd B hf h.own
 refine ⟨?_, ⟨FR, Qu.upd FQ s FN, CR.ob.keep h1 hK fun j hj e => (h3 j hj).2 e, fun k hk => ?_, fun j hj => ⟨.inl (h3 j hj).1, (h3 j hj).2⟩, fun k j hk hj => ?_, fun k k' j hk hk' hne hj hj' => ?_⟩, .inl h.own, fun k hk => ?_⟩
 · have := h.box.put (1 + s) (Ck.ptr N)
   rwa [Ck.qoJ _ _ _ _ hs] at this
 · show QP b (Qu.upd FQ s FN k) (Qu.upd m.Q s N k) (Qu.upd m.q s q' k) _
   by_cases e : k = s
   · subst e; rw [Qu.upd_same, Qu.upd_same, Qu.upd_same]; exact CQ.ob.keep hN hK fun j hj e => by subst e; exact hNB hj
   · rw [Qu.qam _ _ e, Qu.qam _ _ e, Qu.qam _ _ e]; exact CQ.ob.keep (h2 k hk) hK fun j hj e => (h4 k j hk hj).2.1 e
 · by_cases e : k = s
   · subst e
     rw [Qu.upd_same] at hj
     exact ⟨.inr hj, fun e => hNB (e ▸ hj), fun hr => hd j hj (h3 j hr).1⟩
   · rw [Qu.qam _ _ e] at hj
     exact ⟨.inl (h4 k j hk hj).1, (h4 k j hk hj).2⟩
 · by_cases e : k = s
   · subst e
     rw [Qu.upd_same] at hj
     rw [Qu.qam _ _ (Ne.symm hne)] at hj'
     exact hd j hj (h4 k' j hk' hj').1
   · rw [Qu.qam _ _ e] at hj
     by_cases e' : k' = s
     · subst e'
       rw [Qu.upd_same] at hj'
       exact hd j hj' (h4 k j hk hj).1
     · rw [Qu.qam _ _ e'] at hj'
       exact h5 k k' j hk hk' hne hj hj'
 · rw [World.size_setCell]
   rcases hk with hk | hk
   · exact h.up k hk
   · exact CQ.ob.up hN k hk
end
theorem qaS.qat {RP : qcJ} {QP : QuP} (CQ : qcq QP) {b B : Nat} {F : Nat -> Prop} {m : Ck.K} {X : World} (s : Nat) (hs : s < 8) (h : qaS RP QP b F B m X) (ho : (m.q s).Ok) (f : Int) (hf : 0 <= f /\ f <= 1099511627776) : Calls Tryz.prog 86 #[.pointer (some ⟨m.Q s, 0, none⟩), .int .i64 f] X fun e X' => e = .returned (.tuple #[.agg (Qu.qao (Qu.at_ (m.q s) f).1), .bool (Qu.at_ (m.q s) f).2]) /\ Below X.heap.size X X' := by
 obtain ⟨FR, FQ, h1, h2, h3, h4, h5⟩ := h.fr
 exact CQ.at_ b (FQ s) (m.Q s) (m.q s) ho f hf X (h2 s hs)
end Go.Proofs.YtmiopphcfdlneaaGreat