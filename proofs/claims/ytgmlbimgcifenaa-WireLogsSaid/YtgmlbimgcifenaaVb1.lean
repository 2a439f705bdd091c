/-
Several texts in one: Rn Uf Uh Ui Uj.
-/
import Derived.Test.YtgmlbimgcifenaaVp13
import Derived.Test.YtgmlbimgcifenaaVk1
import Derived.Laws.FloatArith
import Derived.Test.YtgmlbimgcifenaaRows
import Derived.WalkKit
import Derived.WalkSpells
import Derived.WalkLawsBesides
import Derived.Laws.Externs
import Derived.Laws.BitsAllLaws
import Derived.Lib.Hide
import Derived.LoopTactic
import Derived.Deep.QuietTactic
import Derived.BigQuiet
import Derived.Outline
import Derived.Laws.OwnMore
import Derived.Deep.Draws
import Derived.Laws.Rows
import Derived.Deep.MidRow
import Derived.Maps.AppendAt
import Derived.Deep.WholeRow
import Derived.Orders
import Derived.Tactics
import Derived.Tactics2
import Derived.KernelRfl
import Derived.StillTail
import Derived.Below
import Derived.RangeFuncNested
import Derived.RangeFuncBound
import Derived.RangeFuncCalls
import Derived.RangeFuncLeaves
import Derived.Shelf.Abstract
import Derived.Shelf.RegionOpen
import Derived.Laws.StructEq
import Derived.ChangeKeysEq
import Derived.Deep.CutRange
import Derived.Deep.CutBlock
import Derived.Deep.DeepCutAuto
import Derived.Deep.LoopGhost
import Derived.OwnWalkIn
import Derived.TacticsInMore
import Derived.LoopNIn
import Derived.LoopIn
import Derived.Laws.CopyOwn
import Derived.Laws.MakeOwn
import Derived.Defers
import Derived.Recover
import Derived.Laws.BytesArg
import Derived.Lib.Bytes
import Derived.Laws.ShiftsVarLaws
import Derived.RowKit
import GoSem.Claim
import Derived.ChangeShapes
import Derived.ProofKit
import Derived.OpenShut
import Derived.Carry
import Derived.Lib.SmallJoins
import Derived.ChangeOld
import Derived.ChangeArms
import Derived.Great.BuildSlice
namespace Sx
open Go Im
set_option linter.unusedVariables false
end Sx
namespace Go.Proofs.Ytgmlbimgcifenaa
open Go.RowKit Go.Shelf
set_option linter.unusedVariables false
set_option linter.unusedSimpArgs false

section
variable {B b : Nat} {w w' w'' : World}
end
section
variable {B : Nat} {w w' : World} {o : Option (List Int)}
end

theorem below_gone {B : Nat} {w0 w w' : World} {row : Option Nat} (h : Below B w0 w) (hg : w.grownBy w' row) (hr : ∀ r, row = some r → B ≤ r) (hB : B ≤ w0.heap.size) : Below B w0 w' :=
  ⟨hg.os.trans h.os, hg.tape.trans h.tape, hg.output.trans h.output, Nat.le_trans h.size hg.size, fun i hi => (hg.block i (Nat.lt_of_lt_of_le hi (Nat.le_trans hB h.size)) (fun e => by have := hr i e.symm; omega)).trans (h.block i hi)⟩
theorem own_at {w : World} {base : Nat} {e : TypeId} {size n : Nat} {v : Value} {xs : List Value} (h : w.ownsRow base e size v n xs) : ∀ r, v.ownBlock = some r → base ≤ r := fun r hr => by
  obtain ⟨_, ⟨rfl, _⟩ | ⟨g, cap, cur, rfl, hbg, _⟩⟩ := h
  · cases hr
  · have e' : g = r := by injection hr
    omega
end Go.Proofs.Ytgmlbimgcifenaa
namespace Kd
open Go
end Kd
namespace Go.Proofs.Ytgmlbimgcifenaa
open Go.RowKit Go.Shelf
set_option linter.unusedVariables false
set_option linter.unusedSimpArgs false

theorem mk_bytes (n : Nat) (h : n ≤ 1000) (W : World) : (Instr.makeSlice 27 (.int .i64 (n : Int)) (.int .i64 (n : Int))).run Try.prog W = .ok (.slice (some ⟨W.heap.size, 0, none⟩) n n) (W.alloc (.cells (madeCells (Value.int .u8 0).cells (n * 1)) 5)) := by
  obtain ⟨i0, hi0, hz0, hz1, hz2⟩ := u8_parts
  have := run_make (P := Try.prog) W 27 5 i0 _ Try.underlying27 hi0 hz0 .i64 .i64 n n (by omega) (Int.le_refl _) (by rw [hz2]; omega) (by omega)
  rw [this, hz1, Int.toNat_natCast]
end Go.Proofs.Ytgmlbimgcifenaa
namespace Go.Proofs.Ytgmlbimgcifenaa
open Go.RowKit Go.Shelf
set_option linter.unusedVariables false
set_option linter.unusedSimpArgs false

/-- A message whose log grows. -/
structure Gl (w : World) (B : Nat) (q : Ms.S) (X : World) : Prop where
  box : Box X B 29 q.cells
  own : X.ownsRow w.heap.size 53 26 (.slice q.al q.m.log.length q.cl) q.m.log.length (En.sCells q.m.log)
  kept : Below w.heap.size w X
  low : w.heap.size ≤ B
  bare : q.m.ins = [] ∧ q.m.data = []
  ents : ∀ s ∈ q.m.log, s.e.evs = [] ∧ s.adr = none ∧ s.cap = 0
theorem Gl.lies {w X : World} {B : Nat} {q : Ms.S} (h : Gl w B q X) (hl : q.m.log.length ≤ 1000) : LiesM X X.heap.size q := by
  refine ⟨?_, ⟨Lies.owned h.own, fun s hs => ?_, fun s hs => ?_⟩, ?_, by rw [h.bare.1]; exact Nat.zero_le _, by unfold maxLen; omega, by rw [h.bare.2]; exact Nat.zero_le _⟩
  · rw [h.bare.1]; exact Lies.empty
  · rw [(h.ents s hs).1]; exact Lies.empty
  · rw [(h.ents s hs).1]; exact Nat.zero_le _
  · rw [h.bare.2]; exact Lies.empty
theorem Gl.born {w X : World} (hb : Below w.heap.size w X) (m : Ms.M) (hi : m.ins = []) (hl : m.log = []) (hd : m.data = []) : Gl w X.heap.size ⟨m, none, 0, none, 0, none, 0⟩ (X.alloc (.cells (Ms.S.cells ⟨m, none, 0, none, 0, none, 0⟩) 29)) :=
  ⟨Box.made _ _ _, by dsimp only; rw [hl]; exact World.ownsRow_nil _ _ _ _, hb.alloc hb.size _, hb.size, ⟨hi, hd⟩, by dsimp only; rw [hl]; intro s hs; cases hs⟩
theorem Gl.reborn {w X : World} {B : Nat} {cs : Array Value} (h : Box X B 29 cs) (hk : Below w.heap.size w X) (hl0 : w.heap.size ≤ B) (m : Ms.M) (hi : m.ins = []) (hl : m.log = []) (hd : m.data = []) : Gl w B ⟨m, none, 0, none, 0, none, 0⟩ (X.setRow B (Ms.S.cells ⟨m, none, 0, none, 0, none, 0⟩)) :=
  ⟨h.row _, by dsimp only; rw [hl]; exact World.ownsRow_nil _ _ _ _, Below.setRow' (g := B) hk hl0 _, hl0, ⟨hi, hd⟩, by dsimp only; rw [hl]; intro s hs; cases hs⟩
theorem Gl.call {w X X' : World} {B : Nat} {q : Ms.S} (h : Gl w B q X) (hb : Below X.heap.size X X') : Gl w B q X' :=
  ⟨h.box.below hb h.box.lt, own_below h.own hb (Nat.le_refl _), h.kept.trans (hb.mono h.kept.size), h.low, h.bare, h.ents⟩
theorem Gl.step {w X w7 : World} {B c7 : Nat} {A7 : Option Addr} {q : Ms.S} {s : En.S} {o : Obj} (h : Gl w B q X) (hs : s.e.evs = [] ∧ s.adr = none ∧ s.cap = 0)
    (own7 : w7.ownsRow w.heap.size 53 26 (.slice A7 (q.m.log.length + 1) c7) (q.m.log.length + 1) (En.sCells q.m.log ++ En.S.cells s)) (hg : (X.alloc o).grownBy w7 (Value.slice q.al q.m.log.length q.cl).ownBlock) :
    Gl w B { q with m := { q.m with log := q.m.log ++ [s] }, al := A7, cl := c7 } (w7.setCell ⟨B, 14, none⟩ (.slice A7 (q.m.log.length + 1) c7)) := by
  have hb := grown_box h.box h.own (by decide) hg
  have e1 : (q.m.log ++ [s]).length = q.m.log.length + 1 := by rw [List.length_append]; rfl
  have e2 : En.sCells (q.m.log ++ [s]) = En.sCells q.m.log ++ En.S.cells s := by unfold En.sCells; rw [List.flatMap_append, List.flatMap_cons, List.flatMap_nil, List.append_nil]
  refine ⟨?_, ?_, (below_gone (h.kept.alloc h.kept.size _) hg (own_at h.own) (Nat.le_refl _)).setCell (p := ⟨B, 14, none⟩) h.low _, h.low, h.bare, ?_⟩
  · have k := hb.put 14 (.slice A7 (q.m.log.length + 1) c7)
    have e : q.cells.setIfInBounds 14 (.slice A7 (q.m.log.length + 1) c7) = ({ q with m := { q.m with log := q.m.log ++ [s] }, al := A7, cl := c7 } : Ms.S).cells := by
      unfold Ms.S.cells Ms.cells Ms.S.sl
      dsimp only
      rw [e1]
      rfl
    rw [e] at k
    exact k
  · dsimp only
    rw [e1, e2]
    exact ownsRow_setCell_other (a := ⟨B, 14, none⟩) own7 (hb.unowned own7 (by decide)) _
  · intro x hx
    rcases List.mem_append.1 hx with hx | hx
    · exact h.ents x hx
    · obtain rfl := List.mem_singleton.1 hx; exact hs
end Go.Proofs.Ytgmlbimgcifenaa
namespace Bb
open Go Kd
/-- A log of so many entries, frame by frame. -/
def logOf (f : Int) (n : Nat) : List En.S := (List.range n).map fun i : Nat => e0 (f + (i : Int))
theorem logOf_next (f : Int) (n : Nat) : logOf f (n + 1) = logOf f n ++ [e0 (f + (n : Int))] := by unfold logOf; rw [List.range_succ, List.map_append]; rfl
theorem logOf_len (f : Int) (n : Nat) : (logOf f n).length = n := by unfold logOf; rw [List.length_map, List.length_range]
theorem logOf_mem {f : Int} {n : Nat} {s : En.S} (h : s ∈ logOf f n) : ∃ i : Nat, i < n ∧ s = e0 (f + (i : Int)) := by
  obtain ⟨i, hi, rfl⟩ := List.mem_map.1 h
  exact ⟨i, List.mem_range.1 hi, rfl⟩
def m0 : Ms.M := ⟨2, 11, 0, 0, 0, 7, 60000, 1048576, 0, 0, 0, 0, 0, [], [], []⟩
/-- The message at its bound, or one further. -/
def at_ (c : Int) (n : Nat) : Ms.M :=
  if c = 0 then { m0 with frm := 11 + n } else if c = 1 then { m0 with slot := 7 + n } else if c = 2 then { m0 with gen := 60000 + n } else if c = 3 then { m0 with frame := 1048576 + n }
  else if c = 4 then { Ms.start 3 0 0 0 0 with code := 9 + n } else if c = 5 then { Ms.start 11 0 0 0 0 with n := 65535 + n } else if c = 6 then { Ms.start 7 0 0 0 0 with n := 7, of := 8 - n, data := [1] }
  else if c = 7 then { Ms.start 7 0 0 0 0 with of := 1, data := List.replicate (64 + n) 0 } else if c = 8 then { Ms.start 4 0 0 0 0 with gen := 1, ins := List.replicate (16 + n) in0 }
  else { Ms.start 5 0 0 0 0 with log := logOf 0 (16 + n) }
def cs : List Int := [0, 1, 2, 3, 4, 5, 6, 7, 8, 9]
theorem at_no : ∀ c ∈ cs, ¬ Ms.Ok (at_ c 1) := by
  intro c hc
  simp only [cs, List.mem_cons, List.not_mem_nil, or_false] at hc
  rcases hc with rfl | rfl | rfl | rfl | rfl | rfl | rfl | rfl | rfl | rfl <;> first
    | exact fun h => absurd h.n1 (by decide)
    | exact fun h => absurd h.n2 (by decide)
    | exact fun h => absurd h.n3 (by decide)
theorem ins_ok {n : Nat} : ∀ k (h : k < (List.replicate n in0).length), Ms.inB (List.replicate n in0)[k] = true := fun k h => by
  rw [List.getElem_replicate]; decide
theorem log_ok {f : Int} {n : Nat} (hf : 0 ≤ f ∧ f + n < 1048576) : ∀ k (h : k < (logOf f n).length), En.Ok (logOf f n)[k].e ∧ (logOf f n)[k].e.frame = f + k := fun k h => by
  have hk : k < n := by rw [logOf_len] at h; exact h
  have e : (logOf f n)[k] = e0 (f + (k : Int)) := by
    have e1 : (logOf f n)[k]? = some (e0 (f + (k : Int))) := by unfold logOf; rw [List.getElem?_map, List.getElem?_range hk]; rfl
    exact Option.some.inj ((List.getElem?_eq_getElem h).symm.trans e1)
  rw [e]
  exact ⟨e0_ok _ (by omega), rfl⟩
theorem at_ok : ∀ c ∈ cs, Ms.Ok (at_ c 0) := by
  intro c hc
  simp only [cs, List.mem_cons, List.not_mem_nil, or_false] at hc
  rcases hc with rfl | rfl | rfl | rfl | rfl | rfl | rfl | rfl | rfl | rfl
  · exact ok_of (by decide) (by decide) (by decide) (.inl rfl) (.inl rfl)
  · exact ok_of (by decide) (by decide) (by decide) (.inl rfl) (.inl rfl)
  · exact ok_of (by decide) (by decide) (by decide) (.inl rfl) (.inl rfl)
  · exact ok_of (by decide) (by decide) (by decide) (.inl rfl) (.inl rfl)
  · exact ok_of (by decide) (by decide) (by decide) (.inl rfl) (.inl rfl)
  · exact ok_of (by decide) (by decide) (by decide) (.inl rfl) (.inl rfl)
  · exact ok_of (by decide) (by decide) (by decide) (.inl rfl) (.inl rfl)
  · exact ok_of (by decide) (by decide) (by decide) (.inl rfl) (.inl rfl)
  · exact ⟨by decide, by decide, by decide, ins_ok, fun k h => absurd h (Nat.not_lt_zero _)⟩
  · exact ⟨by decide, by decide, by decide, fun k h => absurd h (Nat.not_lt_zero _), log_ok (f := 0) (n := 16 + 0) (by decide)⟩
theorem at_short : ∀ c ∈ cs, (Ms.put (at_ c 0)).length ≤ 1200 := by
  intro c hc
  rw [Ms.put_len]
  simp only [cs, List.mem_cons, List.not_mem_nil, or_false] at hc
  rcases hc with rfl | rfl | rfl | rfl | rfl | rfl | rfl | rfl | rfl | rfl <;> decide +kernel
theorem at_ty : ∀ c ∈ cs, ∀ n : Nat, n ≤ 1 → Ms.Ty (at_ c n) := by
  intro c hc n hn
  simp only [cs, List.mem_cons, List.not_mem_nil, or_false] at hc
  rcases hc with rfl | rfl | rfl | rfl | rfl | rfl | rfl | rfl | rfl | rfl <;>
    (refine ⟨?_, ?_, ?_, ?_, ?_, ?_, ?_, ?_, ?_, ?_, ?_, ?_, ?_, ?_, ?_, ?_⟩ <;> (simp only [at_, m0, Ms.start, reduceIte, Int.reduceEq]) <;> first
      | (unfold En.i64; omega)
      | omega
      | (intro x hx; cases hx; done)
      | (intro x hx; obtain rfl := List.mem_singleton.1 hx; omega)
      | (intro x hx; obtain rfl := (List.mem_replicate.1 hx).2; omega)
      | (intro x hx; obtain rfl := (List.mem_replicate.1 hx).2; unfold Gm.tyIn in0; dsimp only; omega)
      | (intro x hx; obtain ⟨i, hi, rfl⟩ := logOf_mem hx; exact e0_ty _ (by omega)))
theorem at_len : ∀ c ∈ cs, ∀ n : Nat, n ≤ 1 → (at_ c n).ins.length ≤ 255 ∧ (at_ c n).log.length ≤ 255 ∧ (at_ c n).data.length ≤ 255 := by
  intro c hc n hn
  simp only [cs, List.mem_cons, List.not_mem_nil, or_false] at hc
  have h : n = 0 ∨ n = 1 := by omega
  rcases h with rfl | rfl <;> rcases hc with rfl | rfl | rfl | rfl | rfl | rfl | rfl | rfl | rfl | rfl <;> decide
end Bb
namespace Go.Proofs.Ytgmlbimgcifenaa
open Go.RowKit Go.Shelf
set_option linter.unusedVariables false
set_option linter.unusedSimpArgs false

theorem mod10 (x : Int) (h : -9223372036854775808 ≤ x ∧ x ≤ 9223372036854775807) : ∃ k : Int, IntKind.u64.wrap x % 10 = k ∧ k ∈ Bb.cs := by
  have u0 : 0 ≤ IntKind.u64.wrap x := by rw [IntKind.wrap_u64]; omega
  refine ⟨_, rfl, ?_⟩
  simp only [Bb.cs, List.mem_cons, List.not_mem_nil, or_false]
  omega
theorem bd_built : Try.prog.built 29 [(0, .int .i64 2), (1, .int .i64 11), (5, .int .i64 7), (6, .int .i64 60000), (7, .int .i64 1048576)] = some (Ms.S.cells ⟨Bb.m0, none, 0, none, 0, none, 0⟩) := by kernel_rfl
/-- The message that a case has made. -/
def MadeAs (w : World) (m : Ms.M) (X : World) : Prop := ∃ q : Ms.S, q.m = m ∧ Box X w.heap.size 29 q.cells ∧ LiesM X X.heap.size q ∧ Below w.heap.size w X
theorem Mk.as {w X : World} {q : Ms.S} (h : Mk w w.heap.size q X) {m : Ms.M} (hm : q.m = m) (l1 : q.m.ins.length ≤ 255) (l2 : q.m.log.length ≤ 255) (l3 : q.m.data.length ≤ 255) : MadeAs w m X := ⟨q, hm, h.box, h.lies l1 l2 l3, h.kept⟩

/-- It is stored anew, whole. -/
theorem Mk.row {w X : World} {B : Nat} {q q' : Ms.S} (h : Mk w B q X) (h1 : RI q' X) (h2 : KL q' X) (h3 : RD q' X) (h4 : ∀ S, q'.al = some ⟨S, 0, none⟩ → w.heap.size ≤ S) : Mk w B q' (X.setRow B q'.cells) := by
  have hk : ∀ g t cs, Box X g t cs → t ≠ 29 → t ≠ 3 → Box (X.setRow B q'.cells) g t cs := fun g t cs hb ht _ => hb.row_far (Box.apart hb h.box ht) _
  exact ⟨h.box.row _, h1.keep hk, h2.keep hk, h3.keep hk, Below.setRow' (g := B) h.kept h.low _, h.low, h4⟩
theorem m16 (W : World) : (Instr.makeSlice 25 (.int .i64 16) (.int .i64 16)).run Try.prog W = .ok (.slice (some ⟨W.heap.size, 0, none⟩) 16 16) (W.alloc (.cells (Gm.inCells (List.replicate 16 Kd.in0)).toArray 50)) := by
  have h := mk_ins 16 (by decide) W
  rw [show madeCells (Value.agg #[.int .i8 0, .int .i8 0, .int .u8 0]).cells (16 * 3) = (Gm.inCells (List.replicate 16 Kd.in0)).toArray from by kernel_rfl] at h
  exact h
theorem m17 (W : World) : (Instr.makeSlice 25 (.int .i64 17) (.int .i64 17)).run Try.prog W = .ok (.slice (some ⟨W.heap.size, 0, none⟩) 17 17) (W.alloc (.cells (Gm.inCells (List.replicate 17 Kd.in0)).toArray 50)) := by
  have h := mk_ins 17 (by decide) W
  rw [show madeCells (Value.agg #[.int .i8 0, .int .i8 0, .int .u8 0]).cells (17 * 3) = (Gm.inCells (List.replicate 17 Kd.in0)).toArray from by kernel_rfl] at h
  exact h
theorem m64 (W : World) : (Instr.makeSlice 27 (.int .i64 64) (.int .i64 64)).run Try.prog W = .ok (.slice (some ⟨W.heap.size, 0, none⟩) 64 64) (W.alloc (.cells (Im.u8s (List.replicate 64 0)).toArray 5)) := by
  have h := mk_bytes 64 (by decide) W
  rw [show madeCells (Value.int .u8 0).cells (64 * 1) = (Im.u8s (List.replicate 64 0)).toArray from by kernel_rfl] at h
  exact h
theorem m65 (W : World) : (Instr.makeSlice 27 (.int .i64 65) (.int .i64 65)).run Try.prog W = .ok (.slice (some ⟨W.heap.size, 0, none⟩) 65 65) (W.alloc (.cells (Im.u8s (List.replicate 65 0)).toArray 5)) := by
  have h := mk_bytes 65 (by decide) W
  rw [show madeCells (Value.int .u8 0).cells (65 * 1) = (Im.u8s (List.replicate 65 0)).toArray from by kernel_rfl] at h
  exact h
theorem bb4_0 : Try.prog.built 29 [(0, .int .i64 3), (8, .int .i64 9)] = some (Ms.S.cells ⟨Bb.at_ 4 0, none, 0, none, 0, none, 0⟩) := by kernel_rfl
theorem bb5_0 : Try.prog.built 29 [(0, .int .i64 11), (9, .int .i64 65535)] = some (Ms.S.cells ⟨Bb.at_ 5 0, none, 0, none, 0, none, 0⟩) := by kernel_rfl
theorem bb6_0 (S : Nat) : Try.prog.built 29 [(0, .int .i64 7), (9, .int .i64 7), (10, .int .i64 8), (15, .slice (some ⟨S, 0, none⟩) 1 1)] = some (Ms.S.cells ⟨Bb.at_ 6 0, none, 0, none, 0, some ⟨S, 0, none⟩, 1⟩) := by kernel_rfl
theorem bb7_0 (S : Nat) : Try.prog.built 29 [(0, .int .i64 7), (10, .int .i64 1), (15, .slice (some ⟨S, 0, none⟩) 64 64)] = some (Ms.S.cells ⟨Bb.at_ 7 0, none, 0, none, 0, some ⟨S, 0, none⟩, 64⟩) := by kernel_rfl
theorem bb8_0 (S : Nat) : Try.prog.built 29 [(0, .int .i64 4), (6, .int .i64 1), (13, .slice (some ⟨S, 0, none⟩) 16 16)] = some (Ms.S.cells ⟨Bb.at_ 8 0, some ⟨S, 0, none⟩, 16, none, 0, none, 0⟩) := by kernel_rfl
theorem bb4_1 : Try.prog.built 29 [(0, .int .i64 3), (8, .int .i64 10)] = some (Ms.S.cells ⟨Bb.at_ 4 1, none, 0, none, 0, none, 0⟩) := by kernel_rfl
theorem bb5_1 : Try.prog.built 29 [(0, .int .i64 11), (9, .int .i64 65536)] = some (Ms.S.cells ⟨Bb.at_ 5 1, none, 0, none, 0, none, 0⟩) := by kernel_rfl
theorem bb6_1 (S : Nat) : Try.prog.built 29 [(0, .int .i64 7), (9, .int .i64 7), (10, .int .i64 7), (15, .slice (some ⟨S, 0, none⟩) 1 1)] = some (Ms.S.cells ⟨Bb.at_ 6 1, none, 0, none, 0, some ⟨S, 0, none⟩, 1⟩) := by kernel_rfl
theorem bb7_1 (S : Nat) : Try.prog.built 29 [(0, .int .i64 7), (10, .int .i64 1), (15, .slice (some ⟨S, 0, none⟩) 65 65)] = some (Ms.S.cells ⟨Bb.at_ 7 1, none, 0, none, 0, some ⟨S, 0, none⟩, 65⟩) := by kernel_rfl
theorem bb8_1 (S : Nat) : Try.prog.built 29 [(0, .int .i64 4), (6, .int .i64 1), (13, .slice (some ⟨S, 0, none⟩) 17 17)] = some (Ms.S.cells ⟨Bb.at_ 8 1, some ⟨S, 0, none⟩, 17, none, 0, none, 0⟩) := by kernel_rfl
end Go.Proofs.Ytgmlbimgcifenaa
namespace Go.Proofs.Ytgmlbimgcifenaa
open Go.RowKit Go.Shelf
set_option linter.unusedVariables false
set_option linter.unusedSimpArgs false

set_option maxRecDepth 100000 in
set_option maxHeartbeats 4000000 in
theorem bounds12_0 (x : Int) (w : World) (hx : -9223372036854775808 ≤ x ∧ x ≤ 9223372036854775807) :
    Calls Try.prog 8 #[.int .i64 x, .bool false] w fun e w' => e = .returned (.bool true) ∧ Below w.heap.size w w' := by
  have ct := fun X => Lib.hid (told12_any X)
  obtain ⟨c, hc, hcin⟩ := mod10 x hx
  have HC := Lib.hid hcin
  have u0 : 0 ≤ IntKind.u64.wrap x := by rw [IntKind.wrap_u64]; omega
  have u1 : IntKind.u64.wrap x ≤ 18446744073709551615 := by rw [IntKind.wrap_u64]; omega
  have M0 := Lib.hid (Mk.born (Below.refl w.heap.size w) Bb.m0 rfl rfl rfl)
  clear hcin
  go_enter Try.func8, Try.ntmps8
  go_upto_block 0 with (first | (refine wpList_build_is rfl (t := 29) (vs := [(0, .int .i64 2), (1, .int .i64 11), (5, .int .i64 7), (6, .int .i64 60000), (7, .int .i64 1048576)]) rfl rfl bd_built ?_) | (with_reducible refine alloc_msg rfl rfl ?_) | ((with_reducible refine ms_store_new rfl rfl rfl rfl Ms.zeroM_size rfl (msg_one _) ?_)))
  generalize w.alloc (.cells (Ms.S.cells ⟨Bb.m0, none, 0, none, 0, none, 0⟩) 29) = W0 at *
  clear hc
  go_cut [7] from 16 (fun _ wx => MadeAs w (Bb.at_ c 0) wx)
  case first =>
    have hc2 := HC.out
    have lB := M0.out.box.lt
    have hlen := Bb.at_len c HC.out 0 (by decide)
    simp only [Bb.cs, List.mem_cons, List.not_mem_nil, or_false] at hc2
    rcases hc2 with rfl | rfl | rfl | rfl | rfl | rfl | rfl | rfl | rfl | rfl
    · have c1 := (M0.out.box.cell 1).trans (show _ = some (Value.int .i64 11) from rfl)
      have f1 := M0.out.box.free 1
      go_wp2_with fail
      go_meet
      exact (M0.out.num 1 (.int .i64 11) (Bb.at_ 0 0) rfl rfl rfl rfl).as rfl hlen.1 hlen.2.1 hlen.2.2
    · have c5 := (M0.out.box.cell 5).trans (show _ = some (Value.int .i64 7) from rfl)
      have f5 := M0.out.box.free 5
      go_wp2_with fail
      go_meet
      exact (M0.out.num 5 (.int .i64 7) (Bb.at_ 1 0) rfl rfl rfl rfl).as rfl hlen.1 hlen.2.1 hlen.2.2
    · have c6 := (M0.out.box.cell 6).trans (show _ = some (Value.int .i64 60000) from rfl)
      have f6 := M0.out.box.free 6
      go_wp2_with fail
      go_meet
      exact (M0.out.num 6 (.int .i64 60000) (Bb.at_ 2 0) rfl rfl rfl rfl).as rfl hlen.1 hlen.2.1 hlen.2.2
    · have c7 := (M0.out.box.cell 7).trans (show _ = some (Value.int .i64 1048576) from rfl)
      have f7 := M0.out.box.free 7
      go_wp2_with fail
      go_meet
      exact (M0.out.num 7 (.int .i64 1048576) (Bb.at_ 3 0) rfl rfl rfl rfl).as rfl hlen.1 hlen.2.1 hlen.2.2
    · go_wp2_with (first | (refine wpList_build_is rfl (t := 29) (vs := [(0, .int .i64 3), (8, .int .i64 9)]) rfl rfl (bb4_0) ?_) | ((with_reducible refine blk_gate (t := 29) rfl rfl msg_info16 ?_); apply StoreBlk.mk rfl rfl (by with_reducible exact M0.out.box) (msg_one _) (ms_size _) (ms_size _)))
      go_meet
      exact (Mk.row (q' := ⟨Bb.at_ 4 0, none, 0, none, 0, none, 0⟩) M0.out (.inl ⟨rfl, rfl, rfl⟩) (.inl ⟨rfl, rfl, rfl⟩) (.inl ⟨rfl, rfl, rfl⟩) (fun S e => by cases e)).as rfl hlen.1 hlen.2.1 hlen.2.2
    · go_wp2_with (first | (refine wpList_build_is rfl (t := 29) (vs := [(0, .int .i64 11), (9, .int .i64 65535)]) rfl rfl (bb5_0) ?_) | ((with_reducible refine blk_gate (t := 29) rfl rfl msg_info16 ?_); apply StoreBlk.mk rfl rfl (by with_reducible exact M0.out.box) (msg_one _) (ms_size _) (ms_size _)))
      go_meet
      exact (Mk.row (q' := ⟨Bb.at_ 5 0, none, 0, none, 0, none, 0⟩) M0.out (.inl ⟨rfl, rfl, rfl⟩) (.inl ⟨rfl, rfl, rfl⟩) (.inl ⟨rfl, rfl, rfl⟩) (fun S e => by cases e)).as rfl hlen.1 hlen.2.1 hlen.2.2
    · have M1 := Lib.hid (M0.out.made (.cells #[.int .u8 1] 5))
      go_wp2_with (first | (refine wpList_build_is rfl (t := 29) (vs := [(0, .int .i64 7), (9, .int .i64 7), (10, .int .i64 8), (15, .slice (some ⟨W0.heap.size, 0, none⟩) 1 1)]) rfl rfl (bb6_0 W0.heap.size) ?_) | ((with_reducible refine blk_gate (t := 29) rfl rfl msg_info16 ?_); apply StoreBlk.mk rfl rfl (by with_reducible exact M1.out.box) (msg_one _) (ms_size _) (ms_size _)))
      go_meet
      exact (Mk.row (q' := ⟨Bb.at_ 6 0, none, 0, none, 0, some ⟨W0.heap.size, 0, none⟩, 1⟩) M1.out (.inl ⟨rfl, rfl, rfl⟩) (.inl ⟨rfl, rfl, rfl⟩) (.inr ⟨_, rfl, rfl, Box.made _ _ _⟩) (fun S e => by cases e)).as rfl hlen.1 hlen.2.1 hlen.2.2
    · have mm := m64
      have M1 := Lib.hid (M0.out.made (.cells (Im.u8s (List.replicate 64 0)).toArray 5))
      have R1 := Lib.hid (Box.made W0 5 (Im.u8s (List.replicate 64 0)).toArray)
      obtain ⟨zz, hzz⟩ : ∃ zz, zz = (Im.u8s (List.replicate 64 0)).toArray := ⟨_, rfl⟩
      simp only [← hzz] at mm M1 R1
      have HZ := Lib.hid hzz
      clear hzz
      go_wp2_with (first | (refine wpList_build_is rfl (t := 29) (vs := [(0, .int .i64 7), (10, .int .i64 1), (15, .slice (some ⟨W0.heap.size, 0, none⟩) 64 64)]) rfl rfl (bb7_0 W0.heap.size) ?_) | ((with_reducible refine blk_gate (t := 29) rfl rfl msg_info16 ?_); apply StoreBlk.mk rfl rfl (by with_reducible exact M1.out.box) (msg_one _) (ms_size _) (ms_size _)))
      go_meet
      exact (Mk.row (q' := ⟨Bb.at_ 7 0, none, 0, none, 0, some ⟨W0.heap.size, 0, none⟩, 64⟩) M1.out (.inl ⟨rfl, rfl, rfl⟩) (.inl ⟨rfl, rfl, rfl⟩) (.inr ⟨_, rfl, rfl, Eq.mp (congrArg (Box _ _ _) HZ.out) R1.out⟩) (fun S e => by cases e)).as rfl hlen.1 hlen.2.1 hlen.2.2
    · have mm := m16
      have M1 := Lib.hid (M0.out.made (.cells (Gm.inCells (List.replicate 16 Kd.in0)).toArray 50))
      have R1 := Lib.hid (Box.made W0 50 (Gm.inCells (List.replicate 16 Kd.in0)).toArray)
      obtain ⟨zz, hzz⟩ : ∃ zz, zz = (Gm.inCells (List.replicate 16 Kd.in0)).toArray := ⟨_, rfl⟩
      simp only [← hzz] at mm M1 R1
      have HZ := Lib.hid hzz
      clear hzz
      go_wp2_with (first | (refine wpList_build_is rfl (t := 29) (vs := [(0, .int .i64 4), (6, .int .i64 1), (13, .slice (some ⟨W0.heap.size, 0, none⟩) 16 16)]) rfl rfl (bb8_0 W0.heap.size) ?_) | ((with_reducible refine blk_gate (t := 29) rfl rfl msg_info16 ?_); apply StoreBlk.mk rfl rfl (by with_reducible exact M1.out.box) (msg_one _) (ms_size _) (ms_size _)))
      go_meet
      exact (Mk.row (q' := ⟨Bb.at_ 8 0, some ⟨W0.heap.size, 0, none⟩, 16, none, 0, none, 0⟩) M1.out (.inr ⟨_, rfl, rfl, Eq.mp (congrArg (Box _ _ _) HZ.out) R1.out⟩) (.inl ⟨rfl, rfl, rfl⟩) (.inl ⟨rfl, rfl, rfl⟩) (fun S e => by cases e)).as rfl hlen.1 hlen.2.1 hlen.2.2
    · go_wp2_with (first | (refine wpList_build_is rfl (t := 29) (vs := [(0, .int .i64 5)]) rfl rfl (ms_built 5) ?_) | ((with_reducible refine blk_gate (t := 29) rfl rfl msg_info16 ?_); apply StoreBlk.mk rfl rfl (by with_reducible exact M0.out.box) (msg_one _) (ms_size _) (ms_size _)))
      have G0 := Lib.hid (Gl.reborn M0.out.box M0.out.kept M0.out.low (Ms.start 5 0 0 0 0) rfl rfl rfl)
      generalize W0.setRow w.heap.size (Ms.S.cells ⟨Ms.start 5 0 0 0 0, none, 0, none, 0, none, 0⟩) = W1 at *
      go_loopw [7] (fun i wr => ∃ (j : Nat) (q : Ms.S), j ≤ 16 ∧ i = .int .i64 j ∧ q.m = { Ms.start 5 0 0 0 0 with log := Bb.logOf 0 j } ∧ Gl w w.heap.size q wr) (fun i _ => 16 - (intOf i).toNat)
      case atStart => exact ⟨0, _, by decide, rfl, rfl, G0.out⟩
      case round =>
        obtain ⟨j, q, hj, rfl, hq, hG⟩ := hrel
        have GG := Lib.hid hG
        have QM := Lib.hid hq
        have hll : q.m.log.length = j := by rw [hq]; exact Bb.logOf_len 0 j
        have HLL := Lib.hid hll
        by_cases hlt : j < 16
        · have hj8 : (j : Int) < 16 := by omega
          have d14 := (hG.box.cell 14).trans (show _ = some (Value.slice q.al q.m.log.length q.cl) from rfl)
          have f14 := hG.box.free 14
          have l14 := hG.box.lt
          rw [hll] at d14
          obtain ⟨i0, hi0, hz0, hz1, hz2⟩ := info_parts zen_infoZ
          have hI := Lib.hid hi0
          have hZ := Lib.hid hz0
          have hS := Lib.hid hz1
          have hY := Lib.hid hz2
          have b7 := en_built7 j
          have OW := Lib.hid (show wr.ownsRow w.heap.size 53 26 (.slice q.al j q.cl) j (En.sCells q.m.log) by have o := hG.own; rw [hll] at o; exact o)
          have kS := hG.kept.size
          have ES := Lib.hid (show (En.cells ⟨(j : Int), [], En.in0⟩ (.slice none 0 0)).toList = En.S.cells (Kd.e0 (j : Int)) from rfl)
          obtain ⟨e, he⟩ : ∃ e, e = (⟨(j : Int), [], En.in0⟩ : En.E) := ⟨_, rfl⟩
          rw [← he] at b7 ES
          clear hi0 hz0 hz1 hz2 hG hq hll he
          go_upto_region 9 with (first | (refine wpList_build_is rfl (t := 53) (vs := [(0, .int .i64 (j : Int))]) rfl rfl b7 ?_) | ((with_reducible refine en_build rfl rfl ?_); apply BuildEn.mk rfl) | ((with_reducible refine append_gate (t := 26) (e := 53) (size := 26) (bytes := 56) rfl rfl Try.underlying26 hI.out hZ.out hS.out hY.out rfl (by decide) ?_); refine Appends.mk (base := w.heap.size) (n := j) (xs := En.sCells q.m.log) rfl (OW.out.alloc _) (Lies.boxed (n := 1) (size := 26) (xs := (En.cells e (.slice none 0 0)).toList) (by rw [Array.toArray_toList]; exact Box.made wr 53 (En.cells e (.slice none 0 0))) rfl) (fun u hu => by have := En.cells_one e (.slice none 0 0) rfl; rw [Array.all_eq_true'] at this; exact this u (Array.mem_toList_iff.1 hu)) (by unfold maxLen; omega) (by omega) (by simp; omega) ?_; intro A7 c7 w7 own7 hg7; have OW7 := Lib.hid own7; have HG7 := Lib.hid (show World.grownBy (wr.alloc _) w7 (Value.slice q.al j q.cl).ownBlock from hg7); have B7 := Lib.hid (grown_box GG.out.box OW.out (by decide) hg7); have b7 := (B7.out.cell 14).trans (show _ = some (Value.slice q.al q.m.log.length q.cl) from rfl); have f7 := B7.out.free 14; have l7 := B7.out.lt; clear own7 hg7))
          have G8 := Lib.hid (show Gl w w.heap.size { q with m := { q.m with log := q.m.log ++ [Kd.e0 (j : Int)] }, al := A7, cl := c7 } (w7.setCell ⟨w.heap.size, 14, none⟩ (.slice A7 (j + 1) c7)) by
            have o := OW7.out
            have g := HG7.out
            have h := GG.out
            rw [ES.out] at o
            have hll := HLL.out
            subst hll
            exact Gl.step h ⟨rfl, rfl, rfl⟩ o g)
          have E8 := Lib.hid (show ({ q.m with log := q.m.log ++ [Kd.e0 (j : Int)] } : Ms.M) = { Ms.start 5 0 0 0 0 with log := Bb.logOf 0 (j + 1) } by rw [Bb.logOf_next, Int.zero_add, QM.out])
          clear b7 f7 l7 B7 HG7 OW7 ES
          generalize w7.setCell ⟨w.heap.size, 14, none⟩ (.slice A7 (j + 1) c7) = w8 at *
          go_wp2
          go_roundw
          case rel => exact ⟨j + 1, _, by omega, by go_num, E8.out, G8.out⟩
          case measure => simp [intOf]; omega
        · obtain rfl : j = 16 := by omega
          have hL := hG.lies (by rw [hll]; decide)
          go_wp2_with fail
          go_meet
          exact ⟨q, hq, hG.box, hL, hG.kept⟩
  case rest =>
    obtain ⟨q, hq, hB, hL, hK⟩ := hcut
    have B1 := Lib.hid hB
    have L1 := Lib.hid hL
    have K1 := Lib.hid hK
    have hT := Bb.at_ty c HC.out 0 (by decide)
    rw [← hq] at hT
    have hO := Bb.at_ok c HC.out
    have hS := Bb.at_short c HC.out
    rw [← hq] at hO hS
    have cp := fun X hX => Lib.hid (wput_short q X hT hO hS hX)
    have cm := fun X hX => Lib.hid (wmay_any q X hT hX)
    rw [Ms.okB_iff.2 hO] at cm
    clear hq hB hL hK hT
    go_wp2_with (first | ((with_reducible refine ms_load rfl rfl ?_); apply LoadMs.mk rfl (by with_reducible exact B1.out) (ms_size _)) | ((with_reducible refine ms_load_g ?_ rfl ?_); (focus first | rfl | kernel_rfl | simp [Region.wanted, yielded]); apply LoadMs.mk rfl (by with_reducible exact B5.out) (ms_size _)) | (go_at_call 14; ((with_reducible refine ((cp _ L1.out).out).mono ?_); rintro r w2 ⟨A2, c2, rfl, _, _, hb⟩; have K2 := Lib.hid (K1.out.trans (hb.mono K1.out.size)); have L2 := Lib.hid (L1.out.on hb); have B2 := Lib.hid (B1.out.below hb B1.out.lt); clear hb cp)) | (go_at_call 12; ((with_reducible refine ((ct _).out).mono ?_); rintro r w5 ⟨rfl, hb⟩; have K5 := Lib.hid (K2.out.trans (hb.mono K2.out.size)); have L5 := Lib.hid (L2.out.on hb); have B5 := Lib.hid (B2.out.below hb B2.out.lt); clear hb)) | (go_at_call 15; ((with_reducible refine ((cm _ L5.out).out).mono ?_); rintro r w6 ⟨rfl, hb⟩; have K6 := Lib.hid (K5.out.trans (hb.mono K5.out.size)); clear hb)))
    go_ret
    exact ⟨rfl, K6.out⟩
set_option maxRecDepth 100000 in
set_option maxHeartbeats 4000000 in
theorem bounds12_1 (x : Int) (w : World) (hx : -9223372036854775808 ≤ x ∧ x ≤ 9223372036854775807) :
    Calls Try.prog 8 #[.int .i64 x, .bool true] w fun e w' => e = .returned (.bool true) ∧ Below w.heap.size w w' := by
  have ct := fun X => Lib.hid (told12_any X)
  obtain ⟨c, hc, hcin⟩ := mod10 x hx
  have HC := Lib.hid hcin
  have u0 : 0 ≤ IntKind.u64.wrap x := by rw [IntKind.wrap_u64]; omega
  have u1 : IntKind.u64.wrap x ≤ 18446744073709551615 := by rw [IntKind.wrap_u64]; omega
  have M0 := Lib.hid (Mk.born (Below.refl w.heap.size w) Bb.m0 rfl rfl rfl)
  clear hcin
  go_enter Try.func8, Try.ntmps8
  go_upto_block 0 with (first | (refine wpList_build_is rfl (t := 29) (vs := [(0, .int .i64 2), (1, .int .i64 11), (5, .int .i64 7), (6, .int .i64 60000), (7, .int .i64 1048576)]) rfl rfl bd_built ?_) | (with_reducible refine alloc_msg rfl rfl ?_) | ((with_reducible refine ms_store_new rfl rfl rfl rfl Ms.zeroM_size rfl (msg_one _) ?_)))
  generalize w.alloc (.cells (Ms.S.cells ⟨Bb.m0, none, 0, none, 0, none, 0⟩) 29) = W0 at *
  clear hc
  go_cut [7] from 16 (fun _ wx => MadeAs w (Bb.at_ c 1) wx)
  case first =>
    have hc2 := HC.out
    have lB := M0.out.box.lt
    have hlen := Bb.at_len c HC.out 1 (by decide)
    simp only [Bb.cs, List.mem_cons, List.not_mem_nil, or_false] at hc2
    rcases hc2 with rfl | rfl | rfl | rfl | rfl | rfl | rfl | rfl | rfl | rfl
    · have c1 := (M0.out.box.cell 1).trans (show _ = some (Value.int .i64 11) from rfl)
      have f1 := M0.out.box.free 1
      go_wp2_with fail
      go_meet
      exact (M0.out.num 1 (.int .i64 12) (Bb.at_ 0 1) rfl rfl rfl rfl).as rfl hlen.1 hlen.2.1 hlen.2.2
    · have c5 := (M0.out.box.cell 5).trans (show _ = some (Value.int .i64 7) from rfl)
      have f5 := M0.out.box.free 5
      go_wp2_with fail
      go_meet
      exact (M0.out.num 5 (.int .i64 8) (Bb.at_ 1 1) rfl rfl rfl rfl).as rfl hlen.1 hlen.2.1 hlen.2.2
    · have c6 := (M0.out.box.cell 6).trans (show _ = some (Value.int .i64 60000) from rfl)
      have f6 := M0.out.box.free 6
      go_wp2_with fail
      go_meet
      exact (M0.out.num 6 (.int .i64 60001) (Bb.at_ 2 1) rfl rfl rfl rfl).as rfl hlen.1 hlen.2.1 hlen.2.2
    · have c7 := (M0.out.box.cell 7).trans (show _ = some (Value.int .i64 1048576) from rfl)
      have f7 := M0.out.box.free 7
      go_wp2_with fail
      go_meet
      exact (M0.out.num 7 (.int .i64 1048577) (Bb.at_ 3 1) rfl rfl rfl rfl).as rfl hlen.1 hlen.2.1 hlen.2.2
    · go_wp2_with (first | (refine wpList_build_is rfl (t := 29) (vs := [(0, .int .i64 3), (8, .int .i64 10)]) rfl rfl (bb4_1) ?_) | ((with_reducible refine blk_gate (t := 29) rfl rfl msg_info16 ?_); apply StoreBlk.mk rfl rfl (by with_reducible exact M0.out.box) (msg_one _) (ms_size _) (ms_size _)))
      go_meet
      exact (Mk.row (q' := ⟨Bb.at_ 4 1, none, 0, none, 0, none, 0⟩) M0.out (.inl ⟨rfl, rfl, rfl⟩) (.inl ⟨rfl, rfl, rfl⟩) (.inl ⟨rfl, rfl, rfl⟩) (fun S e => by cases e)).as rfl hlen.1 hlen.2.1 hlen.2.2
    · go_wp2_with (first | (refine wpList_build_is rfl (t := 29) (vs := [(0, .int .i64 11), (9, .int .i64 65536)]) rfl rfl (bb5_1) ?_) | ((with_reducible refine blk_gate (t := 29) rfl rfl msg_info16 ?_); apply StoreBlk.mk rfl rfl (by with_reducible exact M0.out.box) (msg_one _) (ms_size _) (ms_size _)))
      go_meet
      exact (Mk.row (q' := ⟨Bb.at_ 5 1, none, 0, none, 0, none, 0⟩) M0.out (.inl ⟨rfl, rfl, rfl⟩) (.inl ⟨rfl, rfl, rfl⟩) (.inl ⟨rfl, rfl, rfl⟩) (fun S e => by cases e)).as rfl hlen.1 hlen.2.1 hlen.2.2
    · have M1 := Lib.hid (M0.out.made (.cells #[.int .u8 1] 5))
      go_wp2_with (first | (refine wpList_build_is rfl (t := 29) (vs := [(0, .int .i64 7), (9, .int .i64 7), (10, .int .i64 7), (15, .slice (some ⟨W0.heap.size, 0, none⟩) 1 1)]) rfl rfl (bb6_1 W0.heap.size) ?_) | ((with_reducible refine blk_gate (t := 29) rfl rfl msg_info16 ?_); apply StoreBlk.mk rfl rfl (by with_reducible exact M1.out.box) (msg_one _) (ms_size _) (ms_size _)))
      go_meet
      exact (Mk.row (q' := ⟨Bb.at_ 6 1, none, 0, none, 0, some ⟨W0.heap.size, 0, none⟩, 1⟩) M1.out (.inl ⟨rfl, rfl, rfl⟩) (.inl ⟨rfl, rfl, rfl⟩) (.inr ⟨_, rfl, rfl, Box.made _ _ _⟩) (fun S e => by cases e)).as rfl hlen.1 hlen.2.1 hlen.2.2
    · have mm := m65
      have M1 := Lib.hid (M0.out.made (.cells (Im.u8s (List.replicate 65 0)).toArray 5))
      have R1 := Lib.hid (Box.made W0 5 (Im.u8s (List.replicate 65 0)).toArray)
      obtain ⟨zz, hzz⟩ : ∃ zz, zz = (Im.u8s (List.replicate 65 0)).toArray := ⟨_, rfl⟩
      simp only [← hzz] at mm M1 R1
      have HZ := Lib.hid hzz
      clear hzz
      go_wp2_with (first | (refine wpList_build_is rfl (t := 29) (vs := [(0, .int .i64 7), (10, .int .i64 1), (15, .slice (some ⟨W0.heap.size, 0, none⟩) 65 65)]) rfl rfl (bb7_1 W0.heap.size) ?_) | ((with_reducible refine blk_gate (t := 29) rfl rfl msg_info16 ?_); apply StoreBlk.mk rfl rfl (by with_reducible exact M1.out.box) (msg_one _) (ms_size _) (ms_size _)))
      go_meet
      exact (Mk.row (q' := ⟨Bb.at_ 7 1, none, 0, none, 0, some ⟨W0.heap.size, 0, none⟩, 65⟩) M1.out (.inl ⟨rfl, rfl, rfl⟩) (.inl ⟨rfl, rfl, rfl⟩) (.inr ⟨_, rfl, rfl, Eq.mp (congrArg (Box _ _ _) HZ.out) R1.out⟩) (fun S e => by cases e)).as rfl hlen.1 hlen.2.1 hlen.2.2
    · have mm := m17
      have M1 := Lib.hid (M0.out.made (.cells (Gm.inCells (List.replicate 17 Kd.in0)).toArray 50))
      have R1 := Lib.hid (Box.made W0 50 (Gm.inCells (List.replicate 17 Kd.in0)).toArray)
      obtain ⟨zz, hzz⟩ : ∃ zz, zz = (Gm.inCells (List.replicate 17 Kd.in0)).toArray := ⟨_, rfl⟩
      simp only [← hzz] at mm M1 R1
      have HZ := Lib.hid hzz
      clear hzz
      go_wp2_with (first | (refine wpList_build_is rfl (t := 29) (vs := [(0, .int .i64 4), (6, .int .i64 1), (13, .slice (some ⟨W0.heap.size, 0, none⟩) 17 17)]) rfl rfl (bb8_1 W0.heap.size) ?_) | ((with_reducible refine blk_gate (t := 29) rfl rfl msg_info16 ?_); apply StoreBlk.mk rfl rfl (by with_reducible exact M1.out.box) (msg_one _) (ms_size _) (ms_size _)))
      go_meet
      exact (Mk.row (q' := ⟨Bb.at_ 8 1, some ⟨W0.heap.size, 0, none⟩, 17, none, 0, none, 0⟩) M1.out (.inr ⟨_, rfl, rfl, Eq.mp (congrArg (Box _ _ _) HZ.out) R1.out⟩) (.inl ⟨rfl, rfl, rfl⟩) (.inl ⟨rfl, rfl, rfl⟩) (fun S e => by cases e)).as rfl hlen.1 hlen.2.1 hlen.2.2
    · go_wp2_with (first | (refine wpList_build_is rfl (t := 29) (vs := [(0, .int .i64 5)]) rfl rfl (ms_built 5) ?_) | ((with_reducible refine blk_gate (t := 29) rfl rfl msg_info16 ?_); apply StoreBlk.mk rfl rfl (by with_reducible exact M0.out.box) (msg_one _) (ms_size _) (ms_size _)))
      have G0 := Lib.hid (Gl.reborn M0.out.box M0.out.kept M0.out.low (Ms.start 5 0 0 0 0) rfl rfl rfl)
      generalize W0.setRow w.heap.size (Ms.S.cells ⟨Ms.start 5 0 0 0 0, none, 0, none, 0, none, 0⟩) = W1 at *
      go_loopw [7] (fun i wr => ∃ (j : Nat) (q : Ms.S), j ≤ 17 ∧ i = .int .i64 j ∧ q.m = { Ms.start 5 0 0 0 0 with log := Bb.logOf 0 j } ∧ Gl w w.heap.size q wr) (fun i _ => 17 - (intOf i).toNat)
      case atStart => exact ⟨0, _, by decide, rfl, rfl, G0.out⟩
      case round =>
        obtain ⟨j, q, hj, rfl, hq, hG⟩ := hrel
        have GG := Lib.hid hG
        have QM := Lib.hid hq
        have hll : q.m.log.length = j := by rw [hq]; exact Bb.logOf_len 0 j
        have HLL := Lib.hid hll
        by_cases hlt : j < 17
        · have hj8 : (j : Int) < 17 := by omega
          have d14 := (hG.box.cell 14).trans (show _ = some (Value.slice q.al q.m.log.length q.cl) from rfl)
          have f14 := hG.box.free 14
          have l14 := hG.box.lt
          rw [hll] at d14
          obtain ⟨i0, hi0, hz0, hz1, hz2⟩ := info_parts zen_infoZ
          have hI := Lib.hid hi0
          have hZ := Lib.hid hz0
          have hS := Lib.hid hz1
          have hY := Lib.hid hz2
          have b7 := en_built7 j
          have OW := Lib.hid (show wr.ownsRow w.heap.size 53 26 (.slice q.al j q.cl) j (En.sCells q.m.log) by have o := hG.own; rw [hll] at o; exact o)
          have kS := hG.kept.size
          have ES := Lib.hid (show (En.cells ⟨(j : Int), [], En.in0⟩ (.slice none 0 0)).toList = En.S.cells (Kd.e0 (j : Int)) from rfl)
          obtain ⟨e, he⟩ : ∃ e, e = (⟨(j : Int), [], En.in0⟩ : En.E) := ⟨_, rfl⟩
          rw [← he] at b7 ES
          clear hi0 hz0 hz1 hz2 hG hq hll he
          go_upto_region 9 with (first | (refine wpList_build_is rfl (t := 53) (vs := [(0, .int .i64 (j : Int))]) rfl rfl b7 ?_) | ((with_reducible refine en_build rfl rfl ?_); apply BuildEn.mk rfl) | ((with_reducible refine append_gate (t := 26) (e := 53) (size := 26) (bytes := 56) rfl rfl Try.underlying26 hI.out hZ.out hS.out hY.out rfl (by decide) ?_); refine Appends.mk (base := w.heap.size) (n := j) (xs := En.sCells q.m.log) rfl (OW.out.alloc _) (Lies.boxed (n := 1) (size := 26) (xs := (En.cells e (.slice none 0 0)).toList) (by rw [Array.toArray_toList]; exact Box.made wr 53 (En.cells e (.slice none 0 0))) rfl) (fun u hu => by have := En.cells_one e (.slice none 0 0) rfl; rw [Array.all_eq_true'] at this; exact this u (Array.mem_toList_iff.1 hu)) (by unfold maxLen; omega) (by omega) (by simp; omega) ?_; intro A7 c7 w7 own7 hg7; have OW7 := Lib.hid own7; have HG7 := Lib.hid (show World.grownBy (wr.alloc _) w7 (Value.slice q.al j q.cl).ownBlock from hg7); have B7 := Lib.hid (grown_box GG.out.box OW.out (by decide) hg7); have b7 := (B7.out.cell 14).trans (show _ = some (Value.slice q.al q.m.log.length q.cl) from rfl); have f7 := B7.out.free 14; have l7 := B7.out.lt; clear own7 hg7))
          have G8 := Lib.hid (show Gl w w.heap.size { q with m := { q.m with log := q.m.log ++ [Kd.e0 (j : Int)] }, al := A7, cl := c7 } (w7.setCell ⟨w.heap.size, 14, none⟩ (.slice A7 (j + 1) c7)) by
            have o := OW7.out
            have g := HG7.out
            have h := GG.out
            rw [ES.out] at o
            have hll := HLL.out
            subst hll
            exact Gl.step h ⟨rfl, rfl, rfl⟩ o g)
          have E8 := Lib.hid (show ({ q.m with log := q.m.log ++ [Kd.e0 (j : Int)] } : Ms.M) = { Ms.start 5 0 0 0 0 with log := Bb.logOf 0 (j + 1) } by rw [Bb.logOf_next, Int.zero_add, QM.out])
          clear b7 f7 l7 B7 HG7 OW7 ES
          generalize w7.setCell ⟨w.heap.size, 14, none⟩ (.slice A7 (j + 1) c7) = w8 at *
          go_wp2
          go_roundw
          case rel => exact ⟨j + 1, _, by omega, by go_num, E8.out, G8.out⟩
          case measure => simp [intOf]; omega
        · obtain rfl : j = 17 := by omega
          have hL := hG.lies (by rw [hll]; decide)
          go_wp2_with fail
          go_meet
          exact ⟨q, hq, hG.box, hL, hG.kept⟩
  case rest =>
    obtain ⟨q, hq, hB, hL, hK⟩ := hcut
    have B1 := Lib.hid hB
    have L1 := Lib.hid hL
    have K1 := Lib.hid hK
    have hT := Bb.at_ty c HC.out 1 (by decide)
    rw [← hq] at hT
    have hO := Bb.at_no c HC.out
    rw [← hq] at hO
    have cp := fun X hX => Lib.hid (wput_no q X hT hO hX)
    have cm := fun X hX => Lib.hid (wmay_any q X hT hX)
    rw [(Ms.okB_no hO).symm] at cm
    clear hq hB hL hK hT
    go_wp2_with (first | ((with_reducible refine ms_load rfl rfl ?_); apply LoadMs.mk rfl (by with_reducible exact B1.out) (ms_size _)) | ((with_reducible refine ms_load_g ?_ rfl ?_); (focus first | rfl | kernel_rfl | simp [Region.wanted, yielded]); apply LoadMs.mk rfl (by with_reducible exact B5.out) (ms_size _)) | (go_at_call 14; ((with_reducible refine ((cp _ L1.out).out).mono ?_); rintro r w2 ⟨rfl, hb⟩; have K2 := Lib.hid (K1.out.trans (hb.mono K1.out.size)); have L2 := Lib.hid (L1.out.on hb); have B2 := Lib.hid (B1.out.below hb B1.out.lt); clear hb cp)) | (go_at_call 12; ((with_reducible refine ((ct _).out).mono ?_); rintro r w5 ⟨rfl, hb⟩; have K5 := Lib.hid (K2.out.trans (hb.mono K2.out.size)); have L5 := Lib.hid (L2.out.on hb); have B5 := Lib.hid (B2.out.below hb B2.out.lt); clear hb)) | (go_at_call 15; ((with_reducible refine ((cm _ L5.out).out).mono ?_); rintro r w6 ⟨rfl, hb⟩; have K6 := Lib.hid (K5.out.trans (hb.mono K5.out.size)); clear hb)))
    go_ret
    exact ⟨rfl, K6.out⟩
theorem bounds12_law (x : Int) (b : Bool) (w : World) (hx : -9223372036854775808 ≤ x ∧ x ≤ 9223372036854775807) :
    Calls Try.prog 8 #[.int .i64 x, .bool b] w fun e w' => e = .returned (.bool true) ∧ Below w.heap.size w w' := by
  cases b
  · exact bounds12_0 x w hx
  · exact bounds12_1 x w hx
end Go.Proofs.Ytgmlbimgcifenaa
