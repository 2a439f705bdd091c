/-
Several texts in one: Bz Mw By Qx Gf Gm Gr Gb Gp Im Nr En Op Fa Ga Eq Dp Ro Hoff Rs Ru Qg.
-/
import Derived.Test.YtiahpncglpfjeaaGreatFp10
import Derived.Laws.FloatArith
import Derived.Test.YtiahpncglpfjeaaGreatRows
import Derived.WalkKit
import Derived.WalkSpells
import Derived.WalkLawsBesides
import Derived.Laws.Externs
import Derived.Laws.BitsAllLaws
import Derived.Lib.Hide
import Derived.LoopTactic
import Derived.Deep.QuietTactic
import Derived.BigQuiet
import Derived.Outline
import Derived.Laws.OwnMore
import Derived.Deep.Draws
import Derived.Laws.Rows
import Derived.Deep.MidRow
import Derived.Maps.AppendAt
import Derived.Deep.WholeRow
import Derived.Orders
import Derived.Tactics
import Derived.Tactics2
import Derived.KernelRfl
import Derived.StillTail
import Derived.Below
import Derived.RangeFuncNested
import Derived.RangeFuncBound
import Derived.RangeFuncCalls
import Derived.RangeFuncLeaves
import Derived.Shelf.Abstract
import Derived.Shelf.RegionOpen
import Derived.Laws.StructEq
import Derived.ChangeKeysEq
import Derived.Deep.CutRange
import Derived.Deep.CutBlock
import Derived.Deep.DeepCutAuto
import Derived.Deep.LoopGhost
import Derived.OwnWalkIn
import Derived.TacticsInMore
import Derived.LoopNIn
import Derived.LoopIn
import Derived.OrdersIn
import Derived.Laws.CopyOwn
import Derived.Laws.MakeOwn
import Derived.Defers
import Derived.Recover
import Derived.RowKit
import GoSem.Claim
import Derived.ChangeShapes
import Derived.ProofKit
import Derived.OpenShut
import Derived.Carry
import Derived.Lib.SmallJoins
import Derived.ChangeOld
import Derived.ChangeArms
import Derived.Laws.EntriesVeiled
import Derived.Laws.IdiomStrings
import Derived.OneCell
import Derived.Laws.BytesArg
import Derived.Deep.RegionWith
import Derived.Deep.DrawnRows
import Derived.BigRegion
import Derived.Great.BuildSlice
import Derived.Lib.Bytes
namespace Go.Proofs.YtiahpncglpfjeaaGreat
open Go.RowKit
set_option linter.unusedVariables false

theorem ret_two {k : IntKind} {a b c d : Int} (h : a = b) (h' : c = d) : Ending.returned (.tuple #[.int k a, .int k c]) = .returned (.tuple #[.int k b, .int k d]) := by rw [h, h']
end Go.Proofs.YtiahpncglpfjeaaGreat
namespace Go.Proofs.YtiahpncglpfjeaaGreat
open Go.RowKit
set_option linter.unusedVariables false

section
variable {w w' : World} {B B' size n : Nat} {A : Option Addr} {xs : List Value}
theorem Lies.empty : Lies w B size A 0 [] := ⟨by simp, fun h => absurd rfl h, fun _ _ h => absurd rfl h⟩
end

section
variable {w w' : World} {g : Nat} {t : TypeId} {cs : Array Value}
end

end Go.Proofs.YtiahpncglpfjeaaGreat
namespace Go.Proofs.YtiahpncglpfjeaaGreat
open Go.RowKit
set_option linter.unusedVariables false

theorem exec_load_blk {P : Program} {o : Oper} {a : Act} {w : World} {ty : TypeId} {x : Operand} {g : Nat} {t : TypeId} {cs : Array Value} {d : TypeDesc} (ho : o.op = .load ty x) (hx : a.eval x = .pointer (some ⟨g, 0, none⟩)) (hg : Box w g t cs) (hu : P.underlying ty = some d) (hd : d.isRow = true) (hi : (P.info? ty).map (·.size) = some cs.size) :
    (execOp a.eval o).run P w = .ok (.value (.agg cs)) w := by
  have hl := run_loadVar_row (P := P) w g t ty cs (0, 0) d hg.is hu (by cases d <;> first | rfl | cases hd) hi
  unfold execOp
  simp only [ho, hx, Instr.loadAt, Instr.sureAddr, Sem.run_bind, Sem.run_pure, Result.andThen_ok, hl]
end Go.Proofs.YtiahpncglpfjeaaGreat
namespace Go
open Go.RowKit

theorem wp_region_ext {P : Program} {id : Nat} {Q : Exit → Act → World → Prop} {a : Act} {w : World} {l : List Oper} (B : Nat) (W : World) (hm : P.follows .mixedOrders = true) (hB : Region.lexB .any l.toArray = true) (hC : Below B W w)
    (h : wpQuiet P l.toArray (fun w' => ∃ q : Ext B W, w' = q.w) (fun a' => ∀ w', (∃ q : Ext B W, w' = q.w) → Q .normal a' w') l a) : (Code.region id l.toArray true).wp P Q a w :=
  wp_region_quiet (C := fun w' => ∃ q : Ext B W, w' = q.w) hm hB ⟨⟨_, hC.drew⟩, rfl⟩ (by simpa using h)

end Go
namespace Gf

theorem round_eq (v : Int) : (v.tmod 16777216 + 16777216).tmod 16777216 = v % 16777216 := by
  have h1 := Int.tmod_eq_emod (a := v) (b := 16777216)
  have h3 : 0 ≤ v.tmod 16777216 + 16777216 := by
    have := Int.lt_tmod_of_pos v (b := 16777216) (by omega); omega
  rw [Int.tmod_eq_emod_of_nonneg h3]
  split at h1 <;> omega
theorem round_eq' (v : Int) : (v.tmod 16777216 + 16777216) % 16777216 = v % 16777216 := by
  have h := round_eq v
  rwa [Int.tmod_eq_emod_of_nonneg (by have := Int.lt_tmod_of_pos v (b := 16777216) (by omega); omega)] at h
end Gf
namespace Gm
open Go

theorem fly_ty {s : Shot} (h : okShot s) : tyShot (fly s) := by
  obtain ⟨h0, h0', h1, h2, h3, h4, h5, h6⟩ := h
  have a := Gf.move_bd s.x s.vx
  have b := Gf.move_bd s.y s.vy
  unfold slow at h3 h4
  unfold tyShot i32 i64 fly
  dsimp only
  omega
end Gm
namespace Go.Proofs.YtiahpncglpfjeaaGreat
open Go.RowKit
set_option linter.unusedVariables false

set_option maxRecDepth 100000 in
set_option maxHeartbeats 4000000 in
theorem refmay_yes (g : Gm.G) (A : Option Addr) (n c : Nat) (w : World) (hg : Gm.ok g) (hn : n = g.shots.length) (hr : Lies w w.heap.size 6 A n (Gm.shotCells g.shots)) :
    Calls Tryz.prog 36 #[.agg (Gm.cells g (.slice A n c))] w fun e w' => e = .returned (.bool true) ∧ Below w.heap.size w w' := by
  obtain ⟨hf1, hf2, hl, hships, hshots⟩ := hg
  have d1 : decide (g.frame < 0) = false := decide_eq_false (by omega)
  have d2 : decide (1048576 < g.frame) = false := decide_eq_false (by omega)
  have d3 : decide (32 < (n : Int)) = false := decide_eq_false (by omega)
  have hN : Hid (n = g.shots.length) := Lib.hid hn
  have hn32 : n ≤ 32 := by omega
  clear hn
  have hc : ∀ W : World, ∀ j, (W.alloc (.cells (Gm.cells g (.slice A n c)) 28)).cell? ⟨W.heap.size, j, none⟩ = (Gm.cells g (.slice A n c))[j]? := fun W j => (Box.made W _ _).cell j
  have h0 := Gm.cells_0 g (.slice A n c)
  have h58 := Gm.cells_58 g (.slice A n c)
  go_enter Tryz.func36, Tryz.ntmps36
  go_wp2
  go_loopw [3] (fun i wr => ∃ k : Nat, k ≤ 8 ∧ i = .int .i64 k ∧ Box wr w.heap.size 28 (Gm.cells g (.slice A n c)) ∧ Below w.heap.size w wr) (fun i _ => 8 - (intOf i).toNat)
  case atStart => exact ⟨0, by omega, rfl, Box.made _ _ _, one_below _ _⟩
  case round =>
    obtain ⟨k, hk, rfl, hB, hb⟩ := hrel
    by_cases hlt : k < 8
    · have hcr := hB.cell
      have hlB := hB.lt
      have e0 := cells_at hcr hlt 0 (by omega)
      have e1 := cells_at hcr hlt 1 (by omega)
      have e2 := cells_at hcr hlt 2 (by omega)
      have e3 := cells_at hcr hlt 3 (by omega)
      have e4 := cells_at hcr hlt 4 (by omega)
      have e5 := cells_at hcr hlt 5 (by omega)
      have e6 := cells_at hcr hlt 6 (by omega)
      have ho := hships k hlt
      generalize g.ship k = s at e0 e1 e2 e3 e4 e5 e6 ho
      obtain ⟨on, x, y, vx, vy, cool, score⟩ := s
      simp only [Gm.Ship.cells, List.getElem?_cons_zero, List.getElem?_cons_succ, Nat.add_zero] at e0 e1 e2 e3 e4 e5 e6
      obtain ⟨o1, o2, o3, o4, o5, o6, o7, o8, o9⟩ := ho
      unfold Gm.inF Gm.slow at *
      dsimp only at o1 o2 o3 o4 o5 o6 o7 o8 o9
      have hk8 : (k : Int) < 8 := by omega
      clear hc hcr hships hshots h0 h58 d1 d2 d3
      rcases o1 with o1 | o1
      · subst o1
        go_wp2
        go_roundw
        case rel => exact ⟨k + 1, by omega, by go_num, hB.alloc _, hb.alloc (Nat.le_of_lt hlB) _⟩
        case measure => simp [intOf]; omega
      · injection o1 with z1 z2 z3 z4 z5 z6 z7
        subst z1 z2 z3 z4 z5 z6 z7
        go_wp2
        go_roundw
        case rel => exact ⟨k + 1, by omega, by go_num, hB.alloc _, hb.alloc (Nat.le_of_lt hlB) _⟩
        case measure => simp [intOf]; omega
    · have hk8 : ¬ (k : Int) < 8 := by omega
      have hcr := hB.cell
      have hlB := hB.lt
      clear hc hships h0 d1 d2 d3
      go_wp2
      go_loopw [5] (fun i wr => ∃ k : Nat, k ≤ n ∧ i = .int .i64 k ∧ Box wr w.heap.size 28 (Gm.cells g (.slice A n c)) ∧ Below w.heap.size w wr) (fun i _ => n - (intOf i).toNat)
      case atStart => exact ⟨0, by omega, rfl, hB, hb⟩
      case round =>
        obtain ⟨m, hm, rfl, hB, hb⟩ := hrel
        clear hcr hlB
        have hcr := hB.cell
        have hlB := hB.lt
        by_cases hlt : m < n
        · obtain ⟨ad, rfl, hbl, e0, e1, e2, e3, e4, e5⟩ := shots_at (hr.below hb) hN.out m (by have := hN.out; omega)
          have ho := hshots m (by have := hN.out; omega)
          generalize g.shots[m]'(by have := hN.out; omega) = s at e0 e1 e2 e3 e4 e5 ho
          obtain ⟨owner, x, y, vx, vy, left⟩ := s
          dsimp only at e0 e1 e2 e3 e4 e5
          obtain ⟨o1, o2, o3, o4, o5, o6, o7, o8⟩ := ho
          unfold Gm.inF Gm.slow at *
          dsimp only at o1 o2 o3 o4 o5 o6 o7 o8
          have hmn : (m : Int) < n := by omega
          clear hr hshots
          go_wp2
          go_roundw
          case rel => exact ⟨m + 1, by omega, by go_num, hB.alloc _, hb.alloc (Nat.le_of_lt hlB) _⟩
          case measure => simp [intOf]; omega
        · have hmn : ¬ (m : Int) < n := by omega
          clear hr
          go_wp2
          go_ret
          exact ⟨rfl, hb⟩
end Go.Proofs.YtiahpncglpfjeaaGreat
namespace Go.Proofs.YtiahpncglpfjeaaGreat
open Go.RowKit
set_option linter.unusedVariables false

section
variable {w : World} {B : Nat} {g : Gm.G} {s : Value}
end

theorem built_ship0 (x y : Int) : Tryz.prog.built 24 [(0, .bool true), (1, .int .i32 x), (2, .int .i32 y)] = some #[.bool true, .int .i32 x, .int .i32 y, .int .i32 0, .int .i32 0, .int .i64 0, .int .i64 0] := by kernel_rfl
section
variable {ops : Array Oper} {rest : List Oper} {o : Oper} {a : Act} {w : World} {Q : Exit → Act → World → Prop}
end
end Go.Proofs.YtiahpncglpfjeaaGreat
namespace Go.Proofs.YtiahpncglpfjeaaGreat
open Go.RowKit
set_option linter.unusedVariables false

theorem empty_row (w1 : World) (B : Nat) (o : Obj) (hB : B ≤ w1.heap.size) : ((w1.alloc o).alloc (.cells #[] 90)).ownsRow B 90 6 (.slice (some ⟨w1.heap.size + 1, 0, none⟩) 0 0) 0 [] := by
  have := World.ownsRow_lit (base := B) (e := 90) (size := 6) (w1.alloc o) #[] 0 (by simp <;> omega) (by unfold maxLen; omega) rfl
  simpa using this
theorem lies_two {w : World} {size n : Nat} {A : Option Addr} {xs : List Value} (h : Lies w w.heap.size size A n xs) (o1 o2 : Obj) : Lies ((w.alloc o1).alloc o2) ((w.alloc o1).alloc o2).heap.size size A n xs :=
  (h.below (two_below' w o1 o2)).wider (by simp <;> omega)
end Go.Proofs.YtiahpncglpfjeaaGreat
namespace Im
open Go
/-- The number that bytes are, the least first. -/
def val (f : Nat → Int) : Nat → Int
  | 0 => 0
  | k + 1 => val f k + f k * 2 ^ (8 * k)
end Im
namespace Rx
open Go
section
variable {P : Program} {X : Thr} {st : List Nat} {E C D : World → Prop} {Q : Act → (World → Prop) → Prop} {o : Oper} {rest : List Oper} {n : Nat} {a : Act}
end
end Rx
namespace Go.Proofs.YtiahpncglpfjeaaGreat
open Go.RowKit Go.Shelf
set_option linter.unusedVariables false
set_option linter.unusedSimpArgs false

section
variable {b Bb Bp : Nat} {bs : List Int} {W W' : World}
end

end Go.Proofs.YtiahpncglpfjeaaGreat
namespace Im
open Go
/-- A number of n bytes is read, if they are there. -/
def rdn (n : Nat) (bs : List Int) : Option (Int × List Int) := if n ≤ bs.length then some (val (fun k => bs.getD k 0) n, bs.drop n) else none
end Im
namespace Go.Proofs.YtiahpncglpfjeaaGreat
open Go.RowKit Go.Shelf
set_option linter.unusedVariables false
set_option linter.unusedSimpArgs false

end Go.Proofs.YtiahpncglpfjeaaGreat
namespace En
open Go Im
theorem cells_in (e : E) (s : Value) (i k : Nat) (hi : i < 8) (hk : k < 3) : (cells e s)[2 + i * 3 + k]? = (e.inp i).cells[k]? := by
  match i, hi with
  | 0, _ => match k, hk with | 0, _ | 1, _ | 2, _ => rfl
  | 1, _ => match k, hk with | 0, _ | 1, _ | 2, _ => rfl
  | 2, _ => match k, hk with | 0, _ | 1, _ | 2, _ => rfl
  | 3, _ => match k, hk with | 0, _ | 1, _ | 2, _ => rfl
  | 4, _ => match k, hk with | 0, _ | 1, _ | 2, _ => rfl
  | 5, _ => match k, hk with | 0, _ | 1, _ | 2, _ => rfl
  | 6, _ => match k, hk with | 0, _ | 1, _ | 2, _ => rfl
  | 7, _ => match k, hk with | 0, _ | 1, _ | 2, _ => rfl
/-- Two entries that are alike where it counts lie alike. -/
def Like (e o : E) : Prop := e.frame = o.frame ∧ e.evs = o.evs ∧ ∀ i, i < 8 → e.inp i = o.inp i
structure Ty (e : E) : Prop where
  frame : i64 e.frame
  evs : ∀ v ∈ e.evs, tyEv v
  ins : ∀ i, i < 8 → Gm.tyIn (e.inp i)
end En
namespace Go.Proofs.YtiahpncglpfjeaaGreat
open Go.ChangeShapes Go.WideShapes Go.ChangeAt Go.RowKit Go.Joins Go.ChangeMaps Go.Deep
set_option linter.unusedVariables false

theorem cells?_cell' {w : World} {base : Nat} {a : Addr} {n : Nat} {cs : List Value} (h : w.cells? base a n = some cs) : cs.length = n ∧ ∀ j, j < n → w.cell? (a.add j) = cs[j]? := by
  unfold World.cells? at h
  split at h
  · have hl := mapM_some_length h
    refine ⟨by simpa using hl, fun j hj => ?_⟩
    have := mapM_some_get h j j (by simp [hj])
    rw [this]
  · cases h
theorem cells_one_of' {v x : Value} (h : ∀ cs, v ≠ .agg cs) (hv : v.cells.toList = [x]) : v = x := by
  cases v <;> first | exact absurd rfl (h _) | simpa [Value.cells] using hv
section
variable {α : Type} {cells : α → List Value} {c : Nat}
theorem flat_len (hc : ∀ a, (cells a).length = c) (l : List α) : (l.flatMap cells).length = l.length * c := by
  induction l with
  | nil => simp
  | cons s l ih => rw [List.flatMap_cons, List.length_append, ih, List.length_cons, hc, Nat.succ_mul]; omega
theorem flat_at (hc : ∀ a, (cells a).length = c) (l : List α) (k j : Nat) (hk : k < l.length) (hj : j < c) : (l.flatMap cells)[k * c + j]? = (cells l[k])[j]? := by
  induction l generalizing k with
  | nil => simp at hk
  | cons s l ih =>
    rw [List.flatMap_cons]
    match k with
    | 0 => rw [List.getElem?_append_left (by rw [hc]; omega)]; simp
    | k + 1 =>
      rw [List.getElem?_append_right (by rw [hc, Nat.succ_mul]; omega)]
      have := ih k (by simpa using hk)
      rw [show (k + 1) * c + j - (cells s).length = k * c + j from by rw [hc, Nat.succ_mul]; omega, this]
      simp
end
section
variable {H : Type} {enc : TypeId × Value → H} {w : World} {base : Nat} {spare : Nat → Bool} {held : Bool}
set_option maxRecDepth 100000 in
theorem open_slice_c {α : Type} {t e : TypeId} (cells : α → List Value) (c : Nat) (ty : α → Prop) (z : α) (hu : Tryz.prog.underlying t = some (.slice e)) (hce : Tryz.prog.cellsOf e = c) (hc0 : 0 < c) (hlen : ∀ a, (cells a).length = c)
    (hel : ∀ {base : Nat} {spare : Nat → Bool} {held : Bool} {fuel : Nat} {l : List Value} {y : DataW H × List MemPlace}, l.length = c → DataW.trod enc Tryz.prog w base spare held fuel e l = some y → ∃ q : α, l = cells q ∧ ty q)
    {v : Value} {d : DataW H} {p : List MemPlace} (hag : ∀ cs, v ≠ .agg cs) (h : DataW.Trod enc Tryz.prog w base spare held t v d p) : ∃ (A : Option Addr) (cc : Nat) (l : List α), v = .slice A l.length cc ∧ (∀ x ∈ l, ty x) ∧ l.length ≤ maxLen ∧ Lies w w.heap.size c A l.length (l.flatMap cells) ∧ l.length ≤ cc := by
  obtain ⟨fuel, hf⟩ := h
  rcases DataW.trod_slice hu hf with ⟨hv, _⟩ | ⟨a, len, cap, elems, rest, n, rfl, hv, _, _, hlc, hcm, hlen', hel', _, _⟩
  · have ev : v = .slice none 0 0 := cells_one_of' hag hv
    exact ⟨none, 0, [], ev, fun x hx => (by cases hx), Nat.zero_le _, Lies.empty, Nat.le_refl _⟩
  · have ev : v = .slice (some a) len cap := cells_one_of' hag hv
    simp only [hce] at hel'
    have key : ∀ i, i < len → ∃ q : α, w.cells? base (a.add (i * c)) c = some (cells q) ∧ ty q := by
      intro i hi
      obtain ⟨y, hy⟩ : ∃ y, elems[i]? = some y := ⟨elems[i]'(by omega), List.getElem?_eq_getElem (by omega)⟩
      have h := hel' i hi
      rw [hy, Option.bind_eq_some_iff] at h
      obtain ⟨cs, hcs, ht⟩ := h
      have hl := (cells?_cell' hcs).1
      obtain ⟨q, h1, h2⟩ := hel hl ht
      exact ⟨q, by rw [hcs, h1], h2⟩
    have hch : ∃ ps : Nat → α, ∀ i, i < len → (w.cells? base (a.add (i * c)) c = some (cells (ps i)) ∧ ty (ps i)) :=
      ⟨fun i => if h : i < len then (key i h).choose else z, fun i hi => by dsimp only; rw [dif_pos hi]; exact (key i hi).choose_spec⟩
    obtain ⟨ps, hps⟩ := hch
    have ll : ((List.range len).map ps).length = len := by simp
    have lf : (((List.range len).map ps).flatMap cells).length = len * c := by rw [flat_len hlen, ll]
    refine ⟨some a, cap, (List.range len).map ps, by rw [ll]; exact ev, fun x hx => ?_, by rw [ll]; omega, ⟨?_, fun h0 => ?_, fun ad e h0 j u hu => ?_⟩, by rw [ll]; exact hlc⟩
    · obtain ⟨i, hi, rfl⟩ := List.mem_map.1 hx
      exact (hps i (by simpa using hi)).2
    · rw [lf, ll]
    · rw [ll] at h0
      exact ⟨a, rfl, by have := World.cells?_block (hps 0 (by omega)).1 hc0; simpa [Addr.add] using this⟩
    · injection e with e
      subst e
      have hjl : j < len * c := by have := (List.getElem?_eq_some_iff.1 hu).1; rwa [lf] at this
      have hjc : j / c < len := (Nat.div_lt_iff_lt_mul hc0).2 hjl
      have hjm : j % c < c := Nat.mod_lt _ hc0
      have hjj : j / c * c + j % c = j := by rw [Nat.mul_comm]; exact Nat.div_add_mod j c
      have hq := (cells?_cell' (hps (j / c) hjc).1).2 (j % c) hjm
      rw [add_twice, hjj] at hq
      rw [hq, ← hu]
      have := flat_at hlen ((List.range len).map ps) (j / c) (j % c) (by rw [ll]; exact hjc) hjm
      rw [hjj] at this
      rw [this]
      simp
/-- A list of whole numbers. -/
theorem open_slice {α : Type} {t e : TypeId} (cells : α → List Value) (c : Nat) (ty : α → Prop) (z : α) (hu : Tryz.prog.underlying t = some (.slice e)) (hce : Tryz.prog.cellsOf e = c) (hc0 : 0 < c) (hlen : ∀ a, (cells a).length = c)
    (hel : ∀ {base : Nat} {spare : Nat → Bool} {held : Bool} {fuel : Nat} {l : List Value} {y : DataW H × List MemPlace}, l.length = c → DataW.trod enc Tryz.prog w base spare held fuel e l = some y → ∃ q : α, l = cells q ∧ ty q)
    {v : Value} {d : DataW H} {p : List MemPlace} (hag : ∀ cs, v ≠ .agg cs) (h : DataW.Trod enc Tryz.prog w base spare held t v d p) : ∃ (A : Option Addr) (cc : Nat) (l : List α), v = .slice A l.length cc ∧ (∀ x ∈ l, ty x) ∧ l.length ≤ maxLen ∧ Lies w w.heap.size c A l.length (l.flatMap cells) := by
  obtain ⟨A, cc, l, h1, h2, h3, h4, _⟩ := open_slice_c cells c ty z hu hce hc0 hlen hel hag h
  exact ⟨A, cc, l, h1, h2, h3, h4⟩

end
end Go.Proofs.YtiahpncglpfjeaaGreat
namespace Go.Proofs.YtiahpncglpfjeaaGreat
open Go.RowKit
set_option linter.unusedVariables false

set_option maxHeartbeats 400000 in
theorem refcut_any (v : Int) (h : -9223372036854775808 ≤ v) (h' : v ≤ 9223372036854775807) (w : World) :
    Calls Tryz.prog 135 #[.int .i64 v] w fun e w' => e = .returned (.int .i32 (Fx.cut v)) ∧ w = w' := by
  go_enter Tryz.func135, Tryz.ntmps135
  go_wp2
  all_goals
    go_ret
    exact ⟨ret_i32 (by unfold Fx.cut; omega), rfl⟩

set_option maxHeartbeats 400000 in
theorem refclamp_any (a lo hi : Int) (wa : -2147483648 ≤ a ∧ a ≤ 2147483647) (wl : -2147483648 ≤ lo ∧ lo ≤ 2147483647) (wh : -2147483648 ≤ hi ∧ hi ≤ 2147483647) (w : World) :
    Calls Tryz.prog 107 #[.int .i32 a, .int .i32 lo, .int .i32 hi] w fun e w' => e = .returned (.int .i32 (Fx.clamp a lo hi)) ∧ w = w' := by
  go_enter Tryz.func107, Tryz.ntmps107
  go_wp2
  all_goals
    go_ret
    exact ⟨ret_i32 (by unfold Fx.clamp; omega), rfl⟩

set_option maxHeartbeats 400000 in
theorem refadd_any (a b : Int) (wa : -2147483648 ≤ a ∧ a ≤ 2147483647) (wb : -2147483648 ≤ b ∧ b ≤ 2147483647) (w : World) :
    Calls Tryz.prog 108 #[.int .i32 a, .int .i32 b] w fun e w' => e = .returned (.int .i32 (Fx.cut (a + b))) ∧ w = w' := by
  go_enter Tryz.func108, Tryz.ntmps108
  go_wp2_with fail
  refine (refcut_any _ (by omega) (by omega) _).mono ?_
  rintro e w1 ⟨rfl, rfl⟩
  go_wp2_with fail
  go_ret
  exact ⟨rfl, rfl⟩

end Go.Proofs.YtiahpncglpfjeaaGreat
namespace Go.Proofs.YtiahpncglpfjeaaGreat
open Go.RowKit
set_option linter.unusedVariables false

set_option maxHeartbeats 400000 in
theorem refround_any (v : Int) (wv : -9223372036854775808 ≤ v ∧ v ≤ 9223372036854775807) (w : World) :
    Calls Tryz.prog 109 #[.int .i64 v] w fun e w' => e = .returned (.int .i64 (v % 16777216)) ∧ w = w' := by
  have hb := Gf.tmod_bd v
  have h2 := Gf.tmod_bd (v.tmod 16777216 + 16777216)
  have he' := Lib.hid (Gf.round_eq' v)
  go_enter Tryz.func109, Tryz.ntmps109
  go_wp2
  go_ret
  exact ⟨ret_int he'.out, rfl⟩

set_option maxHeartbeats 400000 in
theorem refmove_any (a v : Int) (wa : -2147483648 ≤ a ∧ a ≤ 2147483647) (wv : -2147483648 ≤ v ∧ v ≤ 2147483647) (w : World) :
    Calls Tryz.prog 68 #[.int .i32 a, .int .i32 v] w fun e w' => e = .returned (.int .i32 (Gf.move a v)) ∧ w = w' := by
  have c1 := fun X => Lib.hid (refround_any (a + v) (by omega) X)
  have hm := Gf.move_bd a v
  have hq : (a + v) % 16777216 = Gf.move a v := rfl
  rw [hq] at c1
  clear hq
  go_enter Tryz.func68, Tryz.ntmps68
  go_wp2_with (go_at_call 109; ((with_reducible refine ((c1 _).out).mono ?_); rintro e w' ⟨rfl, rfl⟩))
  go_ret
  exact ⟨rfl, rfl⟩

set_option maxHeartbeats 400000 in
theorem refgap_any (a b : Int) (wa : -2147483648 ≤ a ∧ a ≤ 2147483647) (wb : -2147483648 ≤ b ∧ b ≤ 2147483647) (w : World) :
    Calls Tryz.prog 136 #[.int .i32 a, .int .i32 b] w fun e w' => e = .returned (.int .i32 (Gf.gap a b)) ∧ w = w' := by
  obtain ⟨r, hr⟩ : ∃ r, r = (b - a) % 16777216 := ⟨_, rfl⟩
  have c1 := fun X => Lib.hid (refround_any (b - a) (by omega) X)
  rw [← hr] at c1
  have hb : 0 ≤ r ∧ r < 16777216 := by omega
  have hg := Lib.hid (show Gf.gap a b = (if 8388608 ≤ r then r - 16777216 else r) by unfold Gf.gap; split <;> omega)
  clear hr
  go_enter Tryz.func136, Tryz.ntmps136
  go_wp2_with (go_at_call 109; ((with_reducible refine ((c1 _).out).mono ?_); rintro e w' ⟨rfl, rfl⟩))
  · go_ret
    exact ⟨ret_int (by rw [hg.out, if_pos (by assumption)]), rfl⟩
  · go_ret
    exact ⟨ret_int (by rw [hg.out, if_neg (by omega)]), rfl⟩

set_option maxHeartbeats 400000 in
theorem refhits_any (ax ay bx by' : Int) (wax : -2147483648 ≤ ax ∧ ax ≤ 2147483647) (way : -2147483648 ≤ ay ∧ ay ≤ 2147483647) (wbx : -2147483648 ≤ bx ∧ bx ≤ 2147483647) (wby' : -2147483648 ≤ by' ∧ by' ≤ 2147483647) (w : World) :
    Calls Tryz.prog 111 #[.int .i32 ax, .int .i32 ay, .int .i32 bx, .int .i32 by'] w fun e w' => e = .returned (.bool (Gf.hits ax ay bx by')) ∧ w = w' := by
  obtain ⟨g, hg⟩ : ∃ g, g = Gf.gap ax bx := ⟨_, rfl⟩
  obtain ⟨k, hk⟩ : ∃ k, k = Gf.gap ay by' := ⟨_, rfl⟩
  have c1 := fun X => Lib.hid (refgap_any ax bx wax wbx X)
  have c2 := fun X => Lib.hid (refgap_any ay by' way wby' X)
  rw [← hg] at c1
  rw [← hk] at c2
  have g1 : -8388608 ≤ g ∧ g < 8388608 := hg ▸ Gf.gap_bd ax bx
  have g2 : -8388608 ≤ k ∧ k < 8388608 := hk ▸ Gf.gap_bd ay by'
  have hh := Lib.hid (show Gf.hits ax ay bx by' = (Gf.near g && Gf.near k) by unfold Gf.hits; rw [hg, hk])
  clear hg hk
  go_enter Tryz.func111, Tryz.ntmps111
  go_wp2_with (go_at_call 136; first | ((with_reducible refine ((c1 _).out).mono ?_); rintro e w' ⟨rfl, rfl⟩) | ((with_reducible refine ((c2 _).out).mono ?_); rintro e w' ⟨rfl, rfl⟩))
  all_goals
    go_ret
    exact ⟨ret_bool (by rw [hh.out, Bool.eq_iff_iff]; unfold Gf.near; simp; omega), rfl⟩

set_option maxHeartbeats 400000 in
theorem refsign_any (a : Int) (wa : -128 ≤ a ∧ a ≤ 127) (w : World) :
    Calls Tryz.prog 110 #[.int .i8 a] w fun e w' => e = .returned (.int .i32 (if 0 < a then 1 else if a < 0 then -1 else 0)) ∧ w = w' := by
  go_enter Tryz.func110, Tryz.ntmps110
  go_wp2
  all_goals
    go_ret
    exact ⟨ret_int (by (repeat' split) <;> omega), rfl⟩

set_option maxHeartbeats 400000 in
theorem refaim_any (x y b : Int) (wx : -128 ≤ x ∧ x ≤ 127) (wy : -128 ≤ y ∧ y ≤ 127) (wb : 0 ≤ b ∧ b ≤ 255) (w : World) :
    Calls Tryz.prog 69 #[.agg #[.int .i8 x, .int .i8 y, .int .u8 b]] w fun e w' => e = .returned (.tuple #[.int .i32 (Gf.aimx x y), .int .i32 (Gf.aimy y)]) ∧ Below w.heap.size w w' := by
  obtain ⟨r, hr⟩ : ∃ r : Int, r = (if 0 < x then 1 else if x < 0 then -1 else 0) := ⟨_, rfl⟩
  obtain ⟨s, hs⟩ : ∃ s : Int, s = (if 0 < y then 1 else if y < 0 then -1 else 0) := ⟨_, rfl⟩
  have c1 := fun X => Lib.hid (refsign_any x wx X)
  have c2 := fun X => Lib.hid (refsign_any y wy X)
  rw [← hr] at c1
  rw [← hs] at c2
  have b1 : -1 ≤ r ∧ r ≤ 1 := by rw [hr]; (repeat' split) <;> omega
  have b2 : -1 ≤ s ∧ s ≤ 1 := by rw [hs]; (repeat' split) <;> omega
  have hrH := Lib.hid hr
  have hsH := Lib.hid hs
  clear hr hs
  go_enter Tryz.func69, Tryz.ntmps69
  go_wp2_with fail
  go_quiet ((first | (go_at_call 110; with_reducible exact draws_left (c1 _).out) | (go_at_call 110; with_reducible exact draws_left (c2 _).out)))
  go_wp2
  all_goals
    go_ret2
    have e1 := hrH.out
    have e2 := hsH.out
    refine ⟨?_, draws_below (one_below _ _) _⟩
    have ex : Gf.aimx x y = (if r = 0 ∧ s = 0 then 1 else r) * 393216 := by
      unfold Gf.aimx Gf.way; rw [e1, e2]; (repeat' split) <;> omega
    have ey : Gf.aimy y = s * 393216 := by
      unfold Gf.aimy Gf.way; rw [e2]; (repeat' split) <;> omega
    rw [ex, ey]
    clear e1 e2 ex ey
    clear hrH hsH c1 c2
    refine ret_two ?_ (by omega)
    first
      | (have hr0 : ¬ r = 0 := by assumption
         rw [if_neg (fun h => hr0 h.1)]; omega)
      | (have hs1 : (s == 0) = false := by assumption
         have hs0 : s ≠ 0 := by simpa using hs1
         rw [if_neg (fun h => hs0 h.2)]; omega)
      | (have hs0 : s = 0 := eq_of_beq (by assumption)
         rw [if_pos ⟨by assumption, hs0⟩]; rfl)

set_option maxHeartbeats 400000 in
theorem refpush_any (v s : Int) (wv : -2147483648 ≤ v ∧ v ≤ 2147483647) (wss : -128 ≤ s ∧ s ≤ 127) (w : World) :
    Calls Tryz.prog 67 #[.int .i32 v, .int .i8 s] w fun e w' => e = .returned (.int .i32 (Gf.push v s)) ∧ w = w' := by
  have hs := Gf.slow_in wv
  have c1 := fun X => Lib.hid (refadd_any (v - v.tdiv 16) (256 * s) (by omega) (by omega) X)
  have hc := Fx.cut_bd (v - v.tdiv 16 + 256 * s)
  have c2 := fun X => Lib.hid (refclamp_any (Fx.cut (v - v.tdiv 16 + 256 * s)) (-524288) 524288 hc (by omega) (by omega) X)
  go_enter Tryz.func67, Tryz.ntmps67
  go_wp2_with (first | (go_at_call 108; ((with_reducible refine ((c1 _).out).mono ?_); rintro e w' ⟨rfl, rfl⟩)) | (go_at_call 107; ((with_reducible refine ((c2 _).out).mono ?_); rintro e w' ⟨rfl, rfl⟩)))
  go_ret
  exact ⟨rfl, rfl⟩
end Go.Proofs.YtiahpncglpfjeaaGreat
namespace Go.Proofs.YtiahpncglpfjeaaGreat
open Go.RowKit
set_option linter.unusedVariables false

theorem ships_neq (f g : Nat → Gm.Ship) (w : World) : (binOp .neq 25 (.agg (Gm.shipCells f).toArray) (.agg (Gm.shipCells g).toArray)).run Tryz.prog w = .ok (.bool (!Gm.shipsEq f g)) w := by
  simp only [binOp]
  simp [Op.equal, Op.maxDepth, ships_eq]
end Go.Proofs.YtiahpncglpfjeaaGreat
namespace Go.Proofs.YtiahpncglpfjeaaGreat
open Go.RowKit
set_option linter.unusedVariables false

set_option maxHeartbeats 400000 in
theorem refnext_any (d : Int) (wd : 0 ≤ d ∧ d ≤ 18446744073709551615) (w : World) :
    Calls Tryz.prog 134 #[.int .u64 d] w fun e w' => e = .returned (.int .u64 (Dn.next d)) ∧ w = w' := by
  go_enter Tryz.func134, Tryz.ntmps134
  go_wp2
  go_ret
  exact ⟨ret_int (next_wraps d), rfl⟩

set_option maxHeartbeats 400000 in
theorem refpick_in (d n : Int) (wd : 0 ≤ d ∧ d ≤ 18446744073709551615) (wn : 1 ≤ n ∧ n ≤ 2147483647) (w : World) :
    Calls Tryz.prog 106 #[.int .u64 d, .int .i64 n] w fun e w' => e = .returned (.tuple #[.int .i64 (Dn.share (Dn.next d) n), .int .u64 (Dn.next d)]) ∧ w = w' := by
  have c1 := fun X => Lib.hid (refnext_any d wd X)
  have hb := Dn.next_bd d
  have hp := Dn.share_bd hb wn
  have hs : Hid (Dn.share (Dn.next d) n = Dn.next d / 4294967296 * n / 4294967296) := Lib.hid rfl
  go_enter Tryz.func106, Tryz.ntmps106
  go_wp2_with (go_at_call 134; ((with_reducible refine ((c1 _).out).mono ?_); rintro e w' ⟨rfl, rfl⟩))
  go_ret2
  exact ⟨by rw [hs.out]; rfl, rfl⟩

set_option maxHeartbeats 400000 in
theorem refplace_any (d : Int) (wd : 0 ≤ d ∧ d ≤ 18446744073709551615) (w : World) :
    Calls Tryz.prog 65 #[.int .u64 d] w fun e w' => e = .returned (.tuple #[.int .i32 (Dn.share (Dn.next d) 16777216), .int .i32 (Dn.share (Dn.next (Dn.next d)) 16777216), .int .u64 (Dn.next (Dn.next d))]) ∧ w = w' := by
  have c1 := fun X => Lib.hid (refpick_in d 16777216 wd (by omega) X)
  have c2 := fun X => Lib.hid (refpick_in (Dn.next d) 16777216 (Dn.next_bd d) (by omega) X)
  have b1 := Dn.share_bd (Dn.next_bd d) (show (1 : Int) ≤ 16777216 ∧ (16777216 : Int) ≤ 2147483647 by omega)
  have b2 := Dn.share_bd (Dn.next_bd (Dn.next d)) (show (1 : Int) ≤ 16777216 ∧ (16777216 : Int) ≤ 2147483647 by omega)
  go_enter Tryz.func65, Tryz.ntmps65
  go_wp2_with (go_at_call 106; first | ((with_reducible refine ((c1 _).out).mono ?_); rintro e w' ⟨rfl, rfl⟩) | ((with_reducible refine ((c2 _).out).mono ?_); rintro e w' ⟨rfl, rfl⟩))
  go_ret3
  exact ⟨rfl, rfl⟩

end Go.Proofs.YtiahpncglpfjeaaGreat
namespace Ro
open Go

section
variable {l : List Oper} {v : Nat → Value} {a0 : Act}
end

section
variable {P : Program} {l : List Oper} {A : Nat → Act} {C : Nat → World → Prop} {v : Nat → Value} {cl : Nat → Nat → Bool} {listed : Array Bool} {a : Act} {w : World}
end

section
variable {P : Program} {Q : Act → (World → Prop) → Prop} {o : Oper} {rest : List Oper} {a : Act} {C : World → Prop} {W : World}
theorem lex_load (hs : isStore o = false) (hf : isFree o = false) {v : Value} (hrun : (execOp a.eval o).run P W = .ok (.value v) W) (h : wpLex P Q rest (a.put o.dst v) (one W)) : wpLex P Q (o :: rest) a (one W) := by
  unfold wpLex
  rw [if_neg (by simp [hs]), if_neg (by simp [hf])]
  exact ⟨v, fun w hw => by cases hw; unfold Gives; rw [hrun]; exact ⟨rfl, rfl⟩, h⟩
theorem lex_region {id : Nat} {l : List Oper} {Q : Exit → Act → World → Prop} (hm : P.follows .mixedOrders = true) (hB : okB l = true) (h : wpLex P (fun a' C' => ∀ w', C' w' → Q .normal a' w') l a (one W.drew)) : (Code.region id l.toArray true).wp P Q a W :=
  wp_region_lex hm hB (one W.drew) rfl h
end
end Ro
namespace Go.Proofs.YtiahpncglpfjeaaGreat
open Go.RowKit
set_option linter.unusedVariables false

theorem game_tags (g : Gm.G) (A : Option Addr) (n c : Nat) (o : Nat) : ((Gm.cells g (.slice A n c))[o]?).map tagV = gameTags[o]? := by
  rw [show (Gm.cells g (.slice A n c))[o]? = (([Value.int .i64 g.frame, Value.int .u64 g.dice] ++ Gm.shipCells g.ship ++ [Value.slice A n c])[o]?) from by unfold Gm.cells; simp]
  rw [← List.getElem?_map]
  rfl
theorem no_shot_in_game : ∀ o, o < 59 → ¬ (gameTags[o]? = some 1 ∧ gameTags[o + 1]? = some 2) := by decide
theorem Lies.off_game {w : World} {B BG n m : Nat} {A A' : Option Addr} {c : Nat} {l : List Gm.Shot} {g : Gm.G} (h : Lies w B 6 A n (Gm.shotCells l)) (hn : n = l.length) (hB : Box w BG 28 (Gm.cells g (.slice A' m c))) (h0 : n ≠ 0) (ad : Addr) (e : A = some ad) : ad.block ≠ BG := by
  intro eb
  subst hn
  have hlt : 0 < l.length := by omega
  have hc := h.cell ad e h0
  have e0 := hc 0 (.int .i64 l[0].owner) (by have := Gm.shotCells_at l 0 0 hlt (by omega); simpa [Gm.Shot.cells] using this)
  have e1 := hc 1 (.int .i32 l[0].x) (by have := Gm.shotCells_at l 0 1 hlt (by omega); simpa [Gm.Shot.cells] using this)
  rw [show ad.add 0 = ad from rfl] at e0
  rw [show ad.add 1 = ⟨ad.block, ad.off + 1, none⟩ from rfl] at e1
  rw [eb, hB.cell] at e1
  have e0' : (Gm.cells g (.slice A' m c))[ad.off]? = some (.int .i64 l[0].owner) := by
    unfold World.cell? at e0
    rw [eb, hB.is] at e0
    dsimp only at e0
    split at e0
    · cases e0
    · exact e0
  have t0 := game_tags g A' m c ad.off
  have t1 := game_tags g A' m c (ad.off + 1)
  rw [e0'] at t0
  rw [e1] at t1
  have hlt' : ad.off < 59 := by have := (Array.getElem?_eq_some_iff.1 e0').1; rwa [Gm.cells_size] at this
  exact no_shot_in_game _ hlt' ⟨t0.symm, t1.symm⟩
/-- A game's block is stored whole: the shots stay. -/
theorem Lies.game_row {w : World} {n BG m : Nat} {A A' : Option Addr} {c : Nat} {l : List Gm.Shot} {g : Gm.G} (h : Lies w w.heap.size 6 A n (Gm.shotCells l)) (hn : n = l.length) (hB : Box w BG 28 (Gm.cells g (.slice A' m c))) (cs : Array Value) : Lies (w.setRow BG cs) (w.setRow BG cs).heap.size 6 A n (Gm.shotCells l) := by
  refine ⟨h.len, fun hn => by obtain ⟨ad, e, hb⟩ := h.start hn; exact ⟨ad, e, by rw [setRow_size]; exact hb⟩, fun ad e h0 j u hu => ?_⟩
  have hne := h.off_game hn hB h0 ad e
  rw [World.cell?_of_block (w := w) (by rw [add_block]; exact setRow_other w BG _ cs hne)]
  exact h.cell ad e h0 j u hu
end Go.Proofs.YtiahpncglpfjeaaGreat
namespace Go.Proofs.YtiahpncglpfjeaaGreat
open Go.RowKit Go.Shelf
set_option linter.unusedVariables false
set_option linter.unusedSimpArgs false


/-- What Slot says. -/
def SlotIs (r : Ros.R) (p v : Int) : Prop := (v = -1 ∧ (Ros.Ok r → 0 ≤ p → ∀ k, k < 8 → r.peer k ≠ p)) ∨ ∃ k : Nat, k < 8 ∧ v = k ∧ Ros.Ok r ∧ 0 ≤ p ∧ r.peer k = p
set_option maxRecDepth 100000 in
set_option maxHeartbeats 2000000 in
theorem refslot_any (r : Ros.R) (p : Int) (w : World) :
    Calls Tryz.prog 26 #[.agg (Ros.cells r), .int .i64 p] w fun e w' => (∃ v, e = .returned (.int .i64 v) ∧ SlotIs r p v) ∧ Below w.heap.size w w' := by
  have P0 := Lib.hid (Box.made w 33 (Ros.cells r))
  have K0 := Lib.hid (one_below w (.cells (Ros.cells r) 33))
  have cm := fun X => Lib.hid (refros_may r X)
  by_cases hp : p < 0
  · have hp' : ¬ 0 ≤ p := by omega
    have HP := Lib.hid hp'
    clear hp
    go_enter Tryz.func26, Tryz.ntmps26
    go_wp2
    go_loopw [5] (fun i wr => i = .int .i64 0 ∧ Below w.heap.size w wr) (fun i _ => 0)
    case atStart => exact ⟨rfl, K0.out⟩
    case round =>
      obtain ⟨rfl, hb⟩ := hrel
      clear P0 K0
      go_wp2
      go_ret
      exact ⟨⟨-1, rfl, .inl ⟨rfl, fun _ h => absurd h (by have := HP.out; omega)⟩⟩, hb⟩
  · have hp' : 0 ≤ p := by omega
    have HP := Lib.hid hp'
    clear hp
    by_cases hok : Ros.Ok r
    · have HOK := Lib.hid hok
      clear hok
      go_enter Tryz.func26, Tryz.ntmps26
      go_wp2
      go_loopw [5] (fun i wr => ∃ k : Nat, k ≤ 8 ∧ i = .int .i64 k ∧ Box wr w.heap.size 33 (Ros.cells r) ∧ Below w.heap.size w wr ∧ ∀ j, j < k → r.peer j ≠ p) (fun i _ => 8 - (intOf i).toNat)
      case atStart => exact ⟨0, by omega, rfl, P0.out, K0.out, fun j hj => absurd hj (Nat.not_lt_zero j)⟩
      case round =>
        obtain ⟨k, hk, rfl, hB, hb, hall⟩ := hrel
        clear P0 K0
        have HB := Lib.hid hB
        have HBB := Lib.hid hb
        have HALL := Lib.hid hall
        clear hB hb hall
        by_cases hlt : k < 8
        · have hk8 : (k : Int) < 8 := by omega
          have hcell : ∀ X, Below wr.heap.size wr X → X.cell? ⟨w.heap.size, 1 + k * 2, none⟩ = some (.int .i64 (r.peer k)) := fun X h => ((HB.out.below h HB.out.lt).cell _).trans (Ros.cells_peer r k hlt)
          obtain ⟨pk, hpk⟩ : ∃ pk, pk = r.peer k := ⟨_, rfl⟩
          rw [← hpk] at hcell
          by_cases he : pk = p
          · have HE := Lib.hid (show r.peer k = p from hpk ▸ he)
            clear hpk
            subst he
            go_wp2_with (first | ((with_reducible refine ros_load_g ?_ rfl ?_); (focus first | rfl | kernel_rfl | simp [Region.wanted, yielded]); apply LoadRow.mk rfl; (focus (with_reducible exact HB.out)); (focus (exact ros_info))) | (go_at_call 37; ((with_reducible refine ((cm _).out).mono ?_); rintro e w1 ⟨⟨v, rfl, hv⟩, hb⟩; obtain rfl : v = true := hv.2 HOK.out; have k1 := hcell _ hb; have K1 := Lib.hid (HBB.out.trans (hb.mono HBB.out.size)); clear hb hv)))
            go_ret
            exact ⟨⟨k, rfl, .inr ⟨k, hlt, rfl, HOK.out, HP.out, HE.out⟩⟩, K1.out⟩
          · have hne : (pk == p) = false := by simpa using he
            have HE := Lib.hid (show ∀ j, j < k + 1 → r.peer j ≠ p from fun j hj => by
              by_cases ej : j = k
              · rw [ej, ← hpk]; exact he
              · exact HALL.out j (by omega))
            clear hpk he
            go_wp2_with (first | ((with_reducible refine ros_load_g ?_ rfl ?_); (focus first | rfl | kernel_rfl | simp [Region.wanted, yielded]); apply LoadRow.mk rfl; (focus (with_reducible exact HB.out)); (focus (exact ros_info))) | (go_at_call 37; ((with_reducible refine ((cm _).out).mono ?_); rintro e w1 ⟨⟨v, rfl, hv⟩, hb⟩; obtain rfl : v = true := hv.2 HOK.out; have k1 := hcell _ hb; have B1 := Lib.hid (HB.out.below hb HB.out.lt); have K1 := Lib.hid (HBB.out.trans (hb.mono HBB.out.size)); clear hb hv)))
            go_roundw
            case rel => exact ⟨k + 1, by omega, by go_num, B1.out, K1.out, HE.out⟩
            case measure => simp [intOf]; omega
        · have hk8 : ¬ (k : Int) < 8 := by omega
          obtain rfl : k = 8 := by omega
          go_wp2
          go_ret
          exact ⟨⟨-1, rfl, .inl ⟨rfl, fun _ _ => HALL.out⟩⟩, HBB.out⟩
    · have HOK := Lib.hid hok
      clear hok
      go_enter Tryz.func26, Tryz.ntmps26
      go_wp2
      go_loopw [5] (fun i wr => i = .int .i64 0 ∧ Box wr w.heap.size 33 (Ros.cells r) ∧ Below w.heap.size w wr) (fun i _ => 0)
      case atStart => exact ⟨rfl, P0.out, K0.out⟩
      case round =>
        obtain ⟨rfl, hB, hb⟩ := hrel
        have HB := Lib.hid hB
        have HBB := Lib.hid hb
        clear P0 K0 hB hb
        go_wp2_with (first | ((with_reducible refine ros_load_g ?_ rfl ?_); (focus first | rfl | kernel_rfl | simp [Region.wanted, yielded]); apply LoadRow.mk rfl; (focus (with_reducible exact HB.out)); (focus (exact ros_info))) | (go_at_call 37; ((with_reducible refine ((cm _).out).mono ?_); rintro e w1 ⟨⟨v, rfl, hv⟩, hb⟩; obtain rfl : v = false := (by cases v <;> first | rfl | exact absurd (hv.1 rfl) HOK.out); have K1 := Lib.hid (HBB.out.trans (hb.mono HBB.out.size)); clear hb hv)))
        go_ret
        exact ⟨⟨-1, rfl, .inl ⟨rfl, fun h => absurd h HOK.out⟩⟩, K1.out⟩
theorem slot_of {r : Ros.R} {p v : Int} (hr : Ros.Ok r) (h0 : 0 ≤ p) (h1 : p < 12) (h : SlotIs r p v) : v = Ros.of r p := by
  rcases Ros.of_cases hr h0 h1 with ⟨e, hn⟩ | ⟨k, hk, e, hp⟩
  · rcases h with ⟨e', _⟩ | ⟨k, hk, _, _, _, hp⟩
    · rw [e, e']
    · exact absurd hp (hn k hk)
  · rcases h with ⟨_, hn⟩ | ⟨j, hj, e', _, _, hp'⟩
    · exact absurd hp (hn hr h0 k hk)
    · rw [e, e']
      have := hr.one hj hk (hp'.trans hp.symm) (by omega)
      rw [this]

theorem seat_info2 : (Tryz.prog.info? 30).map (·.size) = some 2 := by kernel_rfl
theorem seat_splice (r : Ros.R) (k : Nat) (hk : k < 8) (p g : Int) : splice (Ros.cells r) (1 + k * 2) [.int .i64 p, .int .i64 g] = Ros.cells ⟨r.version, Ros.upd r.peer k p, Ros.upd r.gen k g⟩ := by
  match k, hk with
  | 0, _ | 1, _ | 2, _ | 3, _ | 4, _ | 5, _ | 6, _ | 7, _ => rfl
section
variable {ops : Array Oper} {rest : List Oper} {o : Oper} {a : Act} {w : World} {Q : Exit → Act → World → Prop} {x y : Operand} {dst : Option Tmp} {p v : Value}
def StoreSeat (ops : Array Oper) (Q : Exit → Act → World → Prop) (rest : List Oper) (dst : Option Tmp) (p v : Value) (a : Act) (w : World) : Prop :=
  ∃ (B k : Nat) (r : Ros.R) (q g : Int), p = .pointer (some ⟨B, 1 + k * 2, none⟩) ∧ v = .agg #[.int .i64 q, .int .i64 g] ∧ k < 8 ∧ Box w B 33 (Ros.cells r) ∧ wpList Tryz.prog ops Q rest (a.put dst undef) (w.setRow B (Ros.cells ⟨r.version, Ros.upd r.peer k q, Ros.upd r.gen k g⟩))
theorem StoreSeat.mk {B k : Nat} {r : Ros.R} {q g : Int} (hp : p = .pointer (some ⟨B, 1 + k * 2, none⟩)) (hv : v = .agg #[.int .i64 q, .int .i64 g]) (hk : k < 8) (hB : Box w B 33 (Ros.cells r)) (h : wpList Tryz.prog ops Q rest (a.put dst undef) (w.setRow B (Ros.cells ⟨r.version, Ros.upd r.peer k q, Ros.upd r.gen k g⟩))) : StoreSeat ops Q rest dst p v a w := ⟨B, k, r, q, g, hp, hv, hk, hB, h⟩
theorem ros_store_seat (hgd : o.guard = none) (ho : o.op = .store 30 x y) (h : StoreSeat ops Q rest o.dst (a.eval x) (a.eval y) a w) : wpList Tryz.prog ops Q (o :: rest) a w := by
  obtain ⟨B, k, r, q, g, hx, hy, hk, hB, h⟩ := h
  refine wpList_store_mid hgd 30 x y ho B (1 + k * 2) #[.int .i64 q, .int .i64 g] hx hy (hB.there _ _ (by rw [Ros.cells_size]; show 1 + k * 2 + 2 ≤ 17; omega)) seat_info2 (by simp [Value.oneCell']) ?_
  rw [setCells_row B 33 _ (1 + k * 2) (Ros.cells r) w hB.is (by rw [Ros.cells_size]; show 1 + k * 2 + 2 ≤ 17; omega), seat_splice r k hk q g]
  exact h
end

set_option maxRecDepth 100000 in
set_option maxHeartbeats 2000000 in
theorem refgive_no (r : Ros.R) (s : Int) (w : World) (hno : ¬ Ros.MayGive r s) :
    Calls Tryz.prog 64 #[.agg (Ros.cells r), .int .i64 s] w fun e w' => e = .returned (.tuple #[.agg (Ros.cells r), .int .i64 1]) ∧ Below w.heap.size w w' := by
  have P0 := Lib.hid ((Box.made w 33 (Ros.cells r)).alloc (.cells (Ros.cells rosZero) 33))
  have Z0 := Lib.hid (Box.made_at (n := w.heap.size + 1) (w.alloc (.cells (Ros.cells r) 33)) 33 (Ros.cells rosZero) (by simp))
  have K0 := Lib.hid (two_below' w (.cells (Ros.cells r) 33) (.cells (Ros.cells rosZero) 33))
  have cm := fun X => Lib.hid (refros_may r X)
  have r0 := Ros.cells_0 r
  by_cases hok : Ros.Ok r
  · have HOK := Lib.hid hok
    by_cases h1 : s < 0
    · clear hok hno
      go_enter Tryz.func64, Tryz.ntmps64
      go_wp2_with (first | (with_reducible refine ros_alloc rfl rfl ?_) | ((with_reducible refine ros_load rfl rfl ?_); apply LoadRow.mk rfl; (focus first | (with_reducible exact P0.out) | (with_reducible exact P2.out) | (with_reducible exact P1.out) | (with_reducible exact P4.out)); (focus (exact ros_info))) | ((with_reducible refine ros_store rfl rfl ?_); apply StoreRow.mk rfl rfl; (focus first | (with_reducible exact Z4.out) | (with_reducible exact Z2.out) | (with_reducible exact Z1.out)); (focus (exact ros_info)); (focus rfl); (focus (exact ros_one _))) | (go_at_call 37; ((with_reducible refine ((cm _).out).mono ?_); rintro e w1 ⟨⟨v, rfl, hv⟩, hb⟩; obtain rfl : v = true := hv.2 HOK.out; have P1 := Lib.hid (P0.out.below hb P0.out.lt); have Z1 := Lib.hid (Z0.out.below hb Z0.out.lt); have K1 := Lib.hid (K0.out.trans (hb.mono K0.out.size)); have k1 := P1.out.cell; have f1 := P1.out.free; clear hb hv)))
      refine bodyPost_ret (v := .tuple #[.agg (Ros.cells r), .int .i64 1]) ?_ ?_ ?_
      · exact results_cell_tmp (p := 4) (q := 5) rfl _ _ _ _ (Ros.cells r) _ rfl (Box.row Z1.out _) Tryz.underlying33 rfl ros_info
      · rfl
      · exact ⟨rfl, Below.setRow' K1.out (by omega) _⟩
    by_cases h2 : 8 ≤ s
    · have h1' : ¬ s < 0 := h1
      clear hok hno
      go_enter Tryz.func64, Tryz.ntmps64
      go_wp2_with (first | (with_reducible refine ros_alloc rfl rfl ?_) | ((with_reducible refine ros_load rfl rfl ?_); apply LoadRow.mk rfl; (focus first | (with_reducible exact P0.out) | (with_reducible exact P2.out) | (with_reducible exact P1.out) | (with_reducible exact P4.out)); (focus (exact ros_info))) | ((with_reducible refine ros_store rfl rfl ?_); apply StoreRow.mk rfl rfl; (focus first | (with_reducible exact Z4.out) | (with_reducible exact Z2.out) | (with_reducible exact Z1.out)); (focus (exact ros_info)); (focus rfl); (focus (exact ros_one _))) | (go_at_call 37; ((with_reducible refine ((cm _).out).mono ?_); rintro e w1 ⟨⟨v, rfl, hv⟩, hb⟩; obtain rfl : v = true := hv.2 HOK.out; have P1 := Lib.hid (P0.out.below hb P0.out.lt); have Z1 := Lib.hid (Z0.out.below hb Z0.out.lt); have K1 := Lib.hid (K0.out.trans (hb.mono K0.out.size)); have k1 := P1.out.cell; have f1 := P1.out.free; clear hb hv)))
      refine bodyPost_ret (v := .tuple #[.agg (Ros.cells r), .int .i64 1]) ?_ ?_ ?_
      · exact results_cell_tmp (p := 4) (q := 5) rfl _ _ _ _ (Ros.cells r) _ rfl (Box.row Z1.out _) Tryz.underlying33 rfl ros_info
      · rfl
      · exact ⟨rfl, Below.setRow' K1.out (by omega) _⟩
    obtain ⟨k, rfl⟩ : ∃ k : Nat, s = k := ⟨s.toNat, by omega⟩
    have hk8 : k < 8 := by omega
    have hk8' : (k : Int) < 8 := by omega
    have q1 := Ros.cells_peer r k hk8
    have hseat := hok.seat k hk8
    by_cases h3 : r.peer k < 0
    · clear hok hno hseat
      obtain ⟨pk, hpk⟩ : ∃ pk, pk = r.peer k := ⟨_, rfl⟩
      rw [← hpk] at q1 h3
      clear hpk
      go_enter Tryz.func64, Tryz.ntmps64
      go_wp2_with (first | (with_reducible refine ros_alloc rfl rfl ?_) | ((with_reducible refine ros_load rfl rfl ?_); apply LoadRow.mk rfl; (focus first | (with_reducible exact P0.out) | (with_reducible exact P2.out) | (with_reducible exact P1.out) | (with_reducible exact P4.out)); (focus (exact ros_info))) | ((with_reducible refine ros_store rfl rfl ?_); apply StoreRow.mk rfl rfl; (focus first | (with_reducible exact Z4.out) | (with_reducible exact Z2.out) | (with_reducible exact Z1.out)); (focus (exact ros_info)); (focus rfl); (focus (exact ros_one _))) | (go_at_call 37; ((with_reducible refine ((cm _).out).mono ?_); rintro e w1 ⟨⟨v, rfl, hv⟩, hb⟩; obtain rfl : v = true := hv.2 HOK.out; have P1 := Lib.hid (P0.out.below hb P0.out.lt); have Z1 := Lib.hid (Z0.out.below hb Z0.out.lt); have K1 := Lib.hid (K0.out.trans (hb.mono K0.out.size)); have k1 := P1.out.cell; have f1 := P1.out.free; clear hb hv)))
      refine bodyPost_ret (v := .tuple #[.agg (Ros.cells r), .int .i64 1]) ?_ ?_ ?_
      · exact results_cell_tmp (p := 4) (q := 5) rfl _ _ _ _ (Ros.cells r) _ rfl (Box.row Z1.out _) Tryz.underlying33 rfl ros_info
      · rfl
      · exact ⟨rfl, Below.setRow' K1.out (by omega) _⟩
    by_cases h4 : 1073741824 ≤ r.version
    · obtain ⟨pk, hpk⟩ : ∃ pk, pk = r.peer k := ⟨_, rfl⟩
      obtain ⟨ve, hve⟩ : ∃ ve, ve = r.version := ⟨_, rfl⟩
      rw [← hpk] at q1 h3
      rw [← hve] at r0 h4
      clear hok hno hseat hpk hve
      go_enter Tryz.func64, Tryz.ntmps64
      go_wp2_with (first | (with_reducible refine ros_alloc rfl rfl ?_) | ((with_reducible refine ros_load rfl rfl ?_); apply LoadRow.mk rfl; (focus first | (with_reducible exact P0.out) | (with_reducible exact P2.out) | (with_reducible exact P1.out) | (with_reducible exact P4.out)); (focus (exact ros_info))) | ((with_reducible refine ros_store rfl rfl ?_); apply StoreRow.mk rfl rfl; (focus first | (with_reducible exact Z4.out) | (with_reducible exact Z2.out) | (with_reducible exact Z1.out)); (focus (exact ros_info)); (focus rfl); (focus (exact ros_one _))) | (go_at_call 37; ((with_reducible refine ((cm _).out).mono ?_); rintro e w1 ⟨⟨v, rfl, hv⟩, hb⟩; obtain rfl : v = true := hv.2 HOK.out; have P1 := Lib.hid (P0.out.below hb P0.out.lt); have Z1 := Lib.hid (Z0.out.below hb Z0.out.lt); have K1 := Lib.hid (K0.out.trans (hb.mono K0.out.size)); have k1 := P1.out.cell; have f1 := P1.out.free; clear hb hv)))
      refine bodyPost_ret (v := .tuple #[.agg (Ros.cells r), .int .i64 1]) ?_ ?_ ?_
      · exact results_cell_tmp (p := 4) (q := 5) rfl _ _ _ _ (Ros.cells r) _ rfl (Box.row Z1.out _) Tryz.underlying33 rfl ros_info
      · rfl
      · exact ⟨rfl, Below.setRow' K1.out (by omega) _⟩
    exact absurd ⟨⟨⟨hok, by omega⟩, by omega, by omega⟩, by show r.peer ((k : Int)).toNat ≠ -1; rw [Int.toNat_natCast]; omega⟩ hno
  · have HOK := Lib.hid hok
    clear hok hno
    go_enter Tryz.func64, Tryz.ntmps64
    go_wp2_with (first | (with_reducible refine ros_alloc rfl rfl ?_) | ((with_reducible refine ros_load rfl rfl ?_); apply LoadRow.mk rfl; (focus first | (with_reducible exact P0.out) | (with_reducible exact P2.out) | (with_reducible exact P1.out) | (with_reducible exact P4.out)); (focus (exact ros_info))) | ((with_reducible refine ros_store rfl rfl ?_); apply StoreRow.mk rfl rfl; (focus first | (with_reducible exact Z4.out) | (with_reducible exact Z2.out) | (with_reducible exact Z1.out)); (focus (exact ros_info)); (focus rfl); (focus (exact ros_one _))) | (go_at_call 37; ((with_reducible refine ((cm _).out).mono ?_); rintro e w1 ⟨⟨v, rfl, hv⟩, hb⟩; obtain rfl : v = false := (by cases v <;> first | rfl | exact absurd (hv.1 rfl) HOK.out); have P1 := Lib.hid (P0.out.below hb P0.out.lt); have Z1 := Lib.hid (Z0.out.below hb Z0.out.lt); have K1 := Lib.hid (K0.out.trans (hb.mono K0.out.size)); have k1 := P1.out.cell; have f1 := P1.out.free; clear hb hv)))
    refine bodyPost_ret (v := .tuple #[.agg (Ros.cells r), .int .i64 1]) ?_ ?_ ?_
    · exact results_cell_tmp (p := 4) (q := 5) rfl _ _ _ _ (Ros.cells r) _ rfl (Box.row Z1.out _) Tryz.underlying33 rfl ros_info
    · rfl
    · exact ⟨rfl, Below.setRow' K1.out (by omega) _⟩

set_option maxRecDepth 100000 in
set_option maxHeartbeats 2000000 in
theorem refgive_yes (r : Ros.R) (k : Nat) (w : World) (hy : Ros.MayGive r k) :
    Calls Tryz.prog 64 #[.agg (Ros.cells r), .int .i64 (k : Int)] w fun e w' => e = .returned (.tuple #[.agg (Ros.cells (Ros.give r k)), .int .i64 0]) ∧ Below w.heap.size w w' := by
  have P0 := Lib.hid ((Box.made w 33 (Ros.cells r)).alloc (.cells (Ros.cells rosZero) 33))
  have Z0 := Lib.hid (Box.made_at (n := w.heap.size + 1) (w.alloc (.cells (Ros.cells r) 33)) 33 (Ros.cells rosZero) (by simp))
  have K0 := Lib.hid (two_below' w (.cells (Ros.cells r) 33) (.cells (Ros.cells rosZero) 33))
  have cm := fun X => Lib.hid (refros_may r X)
  have r0 := Ros.cells_0 r
  obtain ⟨⟨⟨hok, hv⟩, h0, h8⟩, hp⟩ := hy
  have HOK := Lib.hid hok
  have hk8 : k < 8 := by omega
  have hp' : ¬ r.peer k < 0 := by have := hok.seat k hk8; rcases this.2 with h | h; exact absurd h (by simpa using hp); omega
  have h0' : ¬ (k : Int) < 0 := by omega
  have hv' : ¬ 1073741824 ≤ r.version := by omega
  have hwv := IntWalk.i64_in (n := r.version + 1) (by have := hok.1; omega)
  have HK := Lib.hid hk8
  have q1 := Ros.cells_peer r k hk8
  obtain ⟨pk, hpk⟩ : ∃ pk, pk = r.peer k := ⟨_, rfl⟩
  rw [← hpk] at q1 hp'
  clear hok hp hpk hv
  go_enter Tryz.func64, Tryz.ntmps64
  go_upto_region 3 with (first | (with_reducible refine ros_alloc rfl rfl ?_) | ((with_reducible refine ros_load rfl rfl ?_); apply LoadRow.mk rfl; (focus first | (with_reducible exact P0.out) | (with_reducible exact P2.out) | (with_reducible exact P1.out) | (with_reducible exact P4.out)); (focus (exact ros_info))) | (go_at_call 37; ((with_reducible refine ((cm _).out).mono ?_); rintro e w1 ⟨⟨v, rfl, hv⟩, hb⟩; obtain rfl : v = true := hv.2 HOK.out; have P1 := Lib.hid (P0.out.below hb P0.out.lt); have Z1 := Lib.hid (Z0.out.below hb Z0.out.lt); have K1 := Lib.hid (K0.out.trans (hb.mono K0.out.size)); have k1 := P1.out.cell; have f1 := P1.out.free; clear hb hv)))
  have hg : Hid ((⟨r.version, Ros.upd r.peer k (-1), r.gen⟩ : Ros.R) = ⟨r.version, Ros.upd r.peer k (-1), r.gen⟩) := Lib.hid rfl
  have Q2 := P1.out.rosp HK.out (-1)
  have c2 := Q2.cell 0
  have d2 := Q2.free 0
  rw [Ros.cells_0] at c2
  dsimp only at c2
  have P4 := Lib.hid (show Box ((w1.setCell ⟨w.heap.size, 1 + k * 2, none⟩ (.int .i64 (-1))).setCell ⟨w.heap.size, 0, none⟩ (.int .i64 (r.version + 1))) w.heap.size 33 (Ros.cells (Ros.give r k)) from Q2.rosv (r.version + 1))
  have Z4 := Lib.hid ((Z1.out.far (p := ⟨w.heap.size, 1 + k * 2, none⟩) (show w.heap.size + 1 ≠ w.heap.size by omega) (.int .i64 (-1))).far (p := ⟨w.heap.size, 0, none⟩) (show w.heap.size + 1 ≠ w.heap.size by omega) (.int .i64 (r.version + 1)))
  have K4 := Lib.hid ((K1.out.setCell (p := ⟨w.heap.size, 1 + k * 2, none⟩) (Nat.le_refl _) (.int .i64 (-1))).setCell (p := ⟨w.heap.size, 0, none⟩) (Nat.le_refl _) (.int .i64 (r.version + 1)))
  clear Q2 hg
  go_wp2_with (first | ((with_reducible refine ros_load rfl rfl ?_); apply LoadRow.mk rfl; (focus first | (with_reducible exact P0.out) | (with_reducible exact P2.out) | (with_reducible exact P1.out) | (with_reducible exact P4.out)); (focus (exact ros_info))) | ((with_reducible refine ros_store rfl rfl ?_); apply StoreRow.mk rfl rfl; (focus first | (with_reducible exact Z4.out) | (with_reducible exact Z2.out) | (with_reducible exact Z1.out)); (focus (exact ros_info)); (focus rfl); (focus (exact ros_one _))))
  refine bodyPost_ret (v := .tuple #[.agg (Ros.cells (Ros.give r k)), .int .i64 0]) ?_ ?_ ?_
  · exact results_cell_tmp (p := 4) (q := 5) rfl _ _ _ _ (Ros.cells (Ros.give r k)) _ rfl (Box.row Z4.out _) Tryz.underlying33 rfl ros_info
  · rfl
  · exact ⟨rfl, Below.setRow' K4.out (by omega) _⟩
end Go.Proofs.YtiahpncglpfjeaaGreat
namespace Go.Proofs.YtiahpncglpfjeaaGreat
open Go.RowKit Go.Shelf
set_option linter.unusedVariables false
set_option linter.unusedSimpArgs false


set_option maxRecDepth 100000 in
set_option maxHeartbeats 4000000 in
theorem reftake_no (r : Ros.R) (s p : Int) (w : World) (hno : ¬ Ros.MayTake r s p) :
    Calls Tryz.prog 63 #[.agg (Ros.cells r), .int .i64 s, .int .i64 p] w fun e w' => e = .returned (.tuple #[.agg (Ros.cells r), .int .i64 1]) ∧ Below w.heap.size w w' := by
  have P0 := Lib.hid ((Box.made w 33 (Ros.cells r)).alloc (.cells (Ros.cells rosZero) 33))
  have Z0 := Lib.hid (Box.made_at (n := w.heap.size + 1) (w.alloc (.cells (Ros.cells r) 33)) 33 (Ros.cells rosZero) (by simp))
  have K0 := Lib.hid (two_below' w (.cells (Ros.cells r) 33) (.cells (Ros.cells rosZero) 33))
  have cm := fun X => Lib.hid (refros_may r X)
  have r0 := Ros.cells_0 r
  have cl := fun X => Lib.hid (refslot_any r p X)
  by_cases hok : Ros.Ok r
  · have HOK := Lib.hid hok
    by_cases h1 : s < 0
    · clear hok hno
      go_enter Tryz.func63, Tryz.ntmps63
      go_wp2_with (first | (with_reducible refine ros_alloc rfl rfl ?_) | ((with_reducible refine ros_load rfl rfl ?_); apply LoadRow.mk rfl; (focus first | (with_reducible exact P0.out) | (with_reducible exact P2.out) | (with_reducible exact P1.out) | (with_reducible exact P4.out)); (focus (exact ros_info))) | ((with_reducible refine ros_store rfl rfl ?_); apply StoreRow.mk rfl rfl; (focus first | (with_reducible exact Z4.out) | (with_reducible exact Z2.out) | (with_reducible exact Z1.out)); (focus (exact ros_info)); (focus rfl); (focus (exact ros_one _))) | (go_at_call 37; ((with_reducible refine ((cm _).out).mono ?_); rintro e w1 ⟨⟨v, rfl, hv⟩, hb⟩; obtain rfl : v = true := hv.2 HOK.out; have P1 := Lib.hid (P0.out.below hb P0.out.lt); have Z1 := Lib.hid (Z0.out.below hb Z0.out.lt); have K1 := Lib.hid (K0.out.trans (hb.mono K0.out.size)); have k1 := P1.out.cell; have f1 := P1.out.free; clear hb hv)))
      refine bodyPost_ret (v := .tuple #[.agg (Ros.cells r), .int .i64 1]) ?_ ?_ ?_
      · exact results_cell_tmp (p := 6) (q := 7) rfl _ _ _ _ (Ros.cells r) _ rfl (Box.row Z1.out _) Tryz.underlying33 rfl ros_info
      · rfl
      · exact ⟨rfl, Below.setRow' K1.out (by omega) _⟩
    by_cases h2 : 8 ≤ s
    · have h1' : ¬ s < 0 := h1
      clear hok hno
      go_enter Tryz.func63, Tryz.ntmps63
      go_wp2_with (first | (with_reducible refine ros_alloc rfl rfl ?_) | ((with_reducible refine ros_load rfl rfl ?_); apply LoadRow.mk rfl; (focus first | (with_reducible exact P0.out) | (with_reducible exact P2.out) | (with_reducible exact P1.out) | (with_reducible exact P4.out)); (focus (exact ros_info))) | ((with_reducible refine ros_store rfl rfl ?_); apply StoreRow.mk rfl rfl; (focus first | (with_reducible exact Z4.out) | (with_reducible exact Z2.out) | (with_reducible exact Z1.out)); (focus (exact ros_info)); (focus rfl); (focus (exact ros_one _))) | (go_at_call 37; ((with_reducible refine ((cm _).out).mono ?_); rintro e w1 ⟨⟨v, rfl, hv⟩, hb⟩; obtain rfl : v = true := hv.2 HOK.out; have P1 := Lib.hid (P0.out.below hb P0.out.lt); have Z1 := Lib.hid (Z0.out.below hb Z0.out.lt); have K1 := Lib.hid (K0.out.trans (hb.mono K0.out.size)); have k1 := P1.out.cell; have f1 := P1.out.free; clear hb hv)))
      refine bodyPost_ret (v := .tuple #[.agg (Ros.cells r), .int .i64 1]) ?_ ?_ ?_
      · exact results_cell_tmp (p := 6) (q := 7) rfl _ _ _ _ (Ros.cells r) _ rfl (Box.row Z1.out _) Tryz.underlying33 rfl ros_info
      · rfl
      · exact ⟨rfl, Below.setRow' K1.out (by omega) _⟩
    obtain ⟨k, rfl⟩ : ∃ k : Nat, s = k := ⟨s.toNat, by omega⟩
    have hk8 : k < 8 := by omega
    have hk8' : (k : Int) < 8 := by omega
    have q1 := Ros.cells_peer r k hk8
    have q2 := Ros.cells_gen r k hk8
    have hseat := hok.seat k hk8
    have hno' := Lib.hid (show (0 ≤ p ∧ p < 12) → Ros.of r p = -1 → r.peer k = -1 → r.gen k ≠ 60000 → r.version < 1073741824 → False from fun a b c d e => hno ⟨⟨⟨⟨hok, e⟩, by omega, by omega⟩, a, b⟩, by show r.peer ((k : Int)).toNat = -1; rw [Int.toNat_natCast]; exact c, by show r.gen ((k : Int)).toNat ≠ 60000; rw [Int.toNat_natCast]; exact d⟩)
    have hp1 : r.peer k < 0 → r.peer k = -1 := fun h => by rcases hseat.2 with h' | h'; exact h'; omega
    have hg1 : ¬ 60000 ≤ r.gen k → r.gen k ≠ 60000 := fun h => by omega
    clear hno hseat hok
    obtain ⟨pk, hpk⟩ : ∃ pk, pk = r.peer k := ⟨_, rfl⟩
    obtain ⟨gk, hgk⟩ : ∃ gk, gk = r.gen k := ⟨_, rfl⟩
    obtain ⟨ve, hve⟩ : ∃ ve, ve = r.version := ⟨_, rfl⟩
    rw [← hpk] at q1 hp1 hno'
    rw [← hgk] at q2 hg1 hno'
    rw [← hve] at r0 hno'
    clear hpk hgk hve
    have h1' : ¬ (k : Int) < 0 := by omega
    by_cases h3 : 0 ≤ pk
    · clear hno' hp1 hg1
      go_enter Tryz.func63, Tryz.ntmps63
      go_wp2_with (first | (with_reducible refine ros_alloc rfl rfl ?_) | ((with_reducible refine ros_load rfl rfl ?_); apply LoadRow.mk rfl; (focus first | (with_reducible exact P0.out) | (with_reducible exact P2.out) | (with_reducible exact P1.out) | (with_reducible exact P4.out)); (focus (exact ros_info))) | ((with_reducible refine ros_store rfl rfl ?_); apply StoreRow.mk rfl rfl; (focus first | (with_reducible exact Z4.out) | (with_reducible exact Z2.out) | (with_reducible exact Z1.out)); (focus (exact ros_info)); (focus rfl); (focus (exact ros_one _))) | (go_at_call 37; ((with_reducible refine ((cm _).out).mono ?_); rintro e w1 ⟨⟨v, rfl, hv⟩, hb⟩; obtain rfl : v = true := hv.2 HOK.out; have P1 := Lib.hid (P0.out.below hb P0.out.lt); have Z1 := Lib.hid (Z0.out.below hb Z0.out.lt); have K1 := Lib.hid (K0.out.trans (hb.mono K0.out.size)); have k1 := P1.out.cell; have f1 := P1.out.free; clear hb hv)))
      refine bodyPost_ret (v := .tuple #[.agg (Ros.cells r), .int .i64 1]) ?_ ?_ ?_
      · exact results_cell_tmp (p := 6) (q := 7) rfl _ _ _ _ (Ros.cells r) _ rfl (Box.row Z1.out _) Tryz.underlying33 rfl ros_info
      · rfl
      · exact ⟨rfl, Below.setRow' K1.out (by omega) _⟩
    by_cases h4 : p < 0
    · clear hno' hp1 hg1
      go_enter Tryz.func63, Tryz.ntmps63
      go_wp2_with (first | (with_reducible refine ros_alloc rfl rfl ?_) | ((with_reducible refine ros_load rfl rfl ?_); apply LoadRow.mk rfl; (focus first | (with_reducible exact P0.out) | (with_reducible exact P2.out) | (with_reducible exact P1.out) | (with_reducible exact P4.out)); (focus (exact ros_info))) | ((with_reducible refine ros_store rfl rfl ?_); apply StoreRow.mk rfl rfl; (focus first | (with_reducible exact Z4.out) | (with_reducible exact Z2.out) | (with_reducible exact Z1.out)); (focus (exact ros_info)); (focus rfl); (focus (exact ros_one _))) | (go_at_call 37; ((with_reducible refine ((cm _).out).mono ?_); rintro e w1 ⟨⟨v, rfl, hv⟩, hb⟩; obtain rfl : v = true := hv.2 HOK.out; have P1 := Lib.hid (P0.out.below hb P0.out.lt); have Z1 := Lib.hid (Z0.out.below hb Z0.out.lt); have K1 := Lib.hid (K0.out.trans (hb.mono K0.out.size)); have k1 := P1.out.cell; have f1 := P1.out.free; clear hb hv)))
      refine bodyPost_ret (v := .tuple #[.agg (Ros.cells r), .int .i64 1]) ?_ ?_ ?_
      · exact results_cell_tmp (p := 6) (q := 7) rfl _ _ _ _ (Ros.cells r) _ rfl (Box.row Z1.out _) Tryz.underlying33 rfl ros_info
      · rfl
      · exact ⟨rfl, Below.setRow' K1.out (by omega) _⟩
    by_cases h5 : 12 ≤ p
    · clear hno' hp1 hg1
      go_enter Tryz.func63, Tryz.ntmps63
      go_wp2_with (first | (with_reducible refine ros_alloc rfl rfl ?_) | ((with_reducible refine ros_load rfl rfl ?_); apply LoadRow.mk rfl; (focus first | (with_reducible exact P0.out) | (with_reducible exact P2.out) | (with_reducible exact P1.out) | (with_reducible exact P4.out)); (focus (exact ros_info))) | ((with_reducible refine ros_store rfl rfl ?_); apply StoreRow.mk rfl rfl; (focus first | (with_reducible exact Z4.out) | (with_reducible exact Z2.out) | (with_reducible exact Z1.out)); (focus (exact ros_info)); (focus rfl); (focus (exact ros_one _))) | (go_at_call 37; ((with_reducible refine ((cm _).out).mono ?_); rintro e w1 ⟨⟨v, rfl, hv⟩, hb⟩; obtain rfl : v = true := hv.2 HOK.out; have P1 := Lib.hid (P0.out.below hb P0.out.lt); have Z1 := Lib.hid (Z0.out.below hb Z0.out.lt); have K1 := Lib.hid (K0.out.trans (hb.mono K0.out.size)); have k1 := P1.out.cell; have f1 := P1.out.free; clear hb hv)))
      refine bodyPost_ret (v := .tuple #[.agg (Ros.cells r), .int .i64 1]) ?_ ?_ ?_
      · exact results_cell_tmp (p := 6) (q := 7) rfl _ _ _ _ (Ros.cells r) _ rfl (Box.row Z1.out _) Tryz.underlying33 rfl ros_info
      · rfl
      · exact ⟨rfl, Below.setRow' K1.out (by omega) _⟩
    have HPP := Lib.hid (show 0 ≤ p ∧ p < 12 by omega)
    have hp12 : p < 12 := by omega
    by_cases h6 : Ros.of r p = -1
    · have H6 := Lib.hid h6
      have h7c : 60000 ≤ gk ∨ 1073741824 ≤ ve := by
        by_cases a : 60000 ≤ gk
        · exact .inl a
        · by_cases b : 1073741824 ≤ ve
          · exact .inr b
          · exact absurd (hno'.out HPP.out h6 (hp1 (by omega)) (hg1 a) (by omega)) (fun h => h)
      clear hno' hp1 hg1 h6
      by_cases h7 : 60000 ≤ gk
      · clear h7c
        go_enter Tryz.func63, Tryz.ntmps63
        go_wp2_with (first | (with_reducible refine ros_alloc rfl rfl ?_) | ((with_reducible refine ros_load_g ?_ rfl ?_); (focus first | (simp [Region.wanted, yielded, h1', h2, h3, h4, h5]; done) | (simp [Region.wanted, yielded]; done)); apply LoadRow.mk rfl; (focus (with_reducible exact P1.out)); (focus (exact ros_info))) | ((with_reducible refine ros_load rfl rfl ?_); apply LoadRow.mk rfl; (focus first | (with_reducible exact P0.out) | (with_reducible exact P2.out) | (with_reducible exact P1.out) | (with_reducible exact P4.out)); (focus (exact ros_info))) | ((with_reducible refine ros_store rfl rfl ?_); apply StoreRow.mk rfl rfl; (focus first | (with_reducible exact Z4.out) | (with_reducible exact Z2.out) | (with_reducible exact Z1.out)); (focus (exact ros_info)); (focus rfl); (focus (exact ros_one _))) | (go_at_call 37; ((with_reducible refine ((cm _).out).mono ?_); rintro e w1 ⟨⟨v, rfl, hv⟩, hb⟩; obtain rfl : v = true := hv.2 HOK.out; have P1 := Lib.hid (P0.out.below hb P0.out.lt); have Z1 := Lib.hid (Z0.out.below hb Z0.out.lt); have K1 := Lib.hid (K0.out.trans (hb.mono K0.out.size)); have k1 := P1.out.cell; have f1 := P1.out.free; clear hb hv)) | (go_at_call 26; ((with_reducible refine ((cl _).out).mono ?_); rintro e w2 ⟨⟨v, rfl, hv⟩, hb⟩; have hv' := slot_of HOK.out HPP.out.1 HPP.out.2 hv; obtain rfl : v = -1 := hv'.trans H6.out; have P2 := Lib.hid (P1.out.below hb P1.out.lt); have Z2 := Lib.hid (Z1.out.below hb Z1.out.lt); have K2 := Lib.hid (K1.out.trans (hb.mono K1.out.size)); have k2 := P2.out.cell; have f2 := P2.out.free; clear hb hv hv')))
        refine bodyPost_ret (v := .tuple #[.agg (Ros.cells r), .int .i64 1]) ?_ ?_ ?_
        · exact results_cell_tmp (p := 6) (q := 7) rfl _ _ _ _ (Ros.cells r) _ rfl (Box.row Z2.out _) Tryz.underlying33 rfl ros_info
        · rfl
        · exact ⟨rfl, Below.setRow' K2.out (by omega) _⟩
      · have h8 : 1073741824 ≤ ve := h7c.resolve_left h7
        clear h7c
        go_enter Tryz.func63, Tryz.ntmps63
        go_wp2_with (first | (with_reducible refine ros_alloc rfl rfl ?_) | ((with_reducible refine ros_load_g ?_ rfl ?_); (focus first | (simp [Region.wanted, yielded, h1', h2, h3, h4, h5]; done) | (simp [Region.wanted, yielded]; done)); apply LoadRow.mk rfl; (focus (with_reducible exact P1.out)); (focus (exact ros_info))) | ((with_reducible refine ros_load rfl rfl ?_); apply LoadRow.mk rfl; (focus first | (with_reducible exact P0.out) | (with_reducible exact P2.out) | (with_reducible exact P1.out) | (with_reducible exact P4.out)); (focus (exact ros_info))) | ((with_reducible refine ros_store rfl rfl ?_); apply StoreRow.mk rfl rfl; (focus first | (with_reducible exact Z4.out) | (with_reducible exact Z2.out) | (with_reducible exact Z1.out)); (focus (exact ros_info)); (focus rfl); (focus (exact ros_one _))) | (go_at_call 37; ((with_reducible refine ((cm _).out).mono ?_); rintro e w1 ⟨⟨v, rfl, hv⟩, hb⟩; obtain rfl : v = true := hv.2 HOK.out; have P1 := Lib.hid (P0.out.below hb P0.out.lt); have Z1 := Lib.hid (Z0.out.below hb Z0.out.lt); have K1 := Lib.hid (K0.out.trans (hb.mono K0.out.size)); have k1 := P1.out.cell; have f1 := P1.out.free; clear hb hv)) | (go_at_call 26; ((with_reducible refine ((cl _).out).mono ?_); rintro e w2 ⟨⟨v, rfl, hv⟩, hb⟩; have hv' := slot_of HOK.out HPP.out.1 HPP.out.2 hv; obtain rfl : v = -1 := hv'.trans H6.out; have P2 := Lib.hid (P1.out.below hb P1.out.lt); have Z2 := Lib.hid (Z1.out.below hb Z1.out.lt); have K2 := Lib.hid (K1.out.trans (hb.mono K1.out.size)); have k2 := P2.out.cell; have f2 := P2.out.free; clear hb hv hv')))
        refine bodyPost_ret (v := .tuple #[.agg (Ros.cells r), .int .i64 1]) ?_ ?_ ?_
        · exact results_cell_tmp (p := 6) (q := 7) rfl _ _ _ _ (Ros.cells r) _ rfl (Box.row Z2.out _) Tryz.underlying33 rfl ros_info
        · rfl
        · exact ⟨rfl, Below.setRow' K2.out (by omega) _⟩
    · have H6 := Lib.hid h6
      clear hno' hp1 hg1 h6
      go_enter Tryz.func63, Tryz.ntmps63
      go_wp2_with (first | (with_reducible refine ros_alloc rfl rfl ?_) | ((with_reducible refine ros_load_g ?_ rfl ?_); (focus first | (simp [Region.wanted, yielded, h1', h2, h3, h4, h5]; done) | (simp [Region.wanted, yielded]; done)); apply LoadRow.mk rfl; (focus (with_reducible exact P1.out)); (focus (exact ros_info))) | ((with_reducible refine ros_load rfl rfl ?_); apply LoadRow.mk rfl; (focus first | (with_reducible exact P0.out) | (with_reducible exact P2.out) | (with_reducible exact P1.out) | (with_reducible exact P4.out)); (focus (exact ros_info))) | ((with_reducible refine ros_store rfl rfl ?_); apply StoreRow.mk rfl rfl; (focus first | (with_reducible exact Z4.out) | (with_reducible exact Z2.out) | (with_reducible exact Z1.out)); (focus (exact ros_info)); (focus rfl); (focus (exact ros_one _))) | (go_at_call 37; ((with_reducible refine ((cm _).out).mono ?_); rintro e w1 ⟨⟨v, rfl, hv⟩, hb⟩; obtain rfl : v = true := hv.2 HOK.out; have P1 := Lib.hid (P0.out.below hb P0.out.lt); have Z1 := Lib.hid (Z0.out.below hb Z0.out.lt); have K1 := Lib.hid (K0.out.trans (hb.mono K0.out.size)); have k1 := P1.out.cell; have f1 := P1.out.free; clear hb hv)) | (go_at_call 26; ((with_reducible refine ((cl _).out).mono ?_); rintro e w2 ⟨⟨v, rfl, hv⟩, hb⟩; have hv' := slot_of HOK.out HPP.out.1 HPP.out.2 hv; obtain ⟨j, _, rfl, _, _⟩ : ∃ j : Nat, j < 8 ∧ v = j ∧ True ∧ True := (by rcases hv with ⟨e, _⟩ | ⟨j, hj, e, _⟩; exact absurd (hv'.symm.trans e) H6.out; exact ⟨j, hj, e, trivial, trivial⟩); have P2 := Lib.hid (P1.out.below hb P1.out.lt); have Z2 := Lib.hid (Z1.out.below hb Z1.out.lt); have K2 := Lib.hid (K1.out.trans (hb.mono K1.out.size)); have k2 := P2.out.cell; have f2 := P2.out.free; clear hb hv hv')))
      refine bodyPost_ret (v := .tuple #[.agg (Ros.cells r), .int .i64 1]) ?_ ?_ ?_
      · exact results_cell_tmp (p := 6) (q := 7) rfl _ _ _ _ (Ros.cells r) _ rfl (Box.row Z2.out _) Tryz.underlying33 rfl ros_info
      · rfl
      · exact ⟨rfl, Below.setRow' K2.out (by omega) _⟩
  · have HOK := Lib.hid hok
    clear hok hno cl
    go_enter Tryz.func63, Tryz.ntmps63
    go_wp2_with (first | (with_reducible refine ros_alloc rfl rfl ?_) | ((with_reducible refine ros_load rfl rfl ?_); apply LoadRow.mk rfl; (focus first | (with_reducible exact P0.out) | (with_reducible exact P2.out) | (with_reducible exact P1.out) | (with_reducible exact P4.out)); (focus (exact ros_info))) | ((with_reducible refine ros_store rfl rfl ?_); apply StoreRow.mk rfl rfl; (focus first | (with_reducible exact Z4.out) | (with_reducible exact Z2.out) | (with_reducible exact Z1.out)); (focus (exact ros_info)); (focus rfl); (focus (exact ros_one _))) | (go_at_call 37; ((with_reducible refine ((cm _).out).mono ?_); rintro e w1 ⟨⟨v, rfl, hv⟩, hb⟩; obtain rfl : v = false := (by cases v <;> first | rfl | exact absurd (hv.1 rfl) HOK.out); have P1 := Lib.hid (P0.out.below hb P0.out.lt); have Z1 := Lib.hid (Z0.out.below hb Z0.out.lt); have K1 := Lib.hid (K0.out.trans (hb.mono K0.out.size)); have k1 := P1.out.cell; have f1 := P1.out.free; clear hb hv)))
    refine bodyPost_ret (v := .tuple #[.agg (Ros.cells r), .int .i64 1]) ?_ ?_ ?_
    · exact results_cell_tmp (p := 6) (q := 7) rfl _ _ _ _ (Ros.cells r) _ rfl (Box.row Z1.out _) Tryz.underlying33 rfl ros_info
    · rfl
    · exact ⟨rfl, Below.setRow' K1.out (by omega) _⟩

set_option maxRecDepth 100000 in
set_option maxHeartbeats 4000000 in
theorem reftake_yes (r : Ros.R) (k : Nat) (p : Int) (w : World) (hy : Ros.MayTake r k p) :
    Calls Tryz.prog 63 #[.agg (Ros.cells r), .int .i64 (k : Int), .int .i64 p] w fun e w' => e = .returned (.tuple #[.agg (Ros.cells (Ros.take r k p)), .int .i64 0]) ∧ Below w.heap.size w w' := by
  have P0 := Lib.hid ((Box.made w 33 (Ros.cells r)).alloc (.cells (Ros.cells rosZero) 33))
  have Z0 := Lib.hid (Box.made_at (n := w.heap.size + 1) (w.alloc (.cells (Ros.cells r) 33)) 33 (Ros.cells rosZero) (by simp))
  have K0 := Lib.hid (two_below' w (.cells (Ros.cells r) 33) (.cells (Ros.cells rosZero) 33))
  have cm := fun X => Lib.hid (refros_may r X)
  have r0 := Ros.cells_0 r
  have cl := fun X => Lib.hid (refslot_any r p X)
  obtain ⟨⟨⟨⟨hok, hv⟩, h0, h8⟩, hpp, hof⟩, hpk0, hgk0⟩ := hy
  have HOK := Lib.hid hok
  have hk8 : k < 8 := by omega
  have hk8' : (k : Int) < 8 := by omega
  have h1' : ¬ (k : Int) < 0 := by omega
  have hs := hok.seat k hk8
  have hs1 := hs.1
  have h3 : ¬ 0 ≤ r.peer k := by have : r.peer k = -1 := hpk0; omega
  have hg3 : ¬ 60000 ≤ r.gen k := by have : r.gen k ≠ 60000 := hgk0; omega
  have hv3 : ¬ 1073741824 ≤ r.version := by omega
  have h4 : ¬ p < 0 := by omega
  have h5 : ¬ 12 ≤ p := by omega
  have h2 : ¬ 8 ≤ (k : Int) := by omega
  have HPP := Lib.hid hpp
  have H6 := Lib.hid hof
  have hwv := IntWalk.i64_in (n := r.version + 1) (by have := hok.1; omega)
  have hwg := IntWalk.i64_in (n := r.gen k + 1) (by omega)
  have HK := Lib.hid hk8
  have q1 := Ros.cells_peer r k hk8
  have q2 := Ros.cells_gen r k hk8
  have HT := Lib.hid (show Ros.cells ⟨r.version + 1, Ros.upd r.peer k p, Ros.upd r.gen k (r.gen k + 1)⟩ = Ros.cells (Ros.take r k p) from rfl)
  obtain ⟨pk, hpk⟩ : ∃ pk, pk = r.peer k := ⟨_, rfl⟩
  obtain ⟨gk, hgk⟩ : ∃ gk, gk = r.gen k := ⟨_, rfl⟩
  rw [← hpk] at q1 h3
  rw [← hgk] at q2 hg3 hwg HT
  clear hok hpk hgk hv hs hs1 hpk0 hgk0 hof hpp
  go_enter Tryz.func63, Tryz.ntmps63
  go_upto_region 3 with (first | (with_reducible refine ros_alloc rfl rfl ?_) | ((with_reducible refine ros_load_g ?_ rfl ?_); (focus first | (simp [Region.wanted, yielded, h1', h2, h3, h4, h5]; done) | (simp [Region.wanted, yielded]; done)); apply LoadRow.mk rfl; (focus (with_reducible exact P1.out)); (focus (exact ros_info))) | ((with_reducible refine ros_load rfl rfl ?_); apply LoadRow.mk rfl; (focus first | (with_reducible exact P0.out) | (with_reducible exact P2.out) | (with_reducible exact P1.out) | (with_reducible exact P4.out)); (focus (exact ros_info))) | (go_at_call 37; ((with_reducible refine ((cm _).out).mono ?_); rintro e w1 ⟨⟨v, rfl, hv⟩, hb⟩; obtain rfl : v = true := hv.2 HOK.out; have P1 := Lib.hid (P0.out.below hb P0.out.lt); have Z1 := Lib.hid (Z0.out.below hb Z0.out.lt); have K1 := Lib.hid (K0.out.trans (hb.mono K0.out.size)); have k1 := P1.out.cell; have f1 := P1.out.free; clear hb hv)) | (go_at_call 26; ((with_reducible refine ((cl _).out).mono ?_); rintro e w2 ⟨⟨v, rfl, hv⟩, hb⟩; have hv' := slot_of HOK.out HPP.out.1 HPP.out.2 hv; obtain rfl : v = -1 := hv'.trans H6.out; have P2 := Lib.hid (P1.out.below hb P1.out.lt); have Z2 := Lib.hid (Z1.out.below hb Z1.out.lt); have K2 := Lib.hid (K1.out.trans (hb.mono K1.out.size)); have k2 := P2.out.cell; have f2 := P2.out.free; clear hb hv hv')))
  have P3 := Lib.hid (P2.out.row (Ros.cells ⟨r.version, Ros.upd r.peer k p, Ros.upd r.gen k (gk + 1)⟩))
  have Z3 := Lib.hid (Z2.out.row_far (show w.heap.size + 1 ≠ w.heap.size by omega) (Ros.cells ⟨r.version, Ros.upd r.peer k p, Ros.upd r.gen k (gk + 1)⟩))
  have K3 := Lib.hid (Below.setRow' K2.out (Nat.le_refl _) (Ros.cells ⟨r.version, Ros.upd r.peer k p, Ros.upd r.gen k (gk + 1)⟩))
  go_upto_region 4 with ((with_reducible refine ros_store_seat rfl rfl ?_); apply StoreSeat.mk (q := p) (g := gk + 1) rfl rfl HK.out; (focus (with_reducible exact P2.out)); dsimp only)
  generalize hW3 : w2.setRow w.heap.size (Ros.cells ⟨r.version, Ros.upd r.peer k p, Ros.upd r.gen k (gk + 1)⟩) = W3 at P3 Z3 K3 ⊢
  clear hW3 P2 Z2 K2 k2 f2 P1 Z1 K1 k1 f1 P0 Z0 K0
  have c3 := P3.out.cell 0
  have d3 := P3.out.free 0
  rw [Ros.cells_0] at c3
  dsimp only at c3
  have P4 := Lib.hid (show Box (W3.setCell ⟨w.heap.size, 0, none⟩ (.int .i64 (r.version + 1))) w.heap.size 33 (Ros.cells (Ros.take r k p)) from HT.out ▸ P3.out.rosv (r.version + 1))
  have Z4 := Lib.hid (Z3.out.far (p := ⟨w.heap.size, 0, none⟩) (show w.heap.size + 1 ≠ w.heap.size by omega) (.int .i64 (r.version + 1)))
  have K4 := Lib.hid (K3.out.setCell (p := ⟨w.heap.size, 0, none⟩) (Nat.le_refl _) (.int .i64 (r.version + 1)))
  clear P3 Z3 K3
  go_wp2_with (first | ((with_reducible refine ros_load rfl rfl ?_); apply LoadRow.mk rfl; (focus first | (with_reducible exact P0.out) | (with_reducible exact P2.out) | (with_reducible exact P1.out) | (with_reducible exact P4.out)); (focus (exact ros_info))) | ((with_reducible refine ros_store rfl rfl ?_); apply StoreRow.mk rfl rfl; (focus first | (with_reducible exact Z4.out) | (with_reducible exact Z2.out) | (with_reducible exact Z1.out)); (focus (exact ros_info)); (focus rfl); (focus (exact ros_one _))))
  refine bodyPost_ret (v := .tuple #[.agg (Ros.cells (Ros.take r k p)), .int .i64 0]) ?_ ?_ ?_
  · exact results_cell_tmp (p := 6) (q := 7) rfl _ _ _ _ (Ros.cells (Ros.take r k p)) _ rfl (Box.row Z4.out _) Tryz.underlying33 rfl ros_info
  · rfl
  · exact ⟨rfl, Below.setRow' K4.out (by omega) _⟩
end Go.Proofs.YtiahpncglpfjeaaGreat
namespace Go.Proofs.YtiahpncglpfjeaaGreat
open Go.RowKit Go.Shelf
set_option linter.unusedVariables false
set_option linter.unusedSimpArgs false

theorem ships_info' : (Tryz.prog.info? 25).map (·.size) = some 56 := by kernel_rfl
theorem ships_lie' (g : Gm.G) (v : Value) : ∀ j u, (Gm.shipCells g.ship)[j]? = some u → (Gm.cells g v)[2 + j]? = some u := fun j u hu => by
  have hj : j < 56 := by have := (List.getElem?_eq_some_iff.1 hu).1; rwa [Gm.shipCells_len] at this
  rw [Gm.cells_shipj _ _ _ hj]; exact hu

set_option maxRecDepth 100000 in
set_option maxHeartbeats 8000000 in
theorem refsame_any (g h : Gm.G) (A B : Option Addr) (n m c d : Nat) (w : World) (hn : n = g.shots.length) (hm : m = h.shots.length) (hr : Lies w w.heap.size 6 A n (Gm.shotCells g.shots)) (hq : Lies w w.heap.size 6 B m (Gm.shotCells h.shots))
    (n63 : n ≤ maxLen) (m63 : m ≤ maxLen) :
    Calls Tryz.prog 38 #[.agg (Gm.cells g (.slice A n c)), .agg (Gm.cells h (.slice B m d))] w fun e w' => (∃ v, e = .returned (.bool v) ∧ (v = true ↔ Gm.Eq g h)) ∧ Below w.heap.size w w' := by
  have n64 : (n : Int) ≤ 9223372036854775807 := by unfold maxLen at n63; omega
  have m64 : (m : Int) ≤ 9223372036854775807 := by unfold maxLen at m63; omega
  have hN : Hid (n = g.shots.length) := Lib.hid hn
  have hM : Hid (m = h.shots.length) := Lib.hid hm
  have b1 : Box ((w.alloc (.cells (Gm.cells g (.slice A n c)) 28)).alloc (.cells (Gm.cells h (.slice B m d)) 28)) w.heap.size 28 (Gm.cells g (.slice A n c)) := (Box.made _ _ _).alloc _
  have b2 : Box ((w.alloc (.cells (Gm.cells g (.slice A n c)) 28)).alloc (.cells (Gm.cells h (.slice B m d)) 28)) (w.heap.size + 1) 28 (Gm.cells h (.slice B m d)) := Box.made_at _ _ _ (by simp)
  have ne : ∀ W, (binOp .neq 25 (.agg (Gm.shipCells g.ship).toArray) (.agg (Gm.shipCells h.ship).toArray)).run Tryz.prog W = .ok (.bool (!Gm.shipsEq g.ship h.ship)) W := fun W => ships_neq _ _ W
  have g0 := Gm.cells_0 g (.slice A n c)
  have g1 := Gm.cells_1 g (.slice A n c)
  have g58 := Gm.cells_58 g (.slice A n c)
  have h0 := Gm.cells_0 h (.slice B m d)
  have h1 := Gm.cells_1 h (.slice B m d)
  have h58 := Gm.cells_58 h (.slice B m d)
  have hB1 := Lib.hid b1
  have hB2 := Lib.hid b2
  have HE := Lib.hid (show Gm.Eq g h → g.frame = h.frame ∧ g.dice = h.dice ∧ Gm.shipsEq g.ship h.ship = true ∧ g.shots = h.shots from fun e => ⟨e.1, e.2.1, Gm.shipsEq_iff.2 e.2.2.1, e.2.2.2⟩)
  have HI := Lib.hid (show g.frame = h.frame ∧ g.dice = h.dice ∧ Gm.shipsEq g.ship h.ship = true ∧ g.shots = h.shots → Gm.Eq g h from fun e => ⟨e.1, e.2.1, Gm.shipsEq_iff.1 e.2.2.1, e.2.2.2⟩)
  generalize Gm.shipsEq g.ship h.ship = SE at *
  clear b1 b2 hn hm n63 m63
  by_cases e1 : g.frame = h.frame
  rotate_left
  · have x1 : (g.frame != h.frame) = true := by simpa using e1
    have hno := Lib.hid (show ¬ Gm.Eq g h from fun e => e1 (HE.out e).1)
    clear e1 hr hq
    have k1 := hB1.out.cell
    have k2 := hB2.out.cell
    go_enter Tryz.func38, Tryz.ntmps38
    go_wp2_with (first | (refine wpList_load_part_g (by first | rfl | kernel_rfl | simp [Region.wanted, yielded]) (ty := 25) rfl rfl hB1.out _ (ships_lie' _ _) Tryz.underlying25 rfl ships_info' ?_) | (refine wpList_load_part_g (by first | rfl | kernel_rfl | simp [Region.wanted, yielded]) (ty := 25) rfl rfl hB2.out _ (ships_lie' _ _) Tryz.underlying25 rfl ships_info' ?_))
    go_ret
    exact ⟨by first | exact ⟨false, rfl, by simp; exact hno.out⟩ | exact .inl ⟨rfl, hno.out⟩, two_below' _ _ _⟩
  have x1 : (g.frame != h.frame) = false := by simpa using e1
  by_cases e2 : g.dice = h.dice
  rotate_left
  · have x2 : (g.dice != h.dice) = true := by simpa using e2
    have hno := Lib.hid (show ¬ Gm.Eq g h from fun e => e2 (HE.out e).2.1)
    clear e1 e2 hr hq
    have k1 := hB1.out.cell
    have k2 := hB2.out.cell
    go_enter Tryz.func38, Tryz.ntmps38
    go_wp2_with (first | (refine wpList_load_part_g (by first | rfl | kernel_rfl | simp [Region.wanted, yielded]) (ty := 25) rfl rfl hB1.out _ (ships_lie' _ _) Tryz.underlying25 rfl ships_info' ?_) | (refine wpList_load_part_g (by first | rfl | kernel_rfl | simp [Region.wanted, yielded]) (ty := 25) rfl rfl hB2.out _ (ships_lie' _ _) Tryz.underlying25 rfl ships_info' ?_))
    go_ret
    exact ⟨by first | exact ⟨false, rfl, by simp; exact hno.out⟩ | exact .inl ⟨rfl, hno.out⟩, two_below' _ _ _⟩
  have x2 : (g.dice != h.dice) = false := by simpa using e2
  cases SE
  · have hno := Lib.hid (show ¬ Gm.Eq g h from fun e => by have := (HE.out e).2.2.1; cases this)
    clear e1 e2 hr hq
    have k1 := hB1.out.cell
    have k2 := hB2.out.cell
    go_enter Tryz.func38, Tryz.ntmps38
    go_wp2_with (first | (refine wpList_load_part_g (by first | rfl | kernel_rfl | simp [Region.wanted, yielded]) (ty := 25) rfl rfl hB1.out _ (ships_lie' _ _) Tryz.underlying25 rfl ships_info' ?_) | (refine wpList_load_part_g (by first | rfl | kernel_rfl | simp [Region.wanted, yielded]) (ty := 25) rfl rfl hB2.out _ (ships_lie' _ _) Tryz.underlying25 rfl ships_info' ?_))
    go_ret
    exact ⟨by first | exact ⟨false, rfl, by simp; exact hno.out⟩ | exact .inl ⟨rfl, hno.out⟩, two_below' _ _ _⟩
  by_cases e3 : n = m
  rotate_left
  · have x3 : ((n : Int) != (m : Int)) = true := by simp; omega
    have hno := Lib.hid (show ¬ Gm.Eq g h from fun e => by have h4 := (HE.out e).2.2.2; have := hN.out; have := hM.out; rw [h4] at *; omega)
    clear e1 e2 e3 hr hq
    have k1 := hB1.out.cell
    have k2 := hB2.out.cell
    go_enter Tryz.func38, Tryz.ntmps38
    go_wp2_with (first | (refine wpList_load_part_g (by first | rfl | kernel_rfl | simp [Region.wanted, yielded]) (ty := 25) rfl rfl hB1.out _ (ships_lie' _ _) Tryz.underlying25 rfl ships_info' ?_) | (refine wpList_load_part_g (by first | rfl | kernel_rfl | simp [Region.wanted, yielded]) (ty := 25) rfl rfl hB2.out _ (ships_lie' _ _) Tryz.underlying25 rfl ships_info' ?_))
    go_ret
    exact ⟨by first | exact ⟨false, rfl, by simp; exact hno.out⟩ | exact .inl ⟨rfl, hno.out⟩, two_below' _ _ _⟩
  subst e3
  have HF := Lib.hid (And.intro e1 e2)
  clear e1 e2
  have k1 := hB1.out.cell
  have k2 := hB2.out.cell
  go_enter Tryz.func38, Tryz.ntmps38
  go_wp2_with (first | (refine wpList_load_part_g (by first | rfl | kernel_rfl | simp [Region.wanted, yielded]) (ty := 25) rfl rfl hB1.out _ (ships_lie' _ _) Tryz.underlying25 rfl ships_info' ?_) | (refine wpList_load_part_g (by first | rfl | kernel_rfl | simp [Region.wanted, yielded]) (ty := 25) rfl rfl hB2.out _ (ships_lie' _ _) Tryz.underlying25 rfl ships_info' ?_))
  go_loopw [5] (fun i wr => ∃ k : Nat, k ≤ n ∧ i = .int .i64 k ∧ Box wr w.heap.size 28 (Gm.cells g (.slice A n c)) ∧ Box wr (w.heap.size + 1) 28 (Gm.cells h (.slice B n d)) ∧ Below w.heap.size w wr ∧ ∀ j, j < k → g.shots[j]? = h.shots[j]?) (fun i _ => n - (intOf i).toNat)
  case atStart => exact ⟨0, by omega, rfl, hB1.out, hB2.out, two_below' _ _ _, fun j hj => absurd hj (Nat.not_lt_zero j)⟩
  case round =>
    obtain ⟨k, hk, rfl, hB, hC, hb, hall⟩ := hrel
    have HALL := Lib.hid hall
    have hcr := hB.cell
    have hds := hC.cell
    clear hall
    by_cases hlt : k < n
    · have hkg : k < g.shots.length := by have := hN.out; omega
      have hkh : k < h.shots.length := by have := hM.out; omega
      obtain ⟨ad, rfl, hbl, a0, a1, a2, a3, a4, a5⟩ := shots_at (hr.below hb) hN.out k hkg
      obtain ⟨bd, rfl, hbm, c0, c1, c2, c3, c4, c5⟩ := shots_at (hq.below hb) hM.out k hkh
      have HS := Lib.hid (show Gm.Eq g h → g.shots[k]'hkg = h.shots[k]'hkh from fun e => by
        have h4 := (HE.out e).2.2.2
        simp only [h4])
      have HT := Lib.hid (show g.shots[k]'hkg = h.shots[k]'hkh → ∀ j, j < k + 1 → g.shots[j]? = h.shots[j]? from fun e j hj => by
        by_cases ej : j = k
        · subst ej
          rw [List.getElem?_eq_getElem hkg, List.getElem?_eq_getElem hkh, e]
        · exact HALL.out j (by omega))
      have hsn := fun W => shot_neq (g.shots[k]'hkg) (h.shots[k]'hkh) W
      have hiff := @Gm.Shot.eqB_iff (g.shots[k]'hkg) (h.shots[k]'hkh)
      generalize g.shots[k]'hkg = s at a0 a1 a2 a3 a4 a5 HS HT hsn hiff
      generalize h.shots[k]'hkh = t at c0 c1 c2 c3 c4 c5 HS HT hsn hiff
      obtain ⟨owner, x, y, vx, vy, left⟩ := s
      obtain ⟨owner2, p, q, vp, vq, left2⟩ := t
      dsimp only at a0 a1 a2 a3 a4 a5 c0 c1 c2 c3 c4 c5
      simp only [Gm.Shot.cells] at hsn
      have hk8 : (k : Int) < n := by omega
      have HB := Lib.hid hB
      have HC := Lib.hid hC
      have HBB := Lib.hid hb
      clear hr hq ne hB1 hB2 g0 g1 h0 h1 x1 x2 hB hC hb
      cases hse : Gm.Shot.eqB ⟨owner, x, y, vx, vy, left⟩ ⟨owner2, p, q, vp, vq, left2⟩
      · rw [hse] at hsn hiff
        have hno := Lib.hid (show ¬ Gm.Eq g h from fun e => by have := hiff.2 (HS.out e); cases this)
        clear hse hiff
        go_upto_region 6 with fail
        go_quiet (fail)
        go_wp2
        go_ret
        exact ⟨by first | exact ⟨false, rfl, by simp; exact hno.out⟩ | exact .inl ⟨rfl, hno.out⟩, draws_below HBB.out _⟩
      · rw [hse] at hsn hiff
        have hn2 := Lib.hid (HT.out (hiff.1 rfl))
        clear hse hiff
        go_upto_region 6 with fail
        go_quiet (fail)
        go_wp2
        go_roundw
        case rel => exact ⟨k + 1, by omega, by go_num, HB.out.draws _, HC.out.draws _, draws_below HBB.out _, hn2.out⟩
        case measure => simp [intOf]; omega
    · have hk8 : ¬ (k : Int) < n := by omega
      have hyes := Lib.hid (show Gm.Eq g h from HI.out ⟨HF.out.1, HF.out.2, trivial, List.ext_getElem? fun j => by
        by_cases hj : j < n
        · exact HALL.out j (by omega)
        · rw [List.getElem?_eq_none (by have := hN.out; omega), List.getElem?_eq_none (by have := hM.out; omega)]⟩)
      have HBB := Lib.hid hb
      clear hr hq ne hB1 hB2 g0 g1 h0 h1 x1 x2 hB hC hb
      go_wp2
      go_ret
      exact ⟨by first | exact ⟨true, rfl, by simp; exact hyes.out⟩ | exact .inr ⟨rfl, hyes.out⟩, HBB.out⟩

set_option maxRecDepth 100000 in
set_option maxHeartbeats 4000000 in
theorem refsamest_any (g h : Gm.G) (r q : Ros.R) (A B : Option Addr) (n m c d : Nat) (w : World) (hn : n = g.shots.length) (hm : m = h.shots.length) (hr : Lies w w.heap.size 6 A n (Gm.shotCells g.shots)) (hq : Lies w w.heap.size 6 B m (Gm.shotCells h.shots))
    (n63 : n ≤ maxLen) (m63 : m ≤ maxLen) :
    Calls Tryz.prog 16 #[.agg (Im.cells g (.slice A n c) r), .agg (Im.cells h (.slice B m d) q)] w fun e w' => (∃ v, e = .returned (.bool v) ∧ (v = true ↔ (Gm.Eq g h ∧ r.version = q.version ∧ ∀ k, k < 8 → r.peer k = q.peer k ∧ r.gen k = q.gen k))) ∧ Below w.heap.size w w' := by
  have P0 := Lib.hid ((Box.made w 35 (Im.cells g (.slice A n c) r)).alloc (.cells (Im.cells h (.slice B m d) q) 35))
  have Q0 := Lib.hid (Box.made_at (n := w.heap.size + 1) (w.alloc (.cells (Im.cells g (.slice A n c) r) 35)) 35 (Im.cells h (.slice B m d) q) (by simp))
  have K0 := Lib.hid (two_below' w (.cells (Im.cells g (.slice A n c) r) 35) (.cells (Im.cells h (.slice B m d) q) 35))
  have cg := Lib.hid (refsame_any g h A B n m c d _ hn hm ((hr.below K0.out).wider K0.out.size) ((hq.below K0.out).wider K0.out.size) n63 m63)
  have he := fun W => ros_eql r q W
  have HI := Lib.hid (show (r.version == q.version && Ros.seatsEq r q) = true ↔ (r.version = q.version ∧ ∀ k, k < 8 → r.peer k = q.peer k ∧ r.gen k = q.gen k) by rw [Bool.and_eq_true, Ros.seatsEq_iff]; simp)
  generalize (r.version == q.version && Ros.seatsEq r q) = E at he HI
  clear hr hq hn hm
  go_enter Tryz.func16, Tryz.ntmps16
  go_wp2_with (first | ((with_reducible refine im_load_game rfl rfl ?_); apply LoadIm.mk rfl; (focus first | (with_reducible exact P0.out) | (with_reducible exact Q0.out)); dsimp only) | ((with_reducible refine im_load_ros_g ?_ rfl ?_); (focus first | rfl | kernel_rfl | simp [Region.wanted, yielded]); apply LoadIm.mk rfl; (focus first | (with_reducible exact P1.out) | (with_reducible exact Q1.out)); dsimp only) | (go_at_call 38; ((with_reducible refine (cg.out).mono ?_); rintro e w1 ⟨⟨v, rfl, hv⟩, hb⟩; have P1 := Lib.hid (P0.out.below hb P0.out.lt); have Q1 := Lib.hid (Q0.out.below hb Q0.out.lt); have K1 := Lib.hid (K0.out.trans (hb.mono K0.out.size)); have HV := Lib.hid hv; clear hb hv; cases v)))
  all_goals
    go_ret
    first
      | exact ⟨⟨false, rfl, by simp only [Bool.false_eq_true, false_iff]; exact fun x => by have := HV.out.2 x.1; simp at this⟩, K1.out⟩
      | exact ⟨⟨E, rfl, HI.out.trans ⟨fun x => ⟨HV.out.1 (by first | trivial | rfl), x⟩, fun x => x.2⟩⟩, K1.out⟩
      | exact ⟨by simp; exact fun x => absurd (HV.out.2 x) (by simp), K1.out⟩
      | exact ⟨by simp; exact HI.out.trans ⟨fun x => ⟨HV.out.1 (by first | trivial | rfl), x⟩, fun x => x.2⟩, K1.out⟩
      | trace_state
end Go.Proofs.YtiahpncglpfjeaaGreat
