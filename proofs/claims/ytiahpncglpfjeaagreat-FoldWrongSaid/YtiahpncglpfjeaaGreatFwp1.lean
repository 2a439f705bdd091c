/-
Several texts in one: Fd Sh Ap Ry Fw Fwl.
-/
import Derived.Test.YtiahpncglpfjeaaGreatFq15
import Derived.Laws.FloatArith
import Derived.Test.YtiahpncglpfjeaaGreatRows
import Derived.WalkKit
import Derived.WalkSpells
import Derived.WalkLawsBesides
import Derived.Laws.Externs
import Derived.Laws.BitsAllLaws
import Derived.Lib.Hide
import Derived.LoopTactic
import Derived.Deep.QuietTactic
import Derived.BigQuiet
import Derived.Outline
import Derived.Laws.OwnMore
import Derived.Deep.Draws
import Derived.Laws.Rows
import Derived.Deep.MidRow
import Derived.Maps.AppendAt
import Derived.RowKit
import Derived.Laws.StructEq
import Derived.Deep.WholeRow
import Derived.Orders
import Derived.Tactics
import Derived.Tactics2
import Derived.KernelRfl
import Derived.StillTail
import Derived.Below
import Derived.RangeFuncNested
import Derived.RangeFuncBound
import Derived.RangeFuncCalls
import Derived.RangeFuncLeaves
import Derived.Shelf.Abstract
import Derived.Shelf.RegionOpen
import Derived.ChangeKeysEq
import Derived.Deep.CutRange
import Derived.Deep.CutBlock
import Derived.Deep.DeepCutAuto
import Derived.Deep.LoopGhost
import Derived.OwnWalkIn
import Derived.TacticsInMore
import Derived.LoopNIn
import Derived.LoopIn
import Derived.Laws.CopyOwn
import Derived.Laws.MakeOwn
import Derived.Laws.EntriesVeiled
import Derived.Laws.IdiomStrings
import Derived.OneCell
import Derived.Deep.RegionWith
import Derived.Deep.DrawnRows
import Derived.BigRegion
import Derived.OrdersIn
import Derived.Defers
import Derived.Recover
import GoSem.Claim
import Derived.ChangeShapes
import Derived.ProofKit
import Derived.OpenShut
import Derived.Carry
import Derived.Lib.SmallJoins
import Derived.ChangeOld
import Derived.ChangeArms
import Derived.Laws.BytesArg
import Derived.Great.BuildSlice
import Derived.Lib.Bytes
namespace Go.Proofs.YtiahpncglpfjeaaGreat
open Go.RowKit Go.Shelf
set_option linter.unusedVariables false
set_option linter.unusedSimpArgs false

namespace Fd
/-- An entry of another frame makes nothing. -/
theorem run_other {s : S} {e : En.E} {l : List En.E} (h : e.frame ≠ s.g.frame) : Fd.run s (e :: l) = none := by
  rw [run_cons, apply_no (fun k => h k.2.2)]; rfl
theorem run_skip {s t : S} {a b : List En.E} {e u : En.E} (hs : Fine s) (h : Fd.run s (a ++ e :: u :: b) = some t) : Fd.run s (a ++ u :: b) = none := by
  rw [run_append] at h ⊢
  cases ha : Fd.run s a with
  | none => rfl
  | some x =>
    rw [ha] at h
    obtain ⟨hx, _⟩ := hs.run ha
    rw [Option.bind_some, run_cons] at h
    cases he : Fd.apply x e with
    | none => rw [he] at h; cases h
    | some y =>
      rw [he, Option.bind_some, run_cons] at h
      obtain ⟨hy, hf, _⟩ := hx.apply he
      cases hu : Fd.apply y u with
      | none => rw [hu] at h; cases h
      | some z =>
        have := (hy.apply hu).2.2
        exact run_other (by omega)
theorem run_twice {s t : S} {a b : List En.E} {e : En.E} (hs : Fine s) (h : Fd.run s (a ++ e :: b) = some t) : Fd.run s (a ++ e :: e :: b) = none := by
  rw [run_append] at h ⊢
  cases ha : Fd.run s a with
  | none => rfl
  | some x =>
    rw [ha] at h
    obtain ⟨hx, _⟩ := hs.run ha
    rw [Option.bind_some, run_cons] at h ⊢
    cases he : Fd.apply x e with
    | none => rfl
    | some y =>
      obtain ⟨hy, hf, hf'⟩ := hx.apply he
      exact run_other (by omega)
end Fd
end Go.Proofs.YtiahpncglpfjeaaGreat
namespace Go.Proofs.YtiahpncglpfjeaaGreat
open Go.RowKit Go.Shelf
set_option linter.unusedVariables false
set_option linter.unusedSimpArgs false


namespace Fd
end Fd
section
variable {w W W' : World} {Bn : Nat} {g : Gm.G} {s : Value} {r : Ros.R}
end
theorem logged_not {s : Fd.S} {l : List En.S} {w w' : World} {r : Ending} (h : Fd.run s (Fd.es l) = none) (hB : Logged s l w r w') : Thrown 1 w r w' := by
  unfold Logged at hB
  rw [h] at hB
  rcases hB with ⟨v, hv, h2⟩ | ⟨_, h2⟩
  · cases hv
  · exact h2

set_option maxRecDepth 100000 in
set_option maxHeartbeats 1000000 in
theorem attempt_run_none (g : Gm.G) (r : Ros.R) (A : Option Addr) (n c Bs Be : Nat) (w : World) (hn60 : n ≤ 60) (hn : n = g.shots.length) (hr : Lies w w.heap.size 6 A n (Gm.shotCells g.shots)) (hcall : ∀ W, Below w.heap.size w W → Calls Tryz.prog 41 #[.pointer (some ⟨Bs, 0, none⟩), .pointer (some ⟨Be, 0, none⟩)] W (Thrown 1 W)) :
    Calls Tryz.prog 27 #[.agg (Im.cells g (.slice A n c) r), .func (.func 41) #[] #[.pointer (some ⟨Bs, 0, none⟩), .pointer (some ⟨Be, 0, none⟩)]] w (SOut g r 1 w) := by
  have hmf : ∀ (fn : Fn) (first cap : Array Value) (w : World), (Instr.makeFunc fn first cap).run Tryz.prog w = .ok (.func fn first cap) w := fun _ _ _ _ => rfl
  have S1 := Lib.hid (((Box.made w 35 (Im.cells g (.slice A n c) r)).alloc (.cells Im.zero 35)).alloc (.cells #[.int .i64 0] 3))
  have N1 := Lib.hid ((Box.made_at (n := w.heap.size + 1) (w.alloc (.cells (Im.cells g (.slice A n c) r) 35)) 35 Im.zero (by simp)).alloc (.cells #[.int .i64 0] 3))
  have C1 := Lib.hid (Box.made_at (n := w.heap.size + 1 + 1) ((w.alloc (.cells (Im.cells g (.slice A n c) r) 35)).alloc (.cells Im.zero 35)) 3 #[.int .i64 0] (by simp))
  have K1 := Lib.hid ((two_below' w (.cells (Im.cells g (.slice A n c) r) 35) (.cells Im.zero 35)).alloc (by simp <;> omega) (.cells #[.int .i64 0] 3))
  have cl := Lib.hid (hcall _ K1.out)
  have HR := Lib.hid ((hr.below K1.out).wider K1.out.size)
  have HN := Lib.hid hn
  clear hcall hr hn
  go_enter_defers Tryz.func27, Tryz.ntmps27
  go_wp2_with (first | (with_reducible refine alloc_state rfl rfl ?_) | (go_at_call 41; ((with_reducible refine ((cl).out).mono ?_); rintro x w2 ⟨rfl, hb⟩; have S2 := Lib.hid (S1.out.below hb S1.out.lt); have N2 := Lib.hid (N1.out.below hb N1.out.lt); have C2 := Lib.hid (C1.out.below hb C1.out.lt); have K2 := Lib.hid (K1.out.trans (hb.mono K1.out.size)); have L2 := Lib.hid (HR.out.call hb); clear hb)))
  refine leaves_cons (f := 56) (args := #[.pointer (some ⟨w.heap.size, 0, none⟩), .pointer (some ⟨w.heap.size + 1, 0, none⟩), .pointer (some ⟨w.heap.size + 1 + 1, 0, none⟩)]) (by simp) (by simp [go_sem]) ?_
  refine (catch_fault g r A n c w.heap.size (w.heap.size + 1) (w.heap.size + 1 + 1) 1 0 [] w2 Im.zero Im.zero_size hn60 HN.out L2.out S2.out N2.out C2.out).mono ?_
  rintro e u' w'' ⟨rfl, rfl, A1, c1, w3, rfl, hL, hb⟩
  have hn := HN.out
  subst hn
  have N3 := N2.out.below hb N2.out.lt
  have C3 := (C2.out.below hb C2.out.lt).row_far (show w.heap.size + 1 + 1 ≠ w.heap.size + 1 by omega) (Im.cells g (.slice A1 g.shots.length c1) r)
  have ne : w.heap.size + 1 ≠ w.heap.size + 1 + 1 := by omega
  have N4 := (N3.row (Im.cells g (.slice A1 g.shots.length c1) r)).far (p := ⟨w.heap.size + 1 + 1, 0, none⟩) ne (.int .i64 1)
  have C4 := C3.put 0 (.int .i64 1)
  have K3 := K2.out.trans (hb.mono K2.out.size)
  have K4 := (Below.setRow' (g := w.heap.size + 1) K3 (Nat.le_succ _) (Im.cells g (.slice A1 g.shots.length c1) r)).setCell (p := ⟨w.heap.size + 1 + 1, 0, none⟩) (by show w.heap.size ≤ w.heap.size + 1 + 1; omega) (.int .i64 1)
  have L4 := (hL.zero_row rfl N3 (Im.cells g (.slice A1 g.shots.length c1) r)).int_cell rfl C3 (.int .i64 1)
  have hr := fun (tmps : Array Value) h1 h2 => results_cells2 (fn := Tryz.f27) (p := 4) (q := 5) rfl tmps _ (w.heap.size + 1) (w.heap.size + 1 + 1) 35 (Im.cells g (.slice A1 g.shots.length c1) r) _ 1 h1 h2 N4 (by simpa using C4) Tryz.underlying35 rfl (by rw [Im.cells_size]; exact state_info)
  show Leaves Tryz.prog _ _ _ [] .returning _
  exact ⟨_, hr _ rfl rfl, A1, c1, rfl, L4, K4⟩

set_option maxHeartbeats 1000000 in
theorem foldrun_none (s : Fd.S) (l : List En.S) (A AL : Option Addr) (n c m cl : Nat) (w : World) (hs : Fd.Fine s) (hn : n = s.g.shots.length) (hr : Lies w w.heap.size 6 A n (Gm.shotCells s.g.shots)) (hm63 : m ≤ maxLen) (hl : LiesS w w.heap.size AL m l) (hin : ∀ q ∈ l, ∀ i, i < 8 → Gm.tyIn (q.e.inp i)) (h : Fd.run s (Fd.es l) = none) :
    Calls Tryz.prog 19 #[.agg (Im.cells s.g (.slice A n c) s.r), .slice AL m cl] w (SOut s.g s.r 1 w) := by
  have hmf : ∀ (fn : Fn) (first cap : Array Value) (w : World), (Instr.makeFunc fn first cap).run Tryz.prog w = .ok (.func fn first cap) w := fun _ _ _ _ => rfl
  have S1 := Lib.hid (((Box.made w 35 (Im.cells s.g (.slice A n c) s.r)).alloc (.cells #[.slice AL m cl] 52)).alloc (.cells Im.zero 35))
  have E1 := Lib.hid ((Box.made_at (n := w.heap.size + 1) (w.alloc (.cells (Im.cells s.g (.slice A n c) s.r) 35)) 52 #[.slice AL m cl] (by simp)).alloc (.cells Im.zero 35))
  have N1 := Lib.hid (Box.made_at (n := w.heap.size + 1 + 1) ((w.alloc (.cells (Im.cells s.g (.slice A n c) s.r) 35)).alloc (.cells #[.slice AL m cl] 52)) 35 Im.zero (by simp))
  have K1 := Lib.hid ((two_below' w (.cells (Im.cells s.g (.slice A n c) s.r) 35) (.cells #[.slice AL m cl] 52)).alloc (by simp <;> omega) (.cells Im.zero 35))
  have L1 := Lib.hid ((hr.below K1.out).wider K1.out.size)
  have LL := Lib.hid ((hl.below K1.out).wider K1.out.size)
  have ca := Lib.hid (attempt_run_none s.g s.r A n c w.heap.size (w.heap.size + 1) _ (by rw [hn]; exact hs.few) hn L1.out (fun W hW => (run1_any s l A AL n c m cl w.heap.size (w.heap.size + 1) W hs hn ((L1.out.below hW).wider hW.size) hm63 ((LL.out.below hW).wider hW.size) hin (S1.out.below hW S1.out.lt) (E1.out.below hW E1.out.lt)).mono fun r w' hB => logged_not h hB))
  clear hs hr hl hn hm63 hin h
  go_enter Tryz.func19, Tryz.ntmps19
  go_wp2_with (first | (with_reducible refine alloc_state rfl rfl ?_) | ((with_reducible refine im_load_state rfl rfl ?_); apply LoadIm.mk rfl; (focus (with_reducible exact S1.out)); dsimp only) | (go_at_call 27; ((with_reducible refine ((ca).out).mono ?_); rintro x w2 ⟨A1, c1, rfl, hL, hb⟩; have N2 := Lib.hid (N1.out.below hb N1.out.lt); have K2 := Lib.hid (K1.out.trans (hb.mono K1.out.size)); have L2 := Lib.hid hL; clear hb hL)) | ((with_reducible refine im_store_state rfl rfl ?_); apply StoreS.mk rfl rfl; (focus (with_reducible exact N2.out)); (focus (exact Im.zero_size)); (focus rfl)))
  refine bodyPost_ret (v := .tuple #[.agg (Im.cells s.g (.slice A1 s.g.shots.length c1) s.r), .int .i64 1]) ?_ ?_ ?_
  · exact results_cell_tmp (p := 4) (q := 5) rfl _ _ _ _ (Im.cells s.g (.slice A1 s.g.shots.length c1) s.r) _ rfl (Box.row N2.out _) Tryz.underlying35 rfl (by rw [Im.cells_size]; exact state_info)
  · rfl
  · exact ⟨A1, c1, rfl, L2.out.zero_row rfl N2.out _, Below.setRow' K2.out (by omega) _⟩
end Go.Proofs.YtiahpncglpfjeaaGreat
namespace Go.Proofs.YtiahpncglpfjeaaGreat
open Go Go.RowKit Go.Shelf
set_option linter.unusedVariables false
set_option linter.unusedSimpArgs false

theorem append_row {P : Program} (w : World) {t ty e : TypeId} {i : TypeInfo} {z : Value} {size bytes : Nat} (ht : P.underlying t = some (.slice e)) (hi : P.info? e = some i) (hz : i.zero = some z) (hs : i.size = size) (hby : i.bytes = bytes) (hzs : z.cells.size = size) (hsz : 0 < size)
    {base n : Nat} {v : Value} {xs : List Value} (ho : w.ownsRow base e size v n xs) {A : Option Addr} {m c : Nat} {news : List Value} (hl : Lies w w.heap.size size A m news) (h1 : ∀ u ∈ news, u.oneCell' = true) (h63 : n + m ≤ maxLen) (hb : (n + m) * bytes ≤ 140737488355328) (hbase : base ≤ w.heap.size) :
    ∃ A' c' w', (Builtin.append_ #[t, t] ty #[v, .slice A m c]).run P w = .ok (.slice A' (n + m) c') w' ∧ w'.ownsRow base e size (.slice A' (n + m) c') (n + m) (xs ++ news) ∧ w.grownBy w' v.ownBlock := by
  have hrun : ∃ v' w', (Builtin.append_ #[t, t] ty #[v, .slice A m c]).run P w = .ok v' w' ∧ w'.ownsRow base e size v' (n + m) (xs ++ news) ∧ w.grownBy w' v.ownBlock := by
    cases A with
    | none =>
      have hm : m = 0 := by
        by_cases hm : m = 0
        · exact hm
        · obtain ⟨ad, he, _⟩ := hl.start hm
          cases he
      subst hm
      have hn : news = [] := List.eq_nil_of_length_eq_zero (by simpa using hl.len)
      subst hn
      exact ⟨_, w, append_nothing w ht hi ho c, by simpa using ho, World.grownBy.refl w _⟩
    | some ad =>
      have hcells : ∀ j u, news[j]? = some u → w.cell? (ad.add j) = some u := fun j u hu => by
        by_cases hm : m = 0
        · subst hm
          have hn : news = [] := List.eq_nil_of_length_eq_zero (by simpa using hl.len)
          subst hn
          simp at hu
        · exact hl.cell ad rfl hm j u hu
      obtain ⟨v', w', hr, h2, h3, _, _⟩ := run_append_own_at (P := P) w base t ty e i z size bytes ht hi hz hs hby hzs hsz v n xs ho ad m c news hl.len hcells h1 h63 hb hbase
      exact ⟨v', w', hr, h2, h3⟩
  obtain ⟨v', w', hr, h2, h3⟩ := hrun
  obtain ⟨A', c', rfl⟩ := owned_slice h2
  exact ⟨A', c', w', hr, h2, h3⟩
theorem en_empty (w : World) : (w.alloc (.cells #[] 42)).ownsRow w.heap.size 42 26 (.slice (some ⟨w.heap.size, 0, none⟩) 0 0) 0 [] := by
  have := World.ownsRow_lit (base := w.heap.size) (e := 42) (size := 26) w #[] 0 (Nat.le_refl _) (by unfold maxLen; omega) rfl
  simpa using this
theorem own_grown {w w0 w' : World} {base n size : Nat} {e : TypeId} {v : Value} {xs : List Value} (k : Below base w0 w) (ho : w.ownsRow base e size v n xs) (hg : w.grownBy w' v.ownBlock) (hb : base = w0.heap.size) : Below base w0 w' := by
  refine k.grown hg (by rw [hb]; exact k.size) fun j hj => ?_
  obtain ⟨_, ⟨e, _⟩ | ⟨g, cap, cur, e, hbg, _⟩⟩ := ho
  · rw [e] at hj; cases hj
  · rw [e] at hj
    injection hj with hj
    have : g = j := hj
    omega
theorem en_joined (w : World) {A1 A2 : Option Addr} {n1 c1 n2 c2 : Nat} {l1 l2 : List En.S} (h1 : LiesS w w.heap.size A1 n1 l1) (h2 : LiesS w w.heap.size A2 n2 l2) (hn : n1 + n2 ≤ 200) (ty1 ty2 : TypeId) :
    ∃ A3 c3 w3 A4 c4 w4, (Builtin.append_ #[52, 52] ty1 #[.slice (some ⟨w.heap.size, 0, none⟩) 0 0, .slice A1 n1 c1]).run Tryz.prog (w.alloc (.cells #[] 42)) = .ok (.slice A3 n1 c3) w3 ∧
      (Builtin.append_ #[52, 52] ty2 #[.slice A3 n1 c3, .slice A2 n2 c2]).run Tryz.prog w3 = .ok (.slice A4 (n1 + n2) c4) w4 ∧
      LiesS w4 w4.heap.size A4 (n1 + n2) (l1 ++ l2) ∧ Below w.heap.size w w4 := by
  obtain ⟨i, hi, hz, hs, hby⟩ := en_parts
  have hk := one_below w (.cells #[] 42)
  obtain ⟨X, hX⟩ : ∃ X, X = w.alloc (.cells #[] 42) := ⟨_, rfl⟩
  have ho := en_empty w
  rw [← hX] at hk ho ⊢
  obtain ⟨A3, c3, w3, r3, o3, g3⟩ := append_row (P := Tryz.prog) X (ty := ty1) Tryz.underlying52 hi hz hs hby rfl (by decide) ho (c := c1) ((h1.row.below hk).wider hk.size) (En.sCells_one l1) (by unfold maxLen; omega) (by omega) hk.size
  rw [Nat.zero_add, List.nil_append] at o3
  rw [Nat.zero_add] at r3
  have k3 := own_grown hk ho g3 rfl
  obtain ⟨A4, c4, w4, r4, o4, g4⟩ := append_row (P := Tryz.prog) w3 (ty := ty2) Tryz.underlying52 hi hz hs hby rfl (by decide) o3 (c := c2) ((h2.row.below k3).wider k3.size) (En.sCells_one l2) (by unfold maxLen; omega) (by omega) k3.size
  have k4 := own_grown k3 o3 g4 rfl
  refine ⟨A3, c3, w3, A4, c4, w4, r3, r4, ⟨?_, fun q hq => ?_, fun q hq => ?_⟩, k4⟩
  · have := Lies.owned o4
    rw [← show En.sCells (l1 ++ l2) = En.sCells l1 ++ En.sCells l2 from by unfold En.sCells; rw [List.flatMap_append]] at this
    exact this
  · rcases List.mem_append.1 hq with hq | hq
    · exact ((h1.each q hq).below k4).wider k4.size
    · exact ((h2.each q hq).below k4).wider k4.size
  · rcases List.mem_append.1 hq with hq | hq
    · exact h1.few q hq
    · exact h2.few q hq
end Go.Proofs.YtiahpncglpfjeaaGreat
namespace Ry
open Go

def isHard (o : Oper) : Bool := match o.op with | .store .. => true | _ => false
def isMake (o : Oper) : Bool := match o.op with | .buildSlice .. | .alloc .. => true | .call c => (match c.callee with | .builtin .append | .value _ => true | _ => false) | _ => false
def isStore (o : Oper) : Bool := isHard o || isMake o
/-- The world is looked at, and left as it is. -/
def isLook (o : Oper) : Bool := match o.op with | .load .. | .nilCheck .. => true | _ => false
/-- Nothing of the world is asked. -/
def isFree (o : Oper) : Bool := match o.op with | .fieldAddr .. | .indexAddr .. | .move .. | .assign .. | .pick .. | .extract .. | .binOp .. | .unOp .. | .build .. | .convert .. | .slice .. => true | _ => false

theorem store_free {o : Oper} (h : isStore o = true) : isFree o = false := by
  unfold isStore isHard isMake at h
  unfold isFree
  generalize o.op = x at h ⊢
  cases x <;> first | rfl | (exact absurd h (by decide)) | (simp at h)
theorem store_look {o : Oper} (h : isStore o = true) : isLook o = false := by
  unfold isStore isHard isMake at h
  unfold isLook
  generalize o.op = x at h ⊢
  cases x <;> first | rfl | (exact absurd h (by decide)) | (simp at h)

/-- What an operation leaves: the value v, a world of C. -/
def Gives (P : Program) (o : Oper) (a : Act) (w : World) (v : Value) (C : World → Prop) : Prop :=
  match (execOp a.eval o).run P w with
  | .ok (.value u) w1 => u = v ∧ C w1
  | .ok .skip w1 => undef = v ∧ C w1
  | .ok (.enter f args) w1 => Calls P f args w1 fun e w2 => e = .returned v ∧ C w2
  | _ => False

theorem Gives.wp {P : Program} {o : Oper} {a : Act} {w : World} {v : Value} {C : World → Prop} {K : Act → World → Prop} {Q : Exit → Act → World → Prop} (h : Gives P o a w v C) (hK : ∀ w', C w' → K (a.put o.dst v) w') : o.wp P a w K Q := by
  unfold Gives at h
  unfold Oper.wp
  generalize (execOp a.eval o).run P w = r at *
  cases r with
  | ok n w1 =>
    cases n <;> simp only [Oper.upon] at h ⊢
    case value u => obtain ⟨rfl, h⟩ := h; exact hK _ h
    case skip => obtain ⟨rfl, h⟩ := h; exact hK _ h
    case enter f args =>
      exact h.mono fun e w2 ⟨he, hw⟩ => by subst he; exact hK _ hw
  | halt x w1 => cases h
theorem Gives.congr {P : Program} {o : Oper} {a a' : Act} {w : World} {v : Value} {C : World → Prop} (h : Gives P o a w v C) (he : execOp a'.eval o = execOp a.eval o) : Gives P o a' w v C := by
  unfold Gives at *; rw [he]; exact h

/-- The walk in the order of the text: C is what is known of the world, D what is known of it till the next store, E what is known all the time; n is how many have been; the looks of st ask E alone. -/
def wpLex (P : Program) (st : List Nat) (E : World → Prop) (Q : Act → (World → Prop) → Prop) : List Oper → Nat → Act → (World → Prop) → (World → Prop) → Prop
  | [], _, a, C, _ => Q a C
  | o :: rest, n, a, C, D =>
    if isStore o then ∃ v C' D', (∀ w, C w → Gives P o a w v C') ∧ (isHard o = false → D' = D) ∧ (∀ w, C' w → D' w ∧ E w) ∧ wpLex P st E Q rest (n + 1) (a.put o.dst v) C' D'
    else if isFree o then ∃ v, (∀ w, Gives P o a w v (fun w' => w' = w)) ∧ wpLex P st E Q rest (n + 1) (a.put o.dst v) C D
    else if isLook o then ∃ v, (∀ w, (if st.contains n then E w else D w) → Gives P o a w v (fun w' => w' = w)) ∧ wpLex P st E Q rest (n + 1) (a.put o.dst v) C D
    else ∃ v, (∀ w, C w → Gives P o a w v C) ∧ wpLex P st E Q rest (n + 1) (a.put o.dst v) C D

/-- A run in the order of the text, written out. -/
structure Run (P : Program) (st : Nat → Bool) (E : World → Prop) (l : List Oper) (A : Nat → Act) (C D : Nat → World → Prop) (v : Nat → Value) : Prop where
  act : ∀ i o, l[i]? = some o → A (i + 1) = (A i).put o.dst (v i)
  store : ∀ i o, l[i]? = some o → isStore o = true → ∀ w, C i w → Gives P o (A i) w (v i) (C (i + 1))
  free : ∀ i o, l[i]? = some o → isStore o = false → isFree o = true → C (i + 1) = C i ∧ ∀ w, Gives P o (A i) w (v i) (fun w' => w' = w)
  look : ∀ i o, l[i]? = some o → isStore o = false → isFree o = false → isLook o = true → C (i + 1) = C i ∧ ∀ w, (if st i then E w else D i w) → Gives P o (A i) w (v i) (fun w' => w' = w)
  read : ∀ i o, l[i]? = some o → isStore o = false → isFree o = false → isLook o = false → C (i + 1) = C i ∧ ∀ w, C i w → Gives P o (A i) w (v i) (C i)
  soft : ∀ i o, l[i]? = some o → isHard o = false → D (i + 1) = D i
  held : ∀ i, i ≤ l.length → ∀ w, C i w → D i w ∧ E w

def consF {α : Type} (x : α) (f : Nat → α) : Nat → α
  | 0 => x
  | i + 1 => f i
theorem Run.cons {P : Program} {st : Nat → Bool} {E : World → Prop} {l : List Oper} {o : Oper} {a : Act} {C D C1 D1 : World → Prop} {u : Value} {A : Nat → Act} {Cs Ds : Nat → World → Prop} {v : Nat → Value} (hr : Run P (fun i => st (i + 1)) E l A Cs Ds v) (hA : A 0 = a.put o.dst u) (hC : Cs 0 = C1) (hD : Ds 0 = D1) (hCD : ∀ w, C w → D w ∧ E w)
    (h1 : isStore o = true → ∀ w, C w → Gives P o a w u C1) (h2 : isStore o = false → isFree o = true → C1 = C ∧ ∀ w, Gives P o a w u (fun w' => w' = w)) (h3 : isStore o = false → isFree o = false → isLook o = true → C1 = C ∧ ∀ w, (if st 0 then E w else D w) → Gives P o a w u (fun w' => w' = w))
    (h4 : isStore o = false → isFree o = false → isLook o = false → C1 = C ∧ ∀ w, C w → Gives P o a w u C) (h5 : isHard o = false → D1 = D) : Run P st E (o :: l) (consF a A) (consF C Cs) (consF D Ds) (consF u v) := by
  refine ⟨?_, ?_, ?_, ?_, ?_, ?_, ?_⟩
  · intro i o' ho'
    cases i with
    | zero => simp at ho'; subst ho'; exact hA
    | succ i => exact hr.act i o' (by simpa using ho')
  · intro i o' ho'
    cases i with
    | zero => simp at ho'; subst ho'; intro hs w hw; show Gives P o a w u (Cs 0); rw [hC]; exact h1 hs w hw
    | succ i => exact hr.store i o' (by simpa using ho')
  · intro i o' ho'
    cases i with
    | zero => simp at ho'; subst ho'; intro hs hf; exact ⟨hC.trans (h2 hs hf).1, (h2 hs hf).2⟩
    | succ i => exact hr.free i o' (by simpa using ho')
  · intro i o' ho'
    cases i with
    | zero => simp at ho'; subst ho'; intro hs hf hl; exact ⟨hC.trans (h3 hs hf hl).1, (h3 hs hf hl).2⟩
    | succ i => exact hr.look i o' (by simpa using ho')
  · intro i o' ho'
    cases i with
    | zero => simp at ho'; subst ho'; intro hs hf hl; exact ⟨hC.trans (h4 hs hf hl).1, (h4 hs hf hl).2⟩
    | succ i => exact hr.read i o' (by simpa using ho')
  · intro i o' ho'
    cases i with
    | zero => simp at ho'; subst ho'; intro hh; exact hD.trans (h5 hh)
    | succ i => exact hr.soft i o' (by simpa using ho')
  · intro i hi
    cases i with
    | zero => exact hCD
    | succ i => exact hr.held i (by simpa using hi)
theorem run_of_lex {P : Program} {st : List Nat} {E : World → Prop} {Q : Act → (World → Prop) → Prop} : ∀ (l : List Oper) (n : Nat) (a : Act) (C D : World → Prop), (∀ w, C w → D w ∧ E w) → wpLex P st E Q l n a C D →
    ∃ A Cs Ds v, Run P (fun i => st.contains (n + i)) E l A Cs Ds v ∧ A 0 = a ∧ Cs 0 = C ∧ Ds 0 = D ∧ Q (A l.length) (Cs l.length)
  | [], n, a, C, D, hCD, h => ⟨fun _ => a, fun _ => C, fun _ => D, fun _ => undef, ⟨fun i o h => by simp at h, fun i o h => by simp at h, fun i o h => by simp at h, fun i o h => by simp at h, fun i o h => by simp at h, fun i o h => by simp at h, fun i _ w hw => hCD w hw⟩, rfl, rfl, rfl, h⟩
  | o :: l, n, a, C, D, hCD, h => by
    unfold wpLex at h
    have shift : (fun i => st.contains (n + 1 + i)) = fun i => (fun j => st.contains (n + j)) (i + 1) := funext fun i => by
      show st.contains (n + 1 + i) = st.contains (n + (i + 1)); rw [show n + 1 + i = n + (i + 1) by omega]
    by_cases hs : isStore o = true
    · rw [if_pos hs] at h
      obtain ⟨u, C', D', h1, hd, hcd, h2⟩ := h
      obtain ⟨A, Cs, Ds, v, hr, hA, hC, hD, hQ⟩ := run_of_lex l (n + 1) _ C' D' hcd h2
      rw [shift] at hr
      exact ⟨_, _, _, _, Run.cons (st := fun j => st.contains (n + j)) hr hA hC hD hCD (fun _ => h1) (fun e => by rw [hs] at e; cases e) (fun e => by rw [hs] at e; cases e) (fun e => by rw [hs] at e; cases e) hd, rfl, rfl, rfl, hQ⟩
    · have hs0 : isStore o = false := by simpa using hs
      have hh0 : isHard o = false := by simp [isStore] at hs0; exact hs0.1
      rw [if_neg hs] at h
      by_cases hf : isFree o = true
      · rw [if_pos hf] at h
        obtain ⟨u, h1, h2⟩ := h
        obtain ⟨A, Cs, Ds, v, hr, hA, hC, hD, hQ⟩ := run_of_lex l (n + 1) _ C D hCD h2
        rw [shift] at hr
        exact ⟨_, _, _, _, Run.cons (st := fun j => st.contains (n + j)) hr hA hC hD hCD (fun e => absurd e hs) (fun _ _ => ⟨rfl, h1⟩) (fun _ e => by rw [hf] at e; cases e) (fun _ e => by rw [hf] at e; cases e) (fun _ => rfl), rfl, rfl, rfl, hQ⟩
      · rw [if_neg hf] at h
        by_cases hl : isLook o = true
        · rw [if_pos hl] at h
          obtain ⟨u, h1, h2⟩ := h
          obtain ⟨A, Cs, Ds, v, hr, hA, hC, hD, hQ⟩ := run_of_lex l (n + 1) _ C D hCD h2
          rw [shift] at hr
          exact ⟨_, _, _, _, Run.cons (st := fun j => st.contains (n + j)) hr hA hC hD hCD (fun e => absurd e hs) (fun _ e => absurd e hf) (fun _ _ _ => ⟨rfl, h1⟩) (fun _ _ e => by rw [hl] at e; cases e) (fun _ => rfl), rfl, rfl, rfl, hQ⟩
        · rw [if_neg hl] at h
          obtain ⟨u, h1, h2⟩ := h
          obtain ⟨A, Cs, Ds, v, hr, hA, hC, hD, hQ⟩ := run_of_lex l (n + 1) _ C D hCD h2
          rw [shift] at hr
          exact ⟨_, _, _, _, Run.cons (st := fun j => st.contains (n + j)) hr hA hC hD hCD (fun e => absurd e hs) (fun _ e => absurd e hf) (fun _ _ e => absurd e hl) (fun _ _ _ => ⟨rfl, h1⟩) (fun _ => rfl), rfl, rfl, rfl, hQ⟩

section
variable {l : List Oper} {v : Nat → Value} {a0 : Act}
structure Shape (l : List Oper) (v : Nat → Value) (a0 : Act) (S : Nat → Bool) (a : Act) : Prop where
  size : a.tmps.size = a0.tmps.size
  defers : a.defers = a0.defers
  done : ∀ j o t, l[j]? = some o → o.dst = some t → S j = true → a.tmps[t]? = if t < a0.tmps.size then some (v j) else none
  rest : ∀ t, (∀ j o, l[j]? = some o → o.dst = some t → S j = false) → a.tmps[t]? = a0.tmps[t]?

def Distinct (l : List Oper) : Prop := ∀ (i j : Nat) (oi oj : Oper) (t : Tmp), l[i]? = some oi → l[j]? = some oj → oi.dst = some t → oj.dst = some t → i = j

theorem Shape.start : Shape l v a0 (fun _ => false) a0 := ⟨rfl, rfl, fun _ _ _ _ _ h => (by cases h), fun _ _ => rfl⟩
theorem Shape.put {S : Nat → Bool} {a : Act} (hd : Distinct l) (h : Shape l v a0 S a) {i : Nat} {o : Oper} (ho : l[i]? = some o) : Shape l v a0 (fun j => S j || j == i) (a.put o.dst (v i)) := by
  cases hdst : o.dst with
  | none =>
    refine ⟨h.size, h.defers, fun j oj t hj ht hS => ?_, fun t ht => ?_⟩
    · simp only [Bool.or_eq_true, beq_iff_eq] at hS
      rcases hS with hS | rfl
      · exact h.done j oj t hj ht hS
      · rw [ho] at hj; injection hj with hj; subst hj; rw [hdst] at ht; cases ht
    · exact h.rest t fun j oj hj ht' => by have := ht j oj hj ht'; simp at this; exact this.1
  | some d =>
    refine ⟨by simp [Act.put, h.size], h.defers, fun j oj t hj ht hS => ?_, fun t ht => ?_⟩
    · simp only [Act.put, Array.getElem?_setIfInBounds]
      by_cases htd : d = t
      · subst htd
        have : j = i := hd j i oj o d hj ho ht hdst
        subst this
        rw [if_pos rfl, h.size]
      · rw [if_neg htd]
        simp only [Bool.or_eq_true, beq_iff_eq] at hS
        rcases hS with hS | rfl
        · exact h.done j oj t hj ht hS
        · rw [ho] at hj; injection hj with hj; subst hj; rw [hdst] at ht; injection ht with ht; exact absurd ht htd
    · have hne : d ≠ t := fun e => by subst e; have := ht i o ho hdst; simp at this
      simp only [Act.put, Array.getElem?_setIfInBounds, if_neg hne]
      exact h.rest t fun j oj hj ht' => by have := ht j oj hj ht'; simp at this; exact this.1
theorem Shape.same {S S' : Nat → Bool} {a a' : Act} (h : Shape l v a0 S a) (h' : Shape l v a0 S' a') {t : Nat} (hS : ∀ j o, l[j]? = some o → o.dst = some t → S j = S' j) : a.tmps[t]? = a'.tmps[t]? := by
  by_cases hx : ∃ j o, l[j]? = some o ∧ o.dst = some t ∧ S j = true
  · obtain ⟨j, o, hj, ht, hs⟩ := hx
    rw [h.done j o t hj ht hs, h'.done j o t hj ht (by rw [← hS j o hj ht]; exact hs)]
  · have hn : ∀ j o, l[j]? = some o → o.dst = some t → S j = false := fun j o hj ht => by
      cases hs : S j
      · rfl
      · exact absurd ⟨j, o, hj, ht, hs⟩ hx
    rw [h.rest t hn, h'.rest t fun j o hj ht => by rw [← hS j o hj ht]; exact hn j o hj ht]
theorem Shape.ext {S S' : Nat → Bool} {a a' : Act} (h : Shape l v a0 S a) (h' : Shape l v a0 S' a') (hS : ∀ j o, l[j]? = some o → S j = S' j) : a = a' := by
  have ht : a.tmps = a'.tmps := Array.ext_getElem? fun t => h.same h' fun j o hj _ => hS j o hj
  have hd : a.defers = a'.defers := h.defers.trans h'.defers.symm
  cases a; cases a'; simp_all
theorem Shape.congr {S S' : Nat → Bool} {a : Act} (h : Shape l v a0 S a) (hS : ∀ j o, l[j]? = some o → S j = S' j) : Shape l v a0 S' a :=
  ⟨h.size, h.defers, fun j o t hj ht hs => h.done j o t hj ht (by rw [hS j o hj]; exact hs), fun t ht => h.rest t fun j o hj hd => by rw [hS j o hj]; exact ht j o hj hd⟩
theorem Run.shape {P : Program} {st : Nat → Bool} {E : World → Prop} {A : Nat → Act} {C D : Nat → World → Prop} (hr : Run P st E l A C D v) (hd : Distinct l) : ∀ k, k ≤ l.length → Shape l v (A 0) (fun j => decide (j < k)) (A k)
  | 0, _ => Shape.start.congr fun j o _ => by simp
  | k + 1, hk => by
    have ho : l[k]? = some (l[k]'(by omega)) := List.getElem?_eq_getElem (by omega)
    rw [hr.act k _ ho]
    refine ((Run.shape hr hd k (by omega)).put hd ho).congr fun j o _ => ?_
    rw [Bool.eq_iff_iff]; simp; omega
end

/-- Does i wait for j? As the table says. -/
def tb (b : Array Nat) (i j : Nat) : Bool := (b.getD i 0).testBit j
def pairB (st : List Nat) (l : List Oper) (b : Array Nat) (i j : Nat) : Bool :=
  match l[i]?, l[j]? with
  | some oi, some oj =>
    (!(tb b i j) || oi.after.any fun e => Region.binds .any e && (e.on == j || tb b e.on j)) &&
    (i == j || ((match oi.dst, oj.dst with | some d, some d' => d != d' | _, _ => true) &&
      (match oj.dst with | some d => !(oi.looksAt l.toArray).contains d || (if j < i then tb b i j else tb b j i) | none => true) &&
      (!isStore oj || isFree oi || (isLook oi && (!isHard oj || st.contains i)) || (if j < i then tb b i j else tb b j i))))
  | _, _ => true
def oneB (l : List Oper) (i : Nat) : Bool :=
  match l[i]? with
  | some o => o.guard.isNone && !(isStore o && isFree o) && o.after.all fun e => !Region.binds .any e || decide (e.on < i)
  | none => true
def okB (st : List Nat) (l : List Oper) : Bool :=
  Region.noSelect l.toArray && ((List.range l.length).all fun i => oneB l i && (List.range l.length).all fun j => pairB st l (Region.before l.toArray) i j)

structure Ok (st : List Nat) (l : List Oper) (cl : Nat → Nat → Bool) : Prop where
  sel : Region.noSelect l.toArray = true
  guard : ∀ (i : Nat) (o : Oper), l[i]? = some o → o.guard = none
  down : ∀ (i : Nat) (o : Oper), l[i]? = some o → ∀ e ∈ o.after, Region.binds .any e = true → e.on < i
  cert : ∀ (i j : Nat) (o oj : Oper), l[i]? = some o → l[j]? = some oj → cl i j = true → ∃ e ∈ o.after, Region.binds .any e = true ∧ (e.on = j ∨ cl e.on j = true)
  dist : Distinct l
  looks : ∀ (i j : Nat) (oi oj : Oper) (t : Tmp), l[i]? = some oi → l[j]? = some oj → i ≠ j → oj.dst = some t → t ∈ oi.looksAt l.toArray → (if j < i then cl i j else cl j i) = true
  store : ∀ (i j : Nat) (oi oj : Oper), l[i]? = some oi → l[j]? = some oj → i ≠ j → isStore oj = true → isFree oi = false → (isLook oi && (!isHard oj || st.contains i)) = false → (if j < i then cl i j else cl j i) = true
theorem Ok.of (st : List Nat) (l : List Oper) (h : okB st l = true) : Ok st l (tb (Region.before l.toArray)) := by
  simp only [okB, Bool.and_eq_true] at h
  obtain ⟨h0, h⟩ := h
  have h1 : ∀ i o, l[i]? = some o → oneB l i = true ∧ ∀ j oj, l[j]? = some oj → pairB st l (Region.before l.toArray) i j = true := fun i o ho => by
    have hi : i < l.length := (List.getElem?_eq_some_iff.1 ho).1
    have := List.all_eq_true.1 h i (List.mem_range.2 hi)
    simp only [Bool.and_eq_true] at this
    exact ⟨this.1, fun j oj hj => List.all_eq_true.1 this.2 j (List.mem_range.2 (List.getElem?_eq_some_iff.1 hj).1)⟩
  have one : ∀ i o, l[i]? = some o → (o.guard.isNone = true ∧ (!(isStore o && isFree o)) = true) ∧ (o.after.all fun e => !Region.binds .any e || decide (e.on < i)) = true := fun i o ho => by
    have := (h1 i o ho).1
    simp only [oneB, ho, Bool.and_eq_true] at this
    exact this
  have two : ∀ i j oi oj, l[i]? = some oi → l[j]? = some oj →
      (!(tb (Region.before l.toArray) i j) || oi.after.any fun e => Region.binds .any e && (e.on == j || tb (Region.before l.toArray) e.on j)) = true ∧
      (i == j || ((match oi.dst, oj.dst with | some d, some d' => d != d' | _, _ => true) &&
      (match oj.dst with | some d => !(oi.looksAt l.toArray).contains d || (if j < i then tb (Region.before l.toArray) i j else tb (Region.before l.toArray) j i) | none => true) &&
      (!isStore oj || isFree oi || (isLook oi && (!isHard oj || st.contains i)) || (if j < i then tb (Region.before l.toArray) i j else tb (Region.before l.toArray) j i)))) = true := fun i j oi oj hi hj => by
    have := (h1 i oi hi).2 j oj hj
    simp only [pairB, hi, hj, Bool.and_eq_true] at this
    exact this
  refine ⟨h0, fun i o ho => by simpa using (one i o ho).1.1, fun i o ho e he hb => ?_, fun i j o oj hi hj hc => ?_, fun i j oi oj t hi hj hdi hdj => ?_, fun i j oi oj t hi hj hne hdj ht => ?_, fun i j oi oj hi hj hne hs hf hlk => ?_⟩
  · have := (Array.all_eq_true_iff_forall_mem.1 (one i o ho).2) e he
    simpa [hb] using this
  · have := (two i j o oj hi hj).1
    rw [hc] at this
    simp at this
    obtain ⟨k, hk, h1, h2⟩ := this
    exact ⟨o.after[k], Array.getElem_mem hk, h1, h2⟩
  · by_cases hij : i = j
    · exact hij
    · have := (two i j oi oj hi hj).2
      simp [hij, hdi, hdj] at this
  · have := (two i j oi oj hi hj).2
    simp only [Bool.or_eq_true, beq_iff_eq, Bool.and_eq_true, hne, false_or, hdj] at this
    have h2 := this.1.2
    rcases h2 with h2 | h2
    · simp at h2; exact absurd ht h2
    · exact h2
  · have := (two i j oi oj hi hj).2
    simp only [Bool.or_eq_true, beq_iff_eq, Bool.and_eq_true, hne, false_or] at this
    rcases this.2 with ((h2 | h2) | h2) | h2
    · simp [hs] at h2
    · rw [hf] at h2; cases h2
    · simp only [h2.1, Bool.true_and] at hlk; have h3' := h2.2; simp only [Bool.or_eq_false_iff] at hlk; rcases h3' with h3 | h3
      · rw [hlk.1] at h3; cases h3
      · rw [hlk.2] at h3; cases h3
    · exact h2

/-- How many have not been. -/
def unl (f : Nat → Bool) : Nat → Nat
  | 0 => 0
  | k + 1 => unl f k + (if f k then 0 else 1)
theorem unl_le (f : Nat → Bool) : ∀ n, unl f n ≤ n
  | 0 => Nat.le_refl _
  | n + 1 => by have := unl_le f n; unfold unl; split <;> omega
theorem unl_zero {f : Nat → Bool} : ∀ {n}, unl f n = 0 → ∀ i, i < n → f i = true
  | 0, _, i, h => absurd h (by omega)
  | n + 1, h, i, hi => by
    unfold unl at h
    by_cases hfn : f n = true
    · rw [if_pos hfn] at h
      by_cases hin : i = n
      · rw [hin]; exact hfn
      · exact unl_zero (n := n) (by omega) i (by omega)
    · rw [if_neg hfn] at h; omega
theorem unl_congr {f g : Nat → Bool} : ∀ {n}, (∀ i, i < n → f i = g i) → unl f n = unl g n
  | 0, _ => rfl
  | n + 1, h => by unfold unl; rw [unl_congr (n := n) fun i hi => h i (by omega), h n (by omega)]
theorem unl_set {f g : Nat → Bool} {i : Nat} (h0 : f i = false) (h1 : g i = true) (ho : ∀ j, j ≠ i → g j = f j) : ∀ {n}, i < n → unl g n + 1 = unl f n
  | 0, h => absurd h (by omega)
  | n + 1, h => by
    unfold unl
    by_cases hin : i = n
    · subst hin
      rw [unl_congr (n := i) fun j hj => ho j (by omega), h0, h1]; simp
    · have := unl_set h0 h1 ho (n := n) (by omega)
      rw [ho n (by omega)]; omega

structure Inv (l : List Oper) (v : Nat → Value) (a0 : Act) (C : Nat → World → Prop) (listed : Array Bool) (a : Act) (w : World) : Prop where
  size : listed.size = l.length
  closed : ∀ (i : Nat) (o : Oper), l[i]? = some o → listed.getD i false = true → ∀ e ∈ o.after, Region.binds .any e = true → listed.getD e.on false = true
  shape : Shape l v a0 (fun j => listed.getD j false) a
  world : ∀ i, i ≤ l.length → (∀ (j : Nat) (o : Oper), l[j]? = some o → isStore o = true → listed.getD j false = decide (j < i)) → C i w

section
variable {P : Program} {st : List Nat} {E : World → Prop} {l : List Oper} {A : Nat → Act} {C D : Nat → World → Prop} {v : Nat → Value} {cl : Nat → Nat → Bool} {listed : Array Bool} {a : Act} {w : World}
theorem Inv.down (ok : Ok st l cl) (h : Inv l v (A 0) C listed a w) : ∀ (n i j : Nat), i < n → (∃ o, l[i]? = some o) → (∃ o, l[j]? = some o) → cl i j = true → listed.getD i false = true → listed.getD j false = true
  | 0, _, _, hi, _, _, _, _ => absurd hi (by omega)
  | n + 1, i, j, hi, ⟨o, ho⟩, ⟨oj, hj⟩, hc, hl => by
    obtain ⟨e, he, hb, h'⟩ := ok.cert i j o oj ho hj hc
    have h1 := h.closed i o ho hl e he hb
    rcases h' with rfl | h'
    · exact h1
    · have hd := ok.down i o ho e he hb
      have hlt : i < l.length := (List.getElem?_eq_some_iff.1 ho).1
      exact Inv.down ok h n e.on j (by omega) ⟨_, List.getElem?_eq_getElem (show e.on < l.length by omega)⟩ ⟨oj, hj⟩ h' h1
/-- What stands between stores is one class. -/
theorem Run.between (hr : Run P (fun i => st.contains i) E l A C D v) {i : Nat} : ∀ (d k : Nat), k = i + d → k ≤ l.length → (∀ (j : Nat) (o : Oper), l[j]? = some o → isStore o = true → i ≤ j → j < k → False) → C k = C i
  | 0, k, hk, _, _ => by rw [hk]; rfl
  | d + 1, k, hk, hl, hn => by
    have ih := Run.between hr d (k - 1) (by omega) (by omega) (fun j o hj hs h1 h2 => hn j o hj hs h1 (by omega))
    have ho : l[k - 1]? = some (l[k - 1]'(by omega)) := List.getElem?_eq_getElem (by omega)
    have hs : isStore (l[k - 1]'(by omega)) = false := by
      cases h : isStore (l[k - 1]'(by omega))
      · rfl
      · exact (hn _ _ ho h (by omega) (by omega)).elim
    have e : k - 1 + 1 = k := by omega
    cases hf : isFree (l[k - 1]'(by omega))
    · cases hl : isLook (l[k - 1]'(by omega))
      · have := (hr.read _ _ ho hs hf hl).1; rw [e] at this; rw [this, ih]
      · have := (hr.look _ _ ho hs hf hl).1; rw [e] at this; rw [this, ih]
    · have := (hr.free _ _ ho hs hf).1; rw [e] at this; rw [this, ih]
theorem Run.one (hr : Run P (fun i => st.contains i) E l A C D v) {f : Nat → Bool} {i k : Nat} (hi : i ≤ l.length) (hk : k ≤ l.length) (h1 : ∀ (j : Nat) (o : Oper), l[j]? = some o → isStore o = true → f j = decide (j < i)) (h2 : ∀ (j : Nat) (o : Oper), l[j]? = some o → isStore o = true → f j = decide (j < k)) : C k = C i := by
  rcases Nat.le_total i k with h | h
  · exact hr.between (k - i) k (by omega) hk fun j o hj hs ha hb => by
      have e1 := h1 j o hj hs; have e2 := h2 j o hj hs
      rw [e1] at e2; simp at e2; omega
  · exact (hr.between (i - k) i (by omega) hi fun j o hj hs ha hb => by
      have e1 := h1 j o hj hs; have e2 := h2 j o hj hs
      rw [e1] at e2; simp at e2; omega).symm

theorem Run.steady (hr : Run P (fun i => st.contains i) E l A C D v) {i : Nat} : ∀ (d k : Nat), k = i + d → k ≤ l.length → (∀ (j : Nat) (o : Oper), l[j]? = some o → isHard o = true → i ≤ j → j < k → False) → D k = D i
  | 0, k, hk, _, _ => by rw [hk]; rfl
  | d + 1, k, hk, hl, hn => by
    have ih := Run.steady hr d (k - 1) (by omega) (by omega) (fun j o hj hs h1 h2 => hn j o hj hs h1 (by omega))
    have ho : l[k - 1]? = some (l[k - 1]'(by omega)) := List.getElem?_eq_getElem (by omega)
    have hs : isHard (l[k - 1]'(by omega)) = false := by
      cases h : isHard (l[k - 1]'(by omega))
      · rfl
      · exact (hn _ _ ho h (by omega) (by omega)).elim
    have e : k - 1 + 1 = k := by omega
    have := hr.soft _ _ ho hs; rw [e] at this; rw [this, ih]
/-- Of the acts the first so many have been. -/
theorem Inv.where_ (ok : Ok st l cl) (h : Inv l v (A 0) C listed a w) : ∃ k, k ≤ l.length ∧ ∀ (j : Nat) (o : Oper), l[j]? = some o → isStore o = true → listed.getD j false = decide (j < k) := by
  have key : ∀ n, n ≤ l.length → (∀ (j : Nat) (o : Oper), l[j]? = some o → isStore o = true → j < n → listed.getD j false = true) ∨ ∃ k, k < n ∧ ∃ o, l[k]? = some o ∧ isStore o = true ∧ listed.getD k false = false ∧ ∀ (j : Nat) (o : Oper), l[j]? = some o → isStore o = true → j < k → listed.getD j false = true := by
    intro n
    induction n with
    | zero => intro _; exact .inl fun j o _ _ hj => absurd hj (by omega)
    | succ n ih =>
      intro hn
      rcases ih (by omega) with h1 | ⟨k, hk, h1⟩
      · have ho : l[n]? = some (l[n]'(by omega)) := List.getElem?_eq_getElem (by omega)
        by_cases hs : isStore (l[n]'(by omega)) = true
        · cases hl : listed.getD n false
          · exact .inr ⟨n, by omega, _, ho, hs, hl, h1⟩
          · refine .inl fun j o hj hso hjn => ?_
            by_cases e : j = n
            · subst e; exact hl
            · exact h1 j o hj hso (by omega)
        · refine .inl fun j o hj hso hjn => ?_
          by_cases e : j = n
          · subst e; rw [ho] at hj; injection hj with hj; subst hj; exact absurd hso hs
          · exact h1 j o hj hso (by omega)
      · exact .inr ⟨k, by omega, h1⟩
  rcases key l.length (Nat.le_refl _) with h1 | ⟨k, hk, o, ho, hs, hl, h1⟩
  · refine ⟨l.length, Nat.le_refl _, fun j o hj hso => ?_⟩
    have := (List.getElem?_eq_some_iff.1 hj).1
    rw [h1 j o hj hso this]; simp [this]
  · refine ⟨k, by omega, fun j oj hj hsj => ?_⟩
    by_cases hjk : j < k
    · rw [h1 j oj hj hsj hjk]; simp [hjk]
    · by_cases e : j = k
      · subst e; rw [hl]; simp
      · have hf : isFree o = false := store_free hs
        have hlk : isLook o = false := store_look hs
        have hc := ok.store k j o oj ho hj (fun e' => e e'.symm) hsj hf (by simp [hlk])
        rw [if_neg (by omega)] at hc
        cases hlj : listed.getD j false
        · simp [hjk]
        · have := h.down ok l.length j k (List.getElem?_eq_some_iff.1 hj).1 ⟨oj, hj⟩ ⟨o, ho⟩ hc hlj
          rw [hl] at this; cases this
theorem Inv.step (hr : Run P (fun i => st.contains i) E l A C D v) (ok : Ok st l cl) (h : Inv l v (A 0) C listed a w) {Q : Exit → Act → World → Prop} {i : Nat} (hi : i ∈ Region.ready .any l.toArray listed) :
    wpOp P l.toArray Q i (fun a' w' => Inv l v (A 0) C (listed.setIfInBounds i true) a' w') a w := by
  obtain ⟨hun, o, ho', hdeps⟩ := mem_ready.1 hi
  have ho : l[i]? = some o := by simpa using ho'
  have hil : i < l.length := (List.getElem?_eq_some_iff.1 ho).1
  have his : i < listed.size := by rw [h.size]; exact hil
  have hun' : listed.getD i false = false := by simp [his] at hun ⊢; exact hun
  -- who is waited for has been; who waits has not
  have before : ∀ j oj, l[j]? = some oj → cl i j = true → listed.getD j false = true := fun j oj hj hc => by
    obtain ⟨e, he, hb, h'⟩ := ok.cert i j o oj ho hj hc
    have h1 := hdeps e he hb
    rcases h' with rfl | h'
    · exact h1
    · have hd := ok.down i o ho e he hb
      exact h.down ok l.length e.on j (by omega) ⟨_, List.getElem?_eq_getElem (show e.on < l.length by omega)⟩ ⟨oj, hj⟩ h' h1
  have behind : ∀ j oj, l[j]? = some oj → cl j i = true → listed.getD j false = false := fun j oj hj hc => by
    cases hl : listed.getD j false
    · rfl
    · have hjl : j < l.length := (List.getElem?_eq_some_iff.1 hj).1
      have := h.down ok l.length j i hjl ⟨oj, hj⟩ ⟨o, ho⟩ hc hl
      rw [hun'] at this; cases this
  have exec : execOp a.eval o = execOp (A i).eval o := execOp_congr o (fun cs b => Region.noSelect_spec ok.sel i o cs b ho') fun x hx => by
    cases x with
    | tmp t =>
      have ht : t ∈ o.looksAt l.toArray := List.mem_append_left _ (List.mem_filterMap.2 ⟨.tmp t, by simpa using hx, rfl⟩)
      have e := h.shape.same (hr.shape ok.dist i (by omega)) (t := t) fun j oj hj hd => by
        by_cases hji : j = i
        · subst hji; rw [hun']; simp
        · have hc := ok.looks i j o oj t ho hj (fun e => hji e.symm) hd ht
          by_cases hlt : j < i
          · rw [if_pos hlt] at hc; rw [before j oj hj hc]; simp [hlt]
          · rw [if_neg hlt] at hc; rw [behind j oj hj hc]; simp [hlt]
      simp only [Act.eval, Array.getD_eq_getD_getElem?, e]
    | const => rfl
    | global => rfl
    | func => rfl
  have hg := ok.guard i o ho
  have getset : ∀ j, (listed.setIfInBounds i true).getD j false = (listed.getD j false || j == i) := fun j => by
    by_cases hji : j = i
    · subst hji; simp [his]
    · rw [getD_set_ne false (fun e => hji e.symm)]; simp [hji]
  -- what is left of the invariant, whatever comes of the world
  have next : ∀ w', (∀ k, k ≤ l.length → (∀ (j : Nat) (oj : Oper), l[j]? = some oj → isStore oj = true → (listed.getD j false || j == i) = decide (j < k)) → C k w') → Inv l v (A 0) C (listed.setIfInBounds i true) (a.put o.dst (v i)) w' := fun w' hw => by
    refine ⟨by simp [h.size], fun j oj hj hl e he hb => ?_, (h.shape.put ok.dist ho).congr fun j oj hj => (getset j).symm, fun k hk hst => hw k hk fun j oj hj hs => by rw [← getset j]; exact hst j oj hj hs⟩
    rw [getset] at hl ⊢
    simp only [Bool.or_eq_true, beq_iff_eq] at hl ⊢
    rcases hl with hl | rfl
    · exact .inl (h.closed j oj hj hl e he hb)
    · rw [ho] at hj; injection hj with hj; subst hj; exact .inl (hdeps e he hb)
  unfold wpOp
  simp only [ho', Region.wanted, hg, if_true]
  refine .inl ?_
  cases hs : isStore o
  · cases hf : isFree o
    · cases hl : isLook o
      · -- a call
        have here : ∀ (j : Nat) (oj : Oper), l[j]? = some oj → isStore oj = true → listed.getD j false = decide (j < i) := fun j oj hj hsj => by
          have hji : j ≠ i := fun e => by subst e; rw [ho] at hj; injection hj with hj; subst hj; rw [hs] at hsj; cases hsj
          have hc := ok.store i j o oj ho hj (fun e => hji e.symm) hsj hf (by simp [hl])
          by_cases hlt : j < i
          · rw [if_pos hlt] at hc; rw [before j oj hj hc]; simp [hlt]
          · rw [if_neg hlt] at hc; rw [behind j oj hj hc]; simp [hlt]
        have hw := h.world i (by omega) here
        refine (((hr.read i o ho hs hf hl).2 w hw).congr exec).wp fun w' hw' => next w' fun k hk hst => ?_
        have hst' : ∀ (j : Nat) (oj : Oper), l[j]? = some oj → isStore oj = true → listed.getD j false = decide (j < k) := fun j oj hj hsj => by
          have hji : j ≠ i := fun e => by subst e; rw [ho] at hj; injection hj with hj; subst hj; rw [hs] at hsj; cases hsj
          have := hst j oj hj hsj; rw [show (j == i) = false from by simpa using hji, Bool.or_false] at this; exact this
        rw [hr.one (f := fun j => listed.getD j false) (by omega) hk here hst']; exact hw'
      · -- a look
        obtain ⟨k0, hk0, hat⟩ := h.where_ ok
        have hD : if st.contains i then E w else D i w := by
          have h00 := hr.held k0 hk0 w (h.world k0 hk0 hat)
          by_cases hst0 : st.contains i = true
          · rw [if_pos hst0]; exact h00.2
          rw [if_neg hst0]
          have h0 := h00.1
          have hst0 : st.contains i = false := by simpa using hst0
          have hard : ∀ (j : Nat) (oj : Oper), l[j]? = some oj → isHard oj = true → listed.getD j false = decide (j < i) ∧ j ≠ i := fun j oj hj hhj => by
            have hsj : isStore oj = true := by simp [isStore, hhj]
            have hji : j ≠ i := fun e => by subst e; rw [ho] at hj; injection hj with hj; subst hj; rw [hs] at hsj; cases hsj
            have hc := ok.store i j o oj ho hj (fun e => hji e.symm) hsj hf (by rw [hhj, hst0]; simp)
            by_cases hlt : j < i
            · rw [if_pos hlt] at hc; rw [before j oj hj hc]; simp [hlt, hji]
            · rw [if_neg hlt] at hc; rw [behind j oj hj hc]; simp [hlt, hji]
          have none : ∀ (j : Nat) (oj : Oper), l[j]? = some oj → isHard oj = true → decide (j < k0) = decide (j < i) := fun j oj hj hhj => by
            rw [← hat j oj hj (by simp [isStore, hhj])]; exact (hard j oj hj hhj).1
          rcases Nat.le_total i k0 with hle | hle
          · rw [hr.steady (i := i) (k0 - i) k0 (by omega) hk0 fun j oj hj hh h1 h2 => by
              have := none j oj hj hh; simp [h2] at this; omega] at h0
            exact h0
          · rw [← hr.steady (i := k0) (i - k0) i (by omega) (by omega) fun j oj hj hh h1 h2 => by
              have := none j oj hj hh; simp [h2] at this; omega] at h0
            exact h0
        refine (((hr.look i o ho hs hf hl).2 w hD).congr exec).wp fun w' hw' => next w' fun k hk hst => ?_
        subst hw'
        refine h.world k hk fun j oj hj hsj => ?_
        have hji : j ≠ i := fun e => by subst e; rw [ho] at hj; injection hj with hj; subst hj; rw [hs] at hsj; cases hsj
        have := hst j oj hj hsj; rw [show (j == i) = false from by simpa using hji, Bool.or_false] at this; exact this
    · -- nothing of the world
      refine (((hr.free i o ho hs hf).2 w).congr exec).wp fun w' hw' => next w' fun k hk hst => ?_
      subst hw'
      refine h.world k hk fun j oj hj hsj => ?_
      have hji : j ≠ i := fun e => by subst e; rw [ho] at hj; injection hj with hj; subst hj; rw [hs] at hsj; cases hsj
      have := hst j oj hj hsj; rw [show (j == i) = false from by simpa using hji, Bool.or_false] at this; exact this
  · -- a store
    have hf : isFree o = false := store_free hs
    have hlk : isLook o = false := store_look hs
    have here : ∀ (j : Nat) (oj : Oper), l[j]? = some oj → isStore oj = true → listed.getD j false = decide (j < i) := fun j oj hj hsj => by
      by_cases hji : j = i
      · subst hji; rw [hun']; simp
      · have hc := ok.store i j o oj ho hj (fun e => hji e.symm) hsj hf (by simp [hlk])
        by_cases hlt : j < i
        · rw [if_pos hlt] at hc; rw [before j oj hj hc]; simp [hlt]
        · rw [if_neg hlt] at hc; rw [behind j oj hj hc]; simp [hlt]
    have hw := h.world i (by omega) here
    have hgv := hr.store i o ho hs w hw
    refine (hgv.congr exec).wp fun w' hw' => next w' fun k hk hst => ?_
    have h1 : ∀ (j : Nat) (oj : Oper), l[j]? = some oj → isStore oj = true → (listed.getD j false || j == i) = decide (j < i + 1) := fun j oj hj hsj => by
      rw [here j oj hj hsj, Bool.eq_iff_iff]; simp; omega
    rw [hr.one (f := fun j => listed.getD j false || j == i) (by omega) hk h1 hst]; exact hw'

theorem Inv.all_ (hr : Run P (fun i => st.contains i) E l A C D v) (ok : Ok st l cl) {Q : Exit → Act → World → Prop} (hQ : ∀ w, C l.length w → Q .normal (A l.length) w) : ∀ (n : Nat) (listed : Array Bool) (a : Act) (w : World), Inv l v (A 0) C listed a w → unl (fun i => listed.getD i false) l.length ≤ n →
    wpAny P .any l.toArray Q n listed a w := by
  have last : ∀ (listed : Array Bool) (a : Act) (w : World), Inv l v (A 0) C listed a w → (∀ i, i < l.length → listed.getD i false = true) → Q .normal a w := fun listed a w h hall => by
    have e : a = A l.length := h.shape.ext (hr.shape ok.dist l.length (Nat.le_refl _)) fun j o hj => by
      have hjl : j < l.length := (List.getElem?_eq_some_iff.1 hj).1
      rw [hall j hjl]; simp [hjl]
    rw [e]
    exact hQ w (h.world l.length (Nat.le_refl _) fun j o hj _ => by
      have hjl : j < l.length := (List.getElem?_eq_some_iff.1 hj).1
      rw [hall j hjl]; simp [hjl])
  intro n
  induction n with
  | zero =>
    intro listed a w h hn
    have hall := unl_zero (f := fun i => listed.getD i false) (n := l.length) (by omega)
    refine ⟨?_, last listed a w h hall⟩
    cases hr' : Region.ready .any l.toArray listed with
    | nil => rfl
    | cons i is =>
      have hi : i ∈ Region.ready .any l.toArray listed := by rw [hr']; simp
      obtain ⟨hun, o, ho', _⟩ := mem_ready.1 hi
      have hil : i < l.length := by have := (Array.getElem?_eq_some_iff.1 ho').1; simpa using this
      have := hall i hil
      have his : i < listed.size := by rw [h.size]; exact hil
      simp [his] at hun this
      rw [this] at hun; cases hun
  | succ n ih =>
    intro listed a w h hn
    refine ⟨fun hr' => last listed a w h fun i hi => ?_, fun i hi => ?_⟩
    · induction i using Nat.strongRecOn with
      | _ i ihi =>
        cases hu : listed.getD i false
        · have ho : l[i]? = some (l[i]'hi) := List.getElem?_eq_getElem hi
          have : i ∈ Region.ready .any l.toArray listed := mem_ready.2 ⟨by
            have his : i < listed.size := by rw [h.size]; exact hi
            simp [his] at hu ⊢; exact hu, _, (by rw [List.getElem?_toArray]; exact ho), fun e he hb => by
            have hd := ok.down i _ ho e he hb
            exact ihi e.on hd (by omega)⟩
          rw [hr'] at this; cases this
        · rfl
    · refine wpOp_mono (fun a' w' h' => ih _ a' w' h' ?_) (h.step hr ok hi)
      obtain ⟨hun, o, ho', _⟩ := mem_ready.1 hi
      have hil : i < l.length := by have := (Array.getElem?_eq_some_iff.1 ho').1; simpa using this
      have his : i < listed.size := by rw [h.size]; exact hil
      have := unl_set (f := fun i => listed.getD i false) (g := fun j => (listed.setIfInBounds i true).getD j false) (i := i) (by simp [his] at hun ⊢; exact hun) (by simp [his]) (fun j hj => getD_set_ne false (fun e => hj e.symm)) hil
      omega

/-- **One walk serves every order.** -/
theorem any_of_lex {Q : Exit → Act → World → Prop} (hB : okB st l = true) (C0 D0 : World → Prop) (hC : C0 w.drew) (hCD : ∀ w, C0 w → D0 w ∧ E w)
    (h : wpLex P st E (fun a' C' => ∀ w', C' w' → Q .normal a' w') l 0 a C0 D0) : wpAny P .any l.toArray Q l.toArray.size (Array.replicate l.toArray.size false) a w.drew := by
  obtain ⟨A, Cs, Ds, v, hr, hA, hC0, hD0, hQ⟩ := run_of_lex l 0 a C0 D0 hCD h
  simp only [Nat.zero_add] at hr
  have ok := Ok.of st l hB
  have hinv : Inv l v (A 0) Cs (Array.replicate l.toArray.size false) a w.drew := by
    have hg : ∀ i, (Array.replicate l.length false).getD i false = false := fun i => by
      by_cases hi : i < l.length <;> simp [hi]
    refine ⟨by simp, fun i o ho hl => ?_, ?_, fun i hi hst => ?_⟩
    · simp only [List.size_toArray] at hl; rw [hg i] at hl; cases hl
    · rw [hA]; exact Shape.start.congr fun j o _ => by simp only [List.size_toArray]; rw [hg j]
    · have e : Cs i = Cs 0 := hr.between i i (by omega) hi fun j o hj hs h0 hlt => by
        have := hst j o hj hs
        simp only [List.size_toArray] at this
        rw [hg j] at this; simp at this; omega
      rw [e, hC0]; exact hC
  have := Inv.all_ hr ok (Q := Q) hQ l.toArray.size _ _ _ hinv (by have := unl_le (fun i => (Array.replicate l.toArray.size false).getD i false) l.length; simpa using this)
  exact this
end
theorem wp_region_lex {P : Program} {l : List Oper} {a : Act} {w : World} {id : Nat} {Q : Exit → Act → World → Prop} (hm : P.follows .mixedOrders = true) (st : List Nat) (hB : okB st l = true) (C0 D0 E : World → Prop) (hC : C0 w.drew) (hCD : ∀ w, C0 w → D0 w ∧ E w)
    (h : wpLex P st E (fun a' C' => ∀ w', C' w' → Q .normal a' w') l 0 a C0 D0) : (Code.region id l.toArray true).wp P Q a w :=
  wp_region_any hm (any_of_lex hB C0 D0 hC hCD h)

section
variable {P : Program} {st : List Nat} {E : World → Prop} {Q : Act → (World → Prop) → Prop} {o : Oper} {rest : List Oper} {n : Nat} {a : Act} {C D : World → Prop} {W : World}
theorem lex_free (hs : isStore o = false) (hf : isFree o = true) {v : Value} (hrun : ∀ w, (execOp a.eval o).run P w = .ok (.value v) w) (h : wpLex P st E Q rest (n + 1) (a.put o.dst v) C D) : wpLex P st E Q (o :: rest) n a C D := by
  unfold wpLex
  rw [if_neg (by simp [hs]), if_pos hf]
  exact ⟨v, fun w => by unfold Gives; rw [hrun w]; exact ⟨rfl, rfl⟩, h⟩
theorem lex_look (hs : isStore o = false) (hf : isFree o = false) (hl : isLook o = true) (hst : st.contains n = false) {v : Value} (hrun : ∀ w, D w → (execOp a.eval o).run P w = .ok (.value v) w) (h : wpLex P st E Q rest (n + 1) (a.put o.dst v) C D) : wpLex P st E Q (o :: rest) n a C D := by
  unfold wpLex
  rw [if_neg (by simp [hs]), if_neg (by simp [hf]), if_pos hl]
  exact ⟨v, fun w hw => by rw [if_neg (by rw [hst]; simp)] at hw; unfold Gives; rw [hrun w hw]; exact ⟨rfl, rfl⟩, h⟩
theorem lex_steady (hs : isStore o = false) (hf : isFree o = false) (hl : isLook o = true) (hst : st.contains n = true) {v : Value} (hrun : ∀ w, E w → (execOp a.eval o).run P w = .ok (.value v) w) (h : wpLex P st E Q rest (n + 1) (a.put o.dst v) C D) : wpLex P st E Q (o :: rest) n a C D := by
  unfold wpLex
  rw [if_neg (by simp [hs]), if_neg (by simp [hf]), if_pos hl]
  exact ⟨v, fun w hw => by rw [if_pos hst] at hw; unfold Gives; rw [hrun w hw]; exact ⟨rfl, rfl⟩, h⟩
/-- A function is called: it may leave another class. -/
theorem lex_call (hs : isStore o = true) {C' : World → Prop} {v : Value} {f : FuncId} {args : Array Value} (hrun : ∀ w, C w → (execOp a.eval o).run P w = .ok (.enter f args) w) (hc : ∀ w, C w → Calls P f args w fun e w' => e = .returned v ∧ C' w') (hD : ∀ w, C' w → D w ∧ E w) (h : wpLex P st E Q rest (n + 1) (a.put o.dst v) C' D) : wpLex P st E Q (o :: rest) n a C D := by
  unfold wpLex
  rw [if_pos hs]
  exact ⟨v, C', D, fun w hw => by unfold Gives; rw [hrun w hw]; exact hc w hw, fun _ => rfl, hD, h⟩
/-- Memory is made; the world is known. -/
theorem lex_make (hs : isStore o = true) {v : Value} {W' : World} (hrun : (execOp a.eval o).run P W = .ok (.value v) W') (hD : D W' ∧ E W') (h : wpLex P st E Q rest (n + 1) (a.put o.dst v) (· = W') D) : wpLex P st E Q (o :: rest) n a (· = W) D := by
  unfold wpLex
  rw [if_pos hs]
  exact ⟨v, (· = W'), D, fun w hw => by subst hw; unfold Gives; rw [hrun]; exact ⟨rfl, rfl⟩, fun _ => rfl, fun w hw => hw ▸ hD, h⟩
theorem lex_store (hs : isStore o = true) (hh : isHard o = true) {C' D' : World → Prop} (hrun : ∀ w, C w → ∃ W', (execOp a.eval o).run P w = .ok .skip W' ∧ C' W') (hD : ∀ w, C' w → D' w ∧ E w) (h : wpLex P st E Q rest (n + 1) (a.put o.dst undef) C' D') : wpLex P st E Q (o :: rest) n a C D := by
  unfold wpLex
  rw [if_pos hs]
  exact ⟨undef, C', D', fun w hw => by obtain ⟨W', h1, h2⟩ := hrun w hw; unfold Gives; rw [h1]; exact ⟨rfl, h2⟩, fun e => by (rw [hh] at e; cases e), hD, h⟩
theorem lex_end {Q : Exit → Act → World → Prop} (h : ∀ w', C w' → Q .normal a w') : wpLex P st E (fun a' C' => ∀ w', C' w' → Q .normal a' w') [] n a C D := h
end
end Ry
namespace Go.Proofs.YtiahpncglpfjeaaGreat
open Go Go.RowKit Go.Shelf
set_option linter.unusedVariables false
set_option linter.unusedSimpArgs false

theorem Fd.skip_none {s u : Fd.S} {l : List En.S} (hs : Fd.Fine s) (h : Fd.run s (Fd.es l) = some u) (k : Nat) (hk : k + 1 < l.length) : Fd.run s (Fd.es (l.take k ++ l.drop (k + 1))) = none := by
  have e0 : l.drop k = l[k] :: l.drop (k + 1) := List.drop_eq_getElem_cons (by omega)
  have e2 : l.drop (k + 1) = l[k + 1] :: l.drop (k + 2) := List.drop_eq_getElem_cons (by omega)
  have h2 : Fd.es l = Fd.es (l.take k ++ l.drop k) := by rw [List.take_append_drop]
  rw [h2, e0, e2] at h
  rw [e2]
  unfold Fd.es at h ⊢
  rw [List.map_append, List.map_cons, List.map_cons] at h
  rw [List.map_append, List.map_cons]
  exact Fd.run_skip hs h
theorem Fd.twice_none {s u : Fd.S} {l : List En.S} (hs : Fd.Fine s) (h : Fd.run s (Fd.es l) = some u) (k : Nat) (hk : k < l.length) : Fd.run s (Fd.es (l.take (k + 1) ++ l.drop k)) = none := by
  have e0 : l.drop k = l[k] :: l.drop (k + 1) := List.drop_eq_getElem_cons (by omega)
  have e1 : l.take (k + 1) = l.take k ++ [l[k]] := List.take_succ_eq_append_getElem (by omega)
  have h2 : Fd.es l = Fd.es (l.take k ++ l.drop k) := by rw [List.take_append_drop]
  rw [h2, e0] at h
  rw [e0, e1]
  unfold Fd.es at h ⊢
  rw [List.map_append, List.map_cons] at h
  rw [List.append_assoc, List.map_append, List.singleton_append, List.map_cons, List.map_cons]
  exact Fd.run_twice hs h
theorem exec_slice_from2 {o : Oper} {a : Act} {w : World} {x y : Operand} {A : Option Addr} {m c k : Nat} {z : Int} (hz : z = (k : Int)) (ho : o.op = .slice 52 x (some y) none none) (hx : a.eval x = .slice A m c) (hy : a.eval y = .int .i64 z) (hk : k ≤ m) (hc : m ≤ c) :
    (execOp a.eval o).run Tryz.prog w = .ok (.value (.slice (dropA A c k) (m - k) (c - k))) w := by
  subst hz
  unfold execOp
  simp only [ho, Option.map_some, Option.map_none, hx, hy, Sem.run_bind, run_sliceAt_slice w 52 _ _ _ _ ens_row, run_slice_from A m c k Tryz.underlying52 en_info26 hk hc, Result.andThen_ok]
  simp only [Sem.run_pure]
theorem exec_slice_to2 {o : Oper} {a : Act} {w : World} {x y : Operand} {A : Option Addr} {m c k : Nat} {z : Int} (hz : z = (k : Int)) (ho : o.op = .slice 52 x none (some y) none) (hx : a.eval x = .slice A m c) (hy : a.eval y = .int .i64 z) (hk : k ≤ c) :
    (execOp a.eval o).run Tryz.prog w = .ok (.value (.slice A k c)) w := by
  subst hz
  exact exec_slice_to ho hx hy hk
set_option maxRecDepth 100000 in
set_option maxHeartbeats 1000000 in
theorem wrong10_main (seed : ByteArray) (l : List Fd.Turn) (A : Option Addr) (n c : Nat) (cut : Int) (w : World) (hsz : seed.size ≤ 20) (hn : n = l.length) (hn60 : n ≤ 60) (hn2 : 2 ≤ n) (hl : Lies w w.heap.size 25 A n (l.flatMap Fd.Turn.cells)) (hty : ∀ q ∈ l, q.ty) :
    Calls Tryz.prog 5 #[.string seed, .slice A n c, .int .i64 cut] w fun e w' => e = .returned (.bool true) ∧ Below w.heap.size w w' := by
  have h63 : seed.size ≤ maxLen := by unfold maxLen; omega
  have hs20 : (seed.size : Int) ≤ 20 := by omega
  have hn1 : (n : Int) ≤ 60 := by omega
  have hn3 : ¬ (n : Int) < 2 := by omega
  have cm := Lib.hid (make_any seed l A n c _ w h63 rfl hn (by omega) hl hty)
  have hd := Dn.seed_bd seed.data.toList
  have cs := fun X => Lib.hid (foldstart_any seed X h63)
  have ct := fun X => Lib.hid (told10_any X)
  generalize Dn.seed seed.data.toList = d at cm hd cs
  have HD := Lib.hid hd
  clear hd hl hty hn
  go_enter Tryz.func5, Tryz.ntmps5
  go_upto_region 4 with (go_at_call 18; ((with_reducible refine ((cm).out).mono ?_); rintro x w1 ⟨A1, c1, log, u, rfl, hL, hT, hrun, hlen, hb, hcap⟩; have L1 := Lib.hid hL; have T1 := Lib.hid hT; have RU := Lib.hid hrun; have CP := Lib.hid hcap; have K1 := Lib.hid hb; have LE := Lib.hid hlen; clear hL hT hrun hb hcap hlen))
  obtain ⟨m, hm⟩ : ∃ m, m = log.length := ⟨_, rfl⟩
  have HM := Lib.hid hm
  rw [← hm]
  have hm100 : m ≤ 60 := by have := LE.out; omega
  clear hm
  have hm63 : m ≤ maxLen := by unfold maxLen; omega
  have hll := Lib.hid (show LiesS w1 w1.heap.size A1 m log from HM.out ▸ L1.out)
  by_cases hm2 : m < 2
  · have hm2' : (m : Int) < 2 := by omega
    go_wp2_with (go_at_call 11; ((with_reducible refine ((ct _).out).mono ?_); rintro e w2 ⟨rfl, hb⟩))
    go_ret
    exact ⟨rfl, K1.out.trans (hb.mono K1.out.size)⟩
  have hm2' : ¬ (m : Int) < 2 := by omega
  obtain ⟨k, hkm, hkk⟩ : ∃ k : Nat, k + 1 < m ∧ wrap64 ((IntKind.u64.wrap cut).tmod (↑m - 1)) = (k : Int) := by
    rw [wrap_u64']
    obtain ⟨z, hz⟩ : ∃ z, z = cut % 18446744073709551616 := ⟨_, rfl⟩
    rw [← hz]
    have hz0 : 0 ≤ z := by omega
    clear hz
    have h1 := Int.emod_nonneg z (show (m : Int) - 1 ≠ 0 by omega)
    have h2 := Int.emod_lt_of_pos z (show (0 : Int) < (m : Int) - 1 by omega)
    rw [Int.tmod_eq_emod_of_nonneg hz0, IntWalk.wrap64_in _ (by omega)]
    exact ⟨(z % ((m : Int) - 1)).toNat, by omega, by omega⟩
  have FN := Lib.hid (Fd.start_fine HD.out)
  have LN := fun X => (show Lies X X.heap.size 6 none 0 (Gm.shotCells (Fd.start d).g.shots) from ⟨rfl, fun h => absurd rfl h, fun _ _ h => absurd rfl h⟩)
  have N1 := Lib.hid (Fd.skip_none FN.out RU.out k (by have := HM.out; omega))
  have N2 := Lib.hid (Fd.twice_none FN.out RU.out k (by have := HM.out; omega))
  have hmc : m ≤ c1 := by have h1 := CP.out; have h2 := HM.out; omega
  have hk8 : (k : Int) + 1 < m := by omega
  have hwk : IntKind.i64.wrap ((k : Int) + 1) = (k : Int) + 1 := by rw [IntKind.wrap_i64]; omega
  go_upto_region 7 with fail
  rw [hkk]
  have hl0 := hll.out.below ((Below.refl w1.heap.size w1).drew)
  obtain ⟨A3, c3, W3', A4, c4, W4', r3, r4, hLX, bX⟩ := en_joined w1.drew (c1 := c1) (c2 := c1 - (k + 1)) (hl0.take k (by omega)) (hl0.drop (k + 1) (by omega) hmc) (by omega) 52 52
  refine Ry.wp_region_lex (by kernel_rfl) [] (by kernel_rfl) (· = w1.drew) (fun _ => True) (fun _ => True) rfl (fun W hW => ⟨trivial, trivial⟩) ?_
  refine Ry.lex_make rfl (W' := w1.drew.alloc (.cells #[] 42)) (v := .slice (some ⟨w1.drew.heap.size, 0, none⟩) 0 0) ?_ ⟨trivial, trivial⟩ ?_
  focus (go_simp; first | done | rfl)
  repeat (apply Ry.lex_free rfl rfl; focus (intro _; go_simp; first | done | rfl))
  refine Ry.lex_free rfl rfl (v := .slice A1 k c1) (fun W => exec_slice_to2 (A := A1) (m := m) (c := c1) (k := k) (z := (k : Int)) (by first | rfl | (push_cast; rfl)) rfl (by go_simp) (by go_simp <;> exact hwk) (by omega)) ?_
  refine Ry.lex_make rfl (W' := W3') (v := .slice A3 k c3) (exec_append' (x := .tmp 45) (y := .tmp 48) (v1 := .slice (some ⟨w1.drew.heap.size, 0, none⟩) 0 0) (v2 := .slice A1 k c1) rfl (by go_simp) (by go_simp) r3) ⟨trivial, trivial⟩ ?_
  repeat (apply Ry.lex_free rfl rfl; focus (intro _; go_simp; first | done | rfl))
  refine Ry.lex_free rfl rfl (v := .slice (dropA A1 c1 (k + 1)) (m - (k + 1)) (c1 - (k + 1))) (fun W => exec_slice_from2 (A := A1) (m := m) (c := c1) (k := (k + 1)) (z := (k : Int) + 1) (by first | rfl | (push_cast; rfl)) rfl (by go_simp) (by go_simp <;> exact hwk) (by omega) hmc) ?_
  refine Ry.lex_make rfl (W' := W4') (v := .slice A4 (k + (m - (k + 1))) c4) (exec_append' (x := .tmp 49) (y := .tmp 53) (v1 := .slice A3 k c3) (v2 := .slice (dropA A1 c1 (k + 1)) (m - (k + 1)) (c1 - (k + 1))) rfl (by go_simp) (by go_simp) r4) ⟨trivial, trivial⟩ ?_
  repeat (apply Ry.lex_free rfl rfl; focus (intro _; go_simp; first | done | rfl))
  refine Ry.lex_end fun W5 hW5 => ?_
  have hW5' := hW5.symm
  subst hW5'
  clear hW5
  simp only [Act.put, List.setIfInBounds_toArray, List.set_cons_succ, List.set_cons_zero]
  have LX := Lib.hid hLX
  have B4 := Lib.hid (show Below w1.heap.size w1 W4' from ((Below.refl w1.heap.size w1).drew).trans bX)
  clear hLX bX r3 r4 hl0 W3'
  go_upto_region 9 with (first | (with_reducible refine alloc_state rfl rfl ?_) | (with_reducible refine im_store_new rfl rfl rfl rfl Im.zero_size rfl ?_) | (go_at_call 20; ((with_reducible refine ((cs _).out).mono ?_); rintro x w5 ⟨rfl, hb⟩; have b5 := hb.alloc hb.size (.cells (Im.cells (Gm.new d) (.slice none 0 0) Ros.new) 35); have S5 := Lib.hid (Box.made w5 35 (Im.cells (Gm.new d) (.slice none 0 0) Ros.new)); clear hb)))
  generalize hW5 : w5.alloc (.cells (Im.cells (Gm.new d) (.slice none 0 0) Ros.new) 35) = W5 at S5 b5 ⊢
  generalize w5.heap.size = p5 at S5 ⊢
  have B5 := Lib.hid (B4.out.trans (b5.mono B4.out.size))
  have ca := Lib.hid (show Calls Tryz.prog 19 #[.agg (Im.cells (Gm.new d) (.slice none 0 0) Ros.new), .slice A4 (k + (m - (k + 1))) c4] W5 (SOut (Gm.new d) Ros.new 1 W5) from foldrun_none (Fd.start d) (log.take k ++ log.drop (k + 1)) none A4 0 0 (k + (m - (k + 1))) c4 W5 FN.out rfl (LN W5) (by omega) ((LX.out.below b5).wider b5.size) (fun q hq => (List.mem_append.1 hq).elim (fun h => T1.out q (List.mem_of_mem_take h)) (fun h => T1.out q (List.mem_of_mem_drop h))) N1.out)
  clear hW5 b5 LX cs
  go_upto_region 10 with (first | ((with_reducible refine im_load_state rfl rfl ?_); apply LoadIm.mk rfl; (focus (with_reducible exact S5.out)); dsimp only) | (with_reducible refine alloc_state rfl rfl ?_) | (with_reducible refine im_store_new rfl rfl rfl rfl Im.zero_size rfl ?_) | (go_at_call 19; ((with_reducible refine ((ca.out).mono ?_)); rintro x w6 ⟨A6, c6, rfl, hL, hb⟩; have S6 := Lib.hid ((S5.out.below hb S5.out.lt).alloc (.cells (Im.cells (Gm.new d) (.slice A6 (Gm.new d).shots.length c6) Ros.new) 35)); have T6 := Lib.hid (Box.made w6 35 (Im.cells (Gm.new d) (.slice A6 (Gm.new d).shots.length c6) Ros.new)); have L6 := Lib.hid (hL.call (one_below w6 (.cells (Im.cells (Gm.new d) (.slice A6 (Gm.new d).shots.length c6) Ros.new) 35))); have B6 := Lib.hid ((B5.out.trans (hb.mono B5.out.size)).alloc (B5.out.trans (hb.mono B5.out.size)).size (.cells (Im.cells (Gm.new d) (.slice A6 (Gm.new d).shots.length c6) Ros.new) 35)); clear hb hL)))
  generalize hW6 : w6.alloc (.cells (Im.cells (Gm.new d) (.slice A6 (Gm.new d).shots.length c6) Ros.new) 35) = W6 at S6 T6 L6 B6 ⊢
  generalize w6.heap.size = p6 at T6 ⊢
  clear hW6 ca S5 B5 B4
  have hl0 := (hll.out.below (B6.out.trans ((Below.refl W6.heap.size W6).drew.mono B6.out.size))).wider (B6.out.trans ((Below.refl W6.heap.size W6).drew.mono B6.out.size)).size
  obtain ⟨A3, c3, W3', A5, c5, W4', r3, r4, hLX, bX⟩ := en_joined W6.drew (c1 := c1) (c2 := c1 - k) (hl0.take (k + 1) (by omega)) (hl0.drop k (by omega) hmc) (by omega) 52 52
  refine Ry.wp_region_lex (by kernel_rfl) [] (by kernel_rfl) (· = W6.drew) (fun _ => True) (fun _ => True) rfl (fun W hW => ⟨trivial, trivial⟩) ?_
  refine Ry.lex_make rfl (W' := W6.drew.alloc (.cells #[] 42)) (v := .slice (some ⟨W6.drew.heap.size, 0, none⟩) 0 0) ?_ ⟨trivial, trivial⟩ ?_
  focus (go_simp; first | done | rfl)
  repeat (apply Ry.lex_free rfl rfl; focus (intro _; go_simp; first | done | rfl))
  refine Ry.lex_free rfl rfl (v := .slice A1 (k + 1) c1) (fun W => exec_slice_to2 (A := A1) (m := m) (c := c1) (k := (k + 1)) (z := (k : Int) + 1) (by first | rfl | (push_cast; rfl)) rfl (by go_simp) (by go_simp <;> exact hwk) (by omega)) ?_
  refine Ry.lex_make rfl (W' := W3') (v := .slice A3 (k + 1) c3) (exec_append' (x := .tmp 63) (y := .tmp 67) (v1 := .slice (some ⟨W6.drew.heap.size, 0, none⟩) 0 0) (v2 := .slice A1 (k + 1) c1) rfl (by go_simp) (by go_simp) r3) ⟨trivial, trivial⟩ ?_
  repeat (apply Ry.lex_free rfl rfl; focus (intro _; go_simp; first | done | rfl))
  refine Ry.lex_free rfl rfl (v := .slice (dropA A1 c1 k) (m - k) (c1 - k)) (fun W => exec_slice_from2 (A := A1) (m := m) (c := c1) (k := k) (z := (k : Int)) (by first | rfl | (push_cast; rfl)) rfl (by go_simp) (by go_simp <;> exact hwk) (by omega) hmc) ?_
  refine Ry.lex_make rfl (W' := W4') (v := .slice A5 ((k + 1) + (m - k)) c5) (exec_append' (x := .tmp 68) (y := .tmp 71) (v1 := .slice A3 (k + 1) c3) (v2 := .slice (dropA A1 c1 k) (m - k) (c1 - k)) rfl (by go_simp) (by go_simp) r4) ⟨trivial, trivial⟩ ?_
  repeat (apply Ry.lex_free rfl rfl; focus (intro _; go_simp; first | done | rfl))
  refine Ry.lex_end fun W5 hW5 => ?_
  have hW5' := hW5.symm
  subst hW5'
  clear hW5
  simp only [Act.put, List.setIfInBounds_toArray, List.set_cons_succ, List.set_cons_zero]
  have LX := Lib.hid hLX
  have b7 := (Below.refl W6.heap.size W6).drew.trans (show Below W6.heap.size W6.drew W4' from bX)
  have B7 := Lib.hid (B6.out.trans (b7.mono B6.out.size))
  have S7 := Lib.hid (S6.out.below b7 S6.out.lt)
  have T7 := Lib.hid (T6.out.below b7 T6.out.lt)
  have L7 := Lib.hid ((L6.out.below b7).wider b7.size)
  have ca := Lib.hid (show Calls Tryz.prog 19 #[.agg (Im.cells (Gm.new d) (.slice none 0 0) Ros.new), .slice A5 ((k + 1) + (m - k)) c5] W4' (SOut (Gm.new d) Ros.new 1 W4') from foldrun_none (Fd.start d) (log.take (k + 1) ++ log.drop k) none A5 0 0 ((k + 1) + (m - k)) c5 W4' FN.out rfl (LN W4') (by unfold maxLen; omega) LX.out (fun q hq => (List.mem_append.1 hq).elim (fun h => T1.out q (List.mem_of_mem_take h)) (fun h => T1.out q (List.mem_of_mem_drop h))) N2.out)
  clear hLX bX r3 r4 hl0 b7 S6 T6 L6 B6 LX W3'
  go_upto_region 12 with (first | ((with_reducible refine im_load_state rfl rfl ?_); apply LoadIm.mk rfl; (focus (with_reducible exact S7.out)); dsimp only) | (with_reducible refine alloc_state rfl rfl ?_) | (with_reducible refine im_store_new rfl rfl rfl rfl Im.zero_size rfl ?_) | (go_at_call 19; ((with_reducible refine ((ca.out).mono ?_)); rintro x w8 ⟨A8, c8, rfl, hL, hb⟩; have S8 := Lib.hid ((S7.out.below hb S7.out.lt).alloc (.cells (Im.cells (Gm.new d) (.slice A8 (Gm.new d).shots.length c8) Ros.new) 35)); have T8 := Lib.hid ((T7.out.below hb T7.out.lt).alloc (.cells (Im.cells (Gm.new d) (.slice A8 (Gm.new d).shots.length c8) Ros.new) 35)); have U8 := Lib.hid (Box.made w8 35 (Im.cells (Gm.new d) (.slice A8 (Gm.new d).shots.length c8) Ros.new)); have L8 := Lib.hid ((L7.out.call hb).call (one_below w8 (.cells (Im.cells (Gm.new d) (.slice A8 (Gm.new d).shots.length c8) Ros.new) 35))); have M8 := Lib.hid (hL.call (one_below w8 (.cells (Im.cells (Gm.new d) (.slice A8 (Gm.new d).shots.length c8) Ros.new) 35))); have B8 := Lib.hid ((B7.out.trans (hb.mono B7.out.size)).alloc (B7.out.trans (hb.mono B7.out.size)).size (.cells (Im.cells (Gm.new d) (.slice A8 (Gm.new d).shots.length c8) Ros.new) 35)); clear hb hL)))
  generalize hW8 : w8.alloc (.cells (Im.cells (Gm.new d) (.slice A8 (Gm.new d).shots.length c8) Ros.new) 35) = W8 at S8 T8 U8 L8 M8 B8 ⊢
  generalize w8.heap.size = p8 at U8 ⊢
  clear hW8 ca S7 T7 L7 B7
  have cq := fun Y A c (hA : Lies Y Y.heap.size 6 A (Gm.new d).shots.length (Gm.shotCells (Gm.new d).shots)) => Lib.hid ((foldsame_any (Gm.new d) (Gm.new d) Ros.new Ros.new A none (Gm.new d).shots.length 0 c 0 Y rfl rfl hA (LN Y) (by show (0 : Nat) ≤ maxLen; unfold maxLen; omega) (by unfold maxLen; omega)).mono (fun r' w' h => show r' = .returned (.bool true) ∧ Below Y.heap.size Y w' by obtain ⟨⟨vv, h1, h2⟩, h3⟩ := h; obtain rfl : vv = true := h2.2 ⟨Gm.Eq.refl _, rfl, fun _ _ => ⟨rfl, rfl⟩⟩; exact ⟨h1, h3⟩))
  have K8 := Lib.hid (K1.out.trans (B8.out.mono K1.out.size))
  have k0 := Below.refl W8.heap.size W8
  go_wp2_with (first | ((with_reducible refine im_load_state_g ?_ rfl ?_); (focus first | rfl | (simp [Region.wanted, yielded]; done)); apply LoadIm.mk rfl; (focus first | (with_reducible exact T9.out) | (with_reducible exact S9.out) | (with_reducible exact U10.out) | (with_reducible exact S10.out)); dsimp only) | (go_at_call 11; ((with_reducible refine ((ct _).out).mono ?_); rintro x w9 ⟨rfl, h9⟩; have k9 := k0.trans (h9.mono k0.size); have S9 := Lib.hid (S8.out.below k9 S8.out.lt); have T9 := Lib.hid (T8.out.below k9 T8.out.lt); have U9 := Lib.hid (U8.out.below k9 U8.out.lt))) | (go_at_call 17; ((with_reducible refine ((cq _ _ _ ((L8.out.below k9).wider k9.size)).out.mono ?_)); rintro x w10 ⟨rfl, h10⟩; have k10 := k9.trans (h10.mono k9.size); have S10 := Lib.hid (S9.out.below h10 S9.out.lt); have U10 := Lib.hid (U9.out.below h10 U9.out.lt))) | (go_at_call 17; ((with_reducible refine ((cq _ _ _ ((M8.out.below k10).wider k10.size)).out.mono ?_)); rintro x w11 ⟨rfl, h11⟩; have k11 := k10.trans (h11.mono k10.size); have K11 := Lib.hid (K8.out.trans (k11.mono K8.out.size)))))
  go_ret
  exact ⟨ret_bool (by simp), K11.out⟩
end Go.Proofs.YtiahpncglpfjeaaGreat
namespace Go.Proofs.YtiahpncglpfjeaaGreat
open Go Go.RowKit Go.Shelf
set_option linter.unusedVariables false
set_option linter.unusedSimpArgs false

set_option maxRecDepth 100000 in
set_option maxHeartbeats 1000000 in
theorem wrong10_law (seed : ByteArray) (l : List Fd.Turn) (A : Option Addr) (n c : Nat) (cut : Int) (w : World) (hsz : seed.size ≤ maxLen) (hn : n = l.length) (hn63 : n ≤ maxLen) (hl : Lies w w.heap.size 25 A n (l.flatMap Fd.Turn.cells)) (hty : ∀ q ∈ l, q.ty) :
    Calls Tryz.prog 5 #[.string seed, .slice A n c, .int .i64 cut] w fun e w' => e = .returned (.bool true) ∧ Below w.heap.size w w' := by
  by_cases h20 : seed.size ≤ 20
  · have hs : (seed.size : Int) ≤ 20 := by omega
    by_cases hhi : n ≤ 60
    · have hn1 : (n : Int) ≤ 60 := by omega
      by_cases hlo : 2 ≤ n
      · exact wrong10_main seed l A n c cut w h20 hn hhi hlo hl hty
      have hn2 : (n : Int) < 2 := by omega
      have ct := fun X => Lib.hid (told10_any X)
      clear hl hty hn hsz hn63
      go_enter Tryz.func5, Tryz.ntmps5
      go_wp2_with (go_at_call 11; ((with_reducible refine ((ct _).out).mono ?_); rintro e w1 ⟨rfl, hb⟩))
      go_ret
      exact ⟨rfl, hb⟩
    · have hn1 : ¬ (n : Int) ≤ 60 := by omega
      have ct := fun X => Lib.hid (told10_any X)
      clear hl hty hn hsz hn63
      go_enter Tryz.func5, Tryz.ntmps5
      go_wp2_with (go_at_call 11; ((with_reducible refine ((ct _).out).mono ?_); rintro e w1 ⟨rfl, hb⟩))
      go_ret
      exact ⟨rfl, hb⟩
  · have hs : ¬ (seed.size : Int) ≤ 20 := by omega
    have ct := fun X => Lib.hid (told10_any X)
    clear hl hty hn hsz hn63
    go_enter Tryz.func5, Tryz.ntmps5
    go_wp2_with (go_at_call 11; ((with_reducible refine ((ct _).out).mono ?_); rintro e w1 ⟨rfl, hb⟩))
    go_ret
    exact ⟨rfl, hb⟩
end Go.Proofs.YtiahpncglpfjeaaGreat
