/-
Several texts in one: Ta Tk Tf Ek Tl Pw Pq Fro Frol.
-/
import Derived.Test.YtiahpncglpfjeaaGreatFq15
import Derived.Laws.FloatArith
import Derived.Test.YtiahpncglpfjeaaGreatRows
import Derived.WalkKit
import Derived.WalkSpells
import Derived.WalkLawsBesides
import Derived.Laws.Externs
import Derived.Laws.BitsAllLaws
import Derived.Lib.Hide
import Derived.LoopTactic
import Derived.Deep.QuietTactic
import Derived.BigQuiet
import Derived.Outline
import Derived.Laws.OwnMore
import Derived.Deep.Draws
import Derived.Laws.Rows
import Derived.Deep.MidRow
import Derived.Maps.AppendAt
import Derived.RowKit
import Derived.Laws.StructEq
import Derived.Deep.WholeRow
import Derived.Orders
import Derived.Tactics
import Derived.Tactics2
import Derived.KernelRfl
import Derived.StillTail
import Derived.Below
import Derived.RangeFuncNested
import Derived.RangeFuncBound
import Derived.RangeFuncCalls
import Derived.RangeFuncLeaves
import Derived.Shelf.Abstract
import Derived.Shelf.RegionOpen
import Derived.ChangeKeysEq
import Derived.Deep.CutRange
import Derived.Deep.CutBlock
import Derived.Deep.DeepCutAuto
import Derived.Deep.LoopGhost
import Derived.OwnWalkIn
import Derived.TacticsInMore
import Derived.LoopNIn
import Derived.LoopIn
import Derived.Laws.CopyOwn
import Derived.Laws.MakeOwn
import Derived.Laws.EntriesVeiled
import Derived.Laws.IdiomStrings
import Derived.OneCell
import Derived.Deep.RegionWith
import Derived.Deep.DrawnRows
import Derived.BigRegion
import Derived.OrdersIn
import Derived.Defers
import Derived.Recover
import GoSem.Claim
import Derived.ChangeShapes
import Derived.ProofKit
import Derived.OpenShut
import Derived.Carry
import Derived.Lib.SmallJoins
import Derived.ChangeOld
import Derived.ChangeArms
import Derived.Laws.BytesArg
import Derived.Great.BuildSlice
import Derived.Lib.Bytes
namespace Ros
open Go

theorem maskSt_snoc (r : R) (l : List Sl) (x : Sl) : maskSt r (l ++ [x]) = maskStep r (maskSt r l) x := by
  unfold maskSt; rw [List.foldl_append]; rfl
end Ros
namespace Go.Proofs.YtiahpncglpfjeaaGreat
open Go.RowKit
set_option linter.unusedVariables false

theorem seats_in (r : Ros.R) (w : World) : (Op.equalIn 9999 31 (.agg (Ros.seatCells r).toArray) (.agg (Ros.seatCells r).toArray)).run Tryz.prog w = .ok true w := by
  cases hq : Tryz.prog.info? 30 with
  | none => have := seat2_info; simp [hq] at this
  | some j =>
    have hs : Tryz.prog.cellsOf 30 = 2 := by kernel_rfl
    rw [run_equalIn_array w 9998 _ _ Tryz.underlying31 hq, hs]
    rw [run_eqItems_all w 9998 _ 2 _ _ (fun i => .agg (Ros.pair r i).toArray) (fun i => .agg (Ros.pair r i).toArray) (fun _ => true) (List.range 8)
      (fun i hi => ⟨seat_part r i (by simpa using hi) w, seat_part r i (by simpa using hi) w, by rw [show (Ros.pair r i).toArray = #[.int .i64 (r.peer i), .int .i64 (r.gen i)] from rfl, seat_in]; simp⟩)]
    rfl
end Go.Proofs.YtiahpncglpfjeaaGreat
namespace Go.Proofs.YtiahpncglpfjeaaGreat
open Go.RowKit Go.Shelf
set_option linter.unusedVariables false
set_option linter.unusedSimpArgs false
attribute [local go_sem] Oper.semAt_some
theorem orr_nat (a b : Nat) (ha : a < 9223372036854775808) (hb : b < 9223372036854775808) : bits .or .i64 (a : Int) (b : Int) = ((a ||| b : Nat) : Int) := by
  have hx : a ||| b < 2 ^ 63 := Nat.or_lt_two_pow (by omega) (by omega)
  show IntKind.i64.wrap ((BitVec.ofInt 64 (a : Int) ||| BitVec.ofInt 64 (b : Int)).toNat : Int) = _
  rw [BitVec.toNat_or, BitVec.toNat_ofInt, BitVec.toNat_ofInt, IntKind.wrap_i64]
  rw [show ((a : Int) % ((2 ^ 64 : Nat) : Int)).toNat = a from by omega, show ((b : Int) % ((2 ^ 64 : Nat) : Int)).toNat = b from by omega]
  omega
theorem shl_one (k : Nat) (hk : k < 8) : IntKind.i64.wrap ((2 : Int) ^ k) = ((2 ^ k : Nat) : Int) := by
  match k, hk with
  | 0, _ | 1, _ | 2, _ | 3, _ | 4, _ | 5, _ | 6, _ | 7, _ => rfl
theorem Ros.mask_bd (r : Ros.R) : ∀ l : List Ros.Sl, Ros.maskSt r l < 256 := by
  intro l
  unfold Ros.maskSt
  suffices h : ∀ (l : List Ros.Sl) (m : Nat), m < 256 → l.foldl (Ros.maskStep r) m < 256 from h l 0 (by decide)
  intro l
  induction l with
  | nil => exact fun m hm => hm
  | cons x l ih =>
    intro m hm
    refine ih _ ?_
    unfold Ros.maskStep
    split
    · exact hm
    · have hx : 2 ^ x.1 < 2 ^ 8 := Nat.pow_lt_pow_right (by omega) x.2
      exact Nat.or_lt_two_pow (n := 8) hm hx

section
variable {B Bg Bf Bl : Nat} {w0 W W' : World} {r : Ros.R} {st : Int × Int}
end

section
variable {B Bg Bm m : Nat} {w0 W W' : World} {r : Ros.R}
end

set_option maxRecDepth 100000 in
set_option maxHeartbeats 4000000 in
theorem rosmask_any (r : Ros.R) (w : World) :
    Calls Tryz.prog 25 #[.agg (Ros.cells r)] w fun e w' => e = .returned (.int .i64 (Ros.mask r)) ∧ Below w.heap.size w w' := by
  have cm := fun X => Lib.hid (rosmay_any r X)
  have P0 := Lib.hid (Box.made w 33 (Ros.cells r))
  have PB := Lib.hid (one_below w (.cells (Ros.cells r) 33))
  have hfree : Hid (Ros.mask r = if Ros.Ok r then Ros.maskSt r Ros.all8 else 0) := Lib.hid rfl
  by_cases hok : Ros.Ok r
  · have hmay : Ros.may r = true := decide_eq_true hok
    rw [hmay] at cm
    have HIF := Lib.hid (hfree.out.trans (if_pos hok))
    clear hfree hok hmay
    refine (callsIn_wide (n := 10)).1 (callsIn_of_wp_marks Tryz.func25 rfl trivial (wpIn_wide.2 ?_) rfl)
    simp only [Tryz.ntmps25, List.size_toArray, List.length_cons, List.length_nil, Nat.reduceAdd, Nat.reduceSub, Array.replicate_succ, Array.replicate_zero, List.push_toArray, List.append_toArray, List.nil_append, List.cons_append]
    go_upto_block 0 with (first | ((with_reducible refine ros_load rfl rfl ?_); apply LoadRow.mk rfl; (focus (with_reducible exact P0.out)); (focus (exact ros_info))) | (go_at_call 54; ((with_reducible refine ((cm _).out).mono ?_); rintro e w1 ⟨rfl, hb1⟩; have Q0 := Lib.hid (P0.out.below hb1 P0.out.lt); have QB := Lib.hid (PB.out.trans (hb1.mono PB.out.size)); clear hb1)) | (go_at_call 55; ((with_reducible refine (seats_any _ _).mono ?_); rintro e w3 ⟨rfl, rfl⟩)))
    have M0 : Masking w.heap.size (w1.heap.size + 1) w1.heap.size w r (Ros.maskSt r []) ((w1.alloc (.cells #[.int .i64 0] 3)).alloc (.cells #[.pointer (some ⟨w.heap.size, 0, none⟩)] 95)) :=
      ⟨⟨(Q0.out.alloc _).alloc _, Box.made_at _ _ _ (by simp), (QB.out.alloc QB.out.size _).alloc (Nat.le_trans QB.out.size (by simp)) _⟩, (Box.made w1 _ _).alloc _⟩
    have sz := QB.out.size
    generalize hW0 : ((w1.alloc (.cells #[.int .i64 0] 3)).alloc (.cells #[.pointer (some ⟨w.heap.size, 0, none⟩)] 95)) = W0 at M0 ⊢
    generalize w1.heap.size = Bm at *
    have MM0 := Lib.hid M0
    have hs0 : Sitting w.heap.size (Bm + 1) W0 := M0.sit.sit.cell 0
    clear hW0 M0 P0 PB Q0 QB cm
    refine (wpIn_wide (n := 10)).1 ?_
    refine wpIn_block ?_
    refine' wpIn_rangeFunc_ownF (n := 10) (w := W0) rfl (by omega) (gf := 93) (lb := #[.pointer (some ⟨Bm + 1, 0, none⟩)]) rfl trivial (enters_of Tryz.func93 (by kernel_rfl) rfl)
      (seats1_stops (w.heap.size) (Bm + 1) _ W0 hs0) sitkp_t (sitkp_b (n := W0.heap.size)) (Below.refl _ _) (fun _ => rfl)
      (fun pre W => Masking w.heap.size (Bm + 1) Bm w r (Ros.maskSt r pre) W)
      (fun c pre W => False)
      (fun pre W W' row h hgr hr => h.turned hgr (fun r e => ⟨Nat.le_trans MM0.out.sit.below.size (hr r e).1, (hr r e).2⟩))
      (fun c pre W W' row h hgr hr => h)
      MM0.out _ ?assign ?body ?done ?stop
    case assign =>
      intro l x W K hK
      gi_wp2
      exact hK
    case body =>
      rintro l pre ⟨k, hk⟩ V hM hlen
      dsimp only
      have hk8 : (k : Int) < 8 := by omega
      have hsn := Ros.maskSt_snoc r pre ⟨k, hk⟩
      have hbd := Ros.mask_bd r pre
      obtain ⟨m, hst⟩ : ∃ m, m = Ros.maskSt r pre := ⟨_, rfl⟩
      rw [← hst] at hM hsn hbd
      have y0 := Ros.cells_peer r k hk
      have z0 := (hM.sit.ros.cell _).trans y0
      have hstep : Ros.maskStep r m ⟨k, hk⟩ = if r.peer k = -1 then m else m ||| 2 ^ k := rfl
      rw [hstep] at hsn
      clear hstep
      obtain ⟨pk, hpk⟩ : ∃ pk, r.peer k = pk := ⟨_, rfl⟩
      rw [hpk] at z0 hsn
      have hor := orr_nat m (2 ^ k) (by omega) (by have : 2 ^ k < 2 ^ 8 := Nat.pow_lt_pow_right (by omega) hk; omega)
      have hsh := shl_one k hk
      have HM := Lib.hid hM
      clear hM hpk y0 hlen hst hbd
      by_cases hp : pk = -1
      · subst hp
        rw [if_pos rfl] at hsn
        have HSN := Lib.hid hsn
        clear hsn hor hsh
        gi_wp2
        refine ⟨KeepsOthers.refl _, fun hf => hf, ?_⟩
        show Masking _ _ _ _ _ (Ros.maskSt r (pre ++ [⟨k, hk⟩])) _
        rw [HSN.out]
        exact HM.out
      · have hb : (pk != -1) = true := by simpa using hp
        rw [if_neg hp] at hsn
        have HSN := Lib.hid hsn
        clear hsn
        gi_wp2
        rw [← hsh] at hor
        have HOR := Lib.hid hor
        clear hor hsh
        refine Rt.region_lex (by kernel_rfl) (by kernel_rfl) [] (by kernel_rfl) (by rintro ⟨_, _, h⟩; exact h)
          (fun Z => Masking w.heap.size (Bm + 1) Bm w r m Z ∧ KeepsOthers V Z) (fun Z => Box Z Bm 3 #[.int .i64 (m : Int)]) (fun _ => True) ⟨HM.out.drew, KeepsOthers.drew _⟩ (fun Z hZ => ⟨hZ.1.bits, trivial⟩) ?_
        repeat (first
          | (apply Rp.lex_free rfl rfl; focus (intro _; go_simp; first | done | rfl))
          | (apply Rp.lex_look rfl rfl rfl rfl; focus (intro Z hZ; have u1 := hZ.cell; clear hZ; go_simp; first | done | rfl)))
        refine Rp.lex_store rfl rfl (C' := fun Z => Masking w.heap.size (Bm + 1) Bm w r (m ||| 2 ^ k) Z ∧ KeepsOthers V Z) (D' := fun _ => True) (fun Z hZ => ⟨_, ?_, hZ.1.put sz (m ||| 2 ^ k), hZ.2.trans (KeepsOthers.setCell _ _ _)⟩) (fun Z hZ => ⟨trivial, trivial⟩) ?_
        focus
          have u1 := hZ.1.bits.cell
          have u2 := hZ.1.bits.free
          clear hZ
          rw [← HOR.out]
          go_simp
          first | done | rfl
        refine Rp.lex_end fun Z hZ => ?_
        refine ⟨hZ.2, fun _ => hZ.1.sit.sit.cell 0, ?_⟩
        show Masking _ _ _ _ _ (Ros.maskSt r (pre ++ [⟨k, hk⟩])) Z
        rw [HSN.out]
        exact hZ.1
    case done =>
      rintro D xs V hD rfl hM hK
      have hDw : w.heap.size ≤ D := Nat.le_trans MM0.out.sit.below.size hD
      have hT2 := Lib.hid (Below.turned hM.sit.below (Nat.le_refl _) (grownBy_putObj' _ D (.deferred none)) (fun r e => by cases e; exact hDw))
      have u4 := hM.bits.cell
      have HK := Lib.hid hK
      generalize Ros.maskSt r Ros.all8 = F at *
      clear hM hK
      go_wp2
      refine ⟨by simp, .inl ⟨_, _, rfl, run_takeDeferred HK.out, ?_⟩⟩
      refine ⟨.int .i64 F, ?_, by rw [HIF.out], hT2.out⟩
      simp [results, Tryz.f25, go_sem]
    case stop =>
      rintro D c' pre V hD _ hf hK
      exact hf.elim

  · have hmay : Ros.may r = false := decide_eq_false hok
    rw [hmay] at cm
    have HIF := Lib.hid (hfree.out.trans (if_neg hok))
    clear hfree hok hmay
    go_enter Tryz.func25, Tryz.ntmps25
    go_wp2_with (first | ((with_reducible refine ros_load rfl rfl ?_); apply LoadRow.mk rfl; (focus (with_reducible exact P0.out)); (focus (exact ros_info))) | (go_at_call 54; ((with_reducible refine ((cm _).out).mono ?_); rintro e w1 ⟨rfl, hb1⟩; have Q0 := Lib.hid (P0.out.below hb1 P0.out.lt); have QB := Lib.hid (PB.out.trans (hb1.mono PB.out.size)); clear hb1)))
    go_ret
    exact ⟨by rw [HIF.out]; rfl, QB.out⟩
end Go.Proofs.YtiahpncglpfjeaaGreat
namespace Go.Proofs.YtiahpncglpfjeaaGreat
open Go.RowKit Go.Shelf
set_option linter.unusedVariables false
set_option linter.unusedSimpArgs false

section
variable {ops : Array Oper} {rest : List Oper} {o : Oper} {a : Act} {w : World} {Q : Exit → Act → World → Prop} {x : Operand} {dst : Option Tmp} {v : Value}
end
namespace En
def e7 : En.E := ⟨7, [], En.in0⟩
end En
end Go.Proofs.YtiahpncglpfjeaaGreat
namespace Go.Proofs.YtiahpncglpfjeaaGreat
open Go.RowKit
set_option linter.unusedVariables false

/-- The call, its tuple, the struct, the code, x's block, the struct in it. -/
def madeV (t : TypeId) (cs : Array Value) (code : Int) (b : Nat) (k : Nat) (vm : Nat → Value) (w : World) : Prop :=
  match k with
  | 0 => vm 0 = .tuple #[.agg cs, .int .i64 code]
  | 1 => vm 1 = .tuple #[.agg cs, .int .i64 code]
  | 2 => vm 2 = .agg cs
  | 3 => vm 3 = .int .i64 code
  | 4 => ∃ B old, vm 4 = .pointer (some ⟨B, 0, none⟩) ∧ b ≤ B ∧ Box w B t old ∧ old.size = cs.size
  | _ => ∃ B, vm 4 = .pointer (some ⟨B, 0, none⟩) ∧ b ≤ B ∧ Box w B t cs
section
variable {t : TypeId} {cs : Array Value} {code : Int} {b k : Nat} {vm vm' : Nat → Value} {w w' : World}
theorem madeV_below (h : madeV t cs code b k vm w) (hb : Below w.heap.size w w') : madeV t cs code b k vm w' := by
  match k, h with
  | 0, h => exact h
  | 1, h => exact h
  | 2, h => exact h
  | 3, h => exact h
  | 4, ⟨B, old, e, hb', hB, hs⟩ => exact ⟨B, old, e, hb', hB.below hb hB.lt, hs⟩
  | k + 5, ⟨B, e, hb', hB⟩ => exact ⟨B, e, hb', hB.below hb hB.lt⟩
theorem madeV_row {B : Nat} {old : Array Value} (h : madeV t cs code b k vm w) (hk : k < 5) (h4 : vm 4 = .pointer (some ⟨B, 0, none⟩)) (hB : Box w B t old) : madeV t cs code b k vm (w.setRow B cs) := by
  match k, h with
  | 0, h => exact h
  | 1, h => exact h
  | 2, h => exact h
  | 3, h => exact h
  | 4, ⟨B', old', e, hb', hB', hs⟩ =>
    have eb : B' = B := by rw [e] at h4; injection h4 with h4; injection h4 with h4; injection h4
    subst eb
    exact ⟨B', cs, e, hb', hB'.row _, rfl⟩
theorem madeV_congr (h : madeV t cs code b k vm w) (hk : k < 6) (h0 : vm k = vm' k) (h4 : k = 5 → vm 4 = vm' 4) : madeV t cs code b k vm' w := by
  match k, hk, h with
  | 0, _, h => exact h0.symm.trans h
  | 1, _, h => exact h0.symm.trans h
  | 2, _, h => exact h0.symm.trans h
  | 3, _, h => exact h0.symm.trans h
  | 4, _, ⟨B, old, e, hb', hB, hs⟩ => exact ⟨B, old, h0 ▸ e, hb', hB, hs⟩
  | 5, _, ⟨B, e, hb', hB⟩ => exact ⟨B, (h4 rfl) ▸ e, hb', hB⟩
end
end Go.Proofs.YtiahpncglpfjeaaGreat
set_option linter.unusedVariables false
set_option linter.unusedSimpArgs false
namespace Go.Proofs.YtiahpncglpfjeaaGreat
open Go Go.RowKit Go.Shelf
namespace Fd

/-- An entry of a log that goes through goes through. -/
theorem run_drop {s u : S} {log : List En.S} {k : Nat} (hk : k < log.length) (h : Fd.run s ((log.drop k).map (·.e)) = some u) : ∃ v, Fd.apply s log[k].e = some v ∧ Fd.run v ((log.drop (k + 1)).map (·.e)) = some u := by
  rw [List.drop_eq_getElem_cons hk, List.map_cons, run_cons] at h
  cases hv : Fd.apply s log[k].e with
  | none => rw [hv] at h; cases h
  | some v => rw [hv, Option.bind_some] at h; exact ⟨v, rfl, h⟩
theorem changes_drop {s t : S} {evs : List En.Ev} {k : Nat} (hk : k < evs.length) (h : Fd.changes s (evs.drop k) = some t) : MayEv s evs[k] ∧ Fd.changes (after s evs[k]) (evs.drop (k + 1)) = some t := by
  rw [List.drop_eq_getElem_cons hk, changes_cons] at h
  by_cases hv : MayEv s evs[k]
  · rw [change_yes hv, Option.bind_some] at h; exact ⟨hv, h⟩
  · rw [change_no hv] at h; cases h
end Fd
theorem Ros.maskN_next (r : Ros.R) (k : Nat) (hk : k < 8) : Ros.maskSt r (Ros.all8.take (k + 1)) = if r.peer k = -1 then Ros.maskSt r (Ros.all8.take k) else Ros.maskSt r (Ros.all8.take k) ||| 2 ^ k := by
  have e : Ros.all8.take (k + 1) = Ros.all8.take k ++ [⟨k, hk⟩] := by
    match k, hk with
    | 0, _ | 1, _ | 2, _ | 3, _ | 4, _ | 5, _ | 6, _ | 7, _ => rfl
  rw [e, Ros.maskSt_snoc]; rfl
theorem Ros.maskN_all (r : Ros.R) (h : Ros.Ok r) : Ros.maskSt r (Ros.all8.take 8) = Ros.mask r := by
  unfold Ros.mask; rw [if_pos h]; rfl
end Go.Proofs.YtiahpncglpfjeaaGreat
namespace Go.Proofs.YtiahpncglpfjeaaGreat
open Go Go.RowKit Go.Shelf
set_option linter.unusedVariables false
set_option linter.unusedSimpArgs false

theorem im_load_game_g {ops : Array Oper} {rest : List Oper} {o : Oper} {a : Act} {w : World} {Q : Exit → Act → World → Prop} {x : Operand} (hw : Region.wanted o (yielded ops a.tmps) = true) (ho : o.op = .load 28 x) (h : LoadIm ops Q rest o.dst (a.eval x) 0 (fun g s _ => Gm.cells g s) a w) : wpList Tryz.prog ops Q (o :: rest) a w := by
  obtain ⟨B, g, s, r, hx, hB, h⟩ := h
  refine wpList_load_part_g hw ho hx hB (Gm.cells g s).toList (fun j v hv => ?_) Tryz.underlying28 rfl game_info h
  have hj : j < 59 := (List.getElem?_eq_some_iff.1 hv).1
  rw [Nat.zero_add, Im.cells_g _ _ _ j hj]
  simpa using hv
set_option maxRecDepth 100000 in
set_option maxHeartbeats 2000000 in
theorem ros_neq_self (r : Ros.R) (w : World) : (binOp .neq 33 (.agg (Ros.cells r)) (.agg (Ros.cells r))).run Tryz.prog w = .ok (.bool false) w := by
  have hs := seats_in r
  simp only [Ros.cells, Ros.seatCells, Ros.pair, List.cons_append, List.nil_append] at hs ⊢
  generalize r.version = v
  generalize r.peer 0 = p0 at *
  generalize r.peer 1 = p1 at *
  generalize r.peer 2 = p2 at *
  generalize r.peer 3 = p3 at *
  generalize r.peer 4 = p4 at *
  generalize r.peer 5 = p5 at *
  generalize r.peer 6 = p6 at *
  generalize r.peer 7 = p7 at *
  generalize r.gen 0 = g0 at *
  generalize r.gen 1 = g1 at *
  generalize r.gen 2 = g2 at *
  generalize r.gen 3 = g3 at *
  generalize r.gen 4 = g4 at *
  generalize r.gen 5 = g5 at *
  generalize r.gen 6 = g6 at *
  generalize r.gen 7 = g7 at *
  go_simp
theorem rosapply_may (s : Fd.S) (v : En.Ev) (w : World) (hv : Fd.MayEv s v) :
    Calls Tryz.prog 23 #[.agg (Ros.cells s.r), .agg #[.int .i64 v.kind, .int .i64 v.slot, .int .i64 v.gen, .int .i64 v.peer]] w fun e w' => e = .returned (.tuple #[.agg (Ros.cells (Fd.after s v).r), .int .i64 0]) ∧ Below w.heap.size w w' := by
  rcases hv with ⟨hk, ht, hg⟩ | ⟨hk, ht, hp, hg⟩
  · obtain ⟨k, hk8, e, e', hpk, ht', hp0⟩ := Fd.take_on ht
    unfold Fd.after
    rw [if_pos hk, e', hk, e]
    exact rosapply_join_yes s.r k v.gen v.peer w ht' (by rw [hg, e'])
  · obtain ⟨k, hk8, e, e', hpk, ht'⟩ := Fd.give_on ht
    unfold Fd.after
    rw [if_neg (by omega), e', hk, e]
    exact rosapply_leave_yes s.r k w ht' v.gen v.peer (by rw [← hp, e']) (by rw [← hg, e'])
/-- What lies there while a log is gone through: the state behind its first entries, and what is left. -/
structure Rg10 (W1 : World) (p : Nat) (log : List En.S) (u : Fd.S) (k : Nat) (s : Fd.S) (A : Option Addr) (c : Nat) (W : World) : Prop where
  st : Box W p 35 (Im.cells s.g (.slice A s.g.shots.length c) s.r)
  sh : Lies W W.heap.size 6 A s.g.shots.length (Gm.shotCells s.g.shots)
  fine : Fd.Fine s
  run : Fd.run s ((log.drop k).map (·.e)) = some u
  below : Below W1.heap.size W1 W
  far : W1.heap.size ≤ p
theorem Rg10.call {W1 W W' : World} {p : Nat} {log : List En.S} {u : Fd.S} {k : Nat} {s : Fd.S} {A : Option Addr} {c : Nat} (h : Rg10 W1 p log u k s A c W) (hb : Below W.heap.size W W') : Rg10 W1 p log u k s A c W' :=
  ⟨h.st.below hb h.st.lt, h.sh.call hb, h.fine, h.run, h.below.trans (hb.mono h.below.size), h.far⟩
theorem Rg10.ros_row {W1 W : World} {p pr : Nat} {log : List En.S} {u : Fd.S} {k : Nat} {s : Fd.S} {A : Option Addr} {c : Nat} {r : Ros.R} (h : Rg10 W1 p log u k s A c W) (hB : Box W pr 33 (Ros.cells r)) (hw : W1.heap.size ≤ pr) (cs : Array Value) : Rg10 W1 p log u k s A c (W.setRow pr cs) := by
  refine ⟨h.st.row_far (Box.apart h.st hB (by decide)) cs, ⟨h.sh.len, fun hn => by obtain ⟨ad, e, hb⟩ := h.sh.start hn; exact ⟨ad, e, by rw [setRow_size]; exact hb⟩, fun ad e0 h0 j u hu => ?_⟩, h.fine, h.run, Below.setRow' h.below hw _, h.far⟩
  have hne : ad.block ≠ pr := fun eb => by
    have hlt : 0 < s.g.shots.length := by omega
    have e1 := h.sh.cell ad e0 h0 1 (.int .i32 s.g.shots[0].x) (by have := Gm.shotCells_at s.g.shots 0 1 hlt (by omega); simpa [Gm.Shot.cells] using this)
    rw [show ad.add 1 = ⟨ad.block, ad.off + 1, none⟩ from rfl, eb, hB.cell] at e1
    have hm : Value.int .i32 s.g.shots[0].x ∈ (Ros.cells r).toList := by
      have := Array.mem_of_getElem? e1
      simpa using this
    obtain ⟨n, hn⟩ := Ros.cells_ints r _ hm
    cases hn
  rw [World.cell?_of_block (w := W) (by rw [add_block]; exact setRow_other W pr _ cs hne)]
  exact h.sh.cell ad e0 h0 j u hu
end Go.Proofs.YtiahpncglpfjeaaGreat
namespace Go.Proofs.YtiahpncglpfjeaaGreat
open Go Go.RowKit Go.Shelf
set_option linter.unusedVariables false
set_option linter.unusedSimpArgs false

set_option maxRecDepth 100000 in
set_option maxHeartbeats 2000000 in
theorem rosters10_main (seed : ByteArray) (l : List Fd.Turn) (A : Option Addr) (n c : Nat) (w : World) (hsz : seed.size ≤ 20) (hn : n = l.length) (hn80 : n ≤ 80) (hl : Lies w w.heap.size 25 A n (l.flatMap Fd.Turn.cells)) (hty : ∀ q ∈ l, q.ty) :
    Calls Tryz.prog 6 #[.string seed, .slice A n c] w fun e w' => e = .returned (.bool true) ∧ Below w.heap.size w w' := by
  have h63 : seed.size ≤ maxLen := by unfold maxLen; omega
  have hs20 : (seed.size : Int) ≤ 20 := by omega
  have hn1 : (n : Int) ≤ 80 := by omega
  have cm := Lib.hid (make_any seed l A n c _ w h63 rfl hn (by omega) hl hty)
  have hd := Dn.seed_bd seed.data.toList
  have cs := fun X => Lib.hid (foldstart_any seed X h63)
  have ct := fun X => Lib.hid (told10_any X)
  generalize Dn.seed seed.data.toList = d at cm hd cs
  have FN := Lib.hid (Fd.start_fine hd)
  clear hd hl hty hn
  go_enter Tryz.func6, Tryz.ntmps6
  go_upto_region 4 with (go_at_call 18; ((with_reducible refine ((cm).out).mono ?_); rintro x w1 ⟨A1, c1, log, u, rfl, hL, hT, hrun, hlen, hb, hcap⟩; have L1 := Lib.hid hL; have T1 := Lib.hid hT; have RU := Lib.hid hrun; have K1 := Lib.hid hb; have LE := Lib.hid hlen; clear hL hT hrun hb hcap hlen))
  obtain ⟨m, hm⟩ : ∃ m, m = log.length := ⟨_, rfl⟩
  have HM := Lib.hid hm
  rw [← hm]
  have hm80 : m ≤ 80 := by have := LE.out; omega
  clear hm
  have hll := Lib.hid (show LiesS w1 w1.heap.size A1 m log from HM.out ▸ L1.out)
  go_upto_region 5 with (first | (with_reducible refine alloc_state rfl rfl ?_) | (with_reducible refine im_store_new rfl rfl rfl rfl Im.zero_size rfl ?_) | (go_at_call 20; ((with_reducible refine ((cs _).out).mono ?_); rintro x w2 ⟨rfl, hb⟩; have S2 := Lib.hid (Box.made w2 35 (Im.cells (Gm.new d) (.slice none 0 0) Ros.new)); have K2 := Lib.hid (hb.alloc hb.size (.cells (Im.cells (Gm.new d) (.slice none 0 0) Ros.new) 35)); have sz2 := hb.size; clear hb)))
  generalize hW2 : w2.alloc (.cells (Im.cells (Gm.new d) (.slice none 0 0) Ros.new) 35) = W2 at S2 K2 ⊢
  generalize w2.heap.size = p at S2 sz2 ⊢
  clear hW2 cm cs
  have R2 := Lib.hid (show Rg10 w1 p log u 0 (Fd.start d) none 0 W2 from ⟨S2.out, ⟨rfl, fun h => absurd rfl h, fun _ _ h => absurd rfl h⟩, FN.out, RU.out, K2.out, sz2⟩)
  clear S2 K2 sz2
  go_wp2
  go_loopw [7, 8, 9, 10, 11, 12, 13, 14, 15] (fun i _ _ _ _ _ _ _ _ wr => ∃ (k : Nat) (s : Fd.S) (A' : Option Addr) (c' : Nat), k ≤ m ∧ i = .int .i64 k ∧ Rg10 w1 p log u k s A' c' wr) (fun i _ _ _ _ _ _ _ _ _ => m - (intOf i).toNat)
  case atStart => exact ⟨0, Fd.start d, none, 0, Nat.zero_le _, rfl, R2.out⟩
  case round =>
    obtain ⟨k, s, A', c', hk, rfl, hR⟩ := hrel
    rename World => w0
    clear R2
    have RR := Lib.hid hR
    clear hR
    by_cases hlt : k < m
    · have hk8 : (k : Int) < m := by omega
      have hkl : k < log.length := by have := HM.out; omega
      obtain ⟨ad, hA1, hblk, hrow⟩ := hll.out.at k hkl
      subst hA1
      obtain ⟨v, hv1, hv2⟩ := Fd.run_drop hkl RR.out.run
      have hTq := T1.out log[k] (List.getElem_mem hkl)
      have hEq := hll.out.each log[k] (List.getElem_mem hkl)
      have hFq := hll.out.few log[k] (List.getElem_mem hkl)
      generalize log[k] = q at hrow hv1 hTq hEq hFq
      have TQ := Lib.hid hTq
      have EQ := Lib.hid hEq
      have FQ := Lib.hid hFq
      have V1 := Lib.hid hv1
      have V2 := Lib.hid hv2
      have hrw := hrow
      have ROW := Lib.hid (fun (X : World) (hX : Below w1.heap.size w1 X) (j : Nat) (v : Value) (hv : q.cells[j]? = some v) => (hX.cell (p := (ad.add (k * 26)).add j) (by rw [add_block, add_block]; exact hblk)).trans (hrow j v hv))
      have EVS := Lib.hid (fun (X : World) (hX : Below w1.heap.size w1 X) => show X.cell? ⟨(ad.add (k * 26)).block, (ad.add (k * 26)).off + 1, none⟩ = some (.slice q.adr q.e.evs.length q.cap) from (congrArg X.cell? (addr_succ (ad.add (k * 26)) 0).symm).trans (ROW.out X hX 1 _ (show q.cells[1]? = some q.sl from rfl)))
      obtain ⟨hmay, t, hch, hid, rfl⟩ := Fd.apply_some hv1
      have CH := Lib.hid hch
      have C16 := Lib.hid (show q.e.evs.length ≤ 16 from hmay.2.1.count)
      clear hrow hrw hv1 hv2 hTq hEq hFq hid hmay hch
      have P2 := Lib.hid (Box.made w0 33 (Ros.cells s.r))
      have K2 := Lib.hid (one_below w0 (.cells (Ros.cells s.r) 33))
      have G2 := Lib.hid (RR.out.call K2.out)
      go_upto_region 9 with (first | ((with_reducible refine im_load_ros rfl rfl ?_); apply LoadIm.mk rfl; (focus (with_reducible exact RR.out.st)); dsimp only) | (with_reducible refine ros_alloc rfl rfl ?_) | (with_reducible refine ros_store_new rfl rfl rfl rfl rfl ?_))
      generalize hW3 : w0.alloc (.cells (Ros.cells s.r) 33) = W3 at P2 K2 G2 ⊢
      obtain ⟨pr, hpr⟩ : ∃ pr, pr = w0.heap.size := ⟨_, rfl⟩
      rw [← hpr] at P2 ⊢
      have HPR := Lib.hid (show w1.heap.size ≤ pr from by rw [hpr]; exact RR.out.below.size)
      clear hW3 hpr K2 RR
      go_wp2
      go_loopw [9, 10, 11] (fun i _ _ wr => ∃ (j : Nat) (x : Fd.S), j ≤ q.e.evs.length ∧ i = .int .i64 j ∧ Box wr pr 33 (Ros.cells x.r) ∧ Fd.changes x (q.e.evs.drop j) = some t ∧ Rg10 w1 p log u k s A' c' wr) (fun i _ _ _ => q.e.evs.length - (intOf i).toNat)
      case atStart => exact ⟨0, s, Nat.zero_le _, rfl, P2.out, CH.out, G2.out⟩
      case round =>
        obtain ⟨j, x, hj, rfl, hP, hC, hG⟩ := hrel
        have P3 := Lib.hid hP
        have G3 := Lib.hid hG
        have n1 := EVS.out wr hG.below
        have lm := C16.out
        clear P2 G2 hP hG CH
        by_cases hjl : j < q.e.evs.length
        · have hj8 : (j : Int) < q.e.evs.length := by omega
          obtain ⟨hme, hC2⟩ := Fd.changes_drop hjl hC
          obtain ⟨ad2, ha2, hb2⟩ := EQ.out.start (by omega)
          have hev := fun i v (hi : i < 4) (hv : (q.e.evs[j]).cells[i]? = some v) => EQ.out.cell ad2 ha2 (by omega) (j * 4 + i) v (by rw [En.evCells_at q.e.evs j i hjl hi]; exact hv)
          rw [ha2] at n1
          generalize q.e.evs[j] = ev at hme hC2 hev
          have EVX := Lib.hid (fun X (hX : Below wr.heap.size wr X) => (EVS.out X (G3.out.below.trans (hX.mono G3.out.below.size))).trans (by rw [ha2]))
          have RX := Lib.hid (fun X (hX : Below wr.heap.size wr X) => P3.out.below hX P3.out.lt)
          have EX := Lib.hid (fun X (hX : Below wr.heap.size wr X) (i : Nat) (v : Value) (hv : ev.cells[i]? = some v) => ((G3.out.below.trans (hX.mono G3.out.below.size)).cell (p := (ad2.add (j * 4)).add i) (by rw [add_block, add_block]; exact hb2)).trans (show w1.cell? ((ad2.add (j * 4)).add i) = some v by rw [add_twice]; exact hev i v (by have := (List.getElem?_eq_some_iff.1 hv).1; exact this) hv))
          have CA := Lib.hid (fun X => rosapply_may x ev X hme)
          have C2 := Lib.hid hC2
          clear hme hC2 hev hC
          go_upto_region 12 with fail
          refine Rz.wp_region_z (by kernel_rfl) 9 15 (by kernel_rfl) (fun X => Below wr.heap.size wr X) (fun j vm => madeV 33 (Ros.cells (Fd.after x ev).r) 0 wr.heap.size (j - 9) (fun k => vm (9 + k))) ((Below.refl _ _).drew) ?hvd ?_
          case hvd =>
            intro j vm vm' X h1 h2 he hV
            obtain rfl | rfl | rfl | rfl | rfl | rfl : j = 9 ∨ j = 10 ∨ j = 11 ∨ j = 12 ∨ j = 13 ∨ j = 14 := by omega
            · exact madeV_congr hV (by omega) (he 9 (.inl rfl)) (fun h => absurd h (by decide))
            · exact madeV_congr hV (by omega) (he 10 (.inl rfl)) (fun h => absurd h (by decide))
            · exact madeV_congr hV (by omega) (he 11 (.inl rfl)) (fun h => absurd h (by decide))
            · exact madeV_congr hV (by omega) (he 12 (.inl rfl)) (fun h => absurd h (by decide))
            · exact madeV_congr hV (by omega) (he 13 (.inl rfl)) (fun h => absurd h (by decide))
            · exact madeV_congr hV (by omega) (he 14 (.inl rfl)) (fun _ => he 13 (.inr (by kernel_rfl)))
          simp only [List.take_succ_cons, List.take_zero, List.drop_succ_cons, List.drop_zero, Nat.reduceSub]
          apply Rz.head_op; focus (intro W hW; exact exec_load_ros rfl rfl (RX.out W hW))
          apply Rz.head_op; focus (intro W hW; clear hW; go_simp; first | done | rfl)
          apply Rz.head_op; focus (intro W hW; clear hW; go_simp; first | done | rfl)
          apply Rz.head_op; focus (intro W hW; clear hW; go_simp; first | done | rfl)
          apply Rz.head_op; focus (intro W hW; clear hW; go_simp; first | done | rfl)
          apply Rz.head_op; focus (intro W hW; have q0 := EVX.out W hW; clear hW; go_simp; first | done | rfl)
          apply Rz.head_op; focus (intro W hW; clear hW; go_simp; first | done | rfl)
          apply Rz.head_op; focus (intro W hW; clear hW; go_simp; first | done | rfl)
          apply Rz.head_op; focus (intro W hW; refine exec_load_event (ad := ad2.add (j * 4)) ev rfl ?_ (EX.out W hW); clear hW; go_simp; first | done | rfl)
          refine Rz.head_split (fun A => A.tmps.size = 113) (by simp only [Rz.put_size]; rfl) ?_ ?_ ?_
          · intro vm X hX hV
            simp only [Rz.putAll]
            clear hV
            refine gives_call (f := 23) (args := #[.agg (Ros.cells x.r), .agg #[.int .i64 ev.kind, .int .i64 ev.slot, .int .i64 ev.gen, .int .i64 ev.peer]]) ?_ ((CA.out X).mono ?_)
            · go_simp
              first | done | rfl
            · rintro e w' ⟨rfl, hb⟩
              exact ⟨_, rfl, rfl, hX.trans (hb.mono hX.size), fun j _ _ _ h => madeV_below h hb⟩
          · intro A hAs
            refine ⟨?_, ?_, ?_, ?_, ?_, trivial⟩
            · intro vm X hX hV
              have e : vm 9 = .tuple #[.agg (Ros.cells (Fd.after x ev).r), .int .i64 0] := hV 9 (by omega) (by omega) (by kernel_rfl)
              refine gives_val (w' := X) (Rz.exec_move (v := vm 9) rfl ?_) ⟨by simpa [Rz.upd, madeV] using e, hX, fun j _ _ _ h => h⟩
              simp only [Rz.putAll]
              rw [Rz.put_none, Rz.put_other (by decide), Rz.put_other (by decide), Rz.put_other (by decide), Rz.put_other (by decide), Rz.put_same (by rw [hAs]; decide)]
            · intro vm X hX hV
              have e : vm 10 = .tuple #[.agg (Ros.cells (Fd.after x ev).r), .int .i64 0] := hV 10 (by omega) (by omega) (by kernel_rfl)
              refine gives_val (w' := X) (Rz.exec_extract (v := .agg (Ros.cells (Fd.after x ev).r)) (vs := #[.agg (Ros.cells (Fd.after x ev).r), .int .i64 0]) rfl ?_ rfl) ⟨by simp [Rz.upd, madeV], hX, fun j _ _ _ h => h⟩
              simp only [Rz.putAll]
              rw [Rz.put_none, Rz.put_other (by decide), Rz.put_other (by decide), Rz.put_other (by decide), Rz.put_same (by simp only [Rz.put_size, hAs]; decide)]
              exact e
            · intro vm X hX hV
              have e : vm 10 = .tuple #[.agg (Ros.cells (Fd.after x ev).r), .int .i64 0] := hV 10 (by omega) (by omega) (by kernel_rfl)
              refine gives_val (w' := X) (Rz.exec_extract (v := .int .i64 0) (vs := #[.agg (Ros.cells (Fd.after x ev).r), .int .i64 0]) rfl ?_ rfl) ⟨by simp [Rz.upd, madeV], hX, fun j _ _ _ h => h⟩
              simp only [Rz.putAll]
              rw [Rz.put_none, Rz.put_other (by decide), Rz.put_other (by decide), Rz.put_other (by decide), Rz.put_same (by simp only [Rz.put_size, hAs]; decide)]
              exact e
            · intro vm X hX hV
              exact gives_val (exec_alloc_z rfl ros_zero rfl) ⟨⟨_, _, by simp [Rz.upd], hX.size, Box.made _ _ _, rfl⟩, hX.alloc hX.size _, fun j _ _ _ h => madeV_below h (one_below _ _)⟩
            · intro vm X hX hV
              obtain ⟨BX, old, e4, hbB, hB, hs⟩ : ∃ BX old, vm 13 = .pointer (some ⟨BX, 0, none⟩) ∧ wr.heap.size ≤ BX ∧ Box X BX 33 old ∧ old.size = (Ros.cells (Fd.after x ev).r).size := hV 13 (by omega) (by omega) (by kernel_rfl)
              have e2 : vm 11 = .agg (Ros.cells (Fd.after x ev).r) := hV 11 (by omega) (by omega) (by kernel_rfl)
              refine gives_skip (exec_store_blk (B := BX) (cs := Ros.cells (Fd.after x ev).r) rfl ?_ ?_ hB ros_info hs (ros_one _)) ⟨⟨BX, by simpa [Rz.upd] using e4, hbB, hB.row _⟩, Below.setRow' hX hbB _, fun j h1 h2 h3 h => madeV_row h (by omega) e4 hB⟩
              · simp only [Rz.putAll]
                rw [Rz.put_none, Rz.put_same (by simp only [Rz.put_size, hAs]; decide)]
                exact e4
              · simp only [Rz.putAll]
                rw [Rz.put_none, Rz.put_other (by decide), Rz.put_other (by decide), Rz.put_same (by simp only [Rz.put_size, hAs]; decide)]
                exact e2
          · intro vm X hX hV
            obtain ⟨BX, e4, hbB, hBX⟩ : ∃ BX, vm 13 = .pointer (some ⟨BX, 0, none⟩) ∧ wr.heap.size ≤ BX ∧ Box X BX 33 (Ros.cells (Fd.after x ev).r) := hV 14 (by omega) (by omega)
            have e3 : vm 12 = .int .i64 0 := hV 12 (by omega) (by omega)
            clear hV
            simp only [Rz.putAll, Nat.reduceAdd, e4, e3]
            generalize vm 9 = v9
            generalize vm 10 = v10
            generalize vm 11 = v11
            generalize vm 14 = v14
            have P4 := Lib.hid (P3.out.below hX P3.out.lt)
            have N4 := Lib.hid hBX
            have G4 := Lib.hid (G3.out.call hX)
            clear EVX RX EX CA P3 G3 hBX hX e4 e3
            go_upto_region 13 with fail
            have P5 := Lib.hid (P4.out.row (Ros.cells (Fd.after x ev).r))
            have G5 := Lib.hid (G4.out.ros_row P4.out HPR.out (Ros.cells (Fd.after x ev).r))
            go_wp2_with (first | ((with_reducible refine ros_load rfl rfl ?_); apply LoadRow.mk rfl; (focus (with_reducible exact N4.out)); (focus (exact ros_info))) | ((with_reducible refine ros_store rfl rfl ?_); apply StoreRow.mk rfl rfl; (focus (with_reducible exact P4.out)); (focus (exact ros_info)); (focus rfl); (focus (exact ros_one _))))
            go_roundw
            case rel => exact ⟨j + 1, Fd.after x ev, by omega, by go_num, P5.out, C2.out, G5.out⟩
            case measure => simp [intOf]; omega
        · have hj8 : ¬ (j : Int) < q.e.evs.length := by omega
          have hxt : x = t := by
            have e : q.e.evs.drop j = [] := List.drop_eq_nil_of_le (by omega)
            rw [e] at hC
            injection hC
          subst hxt
          clear hC
          go_upto_region 16 with fail
          have HBX := Lib.hid (fun X (hX : Below wr.heap.size wr X) => G3.out.st.below hX G3.out.st.lt)
          have EX := Lib.hid (fun X (hX : Below wr.heap.size wr X) => ROW.out X (G3.out.below.trans (hX.mono G3.out.below.size)))
          have CA := Lib.hid (fun X (hX : Below wr.heap.size wr X) => show Calls Tryz.prog 12 #[.agg (Im.cells s.g (.slice A' s.g.shots.length c') s.r), .agg (En.cells q.e q.sl)] X (SOut (Gm.step q.e.inp x.g) x.r 0 X) from foldapply_some ⟨Gm.step q.e.inp x.g, x.r⟩ s q.e A' q.adr s.g.shots.length c' q.e.evs.length q.cap X G3.out.fine.ty G3.out.fine.few rfl ((G3.out.sh.below hX).wider hX.size) rfl FQ.out ((EQ.out.below (G3.out.below.trans (hX.mono G3.out.below.size))).wider (G3.out.below.trans (hX.mono G3.out.below.size)).size) TQ.out V1.out)
          have FV := Lib.hid (G3.out.fine.apply V1.out).1
          clear n1 lm
          refine Rz.wp_region_z (by kernel_rfl) 5 11 (by kernel_rfl) (fun X => Below wr.heap.size wr X) (fun j vm => stV (Gm.step q.e.inp x.g) x.r 0 wr.heap.size (j - 5) (fun k => vm (5 + k))) ((Below.refl _ _).drew) ?hvd ?_
          case hvd =>
            intro j vm vm' X h1 h2 he hV
            obtain rfl | rfl | rfl | rfl | rfl | rfl : j = 5 ∨ j = 6 ∨ j = 7 ∨ j = 8 ∨ j = 9 ∨ j = 10 := by omega
            · exact stV_congr hV (by omega) (he 5 (.inl rfl)) (fun h => absurd h (by decide))
            · exact stV_congr hV (by omega) (he 6 (.inl rfl)) (fun h => absurd h (by decide))
            · exact stV_congr hV (by omega) (he 7 (.inl rfl)) (fun h => absurd h (by decide))
            · exact stV_congr hV (by omega) (he 8 (.inl rfl)) (fun h => absurd h (by decide))
            · exact stV_congr hV (by omega) (he 9 (.inl rfl)) (fun h => absurd h (by decide))
            · exact stV_congr hV (by omega) (he 10 (.inl rfl)) (fun _ => he 9 (.inr (by kernel_rfl)))
          simp only [List.take_succ_cons, List.take_zero, List.drop_succ_cons, List.drop_zero, Nat.reduceSub]
          apply Rz.head_op; focus (intro W hW; exact exec_load_state rfl rfl (HBX.out W hW))
          apply Rz.head_op; focus (intro W hW; clear hW; go_simp; first | done | rfl)
          apply Rz.head_op; focus (intro W hW; clear hW; go_simp; first | done | rfl)
          apply Rz.head_op; focus (intro W hW; clear hW; go_simp; first | done | rfl)
          apply Rz.head_op; focus (intro W hW; refine exec_load_entry (ad := ad.add (k * 26)) q rfl ?_ (EX.out W hW); clear hW; go_simp; first | done | rfl)
          refine Rz.head_split (fun A => A.tmps.size = 113) (by simp only [Rz.put_size]; rfl) ?_ ?_ ?_
          · intro vm X hX hV
            simp only [Rz.putAll]
            clear hV
            refine gives_call (f := 12) (args := #[.agg (Im.cells s.g (.slice A' s.g.shots.length c') s.r), .agg (En.cells q.e q.sl)]) ?_ ((CA.out X hX).mono ?_)
            · go_simp
              first | done | rfl
            · rintro e w' ⟨A2, c2, rfl, hl, hb⟩
              exact ⟨_, rfl, ⟨A2, c2, by simp [Rz.upd], hl⟩, hX.trans (hb.mono hX.size), fun j _ _ _ h => stV_below h hb⟩
          · intro A hAs
            refine ⟨?_, ?_, ?_, ?_, ?_, trivial⟩
            · intro vm X hX hV
              obtain ⟨A2, c2, e, hl⟩ := stV_0 (hV 5 (by omega) (by omega) (by kernel_rfl))
              refine gives_val (w' := X) (Rz.exec_move (v := vm 5) rfl ?_) ⟨⟨A2, c2, by simpa [Rz.upd] using e, hl⟩, hX, fun j _ _ _ h => h⟩
              simp only [Rz.putAll]
              rw [Rz.put_none, Rz.put_other (by decide), Rz.put_other (by decide), Rz.put_other (by decide), Rz.put_other (by decide), Rz.put_same (by rw [hAs]; decide)]
            · intro vm X hX hV
              obtain ⟨A2, c2, e, hl⟩ := stV_1 (hV 6 (by omega) (by omega) (by kernel_rfl))
              refine gives_val (w' := X) (Rz.exec_extract (v := .agg (Im.cells (Gm.step q.e.inp x.g) (.slice A2 ((Gm.step q.e.inp x.g)).shots.length c2) x.r)) (vs := #[.agg (Im.cells (Gm.step q.e.inp x.g) (.slice A2 ((Gm.step q.e.inp x.g)).shots.length c2) x.r), .int .i64 0]) rfl ?_ rfl) ⟨⟨A2, c2, by simp [Rz.upd], hl⟩, hX, fun j _ _ _ h => h⟩
              simp only [Rz.putAll]
              rw [Rz.put_none, Rz.put_other (by decide), Rz.put_other (by decide), Rz.put_other (by decide), Rz.put_same (by simp only [Rz.put_size, hAs]; decide)]
              exact e
            · intro vm X hX hV
              obtain ⟨A2, c2, e, hl⟩ := stV_1 (hV 6 (by omega) (by omega) (by kernel_rfl))
              refine gives_val (w' := X) (Rz.exec_extract (v := .int .i64 0) (vs := #[.agg (Im.cells (Gm.step q.e.inp x.g) (.slice A2 ((Gm.step q.e.inp x.g)).shots.length c2) x.r), .int .i64 0]) rfl ?_ rfl) ⟨by simp [Rz.upd, stV], hX, fun j _ _ _ h => h⟩
              simp only [Rz.putAll]
              rw [Rz.put_none, Rz.put_other (by decide), Rz.put_other (by decide), Rz.put_other (by decide), Rz.put_same (by simp only [Rz.put_size, hAs]; decide)]
              exact e
            · intro vm X hX hV
              exact gives_val (exec_alloc_z rfl state_zero rfl) ⟨⟨_, Im.G0, none, 0, 0, Im.R0, by simp [Rz.upd], hX.size, Box.made _ _ _⟩, hX.alloc hX.size _, fun j _ _ _ h => stV_below h (one_below _ _)⟩
            · intro vm X hX hV
              obtain ⟨B, g', A', m', c', r', e4, hbB, hB⟩ := stV_4 (hV 9 (by omega) (by omega) (by kernel_rfl))
              obtain ⟨A2, c2, e2, hl⟩ := stV_2 (hV 7 (by omega) (by omega) (by kernel_rfl))
              have e4' : vm 9 = .pointer (some ⟨B, 0, none⟩) := e4
              have e2' : vm 7 = .agg (Im.cells (Gm.step q.e.inp x.g) (.slice A2 ((Gm.step q.e.inp x.g)).shots.length c2) x.r) := e2
              refine gives_skip (exec_store_blk (B := B) (cs := Im.cells (Gm.step q.e.inp x.g) (.slice A2 ((Gm.step q.e.inp x.g)).shots.length c2) x.r) rfl ?_ ?_ hB (by rw [Im.cells_size]; exact state_info) (by rw [Im.cells_size, Im.cells_size]) (state_one rfl)) ⟨⟨B, A2, c2, by simpa [Rz.upd] using e4', hbB, hB.row _, hl.state_row rfl hB _⟩, Below.setRow' hX hbB _, fun j h1 h2 h3 h => stV_row h (by omega) e4 hB⟩
              · simp only [Rz.putAll]
                rw [Rz.put_none, Rz.put_same (by simp only [Rz.put_size, hAs]; decide)]
                exact e4'
              · simp only [Rz.putAll]
                rw [Rz.put_none, Rz.put_other (by decide), Rz.put_other (by decide), Rz.put_same (by simp only [Rz.put_size, hAs]; decide)]
                exact e2'
          · intro vm X hX hV
            obtain ⟨BX, A2, c2, e4, hbB, hBX, hl⟩ := stV_5 (hV 10 (by omega) (by omega))
            have e3 := stV_3 (hV 8 (by omega) (by omega))
            clear hV
            simp only [Nat.reduceAdd] at e4 e3
            simp only [Rz.putAll, Nat.reduceAdd, e4, e3]
            generalize vm 5 = v5
            generalize vm 6 = v6
            generalize vm 7 = v7
            generalize vm 10 = v10
            have P4 := Lib.hid (P3.out.below hX P3.out.lt)
            have N4 := Lib.hid hBX
            have L4 := Lib.hid hl
            have G4 := Lib.hid (G3.out.call hX)
            clear HBX EX CA P3 G3 hBX hX hl e4 e3
            obtain ⟨g, hg⟩ : ∃ g, g = Gm.step q.e.inp x.g := ⟨_, rfl⟩
            rw [← hg] at N4 L4 FV V2 V1
            clear hg
            have cy := fun Y (hY : Below X.heap.size X Y) => Lib.hid ((foldmay_any g x.r A2 g.shots.length c2 Y FV.out.ty (by have := FV.out.few; dsimp only at this; unfold maxLen; omega) rfl ((L4.out.below hY).wider hY.size)).mono (fun r' w' h => show r' = .returned (.bool true) ∧ Below Y.heap.size Y w' by obtain ⟨⟨vv, h1, h2⟩, h3⟩ := h; obtain rfl : vv = true := h2.2 FV.out.ok; exact ⟨h1, h3⟩))
            have cz := fun Y (hY : Below X.heap.size X Y) => Lib.hid (may_yes g A2 g.shots.length c2 Y FV.out.ok.1 rfl ((L4.out.below hY).wider hY.size))
            have k0 := Below.refl X.heap.size X
            have hneq := fun W => ros_neq_self x.r W
            go_upto_region 19 with (first | ((with_reducible refine im_load_ros_g ?_ rfl ?_); (focus first | rfl | (simp [Region.wanted, yielded]; done)); apply LoadIm.mk rfl; (focus (with_reducible exact N4.out)); dsimp only) | ((with_reducible refine ros_load_g ?_ rfl ?_); (focus first | rfl | (simp [Region.wanted, yielded]; done)); apply LoadRow.mk rfl; (focus (with_reducible exact P4.out)); (focus (exact ros_info))) | ((with_reducible refine im_load_state_g ?_ rfl ?_); (focus first | rfl | (simp [Region.wanted, yielded]; done)); apply LoadIm.mk rfl; (focus (with_reducible exact N4.out)); dsimp only) | ((with_reducible refine im_load_game_g ?_ rfl ?_); (focus first | rfl | (simp [Region.wanted, yielded]; done)); apply LoadIm.mk rfl; (focus (with_reducible exact N5.out)); dsimp only) | (go_at_call 14; ((with_reducible refine ((cy _ k0).out).mono ?_); rintro e5 w5 ⟨rfl, hb5⟩; have k5 := k0.trans (hb5.mono k0.size); have N5 := Lib.hid (N4.out.below hb5 N4.out.lt))) | (go_at_call 24; ((with_reducible refine ((cz _ k5).out).mono ?_); rintro e6 w6 ⟨rfl, hb6⟩; have k6 := k5.trans (hb6.mono k5.size))))
            have N6 := Lib.hid (N4.out.below k6 N4.out.lt)
            have L6 := Lib.hid ((L4.out.below k6).wider k6.size)
            have P6 := Lib.hid (P4.out.below k6 P4.out.lt)
            have G6 := Lib.hid (G4.out.call k6)
            clear N4 N5 L4 P4 G4 cy cz k0 k5 k6 hb5 hb6
            have NO := N6.out
            go_wp2
            go_loopw [14, 15] (fun mm i wr => ∃ (j : Nat), j ≤ 8 ∧ i = .int .i64 j ∧ mm = .int .i64 (Ros.maskSt x.r (Ros.all8.take j) : Nat) ∧ wr = w6) (fun _ i _ => 8 - (intOf i).toNat)
            case atStart => exact ⟨0, by omega, rfl, rfl, rfl⟩
            case round =>
              obtain ⟨z, hz, rfl, rfl, rfl⟩ := hrel
              by_cases hz8 : z < 8
              · have hzi : (z : Int) < 8 := by omega
                have hmn := Ros.maskN_next x.r z hz8
                have hbd := Ros.mask_bd x.r (Ros.all8.take z)
                have hon := FV.out.ok.2.2 z hz8
                have hse := Ros.Ok.seat FV.out.ok.2.1 z hz8
                generalize Ros.maskSt x.r (Ros.all8.take z) = M at *
                have c0 := (NO.cell (2 + z * 7)).trans (Im.cells_ship g _ x.r z 0 hz8 (by decide))
                have hor := orr_nat M (2 ^ z) (by omega) (by have : 2 ^ z < 2 ^ 8 := Nat.pow_lt_pow_right (by omega) hz8; omega)
                have hsh := shl_one z hz8
                by_cases hp : x.r.peer z = -1
                · rw [if_pos hp] at hmn
                  have c1 : wr.cell? ⟨BX, 2 + z * 7, none⟩ = some (.bool false) := c0.trans (show some (Value.bool (g.ship z).on) = some (.bool false) by rw [hon, hp]; rfl)
                  have HMN := Lib.hid hmn
                  clear hmn c0 hon hse hor hsh
                  go_wp2
                  go_roundw
                  case rel => exact ⟨z + 1, by omega, by go_num, by rw [HMN.out], trivial⟩
                  case measure => simp [intOf]; omega
                · rw [if_neg hp] at hmn
                  have hp0 : 0 ≤ x.r.peer z := by rcases hse.2 with h | h; exact absurd h hp; exact h.1.1
                  have c1 : wr.cell? ⟨BX, 2 + z * 7, none⟩ = some (.bool true) := c0.trans (show some (Value.bool (g.ship z).on) = some (.bool true) by rw [hon, decide_eq_true hp0])
                  have HMN := Lib.hid hmn
                  have HOR := Lib.hid hor
                  clear hmn c0 hon hse hp0
                  go_wp2
                  go_roundw
                  case rel => exact ⟨z + 1, by omega, by go_num, by rw [HMN.out]; exact congrArg (Value.int .i64) ((congrArg (bits .or .i64 (M : Int)) (show ((2 : Int) ^ z) = ((2 ^ z : Nat) : Int) by push_cast; rfl)).trans HOR.out), trivial⟩
                  case measure => simp [intOf]; omega
              · obtain rfl : z = 8 := by omega
                have HMA := Ros.maskN_all x.r FV.out.ok.2.1
                rw [HMA]
                have cmk := fun Y => Lib.hid (rosmask_any x.r Y)
                generalize Ros.mask x.r = M at *
                go_upto_region 27 with (first | ((with_reducible refine ros_load rfl rfl ?_); apply LoadRow.mk rfl; (focus (with_reducible exact P6.out)); (focus (exact ros_info))) | (go_at_call 25; ((with_reducible refine ((cmk _).out).mono ?_); rintro e7 w7 ⟨rfl, hb7⟩)))
                have N7 := Lib.hid (N6.out.below hb7 N6.out.lt)
                have L7 := Lib.hid (L6.out.call hb7)
                have G7 := Lib.hid (G6.out.call hb7)
                have R8 := Lib.hid (show Rg10 w1 p log u (k + 1) ⟨g, x.r⟩ A2 c2 (w7.setRow p (Im.cells g (.slice A2 g.shots.length c2) x.r)) from ⟨G7.out.st.row _, L7.out.state_row rfl G7.out.st _, FV.out, V2.out, Below.setRow' G7.out.below G7.out.far _, G7.out.far⟩)
                clear N6 L6 P6 G6 hb7 NO
                go_wp2_with (first | ((with_reducible refine im_load_state rfl rfl ?_); apply LoadIm.mk rfl; (focus (with_reducible exact N7.out)); dsimp only) | ((with_reducible refine im_store_state rfl rfl ?_); apply StoreS.mk rfl rfl; (focus (with_reducible exact G7.out.st)); (focus (exact Im.cells_size _ _ _)); (focus rfl)))
                go_roundw
                case rel => exact ⟨k + 1, ⟨g, x.r⟩, A2, c2, by omega, by go_num, R8.out⟩
                case measure => simp [intOf]; omega
    · have hk8 : ¬ (k : Int) < m := by omega
      go_wp2_with (go_at_call 11; ((with_reducible refine ((ct _).out).mono ?_); rintro e w2 ⟨rfl, hb⟩))
      go_ret
      exact ⟨rfl, (K1.out.trans (RR.out.below.mono K1.out.size)).trans (hb.mono (K1.out.trans (RR.out.below.mono K1.out.size)).size)⟩
end Go.Proofs.YtiahpncglpfjeaaGreat
namespace Go.Proofs.YtiahpncglpfjeaaGreat
open Go Go.RowKit Go.Shelf
set_option linter.unusedVariables false
set_option linter.unusedSimpArgs false

set_option maxRecDepth 100000 in
set_option maxHeartbeats 1000000 in
theorem rosters10_law (seed : ByteArray) (l : List Fd.Turn) (A : Option Addr) (n c : Nat) (w : World) (hsz : seed.size ≤ maxLen) (hn : n = l.length) (hn63 : n ≤ maxLen) (hl : Lies w w.heap.size 25 A n (l.flatMap Fd.Turn.cells)) (hty : ∀ q ∈ l, q.ty) :
    Calls Tryz.prog 6 #[.string seed, .slice A n c] w fun e w' => e = .returned (.bool true) ∧ Below w.heap.size w w' := by
  by_cases h20 : seed.size ≤ 20
  · have hs : (seed.size : Int) ≤ 20 := by omega
    by_cases hhi : n ≤ 80
    · have hn1 : (n : Int) ≤ 80 := by omega
      exact rosters10_main seed l A n c w h20 hn hhi hl hty
    · have hn1 : ¬ (n : Int) ≤ 80 := by omega
      have ct := fun X => Lib.hid (told10_any X)
      clear hl hty hn hsz hn63
      go_enter Tryz.func6, Tryz.ntmps6
      go_wp2_with (go_at_call 11; ((with_reducible refine ((ct _).out).mono ?_); rintro e w1 ⟨rfl, hb⟩))
      go_ret
      exact ⟨rfl, hb⟩
  · have hs : ¬ (seed.size : Int) ≤ 20 := by omega
    have ct := fun X => Lib.hid (told10_any X)
    clear hl hty hn hsz hn63
    go_enter Tryz.func6, Tryz.ntmps6
    go_wp2_with (go_at_call 11; ((with_reducible refine ((ct _).out).mono ?_); rintro e w1 ⟨rfl, hb⟩))
    go_ret
    exact ⟨rfl, hb⟩
end Go.Proofs.YtiahpncglpfjeaaGreat
