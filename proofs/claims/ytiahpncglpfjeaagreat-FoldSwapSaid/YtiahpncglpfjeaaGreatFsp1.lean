/-
Several texts in one: Sk Pw Fsw Fswl.
-/
import Derived.Test.YtiahpncglpfjeaaGreatFq15
import Derived.Laws.FloatArith
import Derived.Test.YtiahpncglpfjeaaGreatRows
import Derived.WalkKit
import Derived.WalkSpells
import Derived.WalkLawsBesides
import Derived.Laws.Externs
import Derived.Laws.BitsAllLaws
import Derived.Lib.Hide
import Derived.LoopTactic
import Derived.Deep.QuietTactic
import Derived.BigQuiet
import Derived.Outline
import Derived.Laws.OwnMore
import Derived.Deep.Draws
import Derived.Laws.Rows
import Derived.Deep.MidRow
import Derived.Maps.AppendAt
import Derived.RowKit
import Derived.Laws.StructEq
import Derived.Deep.WholeRow
import Derived.Orders
import Derived.Tactics
import Derived.Tactics2
import Derived.KernelRfl
import Derived.StillTail
import Derived.Below
import Derived.RangeFuncNested
import Derived.RangeFuncBound
import Derived.RangeFuncCalls
import Derived.RangeFuncLeaves
import Derived.Shelf.Abstract
import Derived.Shelf.RegionOpen
import Derived.ChangeKeysEq
import Derived.Deep.CutRange
import Derived.Deep.CutBlock
import Derived.Deep.DeepCutAuto
import Derived.Deep.LoopGhost
import Derived.OwnWalkIn
import Derived.TacticsInMore
import Derived.LoopNIn
import Derived.LoopIn
import Derived.Laws.CopyOwn
import Derived.Laws.MakeOwn
import Derived.Laws.EntriesVeiled
import Derived.Laws.IdiomStrings
import Derived.OneCell
import Derived.Deep.RegionWith
import Derived.Deep.DrawnRows
import Derived.BigRegion
import Derived.OrdersIn
import Derived.Defers
import Derived.Recover
import GoSem.Claim
import Derived.ChangeShapes
import Derived.ProofKit
import Derived.OpenShut
import Derived.Carry
import Derived.Lib.SmallJoins
import Derived.ChangeOld
import Derived.ChangeArms
import Derived.Laws.BytesArg
import Derived.Great.BuildSlice
import Derived.Lib.Bytes
namespace Go.Proofs.YtiahpncglpfjeaaGreat
open Go.RowKit Go.Shelf
set_option linter.unusedVariables false
set_option linter.unusedSimpArgs false


section
variable {ops : Array Oper} {Q : Exit → Act → World → Prop} {o : Oper} {rest : List Oper} {a : Act} {w : World} {x y : Operand}
end
theorem en_built_fre (f : Int) (A : Option Addr) (n c : Nat) (evs : List En.Ev) : Tryz.prog.built 42 [(0, .int .i64 f), (1, .slice A n c)] = some (En.cells ⟨f, evs, Fd.in0⟩ (.slice A n c)) := by kernel_rfl
section
variable {ops : Array Oper} {rest : List Oper} {o : Oper} {a : Act} {w : World} {Q : Exit → Act → World → Prop} {x y : Operand} {dst : Option Tmp} {v u : Value}
end

end Go.Proofs.YtiahpncglpfjeaaGreat
set_option linter.unusedVariables false
set_option linter.unusedSimpArgs false
namespace Go.Proofs.YtiahpncglpfjeaaGreat
open Go Go.RowKit Go.Shelf
namespace Fd

theorem after_rise {s : S} {v : En.Ev} (h : MayEv s v) : (after s v).r.version = s.r.version + 1 ∧ ∀ k, (after s v).r.gen k ≤ s.r.gen k + 1 := by
  unfold after
  by_cases h1 : v.kind = 1
  · rw [if_pos h1]
    refine ⟨rfl, fun k => ?_⟩
    show Ros.upd s.r.gen v.slot.toNat (s.r.gen v.slot.toNat + 1) k ≤ _
    by_cases e : k = v.slot.toNat
    · subst e; rw [Ros.upd_same]; omega
    · rw [Ros.upd_other _ _ e]; omega
  · rw [if_neg h1]
    refine ⟨rfl, fun k => ?_⟩
    show s.r.gen k ≤ _
    omega
theorem changes_rise {l : List En.Ev} : ∀ {s t : S}, changes s l = some t → t.r.version = s.r.version + l.length ∧ ∀ k, t.r.gen k ≤ s.r.gen k + l.length := by
  induction l with
  | nil => intro s t h; injection h with h; subst h; exact ⟨by simp, fun k => by simp⟩
  | cons v l ih =>
    intro s t h
    rw [changes_cons] at h
    by_cases hv : MayEv s v
    · rw [change_yes hv, Option.bind_some] at h
      obtain ⟨h1, h2⟩ := ih h
      obtain ⟨h3, h4⟩ := after_rise hv
      refine ⟨by rw [h1, h3, List.length_cons]; push_cast; omega, fun k => ?_⟩
      have h5 := h2 k
      have h6 := h4 k
      rw [List.length_cons]; push_cast; omega
    · rw [change_no hv] at h; cases h
theorem apply_rise {s u : S} {e : En.E} (h : apply s e = some u) : u.r.version ≤ s.r.version + 16 ∧ ∀ k, u.r.gen k ≤ s.r.gen k + 16 := by
  obtain ⟨hm, t, hc, _, rfl⟩ := apply_some h
  obtain ⟨h1, h2⟩ := changes_rise hc
  have h3 := hm.2.1.count
  refine ⟨?_, fun k => ?_⟩
  · show t.r.version ≤ _
    omega
  · have := h2 k
    show t.r.gen k ≤ _
    omega
theorem run_rise {l : List En.E} : ∀ {s u : S}, run s l = some u → u.r.version ≤ s.r.version + 16 * l.length ∧ ∀ k, u.r.gen k ≤ s.r.gen k + 16 * l.length := by
  induction l with
  | nil => intro s u h; injection h with h; subst h; exact ⟨by simp, fun k => by simp⟩
  | cons e l ih =>
    intro s u h
    rw [run_cons] at h
    cases he : Fd.apply s e with
    | none => rw [he] at h; cases h
    | some t =>
      rw [he, Option.bind_some] at h
      obtain ⟨h1, h2⟩ := ih h
      obtain ⟨h3, h4⟩ := apply_rise he
      rw [List.length_cons]
      push_cast
      refine ⟨by omega, fun k => ?_⟩
      have h5 := h2 k
      have h6 := h4 k
      omega
/-- The two events of a swap. -/
def swL (s : S) (k : Nat) : En.Ev := ⟨2, k, s.r.gen k, s.r.peer k⟩
def swJ (s : S) (k : Nat) (p : Int) : En.Ev := ⟨1, k, s.r.gen k + 1, p⟩
def inN : Nat → Gm.In := fun _ => ⟨0, 0, 0⟩
theorem swap_yes {s : S} (hs : Fine s) (hf : s.g.frame < 1048576) (hv : s.r.version + 2 ≤ 1073741824) {k : Nat} (hk : k < 8) (hp0 : ¬ s.r.peer k < 0) {p : Int} (hp : 0 ≤ p) (hp12 : p < 12) (hno : ∀ j, j < 8 → s.r.peer j ≠ p) (hg : s.r.gen k < 60000) :
    ∃ t, Fd.apply s ⟨s.g.frame, [swL s k, swJ s k p], inN⟩ = some t ∧ Fine t ∧ t.r.peer k = p ∧ t.r.gen k = s.r.gen k + 1 ∧ (t.g.ship k).on = true ∧ t.r.version = s.r.version + 2 := by
  have hok := hs.ok.2.1
  have hseat := hok.seat k hk
  have hpk : 0 ≤ s.r.peer k ∧ s.r.peer k < 12 ∧ 0 < s.r.gen k := by
    rcases hseat.2 with h | h
    · omega
    · exact ⟨h.1.1, h.1.2, h.2⟩
  have hkn : ((k : Int)).toNat = k := by omega
  have m1 : MayEv s (swL s k) := .inr ⟨rfl, ⟨⟨⟨hok, by omega⟩, by show (0 : Int) ≤ k; omega, by show (k : Int) < 8; omega⟩, by show s.r.peer (k : Int).toNat ≠ -1; rw [hkn]; omega⟩, by show s.r.peer (k : Int).toNat = _; rw [hkn]; rfl, by show s.r.gen (k : Int).toNat = _; rw [hkn]; rfl⟩
  have f1 := hs.after m1
  have a1 : after s (swL s k) = ⟨Gm.remove s.g k, Ros.give s.r k⟩ := by unfold after; rw [if_neg (by show ¬ (2 : Int) = 1; omega)]; show (⟨Gm.remove s.g (k : Int).toNat, Ros.give s.r (k : Int).toNat⟩ : S) = _; rw [hkn]
  rw [a1] at f1
  have ok1 : Ros.Ok (Ros.give s.r k) := f1.1.ok.2.1
  have m2 : MayEv ⟨Gm.remove s.g k, Ros.give s.r k⟩ (swJ s k p) := by
    refine .inl ⟨rfl, ⟨⟨⟨⟨ok1, ?_⟩, ?_, ?_⟩, ⟨hp, hp12⟩, ?_⟩, ?_, ?_⟩, ?_⟩
    · show s.r.version + 1 < 1073741824; omega
    · show (0 : Int) ≤ k; omega
    · show (k : Int) < 8; omega
    · rcases Ros.of_cases ok1 hp hp12 with h | ⟨j, hj, _, he⟩
      · exact h.1
      · exfalso
        have he' : Ros.upd s.r.peer k (-1) j = p := he
        by_cases e : j = k
        · subst e; rw [Ros.upd_same] at he'; omega
        · rw [Ros.upd_other _ _ e] at he'; exact hno j hj he'
    · show Ros.upd s.r.peer k (-1) (k : Int).toNat = -1; rw [hkn, Ros.upd_same]
    · show s.r.gen (k : Int).toNat ≠ 60000; rw [hkn]; omega
    · show s.r.gen k + 1 = s.r.gen (k : Int).toNat + 1; rw [hkn]
  have f2 := f1.1.after m2
  have a2 : after ⟨Gm.remove s.g k, Ros.give s.r k⟩ (swJ s k p) = ⟨Gm.spawn (Gm.remove s.g k) k, Ros.take (Ros.give s.r k) k p⟩ := by unfold after; rw [if_pos (by rfl)]; show (⟨Gm.spawn (Gm.remove s.g k) (k : Int).toNat, Ros.take (Ros.give s.r k) (k : Int).toNat p⟩ : S) = _; rw [hkn]
  rw [a2] at f2
  have hc : changes s [swL s k, swJ s k p] = some ⟨Gm.spawn (Gm.remove s.g k) k, Ros.take (Ros.give s.r k) k p⟩ := by
    rw [changes_cons, change_yes m1, Option.bind_some, a1, changes_cons, change_yes m2, Option.bind_some, a2]; rfl
  have hfr := hs.ok.1
  have hm : May s ⟨s.g.frame, [swL s k, swJ s k p], inN⟩ := by
    refine ⟨hs.ok, ⟨?_, ?_, fun i hi => ⟨by show (-127 : Int) ≤ 0; decide, by show (-127 : Int) ≤ 0; decide⟩⟩, rfl⟩
    · exact ⟨hfr.1, hf⟩
    · refine ⟨⟨⟨.inl rfl, ⟨?_, ?_⟩, ⟨?_, ?_⟩, hpk.1, hpk.2.1⟩, ?_⟩, ⟨⟨.inr rfl, ⟨?_, ?_⟩, ⟨?_, ?_⟩, hp, hp12⟩, ?_⟩, trivial⟩
      · show (0 : Int) ≤ k; omega
      · show (k : Int) < 8; omega
      · show 1 ≤ s.r.gen k; omega
      · show s.r.gen k ≤ 60000; omega
      · show -1 < (if (2 : Int) = 2 then (k : Int) else 8 + k); rw [if_pos rfl]; omega
      · show (0 : Int) ≤ k; omega
      · show (k : Int) < 8; omega
      · show 1 ≤ s.r.gen k + 1; omega
      · show s.r.gen k + 1 ≤ 60000; omega
      · show (if (2 : Int) = 2 then (k : Int) else 8 + k) < (if (1 : Int) = 2 then (k : Int) else 8 + k); rw [if_pos rfl, if_neg (by decide)]; omega
  have ha : Fd.apply s ⟨s.g.frame, [swL s k, swJ s k p], inN⟩ = some ⟨Gm.step inN (Gm.spawn (Gm.remove s.g k) k), Ros.take (Ros.give s.r k) k p⟩ := by
    rw [apply_yes hm]
    show (changes s [swL s k, swJ s k p]).bind _ = _
    rw [hc, Option.bind_some]
    exact if_pos (fun _ _ _ => rfl)
  have hF := hs.apply ha
  refine ⟨_, ha, hF.1, ?_, ?_, ?_, ?_⟩
  · show Ros.upd (Ros.upd s.r.peer k (-1)) k p k = p; rw [Ros.upd_same]
  · show Ros.upd s.r.gen k (s.r.gen k + 1) k = _; rw [Ros.upd_same]
  · rw [hF.1.ok.2.2 k hk]
    have : (Ros.take (Ros.give s.r k) k p).peer k = p := by show Ros.upd (Ros.upd s.r.peer k (-1)) k p k = p; rw [Ros.upd_same]
    show decide (0 ≤ (Ros.take (Ros.give s.r k) k p).peer k) = true
    rw [this]; simpa using hp
  · show s.r.version + 1 + 1 = _; omega
theorem swap_no {s : S} {k : Nat} {p : Int} : Fd.apply s ⟨s.g.frame, [swJ s k p, swL s k], inN⟩ = none := by
  refine apply_no fun h => ?_
  have h1 := h.2.1.row
  have h2 : (if (1 : Int) = 2 then (k : Int) else 8 + k) < (if (2 : Int) = 2 then (k : Int) else 8 + k) := h1.2.1.2
  rw [if_pos rfl, if_neg (by decide)] at h2
  omega
end Fd
end Go.Proofs.YtiahpncglpfjeaaGreat
namespace Go.Proofs.YtiahpncglpfjeaaGreat
open Go Go.RowKit Go.Shelf
set_option linter.unusedVariables false
set_option linter.unusedSimpArgs false

theorem st_frame' (g : Gm.G) (s : Value) (r : Ros.R) : (Im.cells g s r)[0]? = some (.int .i64 g.frame) := (Im.cells_g g s r 0 (by decide)).trans (Gm.cells_0 g s)
theorem refslot_at (r : Ros.R) (p : Int) (hok : Ros.Ok r) (hp : 0 ≤ p) (k : Nat) (hk : k < 8) (he : r.peer k = p) (w : World) : Calls Tryz.prog 26 #[.agg (Ros.cells r), .int .i64 p] w fun e w' => e = .returned (.int .i64 k) ∧ Below w.heap.size w w' := by
  refine (refslot_any r p w).mono ?_
  rintro e w' ⟨⟨v, rfl, ⟨_, hno⟩ | ⟨k', hk', rfl, _, _, he'⟩⟩, hb⟩
  · exact absurd he (hno hok hp k hk)
  · obtain rfl : k' = k := hok.one hk' hk (he'.trans he.symm) (by rw [he']; omega)
    exact ⟨rfl, hb⟩
theorem refslot_none (r : Ros.R) (p : Int) (hno : ∀ j, j < 8 → r.peer j ≠ p) (w : World) : Calls Tryz.prog 26 #[.agg (Ros.cells r), .int .i64 p] w fun e w' => e = .returned (.int .i64 (-1)) ∧ Below w.heap.size w w' := by
  refine (refslot_any r p w).mono ?_
  rintro e w' ⟨⟨v, rfl, ⟨rfl, _⟩ | ⟨k', hk', rfl, _, _, he'⟩⟩, hb⟩
  · exact ⟨rfl, hb⟩
  · exact absurd he' (hno k' hk')
set_option maxRecDepth 100000 in
set_option maxHeartbeats 1000000 in
theorem swap10_main (seed : ByteArray) (l : List Fd.Turn) (A : Option Addr) (n c : Nat) (peer : Int) (w : World) (hsz : seed.size ≤ 20) (hn : n = l.length) (hn30 : n ≤ 30) (hl : Lies w w.heap.size 25 A n (l.flatMap Fd.Turn.cells)) (hty : ∀ q ∈ l, q.ty) :
    Calls Tryz.prog 8 #[.string seed, .slice A n c, .int .i64 peer] w fun e w' => e = .returned (.bool true) ∧ Below w.heap.size w w' := by
  have h63 : seed.size ≤ maxLen := by unfold maxLen; omega
  have hs20 : (seed.size : Int) ≤ 20 := by omega
  have hn1 : (n : Int) ≤ 30 := by omega
  have cm := fun X (hX : Below w.heap.size w X) => Lib.hid (make_any seed l A n c _ X h63 rfl hn (by omega) ((hl.below hX).wider hX.size) hty)
  have hd := Dn.seed_bd seed.data.toList
  have cs := fun X => Lib.hid (foldstart_any seed X h63)
  have ct := fun X => Lib.hid (told10_any X)
  generalize Dn.seed seed.data.toList = d at cm hd cs
  have FN := Lib.hid (Fd.start_fine hd)
  have LN := fun X => (show Lies X X.heap.size 6 none 0 (Gm.shotCells (Fd.start d).g.shots) from ⟨rfl, fun h => absurd rfl h, fun _ _ h => absurd rfl h⟩)
  have b0 := Below.refl w.heap.size w
  clear hd hl hty hn
  obtain ⟨p, hp12, hpp⟩ : ∃ p : Nat, p < 12 ∧ wrap64 ((IntKind.u64.wrap peer).tmod 12) = (p : Int) := by
    rw [wrap_u64']
    obtain ⟨z, hz⟩ : ∃ z, z = peer % 18446744073709551616 := ⟨_, rfl⟩
    rw [← hz]
    have hz0 : 0 ≤ z := by omega
    clear hz
    refine ⟨(z % 12).toNat, by omega, ?_⟩
    rw [Int.tmod_eq_emod_of_nonneg hz0, IntWalk.wrap64_in _ (by omega)]
    omega
  go_enter Tryz.func8, Tryz.ntmps8
  go_upto_region 4 with (first | (with_reducible refine alloc_state rfl rfl ?_) | (with_reducible refine im_store_new rfl rfl rfl rfl Im.zero_size rfl ?_) | (go_at_call 20; ((with_reducible refine ((cs _).out).mono ?_); rintro x w1 ⟨rfl, hb⟩; have b1 := b0.trans (hb.mono b0.size); clear hb)) | (go_at_call 18; ((with_reducible refine ((cm _ b1).out).mono ?_); rintro x w2 ⟨A1, c1, log, u, rfl, hL, hT, hrun, hlen, hb, hcap⟩; have b2 := b1.trans (hb.mono b1.size); have RU := Lib.hid hrun; have LE := Lib.hid hlen; have ca := Lib.hid (show Calls Tryz.prog 19 #[.agg (Im.cells (Gm.new d) (.slice none 0 0) Ros.new), .slice A1 log.length c1] w2 (SOut u.g u.r 0 w2) from foldrun_some u (Fd.start d) log none A1 0 0 log.length c1 w2 FN.out rfl (LN w2) (Nat.le_trans hlen (by unfold maxLen; omega)) hL hT hrun); clear hL hT hrun hb hcap hlen)) | (go_at_call 19; ((with_reducible refine ((ca).out).mono ?_); rintro x w3 ⟨A3, c3, rfl, hL, hb⟩; have S3 := Lib.hid (Box.made w3 35 (Im.cells u.g (.slice A3 u.g.shots.length c3) u.r)); have L3 := Lib.hid (hL.call (one_below w3 (.cells (Im.cells u.g (.slice A3 u.g.shots.length c3) u.r) 35))); have b3 := (b2.trans (hb.mono b2.size)).trans ((one_below w3 (.cells (Im.cells u.g (.slice A3 u.g.shots.length c3) u.r) 35)).mono (b2.trans (hb.mono b2.size)).size); clear hb hL)))
  generalize hW3 : w3.alloc (.cells (Im.cells u.g (.slice A3 u.g.shots.length c3) u.r) 35) = W3 at S3 L3 b3 ⊢
  generalize w3.heap.size = p3 at S3 ⊢
  have B3 := Lib.hid b3
  clear hW3 b0 b1 b2 b3 ca cm cs LN
  have FU := Lib.hid (FN.out.run RU.out)
  have LG : (Fd.es log).length ≤ 30 := by have h := LE.out; unfold Fd.es; rw [List.length_map]; omega
  have RI := Fd.run_rise RU.out
  have hfr : u.g.frame ≤ 30 := by have h := FU.out.2; rw [h]; show (0 : Int) + _ ≤ 30; omega
  have hvr : u.r.version ≤ 480 := by have h := RI.1; have h0 : (Fd.start d).r.version = 0 := rfl; omega
  have hgn : ∀ k, u.r.gen k ≤ 480 := fun k => by have h := RI.2 k; have h0 : (Fd.start d).r.gen k = 0 := rfl; omega
  have HFR := Lib.hid hfr
  have HVR := Lib.hid hvr
  have HGN := Lib.hid hgn
  clear LG RI hfr hvr hgn
  go_upto_region 8 with fail
  rw [hpp]
  clear hpp
  go_loopw [10, 11, 12, 13, 14, 15, 16, 17] (fun i _ _ _ _ _ _ _ wr => ∃ k : Nat, k ≤ 8 ∧ i = .int .i64 k ∧ Below W3.heap.size W3 wr) (fun i _ _ _ _ _ _ _ _ => 8 - (intOf i).toNat)
  case atStart => exact ⟨0, by omega, rfl, Below.refl _ _⟩
  case round =>
    obtain ⟨k, hk, rfl, hb⟩ := hrel
    rename World => w0
    have HB := Lib.hid hb
    by_cases hlt : k < 8
    · have hk8 : (k : Int) < 8 := by omega
      have S4 := Lib.hid (S3.out.below hb S3.out.lt)
      have y0 := (S4.out.cell (60 + k * 2)).trans (Im.cells_peer u.g _ u.r k hlt)
      have y1 := (S4.out.cell (60 + k * 2 + 1)).trans (Im.cells_gen u.g _ u.r k hlt)
      clear hb
      go_upto_region 11 with fail
      have X5 := Lib.hid (Box.made w0 30 #[.int .i64 (u.r.peer k), .int .i64 (u.r.gen k)])
      have S5 := Lib.hid (S4.out.alloc (.cells #[.int .i64 (u.r.peer k), .int .i64 (u.r.gen k)] 30))
      have B5 := Lib.hid (HB.out.alloc HB.out.size (.cells #[.int .i64 (u.r.peer k), .int .i64 (u.r.gen k)] 30))
      generalize hW5 : w0.alloc (.cells #[.int .i64 (u.r.peer k), .int .i64 (u.r.gen k)] 30) = W5 at X5 S5 B5 ⊢
      generalize w0.heap.size = bx at X5 ⊢
      clear hW5 S4 y0 y1
      have sk := FU.out.1.ok.2.1.seat k hlt
      have gk480 := HGN.out k
      obtain ⟨pk, hpk⟩ : ∃ pk, pk = u.r.peer k := ⟨_, rfl⟩
      obtain ⟨gk, hgk⟩ : ∃ gk, gk = u.r.gen k := ⟨_, rfl⟩
      rw [← hpk, ← hgk] at X5
      rw [← hgk] at gk480
      have hg0 : 0 ≤ gk := by rw [hgk]; exact sk.1.1
      have HPK := Lib.hid hpk
      have HGK := Lib.hid hgk
      have SK := Lib.hid sk
      clear hpk hgk sk
      have x0 := X5.out.cell 0
      have x1 := X5.out.cell 1
      simp only [List.getElem?_toArray, List.getElem?_cons_zero, List.getElem?_cons_succ] at x0 x1
      by_cases hneg : pk < 0
      · go_wp2
        go_roundw
        case rel => exact ⟨k + 1, by omega, by go_num, B5.out⟩
        case measure => simp [intOf]; omega
      · by_cases hf : ∃ j, j < 8 ∧ u.r.peer j = (p : Int)
        · obtain ⟨j, hj, he⟩ := hf
          have cq := fun X => Lib.hid (refslot_at u.r p FU.out.1.ok.2.1 (by omega) j hj he X)
          have hj0 : (0 : Int) ≤ j := by omega
          clear he
          go_wp2_with (first | ((with_reducible refine im_load_ros_g ?_ rfl ?_); (focus first | rfl | (simp [Region.wanted, yielded]; done)); apply LoadIm.mk rfl; (focus (with_reducible exact S5.out)); dsimp only) | (go_at_call 26; ((with_reducible refine ((cq _).out).mono ?_); rintro e6 w6 ⟨rfl, hb⟩; have B6 := Lib.hid (B5.out.trans (hb.mono B5.out.size)); clear hb)))
          go_roundw
          case rel => exact ⟨k + 1, by omega, by go_num, B6.out⟩
          case measure => simp [intOf]; omega
        · have hno : ∀ j, j < 8 → u.r.peer j ≠ (p : Int) := fun j hj he => hf ⟨j, hj, he⟩
          have cq := fun X => Lib.hid (refslot_none u.r p hno X)
          obtain ⟨t, ht, hFt, htp, htg, hto, htv⟩ := Fd.swap_yes FU.out.1 (by have := HFR.out; omega) (by have := HVR.out; omega) hlt (by rw [← HPK.out]; exact hneg) (p := (p : Int)) (by omega) (by omega) hno (by have := HGN.out k; omega)
          have T1 := Lib.hid ht
          have T2 := Lib.hid hFt
          have T3 := Lib.hid (show t.r.peer k = p ∧ t.r.gen k = gk + 1 ∧ (t.g.ship k).on = true ∧ t.r.version = u.r.version + 2 from ⟨htp, by rw [HGK.out]; exact htg, hto, htv⟩)
          clear hf hno ht hFt htp htg hto htv
          go_upto_region 12 with (first | ((with_reducible refine im_load_ros_g ?_ rfl ?_); (focus first | rfl | (simp [Region.wanted, yielded]; done)); apply LoadIm.mk rfl; (focus (with_reducible exact S5.out)); dsimp only) | (go_at_call 26; ((with_reducible refine ((cq _).out).mono ?_); rintro e6 w6 ⟨rfl, hb⟩; have B6 := Lib.hid (B5.out.trans (hb.mono B5.out.size)); have S6 := Lib.hid (S5.out.below hb S5.out.lt); have X6 := Lib.hid (X5.out.below hb X5.out.lt); clear hb)))
          clear x0 x1 S5 X5 B5 cq
          have x0 := X6.out.cell 0
          have x1 := X6.out.cell 1
          simp only [List.getElem?_toArray, List.getElem?_cons_zero, List.getElem?_cons_succ] at x0 x1
          go_upto_region 13 with fail
          have A7 := Lib.hid (Box.made w6 61 #[.int .i64 2, .int .i64 (k : Int), .int .i64 gk, .int .i64 pk])
          have X7 := Lib.hid (X6.out.alloc (.cells #[.int .i64 2, .int .i64 (k : Int), .int .i64 gk, .int .i64 pk] 61))
          have S7 := Lib.hid (S6.out.alloc (.cells #[.int .i64 2, .int .i64 (k : Int), .int .i64 gk, .int .i64 pk] 61))
          have B7 := Lib.hid (B6.out.alloc B6.out.size (.cells #[.int .i64 2, .int .i64 (k : Int), .int .i64 gk, .int .i64 pk] 61))
          generalize hW7 : w6.alloc (.cells #[.int .i64 2, .int .i64 (k : Int), .int .i64 gk, .int .i64 pk] 61) = W7 at A7 X7 S7 B7 ⊢
          generalize w6.heap.size = ba at A7 ⊢
          clear hW7 x0 x1 S6 X6 B6
          have x0 := X7.out.cell 0
          have x1 := X7.out.cell 1
          simp only [List.getElem?_toArray, List.getElem?_cons_zero, List.getElem?_cons_succ] at x0 x1
          have hgw : IntKind.i64.wrap (gk + 1) = gk + 1 := by rw [IntKind.wrap_i64]; omega
          go_upto_region 14 with fail
          have Z8 := Lib.hid (Box.made W7 61 #[.int .i64 1, .int .i64 (k : Int), .int .i64 (gk + 1), .int .i64 (p : Int)])
          have A8 := Lib.hid (A7.out.alloc (.cells #[.int .i64 1, .int .i64 (k : Int), .int .i64 (gk + 1), .int .i64 (p : Int)] 61))
          have X8 := Lib.hid (X7.out.alloc (.cells #[.int .i64 1, .int .i64 (k : Int), .int .i64 (gk + 1), .int .i64 (p : Int)] 61))
          have S8 := Lib.hid (S7.out.alloc (.cells #[.int .i64 1, .int .i64 (k : Int), .int .i64 (gk + 1), .int .i64 (p : Int)] 61))
          have B8 := Lib.hid (B7.out.alloc B7.out.size (.cells #[.int .i64 1, .int .i64 (k : Int), .int .i64 (gk + 1), .int .i64 (p : Int)] 61))
          generalize hW8 : W7.alloc (.cells #[.int .i64 1, .int .i64 (k : Int), .int .i64 (gk + 1), .int .i64 (p : Int)] 61) = W8 at Z8 A8 X8 S8 B8 ⊢
          generalize W7.heap.size = bb at Z8 ⊢
          clear hW8 x0 x1 S7 X7 B7 A7
          have y0 := (S8.out.cell 0).trans (st_frame' _ _ _)
          have a0 := A8.out.cell 0
          have a1 := A8.out.cell 1
          have a2 := A8.out.cell 2
          have a3 := A8.out.cell 3
          have b0 := Z8.out.cell 0
          have b1 := Z8.out.cell 1
          have b2 := Z8.out.cell 2
          have b3 := Z8.out.cell 3
          simp only [List.getElem?_toArray, List.getElem?_cons_zero, List.getElem?_cons_succ] at a0 a1 a2 a3 b0 b1 b2 b3
          have e8 : (En.evCells [Fd.swL u k, Fd.swJ u k p]).toArray = #[.int .i64 2, .int .i64 (k : Int), .int .i64 gk, .int .i64 pk, .int .i64 1, .int .i64 (k : Int), .int .i64 (gk + 1), .int .i64 (p : Int)] := by rw [HGK.out, HPK.out]; rfl
          have kb8 := B8.out.trans ((one_below W8 (.cells #[.int .i64 2, .int .i64 (k : Int), .int .i64 gk, .int .i64 pk, .int .i64 1, .int .i64 (k : Int), .int .i64 (gk + 1), .int .i64 (p : Int)] 61)).mono B8.out.size)
          have bx8 : Box (W8.alloc (.cells #[.int .i64 2, .int .i64 (k : Int), .int .i64 gk, .int .i64 pk, .int .i64 1, .int .i64 (k : Int), .int .i64 (gk + 1), .int .i64 (p : Int)] 61)) W8.heap.size 61 (En.evCells [Fd.swL u k, Fd.swJ u k p]).toArray := by rw [e8]; exact Box.made W8 61 _
          have ca := Lib.hid (show Calls Tryz.prog 12 #[.agg (Im.cells u.g (.slice A3 u.g.shots.length c3) u.r), .agg (En.cells ⟨u.g.frame, [Fd.swL u k, Fd.swJ u k p], Fd.in0⟩ (.slice (some ⟨W8.heap.size, 0, none⟩) 2 2))] (W8.alloc (.cells #[.int .i64 2, .int .i64 (k : Int), .int .i64 gk, .int .i64 pk, .int .i64 1, .int .i64 (k : Int), .int .i64 (gk + 1), .int .i64 (p : Int)] 61)) (SOut t.g t.r 0 (W8.alloc (.cells #[.int .i64 2, .int .i64 (k : Int), .int .i64 gk, .int .i64 pk, .int .i64 1, .int .i64 (k : Int), .int .i64 (gk + 1), .int .i64 (p : Int)] 61))) from foldapply_some t u ⟨u.g.frame, [Fd.swL u k, Fd.swJ u k p], Fd.in0⟩ A3 (some ⟨W8.heap.size, 0, none⟩) u.g.shots.length c3 2 2 _ FU.out.1.ty FU.out.1.few rfl ((L3.out.below kb8).wider kb8.size) rfl (by decide) (Lies.boxed4 (n := 2) bx8 rfl) in0_tyin T1.out)
          clear e8 kb8 bx8
          go_upto_region 15 with (first | ((with_reducible refine im_load_state rfl rfl ?_); apply LoadIm.mk rfl; (focus (with_reducible exact S8.out)); dsimp only) | (refine wpList_build_is rfl (t := 42) (vs := [(0, .int .i64 u.g.frame), (1, .slice (some ⟨W8.heap.size, 0, none⟩) 2 2)]) rfl rfl (en_built_fre u.g.frame _ _ _ [Fd.swL u k, Fd.swJ u k p]) ?_) | (with_reducible refine alloc_state rfl rfl ?_) | (with_reducible refine im_store_new rfl rfl rfl rfl Im.zero_size rfl ?_) | (go_at_call 12; ((with_reducible refine ((ca).out).mono ?_); rintro x w10 ⟨AA10, c10, rfl, hL, hb⟩; have S10 := Lib.hid (((S8.out.alloc (.cells #[.int .i64 2, .int .i64 (k : Int), .int .i64 gk, .int .i64 pk, .int .i64 1, .int .i64 (k : Int), .int .i64 (gk + 1), .int .i64 (p : Int)] 61)).below hb (S8.out.alloc (.cells #[.int .i64 2, .int .i64 (k : Int), .int .i64 gk, .int .i64 pk, .int .i64 1, .int .i64 (k : Int), .int .i64 (gk + 1), .int .i64 (p : Int)] 61)).lt).alloc (.cells (Im.cells t.g (.slice AA10 t.g.shots.length c10) t.r) 35)); have A10 := Lib.hid (((A8.out.alloc (.cells #[.int .i64 2, .int .i64 (k : Int), .int .i64 gk, .int .i64 pk, .int .i64 1, .int .i64 (k : Int), .int .i64 (gk + 1), .int .i64 (p : Int)] 61)).below hb (A8.out.alloc (.cells #[.int .i64 2, .int .i64 (k : Int), .int .i64 gk, .int .i64 pk, .int .i64 1, .int .i64 (k : Int), .int .i64 (gk + 1), .int .i64 (p : Int)] 61)).lt).alloc (.cells (Im.cells t.g (.slice AA10 t.g.shots.length c10) t.r) 35)); have Z10 := Lib.hid (((Z8.out.alloc (.cells #[.int .i64 2, .int .i64 (k : Int), .int .i64 gk, .int .i64 pk, .int .i64 1, .int .i64 (k : Int), .int .i64 (gk + 1), .int .i64 (p : Int)] 61)).below hb (Z8.out.alloc (.cells #[.int .i64 2, .int .i64 (k : Int), .int .i64 gk, .int .i64 pk, .int .i64 1, .int .i64 (k : Int), .int .i64 (gk + 1), .int .i64 (p : Int)] 61)).lt).alloc (.cells (Im.cells t.g (.slice AA10 t.g.shots.length c10) t.r) 35)); have X10 := Lib.hid (((X8.out.alloc (.cells #[.int .i64 2, .int .i64 (k : Int), .int .i64 gk, .int .i64 pk, .int .i64 1, .int .i64 (k : Int), .int .i64 (gk + 1), .int .i64 (p : Int)] 61)).below hb (X8.out.alloc (.cells #[.int .i64 2, .int .i64 (k : Int), .int .i64 gk, .int .i64 pk, .int .i64 1, .int .i64 (k : Int), .int .i64 (gk + 1), .int .i64 (p : Int)] 61)).lt).alloc (.cells (Im.cells t.g (.slice AA10 t.g.shots.length c10) t.r) 35)); have B10 := Lib.hid (((B8.out.alloc B8.out.size (.cells #[.int .i64 2, .int .i64 (k : Int), .int .i64 gk, .int .i64 pk, .int .i64 1, .int .i64 (k : Int), .int .i64 (gk + 1), .int .i64 (p : Int)] 61)).trans (hb.mono (B8.out.alloc B8.out.size (.cells #[.int .i64 2, .int .i64 (k : Int), .int .i64 gk, .int .i64 pk, .int .i64 1, .int .i64 (k : Int), .int .i64 (gk + 1), .int .i64 (p : Int)] 61)).size)).alloc ((B8.out.alloc B8.out.size (.cells #[.int .i64 2, .int .i64 (k : Int), .int .i64 gk, .int .i64 pk, .int .i64 1, .int .i64 (k : Int), .int .i64 (gk + 1), .int .i64 (p : Int)] 61)).trans (hb.mono (B8.out.alloc B8.out.size (.cells #[.int .i64 2, .int .i64 (k : Int), .int .i64 gk, .int .i64 pk, .int .i64 1, .int .i64 (k : Int), .int .i64 (gk + 1), .int .i64 (p : Int)] 61)).size)).size (.cells (Im.cells t.g (.slice AA10 t.g.shots.length c10) t.r) 35)); have TT10 := Lib.hid (Box.made w10 35 (Im.cells t.g (.slice AA10 t.g.shots.length c10) t.r)); clear hb hL)))
          generalize hW10 : w10.alloc (.cells (Im.cells t.g (.slice AA10 t.g.shots.length c10) t.r) 35) = W10 at S10 A10 Z10 X10 B10 TT10 ⊢
          generalize w10.heap.size = p10 at TT10 ⊢
          clear hW10 ca S8 A8 Z8 X8 B8
          clear y0 a0 a1 a2 a3 b0 b1 b2 b3
          have y0 := (S10.out.cell 0).trans (st_frame' _ _ _)
          have a0 := A10.out.cell 0
          have a1 := A10.out.cell 1
          have a2 := A10.out.cell 2
          have a3 := A10.out.cell 3
          have b0 := Z10.out.cell 0
          have b1 := Z10.out.cell 1
          have b2 := Z10.out.cell 2
          have b3 := Z10.out.cell 3
          simp only [List.getElem?_toArray, List.getElem?_cons_zero, List.getElem?_cons_succ] at a0 a1 a2 a3 b0 b1 b2 b3
          have e10 : (En.evCells [Fd.swJ u k p, Fd.swL u k]).toArray = #[.int .i64 1, .int .i64 (k : Int), .int .i64 (gk + 1), .int .i64 (p : Int), .int .i64 2, .int .i64 (k : Int), .int .i64 gk, .int .i64 pk] := by rw [HGK.out, HPK.out]; rfl
          have kb10 := B10.out.trans ((one_below W10 (.cells #[.int .i64 1, .int .i64 (k : Int), .int .i64 (gk + 1), .int .i64 (p : Int), .int .i64 2, .int .i64 (k : Int), .int .i64 gk, .int .i64 pk] 61)).mono B10.out.size)
          have bx10 : Box (W10.alloc (.cells #[.int .i64 1, .int .i64 (k : Int), .int .i64 (gk + 1), .int .i64 (p : Int), .int .i64 2, .int .i64 (k : Int), .int .i64 gk, .int .i64 pk] 61)) W10.heap.size 61 (En.evCells [Fd.swJ u k p, Fd.swL u k]).toArray := by rw [e10]; exact Box.made W10 61 _
          have cb := Lib.hid (show Calls Tryz.prog 12 #[.agg (Im.cells u.g (.slice A3 u.g.shots.length c3) u.r), .agg (En.cells ⟨u.g.frame, [Fd.swJ u k p, Fd.swL u k], Fd.in0⟩ (.slice (some ⟨W10.heap.size, 0, none⟩) 2 2))] (W10.alloc (.cells #[.int .i64 1, .int .i64 (k : Int), .int .i64 (gk + 1), .int .i64 (p : Int), .int .i64 2, .int .i64 (k : Int), .int .i64 gk, .int .i64 pk] 61)) (SOut u.g u.r 1 (W10.alloc (.cells #[.int .i64 1, .int .i64 (k : Int), .int .i64 (gk + 1), .int .i64 (p : Int), .int .i64 2, .int .i64 (k : Int), .int .i64 gk, .int .i64 pk] 61))) from foldapply_none u ⟨u.g.frame, [Fd.swJ u k p, Fd.swL u k], Fd.in0⟩ A3 (some ⟨W10.heap.size, 0, none⟩) u.g.shots.length c3 2 2 _ FU.out.1.ty FU.out.1.few rfl ((L3.out.below kb10).wider kb10.size) rfl (by decide) (Lies.boxed4 (n := 2) bx10 rfl) in0_tyin Fd.swap_no)
          clear e10 kb10 bx10
          go_upto_region 16 with (first | ((with_reducible refine im_load_state rfl rfl ?_); apply LoadIm.mk rfl; (focus (with_reducible exact S10.out)); dsimp only) | (refine wpList_build_is rfl (t := 42) (vs := [(0, .int .i64 u.g.frame), (1, .slice (some ⟨W10.heap.size, 0, none⟩) 2 2)]) rfl rfl (en_built_fre u.g.frame _ _ _ [Fd.swJ u k p, Fd.swL u k]) ?_) | (with_reducible refine alloc_state rfl rfl ?_) | (with_reducible refine im_store_new rfl rfl rfl rfl Im.zero_size rfl ?_) | (go_at_call 12; ((with_reducible refine ((cb).out).mono ?_); rintro x w12 ⟨AA12, c12, rfl, hL, hb⟩; have S12 := Lib.hid (((S10.out.alloc (.cells #[.int .i64 1, .int .i64 (k : Int), .int .i64 (gk + 1), .int .i64 (p : Int), .int .i64 2, .int .i64 (k : Int), .int .i64 gk, .int .i64 pk] 61)).below hb (S10.out.alloc (.cells #[.int .i64 1, .int .i64 (k : Int), .int .i64 (gk + 1), .int .i64 (p : Int), .int .i64 2, .int .i64 (k : Int), .int .i64 gk, .int .i64 pk] 61)).lt).alloc (.cells (Im.cells u.g (.slice AA12 u.g.shots.length c12) u.r) 35)); have A12 := Lib.hid (((A10.out.alloc (.cells #[.int .i64 1, .int .i64 (k : Int), .int .i64 (gk + 1), .int .i64 (p : Int), .int .i64 2, .int .i64 (k : Int), .int .i64 gk, .int .i64 pk] 61)).below hb (A10.out.alloc (.cells #[.int .i64 1, .int .i64 (k : Int), .int .i64 (gk + 1), .int .i64 (p : Int), .int .i64 2, .int .i64 (k : Int), .int .i64 gk, .int .i64 pk] 61)).lt).alloc (.cells (Im.cells u.g (.slice AA12 u.g.shots.length c12) u.r) 35)); have Z12 := Lib.hid (((Z10.out.alloc (.cells #[.int .i64 1, .int .i64 (k : Int), .int .i64 (gk + 1), .int .i64 (p : Int), .int .i64 2, .int .i64 (k : Int), .int .i64 gk, .int .i64 pk] 61)).below hb (Z10.out.alloc (.cells #[.int .i64 1, .int .i64 (k : Int), .int .i64 (gk + 1), .int .i64 (p : Int), .int .i64 2, .int .i64 (k : Int), .int .i64 gk, .int .i64 pk] 61)).lt).alloc (.cells (Im.cells u.g (.slice AA12 u.g.shots.length c12) u.r) 35)); have X12 := Lib.hid (((X10.out.alloc (.cells #[.int .i64 1, .int .i64 (k : Int), .int .i64 (gk + 1), .int .i64 (p : Int), .int .i64 2, .int .i64 (k : Int), .int .i64 gk, .int .i64 pk] 61)).below hb (X10.out.alloc (.cells #[.int .i64 1, .int .i64 (k : Int), .int .i64 (gk + 1), .int .i64 (p : Int), .int .i64 2, .int .i64 (k : Int), .int .i64 gk, .int .i64 pk] 61)).lt).alloc (.cells (Im.cells u.g (.slice AA12 u.g.shots.length c12) u.r) 35)); have TT12 := Lib.hid (((TT10.out.alloc (.cells #[.int .i64 1, .int .i64 (k : Int), .int .i64 (gk + 1), .int .i64 (p : Int), .int .i64 2, .int .i64 (k : Int), .int .i64 gk, .int .i64 pk] 61)).below hb (TT10.out.alloc (.cells #[.int .i64 1, .int .i64 (k : Int), .int .i64 (gk + 1), .int .i64 (p : Int), .int .i64 2, .int .i64 (k : Int), .int .i64 gk, .int .i64 pk] 61)).lt).alloc (.cells (Im.cells u.g (.slice AA12 u.g.shots.length c12) u.r) 35)); have B12 := Lib.hid (((B10.out.alloc B10.out.size (.cells #[.int .i64 1, .int .i64 (k : Int), .int .i64 (gk + 1), .int .i64 (p : Int), .int .i64 2, .int .i64 (k : Int), .int .i64 gk, .int .i64 pk] 61)).trans (hb.mono (B10.out.alloc B10.out.size (.cells #[.int .i64 1, .int .i64 (k : Int), .int .i64 (gk + 1), .int .i64 (p : Int), .int .i64 2, .int .i64 (k : Int), .int .i64 gk, .int .i64 pk] 61)).size)).alloc ((B10.out.alloc B10.out.size (.cells #[.int .i64 1, .int .i64 (k : Int), .int .i64 (gk + 1), .int .i64 (p : Int), .int .i64 2, .int .i64 (k : Int), .int .i64 gk, .int .i64 pk] 61)).trans (hb.mono (B10.out.alloc B10.out.size (.cells #[.int .i64 1, .int .i64 (k : Int), .int .i64 (gk + 1), .int .i64 (p : Int), .int .i64 2, .int .i64 (k : Int), .int .i64 gk, .int .i64 pk] 61)).size)).size (.cells (Im.cells u.g (.slice AA12 u.g.shots.length c12) u.r) 35)); have UU12 := Lib.hid (Box.made w12 35 (Im.cells u.g (.slice AA12 u.g.shots.length c12) u.r)); clear hb hL)))
          generalize hW12 : w12.alloc (.cells (Im.cells u.g (.slice AA12 u.g.shots.length c12) u.r) 35) = W12 at S12 A12 Z12 X12 TT12 B12 UU12 ⊢
          generalize w12.heap.size = p12 at UU12 ⊢
          clear hW12 cb S10 A10 Z10 X10 B10
          clear y0 a0 a1 a2 a3 b0 b1 b2 b3 TT10
          obtain ⟨q1, q2, q3, q4⟩ := T3.out
          have x1 := X12.out.cell 1
          simp only [List.getElem?_toArray, List.getElem?_cons_zero, List.getElem?_cons_succ] at x1
          have v0 := (TT12.out.cell (60 + k * 2)).trans ((Im.cells_peer t.g _ t.r k hlt).trans (by rw [q1]))
          have v1 := (TT12.out.cell (60 + k * 2 + 1)).trans ((Im.cells_gen t.g _ t.r k hlt).trans (by rw [q2]))
          have v2 := ((TT12.out.cell (2 + k * 7)).trans (Im.cells_ship t.g _ t.r k 0 hlt (by decide))).trans (show some (Value.bool (t.g.ship k).on) = some (.bool true) by rw [q3])
          have v3 := ((TT12.out.cell 59).trans ((Im.cells_r t.g _ t.r 0).trans (Ros.cells_0 t.r))).trans (show some (Value.int .i64 t.r.version) = some (.int .i64 (u.r.version + 2)) by rw [q4])
          have v4 := (S12.out.cell 59).trans ((Im.cells_r u.g _ u.r 0).trans (Ros.cells_0 u.r))
          have hvv := HVR.out
          have hv0 := FU.out.1.ok.2.1.1.1
          generalize u.r.version = vv at v3 v4 hvv hv0
          have hvw : IntKind.i64.wrap (vv + 2) = vv + 2 := by rw [IntKind.wrap_i64]; omega
          have hsn : ∀ W, (binOp .neq 30 (.agg #[.int .i64 (p : Int), .int .i64 (gk + 1)]) (.agg #[.int .i64 (p : Int), .int .i64 (gk + 1)])).run Tryz.prog W = .ok (.bool false) W := fun W => (seat_neq (p : Int) (gk + 1) (p : Int) (gk + 1) W).trans (by simp)
          clear q1 q2 q3 q4
          go_upto_region 16 with fail
          go_quiet (fail)
          go_wp2
          go_roundw
          case rel => exact ⟨k + 1, by omega, by go_num, draws_below B12.out _⟩
          case measure => simp [intOf]; omega
    · have hk8 : ¬ (k : Int) < 8 := by omega
      clear hb
      go_wp2_with (go_at_call 11; ((with_reducible refine ((ct _).out).mono ?_); rintro e w2 ⟨rfl, hb⟩))
      go_ret
      exact ⟨rfl, (B3.out.trans (HB.out.mono B3.out.size)).trans (hb.mono (B3.out.trans (HB.out.mono B3.out.size)).size)⟩
end Go.Proofs.YtiahpncglpfjeaaGreat
namespace Go.Proofs.YtiahpncglpfjeaaGreat
open Go Go.RowKit Go.Shelf
set_option linter.unusedVariables false
set_option linter.unusedSimpArgs false

set_option maxRecDepth 100000 in
set_option maxHeartbeats 1000000 in
theorem swap10_law (seed : ByteArray) (l : List Fd.Turn) (A : Option Addr) (n c : Nat) (cut : Int) (w : World) (hsz : seed.size ≤ maxLen) (hn : n = l.length) (hn63 : n ≤ maxLen) (hl : Lies w w.heap.size 25 A n (l.flatMap Fd.Turn.cells)) (hty : ∀ q ∈ l, q.ty) :
    Calls Tryz.prog 8 #[.string seed, .slice A n c, .int .i64 cut] w fun e w' => e = .returned (.bool true) ∧ Below w.heap.size w w' := by
  by_cases h20 : seed.size ≤ 20
  · have hs : (seed.size : Int) ≤ 20 := by omega
    by_cases hhi : n ≤ 30
    · have hn1 : (n : Int) ≤ 30 := by omega
      exact swap10_main seed l A n c cut w h20 hn hhi hl hty
    · have hn1 : ¬ (n : Int) ≤ 30 := by omega
      have ct := fun X => Lib.hid (told10_any X)
      clear hl hty hn hsz hn63
      go_enter Tryz.func8, Tryz.ntmps8
      go_wp2_with (go_at_call 11; ((with_reducible refine ((ct _).out).mono ?_); rintro e w1 ⟨rfl, hb⟩))
      go_ret
      exact ⟨rfl, hb⟩
  · have hs : ¬ (seed.size : Int) ≤ 20 := by omega
    have ct := fun X => Lib.hid (told10_any X)
    clear hl hty hn hsz hn63
    go_enter Tryz.func8, Tryz.ntmps8
    go_wp2_with (go_at_call 11; ((with_reducible refine ((ct _).out).mono ?_); rintro e w1 ⟨rfl, hb⟩))
    go_ret
    exact ⟨rfl, hb⟩
end Go.Proofs.YtiahpncglpfjeaaGreat
