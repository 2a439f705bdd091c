/-
Several texts in one: Lua Lub Lux Luc Hh Eo Tu.
-/
import Derived.Test.YtmiopphcfdlneaaGreatCx18
set_option maxRecDepth 100000
set_option maxHeartbeats 8000000
set_option linter.unusedVariables false
set_option linter.unusedSimpArgs false
namespace Qu
open Go Go.RowKit
def pg (m : M) (a : Int) : Option Value := if m.from_ <= a then (m.known (a - m.from_).toNat).map fun i => .agg (qao i) else none
def qbQ (f : Int) (i : Gm.In) (o : Option Nat) : Array Value := #[.int .i64 f, .int .i8 i.x, .int .i8 i.y, .int .u8 i.b, .map o]
theorem qkV {m : M} {a : Int} {v : Value} (h : pg m a = some v) : ∃ (d : Nat) (i : Gm.In), a = m.from_ + (d : Int) /\ m.known d = some i /\ v = .agg (qao i) := by
 unfold pg at h
 split at h
 · rename_i hle
   rw [Option.map_eq_some_iff] at h
   obtain ⟨i, h1, h2⟩ := h
   exact ⟨_, i, by omega, h1, h2.symm⟩
 · cases h
theorem qpq (m : M) (d : Nat) : pg m (m.from_ + (d : Int)) = (m.known d).map fun i => .agg (qao i) := by
 unfold pg
 rw [if_pos (by omega), show (m.from_ + (d : Int) - m.from_).toNat = d by omega]
theorem qqJ (f : Int) (i : Gm.In) (a : Int) : pg (new f i) a = none := by
 unfold pg
 split <;> rfl
theorem qqI {m : M} {f : Int} {i : Gm.In} (h : qbT m f i = true) (a : Int) : Go.Proofs.YtmiopphcfdlneaaGreat.updI (pg m) f (some (.agg (qao i))) a = pg (put m f i) a := by
 have hp : put m f i = { m with known := upd m.known (f - m.from_).toNat (some i) } := if_pos h
 rw [hp]
 unfold qbT at h
 rw [Bool.and_eq_true, Bool.and_eq_true] at h
 have hd := of_decide_eq_true h.1.2
 unfold Go.Proofs.YtmiopphcfdlneaaGreat.updI pg
 dsimp only
 by_cases ha : a = f
 · subst ha
   rw [if_pos rfl, if_pos hd.1, upd_same]
   rfl
 · rw [if_neg ha]
   by_cases hl : m.from_ <= a
   · rw [if_pos hl, if_pos hl, qam _ _ (by omega)]
   · rw [if_neg hl, if_neg hl]
theorem qqg {m : M} (ho : m.Ok) (i : Gm.In) (a : Int) : Go.Proofs.YtmiopphcfdlneaaGreat.updI (pg m) m.from_ none a = pg (done m i) a := by
 unfold Go.Proofs.YtmiopphcfdlneaaGreat.updI pg done
 dsimp only
 by_cases ha : a = m.from_
 · rw [if_pos ha, if_neg (by omega)]
 · rw [if_neg ha]
   by_cases hl : m.from_ <= a
   · rw [if_pos hl, if_pos (by omega)]
     have e : (a - m.from_).toNat = (a - (m.from_ + 1)).toNat + 1 := by omega
     rw [e]
     split
     · rfl
     · rename_i h63
       have hn : m.known ((a - (m.from_ + 1)).toNat + 1) = none := by
        cases hk : m.known ((a - (m.from_ + 1)).toNat + 1) with
        | none => rfl
        | some v =>
         have := (ho.known _ v hk).1
         omega
       rw [hn]
   · rw [if_neg hl, if_neg (by omega)]
theorem qpl (m : M) (f : Int) (i : Gm.In) : qbT m f i = (inB i && decide (m.from_ <= f /\ f - m.from_ <= 63) && !(pg m f).isSome) := by
 unfold qbT pg
 by_cases hl : m.from_ <= f
 · rw [if_pos hl]
   cases m.known (f - m.from_).toNat <;> rfl
 · rw [if_neg hl, decide_eq_false (show ¬ (m.from_ <= f /\ f - m.from_ <= 63) from fun h => hl h.1), Bool.and_false, Bool.false_and, Bool.false_and]
theorem qiX {m : M} {d k : Nat} {v : Gm.In} (hk : m.known k = some v) (hd : k < d) (hno : ∀ j, k < j -> j <= d -> m.known j = none) : ∀ n, k < n -> atN m d n = (v, false)
 | 0, h => absurd h (Nat.not_lt_zero _)
 | n + 1, h => by
  by_cases hn : n = k
  · rw [hn, qbX hk (by omega), decide_eq_false (by omega)]
  · by_cases hnd : n <= d
    · rw [qbY (hno n (by omega) hnd)]
      exact qiX hk hd hno n (by omega)
    · rw [qcF hnd]
      exact qiX hk hd hno n (by omega)
def Best (m : M) (f : Int) (left : Int -> Bool) (c : Int) (i : Gm.In) : Prop :=
 (c = m.from_ /\ i = m.last /\ ∀ a v, pg m a = some v -> left a = false -> ¬ a < f) \/
 (∃ d : Nat, c = m.from_ + (d : Int) /\ m.known d = some i /\ c < f /\ ∀ a v, pg m a = some v -> left a = false -> a < f -> a <= c)
theorem Best.start (m : M) (f : Int) : Best m f (fun a => (pg m a).isSome) m.from_ m.last := .inl ⟨rfl, rfl, fun a v h hl => by have hl' : (pg m a).isSome = false := hl; rw [h] at hl'; cases hl'⟩
theorem Best.takes {m : M} {f c : Int} {i j : Gm.In} {left : Int -> Bool} (h : Best m f left c i) {d : Nat} (hk : m.known d = some j) (hc : c <= m.from_ + (d : Int)) (hf : m.from_ + (d : Int) < f) : Best m f (fun b => left b && decide (b ≠ m.from_ + (d : Int))) (m.from_ + (d : Int)) j := by
 refine .inr ⟨d, rfl, hk, hf, fun a v ha hl haf => ?_⟩
 by_cases e : a = m.from_ + (d : Int)
 · omega
 · have hl' : left a = false := by
    have : (left a && decide (a ≠ m.from_ + (d : Int))) = false := hl
    rwa [decide_eq_true e, Bool.and_true] at this
   rcases h with ⟨_, _, h⟩ | ⟨_, _, _, _, h⟩
   · exact absurd haf (h a v ha hl')
   · exact Int.le_trans (h a v ha hl' haf) hc
theorem Best.stays {m : M} {f c : Int} {i : Gm.In} {left : Int -> Bool} (h : Best m f left c i) {d : Nat} (hn : ¬ (c <= m.from_ + (d : Int) /\ m.from_ + (d : Int) < f)) : Best m f (fun b => left b && decide (b ≠ m.from_ + (d : Int))) c i := by
 have H : ∀ a, (left a && decide (a ≠ m.from_ + (d : Int))) = false -> a ≠ m.from_ + (d : Int) -> left a = false := fun a hl e => by rwa [decide_eq_true e, Bool.and_true] at hl
 rcases h with ⟨h1, h2, h⟩ | ⟨k, h1, h2, h3, h⟩
 · refine .inl ⟨h1, h2, fun a v ha hl haf => ?_⟩
   by_cases e : a = m.from_ + (d : Int)
   · omega
   · exact h a v ha (H a hl e) haf
 · refine .inr ⟨k, h1, h2, h3, fun a v ha hl haf => ?_⟩
   by_cases e : a = m.from_ + (d : Int)
   · omega
   · exact h a v ha (H a hl e) haf
theorem Best.done {m : M} (ho : m.Ok) {f c : Int} {i : Gm.In} {left : Int -> Bool} (h : Best m f left c i) (hl : ∀ a, left a = false) (hf : pg m f = none) : at_ m f = (i, false) := by
 unfold at_
 by_cases hlow : f < m.from_
 · rw [if_pos hlow]
   rcases h with ⟨_, rfl, _⟩ | ⟨k, h1, _, h3, _⟩
   · rfl
   · omega
 · rw [if_neg hlow]
   have hn : m.known (f - m.from_).toNat = none := by
    have := qpq m (f - m.from_).toNat
    rw [show m.from_ + ((f - m.from_).toNat : Int) = f by omega, hf] at this
    cases hk : m.known (f - m.from_).toNat with
    | none => rfl
    | some v => rw [hk] at this; cases this
   rcases h with ⟨_, rfl, h⟩ | ⟨k, rfl, h2, h3, h⟩
   · refine qee fun j hj hjd => ?_
     cases hk : m.known j with
     | none => rfl
     | some v =>
      have hp := qpq m j
      rw [hk] at hp
      have := h _ _ hp (hl _)
      have : j = (f - m.from_).toNat := by omega
      rw [this, hn] at hk
      cases hk
   · refine qiX h2 (by omega) (fun j hj hjd => ?_) 64 ((ho.known k i h2).1)
     cases hk : m.known j with
     | none => rfl
     | some v =>
      have hp := qpq m j
      rw [hk] at hp
      by_cases hjf : m.from_ + (j : Int) < f
      · have := h _ _ hp (hl _) hjf
        omega
      · have : j = (f - m.from_).toNat := by omega
        rw [this, hn] at hk
        cases hk
theorem qpP {m : M} (ho : m.Ok) {d : Nat} {v : Gm.In} (h : m.known d = some v) : at_ m (m.from_ + (d : Int)) = (v, true) := by
 unfold at_
 rw [if_neg (by omega), show (m.from_ + (d : Int) - m.from_).toNat = d by omega]
 exact qkh h (ho.known d v h).1
end Qu
namespace Go.Proofs.YtmiopphcfdlneaaGreat
open Go.RowKit
structure PrgU (b : Nat) (F : Nat -> Prop) (B : Nat) (m : Qu.M) (X : World) : Prop where
 box : ∃ o, Box X B 129 (Qu.qbQ m.from_ m.last o) /\ GMap X o .i64 (Qu.pg m) /\ ∀ r, o = some r -> F r
 own : F B
 up : ∀ k, F k -> b <= k /\ k < X.heap.size
theorem PrgU.keep {b B : Nat} {F G : Nat -> Prop} {m : Qu.M} {X X' : World} (h : PrgU b F B m X) (k : qaB G X X') (hd : ∀ j, F j -> ¬ G j) : PrgU b F B m X' := by
 obtain ⟨o, hB, hM, hF⟩ := h.box
 exact ⟨⟨o, ⟨(k.block B hB.lt (hd B h.own)).trans hB.is⟩, hM.same fun r e => k.block r (hM.lt e) (hd r (hF r e)), hF⟩, h.own, fun j hj => ⟨(h.up j hj).1, Nat.lt_of_lt_of_le (h.up j hj).2 k.size⟩⟩
theorem qq0 : ObjC PrgU := ⟨fun h => h.up, fun h k hd => h.keep k hd⟩
theorem qpi (f x y b : Int) : Tryz.prog.built 129 [(0, .int .i64 f), (1, .agg #[.int .i8 x, .int .i8 y, .int .u8 b])] = some (Qu.qbQ f ⟨x, y, b⟩ none) := by kernel_rfl
theorem qn1 (b : Nat) (f : Int) (i : Gm.In) (X : World) (hb : b <= X.heap.size) :
 Calls Tryz.prog 35 #[.int .i64 f, .agg (Qu.qao i)] X fun e X' => ∃ B F, e = .returned (.pointer (some ⟨B, 0, none⟩)) /\ PrgU b F B (Qu.new f i) X' /\ Below X.heap.size X X' /\ ∀ k, F k -> X.heap.size <= k := by
 obtain ⟨x, y, p⟩ := i
 have hbu := qpi f x y p
 have R := qh (show PrgU b (fun k => k = X.heap.size + 1) (X.heap.size + 1) (Qu.new f ⟨x, y, p⟩) ((X.alloc (.cells #[.int .i8 x, .int .i8 y, .int .u8 p] 48)).alloc (.cells (Qu.qbQ f ⟨x, y, p⟩ none) 129)) from
  ⟨⟨none, Box.qaq _ _ _ (by simp), .inl ⟨rfl, Qu.qqJ _ _⟩, fun r e => by cases e⟩, rfl, fun k hk => by subst hk; simp; omega⟩)
 have K := qh (show Below X.heap.size X ((X.alloc (.cells #[.int .i8 x, .int .i8 y, .int .u8 p] 48)).alloc (.cells (Qu.qbQ f ⟨x, y, p⟩ none) 129)) from
  (qac X _).trans ((qac _ _).mono (by simp)))
 show Calls Tryz.prog _ #[.int .i64 f, .agg #[.int .i8 x, .int .i8 y, .int .u8 p]] X _
 go_enter Tryz.func35, Tryz.ntmps35
 go_wp2_with (refine qaT rfl (t := 129) (vs := [(0, .int .i64 f), (1, .agg #[.int .i8 x, .int .i8 y, .int .u8 p])]) rfl rfl hbu ?_)
 go_ret
 exact ⟨X.heap.size + 1, _, rfl, R.out, K.out, fun k hk => by subst hk; omega⟩
theorem qnZ (f x y b : Int) (X : World) : Calls Tryz.prog 58 #[.pointer none, .int .i64 f, .agg #[.int .i8 x, .int .i8 y, .int .u8 b]] X fun e X' => e = .returned (.bool false) /\ Below X.heap.size X X' := by
 go_enter Tryz.func58, Tryz.ntmps58
 go_wp2
 go_ret
 exact ⟨rfl, qac _ _⟩
theorem qpg (f : Int) (X : World) : Calls Tryz.prog 86 #[.pointer none, .int .i64 f] X fun e X' => e = .returned (.tuple #[.agg #[.int .i8 0, .int .i8 0, .int .u8 0], .bool false]) /\ Below X.heap.size X X' := by
 have p0 := qh (Box.made X 48 #[.int .i8 0, .int .i8 0, .int .u8 0])
 have b0 := qh (qac X (.cells #[.int .i8 0, .int .i8 0, .int .u8 0] 48))
 go_enter Tryz.func86, Tryz.ntmps86
 go_wp2
 refine bodyPost_ret (v := .tuple #[.agg (Qu.qao ⟨0, 0, 0⟩), .bool false]) ?_ ?_ ?_
 · exact results_cell_tmp (p := 4) (q := 5) rfl _ _ _ _ (Qu.qao ⟨0, 0, 0⟩) _ rfl p0.out Tryz.underlying48 rfl qf6
 · rfl
 · exact ⟨rfl, b0.out⟩
theorem qpj (i : Gm.In) (hi : Gm.tyIn i) (X : World) : Calls Tryz.prog 98 #[.agg (Qu.qao i)] X fun e X' => e = .returned (.bool (Qu.inB i)) /\ Below X.heap.size X X' := by
 rw [Qu.qqN]
 obtain ⟨x, y, p⟩ := i
 obtain ⟨wx, wy, wp⟩ := hi
 dsimp only at wx wy wp
 show Calls Tryz.prog _ #[.agg #[.int .i8 x, .int .i8 y, .int .u8 p]] X _
 clear wp
 go_enter Tryz.func98, Tryz.ntmps98
 go_wp2
 all_goals
  go_ret
  exact ⟨qal (by rw [Bool.eq_iff_iff]; simp_all <;> omega), qac _ _⟩
theorem qoY (f t : Int) (hf : -9223372036854775808 <= f /\ f <= 9223372036854775807) (ht : -9223372036854775808 <= t /\ t <= 9223372036854775807) (h : t <= f) :
 IntKind.u64.wrap (IntKind.u64.wrap f - IntKind.u64.wrap t) = f - t := by
 rw [IntKind.wrap_u64, IntKind.wrap_u64, IntKind.wrap_u64]
 omega
theorem qmy (B : Nat) (m : Qu.M) (ho : m.Ok) (o : Option Nat) (f : Int) (hf : -9223372036854775808 <= f /\ f <= 9223372036854775807) (X : World) (hB : Box X B 129 (Qu.qbQ m.from_ m.last o)) :
 Calls Tryz.prog 99 #[.pointer (some ⟨B, 0, none⟩), .int .i64 f] X fun e X' => e = .returned (.bool (decide (m.from_ <= f /\ f - m.from_ <= 63))) /\ Below X.heap.size X X' := by
 have k0 : X.cell? ⟨B, 0, none⟩ = some (.int .i64 m.from_) := hB.cell 0
 have ht := ho.from_
 clear hB ho
 generalize m.from_ = t at *
 by_cases hl : t <= f
 · have hg := qoY f t hf (by omega) hl
   obtain ⟨d, hd⟩ : ∃ d, f - t = d := ⟨_, rfl⟩
   rw [hd] at hg ⊢
   have e : decide (t <= f /\ d <= 63) = decide (d < 64) := by rw [Bool.eq_iff_iff]; simp; omega
   rw [e]
   clear hd e hf ht
   go_enter Tryz.func99, Tryz.ntmps99
   go_wp2
   all_goals
    go_ret
    exact ⟨qal (by simp_all), Below.refl _ _⟩
 · rw [decide_eq_false (show ¬ (t <= f /\ f - t <= 63) from fun h => hl h.1)]
   clear hf ht
   go_enter Tryz.func99, Tryz.ntmps99
   go_wp2
   go_ret
   exact ⟨qal (by simp_all), Below.refl _ _⟩
theorem qop (w : World) : (zeroValue 48).run Tryz.prog w = .ok (.agg (Qu.qao ⟨0, 0, 0⟩)) w := by
 unfold Qu.qao
 go_simp
theorem qkS (B : Nat) (m : Qu.M) (o : Option Nat) (f : Int) (X : World) (hB : Box X B 129 (Qu.qbQ m.from_ m.last o)) (hM : GMap X o .i64 (Qu.pg m)) :
 Calls Tryz.prog 100 #[.pointer (some ⟨B, 0, none⟩), .int .i64 f] X fun e X' => e = .returned (.bool (Qu.pg m f).isSome) /\ Below X.heap.size X X' := by
 have k4 : X.cell? ⟨B, 4, none⟩ = some (.map o) := hB.cell 4
 have hl := hM.look (P := Tryz.prog) (mt := 127) Tryz.underlying127 Tryz.underlying3 qop f
 obtain ⟨x, y, p, hx⟩ : ∃ x y p, (Qu.pg m f).getD (.agg (Qu.qao ⟨0, 0, 0⟩)) = .agg #[.int .i8 x, .int .i8 y, .int .u8 p] := by
  cases h : Qu.pg m f with
  | none => exact ⟨0, 0, 0, rfl⟩
  | some v => obtain ⟨d, i, _, _, rfl⟩ := Qu.qkV h; exact ⟨i.x, i.y, i.b, rfl⟩
 rw [hx] at hl
 generalize (Qu.pg m f).isSome = v at *
 have K := qh (qac X (.cells #[.int .i8 x, .int .i8 y, .int .u8 p] 48))
 clear hB hM hx
 go_enter Tryz.func100, Tryz.ntmps100
 go_wp2
 go_ret
 exact ⟨rfl, K.out⟩
theorem in_kept {w : World} {P k : Nat} (h : k ≠ P) (u v x : Value) : (((w.setCell ⟨P, 0, none⟩ u).setCell ⟨P, 1, none⟩ v).setCell ⟨P, 2, none⟩ x).heap[k]? = w.heap[k]? :=
 ((heap_setCell_other _ ⟨P, 2, none⟩ k x h).trans (heap_setCell_other _ ⟨P, 1, none⟩ k v h)).trans (heap_setCell_other _ ⟨P, 0, none⟩ k u h)
theorem qjx (B : Nat) (m : Qu.M) (ho : m.Ok) (o : Option Nat) (f : Int) (hno : Qu.pg m f = none) (X : World) (hB : Box X B 129 (Qu.qbQ m.from_ m.last o)) (hM : GMap X o .i64 (Qu.pg m)) :
 Calls Tryz.prog 118 #[.pointer (some ⟨B, 0, none⟩), .int .i64 f] X fun e X' => e = .returned (.agg (Qu.qao (Qu.at_ m f).1)) /\ Below X.heap.size X X' := by
 have k0 : X.cell? ⟨B, 0, none⟩ = some (.int .i64 m.from_) := hB.cell 0
 have k1 : X.cell? ⟨B, 1, none⟩ = some (.int .i8 m.last.x) := hB.cell 1
 have k2 : X.cell? ⟨B, 2, none⟩ = some (.int .i8 m.last.y) := hB.cell 2
 have k3 : X.cell? ⟨B, 3, none⟩ = some (.int .u8 m.last.b) := hB.cell 3
 have lB := hB.lt
 have HB := qh hB
 have HM := qh hM
 clear hB hM
 go_enter Tryz.func118, Tryz.ntmps118
 go_upto_region 1 with fail
 obtain ⟨X1, hX1⟩ : ∃ X1, X1 = X.alloc (.cells #[.int .i8 0, .int .i8 0, .int .u8 0] 48) := ⟨_, rfl⟩
 rw [<- hX1]
 have b1 := qh (show Below X.heap.size X X1 by rw [hX1]; exact qac X _)
 have p0 := qh (show Box X1 X.heap.size 48 #[.int .i8 0, .int .i8 0, .int .u8 0] by rw [hX1]; exact Box.made X _ _)
 have s1 : X1.heap.size = X.heap.size + 1 := by rw [hX1]; simp
 have B1 := qh (HB.out.below b1.out lB)
 have M1 := qh (HM.out.below b1.out (fun r e => HM.out.lt e))
 have S1 := qh s1
 have LB := qh lB
 have LR := qh (show ∀ r, o = some r -> r < X.heap.size from fun r e => HM.out.lt e)
 clear hX1 k0 k1 k2 k3 s1 lB
 have BD := qh B1.out
 have k0 : X1.cell? ⟨B, 0, none⟩ = some (.int .i64 m.from_) := BD.out.cell 0
 have k1 : X1.cell? ⟨B, 1, none⟩ = some (.int .i8 m.last.x) := BD.out.cell 1
 have k2 : X1.cell? ⟨B, 2, none⟩ = some (.int .i8 m.last.y) := BD.out.cell 2
 have k3 : X1.cell? ⟨B, 3, none⟩ = some (.int .u8 m.last.b) := BD.out.cell 3
 have lB : B < X1.heap.size := B1.out.lt
 obtain ⟨lx, hlx⟩ : ∃ lx, lx = m.last.x := ⟨_, rfl⟩
 obtain ⟨ly, hly⟩ : ∃ ly, ly = m.last.y := ⟨_, rfl⟩
 obtain ⟨lb, hlb⟩ : ∃ lb, lb = m.last.b := ⟨_, rfl⟩
 rw [<- hlx] at k1
 rw [<- hly] at k2
 rw [<- hlb] at k3
 go_region
 have B2 := qh (show Box (X1.alloc (.cells (Qu.qao m.last) 48)).drew B 129 (Qu.qbQ m.from_ m.last o) from (B1.out.alloc _).drew)
 have M2 := qh (show GMap (X1.alloc (.cells (Qu.qao m.last) 48)).drew o .i64 (Qu.pg m) from M1.out.below (Below.drew (qac X1 _)) (fun r e => M1.out.lt e))
 have p5 := qh (show Box (X1.alloc (.cells (Qu.qao m.last) 48)).drew X1.heap.size 48 (Qu.qao m.last) from (Box.made X1 _ _).drew)
 have p4 := qh (show Box (X1.alloc (.cells (Qu.qao m.last) 48)).drew X.heap.size 48 #[.int .i8 0, .int .i8 0, .int .u8 0] from (p0.out.alloc _).drew)
 have b2 := qh (show Below X.heap.size X (X1.alloc (.cells (Qu.qao m.last) 48)).drew from b1.out.trans ((Below.drew (qac X1 _)).mono b1.out.size))
 have S2 := qh (show (X1.alloc (.cells (Qu.qao m.last) 48)).drew.heap.size = X1.heap.size + 1 by simp)
 unfold Qu.qao at B2 M2 p5 p4 b2 S2
 clear BD k0 k1 k2 k3 lB p0 b1 B1 M1 hlx hly hlb
 generalize (X1.alloc (.cells #[.int .i8 m.last.x, .int .i8 m.last.y, .int .u8 m.last.b] 48)).drew = X2 at *
 have k4 : X2.cell? ⟨B, 4, none⟩ = some (.map o) := B2.out.cell 4
 obtain ⟨it, hrg, n0, hg0⟩ := M2.out.range (P := Tryz.prog) (mt := 127) Tryz.underlying127
 have G0 := qh hg0
 have b3 := qh (show Below X.heap.size X (X2.alloc it) from b2.out.trans ((qac X2 it).mono b2.out.size))
 have q5 := qh (p5.out.alloc it)
 have q4 := qh (p4.out.alloc it)
 have R2 := qh (show ∀ r, o = some r -> r < X.heap.size from LR.out)
 have Z2 := qh (show X.heap.size + 1 < X2.heap.size /\ X1.heap.size = X.heap.size + 1 by have := S1.out; have := S2.out; omega)
 have HF := qh hno
 have HO := qh ho
 clear hg0 hno ho
 obtain ⟨P5, hP5⟩ : ∃ P5, P5 = X1.heap.size := ⟨_, rfl⟩
 obtain ⟨T, hT⟩ : ∃ T, T = X2.heap.size := ⟨_, rfl⟩
 rw [<- hP5] at p5 q5 Z2 S2 ⊢
 rw [<- hT] at G0 Z2 hrg S2
 clear B2 M2 p5 p4 b2 S1 S2 LR HB HM hP5
 have F0 := qh (Qu.Best.start m f)
 generalize m.from_ = t0 at *
 generalize m.last = i0 at *
 clear hT
 go_wp2_with fail
 go_loopw [6] (fun s wr => ∃ (c : Int) (i : Gm.In) (left : Int -> Bool) (n : Nat), s = .int .i64 c /\ GGo wr o T .i64 (Qu.pg m) left n /\ Qu.Best m f left c i /\ Box wr P5 48 (Qu.qao i) /\ Box wr X.heap.size 48 #[.int .i8 0, .int .i8 0, .int .u8 0] /\ Below X.heap.size X wr) (fun _ wr => wr.rangeLeft (o.getD T) T)
 case atStart => exact ⟨_, _, _, _, rfl, G0.out, F0.out, q5.out, q4.out, b3.out⟩
 case round =>
  obtain ⟨c, i, left, n, rfl, hG, hF, h5, h4, hW⟩ := hrel
  have HF1 := qh hF
  have HG := qh hG
  have H5 := qh h5
  have H4 := qh h4
  have HW := qh hW
  clear hF hG h5 h4 hW q5 q4 b3 G0 F0 hrg k4
  rcases HG.out.next (P := Tryz.prog) 0 with ⟨hno, hrun⟩ | ⟨a, v, W1, n1, hla, hga, hrun, hen, hG1, hn1, hO, hz⟩
  · have hnx : ∀ ty, (Instr.next (.pointer (some ⟨T, 0, none⟩)) false ty).run Tryz.prog wr = .ok (.tuple #[.bool false]) wr := fun _ => hrun
    have hat := qh (HF1.out.done HO.out hno HF.out)
    have r0 : wr.cell? ⟨P5, 0, none⟩ = some (.int .i8 i.x) := H5.out.cell 0
    have r1 : wr.cell? ⟨P5, 1, none⟩ = some (.int .i8 i.y) := H5.out.cell 1
    have r2 : wr.cell? ⟨P5, 2, none⟩ = some (.int .u8 i.b) := H5.out.cell 2
    have z0 : wr.cell? ⟨X.heap.size, 0, none⟩ = some (.int .i8 0) := H4.out.cell 0
    have z1 : wr.cell? ⟨X.heap.size, 1, none⟩ = some (.int .i8 0) := H4.out.cell 1
    have z2 : wr.cell? ⟨X.heap.size, 2, none⟩ = some (.int .u8 0) := H4.out.cell 2
    have fr := H4.out.free
    have lr := H4.out.lt
    have E := qh (qeO H4.out i)
    have K := qh (qe3 HW.out (Nat.le_refl _) (.int .i8 i.x) (.int .i8 i.y) (.int .u8 i.b))
    clear hrun hno HF1 HG H5 H4 HW
    go_wp2_with fail
    refine bodyPost_ret (v := .agg (Qu.qao i)) ?_ ?_ ?_
    · exact results_cell_row rfl _ _ _ _ (Qu.qao i) (0, 0) _ rfl E.out.is Tryz.underlying48 rfl qf6
    · rfl
    · exact ⟨by rw [hat.out], K.out⟩
  · obtain ⟨d, j, rfl, hk, rfl⟩ := Qu.qkV hga
    have hnx : ∀ ty, (Instr.next (.pointer (some ⟨T, 0, none⟩)) false ty).run Tryz.prog wr = .ok (.tuple #[.bool true, .int .i64 (m.from_ + (d : Int)), .agg (Qu.qao j)]) W1 := fun _ => hrun
    have Z1 := qh (show X.heap.size < T /\ P5 < T /\ P5 ≠ X.heap.size /\ X.heap.size <= P5 by have := Z2.out; omega)
    have HK := qh hk
    have LT := qh HG.out.lt
    have N1 := qh hn1
    have LQ := qh HG.out.left_eq
    have V5 := qh (hO.box H5.out (by have := Z1.out; omega))
    have V4 := qh (hO.box H4.out (by have := Z1.out; omega))
    have VW := qh (HW.out.trans (hO.below (by have := Z1.out; omega) HW.out.size))
    have VG := qh hG1
    have HZ := qh hz
    -- the round's own variable
    have hbw := qac W1 (.cells (Qu.qao j) 48)
    have LV := qh (show ∀ r, o = some r -> r < W1.heap.size from fun r e => by have := R2.out r e; have := VW.out.size; omega)
    have U5 := qh (V5.out.alloc (.cells (Qu.qao j) 48))
    have U4 := qh (V4.out.alloc (.cells (Qu.qao j) 48))
    have UW := qh (VW.out.trans (hbw.mono VW.out.size))
    have UG := qh (VG.out.below hbw VG.out.lt LV.out)
    have U8 := qh (Box.made W1 48 (Qu.qao j))
    clear hbw hrun hga hla hk hn1 hO hz hG1 V5 V4 VW VG H5 H4 HW HG
    unfold Qu.qao at hnx hen U5 U4 UW UG U8
    obtain ⟨fr1, hfr⟩ : ∃ fr1, fr1 = m.from_ + (d : Int) := ⟨_, rfl⟩
    rw [<- hfr] at hnx hen UG
    have HJ := qh hfr
    clear hfr
    go_upto_region 5 with fail
    generalize W1.alloc (.cells #[.int .i8 j.x, .int .i8 j.y, .int .u8 j.b] 48) = W8 at *
    have r0 : W8.cell? ⟨W1.heap.size, 0, none⟩ = some (.int .i8 j.x) := U8.out.cell 0
    have r1 : W8.cell? ⟨W1.heap.size, 1, none⟩ = some (.int .i8 j.y) := U8.out.cell 1
    have r2 : W8.cell? ⟨W1.heap.size, 2, none⟩ = some (.int .u8 j.b) := U8.out.cell 2
    have z0 : W8.cell? ⟨P5, 0, none⟩ = some (.int .i8 i.x) := U5.out.cell 0
    have z1 : W8.cell? ⟨P5, 1, none⟩ = some (.int .i8 i.y) := U5.out.cell 1
    have z2 : W8.cell? ⟨P5, 2, none⟩ = some (.int .u8 i.b) := U5.out.cell 2
    have fr := U5.out.free
    have lr := U5.out.lt
    by_cases hc : c <= fr1
    · by_cases hf : fr1 < f
      · have B := qh (HF1.out.takes HK.out (by rw [<- HJ.out]; exact hc) (by rw [<- HJ.out]; exact hf))
        rw [<- HJ.out] at B
        have E := qh (qeO U5.out j)
        have K := qh (qe3 UW.out Z1.out.2.2.2 (.int .i8 j.x) (.int .i8 j.y) (.int .u8 j.b))
        have E4 := qh (qqq (P := P5) U4.out (by have := Z1.out; omega) (.int .i8 j.x) (.int .i8 j.y) (.int .u8 j.b))
        have EG := qh (show GGo (((W8.setCell ⟨P5, 0, none⟩ (.int .i8 j.x)).setCell ⟨P5, 1, none⟩ (.int .i8 j.y)).setCell ⟨P5, 2, none⟩ (.int .u8 j.b)) o T .i64 _ _ n1 from
         UG.out.same (fun r e => in_kept (by have := R2.out r e; have := Z1.out; omega) _ _ _) (in_kept (by have := Z1.out; omega) _ _ _))
        go_wp2_with fail
        go_roundw
        case rel => exact ⟨_, j, _, n1, rfl, EG.out, B.out, E.out, E4.out, K.out⟩
        case measure => rw [EG.out.left_eq, LQ.out]; exact N1.out
      · have B := qh (HF1.out.stays (d := d) (by rw [<- HJ.out]; exact fun h => hf h.2))
        rw [<- HJ.out] at B
        go_wp2_with fail
        go_roundw
        case rel => exact ⟨_, i, _, n1, rfl, UG.out, B.out, U5.out, U4.out, UW.out⟩
        case measure => rw [UG.out.left_eq, LQ.out]; exact N1.out
    · have B := qh (HF1.out.stays (d := d) (by rw [<- HJ.out]; exact fun h => hc h.1))
      rw [<- HJ.out] at B
      go_wp2_with fail
      go_roundw
      case rel => exact ⟨_, i, _, n1, rfl, UG.out, B.out, U5.out, U4.out, UW.out⟩
      case measure => rw [UG.out.left_eq, LQ.out]; exact N1.out
end Go.Proofs.YtmiopphcfdlneaaGreat
namespace Qu
open Go Go.RowKit
theorem qlt {m : M} {f : Int} (h : pg m f = none) : (at_ m f).2 = false := by
 unfold at_
 by_cases hl : f < m.from_
 · rw [if_pos hl]
 · rw [if_neg hl]
   have hp := qpq m (f - m.from_).toNat
   rw [show m.from_ + ((f - m.from_).toNat : Int) = f by omega, h] at hp
   have hk : m.known (f - m.from_).toNat = none := by
    cases hk : m.known (f - m.from_).toNat with
    | none => rfl
    | some v => rw [hk] at hp; cases hp
   by_cases h0 : 0 < (f - m.from_).toNat
   · exact (qnc (n := 64) hk).2 h0
   · have : (f - m.from_).toNat < 64 := by omega
     rw [qpQ this, hk]
     rfl
end Qu
namespace Go.Proofs.YtmiopphcfdlneaaGreat
open Go.RowKit
theorem qph (b : Nat) (F : Nat -> Prop) (B : Nat) (m : Qu.M) (ho : m.Ok) (f : Int) (X : World) (h : PrgU b F B m X) :
 Calls Tryz.prog 86 #[.pointer (some ⟨B, 0, none⟩), .int .i64 f] X fun e X' => e = .returned (.tuple #[.agg (Qu.qao (Qu.at_ m f).1), .bool (Qu.at_ m f).2]) /\ Below X.heap.size X X' := by
 obtain ⟨o, hB, hM, hF⟩ := h.box
 obtain ⟨X1, hX1⟩ : ∃ X1, X1 = X.alloc (.cells #[.int .i8 0, .int .i8 0, .int .u8 0] 48) := ⟨_, rfl⟩
 have hb1 : Below X.heap.size X X1 := by rw [hX1]; exact qac X _
 have hB1 := hB.below hb1 hB.lt
 have hM1 := hM.below hb1 (fun r e => hM.lt e)
 have p0 := qh (show Box X1 X.heap.size 48 #[.int .i8 0, .int .i8 0, .int .u8 0] by rw [hX1]; exact Box.made X _ _)
 have s1 := qh (show X1.heap.size = X.heap.size + 1 by rw [hX1]; simp)
 have hl := hM1.look (P := Tryz.prog) (mt := 127) Tryz.underlying127 Tryz.underlying3 qop f
 have k4 : X1.cell? ⟨B, 4, none⟩ = some (.map o) := hB1.cell 4
 have b1 := qh hb1
 have B1 := qh hB1
 have M1 := qh hM1
 have HX := qh hX1
 clear hX1 hb1 hB1 hM1 hB hM hF h
 cases hp : Qu.pg m f with
 | some v =>
  obtain ⟨d, i, rfl, hk, rfl⟩ := Qu.qkV hp
  have HA := qh (Qu.qpP ho hk)
  rw [hp] at hl
  replace hl : (Instr.lookup 127 (.map o) (.int .i64 (m.from_ + (d : Int))) true).run Tryz.prog X1 = .ok (.tuple #[.agg #[.int .i8 i.x, .int .i8 i.y, .int .u8 i.b], .bool true]) X1 := hl
  have p1 := qh (p0.out.alloc (.cells (Qu.qao i) 48))
  have q1 := qh (Box.made X1 48 (Qu.qao i))
  have b2 := qh (show Below X.heap.size X (X1.alloc (.cells (Qu.qao i) 48)) from b1.out.trans ((qac X1 _).mono b1.out.size))
  unfold Qu.qao at p1 q1 b2
  clear p0 b1 B1 M1 hp hk ho
  rw [HA.out]
  clear HA
  generalize m.from_ + (d : Int) = g at *
  go_enter Tryz.func86, Tryz.ntmps86
  go_upto_region 3 with fail
  rw [<- HX.out]
  go_upto_region 5 with fail
  generalize X1.alloc (.cells #[.int .i8 i.x, .int .i8 i.y, .int .u8 i.b] 48) = X2 at *
  have r0 : X2.cell? ⟨X1.heap.size, 0, none⟩ = some (.int .i8 i.x) := q1.out.cell 0
  have r1 : X2.cell? ⟨X1.heap.size, 1, none⟩ = some (.int .i8 i.y) := q1.out.cell 1
  have r2 : X2.cell? ⟨X1.heap.size, 2, none⟩ = some (.int .u8 i.b) := q1.out.cell 2
  have z0 : X2.cell? ⟨X.heap.size, 0, none⟩ = some (.int .i8 0) := p1.out.cell 0
  have z1 : X2.cell? ⟨X.heap.size, 1, none⟩ = some (.int .i8 0) := p1.out.cell 1
  have z2 : X2.cell? ⟨X.heap.size, 2, none⟩ = some (.int .u8 0) := p1.out.cell 2
  have fr := p1.out.free
  have lr := p1.out.lt
  have E := qh (qeO p1.out i)
  have K := qh (qe3 b2.out (Nat.le_refl _) (.int .i8 i.x) (.int .i8 i.y) (.int .u8 i.b))
  go_wp2_with fail
  refine bodyPost_ret (v := .tuple #[.agg (Qu.qao i), .bool true]) ?_ ?_ ?_
  · exact results_cell_tmp (p := 4) (q := 5) rfl _ _ _ _ (Qu.qao i) _ rfl E.out Tryz.underlying48 rfl qf6
  · rfl
  · exact ⟨rfl, K.out⟩
 | none =>
  rw [hp] at hl
  replace hl : (Instr.lookup 127 (.map o) (.int .i64 f) true).run Tryz.prog X1 = .ok (.tuple #[.agg #[.int .i8 0, .int .i8 0, .int .u8 0], .bool false]) X1 := hl
  have cb := qh (qjx B m ho o f hp (X1.alloc (.cells #[.int .i8 0, .int .i8 0, .int .u8 0] 48)) (B1.out.alloc _) (M1.out.below (qac X1 _) (fun r e => M1.out.lt e)))
  have H2 := qh (Qu.qlt hp)
  have p1 := qh (p0.out.alloc (.cells #[.int .i8 0, .int .i8 0, .int .u8 0] 48))
  have b2 := qh (show Below X.heap.size X (X1.alloc (.cells #[.int .i8 0, .int .i8 0, .int .u8 0] 48)) from b1.out.trans ((qac X1 _).mono b1.out.size))
  rw [H2.out]
  generalize (Qu.at_ m f).1 = i at *
  obtain ⟨ix, iy, ib⟩ := i
  unfold Qu.qao at cb
  clear p0 b1 B1 M1 hp ho H2
  go_enter Tryz.func86, Tryz.ntmps86
  go_upto_region 3 with fail
  rw [<- HX.out]
  go_upto_region 6 with fail
  generalize X1.alloc (.cells #[.int .i8 0, .int .i8 0, .int .u8 0] 48) = X2 at *
  go_wp2_with (go_at_call 118; ((with_reducible refine ((cb).out).mono ?_); rintro e X3 ⟨rfl, hb3⟩; have p3 := qh (p1.out.below hb3 p1.out.lt); have z0 := p3.out.cell 0; have z1 := p3.out.cell 1; have z2 := p3.out.cell 2; have fr := p3.out.free; have lr := p3.out.lt; have E := qh (qeO p3.out ⟨ix, iy, ib⟩); have K := qh (qe3 (b2.out.trans (hb3.mono b2.out.size)) (Nat.le_refl _) (.int .i8 ix) (.int .i8 iy) (.int .u8 ib)); clear hb3))
  refine bodyPost_ret (v := .tuple #[.agg (Qu.qao ⟨ix, iy, ib⟩), .bool false]) ?_ ?_ ?_
  · exact results_cell_tmp (p := 4) (q := 5) rfl _ _ _ _ (Qu.qao ⟨ix, iy, ib⟩) _ rfl E.out Tryz.underlying48 rfl qf6
  · rfl
  · exact ⟨rfl, K.out⟩
theorem qpE {w : World} {P k : Nat} (h : k ≠ P) (u v x y : Value) : ((((w.setCell ⟨P, 1, none⟩ u).setCell ⟨P, 2, none⟩ v).setCell ⟨P, 3, none⟩ x).setCell ⟨P, 0, none⟩ y).heap[k]? = w.heap[k]? :=
 (((heap_setCell_other _ ⟨P, 0, none⟩ k y h).trans (heap_setCell_other _ ⟨P, 3, none⟩ k x h)).trans (heap_setCell_other _ ⟨P, 2, none⟩ k v h)).trans (heap_setCell_other _ ⟨P, 1, none⟩ k u h)
theorem qmz (b : Nat) (F : Nat -> Prop) (B : Nat) (m : Qu.M) (ho : m.Ok) (hm : m.from_ < 1099511627776) (i : Gm.In) (X : World) (h : PrgU b F B m X) (hb : b <= X.heap.size) :
 Calls Tryz.prog 102 #[.pointer (some ⟨B, 0, none⟩), .agg (Qu.qao i)] X (qbN PrgU b F B (Qu.done m i) (.tuple #[]) X) := by
 obtain ⟨o, hB, hM, hF⟩ := h.box
 have HU := qh h
 obtain ⟨X1, hX1⟩ : ∃ X1, X1 = X.alloc (.cells (Qu.qao i) 48) := ⟨_, rfl⟩
 have hb1 : Below X.heap.size X X1 := by rw [hX1]; exact qac X _
 have hB1 := hB.below hb1 hB.lt
 have hM1 := hM.below hb1 (fun r e => hM.lt e)
 have p0 := qh (show Box X1 X.heap.size 48 (Qu.qao i) by rw [hX1]; exact Box.made X _ _)
 have hd1 : Below X1.heap.size X1 X1.drew := Below.drew (Below.refl _ _)
 have hMd := hM1.below hd1 (fun r e => hM1.lt e)
 obtain ⟨X2, hdel0, hM2, hK2, hz2⟩ := hMd.del (P := Tryz.prog) (mt := 127) (kt := 3) (et := 48) Tryz.underlying127 Tryz.underlying3 m.from_ 3 0
 have hdel : ∀ ty, (Builtin.delete_ #[127, 3] ty #[.map o, .int .i64 m.from_]).run Tryz.prog X1.drew = .ok (.tuple #[]) X2 := fun _ => hdel0
 have hne := hM1.box hB1
 have B2 := qh (show Box X2 B 129 (Qu.qbQ m.from_ m.last o) from ⟨(hK2.block B hB1.lt (fun e => hne B e rfl)).trans hB1.drew.is⟩)
 have hne0 := hM1.box p0.out
 have p2 := qh (show Box X2 X.heap.size 48 (Qu.qao i) from ⟨(hK2.block _ p0.out.lt (fun e => hne0 _ e rfl)).trans p0.out.drew.is⟩)
 have K2 := qh (show qaB F X X2 from ((qaB.refl F X).call (hb1.trans (hd1.mono hb1.size))).trans hK2 fun j e => .inl (hF j e))
 have M2 := qh (hM2.congr (Qu.qqg ho i))
 have hw := show IntKind.i64.wrap (m.from_ + 1) = m.from_ + 1 by rw [IntKind.wrap_i64]; have := ho.from_; omega
 have k4 : X1.cell? ⟨B, 4, none⟩ = some (.map o) := hB1.cell 4
 have k0 : X1.cell? ⟨B, 0, none⟩ = some (.int .i64 m.from_) := hB1.cell 0
 have HX := qh hX1
 have HF := qh hF
 have HN := qh hne
 have l1 : B < X1.heap.size := hB1.lt
 have F1 := qh (show Qu.done m i = ⟨m.from_ + 1, i, (Qu.done m i).known⟩ from rfl)
 clear hX1 hb1 hB1 hM1 hd1 hMd hM2 hK2 hz2 hne hne0 hB hM hF hdel0 h ho p0 hm
 obtain ⟨ix, iy, ib⟩ := i
 unfold Qu.qao at p2 HX
 dsimp only at p2 HX
 go_enter Tryz.func102, Tryz.ntmps102
 go_upto_region 2 with fail
 unfold Qu.qao
 dsimp only
 rw [<- HX.out]
 generalize m.from_ = t at *
 go_region
 have z0 : X2.cell? ⟨B, 0, none⟩ = some (.int .i64 t) := B2.out.cell 0
 have z1 : X2.cell? ⟨B, 1, none⟩ = some (.int .i8 m.last.x) := B2.out.cell 1
 have z2 : X2.cell? ⟨B, 2, none⟩ = some (.int .i8 m.last.y) := B2.out.cell 2
 have z3 : X2.cell? ⟨B, 3, none⟩ = some (.int .u8 m.last.b) := B2.out.cell 3
 have fr := B2.out.free
 have lr := B2.out.lt
 have c0 : X2.cell? ⟨X.heap.size, 0, none⟩ = some (.int .i8 ix) := p2.out.cell 0
 have c1 : X2.cell? ⟨X.heap.size, 1, none⟩ = some (.int .i8 iy) := p2.out.cell 1
 have c2 : X2.cell? ⟨X.heap.size, 2, none⟩ = some (.int .u8 ib) := p2.out.cell 2
 have R1 := qh (show Box ((((X2.setCell ⟨B, 1, none⟩ (.int .i8 ix)).setCell ⟨B, 2, none⟩ (.int .i8 iy)).setCell ⟨B, 3, none⟩ (.int .u8 ib)).setCell ⟨B, 0, none⟩ (.int .i64 (t + 1))) B 129 (Qu.qbQ (t + 1) ⟨ix, iy, ib⟩ o) from (((B2.out.put 1 (.int .i8 ix)).put 2 (.int .i8 iy)).put 3 (.int .u8 ib)).put 0 (.int .i64 (t + 1)))
 have R2 := qh ((((K2.out.put (.inl HU.out.own) 1 (.int .i8 ix)).put (.inl HU.out.own) 2 (.int .i8 iy)).put (.inl HU.out.own) 3 (.int .u8 ib)).put (.inl HU.out.own) 0 (.int .i64 (t + 1)))
 have R3 := qh (show GMap ((((X2.setCell ⟨B, 1, none⟩ (.int .i8 ix)).setCell ⟨B, 2, none⟩ (.int .i8 iy)).setCell ⟨B, 3, none⟩ (.int .u8 ib)).setCell ⟨B, 0, none⟩ (.int .i64 (t + 1))) o .i64 _ from M2.out.same fun r e => qpE (HN.out r e) _ _ _ _)
 clear B2 K2 M2 p2 k0 k4 hdel
 go_wp2_with fail
 go_end0
 refine ⟨rfl, F, fun k hk => .inl hk, ?_, R2.out⟩
 have R4 := R3.out
 rw [F1.out] at R4 ⊢
 exact ⟨⟨o, R1.out, R4, HF.out⟩, HU.out.own, fun k hk => ⟨(HU.out.up k hk).1, Nat.lt_of_lt_of_le (HU.out.up k hk).2 R2.out.size⟩⟩
theorem qbN.stays {b B : Nat} {F : Nat -> Prop} {m : Qu.M} {X X' : World} (h : PrgU b F B m X) (r : Value) (hb : Below X.heap.size X X') : qbN PrgU b F B m r X (.returned r) X' :=
 ⟨rfl, F, fun k hk => .inl hk, h.keep (qaB.qa9 hb) (fun _ _ h => h), (qaB.refl F X).call hb⟩
structure qq6 (B : Nat) (m : Qu.M) (o : Option Nat) (i : Gm.In) (X X1 : World) : Prop where
 down : Below X.heap.size X X1
 size : X1.heap.size = X.heap.size + 1
 own : Box X1 X.heap.size 48 (Qu.qao i)
 box : Box X1 B 129 (Qu.qbQ m.from_ m.last o)
 map : GMap X1 o .i64 (Qu.pg m)
theorem putAt {b B : Nat} {F : Nat -> Prop} {m : Qu.M} {o : Option Nat} {X : World} (i : Gm.In) (hB : Box X B 129 (Qu.qbQ m.from_ m.last o)) (hM : GMap X o .i64 (Qu.pg m)) : qq6 B m o i X (X.alloc (.cells (Qu.qao i) 48)) :=
 ⟨qac X _, by simp, Box.made X _ _, hB.alloc _, hM.below (qac X _) (fun r e => hM.lt e)⟩
theorem cmay (i : Gm.In) (hi : Gm.tyIn i) (X1 W : World) (hw : Kept X1 W) : Calls Tryz.prog 98 #[.agg (Qu.qao i)] W fun e W' => e = .returned (.bool (Qu.inB i)) /\ Kept X1 W' := qiB hw (qpj i hi W)
theorem qq3 {B : Nat} {m : Qu.M} {o : Option Nat} {X1 : World} (ho : m.Ok) (f : Int) (hf : -9223372036854775808 <= f /\ f <= 9223372036854775807) (hB : Box X1 B 129 (Qu.qbQ m.from_ m.last o)) (W : World) (hw : Kept X1 W) : Calls Tryz.prog 99 #[.pointer (some ⟨B, 0, none⟩), .int .i64 f] W fun e W' => e = .returned (.bool (decide (m.from_ <= f /\ f - m.from_ <= 63))) /\ Kept X1 W' :=
 qiB hw (qmy B m ho o f hf W (hB.below hw hB.lt))
theorem qqQ {B : Nat} {m : Qu.M} {o : Option Nat} {X1 : World} (f : Int) (hB : Box X1 B 129 (Qu.qbQ m.from_ m.last o)) (hM : GMap X1 o .i64 (Qu.pg m)) (W : World) (hw : Kept X1 W) : Calls Tryz.prog 100 #[.pointer (some ⟨B, 0, none⟩), .int .i64 f] W fun e W' => e = .returned (.bool (Qu.pg m f).isSome) /\ Kept X1 W' :=
 qiB hw (qkS B m o f W (hB.below hw hB.lt) (hM.below hw fun r e => hM.lt e))
theorem qha (o : Option Nat) (w : World) : (binOp .eql 127 (.map o) (.map none)).run Tryz.prog w = .ok (.bool o.isNone) w := by
 simp [binOp, run_equal_map_nil w _ _ _ o Tryz.underlying127, Result.andThen]
theorem qjz {m : Qu.M} {f : Int} {i : Gm.In} (h : Qu.qbT m f i = true) : Qu.put m f i = { m with known := (Qu.put m f i).known } := by
 have hp : Qu.put m f i = { m with known := Qu.upd m.known (f - m.from_).toNat (some i) } := if_pos h
 rw [hp]
theorem qpz {F : Nat -> Prop} {r : Nat} {X W : World} (h : qaB (fun k => F k \/ k = r) X W) (hr : X.heap.size <= r) : qaB F X W :=
 ⟨h.os, h.tape, h.output, h.size, fun k hk hn => h.block k hk fun h => h.elim hn fun e => by omega⟩
theorem qn0 (b : Nat) (F : Nat -> Prop) (B : Nat) (m : Qu.M) (ho : m.Ok) (f : Int) (i : Gm.In) (hf : -9223372036854775808 <= f /\ f <= 9223372036854775807) (hi : Gm.tyIn i) (X : World) (h : PrgU b F B m X) (hb : b <= X.heap.size) :
 Calls Tryz.prog 58 #[.pointer (some ⟨B, 0, none⟩), .int .i64 f, .agg (Qu.qao i)] X (qbN PrgU b F B (Qu.put m f i) (.bool (Qu.qbT m f i)) X) := by
 obtain ⟨o, hB, hM, hF⟩ := h.box
 have HU := qh h
 have HF := qh hF
 have hA := putAt (b := b) (F := F) i hB hM
 obtain ⟨X1, hX1⟩ : ∃ X1, X1 = X.alloc (.cells (Qu.qao i) 48) := ⟨_, rfl⟩
 rw [<- hX1] at hA
 have HX := qh hX1
 have A1 := qh hA
 have cm := fun W hw => qh (cmay i hi X1 W hw)
 have cn := fun W hw => qh (qq3 ho f hf hA.box W hw)
 have ck := fun W hw => qh (qqQ f hA.box hA.map W hw)
 have c0 : X1.cell? ⟨X.heap.size, 0, none⟩ = some (.int .i8 i.x) := hA.own.cell 0
 have c1 : X1.cell? ⟨X.heap.size, 1, none⟩ = some (.int .i8 i.y) := hA.own.cell 1
 have c2 : X1.cell? ⟨X.heap.size, 2, none⟩ = some (.int .u8 i.b) := hA.own.cell 2
 have hK : Kept X1 X1 := Kept.refl X1
 have PO := qh (Qu.qpl m f i)
 clear hX1 hA hB hM hF h hf hi ho
 have HS : Qu.qbT m f i = false -> ∀ W, Kept X1 W -> qbN PrgU b F B (Qu.put m f i) (.bool (Qu.qbT m f i)) X (.returned (.bool false)) W := fun hp W hw => by
  rw [hp, show Qu.put m f i = m from if_neg (by rw [hp]; decide)]
  exact qbN.stays HU.out _ (A1.out.down.trans (hw.mono A1.out.down.size))
 obtain ⟨vm, hvm⟩ : ∃ vm, vm = Qu.inB i := ⟨_, rfl⟩
 obtain ⟨vn, hvn⟩ : ∃ vn, vn = decide (m.from_ <= f /\ f - m.from_ <= 63) := ⟨_, rfl⟩
 obtain ⟨vk, hvk⟩ : ∃ vk, vk = (Qu.pg m f).isSome := ⟨_, rfl⟩
 rw [<- hvm, <- hvn, <- hvk] at PO
 rw [<- hvm] at cm
 rw [<- hvn] at cn
 rw [<- hvk] at ck
 clear hvm hvn hvk
 obtain ⟨x, y, p⟩ := i
 unfold Qu.qao at cm HX ⊢
 dsimp only at cm HX c0 c1 c2 ⊢
 have HS' := qh HS
 clear HS
 cases vm with
 | false =>
  have hp : Qu.qbT m f ⟨x, y, p⟩ = false := by rw [PO.out]; rfl
  clear cn ck PO
  go_enter Tryz.func58, Tryz.ntmps58
  go_upto_region 1 with fail
  rw [<- HX.out]
  go_wp2_with ((go_at_call 98; ((with_reducible refine ((cm _ (by assumption)).out).mono ?_); rintro e W ⟨rfl, hk1⟩)))
  go_ret
  exact HS'.out hp _ hk1
 | true =>
  cases vn with
  | false =>
   have hp : Qu.qbT m f ⟨x, y, p⟩ = false := by rw [PO.out]; rfl
   clear ck PO
   go_enter Tryz.func58, Tryz.ntmps58
   go_upto_region 1 with fail
   rw [<- HX.out]
   go_wp2_with (first
    | (go_at_call 98; ((with_reducible refine ((cm _ (by assumption)).out).mono ?_); rintro e W ⟨rfl, hk1⟩))
    | (go_at_call 99; ((with_reducible refine ((cn _ (by assumption)).out).mono ?_); rintro e W2 ⟨rfl, hk2⟩)))
   go_ret
   exact HS'.out hp _ hk2
  | true =>
   cases vk with
   | true =>
    have hp : Qu.qbT m f ⟨x, y, p⟩ = false := by rw [PO.out]; rfl
    clear PO
    go_enter Tryz.func58, Tryz.ntmps58
    go_upto_region 1 with fail
    rw [<- HX.out]
    go_wp2_with (first
     | (go_at_call 98; ((with_reducible refine ((cm _ (by assumption)).out).mono ?_); rintro e W ⟨rfl, hk1⟩))
     | (go_at_call 99; ((with_reducible refine ((cn _ (by assumption)).out).mono ?_); rintro e W2 ⟨rfl, hk2⟩))
     | (go_at_call 100; ((with_reducible refine ((ck _ (by assumption)).out).mono ?_); rintro e W3 ⟨rfl, hk3⟩)))
    go_ret
    exact HS'.out hp _ hk3
   | false =>
    have hp : Qu.qbT m f ⟨x, y, p⟩ = true := by rw [PO.out]; rfl
    have PG := qh (Qu.qqI hp)
    have hpk := qh hp
    rw [hp]
    clear PO hp HS'
    go_enter Tryz.func58, Tryz.ntmps58
    go_upto_region 1 with fail
    rw [<- HX.out]
    go_upto_region 3 with (first
     | (go_at_call 98; ((with_reducible refine ((cm _ (by assumption)).out).mono ?_); rintro e W ⟨rfl, hk1⟩))
     | (go_at_call 99; ((with_reducible refine ((cn _ (by assumption)).out).mono ?_); rintro e W2 ⟨rfl, hk2⟩))
     | (go_at_call 100; ((with_reducible refine ((ck _ (by assumption)).out).mono ?_); rintro e W3 ⟨rfl, hk3⟩)))
    have B3 := qh (A1.out.box.below hk3 A1.out.box.lt)
    have M3 := qh (A1.out.map.below hk3 fun r e => A1.out.map.lt e)
    have C3 := qh (A1.out.own.below hk3 A1.out.own.lt)
    have K3 := qh (((qaB.refl F X).call A1.out.down).call (hk3.mono (Nat.le_refl _)))
    have D3 := qh (A1.out.down.trans (hk3.mono A1.out.down.size))
    have k4 : W3.cell? ⟨B, 4, none⟩ = some (.map o) := B3.out.cell 4
    have fr := B3.out.free
    have lr := B3.out.lt
    clear hk1 hk2 hk3 hK cm cn ck c0 c1 c2
    cases o with
    | some r =>
     have I3 : IMap W3 r .i64 (Qu.pg m) := by
      rcases M3.out with ⟨e, _⟩ | ⟨r', e, h⟩
      · cases e
      · injection e with e; subst e; exact h
     clear fr lr
     have hq : ∀ w, (binOp .eql 127 (.map (some r)) (.map none)).run Tryz.prog w = .ok (.bool false) w := fun w => qha (some r) w
     go_upto_region 5 with fail
     clear k4
     have I4 := qh (I3.same (W' := W3.drew) rfl)
     have B4 := B3
     have C4 := C3
     have K4 := K3
     have RF := qh (show F r \/ X.heap.size <= r from .inl (HF.out r rfl))
     have U4 := qh (show ∀ k, F k -> b <= k /\ k < W3.drew.heap.size from fun k hk => ⟨(HU.out.up k hk).1, Nat.lt_of_lt_of_le (HU.out.up k hk).2 D3.out.size⟩)
     clear I3
     obtain ⟨W5, hst0, hM5, hO5⟩ := I4.out.store (P := Tryz.prog) (mt := 127) (kt := 3) (et := 48) Tryz.underlying127 Tryz.underlying3 f (.agg (Qu.qao ⟨x, y, p⟩))
     have hst : (Instr.mapUpdate 127 (.map (some r)) (.int .i64 f) (.agg #[.int .i8 x, .int .i8 y, .int .u8 p])).run Tryz.prog W3.drew = .ok () W5 := hst0
     have NE := qh (show B ≠ r from Ne.symm (I4.out.box B4.out.drew))
     have B5 := qh (show Box W5 B _ _ from hO5.box B4.out.drew NE.out)
     have M5 := qh (hM5.congr PG.out)
     have K5 := qh (show qaB F X W5 from (K4.out.call (Below.drew (Below.refl _ _))).trans (qaB.qfr hO5) (fun j e => by subst e; exact RF.out))
     have k4 : W3.cell? ⟨B, 4, none⟩ = some (.map (some r)) := B4.out.cell 4
     have c0 : W3.cell? ⟨X.heap.size, 0, none⟩ = some (.int .i8 x) := C4.out.cell 0
     have c1 : W3.cell? ⟨X.heap.size, 1, none⟩ = some (.int .i8 y) := C4.out.cell 1
     have c2 : W3.cell? ⟨X.heap.size, 2, none⟩ = some (.int .u8 p) := C4.out.cell 2
     have UP := qh (show ∀ k, F k -> b <= k /\ k < W5.heap.size from fun k hk => ⟨(U4.out k hk).1, Nat.lt_of_lt_of_le (U4.out k hk).2 (Nat.le_trans (Nat.le_refl _) hO5.size)⟩)
     have PP := qh (qjz hpk.out)
     clear hst0 hM5 hO5
     go_region
     go_wp2_with fail
     go_ret
     refine ⟨rfl, F, (fun k hk => .inl hk), ?_, K5.out⟩
     have M6 := M5.out
     rw [PP.out] at M6 ⊢
     exact ⟨⟨some r, B5.out, .inr ⟨_, rfl, M6⟩, fun r e => by injection e with e; subst e; exact HF.out _ rfl⟩, HU.out.own, UP.out⟩
    | none =>
     have g3 := qh (show ∀ a, Qu.pg m a = none from by
      rcases M3.out with ⟨_, h⟩ | ⟨r', e, h⟩
      · exact h
      · cases e)
     have lr2 : B < W3.heap.size + 1 := by omega
     have B4' := qh (show Box ((W3.setCell ⟨B, 4, none⟩ (.map (some W3.heap.size))).alloc (.map #[] 0)) B 129 (Qu.qbQ m.from_ m.last (some W3.heap.size)) from (B3.out.put 4 (.map (some W3.heap.size))).alloc _)
     have C4' := qh (show Box ((W3.setCell ⟨B, 4, none⟩ (.map (some W3.heap.size))).alloc (.map #[] 0)) X.heap.size 48 _ from (C3.out.far (p := ⟨B, 4, none⟩) (Box.apart C3.out B3.out (by decide)) (.map (some W3.heap.size))).alloc _)
     have I4' := qh (show IMap ((W3.setCell ⟨B, 4, none⟩ (.map (some W3.heap.size))).alloc (.map #[] 0)) W3.heap.size .i64 (Qu.pg m) by
      have hi := (IMap.made (W3.setCell ⟨B, 4, none⟩ (.map (some W3.heap.size))) .i64).congr (fun a => (g3.out a).symm)
      rwa [show (W3.setCell ⟨B, 4, none⟩ (.map (some W3.heap.size))).heap.size = W3.heap.size by simp] at hi)
     have K4' := qh (show qaB F X ((W3.setCell ⟨B, 4, none⟩ (.map (some W3.heap.size))).alloc (.map #[] 0)) from (K3.out.put (.inl HU.out.own) 4 _).call (qac _ _))
     have S4' := qh (show ((W3.setCell ⟨B, 4, none⟩ (.map (some W3.heap.size))).alloc (.map #[] 0)).heap.size = W3.heap.size + 1 by simp)
     clear M3
     have hq : ∀ w, (binOp .eql 127 (.map none) (.map none)).run Tryz.prog w = .ok (.bool true) w := fun w => qha none w
     have hmk : ∀ w, (Instr.makeMap 127 none).run Tryz.prog w = .ok (.map (some w.heap.size)) (w.alloc (.map #[] 0)) := fun w => run_makeMap _ w
     go_upto_region 5 with fail
     clear k4 fr lr lr2
     generalize (W3.setCell ⟨B, 4, none⟩ (.map (some W3.heap.size))).alloc (.map #[] 0) = W4 at *
     have I4 := qh (I4'.out.same (W' := W4.drew) rfl)
     have C4 := C4'
     have K4 := qh (show qaB (fun k => F k \/ k = W3.heap.size) X W4 from ⟨K4'.out.os, K4'.out.tape, K4'.out.output, K4'.out.size, fun k hk hn => K4'.out.block k hk fun h => hn (.inl h)⟩)
     have RF := qh (show (F W3.heap.size \/ W3.heap.size = W3.heap.size) \/ X.heap.size <= W3.heap.size from .inl (.inr rfl))
     have U4 := qh (show ∀ k, (F k \/ k = W3.heap.size) -> b <= k /\ k < W4.drew.heap.size from fun k hk => by
      have hz : W4.drew.heap.size = W3.heap.size + 1 := S4'.out
      have hx := D3.out.size
      rcases hk with hk | rfl
      · have := HU.out.up k hk; omega
      · omega)
     have D4 := D3
     have RX := qh (show X.heap.size <= W3.heap.size from D4.out.size)
     have B4 := B4'
     clear B4' C4' I4' K4' S4' B3 C3 K3 D3 D4
     generalize W3.heap.size = r at *
     obtain ⟨W5, hst0, hM5, hO5⟩ := I4.out.store (P := Tryz.prog) (mt := 127) (kt := 3) (et := 48) Tryz.underlying127 Tryz.underlying3 f (.agg (Qu.qao ⟨x, y, p⟩))
     have hst : (Instr.mapUpdate 127 (.map (some r)) (.int .i64 f) (.agg #[.int .i8 x, .int .i8 y, .int .u8 p])).run Tryz.prog W4.drew = .ok () W5 := hst0
     have NE := qh (show B ≠ r from Ne.symm (I4.out.box B4.out.drew))
     have B5 := qh (show Box W5 B _ _ from hO5.box B4.out.drew NE.out)
     have M5 := qh (hM5.congr PG.out)
     have K5 := qh (show qaB (fun k => F k \/ k = r) X W5 from (K4.out.call (Below.drew (Below.refl _ _))).trans (qaB.qfr hO5) (fun j e => by subst e; exact RF.out))
     have k4 : W4.cell? ⟨B, 4, none⟩ = some (.map (some r)) := B4.out.cell 4
     have c0 : W4.cell? ⟨X.heap.size, 0, none⟩ = some (.int .i8 x) := C4.out.cell 0
     have c1 : W4.cell? ⟨X.heap.size, 1, none⟩ = some (.int .i8 y) := C4.out.cell 1
     have c2 : W4.cell? ⟨X.heap.size, 2, none⟩ = some (.int .u8 p) := C4.out.cell 2
     have UP := qh (show ∀ k, (fun k => F k \/ k = r) k -> b <= k /\ k < W5.heap.size from fun k hk => ⟨(U4.out k hk).1, Nat.lt_of_lt_of_le (U4.out k hk).2 (Nat.le_trans (Nat.le_refl _) hO5.size)⟩)
     have PP := qh (qjz hpk.out)
     clear hst0 hM5 hO5
     go_region
     go_wp2_with fail
     go_ret
     refine ⟨rfl, (fun k => F k \/ k = r), (fun k hk => hk.imp id fun h => by rw [h]; exact RX.out), ?_, (qpz K5.out RX.out)⟩
     have M6 := M5.out
     rw [PP.out] at M6 ⊢
     exact ⟨⟨some r, B5.out, .inr ⟨_, rfl, M6⟩, fun r e => by injection e with e; subst e; exact .inr rfl⟩, .inl HU.out.own, UP.out⟩
theorem qqE : qcq PrgU where
 ob := qq0
 new := fun b f i X hb _ _ => qn1 b f i X hb
 put := fun b F B m ho f i hf hi X h hb => qn0 b F B m ho f i hf hi X h hb
 at_ := fun b F B m ho f _ X h => qph b F B m ho f X h
 done := fun b F B m ho hm i hi X h hb => qmz b F B m ho hm i X h hb
 put0 := qnZ
 at0 := qpg
open Go.ChangeShapes Go.WideShapes Go.ChangeAt Go.RowKit Go.Joins Go.ChangeMaps Go.Deep
section
variable {H : Type} {enc : TypeId × Value -> H} {w : World} {base : Nat} {spare : Nat -> Bool} {held : Bool}
theorem qp8 {fuel : Nat} {a b c : Value} {y : DataW H × List MemPlace} (h : DataW.trod enc Tryz.prog w base spare held fuel 48 [a, b, c] = some y) : ∃ q : Gm.In, [a, b, c] = q.cells /\ Gm.tyIn q /\ y.2 = [] := by
 obtain ⟨y0, y1, y2, n, hx, _, h0, h1, h2⟩ := trod_struct3 Tryz.underlying48 h
 obtain ⟨x0, e0, rfl, w0⟩ := DataW.trod_int Tryz.underlying46 h0
 obtain ⟨x1, e1, rfl, w1⟩ := DataW.trod_int Tryz.underlying46 h1
 obtain ⟨x2, e2, rfl, w2⟩ := DataW.trod_int Tryz.underlying5 h2
 have c8 : Tryz.prog.cellsOf 46 = 1 := by kernel_rfl
 have cu : Tryz.prog.cellsOf 5 = 1 := by kernel_rfl
 simp [c8, cu] at e0 e1 e2
 subst e0 e1 e2
 exact ⟨⟨x0, x1, x2⟩, rfl, ⟨Bd.i8 w0, Bd.i8 w1, Bd.u8 w2⟩, by rw [hx]; rfl⟩
end
section
variable {H : Type} {enc : TypeId × Value -> H} {w : World} {base : Nat} {spare : Nat -> Bool} {held : Bool}
theorem qqT {b0 : Nat} {v : Value} {t : TypeId} {d : TypeDesc} (hu : Tryz.prog.underlying t = some d) (hd : d.isRow = true) (hv : Value.okWide Tryz.prog w .any b0 t v) : ∃ cs, v = .agg cs /\ cs.size = Tryz.prog.cellsOf t := by
 cases d <;> first | (cases hd; done) | (obtain ⟨cs, h1, h2, _⟩ : ∃ cs, v = .agg cs /\ cs.size = Tryz.prog.cellsOf t /\ Row.okWide Tryz.prog w .any b0 t cs := (by simpa [Value.okWide, hu] using hv); exact ⟨cs, h1, h2⟩)
end
end Go.Proofs.YtmiopphcfdlneaaGreat
namespace Fd
open Go
end Fd
namespace Go.Proofs.YtmiopphcfdlneaaGreat
open Go.ChangeShapes Go.WideShapes Go.ChangeAt Go.RowKit Go.Joins Go.ChangeMaps Go.Deep
section
variable {H : Type} {enc : TypeId × Value -> H} {w : World} {base : Nat} {spare : Nat -> Bool} {held : Bool}
theorem qmI {b0 : Nat} {v : Value} {d : DataW H} {p : List MemPlace} (hv : Value.okWide Tryz.prog w .any b0 48 v) (h : DataW.Trod enc Tryz.prog w base spare held 48 v d p) :
 ∃ q : Gm.In, v = .agg #[.int .i8 q.x, .int .i8 q.y, .int .u8 q.b] /\ Gm.tyIn q := by
 obtain ⟨cs, rfl, hsz⟩ := qqT Tryz.underlying48 rfl hv
 rw [show Tryz.prog.cellsOf 48 = 3 from by kernel_rfl] at hsz
 obtain ⟨l⟩ := cs
 obtain ⟨fuel, hf⟩ := h
 have hf' : DataW.trod enc Tryz.prog w base spare held fuel 48 l = some (d, p) := hf
 have hl : l.length = 3 := by simpa using hsz
 match l, hl with
 | [a, b, c], _ =>
  obtain ⟨q, h1, h2, _⟩ := qp8 hf'
  refine ⟨q, ?_, h2⟩
  rw [h1]; rfl
end
end Go.Proofs.YtmiopphcfdlneaaGreat