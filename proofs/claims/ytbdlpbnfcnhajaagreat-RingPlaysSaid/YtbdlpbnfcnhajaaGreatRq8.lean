/-
Several texts in one: Rgm Kl Oba I3 I4 I5 Ik Il Ip Iq Rgn Sa Obb Rgo.
-/
import Derived.Test.YtbdlpbnfcnhajaaGreatRq7
set_option maxRecDepth 100000
set_option maxHeartbeats 8000000
set_option linter.unusedVariables false
set_option linter.unusedSimpArgs false
namespace Go.Proofs.YtbdlpbnfcnhajaaGreat.Rg
open Go.RowKit
def first : List Fd.S -> Int
 | [] => 0
 | s :: _ => s.g.frame
def last (M : List Fd.S) : Int := first M + M.length - 1
structure Ok (M : List Fd.S) : Prop where
 some : M ≠ []
 few : M.length <= 9
 all : ∀ s ∈ M, Im.Ok s.g s.r /\ Gm.ty s.g
 runs : ∀ (i : Nat) (s : Fd.S), M[i]? = Option.some s -> s.g.frame = first M + (i : Int)
open Classical in
noncomputable def pushB (M : List Fd.S) (s : Fd.S) : Bool := decide (Im.Ok s.g s.r /\ s.g.frame = last M + 1 /\ M.length <= 8)
noncomputable def push (M : List Fd.S) (s : Fd.S) : List Fd.S := if pushB M s = true then M ++ [s] else M
def hasB (M : List Fd.S) (f : Int) : Bool := decide (first M <= f /\ f <= last M)
def cut (M : List Fd.S) (f : Int) : List Fd.S := if hasB M f = true then M.take ((f - first M).toNat + 1) else M
def drop (M : List Fd.S) (f : Int) : List Fd.S := if hasB M f = true then M.drop (f - first M).toNat else M
def at_ (M : List Fd.S) (f : Int) : Option Fd.S := if hasB M f = true then M[(f - first M).toNat]? else none
open Classical in
theorem qgC {M : List Fd.S} {s : Fd.S} (h1 : Im.Ok s.g s.r) (h2 : s.g.frame = last M + 1) (h3 : M.length <= 8) : pushB M s = true := decide_eq_true ⟨h1, h2, h3⟩
open Classical in
theorem qeK {M : List Fd.S} {s : Fd.S} (h : ¬ (Im.Ok s.g s.r /\ s.g.frame = last M + 1 /\ M.length <= 8)) : pushB M s = false := decide_eq_false h
open Classical in
theorem qoV {M : List Fd.S} {s : Fd.S} : pushB M s = true ↔ Im.Ok s.g s.r /\ s.g.frame = last M + 1 /\ M.length <= 8 := by unfold pushB; rw [decide_eq_true_iff]
theorem qip {M : List Fd.S} {s : Fd.S} (h : pushB M s = true) : push M s = M ++ [s] := if_pos h
theorem qkG {M : List Fd.S} {s : Fd.S} (h : pushB M s = false) : push M s = M := if_neg (by rw [h]; decide)
theorem qjP {M : List Fd.S} (l : List Fd.S) (h : M ≠ []) : first (M ++ l) = first M := by
 cases M with
 | nil => exact absurd rfl h
 | cons a M => rfl
theorem qeu {M : List Fd.S} (h : M ≠ []) : 0 < M.length := by
 cases M with
 | nil => exact absurd rfl h
 | cons a M => exact Nat.succ_pos _
theorem Ok.qf5 {M : List Fd.S} (h : Ok M) {s : Fd.S} (hs : M[0]? = Option.some s) : s.g.frame = first M := by have := h.runs 0 s hs; omega
theorem Ok.low {M : List Fd.S} (h : Ok M) : 0 <= first M /\ last M <= 1048576 /\ first M <= last M := by
 have hl := qeu h.some
 have h0 : M[0]? = Option.some M[0] := List.getElem?_eq_getElem hl
 have h1 : M[M.length - 1]? = Option.some (M[M.length - 1]'(by omega)) := List.getElem?_eq_getElem (by omega)
 have f0 := h.runs _ _ h0
 have f1 := h.runs _ _ h1
 have a0 := (h.all _ (List.mem_of_getElem? h0)).1.1.1
 have a1 := (h.all _ (List.mem_of_getElem? h1)).1.1.2.1
 unfold last
 omega
theorem Ok.new {s : Fd.S} (h1 : Im.Ok s.g s.r) (h2 : Gm.ty s.g) : Ok [s] := by
 refine ⟨by simp, by simp, fun t ht => ?_, fun i t ht => ?_⟩
 · obtain rfl := List.mem_singleton.1 ht; exact ⟨h1, h2⟩
 · cases i with
   | zero => injection ht with e; subst e; show s.g.frame = s.g.frame + 0; omega
   | succ i => simp at ht
theorem Ok.push {M : List Fd.S} {s : Fd.S} (h : Ok M) (h2 : Gm.ty s.g) : Ok (push M s) := by
 unfold Rg.push
 split
 · rename_i hp
   obtain ⟨p1, p2, p3⟩ := qoV.1 hp
   refine ⟨by simp, by rw [List.length_append]; simp; omega, fun t ht => ?_, fun i t ht => ?_⟩
   · rcases List.mem_append.1 ht with ht | ht
     · exact h.all t ht
     · obtain rfl := List.mem_singleton.1 ht; exact ⟨p1, h2⟩
   · rw [qjP _ h.some]
     by_cases hi : i < M.length
     · rw [List.getElem?_append_left hi] at ht
       exact h.runs i t ht
     · rw [List.getElem?_append_right (by omega)] at ht
       have hz : i - M.length = 0 := by
        have := (List.getElem?_eq_some_iff.1 ht).1
        simp at this
        omega
       rw [hz] at ht
       injection ht with e
       subst e
       rw [p2]
       unfold last
       omega
 · exact h
theorem qeg {M : List Fd.S} {f : Int} : hasB M f = true ↔ first M <= f /\ f <= last M := by unfold hasB; rw [decide_eq_true_iff]
theorem Ok.cut {M : List Fd.S} (h : Ok M) (f : Int) : Ok (cut M f) /\ first (cut M f) = first M := by
 unfold Rg.cut
 split
 · rename_i hp
   have hb := qeg.1 hp
   have hne : M.take ((f - first M).toNat + 1) ≠ [] := by
    have := qeu h.some
    intro e
    have := congrArg List.length e
    rw [List.length_take, List.length_nil] at this
    omega
   have hf : first (M.take ((f - first M).toNat + 1)) = first M := by
    cases hM : M with
    | nil => exact absurd hM h.some
    | cons a M => rfl
   refine ⟨⟨hne, by rw [List.length_take]; have := h.few; omega, fun t ht => h.all t (List.mem_of_mem_take ht), fun i t ht => ?_⟩, hf⟩
   rw [hf]
   rw [List.getElem?_take] at ht
   split at ht
   · exact h.runs i t ht
   · cases ht
 · exact ⟨h, rfl⟩
theorem Ok.drop {M : List Fd.S} (h : Ok M) (f : Int) : Ok (drop M f) := by
 unfold Rg.drop
 split
 · rename_i hp
   have hb := qeg.1 hp
   have hlt : (f - first M).toNat < M.length := by unfold last at hb; omega
   have h0 : M[(f - first M).toNat]? = Option.some M[(f - first M).toNat] := List.getElem?_eq_getElem hlt
   have hd := List.drop_eq_getElem_cons hlt
   have hf : first (M.drop (f - first M).toNat) = first M + ((f - first M).toNat : Int) := by
    rw [hd]
    exact h.runs _ _ h0
   refine ⟨by rw [hd]; exact List.cons_ne_nil _ _, by rw [List.length_drop]; have := h.few; omega, fun t ht => h.all t (List.mem_of_mem_drop ht), fun i t ht => ?_⟩
   rw [hf]
   rw [List.getElem?_drop] at ht
   have := h.runs _ t ht
   rw [this]
   push_cast
   omega
 · exact h
theorem qon {M : List Fd.S} {f : Int} {s : Fd.S} (h : at_ M f = Option.some s) : hasB M f = true /\ M[(f - first M).toNat]? = Option.some s := by
 unfold at_ at h
 split at h
 · rename_i hp; exact ⟨hp, h⟩
 · cases h
theorem qqe {M : List Fd.S} {f : Int} (h : at_ M f = none) : hasB M f = false := by
 unfold at_ at h
 split at h
 · rename_i hp
   have hb := qeg.1 hp
   rw [List.getElem?_eq_none_iff] at h
   unfold last at hb
   omega
 · rename_i hp; simpa using hp
theorem qqw {M : List Fd.S} {f : Int} (h : hasB M f = true) : ∃ s, at_ M f = Option.some s /\ s ∈ M := by
 have hb := qeg.1 h
 have hlt : (f - first M).toNat < M.length := by unfold last at hb; omega
 refine ⟨M[(f - first M).toNat], ?_, List.getElem_mem _⟩
 unfold at_
 rw [if_pos h, List.getElem?_eq_getElem hlt]
theorem qlN {M : List Fd.S} {f : Int} (h : hasB M f = false) : at_ M f = none := by
 unfold at_
 rw [if_neg (by rw [h]; decide)]
def St.s (q : St) : Fd.S := ⟨q.g, q.r⟩
theorem qcY {L : List St} {i : Nat} {q : St} (h : L[i]? = Option.some q) : (L.map St.s)[i]? = Option.some q.s := by rw [List.getElem?_map, h]; rfl
theorem qdl {L : List St} (h : Ok (L.map St.s)) {f : Int} (hp : hasB (L.map St.s) f = true) : qa6 L f (((f - first (L.map St.s)).toNat : Nat) : Int) /\ (f - first (L.map St.s)).toNat < L.length := by
 have hb := qeg.1 hp
 have hlt : (f - first (L.map St.s)).toNat < L.length := by unfold last at hb; rw [List.length_map] at hb; omega
 have h0 : L[(f - first (L.map St.s)).toNat]? = Option.some L[(f - first (L.map St.s)).toNat] := List.getElem?_eq_getElem hlt
 have hr := h.runs _ _ (qcY h0)
 refine ⟨.inr ⟨_, _, rfl, h0, ?_, fun x hx e => ?_⟩, hlt⟩
 · have : (L[(f - first (L.map St.s)).toNat]).g.frame = first (L.map St.s) + (((f - first (L.map St.s)).toNat : Nat) : Int) := hr
   omega
 · obtain ⟨j, hj⟩ := List.getElem?_of_mem hx
   rw [List.getElem?_take] at hj
   split at hj
   · rename_i hjl
     have hx2 : x.g.frame = first (L.map St.s) + (j : Int) := h.runs _ _ (qcY hj)
     omega
   · cases hj
theorem qd3 {L : List St} (h : Ok (L.map St.s)) {f : Int} (hp : hasB (L.map St.s) f = false) : qa6 L f (-1) := by
 refine .inl ⟨rfl, fun x hx e => ?_⟩
 obtain ⟨j, hj⟩ := List.getElem?_of_mem hx
 have hx2 : x.g.frame = first (L.map St.s) + (j : Int) := h.runs _ _ (qcY hj)
 have hjl := (List.getElem?_eq_some_iff.1 hj).1
 have : hasB (L.map St.s) f = true := qeg.2 ⟨by omega, by unfold last; rw [List.length_map]; omega⟩
 rw [this] at hp
 cases hp
end Go.Proofs.YtbdlpbnfcnhajaaGreat.Rg
namespace Go.Proofs.YtbdlpbnfcnhajaaGreat
open Go.RowKit
structure qaQ (F : Nat -> Prop) (X X' : World) : Prop where
 os : X'.os = X.os
 tape : X'.tape = X.tape
 output : X'.output = X.output
 size : X.heap.size <= X'.heap.size
 block : ∀ k, k < X.heap.size -> ¬ F k -> X'.heap[k]? = X.heap[k]?
section
variable {F F' : Nat -> Prop} {X X' X'' : World}
theorem qaQ.refl (F : Nat -> Prop) (X : World) : qaQ F X X := ⟨rfl, rfl, rfl, Nat.le_refl _, fun _ _ _ => rfl⟩
theorem qaQ.trans (h : qaQ F X X') (k : qaQ F' X' X'') (hs : ∀ j, F' j -> F j \/ X.heap.size <= j) : qaQ F X X'' :=
 ⟨k.os.trans h.os, k.tape.trans h.tape, k.output.trans h.output, Nat.le_trans h.size k.size, fun j hj hn => (k.block j (Nat.lt_of_lt_of_le hj h.size) fun hf => (hs j hf).elim hn (by omega)).trans (h.block j hj hn)⟩
theorem qaQ.call (h : qaQ F X X') (hb : Below X'.heap.size X' X'') : qaQ F X X'' := h.trans (F' := F) ⟨hb.os, hb.tape, hb.output, hb.size, fun k hk _ => hb.block k hk⟩ (fun j hf => .inl hf)
theorem qaQ.put {B : Nat} (h : qaQ F X X') (hF : F B \/ X.heap.size <= B) (i : Nat) (u : Value) : qaQ F X (X'.setCell ⟨B, i, none⟩ u) := by
 have hz := (Below.refl 0 X').setCell (p := ⟨B, i, none⟩) (Nat.zero_le _) u
 refine h.trans (F' := fun k => k = B) ⟨hz.os, hz.tape, hz.output, hz.size, fun k hk hne => heap_setCell_other X' ⟨B, i, none⟩ k u hne⟩ (fun j hj => ?_)
 subst hj
 exact hF
theorem qaQ.grown {row : Option Nat} (h : qaQ F X X') (hg : X'.grownBy X'' row) (hF : ∀ g, row = some g -> F g \/ X.heap.size <= g) : qaQ F X X'' :=
 h.trans (F' := fun k => some k = row) ⟨hg.os, hg.tape, hg.output, hg.size, fun k hk hne => hg.block k hk hne⟩ (fun j hj => hF j hj.symm)
theorem qaQ.below {b : Nat} (h : qaQ F X X') (hF : ∀ k, F k -> b <= k) (hb : b <= X.heap.size) : Below b X X' := ⟨h.os, h.tape, h.output, h.size, fun k hk => h.block k (by omega) fun hf => by have := hF k hf; omega⟩
end
structure ObjC {μ : Type} (LP : Nat -> (Nat -> Prop) -> Nat -> μ -> World -> Prop) : Prop where
 up : ∀ {b F B m X}, LP b F B m X -> ∀ k, F k -> b <= k /\ k < X.heap.size
 keep : ∀ {b F B m X G X'}, LP b F B m X -> qaQ G X X' -> (∀ j, F j -> ¬ G j) -> LP b F B m X'
def qj5 {μ : Type} (LP : Nat -> (Nat -> Prop) -> Nat -> μ -> World -> Prop) (b : Nat) (F : Nat -> Prop) (B : Nat) (m' : μ) (r : Value) (X : World) (e : Ending) (X' : World) : Prop := e = .returned r /\ ∃ F', (∀ k, F' k -> F k \/ X.heap.size <= k) /\ LP b F' B m' X' /\ qaQ F X X'
def qbd {μ : Type} (LP : Nat -> (Nat -> Prop) -> Nat -> μ -> World -> Prop) (w : World) (B : Nat) (m : μ) (G : Nat -> Prop) (X : World) : Prop :=
 ∃ F, LP w.heap.size F B m X /\ (∀ j, G j -> ¬ F j /\ w.heap.size <= j /\ j < X.heap.size) /\ Below w.heap.size w X
def qe7 (G : Nat -> Prop) (X X' : World) : Prop := ∀ j, G j -> X'.heap[j]? = X.heap[j]?
section
variable {μ : Type} {LP : Nat -> (Nat -> Prop) -> Nat -> μ -> World -> Prop} {w : World} {B : Nat} {m m' : μ} {G G' : Nat -> Prop} {X X' X'' : World}
theorem qe7.trans (h : qe7 G X X') (k : qe7 G X' X'') : qe7 G X X'' := fun j hj => (k j hj).trans (h j hj)
theorem qe7.box {g : Nat} {t : TypeId} {cs : Array Value} (h : qe7 G X X') (hg : G g) (hb : Box X g t cs) : Box X' g t cs := ⟨(h g hg).trans hb.is⟩
theorem qaQ.qb7 (hb : Below X.heap.size X X') : qaQ (fun _ => False) X X' := ⟨hb.os, hb.tape, hb.output, hb.size, fun k hk _ => hb.block k hk⟩
theorem qaQ.qkJ {g : Nat} (ho : Only g X X') : qaQ (fun k => k = g) X X' := ⟨ho.os, ho.tape, ho.output, ho.size, fun k hk hn => ho.block k hk hn⟩
theorem qbd.down (h : qbd LP w B m G X) : Below w.heap.size w X := by obtain ⟨F, _, _, h⟩ := h; exact h
theorem qbd.lt (h : qbd LP w B m G X) {g : Nat} (hg : G g) : w.heap.size <= g /\ g < X.heap.size := by obtain ⟨F, _, h, _⟩ := h; exact (h g hg).2
theorem qbd.less (h : qbd LP w B m G X) (hs : ∀ j, G' j -> G j) : qbd LP w B m G' X := by
 obtain ⟨F, h1, h2, h3⟩ := h
 exact ⟨F, h1, fun j hj => h2 j (hs j hj), h3⟩
theorem qbd.new {F : Nat -> Prop} (h1 : LP w.heap.size F B m X') (hF : ∀ k, F k -> X.heap.size <= k) (hw : Below w.heap.size w X) (hG : ∀ j, G j -> w.heap.size <= j /\ j < X.heap.size) (hb : Below X.heap.size X X') : qbd LP w B m G X' :=
 ⟨F, h1, fun j hj => ⟨fun hf => by have := hF j hf; have := (hG j hj).2; omega, (hG j hj).1, Nat.lt_of_lt_of_le (hG j hj).2 hb.size⟩, hw.trans (hb.mono hw.size)⟩
variable (C : ObjC LP)
include C
theorem qbd.below (h : qbd LP w B m G X) (hb : Below X.heap.size X X') : qbd LP w B m G X' := by
 obtain ⟨F, h1, h2, h3⟩ := h
 exact ⟨F, C.keep h1 (qaQ.qb7 hb) (fun _ _ h => h), fun j hj => ⟨(h2 j hj).1, (h2 j hj).2.1, Nat.lt_of_lt_of_le (h2 j hj).2.2 hb.size⟩, h3.trans (hb.mono h3.size)⟩
theorem qbd.drew (h : qbd LP w B m G X) : qbd LP w B m G X.drew := h.below C (Below.drew (Below.refl _ _))
theorem qbd.alloc (h : qbd LP w B m G X) (o : Obj) : qbd LP w B m (fun j => G j \/ j = X.heap.size) (X.alloc o) := by
 obtain ⟨F, h1, h2, h3⟩ := h
 have hb := qac X o
 refine ⟨F, C.keep h1 (qaQ.qb7 hb) (fun _ _ h => h), fun j hj => ?_, h3.trans (hb.mono h3.size)⟩
 rcases hj with hj | rfl
 · exact ⟨(h2 j hj).1, (h2 j hj).2.1, Nat.lt_of_lt_of_le (h2 j hj).2.2 hb.size⟩
 · exact ⟨fun hf => by have := (C.up h1 _ hf).2; omega, h3.size, by simp⟩
theorem qbd.only {g : Nat} (h : qbd LP w B m G X) (hg : G g) (ho : Only g X X') : qbd LP w B m G X' := by
 obtain ⟨F, h1, h2, h3⟩ := h
 refine ⟨F, C.keep h1 (qaQ.qkJ ho) (fun j hf he => ?_), fun j hj => ⟨(h2 j hj).1, (h2 j hj).2.1, Nat.lt_of_lt_of_le (h2 j hj).2.2 ho.size⟩, h3.trans (ho.below (h2 g hg).2.1 h3.size)⟩
 subst he
 exact (h2 _ hg).1 hf
theorem qbd.put {g : Nat} (h : qbd LP w B m G X) (hg : G g) (i : Nat) (u : Value) : qbd LP w B m G (X.setCell ⟨g, i, none⟩ u) := h.only C hg (Only.set _ _ _)
theorem qbd.says {F : Nat -> Prop} {r : Value} {e : Ending} (h1 : LP w.heap.size F B m X) (h2 : ∀ j, G j -> ¬ F j /\ w.heap.size <= j /\ j < X.heap.size) (h3 : Below w.heap.size w X) (h : qj5 LP w.heap.size F B m' r X e X') :
 e = .returned r /\ qbd LP w B m' G X' /\ qe7 G X X' := by
 obtain ⟨rfl, F', hF, hL, hK⟩ := h
 refine ⟨rfl, ⟨F', hL, fun j hj => ⟨fun hf => ?_, (h2 j hj).2.1, Nat.lt_of_lt_of_le (h2 j hj).2.2 hK.size⟩, h3.trans (hK.below (fun k hk => (C.up h1 k hk).1) h3.size)⟩, fun j hj => hK.block j (h2 j hj).2.2 (h2 j hj).1⟩
 rcases hF j hf with hf | hf
 · exact (h2 j hj).1 hf
 · have := (h2 j hj).2.2; omega
theorem qbd.ask {F : Nat -> Prop} {r : Value} {e : Ending} (h1 : LP w.heap.size F B m X) (h2 : ∀ j, G j -> ¬ F j /\ w.heap.size <= j /\ j < X.heap.size) (h3 : Below w.heap.size w X) (h : e = .returned r /\ Below X.heap.size X X') :
 e = .returned r /\ qbd LP w B m G X' /\ Below X.heap.size X X' := ⟨h.1, qbd.below C ⟨F, h1, h2, h3⟩ h.2, h.2⟩
end
theorem qoK (s t : Gm.Ship) (w : World) : (binOp .neq 29 (.agg s.cells.toArray) (.agg t.cells.toArray)).run Tryz.prog w = .ok (.bool (!s.eqB t)) w := by
 simp only [binOp]
 simp [Op.equal, Op.maxDepth, qlo]
theorem qmp (g : Gm.G) (A : Option Addr) (n c : Nat) (w : World) (hty : Gm.ty g) (hn : n = g.qaa.length) (hn63 : n <= maxLen) (hr : Lies w w.heap.size 6 A n (Gm.qab g.qaa)) :
 Calls Tryz.prog 58 #[.agg (Gm.cells g (.slice A n c))] w fun e w' => (∃ v, e = .returned (.bool v) /\ (v = true ↔ Gm.ok g)) /\ Below w.heap.size w w' := by
 have hN : Hid (n = g.qaa.length) := qh hn
 have n63 : (n : Int) <= 9223372036854775807 := by unfold maxLen at hn63; omega
 have hc : ∀ W : World, ∀ j, (W.alloc (.cells (Gm.cells g (.slice A n c)) 33)).cell? ⟨W.heap.size, j, none⟩ = (Gm.cells g (.slice A n c))[j]? := fun W j => (Box.made W _ _).cell j
 have h0 := Gm.qaS g (.slice A n c)
 have h58 := Gm.qaZ g (.slice A n c)
 clear hn hn63
 by_cases hf : g.frame < 0
 · have d1 : decide (g.frame < 0) = true := decide_eq_true hf
   have hno := qh (show ¬ Gm.ok g from fun h => by have := h.1; omega)
   clear hr hf hty
   go_enter Tryz.func58, Tryz.ntmps58
   go_wp2
   go_ret
   exact ⟨by first | exact ⟨false, rfl, by simp; exact hno.out⟩ | exact .inl ⟨rfl, hno.out⟩, qac _ _⟩
 have d1 : decide (g.frame < 0) = false := decide_eq_false hf
 by_cases hf2 : 1048576 < g.frame
 · have d2 : decide (1048576 < g.frame) = true := decide_eq_true hf2
   have hno := qh (show ¬ Gm.ok g from fun h => by have := h.2.1; omega)
   clear hr hf hf2 hty
   go_enter Tryz.func58, Tryz.ntmps58
   go_wp2
   go_ret
   exact ⟨by first | exact ⟨false, rfl, by simp; exact hno.out⟩ | exact .inl ⟨rfl, hno.out⟩, qac _ _⟩
 have d2 : decide (1048576 < g.frame) = false := decide_eq_false hf2
 by_cases hf3 : 32 < (n : Int)
 · have d3 : decide (32 < (n : Int)) = true := decide_eq_true hf3
   have hno := qh (show ¬ Gm.ok g from fun h => by have := h.2.2.1; have := hN.out; omega)
   clear hr hf hf2 hf3 hty
   go_enter Tryz.func58, Tryz.ntmps58
   go_wp2
   go_ret
   exact ⟨by first | exact ⟨false, rfl, by simp; exact hno.out⟩ | exact .inl ⟨rfl, hno.out⟩, qac _ _⟩
 have d3 : decide (32 < (n : Int)) = false := decide_eq_false hf3
 have HF := qh (show 0 <= g.frame /\ g.frame <= 1048576 /\ g.qaa.length <= 32 from ⟨by omega, by omega, by have := hN.out; omega⟩)
 obtain ⟨_, _, hships, hshots⟩ := hty
 clear hf hf2 hf3
 go_enter Tryz.func58, Tryz.ntmps58
 go_wp2
 go_loopw [3] (fun i wr => ∃ k : Nat, k <= 8 /\ i = .int .i64 k /\ Box wr w.heap.size 33 (Gm.cells g (.slice A n c)) /\ Below w.heap.size w wr /\ ∀ j, j < k -> Gm.qaT (g.ship j)) (fun i _ => 8 - (intOf i).toNat)
 case atStart => exact ⟨0, by omega, rfl, Box.made _ _ _, qac _ _, fun j hj => absurd hj (Nat.not_lt_zero j)⟩
 case round =>
  obtain ⟨k, hk, rfl, hB, hb, hall⟩ := hrel
  have HALL := qh hall
  clear hall
  by_cases hlt : k < 8
  · have hcr := hB.cell
    have hlB := hB.lt
    have e0 := qa3 hcr hlt 0 (by omega)
    have e1 := qa3 hcr hlt 1 (by omega)
    have e2 := qa3 hcr hlt 2 (by omega)
    have e3 := qa3 hcr hlt 3 (by omega)
    have e4 := qa3 hcr hlt 4 (by omega)
    have e5 := qa3 hcr hlt 5 (by omega)
    have e6 := qa3 hcr hlt 6 (by omega)
    have ty := hships k hlt
    have HS := qh (show Gm.ok g -> Gm.qaT (g.ship k) from fun h => h.2.2.2.1 k hlt)
    have HZ := qh (show Gm.qaT (g.ship k) -> ∀ j, j < k + 1 -> Gm.qaT (g.ship j) from fun h j hj => by
     by_cases e : j = k
     · rw [e]; exact h
     · exact HALL.out j (by omega))
    generalize g.ship k = s at e0 e1 e2 e3 e4 e5 e6 ty HS HZ
    obtain ⟨on, x, y, vx, vy, cool, score⟩ := s
    simp only [Gm.Ship.cells, List.getElem?_cons_zero, List.getElem?_cons_succ, Nat.add_zero] at e0 e1 e2 e3 e4 e5 e6
    obtain ⟨tx, ty, tvx, tvy, tc, ts⟩ := ty
    unfold Gm.i32 Gm.i64 at *
    dsimp only at tx ty tvx tvy tc ts
    have hk8 : (k : Int) < 8 := by omega
    have HB := qh hB
    have HBB := qh hb
    clear hc hcr hships hshots h0 h58 d1 d2 d3 hB hb
    cases on
    · by_cases hz : (⟨false, x, y, vx, vy, cool, score⟩ : Gm.Ship) = Gm.Ship.none
      · have ho := qh (HZ.out (by rw [hz]; refine ⟨.inr rfl, ?_, ?_, ?_, ?_, ?_, ?_, ?_, ?_⟩ <;> simp [Gm.Ship.none, Gm.inF, Gm.slow]))
        injection hz with z1 z2 z3 z4 z5 z6 z7
        subst z2 z3 z4 z5 z6 z7
        clear HS HZ tx ty tvx tvy tc ts
        go_wp2
        go_roundw
        case rel => exact ⟨k + 1, by omega, by go_num, HB.out.alloc _, HBB.out.alloc (Nat.le_of_lt hlB) _, ho.out⟩
        case measure => simp [intOf]; omega
      · have he := fun W => qoK ⟨false, x, y, vx, vy, cool, score⟩ Gm.Ship.none W
        rw [show (⟨false, x, y, vx, vy, cool, score⟩ : Gm.Ship).eqB Gm.Ship.none = false by
         cases hq : (⟨false, x, y, vx, vy, cool, score⟩ : Gm.Ship).eqB Gm.Ship.none
         · rfl
         · exact absurd (Gm.Ship.qex.1 hq) hz] at he
        simp only [Gm.Ship.cells, Gm.Ship.none, Bool.not_false] at he
        have hno := qh (show ¬ Gm.ok g from fun h => (HS.out h).1.elim (fun hh => absurd hh (by simp)) hz)
        clear HS HZ hz tx ty tvx tvy tc ts
        go_wp2
        go_ret
        exact ⟨by first | exact ⟨false, rfl, by simp; exact hno.out⟩ | exact .inl ⟨rfl, hno.out⟩, HBB.out.alloc (Nat.le_of_lt hlB) _⟩
    · skip
      have cx := fun X => qh (qeJ x tx X)
      have cy := fun X => qh (qeJ y ty X)
      have cvx := fun X => qh (qdw vx 524288 tvx (by omega) X)
      have cvy := fun X => qh (qdw vy 524288 tvy (by omega) X)
      obtain ⟨bx, hx⟩ : ∃ b, b = (decide (0 <= x) && decide (x < 16777216)) := ⟨_, rfl⟩
      obtain ⟨b_y, hy⟩ : ∃ b, b = (decide (0 <= y) && decide (y < 16777216)) := ⟨_, rfl⟩
      obtain ⟨bvx, hvx⟩ : ∃ b, b = (decide (-524288 <= vx) && decide (vx <= 524288)) := ⟨_, rfl⟩
      obtain ⟨bvy, hvy⟩ : ∃ b, b = (decide (-524288 <= vy) && decide (vy <= 524288)) := ⟨_, rfl⟩
      rw [<- hx] at cx; rw [<- hy] at cy; rw [<- hvx] at cvx; rw [<- hvy] at cvy
      have HX := qh (show bx = true ↔ Gm.inF x by rw [hx]; unfold Gm.inF; simp)
      have HY := qh (show b_y = true ↔ Gm.inF y by rw [hy]; unfold Gm.inF; simp)
      have HVX := qh (show bvx = true ↔ Gm.slow vx 524288 by rw [hvx]; unfold Gm.slow; simp)
      have HVY := qh (show bvy = true ↔ Gm.slow vy 524288 by rw [hvy]; unfold Gm.slow; simp)
      have HO := qh (show Gm.ok g -> bx = true /\ b_y = true /\ bvx = true /\ bvy = true /\ 0 <= cool /\ cool <= 10 /\ 0 <= score /\ score <= 1073741824 from fun h => by obtain ⟨_, h1, h2, h3, h4, h5, h6, h7, h8⟩ := HS.out h; exact ⟨HX.out.2 h1, HY.out.2 h2, HVX.out.2 h3, HVY.out.2 h4, h5, h6, h7, h8⟩)
      have HQ := qh (show (bx = true /\ b_y = true /\ bvx = true /\ bvy = true /\ 0 <= cool /\ cool <= 10 /\ 0 <= score /\ score <= 1073741824) -> ∀ j, j < k + 1 -> Gm.qaT (g.ship j) from fun ⟨h1, h2, h3, h4, h5, h6, h7, h8⟩ => HZ.out ⟨.inl rfl, HX.out.1 h1, HY.out.1 h2, HVX.out.1 h3, HVY.out.1 h4, h5, h6, h7, h8⟩)
      clear hx hy hvx hvy HX HY HVX HVY HS HZ tx ty tvx tvy tc ts
      cases bx
      · have hno := qh (show ¬ Gm.ok g from fun h => by have := (HO.out h).1; simp at this)
        clear HO HQ
        go_wp2_with (first | (go_at_call 79; first | ((with_reducible refine ((cx _).out).mono ?_); rintro e v1 ⟨rfl, rfl⟩) | ((with_reducible refine ((cy _).out).mono ?_); rintro e v1 ⟨rfl, rfl⟩)) | (go_at_call 80; first | ((with_reducible refine ((cvx _).out).mono ?_); rintro e v1 ⟨rfl, rfl⟩) | ((with_reducible refine ((cvy _).out).mono ?_); rintro e v1 ⟨rfl, rfl⟩)))
        go_ret
        exact ⟨by first | exact ⟨false, rfl, by simp; exact hno.out⟩ | exact .inl ⟨rfl, hno.out⟩, HBB.out.alloc (Nat.le_of_lt hlB) _⟩
      cases b_y
      · have hno := qh (show ¬ Gm.ok g from fun h => by have := (HO.out h).2.1; simp at this)
        clear HO HQ
        go_wp2_with (first | (go_at_call 79; first | ((with_reducible refine ((cx _).out).mono ?_); rintro e v1 ⟨rfl, rfl⟩) | ((with_reducible refine ((cy _).out).mono ?_); rintro e v1 ⟨rfl, rfl⟩)) | (go_at_call 80; first | ((with_reducible refine ((cvx _).out).mono ?_); rintro e v1 ⟨rfl, rfl⟩) | ((with_reducible refine ((cvy _).out).mono ?_); rintro e v1 ⟨rfl, rfl⟩)))
        go_ret
        exact ⟨by first | exact ⟨false, rfl, by simp; exact hno.out⟩ | exact .inl ⟨rfl, hno.out⟩, HBB.out.alloc (Nat.le_of_lt hlB) _⟩
      cases bvx
      · have hno := qh (show ¬ Gm.ok g from fun h => by have := (HO.out h).2.2.1; simp at this)
        clear HO HQ
        go_wp2_with (first | (go_at_call 79; first | ((with_reducible refine ((cx _).out).mono ?_); rintro e v1 ⟨rfl, rfl⟩) | ((with_reducible refine ((cy _).out).mono ?_); rintro e v1 ⟨rfl, rfl⟩)) | (go_at_call 80; first | ((with_reducible refine ((cvx _).out).mono ?_); rintro e v1 ⟨rfl, rfl⟩) | ((with_reducible refine ((cvy _).out).mono ?_); rintro e v1 ⟨rfl, rfl⟩)))
        go_ret
        exact ⟨by first | exact ⟨false, rfl, by simp; exact hno.out⟩ | exact .inl ⟨rfl, hno.out⟩, HBB.out.alloc (Nat.le_of_lt hlB) _⟩
      cases bvy
      · have hno := qh (show ¬ Gm.ok g from fun h => by have := (HO.out h).2.2.2.1; simp at this)
        clear HO HQ
        go_wp2_with (first | (go_at_call 79; first | ((with_reducible refine ((cx _).out).mono ?_); rintro e v1 ⟨rfl, rfl⟩) | ((with_reducible refine ((cy _).out).mono ?_); rintro e v1 ⟨rfl, rfl⟩)) | (go_at_call 80; first | ((with_reducible refine ((cvx _).out).mono ?_); rintro e v1 ⟨rfl, rfl⟩) | ((with_reducible refine ((cvy _).out).mono ?_); rintro e v1 ⟨rfl, rfl⟩)))
        go_ret
        exact ⟨by first | exact ⟨false, rfl, by simp; exact hno.out⟩ | exact .inl ⟨rfl, hno.out⟩, HBB.out.alloc (Nat.le_of_lt hlB) _⟩
      by_cases q0 : cool < 0
      · have f0 : decide (cool < 0) = true := decide_eq_true q0
        have hno := qh (show ¬ Gm.ok g from fun h => by have := (HO.out h).2.2.2.2.1; omega)
        clear HO HQ q0
        go_wp2_with (first | (go_at_call 79; first | ((with_reducible refine ((cx _).out).mono ?_); rintro e v1 ⟨rfl, rfl⟩) | ((with_reducible refine ((cy _).out).mono ?_); rintro e v1 ⟨rfl, rfl⟩)) | (go_at_call 80; first | ((with_reducible refine ((cvx _).out).mono ?_); rintro e v1 ⟨rfl, rfl⟩) | ((with_reducible refine ((cvy _).out).mono ?_); rintro e v1 ⟨rfl, rfl⟩)))
        go_ret
        exact ⟨by first | exact ⟨false, rfl, by simp; exact hno.out⟩ | exact .inl ⟨rfl, hno.out⟩, HBB.out.alloc (Nat.le_of_lt hlB) _⟩
      have f0 : decide (cool < 0) = false := decide_eq_false q0
      by_cases q1 : 10 < cool
      · have f1 : decide (10 < cool) = true := decide_eq_true q1
        have hno := qh (show ¬ Gm.ok g from fun h => by have := (HO.out h).2.2.2.2.2.1; omega)
        clear HO HQ q0 q1
        go_wp2_with (first | (go_at_call 79; first | ((with_reducible refine ((cx _).out).mono ?_); rintro e v1 ⟨rfl, rfl⟩) | ((with_reducible refine ((cy _).out).mono ?_); rintro e v1 ⟨rfl, rfl⟩)) | (go_at_call 80; first | ((with_reducible refine ((cvx _).out).mono ?_); rintro e v1 ⟨rfl, rfl⟩) | ((with_reducible refine ((cvy _).out).mono ?_); rintro e v1 ⟨rfl, rfl⟩)))
        go_ret
        exact ⟨by first | exact ⟨false, rfl, by simp; exact hno.out⟩ | exact .inl ⟨rfl, hno.out⟩, HBB.out.alloc (Nat.le_of_lt hlB) _⟩
      have f1 : decide (10 < cool) = false := decide_eq_false q1
      by_cases q2 : score < 0
      · have f2 : decide (score < 0) = true := decide_eq_true q2
        have hno := qh (show ¬ Gm.ok g from fun h => by have := (HO.out h).2.2.2.2.2.2.1; omega)
        clear HO HQ q0 q1 q2
        go_wp2_with (first | (go_at_call 79; first | ((with_reducible refine ((cx _).out).mono ?_); rintro e v1 ⟨rfl, rfl⟩) | ((with_reducible refine ((cy _).out).mono ?_); rintro e v1 ⟨rfl, rfl⟩)) | (go_at_call 80; first | ((with_reducible refine ((cvx _).out).mono ?_); rintro e v1 ⟨rfl, rfl⟩) | ((with_reducible refine ((cvy _).out).mono ?_); rintro e v1 ⟨rfl, rfl⟩)))
        go_ret
        exact ⟨by first | exact ⟨false, rfl, by simp; exact hno.out⟩ | exact .inl ⟨rfl, hno.out⟩, HBB.out.alloc (Nat.le_of_lt hlB) _⟩
      have f2 : decide (score < 0) = false := decide_eq_false q2
      by_cases q3 : 1073741824 < score
      · have f3 : decide (1073741824 < score) = true := decide_eq_true q3
        have hno := qh (show ¬ Gm.ok g from fun h => by have := (HO.out h).2.2.2.2.2.2.2; omega)
        clear HO HQ q0 q1 q2 q3
        go_wp2_with (first | (go_at_call 79; first | ((with_reducible refine ((cx _).out).mono ?_); rintro e v1 ⟨rfl, rfl⟩) | ((with_reducible refine ((cy _).out).mono ?_); rintro e v1 ⟨rfl, rfl⟩)) | (go_at_call 80; first | ((with_reducible refine ((cvx _).out).mono ?_); rintro e v1 ⟨rfl, rfl⟩) | ((with_reducible refine ((cvy _).out).mono ?_); rintro e v1 ⟨rfl, rfl⟩)))
        go_ret
        exact ⟨by first | exact ⟨false, rfl, by simp; exact hno.out⟩ | exact .inl ⟨rfl, hno.out⟩, HBB.out.alloc (Nat.le_of_lt hlB) _⟩
      have f3 : decide (1073741824 < score) = false := decide_eq_false q3
      have ho := qh (HQ.out ⟨rfl, rfl, rfl, rfl, by omega, by omega, by omega, by omega⟩)
      clear HO HQ q0 q1 q2 q3
      go_wp2_with (first | (go_at_call 79; first | ((with_reducible refine ((cx _).out).mono ?_); rintro e v1 ⟨rfl, rfl⟩) | ((with_reducible refine ((cy _).out).mono ?_); rintro e v1 ⟨rfl, rfl⟩)) | (go_at_call 80; first | ((with_reducible refine ((cvx _).out).mono ?_); rintro e v1 ⟨rfl, rfl⟩) | ((with_reducible refine ((cvy _).out).mono ?_); rintro e v1 ⟨rfl, rfl⟩)))
      go_roundw
      case rel => exact ⟨k + 1, by omega, by go_num, HB.out.alloc _, HBB.out.alloc (Nat.le_of_lt hlB) _, ho.out⟩
      case measure => simp [intOf]; omega
  · have hk8 : ¬ (k : Int) < 8 := by omega
    have HA8 := qh (show ∀ j, j < 8 -> Gm.qaT (g.ship j) from fun j hj => HALL.out j (by omega))
    have hcr := hB.cell
    have hlB := hB.lt
    clear hc hships h0 d1 d2 d3 HALL
    go_wp2
    go_loopw [5] (fun i wr => ∃ k : Nat, k <= n /\ i = .int .i64 k /\ Box wr w.heap.size 33 (Gm.cells g (.slice A n c)) /\ Below w.heap.size w wr /\ ∀ j (hj : j < g.qaa.length), j < k -> Gm.qa5 (g.qaa[j]'hj)) (fun i _ => n - (intOf i).toNat)
    case atStart => exact ⟨0, by omega, rfl, hB, hb, fun j _ hj => absurd hj (Nat.not_lt_zero j)⟩
    case round =>
     obtain ⟨m, hm, rfl, hB, hb, hall⟩ := hrel
     have HALL := qh hall
     clear hcr hlB hall
     have hcr := hB.cell
     have hlB := hB.lt
     by_cases hlt : m < n
     · have hml : m < g.qaa.length := by have := hN.out; omega
       obtain ⟨ad, rfl, hbl, e0, e1, e2, e3, e4, e5⟩ := qco (hr.below hb) hN.out m hml
       have ty := hshots m hml
       have HS := qh (show Gm.ok g -> Gm.qa5 (g.qaa[m]'hml) from fun h => h.2.2.2.2 m hml)
       have HZ := qh (show Gm.qa5 (g.qaa[m]'hml) -> ∀ j (hj : j < g.qaa.length), j < m + 1 -> Gm.qa5 (g.qaa[j]'hj) from fun h j hjl hj => by
        by_cases e : j = m
        · subst e; exact h
        · exact HALL.out j hjl (by omega))
       generalize g.qaa[m]'hml = s at e0 e1 e2 e3 e4 e5 ty HS HZ
       obtain ⟨owner, x, y, vx, vy, left⟩ := s
       dsimp only at e0 e1 e2 e3 e4 e5
       obtain ⟨to_, tx, ty, tvx, tvy, tl⟩ := ty
       unfold Gm.i32 Gm.i64 at *
       dsimp only at to_ tx ty tvx tvy tl
       have hmn : (m : Int) < n := by omega
       have HB := qh hB
       have HBB := qh hb
       clear hr hshots hb hB
       have cx := fun X => qh (qeJ x tx X)
       have cy := fun X => qh (qeJ y ty X)
       have cvx := fun X => qh (qdw vx 393216 tvx (by omega) X)
       have cvy := fun X => qh (qdw vy 393216 tvy (by omega) X)
       obtain ⟨bx, hx⟩ : ∃ b, b = (decide (0 <= x) && decide (x < 16777216)) := ⟨_, rfl⟩
       obtain ⟨b_y, hy⟩ : ∃ b, b = (decide (0 <= y) && decide (y < 16777216)) := ⟨_, rfl⟩
       obtain ⟨bvx, hvx⟩ : ∃ b, b = (decide (-393216 <= vx) && decide (vx <= 393216)) := ⟨_, rfl⟩
       obtain ⟨bvy, hvy⟩ : ∃ b, b = (decide (-393216 <= vy) && decide (vy <= 393216)) := ⟨_, rfl⟩
       rw [<- hx] at cx; rw [<- hy] at cy; rw [<- hvx] at cvx; rw [<- hvy] at cvy
       have HX := qh (show bx = true ↔ Gm.inF x by rw [hx]; unfold Gm.inF; simp)
       have HY := qh (show b_y = true ↔ Gm.inF y by rw [hy]; unfold Gm.inF; simp)
       have HVX := qh (show bvx = true ↔ Gm.slow vx 393216 by rw [hvx]; unfold Gm.slow; simp)
       have HVY := qh (show bvy = true ↔ Gm.slow vy 393216 by rw [hvy]; unfold Gm.slow; simp)
       have HO := qh (show Gm.ok g -> bx = true /\ b_y = true /\ bvx = true /\ bvy = true /\ 0 <= owner /\ owner < 8 /\ 1 <= left /\ left <= 24 from fun h => by obtain ⟨h5, h6, h1, h2, h3, h4, h7, h8⟩ := HS.out h; exact ⟨HX.out.2 h1, HY.out.2 h2, HVX.out.2 h3, HVY.out.2 h4, h5, h6, h7, h8⟩)
       have HQ := qh (show (bx = true /\ b_y = true /\ bvx = true /\ bvy = true /\ 0 <= owner /\ owner < 8 /\ 1 <= left /\ left <= 24) -> ∀ j (hj : j < g.qaa.length), j < m + 1 -> Gm.qa5 (g.qaa[j]'hj) from fun ⟨h1, h2, h3, h4, h5, h6, h7, h8⟩ => HZ.out ⟨h5, h6, HX.out.1 h1, HY.out.1 h2, HVX.out.1 h3, HVY.out.1 h4, h7, h8⟩)
       clear hx hy hvx hvy HX HY HVX HVY HS HZ tx ty tvx tvy to_ tl
       by_cases q0 : owner < 0
       · have f0 : decide (owner < 0) = true := decide_eq_true q0
         have hno := qh (show ¬ Gm.ok g from fun h => by have := (HO.out h).2.2.2.2.1; omega)
         clear HO HQ q0
         go_wp2_with (first | (go_at_call 79; first | ((with_reducible refine ((cx _).out).mono ?_); rintro e v1 ⟨rfl, rfl⟩) | ((with_reducible refine ((cy _).out).mono ?_); rintro e v1 ⟨rfl, rfl⟩)) | (go_at_call 80; first | ((with_reducible refine ((cvx _).out).mono ?_); rintro e v1 ⟨rfl, rfl⟩) | ((with_reducible refine ((cvy _).out).mono ?_); rintro e v1 ⟨rfl, rfl⟩)))
         go_ret
         exact ⟨by first | exact ⟨false, rfl, by simp; exact hno.out⟩ | exact .inl ⟨rfl, hno.out⟩, HBB.out.alloc (Nat.le_of_lt hlB) _⟩
       have f0 : decide (owner < 0) = false := decide_eq_false q0
       by_cases q1 : 8 <= owner
       · have f1 : decide (8 <= owner) = true := decide_eq_true q1
         have hno := qh (show ¬ Gm.ok g from fun h => by have := (HO.out h).2.2.2.2.2.1; omega)
         clear HO HQ q0 q1
         go_wp2_with (first | (go_at_call 79; first | ((with_reducible refine ((cx _).out).mono ?_); rintro e v1 ⟨rfl, rfl⟩) | ((with_reducible refine ((cy _).out).mono ?_); rintro e v1 ⟨rfl, rfl⟩)) | (go_at_call 80; first | ((with_reducible refine ((cvx _).out).mono ?_); rintro e v1 ⟨rfl, rfl⟩) | ((with_reducible refine ((cvy _).out).mono ?_); rintro e v1 ⟨rfl, rfl⟩)))
         go_ret
         exact ⟨by first | exact ⟨false, rfl, by simp; exact hno.out⟩ | exact .inl ⟨rfl, hno.out⟩, HBB.out.alloc (Nat.le_of_lt hlB) _⟩
       have f1 : decide (8 <= owner) = false := decide_eq_false q1
       cases bx
       · have hno := qh (show ¬ Gm.ok g from fun h => by have := (HO.out h).1; simp at this)
         clear HO HQ q0 q1
         go_wp2_with (first | (go_at_call 79; first | ((with_reducible refine ((cx _).out).mono ?_); rintro e v1 ⟨rfl, rfl⟩) | ((with_reducible refine ((cy _).out).mono ?_); rintro e v1 ⟨rfl, rfl⟩)) | (go_at_call 80; first | ((with_reducible refine ((cvx _).out).mono ?_); rintro e v1 ⟨rfl, rfl⟩) | ((with_reducible refine ((cvy _).out).mono ?_); rintro e v1 ⟨rfl, rfl⟩)))
         go_ret
         exact ⟨by first | exact ⟨false, rfl, by simp; exact hno.out⟩ | exact .inl ⟨rfl, hno.out⟩, HBB.out.alloc (Nat.le_of_lt hlB) _⟩
       cases b_y
       · have hno := qh (show ¬ Gm.ok g from fun h => by have := (HO.out h).2.1; simp at this)
         clear HO HQ q0 q1
         go_wp2_with (first | (go_at_call 79; first | ((with_reducible refine ((cx _).out).mono ?_); rintro e v1 ⟨rfl, rfl⟩) | ((with_reducible refine ((cy _).out).mono ?_); rintro e v1 ⟨rfl, rfl⟩)) | (go_at_call 80; first | ((with_reducible refine ((cvx _).out).mono ?_); rintro e v1 ⟨rfl, rfl⟩) | ((with_reducible refine ((cvy _).out).mono ?_); rintro e v1 ⟨rfl, rfl⟩)))
         go_ret
         exact ⟨by first | exact ⟨false, rfl, by simp; exact hno.out⟩ | exact .inl ⟨rfl, hno.out⟩, HBB.out.alloc (Nat.le_of_lt hlB) _⟩
       cases bvx
       · have hno := qh (show ¬ Gm.ok g from fun h => by have := (HO.out h).2.2.1; simp at this)
         clear HO HQ q0 q1
         go_wp2_with (first | (go_at_call 79; first | ((with_reducible refine ((cx _).out).mono ?_); rintro e v1 ⟨rfl, rfl⟩) | ((with_reducible refine ((cy _).out).mono ?_); rintro e v1 ⟨rfl, rfl⟩)) | (go_at_call 80; first | ((with_reducible refine ((cvx _).out).mono ?_); rintro e v1 ⟨rfl, rfl⟩) | ((with_reducible refine ((cvy _).out).mono ?_); rintro e v1 ⟨rfl, rfl⟩)))
         go_ret
         exact ⟨by first | exact ⟨false, rfl, by simp; exact hno.out⟩ | exact .inl ⟨rfl, hno.out⟩, HBB.out.alloc (Nat.le_of_lt hlB) _⟩
       cases bvy
       · have hno := qh (show ¬ Gm.ok g from fun h => by have := (HO.out h).2.2.2.1; simp at this)
         clear HO HQ q0 q1
         go_wp2_with (first | (go_at_call 79; first | ((with_reducible refine ((cx _).out).mono ?_); rintro e v1 ⟨rfl, rfl⟩) | ((with_reducible refine ((cy _).out).mono ?_); rintro e v1 ⟨rfl, rfl⟩)) | (go_at_call 80; first | ((with_reducible refine ((cvx _).out).mono ?_); rintro e v1 ⟨rfl, rfl⟩) | ((with_reducible refine ((cvy _).out).mono ?_); rintro e v1 ⟨rfl, rfl⟩)))
         go_ret
         exact ⟨by first | exact ⟨false, rfl, by simp; exact hno.out⟩ | exact .inl ⟨rfl, hno.out⟩, HBB.out.alloc (Nat.le_of_lt hlB) _⟩
       by_cases q2 : left < 1
       · have f2 : decide (left < 1) = true := decide_eq_true q2
         have hno := qh (show ¬ Gm.ok g from fun h => by have := (HO.out h).2.2.2.2.2.2.1; omega)
         clear HO HQ q0 q1 q2
         go_wp2_with (first | (go_at_call 79; first | ((with_reducible refine ((cx _).out).mono ?_); rintro e v1 ⟨rfl, rfl⟩) | ((with_reducible refine ((cy _).out).mono ?_); rintro e v1 ⟨rfl, rfl⟩)) | (go_at_call 80; first | ((with_reducible refine ((cvx _).out).mono ?_); rintro e v1 ⟨rfl, rfl⟩) | ((with_reducible refine ((cvy _).out).mono ?_); rintro e v1 ⟨rfl, rfl⟩)))
         go_ret
         exact ⟨by first | exact ⟨false, rfl, by simp; exact hno.out⟩ | exact .inl ⟨rfl, hno.out⟩, HBB.out.alloc (Nat.le_of_lt hlB) _⟩
       have f2 : decide (left < 1) = false := decide_eq_false q2
       by_cases q3 : 24 < left
       · have f3 : decide (24 < left) = true := decide_eq_true q3
         have hno := qh (show ¬ Gm.ok g from fun h => by have := (HO.out h).2.2.2.2.2.2.2; omega)
         clear HO HQ q0 q1 q2 q3
         go_wp2_with (first | (go_at_call 79; first | ((with_reducible refine ((cx _).out).mono ?_); rintro e v1 ⟨rfl, rfl⟩) | ((with_reducible refine ((cy _).out).mono ?_); rintro e v1 ⟨rfl, rfl⟩)) | (go_at_call 80; first | ((with_reducible refine ((cvx _).out).mono ?_); rintro e v1 ⟨rfl, rfl⟩) | ((with_reducible refine ((cvy _).out).mono ?_); rintro e v1 ⟨rfl, rfl⟩)))
         go_ret
         exact ⟨by first | exact ⟨false, rfl, by simp; exact hno.out⟩ | exact .inl ⟨rfl, hno.out⟩, HBB.out.alloc (Nat.le_of_lt hlB) _⟩
       have f3 : decide (24 < left) = false := decide_eq_false q3
       have ho := qh (HQ.out ⟨rfl, rfl, rfl, rfl, by omega, by omega, by omega, by omega⟩)
       clear HO HQ q0 q1 q2 q3
       go_wp2_with (first | (go_at_call 79; first | ((with_reducible refine ((cx _).out).mono ?_); rintro e v1 ⟨rfl, rfl⟩) | ((with_reducible refine ((cy _).out).mono ?_); rintro e v1 ⟨rfl, rfl⟩)) | (go_at_call 80; first | ((with_reducible refine ((cvx _).out).mono ?_); rintro e v1 ⟨rfl, rfl⟩) | ((with_reducible refine ((cvy _).out).mono ?_); rintro e v1 ⟨rfl, rfl⟩)))
       go_roundw
       case rel => exact ⟨m + 1, by omega, by go_num, HB.out.alloc _, HBB.out.alloc (Nat.le_of_lt hlB) _, ho.out⟩
       case measure => simp [intOf]; omega
     · have hmn : ¬ (m : Int) < n := by omega
       have hyes := qh (show Gm.ok g from ⟨HF.out.1, HF.out.2.1, HF.out.2.2, HA8.out, fun j hj => HALL.out j hj (by have := hN.out; omega)⟩)
       have HBB := qh hb
       clear hr hshots hb hB HALL
       go_wp2
       go_ret
       exact ⟨by first | exact ⟨true, rfl, by simp; exact hyes.out⟩ | exact .inr ⟨rfl, hyes.out⟩, HBB.out⟩
open Go.RowKit Go.Shelf
theorem qcj (r : Ros.R) (w : World) :
 Calls Tryz.prog 54 #[.agg (Ros.cells r)] w fun e w' => (∃ v, e = .returned (.bool v) /\ (v = true ↔ Ros.Ok r)) /\ Below w.heap.size w w' := by
 have hc : ∀ W : World, ∀ j, (W.alloc (.cells (Ros.cells r) 38)).cell? ⟨W.heap.size, j, none⟩ = (Ros.cells r)[j]? := fun W j => (Box.made W _ _).cell j
 have h0 := Ros.qaS r
 by_cases hv1 : r.version < 0
 · have d1 : decide (r.version < 0) = true := decide_eq_true hv1
   have hno := qh (show ¬ Ros.Ok r from fun h => by have := h.1; omega)
   clear hv1
   go_enter Tryz.func54, Tryz.ntmps54
   go_wp2
   go_ret
   exact ⟨by first | exact ⟨false, rfl, by simp; exact hno.out⟩ | exact .inl ⟨rfl, hno.out⟩, qac _ _⟩
 have d1 : decide (r.version < 0) = false := decide_eq_false hv1
 by_cases hv2 : 1073741824 < r.version
 · have d2 : decide (1073741824 < r.version) = true := decide_eq_true hv2
   have hno := qh (show ¬ Ros.Ok r from fun h => by have := h.1; omega)
   clear hv1 hv2
   go_enter Tryz.func54, Tryz.ntmps54
   go_wp2
   go_ret
   exact ⟨by first | exact ⟨false, rfl, by simp; exact hno.out⟩ | exact .inl ⟨rfl, hno.out⟩, qac _ _⟩
 have d2 : decide (1073741824 < r.version) = false := decide_eq_false hv2
 have HV := qh (show 0 <= r.version /\ r.version <= 1073741824 from ⟨by omega, by omega⟩)
 clear hv1 hv2
 go_enter Tryz.func54, Tryz.ntmps54
 go_wp2
 go_loopw [3] (fun i wr => ∃ k : Nat, k <= 8 /\ i = .int .i64 k /\ Box wr w.heap.size 38 (Ros.cells r) /\ Below w.heap.size w wr /\ (∀ j, j < k -> Ros.qej r j) /\ ∀ j i, j < i -> i < k -> r.peer j = -1 \/ r.peer j ≠ r.peer i) (fun i _ => 8 - (intOf i).toNat)
 case atStart => exact ⟨0, by omega, rfl, Box.made _ _ _, qac _ _, fun j hj => absurd hj (Nat.not_lt_zero j), fun j i _ hi => absurd hi (Nat.not_lt_zero i)⟩
 case round =>
  obtain ⟨k, hk, rfl, hB, hb, hall, hp⟩ := hrel
  have HALL := qh hall
  have HP := qh hp
  clear hall hp d1 d2 h0 hc
  by_cases hlt : k < 8
  · have hk8 : (k : Int) < 8 := by omega
    have rc := hB.cell
    have hlB := hB.lt
    have rp := Ros.qaB r k hlt
    have rg := Ros.qaV r k hlt
    have HS := qh (show Ros.Ok r -> (0 <= r.gen k /\ r.gen k <= 60000) /\ (r.peer k = -1 \/ ((0 <= r.peer k /\ r.peer k < 12) /\ 0 < r.gen k)) from fun h => h.seat k hlt)
    have HZ := qh (show (0 <= r.gen k /\ r.gen k <= 60000) /\ (r.peer k = -1 \/ ((0 <= r.peer k /\ r.peer k < 12) /\ 0 < r.gen k)) -> ∀ j, j < k + 1 -> Ros.qej r j from fun h j hj => by
     by_cases e : j = k
     · rw [e]; exact h
     · exact HALL.out j (by omega))
    obtain ⟨p, hpk⟩ : ∃ p, p = r.peer k := ⟨_, rfl⟩
    obtain ⟨g, hgk⟩ : ∃ g, g = r.gen k := ⟨_, rfl⟩
    rw [<- hpk] at rp HS HZ
    rw [<- hgk] at rg HS HZ
    have HPK := qh hpk
    have HB := qh hB
    have HBB := qh hb
    clear hpk hgk hB hb HALL
    by_cases q0 : p < -1
    · have f0 : decide (p < -1) = true := decide_eq_true q0
      have hno := qh (show ¬ Ros.Ok r from fun h => by have := HS.out h; omega)
      clear HS HZ q0
      go_wp2
      go_ret
      exact ⟨by first | exact ⟨false, rfl, by simp; exact hno.out⟩ | exact .inl ⟨rfl, hno.out⟩, HBB.out.alloc (Nat.le_of_lt hlB) _⟩
    have f0 : decide (p < -1) = false := decide_eq_false q0
    by_cases q1 : 12 <= p
    · have f1 : decide (12 <= p) = true := decide_eq_true q1
      have hno := qh (show ¬ Ros.Ok r from fun h => by have := HS.out h; omega)
      clear HS HZ q0 q1
      go_wp2
      go_ret
      exact ⟨by first | exact ⟨false, rfl, by simp; exact hno.out⟩ | exact .inl ⟨rfl, hno.out⟩, HBB.out.alloc (Nat.le_of_lt hlB) _⟩
    have f1 : decide (12 <= p) = false := decide_eq_false q1
    by_cases q2 : g < 0
    · have f2 : decide (g < 0) = true := decide_eq_true q2
      have hno := qh (show ¬ Ros.Ok r from fun h => by have := HS.out h; omega)
      clear HS HZ q0 q1 q2
      go_wp2
      go_ret
      exact ⟨by first | exact ⟨false, rfl, by simp; exact hno.out⟩ | exact .inl ⟨rfl, hno.out⟩, HBB.out.alloc (Nat.le_of_lt hlB) _⟩
    have f2 : decide (g < 0) = false := decide_eq_false q2
    by_cases q3 : 60000 < g
    · have f3 : decide (60000 < g) = true := decide_eq_true q3
      have hno := qh (show ¬ Ros.Ok r from fun h => by have := HS.out h; omega)
      clear HS HZ q0 q1 q2 q3
      go_wp2
      go_ret
      exact ⟨by first | exact ⟨false, rfl, by simp; exact hno.out⟩ | exact .inl ⟨rfl, hno.out⟩, HBB.out.alloc (Nat.le_of_lt hlB) _⟩
    have f3 : decide (60000 < g) = false := decide_eq_false q3
    by_cases q4 : 0 <= p
    · have f4 : decide (0 <= p) = true := decide_eq_true q4
      by_cases q5 : g < 1
      · have f5 : decide (g < 1) = true := decide_eq_true q5
        have hno := qh (show ¬ Ros.Ok r from fun h => by have := HS.out h; omega)
        clear HS HZ q0 q1 q2 q3 q4 q5
        go_wp2
        go_ret
        exact ⟨by first | exact ⟨false, rfl, by simp; exact hno.out⟩ | exact .inl ⟨rfl, hno.out⟩, HBB.out.alloc (Nat.le_of_lt hlB) _⟩
      have f5 : decide (g < 1) = false := decide_eq_false q5
      have hnew := qh (HZ.out (by omega))
      clear HS HZ q0 q1 q2 q3 q5
      go_wp2
      go_loopw [5] (fun i wr2 => ∃ m : Nat, m <= k /\ i = .int .i64 m /\ Box wr2 w.heap.size 38 (Ros.cells r) /\ Box wr2 wr.heap.size 35 #[.int .i64 p, .int .i64 g] /\ Below w.heap.size w wr2 /\ ∀ j, j < m -> r.peer j = -1 \/ r.peer j ≠ p) (fun i _ => k - (intOf i).toNat)
      case atStart => exact ⟨0, by omega, rfl, HB.out.alloc _, Box.made _ _ _, HBB.out.alloc (Nat.le_of_lt hlB) _, fun j hj => absurd hj (Nat.not_lt_zero j)⟩
      case round =>
       obtain ⟨m, hm, rfl, hB2, hS2, hb2, hall2⟩ := hrel
       have HALL2 := qh hall2
       clear hall2 rc rp rg
       by_cases hmk : m < k
       · have hm8 : m < 8 := by omega
         have hm8' : (m : Int) < 8 := by omega
         have hmk' : (m : Int) < k := by omega
         have rc := hB2.cell
         have sc := hS2.cell
         have rp := Ros.qaB r m hm8
         have s0 : (#[.int .i64 p, .int .i64 g] : Array Value)[0]? = some (.int .i64 p) := rfl
         obtain ⟨q, hq⟩ : ∃ q, q = r.peer m := ⟨_, rfl⟩
         rw [<- hq] at rp
         have HB2 := qh hB2
         have HS2 := qh hS2
         have HBB2 := qh hb2
         by_cases hqp : q = p
         · have hqe : (q == p) = true := by simpa using hqp
           have hno := qh (show ¬ Ros.Ok r from fun h => by
            have := (Ros.qgF.1 h).2.2 m k hmk hlt
            rw [<- hq, <- HPK.out] at this
            omega)
           clear hq hqp hB2 hS2 hb2 q4
           go_upto_region 12 with fail
           go_quiet (fail)
           go_wp2
           go_ret
           exact ⟨by first | exact ⟨false, rfl, by simp; exact hno.out⟩ | exact .inl ⟨rfl, hno.out⟩, qaj HBB2.out _⟩
         have hqe : (q == p) = false := by simpa using hqp
         have hn2 := qh (show ∀ j, j < m + 1 -> r.peer j = -1 \/ r.peer j ≠ p from fun j hj => by
          by_cases e : j = m
          · rw [e, <- hq]; exact .inr hqp
          · exact HALL2.out j (by omega))
         clear hq hB2 hS2 hb2 hqp q4
         go_upto_region 12 with fail
         go_quiet (fail)
         go_wp2
         go_roundw
         case rel => exact ⟨m + 1, by omega, by go_num, HB2.out.draws _, HS2.out.draws _, qaj HBB2.out _, hn2.out⟩
         case measure => simp [intOf]; omega
       · have hmk' : ¬ (m : Int) < k := by omega
         have HB2 := qh hB2
         have HBB2 := qh hb2
         have hall3 := qh (show ∀ j i, j < i -> i < k + 1 -> r.peer j = -1 \/ r.peer j ≠ r.peer i from fun j i hji hi => by
          by_cases e : i = k
          · rw [e, <- HPK.out]; exact HALL2.out j (by omega)
          · exact HP.out j i hji (by omega))
         clear hB2 hS2 hb2
         go_wp2
         go_roundw
         case rel => exact ⟨k + 1, by omega, by go_num, HB2.out, HBB2.out, hnew.out, hall3.out⟩
         case measure => simp [intOf]; omega
    · have f4 : decide (0 <= p) = false := decide_eq_false q4
      have hpm := qh (show p = -1 by omega)
      have hnew := qh (HZ.out (by omega))
      clear HS HZ q0 q1 q2 q3 
      go_wp2
      go_loopw [5] (fun i wr2 => ∃ m : Nat, m <= k /\ i = .int .i64 m /\ Box wr2 w.heap.size 38 (Ros.cells r) /\ Box wr2 wr.heap.size 35 #[.int .i64 p, .int .i64 g] /\ Below w.heap.size w wr2 /\ ∀ j, j < m -> r.peer j = -1 \/ r.peer j ≠ p) (fun i _ => k - (intOf i).toNat)
      case atStart => exact ⟨0, by omega, rfl, HB.out.alloc _, Box.made _ _ _, HBB.out.alloc (Nat.le_of_lt hlB) _, fun j hj => absurd hj (Nat.not_lt_zero j)⟩
      case round =>
       obtain ⟨m, hm, rfl, hB2, hS2, hb2, hall2⟩ := hrel
       have HALL2 := qh hall2
       clear hall2 rc rp rg
       by_cases hmk : m < k
       · have hm8 : m < 8 := by omega
         have hm8' : (m : Int) < 8 := by omega
         have hmk' : (m : Int) < k := by omega
         have rc := hB2.cell
         have sc := hS2.cell
         have rp := Ros.qaB r m hm8
         have s0 : (#[.int .i64 p, .int .i64 g] : Array Value)[0]? = some (.int .i64 p) := rfl
         obtain ⟨q, hq⟩ : ∃ q, q = r.peer m := ⟨_, rfl⟩
         rw [<- hq] at rp
         have HB2 := qh hB2
         have HS2 := qh hS2
         have HBB2 := qh hb2
         have hn2 := qh (show ∀ j, j < m + 1 -> r.peer j = -1 \/ r.peer j ≠ p from fun j hj => by
          by_cases e : j = m
          · rw [e, <- hq]; first | (by_cases e2 : q = -1; exact .inl e2; exact .inr (fun e3 => e2 (by have := hpm.out; omega)))
          · exact HALL2.out j (by omega))
         clear hq hB2 hS2 hb2 q4
         go_upto_region 12 with fail
         go_quiet (fail)
         go_wp2
         go_roundw
         case rel => exact ⟨m + 1, by omega, by go_num, HB2.out.draws _, HS2.out.draws _, qaj HBB2.out _, hn2.out⟩
         case measure => simp [intOf]; omega
       · have hmk' : ¬ (m : Int) < k := by omega
         have HB2 := qh hB2
         have HBB2 := qh hb2
         have hall3 := qh (show ∀ j i, j < i -> i < k + 1 -> r.peer j = -1 \/ r.peer j ≠ r.peer i from fun j i hji hi => by
          by_cases e : i = k
          · rw [e, <- HPK.out]; exact HALL2.out j (by omega)
          · exact HP.out j i hji (by omega))
         clear hB2 hS2 hb2
         go_wp2
         go_roundw
         case rel => exact ⟨k + 1, by omega, by go_num, HB2.out, HBB2.out, hnew.out, hall3.out⟩
         case measure => simp [intOf]; omega
  · have hk8 : ¬ (k : Int) < 8 := by omega
    have hyes := qh (show Ros.Ok r from Ros.qgF.2 ⟨HV.out, fun j hj => HALL.out j (by omega), fun j i hji hi => HP.out j i hji (by omega)⟩)
    have HBB := qh hb
    clear hB hb
    go_wp2
    go_ret
    exact ⟨by first | exact ⟨true, rfl, by simp; exact hyes.out⟩ | exact .inr ⟨rfl, hyes.out⟩, HBB.out⟩
theorem qbL (g : Gm.G) (r : Ros.R) (A : Option Addr) (n c : Nat) (w : World) (hty : Gm.ty g) (hn : n = g.qaa.length) (hn63 : n <= maxLen) (hr : Lies w w.heap.size 6 A n (Gm.qab g.qaa)) :
 Calls Tryz.prog 34 #[.agg (Im.cells g (.slice A n c) r)] w fun e w' => (∃ v, e = .returned (.bool v) /\ (v = true ↔ Im.Ok g r)) /\ Below w.heap.size w w' := by
 have P0 := qh (Box.made w 40 (Im.cells g (.slice A n c) r))
 have K0 := qh (qac w (.cells (Im.cells g (.slice A n c) r) 40))
 have HQ := qh ((hr.below K0.out).wider K0.out.size)
 have cg := fun X hX => qh (qmp g A n c X hty hn hn63 hX)
 have cr := fun X => qh (qcj r X)
 clear hr hn hty hn63
 by_cases hg : Gm.ok g
 · have HG := qh hg
   by_cases hok : Ros.Ok r
   · have HR := qh hok
     clear hg hok
     go_enter Tryz.func34, Tryz.ntmps34
     go_wp2_with (first | ((with_reducible refine qaY rfl rfl ?_); apply qay.mk rfl; (focus (with_reducible exact P0.out)); dsimp only) | ((with_reducible refine qbt ?_ rfl ?_); (focus first | rfl | kernel_rfl | simp [Region.wanted, yielded]); apply qay.mk rfl; (focus (with_reducible exact P1.out)); dsimp only) | (go_at_call 58; ((with_reducible refine ((cg _ HQ.out).out).mono ?_); rintro e w1 ⟨⟨v1, rfl, hv1⟩, hb⟩; obtain rfl : v1 = true := hv1.2 HG.out; have P1 := qh (P0.out.below hb P0.out.lt); have K1 := qh (K0.out.trans (hb.mono K0.out.size)); clear hb hv1)) | (go_at_call 54; ((with_reducible refine ((cr _).out).mono ?_); rintro e w2 ⟨⟨v2, rfl, hv2⟩, hb⟩; obtain rfl : v2 = true := hv2.2 HR.out; have P2 := qh (P1.out.below hb P1.out.lt); have K2 := qh (K1.out.trans (hb.mono K1.out.size)); clear hb hv2)))
     go_loopw [3] (fun i wr => ∃ k : Nat, k <= 8 /\ i = .int .i64 k /\ Box wr w.heap.size 40 (Im.cells g (.slice A n c) r) /\ Below w.heap.size w wr /\ ∀ j, j < k -> (g.ship j).on = decide (0 <= r.peer j)) (fun i _ => 8 - (intOf i).toNat)
     case atStart => exact ⟨0, by omega, rfl, P2.out, K2.out, fun j hj => absurd hj (Nat.not_lt_zero j)⟩
     case round =>
      obtain ⟨k, hk, rfl, hB, hb, hall⟩ := hrel
      clear P0 K0 P1 K1 P2 K2 HQ cg cr
      by_cases hlt : k < 8
      · have hk8 : (k : Int) < 8 := by omega
        have e0 : wr.cell? ⟨w.heap.size, 2 + k * 7, none⟩ = some (.bool (g.ship k).on) := (hB.cell _).trans ((Im.qae g _ r k 0 hlt (by omega)).trans rfl)
        have e1 : wr.cell? ⟨w.heap.size, 60 + k * 2, none⟩ = some (.int .i64 (r.peer k)) := (hB.cell _).trans (by
         have := Im.qez g (.slice A n c) r (1 + k * 2)
         rw [show 60 + k * 2 = 59 + (1 + k * 2) by omega]
         exact this.trans (Ros.qaB r k hlt))
        obtain ⟨on, hon⟩ : ∃ on, on = (g.ship k).on := ⟨_, rfl⟩
        obtain ⟨pk, hpk⟩ : ∃ pk, pk = r.peer k := ⟨_, rfl⟩
        rw [<- hon] at e0
        rw [<- hpk] at e1
        have HON := qh hon
        have HPK := qh hpk
        have HALL := qh hall
        have HB := qh hB
        have HBB := qh hb
        clear hon hpk hall hB hb
        by_cases hm : on = decide (0 <= pk)
        · have hnew := qh (show ∀ j, j < k + 1 -> (g.ship j).on = decide (0 <= r.peer j) from fun j hj => by
           by_cases e : j = k
           · rw [e, <- HON.out, <- HPK.out]; exact hm
           · exact HALL.out j (by omega))
          cases hd : decide (0 <= pk)
          · rw [hd] at hm
            subst hm
            go_upto_region 6 with fail
            go_quiet (fail)
            go_wp2
            go_roundw
            case rel => exact ⟨k + 1, by omega, by go_num, HB.out.draws _, qaj HBB.out _, hnew.out⟩
            case measure => simp [intOf]; omega
          · rw [hd] at hm
            subst hm
            go_upto_region 6 with fail
            go_quiet (fail)
            go_wp2
            go_roundw
            case rel => exact ⟨k + 1, by omega, by go_num, HB.out.draws _, qaj HBB.out _, hnew.out⟩
            case measure => simp [intOf]; omega
        · have hno := qh (show ¬ Im.Ok g r from fun h => hm (by rw [HON.out, HPK.out]; exact h.2.2 k hlt))
          cases hd : decide (0 <= pk)
          · obtain rfl : on = true := by
             cases on
             · exact absurd hd.symm hm
             · rfl
            clear hm
            go_upto_region 6 with fail
            go_quiet (fail)
            go_wp2
            go_ret
            exact ⟨by first | exact ⟨false, rfl, by simp; exact hno.out⟩ | exact .inl ⟨rfl, hno.out⟩, qaj HBB.out _⟩
          · obtain rfl : on = false := by
             cases on
             · rfl
             · exact absurd hd.symm hm
            clear hm
            go_upto_region 6 with fail
            go_quiet (fail)
            go_wp2
            go_ret
            exact ⟨by first | exact ⟨false, rfl, by simp; exact hno.out⟩ | exact .inl ⟨rfl, hno.out⟩, qaj HBB.out _⟩
      · have hk8 : ¬ (k : Int) < 8 := by omega
        have hyes := qh (show Im.Ok g r from ⟨HG.out, HR.out, fun j hj => hall j (by omega)⟩)
        have HBB := qh hb
        clear hall hB hb
        go_wp2
        go_ret
        exact ⟨by first | exact ⟨true, rfl, by simp; exact hyes.out⟩ | exact .inr ⟨rfl, hyes.out⟩, HBB.out⟩
   · have HR := qh hok
     have hno := qh (show ¬ Im.Ok g r from fun h => hok h.2.1)
     clear hg hok
     go_enter Tryz.func34, Tryz.ntmps34
     go_wp2_with (first | ((with_reducible refine qaY rfl rfl ?_); apply qay.mk rfl; (focus (with_reducible exact P0.out)); dsimp only) | ((with_reducible refine qbt ?_ rfl ?_); (focus first | rfl | kernel_rfl | simp [Region.wanted, yielded]); apply qay.mk rfl; (focus (with_reducible exact P1.out)); dsimp only) | (go_at_call 58; ((with_reducible refine ((cg _ HQ.out).out).mono ?_); rintro e w1 ⟨⟨v1, rfl, hv1⟩, hb⟩; obtain rfl : v1 = true := hv1.2 HG.out; have P1 := qh (P0.out.below hb P0.out.lt); have K1 := qh (K0.out.trans (hb.mono K0.out.size)); clear hb hv1)) | (go_at_call 54; ((with_reducible refine ((cr _).out).mono ?_); rintro e w2 ⟨⟨v2, rfl, hv2⟩, hb⟩; obtain rfl : v2 = false := (by cases v2 <;> first | rfl | exact absurd (hv2.1 rfl) HR.out); have P2 := qh (P1.out.below hb P1.out.lt); have K2 := qh (K1.out.trans (hb.mono K1.out.size)); clear hb hv2)))
     go_ret
     exact ⟨by first | exact ⟨false, rfl, by simp; exact hno.out⟩ | exact .inl ⟨rfl, hno.out⟩, K2.out⟩
 · have HG := qh hg
   have hno := qh (show ¬ Im.Ok g r from fun h => hg h.1)
   have HR := qh True.intro
   clear hg
   go_enter Tryz.func34, Tryz.ntmps34
   go_wp2_with (first | ((with_reducible refine qaY rfl rfl ?_); apply qay.mk rfl; (focus (with_reducible exact P0.out)); dsimp only) | ((with_reducible refine qbt ?_ rfl ?_); (focus first | rfl | kernel_rfl | simp [Region.wanted, yielded]); apply qay.mk rfl; (focus (with_reducible exact P1.out)); dsimp only) | (go_at_call 58; ((with_reducible refine ((cg _ HQ.out).out).mono ?_); rintro e w1 ⟨⟨v1, rfl, hv1⟩, hb⟩; obtain rfl : v1 = false := (by cases v1 <;> first | rfl | exact absurd (hv1.1 rfl) HG.out); have P1 := qh (P0.out.below hb P0.out.lt); have K1 := qh (K0.out.trans (hb.mono K0.out.size)); clear hb hv1)) | (go_at_call 54; ((with_reducible refine ((cr _).out).mono ?_); rintro e w2 ⟨⟨v2, rfl, hv2⟩, hb⟩; obtain rfl : v2 = false := (by cases v2 <;> first | rfl | exact absurd (hv2.1 rfl) HR.out); have P2 := qh (P1.out.below hb P1.out.lt); have K2 := qh (K1.out.trans (hb.mono K1.out.size)); clear hb hv2)))
   go_ret
   exact ⟨by first | exact ⟨false, rfl, by simp; exact hno.out⟩ | exact .inl ⟨rfl, hno.out⟩, K1.out⟩
theorem qob (g : Gm.G) (A : Option Addr) (n c : Nat) (w : World) (hn63 : n <= maxLen) :
 Calls Tryz.prog 14 #[.agg (Gm.cells g (.slice A n c))] w fun e w' => e = .returned (.bool (decide (n <= 60))) /\ Below w.heap.size w w' := by
 have hc : ∀ W : World, ∀ j, (W.alloc (.cells (Gm.cells g (.slice A n c)) 33)).cell? ⟨W.heap.size, j, none⟩ = (Gm.cells g (.slice A n c))[j]? := fun W j => (Box.made W _ _).cell j
 have h58 := Gm.qaZ g (.slice A n c)
 have n63 : (n : Int) <= 9223372036854775807 := by unfold maxLen at hn63; omega
 have hd : decide (n <= 60) = decide ((n : Int) <= 60) := by rw [Bool.eq_iff_iff]; simp; omega
 rw [hd]
 go_enter Tryz.func14, Tryz.ntmps14
 go_wp2
 go_ret
 exact ⟨rfl, qac _ _⟩
theorem qol (Bb Bc : Nat) (u : TypeId) (pv : Value) (older : List PanicEntry) (w : World) (x : Value) (hb : Box w Bb 111 #[x]) (y : Int) (hc : Box w Bc 3 #[.int .i64 y]) :
 CallsD Tryz.prog 87 #[.pointer (some ⟨Bb, 0, none⟩), .pointer (some ⟨Bc, 0, none⟩)] (.panicking ({ v := .iface u pv, recovered := false } :: older)) w fun e u' w' =>
  e = .returned (.tuple #[]) /\ u' = .panicking ({ v := .iface u pv, recovered := true } :: older) /\ w' = (w.setCell ⟨Bb, 0, none⟩ (.slice none 0 0)).setCell ⟨Bc, 0, none⟩ (.int .i64 1) := by
 have ne : Bb ≠ Bc := Box.apart hb hc (by decide)
 have c1 := hb.cell 0
 have f1 := hb.free 0
 have c2 := hc.cell 0
 have f2 := hc.free 0
 refine callsD_of_wpS Tryz.func87 rfl fun c₀ cs hu => ?_
 apply wpS_seq
 apply wpS_region
 simp [wpOpsS, go_sem, recoverD, hu, Tryz.ntmps87, Exit.thenS]
 refine wpS_cond (t := true) (by simp [Act.eval, Array.replicate]) ?_
 simp only [if_true]
 apply wpS_region
 have c2' : (w.setCell ⟨Bb, 0, none⟩ (.slice none 0 0)).cell? ⟨Bc, 0, none⟩ = some (.int .i64 y) := (hc.far (p := ⟨Bb, 0, none⟩) (fun e => ne e.symm) _).cell 0
 have f2' : (w.setCell ⟨Bb, 0, none⟩ (.slice none 0 0)).frozen? ⟨Bc, 0, none⟩ = false := (hc.far (p := ⟨Bb, 0, none⟩) (fun e => ne e.symm) _).free 0
 simp [wpOpsS, go_sem, c1, f1, c2', f2', bodyPostS, results, Tryz.results87]
theorem qhu (p q : Addr) (w : World) :
 CallsD Tryz.prog 87 #[.pointer (some p), .pointer (some q)] .returning w fun e u' w' => e = .returned (.tuple #[]) /\ u' = .returning /\ w' = w := by
 refine callsD_of_wpS Tryz.func87 rfl fun c₀ cs hu => ?_
 apply wpS_seq
 apply wpS_region
 simp [wpOpsS, go_sem, recoverD, hu, Tryz.ntmps87, Exit.thenS]
 refine wpS_cond (t := false) (by simp [Act.eval, Array.replicate]) ?_
 simp only [Bool.false_eq_true, if_false]
 refine wpS_of_wp (wp_skip ?_)
 cases c₀
 simp_all [bodyPostS, results, Tryz.results87]
section
variable {ops : Array Oper} {Q : Exit -> Act -> World -> Prop} {o : Oper} {rest : List Oper} {a : Act} {w : World} {x : Operand}
theorem qam (hgd : o.guard = none) (ho : o.op = .load 40 x) (h : qay ops Q rest o.dst (a.eval x) 0 (fun g s r => Im.cells g s r) a w) : wpList Tryz.prog ops Q (o :: rest) a w := by
 obtain ⟨B, g, s, r, hx, hB, h⟩ := h
 refine qbG hgd ho hx hB (Im.cells g s r).toList (fun j v hv => ?_) Tryz.underlying40 rfl (by rw [Array.length_toList, Im.qag]; exact qaw) (by rw [Array.toArray_toList]; exact h)
 rw [Nat.zero_add]
 simpa using hv
end
theorem Im.qpu (g : Gm.G) (r : Ros.R) (h : g.qaa.length <= 32) : (Im.put g r).length <= 64000 := by
 have e1 := Im.qfX g.ship 8
 have e2 := Im.qge g.qaa
 have e3 := Im.qgm r 8
 unfold Im.put
 simp only [List.length_append, Im.qas, e2, e3]
 omega
theorem qqp (g : Gm.G) (r : Ros.R) (A : Option Addr) (n c : Nat) (w : World) (hno : ¬ Im.Ok g r) (hty : Gm.ty g) (hn : n = g.qaa.length) (hn63 : n <= maxLen) (hr : Lies w w.heap.size 6 A n (Gm.qab g.qaa)) :
 Calls Tryz.prog 66 #[.agg (Im.cells g (.slice A n c) r)] w fun e w' => e = .returned (.tuple #[.slice none 0 0, .int .i64 1]) /\ Below w.heap.size w w' := by
 have hmf : ∀ (fn : Fn) (first cap : Array Value) (w : World), (Instr.makeFunc fn first cap).run Tryz.prog w = .ok (.func fn first cap) w := fun _ _ _ _ => rfl
 have P1 := qh (((Box.made w 40 (Im.cells g (.slice A n c) r)).alloc (.cells #[.slice none 0 0] 111)).alloc (.cells #[.int .i64 0] 3))
 have B1 := qh ((Box.qan (n := w.heap.size + 1) (w.alloc (.cells (Im.cells g (.slice A n c) r) 40)) 111 #[.slice none 0 0] (by simp)).alloc (.cells #[.int .i64 0] 3))
 have C1 := qh (Box.qan (n := w.heap.size + 1 + 1) ((w.alloc (.cells (Im.cells g (.slice A n c) r) 40)).alloc (.cells #[.slice none 0 0] 111)) 3 #[.int .i64 0] (by simp))
 have K1 := qh ((((Below.refl w.heap.size w).alloc (Nat.le_refl _) (.cells (Im.cells g (.slice A n c) r) 40)).alloc (by simp) (.cells #[.slice none 0 0] 111)).alloc (by simp <;> omega) (.cells #[.int .i64 0] 3))
 have hr1 := (hr.below K1.out).wider K1.out.size
 have cm := fun X hX => qh (qjI g r A n c X hty hn hn63 hX)
 have HR := qh hr1
 have HN := qh hno
 clear hr hr1 hn hty hno
 go_enter_defers Tryz.func66, Tryz.ntmps66
 go_wp2_with (first | ((with_reducible refine qam rfl rfl ?_); apply qay.mk rfl; (focus (with_reducible exact P1.out)); dsimp only) | (go_at_call 89; ((with_reducible refine ((cm _ HR.out).out).mono ?_); rintro e w1 ⟨⟨v, rfl, hv⟩, hb⟩; obtain rfl : v = false := (by cases v <;> first | rfl | exact absurd (hv.1 rfl) HN.out); have C2 := qh (C1.out.below hb C1.out.lt); have B2 := qh (B1.out.below hb B1.out.lt); have K2 := qh (K1.out.trans (hb.mono K1.out.size)); clear hb hv)) | (go_at_call 88; ((with_reducible refine (qpW _ _).mono ?_); rintro e w2 ⟨rfl, rfl⟩)))
 refine leaves_cons (f := 87) (args := #[.pointer (some ⟨w.heap.size + 1, 0, none⟩), .pointer (some ⟨w.heap.size + 1 + 1, 0, none⟩)]) (by simp) (by simp [go_sem]) ?_
 refine (qol (w.heap.size + 1) (w.heap.size + 1 + 1) _ _ [] _ _ B2.out _ C2.out).mono ?_
 have ne : w.heap.size + 1 ≠ w.heap.size + 1 + 1 := by omega
 have B4 := (B2.out.put 0 (.slice none 0 0)).far (p := ⟨w.heap.size + 1 + 1, 0, none⟩) ne (.int .i64 1)
 have C4 := (C2.out.far (p := ⟨w.heap.size + 1, 0, none⟩) (fun e => ne e.symm) (.slice none 0 0)).put 0 (.int .i64 1)
 have K4 := (K2.out.setCell (p := ⟨w.heap.size + 1, 0, none⟩) (Nat.le_succ _) (.slice none 0 0)).setCell (p := ⟨w.heap.size + 1 + 1, 0, none⟩) (by show w.heap.size <= w.heap.size + 1 + 1; omega) (.int .i64 1)
 have b4 := B4.cell 0
 have c4 := C4.cell 0
 simp at b4 c4
 rintro e u' w'' ⟨rfl, rfl, rfl⟩
 simp [Leaves, settle, results, Tryz.results66, go_sem, b4, c4]
 exact K4
theorem qpS (g : Gm.G) (r : Ros.R) (A : Option Addr) (n c : Nat) (w : World) (hok : Im.Ok g r) (hd : 0 <= g.dice /\ g.dice <= 18446744073709551615) (hn : n = g.qaa.length) (hr : Lies w w.heap.size 6 A n (Gm.qab g.qaa)) :
 Calls Tryz.prog 66 #[.agg (Im.cells g (.slice A n c) r)] w fun e w' => ∃ A' c', e = .returned (.tuple #[.slice A' (Im.put g r).length c', .int .i64 0]) /\ Lies w' w'.heap.size 1 A' (Im.put g r).length (Im.u8s (Im.put g r)) /\ Below w.heap.size w w' := by
 have hmf : ∀ (fn : Fn) (first cap : Array Value) (w : World), (Instr.makeFunc fn first cap).run Tryz.prog w = .ok (.func fn first cap) w := fun _ _ _ _ => rfl
 have hn32 : g.qaa.length <= 32 := hok.1.2.2.1
 have hlen := Im.qpu g r hn32
 have P1 := qh (((Box.made w 40 (Im.cells g (.slice A n c) r)).alloc (.cells #[.slice none 0 0] 111)).alloc (.cells #[.int .i64 0] 3))
 have B1 := qh ((Box.qan (n := w.heap.size + 1) (w.alloc (.cells (Im.cells g (.slice A n c) r) 40)) 111 #[.slice none 0 0] (by simp)).alloc (.cells #[.int .i64 0] 3))
 have C1 := qh (Box.qan (n := w.heap.size + 1 + 1) ((w.alloc (.cells (Im.cells g (.slice A n c) r) 40)).alloc (.cells #[.slice none 0 0] 111)) 3 #[.int .i64 0] (by simp))
 have K1 := qh ((((Below.refl w.heap.size w).alloc (Nat.le_refl _) (.cells (Im.cells g (.slice A n c) r) 40)).alloc (by simp) (.cells #[.slice none 0 0] 111)).alloc (by simp <;> omega) (.cells #[.int .i64 0] 3))
 have hr1 := (hr.below K1.out).wider K1.out.size
 have hr0 := hr.below K1.out
 have cm := fun X hX => qh (qjI g r A n c X ⟨by have := hok.1.1; have := hok.1.2.1; unfold Gm.i64; omega, hd, fun i hi => (hok.1.2.2.2.1 i hi).ty, fun i hi => (hok.1.2.2.2.2 i hi).ty⟩ hn (by rw [hn]; unfold maxLen; omega) hX)
 have cl := fun Bp X h1 h2 h3 h4 => qh (qmE g r n A c w.heap.size [] w.heap.size (w.heap.size + 1) Bp X hn hok.1 hd hok.2.1 (Nat.le_succ _) (Nat.le_refl _) h1 h2 (by simp) h3 h4)
 have HR := qh hr1
 have H0 := qh hr0
 have HN := qh hok
 have HD := qh hd
 have HL := qh hlen
 clear hr hr1 hr0 hn hok hd hn32 hlen
 go_enter_defers Tryz.func66, Tryz.ntmps66
 go_wp2_with (first | ((with_reducible refine qam rfl rfl ?_); apply qay.mk rfl; (focus (with_reducible exact P1.out)); dsimp only) | (go_at_call 89; ((with_reducible refine ((cm _ HR.out).out).mono ?_); rintro e w1 ⟨⟨v, rfl, hv⟩, hb⟩; obtain rfl : v = true := hv.2 HN.out; have P2 := qh (P1.out.below hb P1.out.lt); have C2 := qh (C1.out.below hb C1.out.lt); have B2 := qh (B1.out.below hb B1.out.lt); have K2 := qh (K1.out.trans (hb.mono K1.out.size)); have H2 := qh (H0.out.below (hb.mono K1.out.size)); clear hb hv)) | (go_at_call 88; ((with_reducible refine (qis _ _).mono ?_); rintro e w2 ⟨rfl, rfl⟩)) | (go_at_call 91; ((with_reducible refine (qlS _ _).mono ?_); rintro e w3 ⟨rfl, rfl⟩)) | (go_at_call 90; ((with_reducible refine ((cl _ _ (K2.out.alloc K2.out.size _).size (Wr.nil (Box.made _ _ _) (B2.out.alloc _)) (P2.out.alloc _) (H2.out.below ((qac _ _).mono K2.out.size))).out).mono ?_); rintro e w3 ⟨rfl, hI, hb, hk⟩; rw [List.nil_append] at hI; have C3 := qh (hk _ _ _ (C2.out.alloc _) (by omega) (by decide) (by decide)); have K3 := qh ((K2.out.alloc K2.out.size _).trans hb); obtain ⟨h1, A', c', hB, ho⟩ := hI; have B3 := qh hB; have O3 := qh ho; have b3 := hB.cell 0; have f3 := hB.free 0; have c3 := (C3.out.far (p := ⟨w.heap.size + 1, 0, none⟩) (show w.heap.size + 1 + 1 ≠ w.heap.size + 1 by omega) (.slice A' (Im.put g r).length c')).cell 0; have g3 := (C3.out.far (p := ⟨w.heap.size + 1, 0, none⟩) (show w.heap.size + 1 + 1 ≠ w.heap.size + 1 by omega) (.slice A' (Im.put g r).length c')).free 0; clear h1 hB ho hb hk)))
 have ne : w.heap.size + 1 ≠ w.heap.size + 1 + 1 := by omega
 have B4 := (B3.out.put 0 (.slice A' (Im.put g r).length c')).far (p := ⟨w.heap.size + 1 + 1, 0, none⟩) ne (.int .i64 0)
 have C4 := (C3.out.far (p := ⟨w.heap.size + 1, 0, none⟩) (fun e => ne e.symm) (.slice A' (Im.put g r).length c')).put 0 (.int .i64 0)
 have K4 := (K3.out.setCell (p := ⟨w.heap.size + 1, 0, none⟩) (Nat.le_succ _) (.slice A' (Im.put g r).length c')).setCell (p := ⟨w.heap.size + 1 + 1, 0, none⟩) (by show w.heap.size <= w.heap.size + 1 + 1; omega) (.int .i64 0)
 have O4 := Lies.owned (ownsRow_setCell_other (a := ⟨w.heap.size + 1 + 1, 0, none⟩) (ownsRow_setCell_other (a := ⟨w.heap.size + 1, 0, none⟩) O3.out (B3.out.qaO O3.out (by decide)) (.slice A' (Im.put g r).length c')) ((C3.out.far (p := ⟨w.heap.size + 1, 0, none⟩) (fun e => ne e.symm) (.slice A' (Im.put g r).length c')).qaO (ownsRow_setCell_other (a := ⟨w.heap.size + 1, 0, none⟩) O3.out (B3.out.qaO O3.out (by decide)) (.slice A' (Im.put g r).length c')) (by decide)) (.int .i64 0))
 have b4 := B4.cell 0
 have c4 := C4.cell 0
 simp at b4 c4
 refine leaves_cons (f := 87) (args := #[.pointer (some ⟨w.heap.size + 1, 0, none⟩), .pointer (some ⟨w.heap.size + 1 + 1, 0, none⟩)]) (by simp) (by simp [go_sem]) ?_
 refine (qhu _ _ _).mono ?_
 rintro e u' w'' ⟨rfl, rfl, rfl⟩
 simp [Leaves, settle, results, Tryz.results66, go_sem, b4, c4]
 exact ⟨O4.wider (by simp), K4⟩
namespace Im
open Go Go.RowKit _root_.Im
def R0 : Ros.R := ⟨0, fun _ => 0, fun _ => 0⟩
def G0 : Gm.G := ⟨0, 0, fun _ => Gm.Ship.none, []⟩
end Im
open Go.RowKit Go.Shelf
namespace Im
def zero : Array Value := cells G0 (.slice none 0 0) R0
theorem qar : zero.size = 76 := qag _ _ _
end Im
theorem qhB : (Tryz.prog.info? 40).map (·.zero) = some (some (.agg Im.zero)) := by kernel_rfl
theorem qau {ops : Array Oper} {Q : Exit -> Act -> World -> Prop} {o : Oper} {rest : List Oper} {a : Act} {w : World} (hgd : o.guard = none) (ho : o.op = .alloc 40)
 (h : wpList Tryz.prog ops Q rest (a.put o.dst (.pointer (some ⟨w.heap.size, 0, none⟩))) (w.alloc (.cells Im.zero 40))) : wpList Tryz.prog ops Q (o :: rest) a w :=
 qbU hgd ho qhB rfl h
theorem qeo : Tryz.prog.built 40 [] = some Im.zero := by kernel_rfl
theorem qii (r : Ros.R) : (Ros.cells r).all (·.oneCell') = true := by
 rw [Array.all_eq_true']
 intro x hx
 obtain ⟨n, rfl⟩ := Ros.qhU r x (by simpa using hx)
 rfl
theorem qdR (g : Gm.G) (s : Value) (r : Ros.R) (hs : s.oneCell' = true) : (Im.cells g s r).all (·.oneCell') = true := by
 unfold Im.cells
 rw [Array.all_append, cells_one g s hs, qii r]
 rfl
abbrev qdG := Nat -> (Nat -> Prop) -> Nat -> List Fd.S -> World -> Prop
def qhe (s : Fd.S) (X : World) (e : Ending) (X' : World) : Prop :=
 ∃ A c, e = .returned (.tuple #[.agg (Rg.St.arr ⟨s.g, s.r, A, c⟩), .bool true]) /\ Lies X' X'.heap.size 6 A s.g.qaa.length (Gm.qab s.g.qaa) /\ (s.g.qaa.length ≠ 0 -> X'.ownsRow X.heap.size 72 6 (.slice A s.g.qaa.length c) s.g.qaa.length (Gm.qab s.g.qaa)) /\ Below X.heap.size X X'
structure qhg (LP : qdG) : Prop where
 ob : ObjC LP
 new_yes : ∀ (b : Nat) (q : Rg.St) (X : World), b <= X.heap.size -> Gm.ty q.g -> Im.Ok q.g q.r -> Lies X X.heap.size 6 q.A q.g.qaa.length (Gm.qab q.g.qaa) -> Calls Tryz.prog 10 #[.agg q.arr] X fun e X' => ∃ B F, e = .returned (.pointer (some ⟨B, 0, none⟩)) /\ LP b F B [q.s] X' /\ Below X.heap.size X X' /\ ∀ k, F k -> X.heap.size <= k
 new_no : ∀ (q : Rg.St) (X : World), Gm.ty q.g -> ¬ Im.Ok q.g q.r -> q.g.qaa.length <= maxLen -> Lies X X.heap.size 6 q.A q.g.qaa.length (Gm.qab q.g.qaa) -> Calls Tryz.prog 10 #[.agg q.arr] X fun e X' => e = .returned (.pointer none) /\ Below X.heap.size X X'
 push : ∀ (b : Nat) (F : Nat -> Prop) (B : Nat) (M : List Fd.S), Rg.Ok M -> ∀ (q : Rg.St), Gm.ty q.g -> q.g.qaa.length <= maxLen -> ∀ X, LP b F B M X -> b <= X.heap.size -> Lies X X.heap.size 6 q.A q.g.qaa.length (Gm.qab q.g.qaa) -> Calls Tryz.prog 12 #[.pointer (some ⟨B, 0, none⟩), .agg q.arr] X (qj5 LP b F B (Rg.push M q.s) (.bool (Rg.pushB M q.s)) X)
 qe0 : ∀ (b : Nat) (F : Nat -> Prop) (B : Nat) (M : List Fd.S), Rg.Ok M -> ∀ (f : Int) (s : Fd.S), Rg.at_ M f = some s -> ∀ X, LP b F B M X -> Calls Tryz.prog 19 #[.pointer (some ⟨B, 0, none⟩), .int .i64 f] X (qhe s X)
 qiO : ∀ (b : Nat) (F : Nat -> Prop) (B : Nat) (M : List Fd.S), Rg.Ok M -> ∀ (f : Int), -9223372036854775808 <= f /\ f <= 9223372036854775807 -> Rg.at_ M f = none -> ∀ X, LP b F B M X -> Calls Tryz.prog 19 #[.pointer (some ⟨B, 0, none⟩), .int .i64 f] X fun e X' => e = .returned (.tuple #[.agg Im.zero, .bool false]) /\ Below X.heap.size X X'
 cut : ∀ (b : Nat) (F : Nat -> Prop) (B : Nat) (M : List Fd.S), Rg.Ok M -> ∀ (f : Int), -9223372036854775808 <= f /\ f <= 9223372036854775807 -> ∀ X, LP b F B M X -> b <= X.heap.size -> Calls Tryz.prog 15 #[.pointer (some ⟨B, 0, none⟩), .int .i64 f] X (qj5 LP b F B (Rg.cut M f) (.bool (Rg.hasB M f)) X)
 drop : ∀ (b : Nat) (F : Nat -> Prop) (B : Nat) (M : List Fd.S), Rg.Ok M -> ∀ (f : Int), -9223372036854775808 <= f /\ f <= 9223372036854775807 -> ∀ X, LP b F B M X -> b <= X.heap.size -> Calls Tryz.prog 17 #[.pointer (some ⟨B, 0, none⟩), .int .i64 f] X (qj5 LP b F B (Rg.drop M f) (.bool (Rg.hasB M f)) X)
 len : ∀ (b : Nat) (F : Nat -> Prop) (B : Nat) (M : List Fd.S), Rg.Ok M -> ∀ X, LP b F B M X -> Calls Tryz.prog 22 #[.pointer (some ⟨B, 0, none⟩)] X fun e X' => e = .returned (.int .i64 (M.length : Nat)) /\ Below X.heap.size X X'
 first : ∀ (b : Nat) (F : Nat -> Prop) (B : Nat) (M : List Fd.S), Rg.Ok M -> ∀ X, LP b F B M X -> Calls Tryz.prog 23 #[.pointer (some ⟨B, 0, none⟩)] X fun e X' => e = .returned (.int .i64 (Rg.first M)) /\ Below X.heap.size X X'
 last : ∀ (b : Nat) (F : Nat -> Prop) (B : Nat) (M : List Fd.S), Rg.Ok M -> ∀ X, LP b F B M X -> Calls Tryz.prog 24 #[.pointer (some ⟨B, 0, none⟩)] X fun e X' => e = .returned (.int .i64 (Rg.last M)) /\ Below X.heap.size X X'
 push0 : ∀ (q : Rg.St) (X : World), Gm.ty q.g -> q.g.qaa.length <= maxLen -> Lies X X.heap.size 6 q.A q.g.qaa.length (Gm.qab q.g.qaa) -> Calls Tryz.prog 12 #[.pointer none, .agg q.arr] X fun e X' => e = .returned (.bool false) /\ Below X.heap.size X X'
 cut0 : ∀ (f : Int) (X : World), Calls Tryz.prog 15 #[.pointer none, .int .i64 f] X fun e X' => e = .returned (.bool false) /\ Below X.heap.size X X'
 drop0 : ∀ (f : Int) (X : World), Calls Tryz.prog 17 #[.pointer none, .int .i64 f] X fun e X' => e = .returned (.bool false) /\ Below X.heap.size X X'
 len0 : ∀ (X : World), Calls Tryz.prog 22 #[.pointer none] X fun e X' => e = .returned (.int .i64 0) /\ Below X.heap.size X X'
abbrev P15 (LP : qdG) := qbd LP
section
variable {LP : qdG} (C : qhg LP) {w : World} {B : Nat} {M : List Fd.S} {G : Nat -> Prop} {X X' : World}
include C
theorem P15.new (q : Rg.St) (hty : Gm.ty q.g) (hok : Im.Ok q.g q.r) (hL : Lies X X.heap.size 6 q.A q.g.qaa.length (Gm.qab q.g.qaa)) (hw : Below w.heap.size w X) (hG : ∀ j, G j -> w.heap.size <= j /\ j < X.heap.size) :
 Calls Tryz.prog 10 #[.agg q.arr] X fun e X' => ∃ B, e = .returned (.pointer (some ⟨B, 0, none⟩)) /\ P15 LP w B [q.s] G X' /\ Below X.heap.size X X' := by
 refine (C.new_yes w.heap.size q X hw.size hty hok hL).mono fun e X' => ?_
 rintro ⟨B, F, rfl, h1, h2, h3⟩
 exact ⟨B, rfl, qbd.new h1 h3 hw hG h2, h2⟩
theorem P15.push (ho : Rg.Ok M) (q : Rg.St) (hty : Gm.ty q.g) (hn : q.g.qaa.length <= maxLen) (h : P15 LP w B M G X) (hL : Lies X X.heap.size 6 q.A q.g.qaa.length (Gm.qab q.g.qaa)) :
 Calls Tryz.prog 12 #[.pointer (some ⟨B, 0, none⟩), .agg q.arr] X fun e X' => e = .returned (.bool (Rg.pushB M q.s)) /\ P15 LP w B (Rg.push M q.s) G X' /\ qe7 G X X' := by
 obtain ⟨F, h1, h2, h3⟩ := h
 exact (C.push _ F B M ho q hty hn X h1 h3.size hL).mono fun e X' h => qbd.says C.ob h1 h2 h3 h
theorem P15.qnL (ho : Rg.Ok M) (q : Rg.St) (hty : Gm.ty q.g) (hn : q.g.qaa.length <= maxLen) (h : P15 LP w B M G X) (hL : Lies X X.heap.size 6 q.A q.g.qaa.length (Gm.qab q.g.qaa)) :
 Calls Tryz.prog 12 #[.pointer (some ⟨B, 0, none⟩), .agg q.arr] X fun e X' => e = .returned (.bool (Rg.pushB M q.s)) /\ P15 LP w B (Rg.push M q.s) G X' /\ qe7 G X X' /\ X.heap.size <= X'.heap.size := by
 obtain ⟨F, h1, h2, h3⟩ := h
 exact (C.push _ F B M ho q hty hn X h1 h3.size hL).mono fun e X' h => by
  obtain ⟨a, b, c⟩ := qbd.says C.ob h1 h2 h3 h
  obtain ⟨_, _, _, _, hK⟩ := h
  exact ⟨a, b, c, hK.size⟩
theorem P15.cut (ho : Rg.Ok M) (f : Int) (hf : -9223372036854775808 <= f /\ f <= 9223372036854775807) (h : P15 LP w B M G X) :
 Calls Tryz.prog 15 #[.pointer (some ⟨B, 0, none⟩), .int .i64 f] X fun e X' => e = .returned (.bool (Rg.hasB M f)) /\ P15 LP w B (Rg.cut M f) G X' /\ qe7 G X X' := by
 obtain ⟨F, h1, h2, h3⟩ := h
 exact (C.cut _ F B M ho f hf X h1 h3.size).mono fun e X' h => qbd.says C.ob h1 h2 h3 h
theorem P15.drop (ho : Rg.Ok M) (f : Int) (hf : -9223372036854775808 <= f /\ f <= 9223372036854775807) (h : P15 LP w B M G X) :
 Calls Tryz.prog 17 #[.pointer (some ⟨B, 0, none⟩), .int .i64 f] X fun e X' => e = .returned (.bool (Rg.hasB M f)) /\ P15 LP w B (Rg.drop M f) G X' /\ qe7 G X X' := by
 obtain ⟨F, h1, h2, h3⟩ := h
 exact (C.drop _ F B M ho f hf X h1 h3.size).mono fun e X' h => qbd.says C.ob h1 h2 h3 h
theorem P15.qe0 (ho : Rg.Ok M) (f : Int) (s : Fd.S) (hs : Rg.at_ M f = some s) (h : P15 LP w B M G X) :
 Calls Tryz.prog 19 #[.pointer (some ⟨B, 0, none⟩), .int .i64 f] X fun e X' => qhe s X e X' /\ P15 LP w B M G X' := by
 obtain ⟨F, h1, h2, h3⟩ := h
 exact (C.qe0 _ F B M ho f s hs X h1).mono fun e X' h => ⟨h, qbd.below C.ob ⟨F, h1, h2, h3⟩ (by obtain ⟨_, _, _, _, _, h⟩ := h; exact h)⟩
theorem P15.qiO (ho : Rg.Ok M) (f : Int) (hf : -9223372036854775808 <= f /\ f <= 9223372036854775807) (hs : Rg.at_ M f = none) (h : P15 LP w B M G X) :
 Calls Tryz.prog 19 #[.pointer (some ⟨B, 0, none⟩), .int .i64 f] X fun e X' => e = .returned (.tuple #[.agg Im.zero, .bool false]) /\ P15 LP w B M G X' /\ Below X.heap.size X X' := by
 obtain ⟨F, h1, h2, h3⟩ := h
 exact (C.qiO _ F B M ho f hf hs X h1).mono fun e X' h => qbd.ask C.ob h1 h2 h3 h
theorem P15.len (ho : Rg.Ok M) (h : P15 LP w B M G X) :
 Calls Tryz.prog 22 #[.pointer (some ⟨B, 0, none⟩)] X fun e X' => e = .returned (.int .i64 (M.length : Nat)) /\ P15 LP w B M G X' /\ Below X.heap.size X X' := by
 obtain ⟨F, h1, h2, h3⟩ := h
 exact (C.len _ F B M ho X h1).mono fun e X' h => qbd.ask C.ob h1 h2 h3 h
theorem P15.first (ho : Rg.Ok M) (h : P15 LP w B M G X) :
 Calls Tryz.prog 23 #[.pointer (some ⟨B, 0, none⟩)] X fun e X' => e = .returned (.int .i64 (Rg.first M)) /\ P15 LP w B M G X' /\ Below X.heap.size X X' := by
 obtain ⟨F, h1, h2, h3⟩ := h
 exact (C.first _ F B M ho X h1).mono fun e X' h => qbd.ask C.ob h1 h2 h3 h
theorem P15.last (ho : Rg.Ok M) (h : P15 LP w B M G X) :
 Calls Tryz.prog 24 #[.pointer (some ⟨B, 0, none⟩)] X fun e X' => e = .returned (.int .i64 (Rg.last M)) /\ P15 LP w B M G X' /\ Below X.heap.size X X' := by
 obtain ⟨F, h1, h2, h3⟩ := h
 exact (C.last _ F B M ho X h1).mono fun e X' h => qbd.ask C.ob h1 h2 h3 h
end
theorem qbd.more {μ : Type} {LP : Nat -> (Nat -> Prop) -> Nat -> μ -> World -> Prop} (C : ObjC LP) {w X X' : World} {B : Nat} {m : μ} {G : Nat -> Prop} (h : qbd LP w B m G X) (hb : Below X.heap.size X X') : qbd LP w B m (fun j => G j \/ (X.heap.size <= j /\ j < X'.heap.size)) X' := by
 obtain ⟨F, h1, h2, h3⟩ := h
 refine ⟨F, C.keep h1 (qaQ.qb7 hb) (fun _ _ h => h), fun j hj => ?_, h3.trans (hb.mono h3.size)⟩
 rcases hj with hj | ⟨hj, hj2⟩
 · exact ⟨(h2 j hj).1, (h2 j hj).2.1, Nat.lt_of_lt_of_le (h2 j hj).2.2 hb.size⟩
 · exact ⟨fun hf => by have := (C.up h1 _ hf).2; omega, Nat.le_trans h3.size hj, hj2⟩
def splice (cs : Array Value) (o : Nat) (l : List Value) : Array Value := (cs.toList.take o ++ l ++ cs.toList.drop (o + l.length)).toArray
theorem qkb (cs : Array Value) (o : Nat) (v : Value) (l : List Value) (h : o + (l.length + 1) <= cs.size) : splice (cs.setIfInBounds o v) (o + 1) l = splice cs o (v :: l) := by
 unfold splice
 congr 1
 rw [Array.toList_setIfInBounds, List.length_cons]
 have ho : o < cs.toList.length := by rw [Array.length_toList]; omega
 rw [List.take_set, List.drop_set, if_pos (by omega), List.append_assoc, List.append_assoc]
 rw [show o + 1 + l.length = o + (l.length + 1) by omega]
 rw [List.take_add_one, List.getElem?_eq_getElem ho, Option.toList_some, List.set_append_right _ _ (by rw [List.length_take]; omega)]
 rw [List.length_take, Nat.min_eq_left (by omega), Nat.sub_self]
 simp
theorem qbK (g : Nat) (t : TypeId) : ∀ (l : List Value) (o : Nat) (cs : Array Value) (w : World), w.heap[g]? = some (.cells cs t (0, 0)) -> o + l.length <= cs.size -> w.setCells g o l = w.setRow g (splice cs o l)
 | [], o, cs, w, hg, hl => by
  have e : splice cs o [] = cs := by unfold splice; simp
  rw [e]
  show w = _
  have hv : w.heap[g]'(Array.getElem?_eq_some_iff.1 hg).1 = .cells cs t (0, 0) := (Array.getElem?_eq_some_iff.1 hg).2
  unfold World.setRow
  cases w with
  | mk heap tape drawn os output =>
   congr 1
   apply Array.ext
   · simp
   · intro k h1 h2
     simp only [Array.getElem_modify]
     split
     · rename_i hk; subst hk; simp at hv; simp [hv]
     · rfl
 | v :: l, o, cs, w, hg, hl => by
  rw [List.length_cons] at hl
  rw [World.setCells, setCell_eq_setRow w g o cs t (0, 0) v hg, qbK g t l (o + 1) _ _ (setRow_heap w g cs _ t _ hg) (by rw [Array.size_setIfInBounds]; omega), setRow_setRow, qkb cs o v l hl]
theorem Im.qd9 (g : Gm.G) (s : Value) (r : Ros.R) : (Im.cells g s r).toList = (Gm.cells g s).toList ++ (Ros.cells r).toList := by unfold Im.cells; rw [Array.toList_append]
theorem Im.qoG (g g' : Gm.G) (s s' : Value) (r : Ros.R) : splice (Im.cells g s r) 0 (Gm.cells g' s').toList = Im.cells g' s' r := by
 unfold splice
 rw [Im.qd9, List.take_zero, List.nil_append, Nat.zero_add, List.drop_left' (by rw [Array.length_toList, Array.length_toList, Gm.qag, Gm.qag]), <- Im.qd9, Array.toArray_toList]
theorem Im.qoF (g : Gm.G) (s : Value) (r r' : Ros.R) : splice (Im.cells g s r) 59 (Ros.cells r').toList = Im.cells g s r' := by
 have e : (59 : Nat) = (Gm.cells g s).toList.length := by rw [Array.length_toList, Gm.qag]
 have e2 : ((Gm.cells g s).toList ++ (Ros.cells r).toList).length <= 59 + (Ros.cells r').toList.length := by rw [List.length_append, Array.length_toList, Array.length_toList, Array.length_toList, Gm.qag, Ros.qag, Ros.qag]; omega
 unfold splice
 rw [Im.qd9, List.drop_of_length_le e2, List.append_nil, List.take_left' e.symm, <- Im.qd9, Array.toArray_toList]
theorem qn0 (g : Gm.G) (s : Value) (r : Ros.R) (hs : s.oneCell' = true) : (Im.cells g s r).all (·.oneCell') = true := by
 refine Array.all_eq_true_iff_forall_mem.2 fun v hv => ?_
 rcases Array.mem_append.1 hv with h | h
 · exact Array.all_eq_true_iff_forall_mem.1 (cells_one g s hs) v h
 · exact Array.all_eq_true_iff_forall_mem.1 (qaK r) v h
section
variable {ops : Array Oper} {rest : List Oper} {o : Oper} {a : Act} {w : World} {Q : Exit -> Act -> World -> Prop} {x y : Operand} {dst : Option Tmp} {p v : Value}
theorem qb0 (hgd : o.guard = none) (ho : o.op = .load 38 x) (h : qay ops Q rest o.dst (a.eval x) 59 (fun _ _ r => Ros.cells r) a w) : wpList Tryz.prog ops Q (o :: rest) a w := by
 obtain ⟨B, g, s, r, hx, hB, h⟩ := h
 refine qbG hgd ho hx hB (Ros.cells r).toList (fun j v hv => ?_) Tryz.underlying38 rfl qad h
 rw [Im.qez]
 simpa using hv
def qe4 (ops : Array Oper) (Q : Exit -> Act -> World -> Prop) (rest : List Oper) (dst : Option Tmp) (p v : Value) (a : Act) (w : World) : Prop :=
 ∃ (B : Nat) (g : Gm.G) (s : Value) (r : Ros.R) (g' : Gm.G) (s' : Value), p = .pointer (some ⟨B, 0, none⟩) /\ v = .agg (Gm.cells g' s') /\ Box w B 40 (Im.cells g s r) /\ s'.oneCell' = true /\ wpList Tryz.prog ops Q rest (a.put dst undef) (w.setRow B (Im.cells g' s' r))
theorem qe4.mk {B : Nat} {g : Gm.G} {s : Value} {r : Ros.R} {g' : Gm.G} {s' : Value} (hp : p = .pointer (some ⟨B, 0, none⟩)) (hv : v = .agg (Gm.cells g' s')) (hB : Box w B 40 (Im.cells g s r)) (hs : s'.oneCell' = true)
 (h : wpList Tryz.prog ops Q rest (a.put dst undef) (w.setRow B (Im.cells g' s' r))) : qe4 ops Q rest dst p v a w := ⟨B, g, s, r, g', s', hp, hv, hB, hs, h⟩
theorem Box.there {g : Nat} {t : TypeId} {cs : Array Value} (h : Box w g t cs) (f n : Nat) (hf : f + n <= cs.size) : w.there g f n := fun j hj => ⟨by rw [h.cell, Array.getElem?_eq_getElem (by omega)]; rfl, h.free _⟩
theorem qbS (hgd : o.guard = none) (ho : o.op = .store 33 x y) (h : qe4 ops Q rest o.dst (a.eval x) (a.eval y) a w) : wpList Tryz.prog ops Q (o :: rest) a w := by
 obtain ⟨B, g, s, r, g', s', hx, hy, hB, hs, h⟩ := h
 refine wpList_store_mid hgd 33 x y ho B 0 (Gm.cells g' s') hx hy (hB.there 0 _ (by rw [Im.qag, Gm.qag]; omega)) qbb (cells_one _ _ hs) ?_
 rw [qbK B 40 _ 0 (Im.cells g s r) w hB.is (by rw [Im.qag, Array.length_toList, Gm.qag]; omega), Im.qoG]
 exact h
def qhf (ops : Array Oper) (Q : Exit -> Act -> World -> Prop) (rest : List Oper) (dst : Option Tmp) (p v : Value) (a : Act) (w : World) : Prop :=
 ∃ (B : Nat) (g : Gm.G) (s : Value) (r r' : Ros.R), p = .pointer (some ⟨B, 59, none⟩) /\ v = .agg (Ros.cells r') /\ Box w B 40 (Im.cells g s r) /\ wpList Tryz.prog ops Q rest (a.put dst undef) (w.setRow B (Im.cells g s r'))
theorem qhf.mk {B : Nat} {g : Gm.G} {s : Value} {r r' : Ros.R} (hp : p = .pointer (some ⟨B, 59, none⟩)) (hv : v = .agg (Ros.cells r')) (hB : Box w B 40 (Im.cells g s r))
 (h : wpList Tryz.prog ops Q rest (a.put dst undef) (w.setRow B (Im.cells g s r'))) : qhf ops Q rest dst p v a w := ⟨B, g, s, r, r', hp, hv, hB, h⟩
theorem qcZ (hgd : o.guard = none) (ho : o.op = .store 38 x y) (h : qhf ops Q rest o.dst (a.eval x) (a.eval y) a w) : wpList Tryz.prog ops Q (o :: rest) a w := by
 obtain ⟨B, g, s, r, r', hx, hy, hB, h⟩ := h
 refine wpList_store_mid hgd 38 x y ho B 59 (Ros.cells r') hx hy (hB.there 59 _ (by rw [Im.qag, Ros.qag]; omega)) qad (qaK _) ?_
 rw [qbK B 40 _ 59 (Im.cells g s r) w hB.is (by rw [Im.qag, Array.length_toList, Ros.qag]; omega), Im.qoF]
 exact h
def qb4 (ops : Array Oper) (Q : Exit -> Act -> World -> Prop) (rest : List Oper) (dst : Option Tmp) (p v : Value) (a : Act) (w : World) : Prop :=
 ∃ (B : Nat) (old : Array Value) (g' : Gm.G) (s' : Value) (r' : Ros.R), p = .pointer (some ⟨B, 0, none⟩) /\ v = .agg (Im.cells g' s' r') /\ Box w B 40 old /\ old.size = 76 /\ s'.oneCell' = true /\ wpList Tryz.prog ops Q rest (a.put dst undef) (w.setRow B (Im.cells g' s' r'))
theorem qb4.mk {B : Nat} {old : Array Value} {g' : Gm.G} {s' : Value} {r' : Ros.R} (hp : p = .pointer (some ⟨B, 0, none⟩)) (hv : v = .agg (Im.cells g' s' r')) (hB : Box w B 40 old) (ho : old.size = 76) (hs : s'.oneCell' = true)
 (h : wpList Tryz.prog ops Q rest (a.put dst undef) (w.setRow B (Im.cells g' s' r'))) : qb4 ops Q rest dst p v a w := ⟨B, old, g', s', r', hp, hv, hB, ho, hs, h⟩
theorem qaE (hgd : o.guard = none) (ho : o.op = .store 40 x y) (h : qb4 ops Q rest o.dst (a.eval x) (a.eval y) a w) : wpList Tryz.prog ops Q (o :: rest) a w := by
 obtain ⟨B, old, g', s', r', hx, hy, hB, h76, hs, h⟩ := h
 exact qbF hgd ho hx hy hB (by rw [Im.qag]; exact qaw) (by rw [Im.qag]; exact h76) (qn0 _ _ _ hs) h
end
structure qaW {μ : Type} (LP : Nat -> (Nat -> Prop) -> Nat -> μ -> World -> Prop) (w : World) (B : Nat) (m : μ) (L : List (Nat × TypeId × Array Value)) (X : World) : Prop where
 hold : qbd LP w B m (fun j => ∃ p ∈ L, p.1 = j) X
 boxes : ∀ p ∈ L, Box X p.1 p.2.1 p.2.2
section
variable {μ : Type} {LP : Nat -> (Nat -> Prop) -> Nat -> μ -> World -> Prop} {w : World} {B : Nat} {m m' : μ} {L L' : List (Nat × TypeId × Array Value)} {X X' : World}
theorem qaW.down (h : qaW LP w B m L X) : Below w.heap.size w X := h.hold.down
theorem qaW.box {b : Nat} {t : TypeId} {cs : Array Value} (h : qaW LP w B m L X) (hm : (b, t, cs) ∈ L) : Box X b t cs := h.boxes _ hm
theorem qaW.at_ {b : Nat} {t : TypeId} {cs : Array Value} (h : qaW LP w B m L X) (hm : (b, t, cs) ∈ L) : w.heap.size <= b := (h.hold.lt (g := b) ⟨_, hm, rfl⟩).1
theorem qaW.less (h : qaW LP w B m L X) (hs : ∀ p ∈ L', p ∈ L) : qaW LP w B m L' X :=
 ⟨h.hold.less fun j hj => by obtain ⟨p, hp, e⟩ := hj; exact ⟨p, hs p hp, e⟩, fun p hp => h.boxes p (hs p hp)⟩
theorem qaW.says (h : qaW LP w B m L X) (h' : qbd LP w B m' (fun j => ∃ p ∈ L, p.1 = j) X') (hk : qe7 (fun j => ∃ p ∈ L, p.1 = j) X X') : qaW LP w B m' L X' :=
 ⟨h', fun p hp => hk.box ⟨p, hp, rfl⟩ (h.boxes p hp)⟩
variable (C : ObjC LP)
include C
theorem qaW.call (h : qaW LP w B m L X) (hb : Below X.heap.size X X') : qaW LP w B m L X' :=
 ⟨h.hold.below C hb, fun p hp => (h.boxes p hp).below hb (h.boxes p hp).lt⟩
theorem qaW.drew (h : qaW LP w B m L X) : qaW LP w B m L X.drew := h.call C (Below.drew (Below.refl _ _))
theorem qaW.alloc (h : qaW LP w B m L X) (cs : Array Value) (t : TypeId) : qaW LP w B m ((X.heap.size, t, cs) :: L) (X.alloc (.cells cs t)) := by
 refine ⟨(h.hold.alloc C (.cells cs t)).less fun j hj => ?_, fun p hp => ?_⟩
 · obtain ⟨p, hp, rfl⟩ := hj
   rcases List.mem_cons.1 hp with rfl | hp
   · exact .inr rfl
   · exact .inl ⟨p, hp, rfl⟩
 · rcases List.mem_cons.1 hp with rfl | hp
   · exact Box.made X t cs
   · exact (h.boxes p hp).alloc _
theorem qaW.put {b : Nat} {t : TypeId} {cs : Array Value} (h : qaW LP w B m ((b, t, cs) :: L) X) (hd : ∀ p ∈ L, p.1 ≠ b) (i : Nat) (u : Value) : qaW LP w B m ((b, t, cs.setIfInBounds i u) :: L) (X.setCell ⟨b, i, none⟩ u) := by
 refine ⟨(h.hold.put C (g := b) ⟨_, List.mem_cons_self, rfl⟩ i u).less fun j hj => ?_, fun p hp => ?_⟩
 · obtain ⟨p, hp, rfl⟩ := hj
   rcases List.mem_cons.1 hp with rfl | hp
   · exact ⟨_, List.mem_cons_self, rfl⟩
   · exact ⟨p, List.mem_cons_of_mem _ hp, rfl⟩
 · rcases List.mem_cons.1 hp with rfl | hp
   · exact (h.boxes _ List.mem_cons_self).put i u
   · exact (h.boxes p (List.mem_cons_of_mem _ hp)).far (p := ⟨b, i, none⟩) (hd p hp) u
theorem qaW.row {b : Nat} {t : TypeId} {cs : Array Value} (h : qaW LP w B m ((b, t, cs) :: L) X) (hd : ∀ p ∈ L, p.1 ≠ b) (cs' : Array Value) : qaW LP w B m ((b, t, cs') :: L) (X.setRow b cs') := by
 have ho : Only b X (X.setRow b cs') := ⟨rfl, rfl, rfl, by rw [setRow_size]; exact Nat.le_refl _, fun k _ hne => setRow_other X b k cs' hne⟩
 refine ⟨(h.hold.only C (g := b) ⟨_, List.mem_cons_self, rfl⟩ ho).less fun j hj => ?_, fun p hp => ?_⟩
 · obtain ⟨p, hp, rfl⟩ := hj
   rcases List.mem_cons.1 hp with rfl | hp
   · exact ⟨_, List.mem_cons_self, rfl⟩
   · exact ⟨p, List.mem_cons_of_mem _ hp, rfl⟩
 · rcases List.mem_cons.1 hp with rfl | hp
   · exact (h.boxes _ List.mem_cons_self).row cs'
   · exact (h.boxes p (List.mem_cons_of_mem _ hp)).qa4 (hd p hp) cs'
end
section
variable {LP : qdG} (C : qhg LP) {w : World} {B : Nat} {M : List Fd.S} {L : List (Nat × TypeId × Array Value)} {X X' : World}
include C
theorem B15.new (q : Rg.St) (hty : Gm.ty q.g) (hok : Im.Ok q.g q.r) (hL : Lies X X.heap.size 6 q.A q.g.qaa.length (Gm.qab q.g.qaa)) (hw : Below w.heap.size w X) (hB : ∀ p ∈ L, Box X p.1 p.2.1 p.2.2) (hG : ∀ p ∈ L, w.heap.size <= p.1) :
 Calls Tryz.prog 10 #[.agg q.arr] X fun e X' => ∃ B, e = .returned (.pointer (some ⟨B, 0, none⟩)) /\ qaW LP w B [q.s] L X' /\ Below X.heap.size X X' := by
 refine (P15.new C (w := w) (G := fun j => ∃ p ∈ L, p.1 = j) q hty hok hL hw (fun j hj => by obtain ⟨p, hp, rfl⟩ := hj; exact ⟨hG p hp, (hB p hp).lt⟩)).mono fun e X' h => ?_
 obtain ⟨B, rfl, h1, h2⟩ := h
 exact ⟨B, rfl, ⟨h1, fun p hp => (hB p hp).below h2 (hB p hp).lt⟩, h2⟩
theorem B15.push (ho : Rg.Ok M) (q : Rg.St) (hty : Gm.ty q.g) (hn : q.g.qaa.length <= maxLen) (h : qaW LP w B M L X) (hL : Lies X X.heap.size 6 q.A q.g.qaa.length (Gm.qab q.g.qaa)) :
 Calls Tryz.prog 12 #[.pointer (some ⟨B, 0, none⟩), .agg q.arr] X fun e X' => e = .returned (.bool (Rg.pushB M q.s)) /\ qaW LP w B (Rg.push M q.s) L X' :=
 (P15.push C ho q hty hn h.hold hL).mono fun e X' hh => ⟨hh.1, h.says hh.2.1 hh.2.2⟩
theorem B15.cut (ho : Rg.Ok M) (f : Int) (hf : -9223372036854775808 <= f /\ f <= 9223372036854775807) (h : qaW LP w B M L X) :
 Calls Tryz.prog 15 #[.pointer (some ⟨B, 0, none⟩), .int .i64 f] X fun e X' => e = .returned (.bool (Rg.hasB M f)) /\ qaW LP w B (Rg.cut M f) L X' :=
 (P15.cut C ho f hf h.hold).mono fun e X' hh => ⟨hh.1, h.says hh.2.1 hh.2.2⟩
theorem B15.drop (ho : Rg.Ok M) (f : Int) (hf : -9223372036854775808 <= f /\ f <= 9223372036854775807) (h : qaW LP w B M L X) :
 Calls Tryz.prog 17 #[.pointer (some ⟨B, 0, none⟩), .int .i64 f] X fun e X' => e = .returned (.bool (Rg.hasB M f)) /\ qaW LP w B (Rg.drop M f) L X' :=
 (P15.drop C ho f hf h.hold).mono fun e X' hh => ⟨hh.1, h.says hh.2.1 hh.2.2⟩
theorem B15.qe0 (ho : Rg.Ok M) (f : Int) (s : Fd.S) (hs : Rg.at_ M f = some s) (h : qaW LP w B M L X) :
 Calls Tryz.prog 19 #[.pointer (some ⟨B, 0, none⟩), .int .i64 f] X fun e X' => qhe s X e X' /\ qaW LP w B M L X' :=
 (P15.qe0 C ho f s hs h.hold).mono fun e X' hh => ⟨hh.1, by
  obtain ⟨_, _, _, _, _, hb⟩ := hh.1
  exact h.call C.ob hb⟩
theorem B15.qiO (ho : Rg.Ok M) (f : Int) (hf : -9223372036854775808 <= f /\ f <= 9223372036854775807) (hs : Rg.at_ M f = none) (h : qaW LP w B M L X) :
 Calls Tryz.prog 19 #[.pointer (some ⟨B, 0, none⟩), .int .i64 f] X fun e X' => e = .returned (.tuple #[.agg Im.zero, .bool false]) /\ qaW LP w B M L X' /\ Below X.heap.size X X' :=
 (P15.qiO C ho f hf hs h.hold).mono fun e X' hh => ⟨hh.1, h.call C.ob hh.2.2, hh.2.2⟩
theorem B15.len (ho : Rg.Ok M) (h : qaW LP w B M L X) :
 Calls Tryz.prog 22 #[.pointer (some ⟨B, 0, none⟩)] X fun e X' => e = .returned (.int .i64 (M.length : Nat)) /\ qaW LP w B M L X' /\ Below X.heap.size X X' :=
 (P15.len C ho h.hold).mono fun e X' hh => ⟨hh.1, h.call C.ob hh.2.2, hh.2.2⟩
theorem B15.first (ho : Rg.Ok M) (h : qaW LP w B M L X) :
 Calls Tryz.prog 23 #[.pointer (some ⟨B, 0, none⟩)] X fun e X' => e = .returned (.int .i64 (Rg.first M)) /\ qaW LP w B M L X' /\ Below X.heap.size X X' :=
 (P15.first C ho h.hold).mono fun e X' hh => ⟨hh.1, h.call C.ob hh.2.2, hh.2.2⟩
theorem B15.last (ho : Rg.Ok M) (h : qaW LP w B M L X) :
 Calls Tryz.prog 24 #[.pointer (some ⟨B, 0, none⟩)] X fun e X' => e = .returned (.int .i64 (Rg.last M)) /\ qaW LP w B M L X' /\ Below X.heap.size X X' :=
 (P15.last C ho h.hold).mono fun e X' hh => ⟨hh.1, h.call C.ob hh.2.2, hh.2.2⟩
end
end Go.Proofs.YtbdlpbnfcnhajaaGreat