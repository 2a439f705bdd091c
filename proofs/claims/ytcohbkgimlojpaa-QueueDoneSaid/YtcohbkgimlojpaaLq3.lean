/-
Several texts in one: Oba Quh Qui Bd Op Lki Quj Quk Qul Qum.
-/
import Derived.Test.YtcohbkgimlojpaaLq2
namespace Go.Proofs.Ytcohbkgimlojpaa
open Go.RowKit
set_option linter.unusedVariables false
/-- How an object lies: above b, in the blocks F, at B, being m. -/
structure ObjC {μ : Type} (LP : Nat → (Nat → Prop) → Nat → μ → World → Prop) : Prop where
  up : ∀ {b F B m X}, LP b F B m X → ∀ k, F k → b ≤ k ∧ k < X.heap.size
  keep : ∀ {b F B m X G X'}, LP b F B m X → KeepL G X X' → (∀ j, F j → ¬ G j) → LP b F B m X'
/-- What a call of an object leaves. -/
def SaysO {μ : Type} (LP : Nat → (Nat → Prop) → Nat → μ → World → Prop) (b : Nat) (F : Nat → Prop) (B : Nat) (m' : μ) (r : Value) (X : World) (e : Ending) (X' : World) : Prop := e = .returned r ∧ ∃ F', (∀ k, F' k → F k ∨ X.heap.size ≤ k) ∧ LP b F' B m' X' ∧ KeepL F X X'
/-- An object, and blocks of one's own that are not its. -/
def HoldO {μ : Type} (LP : Nat → (Nat → Prop) → Nat → μ → World → Prop) (w : World) (B : Nat) (m : μ) (G : Nat → Prop) (X : World) : Prop :=
  ∃ F, LP w.heap.size F B m X ∧ (∀ j, G j → ¬ F j ∧ w.heap.size ≤ j ∧ j < X.heap.size) ∧ Below w.heap.size w X
/-- These blocks are as they were. -/
def KeptO (G : Nat → Prop) (X X' : World) : Prop := ∀ j, G j → X'.heap[j]? = X.heap[j]?
section
variable {μ : Type} {LP : Nat → (Nat → Prop) → Nat → μ → World → Prop} {w : World} {B : Nat} {m m' : μ} {G G' : Nat → Prop} {X X' X'' : World}
theorem KeptO.trans (h : KeptO G X X') (k : KeptO G X' X'') : KeptO G X X'' := fun j hj => (k j hj).trans (h j hj)
theorem KeptO.box {g : Nat} {t : TypeId} {cs : Array Value} (h : KeptO G X X') (hg : G g) (hb : Box X g t cs) : Box X' g t cs := ⟨(h g hg).trans hb.is⟩
theorem KeepL.of_below' (hb : Below X.heap.size X X') : KeepL (fun _ => False) X X' := ⟨hb.os, hb.tape, hb.output, hb.size, fun k hk _ => hb.block k hk⟩
theorem KeepL.of_only {g : Nat} (ho : Only g X X') : KeepL (fun k => k = g) X X' := ⟨ho.os, ho.tape, ho.output, ho.size, fun k hk hn => ho.block k hk hn⟩
theorem HoldO.down (h : HoldO LP w B m G X) : Below w.heap.size w X := by obtain ⟨F, _, _, h⟩ := h; exact h
theorem HoldO.lt (h : HoldO LP w B m G X) {g : Nat} (hg : G g) : w.heap.size ≤ g ∧ g < X.heap.size := by obtain ⟨F, _, h, _⟩ := h; exact (h g hg).2
theorem HoldO.less (h : HoldO LP w B m G X) (hs : ∀ j, G' j → G j) : HoldO LP w B m G' X := by
  obtain ⟨F, h1, h2, h3⟩ := h
  exact ⟨F, h1, fun j hj => h2 j (hs j hj), h3⟩
theorem HoldO.new {F : Nat → Prop} (h1 : LP w.heap.size F B m X') (hF : ∀ k, F k → X.heap.size ≤ k) (hw : Below w.heap.size w X) (hG : ∀ j, G j → w.heap.size ≤ j ∧ j < X.heap.size) (hb : Below X.heap.size X X') : HoldO LP w B m G X' :=
  ⟨F, h1, fun j hj => ⟨fun hf => by have := hF j hf; have := (hG j hj).2; omega, (hG j hj).1, Nat.lt_of_lt_of_le (hG j hj).2 hb.size⟩, hw.trans (hb.mono hw.size)⟩
variable (C : ObjC LP)
include C
theorem HoldO.below (h : HoldO LP w B m G X) (hb : Below X.heap.size X X') : HoldO LP w B m G X' := by
  obtain ⟨F, h1, h2, h3⟩ := h
  exact ⟨F, C.keep h1 (KeepL.of_below' hb) (fun _ _ h => h), fun j hj => ⟨(h2 j hj).1, (h2 j hj).2.1, Nat.lt_of_lt_of_le (h2 j hj).2.2 hb.size⟩, h3.trans (hb.mono h3.size)⟩
theorem HoldO.drew (h : HoldO LP w B m G X) : HoldO LP w B m G X.drew := h.below C (Below.drew (Below.refl _ _))
/-- One more block of one's own. -/
theorem HoldO.alloc (h : HoldO LP w B m G X) (o : Obj) : HoldO LP w B m (fun j => G j ∨ j = X.heap.size) (X.alloc o) := by
  obtain ⟨F, h1, h2, h3⟩ := h
  have hb := one_below X o
  refine ⟨F, C.keep h1 (KeepL.of_below' hb) (fun _ _ h => h), fun j hj => ?_, h3.trans (hb.mono h3.size)⟩
  rcases hj with hj | rfl
  · exact ⟨(h2 j hj).1, (h2 j hj).2.1, Nat.lt_of_lt_of_le (h2 j hj).2.2 hb.size⟩
  · exact ⟨fun hf => by have := (C.up h1 _ hf).2; omega, h3.size, by simp⟩
theorem HoldO.only {g : Nat} (h : HoldO LP w B m G X) (hg : G g) (ho : Only g X X') : HoldO LP w B m G X' := by
  obtain ⟨F, h1, h2, h3⟩ := h
  refine ⟨F, C.keep h1 (KeepL.of_only ho) (fun j hf he => ?_), fun j hj => ⟨(h2 j hj).1, (h2 j hj).2.1, Nat.lt_of_lt_of_le (h2 j hj).2.2 ho.size⟩, h3.trans (ho.below (h2 g hg).2.1 h3.size)⟩
  subst he
  exact (h2 _ hg).1 hf
theorem HoldO.put {g : Nat} (h : HoldO LP w B m G X) (hg : G g) (i : Nat) (u : Value) : HoldO LP w B m G (X.setCell ⟨g, i, none⟩ u) := h.only C hg (Only.set _ _ _)
/-- Whatever an object is asked. -/
theorem HoldO.says {F : Nat → Prop} {r : Value} {e : Ending} (h1 : LP w.heap.size F B m X) (h2 : ∀ j, G j → ¬ F j ∧ w.heap.size ≤ j ∧ j < X.heap.size) (h3 : Below w.heap.size w X) (h : SaysO LP w.heap.size F B m' r X e X') :
    e = .returned r ∧ HoldO LP w B m' G X' ∧ KeptO G X X' := by
  obtain ⟨rfl, F', hF, hL, hK⟩ := h
  refine ⟨rfl, ⟨F', hL, fun j hj => ⟨fun hf => ?_, (h2 j hj).2.1, Nat.lt_of_lt_of_le (h2 j hj).2.2 hK.size⟩, h3.trans (hK.below (fun k hk => (C.up h1 k hk).1) h3.size)⟩, fun j hj => hK.block j (h2 j hj).2.2 (h2 j hj).1⟩
  rcases hF j hf with hf | hf
  · exact (h2 j hj).1 hf
  · have := (h2 j hj).2.2; omega
theorem HoldO.ask {F : Nat → Prop} {r : Value} {e : Ending} (h1 : LP w.heap.size F B m X) (h2 : ∀ j, G j → ¬ F j ∧ w.heap.size ≤ j ∧ j < X.heap.size) (h3 : Below w.heap.size w X) (h : e = .returned r ∧ Below X.heap.size X X') :
    e = .returned r ∧ HoldO LP w B m G X' ∧ Below X.heap.size X X' := ⟨h.1, HoldO.below C ⟨F, h1, h2, h3⟩ h.2, h.2⟩
end
end Go.Proofs.Ytcohbkgimlojpaa
namespace Go.Proofs.Ytcohbkgimlojpaa
open Go.RowKit
set_option linter.unusedVariables false
set_option linter.unusedSimpArgs false
abbrev QuP := Nat → (Nat → Prop) → Nat → Qu.M → World → Prop
structure QueueC (LP : QuP) : Prop where
  ob : ObjC LP
  new : ∀ (b : Nat) (f : Int) (i : Gm.In) (X : World), b ≤ X.heap.size → 0 ≤ f ∧ f ≤ 1099511627776 → Gm.tyIn i → Calls Try.prog 7 #[.int .i64 f, .agg (Qu.inCells i)] X fun e X' => ∃ B F, e = .returned (.pointer (some ⟨B, 0, none⟩)) ∧ LP b F B (Qu.new f i) X' ∧ Below X.heap.size X X' ∧ ∀ k, F k → X.heap.size ≤ k
  put : ∀ (b : Nat) (F : Nat → Prop) (B : Nat) (m : Qu.M), m.Ok → ∀ (f : Int) (i : Gm.In), -9223372036854775808 ≤ f ∧ f ≤ 9223372036854775807 → Gm.tyIn i → ∀ X, LP b F B m X → b ≤ X.heap.size → Calls Try.prog 10 #[.pointer (some ⟨B, 0, none⟩), .int .i64 f, .agg (Qu.inCells i)] X (SaysO LP b F B (Qu.put m f i) (.bool (Qu.putOk m f i)) X)
  at_ : ∀ (b : Nat) (F : Nat → Prop) (B : Nat) (m : Qu.M), m.Ok → ∀ (f : Int), 0 ≤ f ∧ f ≤ 1099511627776 → ∀ X, LP b F B m X → Calls Try.prog 14 #[.pointer (some ⟨B, 0, none⟩), .int .i64 f] X fun e X' => e = .returned (.tuple #[.agg (Qu.inCells (Qu.at_ m f).1), .bool (Qu.at_ m f).2]) ∧ Below X.heap.size X X'
  done : ∀ (b : Nat) (F : Nat → Prop) (B : Nat) (m : Qu.M), m.Ok → m.from_ < 1099511627776 → ∀ (i : Gm.In), Gm.tyIn i → ∀ X, LP b F B m X → b ≤ X.heap.size → Calls Try.prog 12 #[.pointer (some ⟨B, 0, none⟩), .agg (Qu.inCells i)] X (SaysO LP b F B (Qu.done m i) (.tuple #[]) X)
  from_ : ∀ (b : Nat) (F : Nat → Prop) (B : Nat) (m : Qu.M), m.Ok → ∀ X, LP b F B m X → Calls Try.prog 16 #[.pointer (some ⟨B, 0, none⟩)] X fun e X' => e = .returned (.int .i64 m.from_) ∧ Below X.heap.size X X'
  known : ∀ (b : Nat) (F : Nat → Prop) (B : Nat) (m : Qu.M), m.Ok → ∀ n, Qu.Run m n → ∀ X, LP b F B m X → Calls Try.prog 17 #[.pointer (some ⟨B, 0, none⟩)] X fun e X' => e = .returned (.int .i64 n) ∧ Below X.heap.size X X'
  put0 : ∀ (f x y b : Int) X, Calls Try.prog 10 #[.pointer none, .int .i64 f, .agg #[.int .i8 x, .int .i8 y, .int .u8 b]] X fun e X' => e = .returned (.bool false) ∧ Below X.heap.size X X'
  at0 : ∀ (f : Int) X, Calls Try.prog 14 #[.pointer none, .int .i64 f] X fun e X' => e = .returned (.tuple #[.agg #[.int .i8 0, .int .i8 0, .int .u8 0], .bool false]) ∧ Below X.heap.size X X'
  from0 : ∀ X, Calls Try.prog 16 #[.pointer none] X fun e X' => e = .returned (.int .i64 0) ∧ Below X.heap.size X X'
  known0 : ∀ X, Calls Try.prog 17 #[.pointer none] X fun e X' => e = .returned (.int .i64 0) ∧ Below X.heap.size X X'
abbrev P14 (LP : QuP) := HoldO LP
section
variable {LP : QuP} (C : QueueC LP) {w : World} {B : Nat} {m : Qu.M} {G : Nat → Prop} {X X' : World}
include C
theorem P14.new (f : Int) (i : Gm.In) (hf : 0 ≤ f ∧ f ≤ 1099511627776) (hi : Gm.tyIn i) (hw : Below w.heap.size w X) (hG : ∀ j, G j → w.heap.size ≤ j ∧ j < X.heap.size) :
    Calls Try.prog 7 #[.int .i64 f, .agg (Qu.inCells i)] X fun e X' => ∃ B, e = .returned (.pointer (some ⟨B, 0, none⟩)) ∧ P14 LP w B (Qu.new f i) G X' ∧ Below X.heap.size X X' := by
  refine (C.new w.heap.size f i X hw.size hf hi).mono fun e X' => ?_
  rintro ⟨B, F, rfl, h1, h2, h3⟩
  exact ⟨B, rfl, HoldO.new h1 h3 hw hG h2, h2⟩
theorem P14.put (ho : m.Ok) (f : Int) (i : Gm.In) (hf : -9223372036854775808 ≤ f ∧ f ≤ 9223372036854775807) (hi : Gm.tyIn i) (h : P14 LP w B m G X) :
    Calls Try.prog 10 #[.pointer (some ⟨B, 0, none⟩), .int .i64 f, .agg (Qu.inCells i)] X fun e X' => e = .returned (.bool (Qu.putOk m f i)) ∧ P14 LP w B (Qu.put m f i) G X' ∧ KeptO G X X' := by
  obtain ⟨F, h1, h2, h3⟩ := h
  exact (C.put _ F B m ho f i hf hi X h1 h3.size).mono fun e X' h => HoldO.says C.ob h1 h2 h3 h
theorem P14.done (ho : m.Ok) (hm : m.from_ < 1099511627776) (i : Gm.In) (hi : Gm.tyIn i) (h : P14 LP w B m G X) :
    Calls Try.prog 12 #[.pointer (some ⟨B, 0, none⟩), .agg (Qu.inCells i)] X fun e X' => e = .returned (.tuple #[]) ∧ P14 LP w B (Qu.done m i) G X' ∧ KeptO G X X' := by
  obtain ⟨F, h1, h2, h3⟩ := h
  exact (C.done _ F B m ho hm i hi X h1 h3.size).mono fun e X' h => HoldO.says C.ob h1 h2 h3 h
theorem P14.at_ (ho : m.Ok) (f : Int) (hf : 0 ≤ f ∧ f ≤ 1099511627776) (h : P14 LP w B m G X) :
    Calls Try.prog 14 #[.pointer (some ⟨B, 0, none⟩), .int .i64 f] X fun e X' => e = .returned (.tuple #[.agg (Qu.inCells (Qu.at_ m f).1), .bool (Qu.at_ m f).2]) ∧ P14 LP w B m G X' ∧ Below X.heap.size X X' := by
  obtain ⟨F, h1, h2, h3⟩ := h
  exact (C.at_ _ F B m ho f hf X h1).mono fun e X' h => HoldO.ask C.ob h1 h2 h3 h
theorem P14.from_ (ho : m.Ok) (h : P14 LP w B m G X) :
    Calls Try.prog 16 #[.pointer (some ⟨B, 0, none⟩)] X fun e X' => e = .returned (.int .i64 m.from_) ∧ P14 LP w B m G X' ∧ Below X.heap.size X X' := by
  obtain ⟨F, h1, h2, h3⟩ := h
  exact (C.from_ _ F B m ho X h1).mono fun e X' h => HoldO.ask C.ob h1 h2 h3 h
theorem P14.known (ho : m.Ok) (n : Nat) (hn : Qu.Run m n) (h : P14 LP w B m G X) :
    Calls Try.prog 17 #[.pointer (some ⟨B, 0, none⟩)] X fun e X' => e = .returned (.int .i64 n) ∧ P14 LP w B m G X' ∧ Below X.heap.size X X' := by
  obtain ⟨F, h1, h2, h3⟩ := h
  exact (C.known _ F B m ho n hn X h1).mono fun e X' h => HoldO.ask C.ob h1 h2 h3 h
end
end Go.Proofs.Ytcohbkgimlojpaa
namespace Qu
def iA : Gm.In := ⟨1, 0, 0⟩
def iB : Gm.In := ⟨0, 2, 0⟩
def t0 : M := new 4 iB
def t1 : M := put t0 5 iA
def t2 : M := put t1 5 iB
def t3 : M := put t2 3 iA
def t4 : M := put t3 68 iA
theorem iA_ty : Gm.tyIn iA := by unfold iA Gm.tyIn; decide
theorem iB_ty : Gm.tyIn iB := by unfold iB Gm.tyIn; decide
theorem t0_ok : t0.Ok := new_ok (by decide) iB_ty
theorem t1_ok : t1.Ok := put_ok t0_ok _ iA_ty
theorem t2_ok : t2.Ok := put_ok t1_ok _ iB_ty
theorem t3_ok : t3.Ok := put_ok t2_ok _ iA_ty
theorem t4_ok : t4.Ok := put_ok t3_ok _ iA_ty
theorem t_puts : putOk t0 5 iA = true ∧ putOk t1 5 iB = false ∧ putOk t2 3 iA = false ∧ putOk t3 68 iA = false := by decide +kernel
theorem t_ats : (at_ t2 4).1.x = 0 ∧ (at_ t2 4).1.y = 2 ∧ (at_ t2 4).1.b = 0 ∧ (at_ t2 4).2 = false ∧ (at_ t2 9).1.x = 1 ∧ (at_ t2 9).1.y = 0 ∧ (at_ t2 9).1.b = 0 ∧ (at_ t2 9).2 = false ∧ (at_ t2 5).1.x = 1 ∧ (at_ t2 5).1.y = 0 ∧ (at_ t2 5).1.b = 0 ∧ (at_ t2 5).2 = true := by decide +kernel
theorem t_from : t4.from_ = 4 := by decide +kernel
theorem t_run : Run t4 0 := ⟨by decide, fun k hk => absurd hk (Nat.not_lt_zero _), fun _ => by decide +kernel⟩
theorem inCells_of (i : Gm.In) {x y b : Int} (hx : i.x = x) (hy : i.y = y) (hb : i.b = b) : inCells i = #[.int .i8 x, .int .i8 y, .int .u8 b] := by
  unfold inCells
  rw [hx, hy, hb]
end Qu
namespace Go.Proofs.Ytcohbkgimlojpaa
open Go.RowKit
set_option linter.unusedVariables false
set_option linter.unusedSimpArgs false

set_option maxRecDepth 100000 in
set_option maxHeartbeats 4000000 in
theorem told14_law {LP : QuP} (C : QueueC LP) (w : World) : Calls Try.prog 9 #[] w fun e w' => e = .returned (.bool true) ∧ Below w.heap.size w w' := by
  obtain ⟨p1, p2, p3, p4⟩ := Qu.t_puts
  obtain ⟨x1, x2, x3, x4, y1, y2, y3, y4, z1, z2, z3, z4⟩ := Qu.t_ats
  have eX := Qu.inCells_of _ x1 x2 x3
  have eY := Qu.inCells_of _ y1 y2 y3
  have eZ := Qu.inCells_of _ z1 z2 z3
  have eA : Qu.inCells Qu.iA = #[.int .i8 1, .int .i8 0, .int .u8 0] := rfl
  have eB : Qu.inCells Qu.iB = #[.int .i8 0, .int .i8 2, .int .u8 0] := rfl
  have c0 := fun G X hw hG => P14.new C (LP := LP) (w := w) (X := X) (G := G) 4 Qu.iB (by decide) Qu.iB_ty hw hG
  have c1 := fun G B X (h : P14 LP w B Qu.t0 G X) => P14.put C Qu.t0_ok 5 Qu.iA (by decide) Qu.iA_ty h
  have c2 := fun G B X (h : P14 LP w B Qu.t1 G X) => P14.put C Qu.t1_ok 5 Qu.iB (by decide) Qu.iB_ty h
  have c3 := fun G B X (h : P14 LP w B Qu.t2 G X) => P14.at_ C Qu.t2_ok 4 (by decide) h
  have c4 := fun G B X (h : P14 LP w B Qu.t2 G X) => P14.at_ C Qu.t2_ok 9 (by decide) h
  have c5 := fun G B X (h : P14 LP w B Qu.t2 G X) => P14.at_ C Qu.t2_ok 5 (by decide) h
  have c6 := fun G B X (h : P14 LP w B Qu.t2 G X) => P14.put C Qu.t2_ok 3 Qu.iA (by decide) Qu.iA_ty h
  have c7 := fun G B X (h : P14 LP w B Qu.t3 G X) => P14.put C Qu.t3_ok 68 Qu.iA (by decide) Qu.iA_ty h
  have c8 := fun G B X (h : P14 LP w B Qu.t4 G X) => P14.from_ C Qu.t4_ok h
  have c9 := fun G B X (h : P14 LP w B Qu.t4 G X) => P14.known C Qu.t4_ok 0 Qu.t_run h
  rw [eB] at c0
  rw [eA, p1] at c1
  rw [eB, p2] at c2
  rw [eX, x4] at c3
  rw [eY, y4] at c4
  rw [eZ, z4] at c5
  rw [eA, p3] at c6
  rw [eA, p4] at c7
  rw [Qu.t_from] at c8
  rw [show ((0 : Nat) : Int) = 0 from rfl] at c9
  have C0 := Lib.hid c0
  have C1 := Lib.hid c1
  have C2 := Lib.hid c2
  have C3 := Lib.hid c3
  have C4 := Lib.hid c4
  have C5 := Lib.hid c5
  have C6 := Lib.hid c6
  have C7 := Lib.hid c7
  have C8 := Lib.hid c8
  have C9 := Lib.hid c9
  clear c0 c1 c2 c3 c4 c5 c6 c7 c8 c9 p1 p2 p3 p4 x1 x2 x3 x4 y1 y2 y3 y4 z1 z2 z3 z4 eX eY eZ eA eB
  have d1 := fun X => Lib.hid (C.put0 1 1 0 0 X)
  have d2 := fun X => Lib.hid (C.at0 3 X)
  have d3 := fun X => Lib.hid (C.from0 X)
  have d4 := fun X => Lib.hid (C.known0 X)
  obtain ⟨A, hA⟩ : ∃ A, A = w.heap.size := ⟨_, rfl⟩
  have Ba := Lib.hid (show Box ((w.alloc (.cells #[.int .i8 1, .int .i8 0, .int .u8 0] 24)).alloc (.cells #[.int .i8 0, .int .i8 2, .int .u8 0] 24)) A 24 #[.int .i8 1, .int .i8 0, .int .u8 0] by rw [hA]; exact (Box.made w _ _).alloc _)
  have Bb := Lib.hid (show Box ((w.alloc (.cells #[.int .i8 1, .int .i8 0, .int .u8 0] 24)).alloc (.cells #[.int .i8 0, .int .i8 2, .int .u8 0] 24)) (A + 1) 24 #[.int .i8 0, .int .i8 2, .int .u8 0] by rw [hA]; exact Box.made_at _ _ _ (by simp))
  have KB := Lib.hid (two_belowQ w (.cells #[.int .i8 1, .int .i8 0, .int .u8 0] 24) (.cells #[.int .i8 0, .int .i8 2, .int .u8 0] 24))
  have hsz : ((w.alloc (.cells #[.int .i8 1, .int .i8 0, .int .u8 0] 24)).alloc (.cells #[.int .i8 0, .int .i8 2, .int .u8 0] 24)).heap.size = A + 2 := by rw [hA]; simp
  have HSZ := Lib.hid hsz
  clear hsz
  go_enter Try.func9, Try.ntmps9
  go_upto_region 2 with fail
  rw [← hA]
  generalize (w.alloc (.cells #[.int .i8 1, .int .i8 0, .int .u8 0] 24)).alloc (.cells #[.int .i8 0, .int .i8 2, .int .u8 0] 24) = X0 at *
  have HA := Lib.hid hA
  clear hA
  obtain ⟨G, hG⟩ : ∃ G : Nat → Prop, G = fun j => j = A ∨ j = A + 1 := ⟨_, rfl⟩
  have GA : G A := by rw [hG]; exact .inl rfl
  have GB : G (A + 1) := by rw [hG]; exact .inr rfl
  have GL := Lib.hid (show ∀ j, G j → w.heap.size ≤ j ∧ j < X0.heap.size from fun j hj => by
    rw [hG] at hj
    rw [HSZ.out, ← HA.out]
    rcases hj with rfl | rfl <;> omega)
  clear hG
  have kb0 := Bb.out.cell 0
  rw [show (#[.int .i8 0, .int .i8 2, .int .u8 0] : Array Value)[0]? = some (.int .i8 0) from rfl] at kb0
  have kb1 := Bb.out.cell 1
  rw [show (#[.int .i8 0, .int .i8 2, .int .u8 0] : Array Value)[1]? = some (.int .i8 2) from rfl] at kb1
  have kb2 := Bb.out.cell 2
  rw [show (#[.int .i8 0, .int .i8 2, .int .u8 0] : Array Value)[2]? = some (.int .u8 0) from rfl] at kb2
  go_upto_region 5 with (go_at_call 7; ((with_reducible refine (C0.out G _ KB.out GL.out).mono ?_); rintro e X1 ⟨Q, rfl, h', k'⟩; have HQ := Lib.hid (show P14 LP w Q Qu.t0 G X1 from h'); have Ba := Lib.hid (Ba.out.below k' Ba.out.lt); have Bb := Lib.hid (Bb.out.below k' Bb.out.lt); clear h' k'))
  clear kb0 kb1 kb2
  have HD := Lib.hid (HoldO.drew C.ob HQ.out)
  have Ba := Lib.hid Ba.out.drew
  have Bb := Lib.hid Bb.out.drew
  have kd1 : X1.drew.cell? ⟨A, 0, none⟩ = some (.int .i8 1) ∧ X1.drew.cell? ⟨A, 1, none⟩ = some (.int .i8 0) ∧ X1.drew.cell? ⟨A, 2, none⟩ = some (.int .u8 0) ∧ X1.drew.cell? ⟨A + 1, 0, none⟩ = some (.int .i8 0) ∧ X1.drew.cell? ⟨A + 1, 1, none⟩ = some (.int .i8 2) ∧ X1.drew.cell? ⟨A + 1, 2, none⟩ = some (.int .u8 0) := ⟨Ba.out.cell 0, Ba.out.cell 1, Ba.out.cell 2, Bb.out.cell 0, Bb.out.cell 1, Bb.out.cell 2⟩
  go_region_held3 (fun w' => w'.cell? ⟨A, 0, none⟩ = some (.int .i8 1) ∧ w'.cell? ⟨A, 1, none⟩ = some (.int .i8 0) ∧ w'.cell? ⟨A, 2, none⟩ = some (.int .u8 0) ∧ w'.cell? ⟨A + 1, 0, none⟩ = some (.int .i8 0) ∧ w'.cell? ⟨A + 1, 1, none⟩ = some (.int .i8 2) ∧ w'.cell? ⟨A + 1, 2, none⟩ = some (.int .u8 0)) (first | exact kd1 | exact kd2 | exact kd3 | go_keep) (first
    | (go_at_call 10; (with_reducible refine (C1.out G Q _ HD.out).mono ?_); rintro e X2 ⟨rfl, h', k'⟩; have H2 := Lib.hid (show P14 LP w Q Qu.t1 G X2 from h'); have Ba2 := Lib.hid (k'.box GA Ba.out); have Bb2 := Lib.hid (k'.box GB Bb.out); clear h' k'; have kd2 : X2.cell? ⟨A, 0, none⟩ = some (.int .i8 1) ∧ X2.cell? ⟨A, 1, none⟩ = some (.int .i8 0) ∧ X2.cell? ⟨A, 2, none⟩ = some (.int .u8 0) ∧ X2.cell? ⟨A + 1, 0, none⟩ = some (.int .i8 0) ∧ X2.cell? ⟨A + 1, 1, none⟩ = some (.int .i8 2) ∧ X2.cell? ⟨A + 1, 2, none⟩ = some (.int .u8 0) := ⟨Ba2.out.cell 0, Ba2.out.cell 1, Ba2.out.cell 2, Bb2.out.cell 0, Bb2.out.cell 1, Bb2.out.cell 2⟩)
    | (go_at_call 10; (with_reducible refine (C2.out G Q _ H2.out).mono ?_); rintro e X3 ⟨rfl, h', k'⟩; have H3 := Lib.hid (show P14 LP w Q Qu.t2 G X3 from h'); have Ba3 := Lib.hid (k'.box GA Ba2.out); have Bb3 := Lib.hid (k'.box GB Bb2.out); clear h' k'; have kd3 : X3.cell? ⟨A, 0, none⟩ = some (.int .i8 1) ∧ X3.cell? ⟨A, 1, none⟩ = some (.int .i8 0) ∧ X3.cell? ⟨A, 2, none⟩ = some (.int .u8 0) ∧ X3.cell? ⟨A + 1, 0, none⟩ = some (.int .i8 0) ∧ X3.cell? ⟨A + 1, 1, none⟩ = some (.int .i8 2) ∧ X3.cell? ⟨A + 1, 2, none⟩ = some (.int .u8 0) := ⟨Ba3.out.cell 0, Ba3.out.cell 1, Ba3.out.cell 2, Bb3.out.cell 0, Bb3.out.cell 1, Bb3.out.cell 2⟩))
  all_goals (
    clear kd1 kd2 kd3
    go_upto_region 7 with (go_at_call 14; ((with_reducible refine (C3.out _ Q _ H3.out).mono ?_); rintro e X4 ⟨rfl, h', k'⟩; have H4 := Lib.hid (HoldO.alloc C.ob h' (.cells #[.int .i8 0, .int .i8 2, .int .u8 0] 24)); have Ba4 := Lib.hid ((Ba3.out.below k' Ba3.out.lt).alloc (.cells #[.int .i8 0, .int .i8 2, .int .u8 0] 24)); have Bb4 := Lib.hid ((Bb3.out.below k' Bb3.out.lt).alloc (.cells #[.int .i8 0, .int .i8 2, .int .u8 0] 24)); have Bx4 := Lib.hid (Box.made X4 24 #[.int .i8 0, .int .i8 2, .int .u8 0]); clear h' k'))
    clear H3 Ba3 Bb3
    generalize X4.heap.size = Px at *
    generalize X4.alloc (.cells #[.int .i8 0, .int .i8 2, .int .u8 0] 24) = Y4 at *
    go_upto_region 8 with (go_at_call 14; ((with_reducible refine (C4.out _ Q _ H4.out).mono ?_); rintro e X5 ⟨rfl, h', k'⟩; have H5 := Lib.hid (HoldO.alloc C.ob h' (.cells #[.int .i8 1, .int .i8 0, .int .u8 0] 24)); have Ba5 := Lib.hid ((Ba4.out.below k' Ba4.out.lt).alloc (.cells #[.int .i8 1, .int .i8 0, .int .u8 0] 24)); have Bb5 := Lib.hid ((Bb4.out.below k' Bb4.out.lt).alloc (.cells #[.int .i8 1, .int .i8 0, .int .u8 0] 24)); have Bx5 := Lib.hid ((Bx4.out.below k' Bx4.out.lt).alloc (.cells #[.int .i8 1, .int .i8 0, .int .u8 0] 24)); have By5 := Lib.hid (Box.made X5 24 #[.int .i8 1, .int .i8 0, .int .u8 0]); clear h' k'))
    clear H4 Ba4 Bb4 Bx4
    generalize X5.heap.size = Py at *
    generalize X5.alloc (.cells #[.int .i8 1, .int .i8 0, .int .u8 0] 24) = Y5 at *
    go_upto_region 9 with (go_at_call 14; ((with_reducible refine (C5.out _ Q _ H5.out).mono ?_); rintro e X6 ⟨rfl, h', k'⟩; have H6 := Lib.hid (HoldO.alloc C.ob h' (.cells #[.int .i8 1, .int .i8 0, .int .u8 0] 24)); have Ba6 := Lib.hid ((Ba5.out.below k' Ba5.out.lt).alloc (.cells #[.int .i8 1, .int .i8 0, .int .u8 0] 24)); have Bb6 := Lib.hid ((Bb5.out.below k' Bb5.out.lt).alloc (.cells #[.int .i8 1, .int .i8 0, .int .u8 0] 24)); have Bx6 := Lib.hid ((Bx5.out.below k' Bx5.out.lt).alloc (.cells #[.int .i8 1, .int .i8 0, .int .u8 0] 24)); have By6 := Lib.hid ((By5.out.below k' By5.out.lt).alloc (.cells #[.int .i8 1, .int .i8 0, .int .u8 0] 24)); have Bz6 := Lib.hid (Box.made X6 24 #[.int .i8 1, .int .i8 0, .int .u8 0]); clear h' k'))
    clear H5 Ba5 Bb5 Bx5 By5
    generalize X6.heap.size = Pz at *
    generalize X6.alloc (.cells #[.int .i8 1, .int .i8 0, .int .u8 0] 24) = Y6 at *
    have ka0 : Y6.cell? ⟨A, 0, none⟩ = some (.int .i8 1) := Ba6.out.cell 0
    have ka1 : Y6.cell? ⟨A, 1, none⟩ = some (.int .i8 0) := Ba6.out.cell 1
    have ka2 : Y6.cell? ⟨A, 2, none⟩ = some (.int .u8 0) := Ba6.out.cell 2
    go_upto_region 10 with (go_at_call 10; ((with_reducible refine (C6.out _ Q _ H6.out).mono ?_); rintro e Z7 ⟨rfl, h', k'⟩; have H7 := Lib.hid (show P14 LP w Q Qu.t3 _ Z7 from h'); have Ba7 := Lib.hid (k'.box (.inl (.inl (.inl GA))) Ba6.out); have Bb7 := Lib.hid (k'.box (.inl (.inl (.inl GB))) Bb6.out); have Bx7 := Lib.hid (k'.box (.inl (.inl (.inr rfl))) Bx6.out); have By7 := Lib.hid (k'.box (.inl (.inr rfl)) By6.out); have Bz7 := Lib.hid (k'.box (.inr rfl) Bz6.out); clear h' k'))
    clear ka0 ka1 ka2 H6 Ba6 Bb6 Bx6 By6 Bz6
    have ka0 : Z7.cell? ⟨A, 0, none⟩ = some (.int .i8 1) := Ba7.out.cell 0
    have ka1 : Z7.cell? ⟨A, 1, none⟩ = some (.int .i8 0) := Ba7.out.cell 1
    have ka2 : Z7.cell? ⟨A, 2, none⟩ = some (.int .u8 0) := Ba7.out.cell 2
    go_upto_region 11 with (go_at_call 10; ((with_reducible refine (C7.out _ Q _ H7.out).mono ?_); rintro e Z8 ⟨rfl, h', k'⟩; have H8 := Lib.hid (show P14 LP w Q Qu.t4 _ Z8 from h'); have Ba8 := Lib.hid (k'.box (.inl (.inl (.inl GA))) Ba7.out); have Bb8 := Lib.hid (k'.box (.inl (.inl (.inl GB))) Bb7.out); have Bx8 := Lib.hid (k'.box (.inl (.inl (.inr rfl))) Bx7.out); have By8 := Lib.hid (k'.box (.inl (.inr rfl)) By7.out); have Bz8 := Lib.hid (k'.box (.inr rfl) Bz7.out); clear h' k'))
    clear ka0 ka1 ka2 H7 Ba7 Bb7 Bx7 By7 Bz7
    go_wp2_with (first
      | (go_at_call 14; ((with_reducible refine (d2 _).out.mono ?_); rintro e Z9 ⟨rfl, k'⟩; have H9 := Lib.hid (HoldO.below C.ob (HoldO.below C.ob H8.out k') (one_below Z9 (.cells #[.int .i8 0, .int .i8 0, .int .u8 0] 24))); have Ba9 := Lib.hid ((Ba8.out.below k' Ba8.out.lt).alloc (.cells #[.int .i8 0, .int .i8 0, .int .u8 0] 24)); have Bb9 := Lib.hid ((Bb8.out.below k' Bb8.out.lt).alloc (.cells #[.int .i8 0, .int .i8 0, .int .u8 0] 24)); have Bx9 := Lib.hid ((Bx8.out.below k' Bx8.out.lt).alloc (.cells #[.int .i8 0, .int .i8 0, .int .u8 0] 24)); have By9 := Lib.hid ((By8.out.below k' By8.out.lt).alloc (.cells #[.int .i8 0, .int .i8 0, .int .u8 0] 24)); have Bz9 := Lib.hid ((Bz8.out.below k' Bz8.out.lt).alloc (.cells #[.int .i8 0, .int .i8 0, .int .u8 0] 24)); have ka0 : (Z9.alloc (.cells #[.int .i8 0, .int .i8 0, .int .u8 0] 24)).cell? ⟨A, 0, none⟩ = some (.int .i8 1) := Ba9.out.cell 0; have ka1 : (Z9.alloc (.cells #[.int .i8 0, .int .i8 0, .int .u8 0] 24)).cell? ⟨A, 1, none⟩ = some (.int .i8 0) := Ba9.out.cell 1; have ka2 : (Z9.alloc (.cells #[.int .i8 0, .int .i8 0, .int .u8 0] 24)).cell? ⟨A, 2, none⟩ = some (.int .u8 0) := Ba9.out.cell 2; have kb0 : (Z9.alloc (.cells #[.int .i8 0, .int .i8 0, .int .u8 0] 24)).cell? ⟨A + 1, 0, none⟩ = some (.int .i8 0) := Bb9.out.cell 0; have kb1 : (Z9.alloc (.cells #[.int .i8 0, .int .i8 0, .int .u8 0] 24)).cell? ⟨A + 1, 1, none⟩ = some (.int .i8 2) := Bb9.out.cell 1; have kb2 : (Z9.alloc (.cells #[.int .i8 0, .int .i8 0, .int .u8 0] 24)).cell? ⟨A + 1, 2, none⟩ = some (.int .u8 0) := Bb9.out.cell 2; have kx0 : (Z9.alloc (.cells #[.int .i8 0, .int .i8 0, .int .u8 0] 24)).cell? ⟨Px, 0, none⟩ = some (.int .i8 0) := Bx9.out.cell 0; have kx1 : (Z9.alloc (.cells #[.int .i8 0, .int .i8 0, .int .u8 0] 24)).cell? ⟨Px, 1, none⟩ = some (.int .i8 2) := Bx9.out.cell 1; have kx2 : (Z9.alloc (.cells #[.int .i8 0, .int .i8 0, .int .u8 0] 24)).cell? ⟨Px, 2, none⟩ = some (.int .u8 0) := Bx9.out.cell 2; have ky0 : (Z9.alloc (.cells #[.int .i8 0, .int .i8 0, .int .u8 0] 24)).cell? ⟨Py, 0, none⟩ = some (.int .i8 1) := By9.out.cell 0; have ky1 : (Z9.alloc (.cells #[.int .i8 0, .int .i8 0, .int .u8 0] 24)).cell? ⟨Py, 1, none⟩ = some (.int .i8 0) := By9.out.cell 1; have ky2 : (Z9.alloc (.cells #[.int .i8 0, .int .i8 0, .int .u8 0] 24)).cell? ⟨Py, 2, none⟩ = some (.int .u8 0) := By9.out.cell 2; have kz0 : (Z9.alloc (.cells #[.int .i8 0, .int .i8 0, .int .u8 0] 24)).cell? ⟨Pz, 0, none⟩ = some (.int .i8 1) := Bz9.out.cell 0; have kz1 : (Z9.alloc (.cells #[.int .i8 0, .int .i8 0, .int .u8 0] 24)).cell? ⟨Pz, 1, none⟩ = some (.int .i8 0) := Bz9.out.cell 1; have kz2 : (Z9.alloc (.cells #[.int .i8 0, .int .i8 0, .int .u8 0] 24)).cell? ⟨Pz, 2, none⟩ = some (.int .u8 0) := Bz9.out.cell 2; clear k'))
      | (go_at_call 16; ((with_reducible refine (C8.out _ Q _ H9.out).mono ?_); rintro e Z10 ⟨rfl, h, k'⟩; have H10 := Lib.hid (h); have Ba10 := Lib.hid (Ba9.out.below k' Ba9.out.lt); have ka0 : Z10.cell? ⟨A, 0, none⟩ = some (.int .i8 1) := Ba10.out.cell 0; have ka1 : Z10.cell? ⟨A, 1, none⟩ = some (.int .i8 0) := Ba10.out.cell 1; have ka2 : Z10.cell? ⟨A, 2, none⟩ = some (.int .u8 0) := Ba10.out.cell 2; clear k'))
      | (go_at_call 17; ((with_reducible refine (C9.out _ Q _ H10.out).mono ?_); rintro e Z11 ⟨rfl, h, k'⟩; have H11 := Lib.hid (h); have Ba11 := Lib.hid (Ba10.out.below k' Ba10.out.lt); have ka0 : Z11.cell? ⟨A, 0, none⟩ = some (.int .i8 1) := Ba11.out.cell 0; have ka1 : Z11.cell? ⟨A, 1, none⟩ = some (.int .i8 0) := Ba11.out.cell 1; have ka2 : Z11.cell? ⟨A, 2, none⟩ = some (.int .u8 0) := Ba11.out.cell 2; clear k'))
      | (go_at_call 10; ((with_reducible refine ((d1 _).out).mono ?_); rintro e Z12 ⟨rfl,  k'⟩; have H12 := Lib.hid (HoldO.below C.ob H11.out k'); clear k'))
      | (go_at_call 16; ((with_reducible refine ((d3 _).out).mono ?_); rintro e Z13 ⟨rfl,  k'⟩; have H13 := Lib.hid (HoldO.below C.ob H12.out k'); clear k'))
      | (go_at_call 17; ((with_reducible refine ((d4 _).out).mono ?_); rintro e Z14 ⟨rfl,  k'⟩; have H14 := Lib.hid (HoldO.below C.ob H13.out k'); clear k')))
    go_ret
    exact ⟨rfl, H14.out.down⟩)
end Go.Proofs.Ytcohbkgimlojpaa
namespace Bd
open Go
theorem i8 {a : Int} (h : (Lit.int .i8 a).wf = true) : -128 ≤ a ∧ a ≤ 127 := by
  simpa [Lit.wf, IntKind.min, IntKind.max, IntKind.signed, IntKind.bits] using h
theorem i32 {a : Int} (h : (Lit.int .i32 a).wf = true) : -2147483648 ≤ a ∧ a ≤ 2147483647 := by
  simpa [Lit.wf, IntKind.min, IntKind.max, IntKind.signed, IntKind.bits] using h
theorem i64 {a : Int} (h : (Lit.int .i64 a).wf = true) : -9223372036854775808 ≤ a ∧ a ≤ 9223372036854775807 := by
  simpa [Lit.wf, IntKind.min, IntKind.max, IntKind.signed, IntKind.bits] using h
theorem u8 {a : Int} (h : (Lit.int .u8 a).wf = true) : 0 ≤ a ∧ a ≤ 255 := by
  simpa [Lit.wf, IntKind.min, IntKind.max, IntKind.signed, IntKind.bits] using h
theorem u64 {a : Int} (h : (Lit.int .u64 a).wf = true) : 0 ≤ a ∧ a ≤ 18446744073709551615 := by
  simpa [Lit.wf, IntKind.min, IntKind.max, IntKind.signed, IntKind.bits] using h
end Bd
namespace Go.Proofs.Ytcohbkgimlojpaa
open Go.ChangeShapes Go.WideShapes Go.ChangeAt Go.RowKit Go.Joins Go.ChangeMaps Go.Deep
set_option linter.unusedVariables false

theorem cells?_cell' {w : World} {base : Nat} {a : Addr} {n : Nat} {cs : List Value} (h : w.cells? base a n = some cs) : cs.length = n ∧ ∀ j, j < n → w.cell? (a.add j) = cs[j]? := by
  unfold World.cells? at h
  split at h
  · have hl := mapM_some_length h
    refine ⟨by simpa using hl, fun j hj => ?_⟩
    have := mapM_some_get h j j (by simp [hj])
    rw [this]
  · cases h
theorem cells_one_of' {v x : Value} (h : ∀ cs, v ≠ .agg cs) (hv : v.cells.toList = [x]) : v = x := by
  cases v <;> first | exact absurd rfl (h _) | simpa [Value.cells] using hv
section
variable {α : Type} {cells : α → List Value} {c : Nat}
theorem flat_len (hc : ∀ a, (cells a).length = c) (l : List α) : (l.flatMap cells).length = l.length * c := by
  induction l with
  | nil => simp
  | cons s l ih => rw [List.flatMap_cons, List.length_append, ih, List.length_cons, hc, Nat.succ_mul]; omega
theorem flat_at (hc : ∀ a, (cells a).length = c) (l : List α) (k j : Nat) (hk : k < l.length) (hj : j < c) : (l.flatMap cells)[k * c + j]? = (cells l[k])[j]? := by
  induction l generalizing k with
  | nil => simp at hk
  | cons s l ih =>
    rw [List.flatMap_cons]
    match k with
    | 0 => rw [List.getElem?_append_left (by rw [hc]; omega)]; simp
    | k + 1 =>
      rw [List.getElem?_append_right (by rw [hc, Nat.succ_mul]; omega)]
      have := ih k (by simpa using hk)
      rw [show (k + 1) * c + j - (cells s).length = k * c + j from by rw [hc, Nat.succ_mul]; omega, this]
      simp
end
section
variable {H : Type} {enc : TypeId × Value → H} {w : World} {base : Nat} {spare : Nat → Bool} {held : Bool}
set_option maxRecDepth 100000 in
theorem open_slice_c {α : Type} {t e : TypeId} (cells : α → List Value) (c : Nat) (ty : α → Prop) (z : α) (hu : Try.prog.underlying t = some (.slice e)) (hce : Try.prog.cellsOf e = c) (hc0 : 0 < c) (hlen : ∀ a, (cells a).length = c)
    (hel : ∀ {base : Nat} {spare : Nat → Bool} {held : Bool} {fuel : Nat} {l : List Value} {y : DataW H × List MemPlace}, l.length = c → DataW.trod enc Try.prog w base spare held fuel e l = some y → ∃ q : α, l = cells q ∧ ty q)
    {v : Value} {d : DataW H} {p : List MemPlace} (hag : ∀ cs, v ≠ .agg cs) (h : DataW.Trod enc Try.prog w base spare held t v d p) : ∃ (A : Option Addr) (cc : Nat) (l : List α), v = .slice A l.length cc ∧ (∀ x ∈ l, ty x) ∧ l.length ≤ maxLen ∧ Lies w w.heap.size c A l.length (l.flatMap cells) ∧ l.length ≤ cc := by
  obtain ⟨fuel, hf⟩ := h
  rcases DataW.trod_slice hu hf with ⟨hv, _⟩ | ⟨a, len, cap, elems, rest, n, rfl, hv, _, _, hlc, hcm, hlen', hel', _, _⟩
  · have ev : v = .slice none 0 0 := cells_one_of' hag hv
    exact ⟨none, 0, [], ev, fun x hx => (by cases hx), Nat.zero_le _, Lies.empty, Nat.le_refl _⟩
  · have ev : v = .slice (some a) len cap := cells_one_of' hag hv
    simp only [hce] at hel'
    have key : ∀ i, i < len → ∃ q : α, w.cells? base (a.add (i * c)) c = some (cells q) ∧ ty q := by
      intro i hi
      obtain ⟨y, hy⟩ : ∃ y, elems[i]? = some y := ⟨elems[i]'(by omega), List.getElem?_eq_getElem (by omega)⟩
      have h := hel' i hi
      rw [hy, Option.bind_eq_some_iff] at h
      obtain ⟨cs, hcs, ht⟩ := h
      have hl := (cells?_cell' hcs).1
      obtain ⟨q, h1, h2⟩ := hel hl ht
      exact ⟨q, by rw [hcs, h1], h2⟩
    have hch : ∃ ps : Nat → α, ∀ i, i < len → (w.cells? base (a.add (i * c)) c = some (cells (ps i)) ∧ ty (ps i)) :=
      ⟨fun i => if h : i < len then (key i h).choose else z, fun i hi => by dsimp only; rw [dif_pos hi]; exact (key i hi).choose_spec⟩
    obtain ⟨ps, hps⟩ := hch
    have ll : ((List.range len).map ps).length = len := by simp
    have lf : (((List.range len).map ps).flatMap cells).length = len * c := by rw [flat_len hlen, ll]
    refine ⟨some a, cap, (List.range len).map ps, by rw [ll]; exact ev, fun x hx => ?_, by rw [ll]; omega, ⟨?_, fun h0 => ?_, fun ad e h0 j u hu => ?_⟩, by rw [ll]; exact hlc⟩
    · obtain ⟨i, hi, rfl⟩ := List.mem_map.1 hx
      exact (hps i (by simpa using hi)).2
    · rw [lf, ll]
    · rw [ll] at h0
      exact ⟨a, rfl, by have := World.cells?_block (hps 0 (by omega)).1 hc0; simpa [Addr.add] using this⟩
    · injection e with e
      subst e
      have hjl : j < len * c := by have := (List.getElem?_eq_some_iff.1 hu).1; rwa [lf] at this
      have hjc : j / c < len := (Nat.div_lt_iff_lt_mul hc0).2 hjl
      have hjm : j % c < c := Nat.mod_lt _ hc0
      have hjj : j / c * c + j % c = j := by rw [Nat.mul_comm]; exact Nat.div_add_mod j c
      have hq := (cells?_cell' (hps (j / c) hjc).1).2 (j % c) hjm
      rw [add_twice, hjj] at hq
      rw [hq, ← hu]
      have := flat_at hlen ((List.range len).map ps) (j / c) (j % c) (by rw [ll]; exact hjc) hjm
      rw [hjj] at this
      rw [this]
      simp
/-- A list of whole numbers. -/
theorem open_slice {α : Type} {t e : TypeId} (cells : α → List Value) (c : Nat) (ty : α → Prop) (z : α) (hu : Try.prog.underlying t = some (.slice e)) (hce : Try.prog.cellsOf e = c) (hc0 : 0 < c) (hlen : ∀ a, (cells a).length = c)
    (hel : ∀ {base : Nat} {spare : Nat → Bool} {held : Bool} {fuel : Nat} {l : List Value} {y : DataW H × List MemPlace}, l.length = c → DataW.trod enc Try.prog w base spare held fuel e l = some y → ∃ q : α, l = cells q ∧ ty q)
    {v : Value} {d : DataW H} {p : List MemPlace} (hag : ∀ cs, v ≠ .agg cs) (h : DataW.Trod enc Try.prog w base spare held t v d p) : ∃ (A : Option Addr) (cc : Nat) (l : List α), v = .slice A l.length cc ∧ (∀ x ∈ l, ty x) ∧ l.length ≤ maxLen ∧ Lies w w.heap.size c A l.length (l.flatMap cells) := by
  obtain ⟨A, cc, l, h1, h2, h3, h4, _⟩ := open_slice_c cells c ty z hu hce hc0 hlen hel hag h
  exact ⟨A, cc, l, h1, h2, h3, h4⟩

theorem open_list {t e : TypeId} {k : IntKind} (hu : Try.prog.underlying t = some (.slice e)) (he : Try.prog.underlying e = some (.int k)) (hce : Try.prog.cellsOf e = 1) {v : Value} {d : DataW H} {p : List MemPlace} (hag : ∀ cs, v ≠ .agg cs) (h : DataW.Trod enc Try.prog w base spare held t v d p) :
    ∃ (A : Option Addr) (cc : Nat) (l : List Int), v = .slice A l.length cc ∧ (∀ x ∈ l, (Lit.int k x).wf = true) ∧ l.length ≤ maxLen ∧ Lies w w.heap.size 1 A l.length (l.flatMap fun x => [.int k x]) :=
  open_slice (fun x : Int => [Value.int k x]) 1 (fun x => (Lit.int k x).wf = true) 0 hu hce (by decide) (fun _ => rfl) (fun hl ht => by
    obtain ⟨x, e, _, w⟩ := DataW.trod_int he ht
    exact ⟨x, e, w⟩) hag h
end
end Go.Proofs.Ytcohbkgimlojpaa
namespace Go.Proofs.Ytcohbkgimlojpaa
open Go.RowKit
set_option linter.unusedVariables false
theorem lk_ints {w : World} {B n : Nat} {ad : Addr} {l : List Int} {k : IntKind} (h : Lies w B 1 (some ad) n (l.flatMap fun x => [.int k x])) (hn : n = l.length) (f : Nat) (hf : f < l.length) : w.cell? (ad.add f) = some (.int k (l.getD f 0)) := by
  refine h.cell ad rfl (by omega) f _ ?_
  have := flat_at (cells := fun x : Int => [Value.int k x]) (c := 1) (fun _ => rfl) l f 0 hf (by omega)
  rw [Nat.mul_one, Nat.add_zero] at this
  rw [this]
  simp [hf]
theorem modN (x m : Int) (hm : 0 < m ∧ m ≤ 1000000) : ∃ k : Nat, wrap64 ((IntKind.u64.wrap x).tmod m) = (k : Int) ∧ (k : Int) < m := by
  have u0 : 0 ≤ IntKind.u64.wrap x := by rw [IntKind.wrap_u64]; omega
  have h1 := Int.emod_nonneg (IntKind.u64.wrap x) (show m ≠ 0 by omega)
  have h2 := Int.emod_lt_of_pos (IntKind.u64.wrap x) hm.1
  refine ⟨(IntKind.u64.wrap x % m).toNat, ?_, by omega⟩
  rw [Int.tmod_eq_emod_of_nonneg u0]
  unfold wrap64
  omega
end Go.Proofs.Ytcohbkgimlojpaa
namespace Qu
open Go Go.RowKit
def i1 : Gm.In := ⟨0, 0, 1⟩
theorem i1_ty : Gm.tyIn i1 := by unfold i1 Gm.tyIn; decide
def has (m : M) (k : Nat) : Value := .bool (m.known k).isSome
theorem put_at {m : M} {f : Int} {i : Gm.In} (d : Nat) (hb : inB i = true) (hd : f - m.from_ = d) (h64 : d < 64) :
    putOk m f i = (m.known d).isNone ∧ (put m f i).from_ = m.from_ ∧ ((put m f i).known = if (m.known d).isNone = true then upd m.known d (some i) else m.known) := by
  have hdn : (f - m.from_).toNat = d := by omega
  have hpo : putOk m f i = (m.known d).isNone := by unfold putOk; rw [hb, decide_eq_true (by omega), hdn]; rfl
  refine ⟨hpo, ?_, ?_⟩
  · unfold put; split <;> rfl
  · unfold put
    rw [hpo, hdn]
    split <;> rfl
theorem has_put {m : M} {f : Int} {i : Gm.In} (d : Nat) (hb : inB i = true) (hd : f - m.from_ = d) (h64 : d < 64) (k : Nat) : upd (has m) d (.bool true) k = has (put m f i) k := by
  obtain ⟨_, _, hk⟩ := put_at (i := i) d hb hd h64
  unfold has
  rw [hk]
  by_cases hkd : k = d
  · rw [hkd, upd_same]
    cases h : m.known d with
    | none => rw [show (if (none : Option Gm.In).isNone = true then upd m.known d (some i) else m.known) = upd m.known d (some i) from if_pos rfl, upd_same]; rfl
    | some v => rw [show (if (some v).isNone = true then upd m.known d (some i) else m.known) = m.known from if_neg (fun h => by cases h), h]; rfl
  · rw [upd_other _ _ hkd]
    split
    · rw [upd_other _ _ hkd]
    · rfl
end Qu
namespace Go.Proofs.Ytcohbkgimlojpaa
open Go.RowKit
set_option linter.unusedVariables false
set_option linter.unusedSimpArgs false
theorem bools_zero : (Try.prog.info? 34).map (·.zero) = some (some (.agg (Qu.arr 64 fun _ => .bool false))) := by kernel_rfl
set_option maxRecDepth 100000 in
set_option maxHeartbeats 4000000 in
theorem known14_law {LP : QuP} (C : QueueC LP) (A : Option Addr) (c n : Nat) (l : List Int) (w : World) (hn : n = l.length) (hnm : n ≤ maxLen) (hL : Lies w w.heap.size 1 A n (l.flatMap fun x => [.int .i64 x])) :
    Calls Try.prog 6 #[.slice A n c] w fun e w' => e = .returned (.bool true) ∧ Below w.heap.size w w' := by
  have c0 := P14.new C (LP := LP) (X := w) (w := w) (G := fun _ => False) 10 Qu.none_ (by decide) (by unfold Qu.none_ Gm.tyIn; decide) (Below.refl _ _) (fun _ h => h.elim)
  rw [show Qu.inCells Qu.none_ = #[.int .i8 0, .int .i8 0, .int .u8 0] from rfl] at c0
  have C0 := Lib.hid c0
  have ct := fun X => Lib.hid (told14_law C X)
  have HL := Lib.hid hL
  have NL := Lib.hid hn
  clear hL hn c0
  unfold maxLen at hnm
  go_enter Try.func6, Try.ntmps6
  go_upto_region 4 with ((go_at_call 7; ((with_reducible refine C0.out.mono ?_); rintro e w0 ⟨B, rfl, h0, _⟩; have H0 := Lib.hid h0; clear h0)))
  obtain ⟨X0, hX0⟩ : ∃ X0, X0 = w0.alloc (.cells (Qu.arr 64 fun _ => .bool false) 34) := ⟨_, rfl⟩
  obtain ⟨P, hP⟩ : ∃ P, P = w0.heap.size := ⟨_, rfl⟩
  have Z0 := Lib.hid (show Box X0 P 34 (Qu.arr 64 (Qu.has (Qu.new 10 Qu.none_))) by rw [hX0, hP]; exact Box.made w0 _ _)
  have P0 := Lib.hid (show P14 LP w B (Qu.new 10 Qu.none_) (fun j => j = P) X0 by
    rw [hX0, hP]
    exact (HoldO.alloc C.ob H0.out _).less fun j hj => .inr hj)
  go_upto_region 5 with (refine wpList_alloc_z (cs := Qu.arr 64 fun _ => .bool false) rfl rfl bools_zero rfl ?_; simp only [Act.put, List.setIfInBounds_toArray, List.set_cons_succ, List.set_cons_zero])
  rw [← hX0, ← hP]
  clear hX0 hP H0 C0
  go_wp2_with fail
  go_loopw [5, 6, 7] (fun i _ _ wr => ∃ (k : Nat) (M : Qu.M), k ≤ n ∧ k ≤ 60 ∧ i = .int .i64 k ∧ M.Ok ∧ M.from_ = 10 ∧ Box wr P 34 (Qu.arr 64 (Qu.has M)) ∧ P14 LP w B M (fun j => j = P) wr) (fun i _ _ _ => n - (intOf i).toNat)
  case atStart => exact ⟨0, Qu.new 10 Qu.none_, Nat.zero_le _, Nat.zero_le _, rfl, Qu.new_ok (by decide) (by unfold Qu.none_ Gm.tyIn; decide), rfl, Z0.out, P0.out⟩
  case round =>
    obtain ⟨k, M, hk, hk60, rfl, hM, hfr, hZ, hP⟩ := hrel
    have HP := Lib.hid hP
    have HM := Lib.hid hM
    have HZ := Lib.hid hZ
    have HFR := Lib.hid hfr
    clear hP hM hZ hfr Z0 P0
    by_cases hlt : k < n ∧ k < 60
    · obtain ⟨hl1, hl2⟩ := hlt
      have hkn : (k : Int) < n := by omega
      have hk3 : (k : Int) < 60 := by omega
      obtain ⟨ad, rfl, hadl⟩ := HL.out.start (by omega)
      have nb := NL.out
      have q0 := lk_ints (HL.out.below HP.out.down) nb k (by omega)
      clear nb
      generalize l.getD k 0 = z at q0
      obtain ⟨K, hK, hK2⟩ := modN z 64 (by decide)
      have hK0 : (0 : Int) ≤ (K : Int) := by omega
      obtain ⟨f, hf⟩ : ∃ f, f = 10 + (K : Int) := ⟨_, rfl⟩
      have w1 : IntKind.i64.wrap (10 + (K : Int)) = f := by rw [IntKind.wrap_i64, hf]; omega
      obtain ⟨e1, e2, e3⟩ := Qu.put_at (m := M) (f := f) (i := Qu.i1) K (by decide) (by rw [hf, HFR.out]; omega) (by omega)
      have HU := Lib.hid (show Qu.arr 64 (Qu.upd (Qu.has M) K (.bool true)) = Qu.arr 64 (Qu.has (Qu.put M f Qu.i1)) from Qu.arr_congr fun j _ => Qu.has_put K (by decide) (by rw [hf, HFR.out]; omega) (by omega) j)
      have cp := fun X hX => P14.put (LP := LP) (w := w) (B := B) (m := M) (G := fun j => j = P) (X := X) C HM.out f Qu.i1 (by omega) Qu.i1_ty hX
      rw [show Qu.inCells Qu.i1 = #[.int .i8 0, .int .i8 0, .int .u8 1] from rfl, e1] at cp
      have CP := Lib.hid cp
      have HO2 := Lib.hid (Qu.put_ok HM.out f Qu.i1_ty)
      have HF2 := Lib.hid (show (Qu.put M f Qu.i1).from_ = 10 by rw [e2, HFR.out])
      obtain ⟨R, hR⟩ := Qu.run_is (Qu.put M f Qu.i1)
      have HR := Lib.hid hR
      have HW := Lib.hid (show ∀ j, j < R → Qu.has (Qu.put M f Qu.i1) j = .bool true from fun j hj => by unfold Qu.has; rw [hR.2.1 j hj])
      have HW2 := Lib.hid (show R < 64 → Qu.has (Qu.put M f Qu.i1) R = .bool false from fun hj => by unfold Qu.has; rw [hR.2.2 hj]; rfl)
      have hR64 := hR.1
      have ck := fun X hX => Lib.hid (P14.known (LP := LP) (w := w) (B := B) (m := Qu.put M f Qu.i1) (G := fun j => j = P) (X := X) C HO2.out R hR hX)
      clear cp e1 e2 e3 hR hf
      generalize Qu.put M f Qu.i1 = M2 at *
      rw [← w1] at CP
      clear w1
      have kh : wr.drew.cell? ⟨P, K, none⟩ = some (.bool (M.known K).isSome) := (arr_cell HZ.out.drew (show K < 64 by omega)).trans rfl
      have ZD := Lib.hid HZ.out.drew
      have PD := Lib.hid (HoldO.drew C.ob HP.out)
      have hneq : ((M.known K).isNone == (M.known K).isSome) = false := by cases M.known K <;> rfl
      have KHS := Lib.hid (show Qu.has M K = .bool (M.known K).isSome from rfl)
      generalize (M.known K).isSome = hs at *
      generalize (M.known K).isNone = hz at *
      go_upto_region 9 with fail
      go_region_held3 (fun w' => w'.cell? ⟨P, K, none⟩ = some (.bool hs)) (first | exact kh | exact k2 | go_keep) (first
        | (go_at_call 10; (with_reducible refine (CP.out _ PD.out).mono ?_); rintro e X2 ⟨rfl, h', k'⟩; have H2 := Lib.hid h'; have Z2 := Lib.hid (k'.box rfl ZD.out); clear h' k'; have k2 : X2.cell? ⟨P, K, none⟩ = some (.bool hs) := (arr_cell Z2.out (show K < 64 by omega)).trans (by rw [KHS.out])))
      all_goals (
        clear kh k2
        have k3 : X2.cell? ⟨P, K, none⟩ = some (.bool hs) := (arr_cell Z2.out (show K < 64 by omega)).trans (by rw [KHS.out])
        have f3 := Z2.out.free
        have l3 := Z2.out.lt
        have Z3 := Lib.hid (show Box (X2.setCell ⟨P, K, none⟩ (.bool true)) P 34 (Qu.arr 64 (Qu.has M2)) from by
          have := arr_store Z2.out (show K < 64 by omega) (.bool true)
          rw [HU.out] at this
          exact this)
        have H3 := Lib.hid (HoldO.put C.ob H2.out rfl K (.bool true))
        go_upto_region 12 with fail
        clear k3 f3 l3 KHS HU Z2 H2 ZD PD HZ HP CP q0 hK
        generalize X2.setCell ⟨P, K, none⟩ (.bool true) = X3 at *
        go_wp2_with fail
        go_loopw [7] (fun s wx => ∃ j : Nat, j ≤ R ∧ s = .int .i64 j ∧ X3 = wx) (fun s _ => R - (intOf s).toNat)
        case atStart => exact ⟨0, Nat.zero_le _, rfl, rfl⟩
        case round =>
          obtain ⟨j, hj, rfl, rfl⟩ := hrel
          by_cases hjl : j < R
          · have hj64 : (j : Int) < 64 := by omega
            have kj : X3.cell? ⟨P, j, none⟩ = some (.bool true) := (arr_cell Z3.out (by omega)).trans (by rw [HW.out j hjl])
            go_wp2_with fail
            go_roundw
            case rel => exact ⟨j + 1, by omega, by go_num, by first | rfl | trivial⟩
            case measure => simp [intOf]; omega
          · obtain rfl : j = R := by omega
            by_cases hj64 : j < 64
            · have hj64i : (j : Int) < 64 := by omega
              have kj : X3.cell? ⟨P, j, none⟩ = some (.bool false) := (arr_cell Z3.out hj64).trans (by rw [HW2.out hj64])
              go_wp2_with (go_at_call 17; ((with_reducible refine (ck _ H3.out).out.mono ?_); rintro e X4 ⟨rfl, h', k'⟩; have H4 := Lib.hid h'; have Z4 := Lib.hid (Z3.out.below k' Z3.out.lt); clear h' k'))
              go_roundw
              case rel => exact ⟨k + 1, M2, by omega, by omega, by go_num, HO2.out, HF2.out, Z4.out, H4.out⟩
              case measure => simp [intOf]; omega
            · have hj64i : ¬ (j : Int) < 64 := by omega
              go_wp2_with (go_at_call 17; ((with_reducible refine (ck _ H3.out).out.mono ?_); rintro e X4 ⟨rfl, h', k'⟩; have H4 := Lib.hid h'; have Z4 := Lib.hid (Z3.out.below k' Z3.out.lt); clear h' k'))
              go_roundw
              case rel => exact ⟨k + 1, M2, by omega, by omega, by go_num, HO2.out, HF2.out, Z4.out, H4.out⟩
              case measure => simp [intOf]; omega)
    · have cf := fun X hX => Lib.hid (P14.from_ (LP := LP) (w := w) (B := B) (m := M) (G := fun j => j = P) (X := X) C HM.out hX)
      rw [HFR.out] at cf
      by_cases hkn : (k : Int) < n
      · have hk3 : ¬ (k : Int) < 60 := by omega
        go_wp2_with (first
          | (go_at_call 9; ((with_reducible refine (ct _).out.mono ?_); rintro e X5 ⟨rfl, h'⟩; have H5 := Lib.hid (HoldO.below C.ob HP.out h'); clear h'))
          | (go_at_call 16; ((with_reducible refine (cf _ H5.out).out.mono ?_); rintro e X6 ⟨rfl, h', k'⟩; have H6 := Lib.hid h'; clear h' k')))
        go_ret
        exact ⟨rfl, H6.out.down⟩
      · go_wp2_with (first
          | (go_at_call 9; ((with_reducible refine (ct _).out.mono ?_); rintro e X5 ⟨rfl, h'⟩; have H5 := Lib.hid (HoldO.below C.ob HP.out h'); clear h'))
          | (go_at_call 16; ((with_reducible refine (cf _ H5.out).out.mono ?_); rintro e X6 ⟨rfl, h', k'⟩; have H6 := Lib.hid h'; clear h' k')))
        go_ret
        exact ⟨rfl, H6.out.down⟩
end Go.Proofs.Ytcohbkgimlojpaa
namespace Qu
open Go
structure Op where
  kind : Int
  frame : Int
  i : Gm.In
def Op.cells (q : Op) : List Value := [.int .i64 q.kind, .int .i64 q.frame, .int .i8 q.i.x, .int .i8 q.i.y, .int .u8 q.i.b]
def Op.ty (q : Op) : Prop := (-9223372036854775808 ≤ q.kind ∧ q.kind ≤ 9223372036854775807) ∧ (-9223372036854775808 ≤ q.frame ∧ q.frame ≤ 9223372036854775807) ∧ Gm.tyIn q.i
end Qu
namespace Go.Proofs.Ytcohbkgimlojpaa
open Go.ChangeShapes Go.WideShapes Go.ChangeAt Go.RowKit Go.Joins Go.ChangeMaps Go.Deep
set_option linter.unusedVariables false
set_option linter.unusedSimpArgs false
theorem agg_ofq {w : World} {b0 : Nat} {v : Value} {t : TypeId} {d : TypeDesc} (hu : Try.prog.underlying t = some d) (hd : d.isRow = true) (hv : Value.okWide Try.prog w .any b0 t v) : ∃ cs, v = .agg cs ∧ cs.size = Try.prog.cellsOf t := by
  cases d <;> first | (cases hd; done) | (obtain ⟨cs, h1, h2, _⟩ : ∃ cs, v = .agg cs ∧ cs.size = Try.prog.cellsOf t ∧ Row.okWide Try.prog w .any b0 t cs := (by simpa [Value.okWide, hu] using hv); exact ⟨cs, h1, h2⟩)
section
variable {H : Type} {enc : TypeId × Value → H} {w : World} {base : Nat} {spare : Nat → Bool} {held : Bool}
theorem trod_inq {fuel : Nat} {a b c : Value} {y : DataW H × List MemPlace} (h : DataW.trod enc Try.prog w base spare held fuel 24 [a, b, c] = some y) : ∃ q : Gm.In, [a, b, c] = q.cells ∧ Gm.tyIn q ∧ y.2 = [] := by
  obtain ⟨y0, y1, y2, n, hx, _, h0, h1, h2⟩ := trod_struct3 Try.underlying24 h
  obtain ⟨x0, e0, rfl, w0⟩ := DataW.trod_int Try.underlying22 h0
  obtain ⟨x1, e1, rfl, w1⟩ := DataW.trod_int Try.underlying22 h1
  obtain ⟨x2, e2, rfl, w2⟩ := DataW.trod_int Try.underlying5 h2
  have c8 : Try.prog.cellsOf 22 = 1 := by kernel_rfl
  have cu : Try.prog.cellsOf 5 = 1 := by kernel_rfl
  simp [c8, cu] at e0 e1 e2
  subst e0 e1 e2
  exact ⟨⟨x0, x1, x2⟩, rfl, ⟨Bd.i8 w0, Bd.i8 w1, Bd.u8 w2⟩, by rw [hx]; rfl⟩
set_option maxRecDepth 100000 in
theorem open_inputq {b0 : Nat} {v : Value} {d : DataW H} {p : List MemPlace} (hv : Value.okWide Try.prog w .any b0 24 v) (h : DataW.Trod enc Try.prog w base spare held 24 v d p) :
    ∃ q : Gm.In, v = .agg (Qu.inCells q) ∧ Gm.tyIn q := by
  obtain ⟨cs, rfl, hsz⟩ := agg_ofq Try.underlying24 rfl hv
  rw [show Try.prog.cellsOf 24 = 3 from by kernel_rfl] at hsz
  obtain ⟨l⟩ := cs
  obtain ⟨fuel, hf⟩ := h
  have hf' : DataW.trod enc Try.prog w base spare held fuel 24 l = some (d, p) := hf
  have hl : l.length = 3 := by simpa using hsz
  match l, hl with
  | [a, b, c], _ =>
    obtain ⟨q, h1, h2, _⟩ := trod_inq hf'
    refine ⟨q, ?_, h2⟩
    rw [h1]; rfl
set_option maxRecDepth 100000 in
theorem trod_qop {base : Nat} {spare : Nat → Bool} {held : Bool} {fuel : Nat} {l : List Value} {y : DataW H × List MemPlace} (hl : l.length = 5) (h : DataW.trod enc Try.prog w base spare held fuel 33 l = some y) : ∃ q : Qu.Op, l = q.cells ∧ q.ty := by
  obtain ⟨xs, n, _, _, _, hlen, hf⟩ := DataW.trod_struct Try.underlying33 h
  have ci : Try.prog.cellsOf 3 = 1 := by kernel_rfl
  have c3 : Try.prog.cellsOf 24 = 3 := by kernel_rfl
  match xs, hlen with
  | [y0, y1, y2], _ =>
    obtain ⟨x0, e0, _, w0⟩ := DataW.trod_int Try.underlying3 (hf 0 _ rfl)
    obtain ⟨x1, e1, _, w1⟩ := DataW.trod_int Try.underlying3 (hf 1 _ rfl)
    have h2 := hf 2 _ rfl
    match l, hl with
    | [a, b, c, d, e], _ =>
      simp [ci, c3] at e0 e1 h2
      subst e0 e1
      obtain ⟨q, hq, ht, _⟩ := trod_inq h2
      refine ⟨⟨x0, x1, q⟩, ?_, Bd.i64 w0, Bd.i64 w1, ht⟩
      show [Value.int .i64 x0, .int .i64 x1, c, d, e] = [.int .i64 x0, .int .i64 x1] ++ q.cells
      rw [← hq]
      rfl
set_option maxRecDepth 100000 in
theorem open_qops {b0 : Nat} {v : Value} {d : DataW H} {p : List MemPlace} (hv : Value.okWide Try.prog w .any b0 25 v) (h : DataW.Trod enc Try.prog w base spare held 25 v d p) :
    ∃ (A : Option Addr) (c : Nat) (l : List Qu.Op), v = .slice A l.length c ∧ (∀ q ∈ l, q.ty) ∧ l.length ≤ maxLen ∧ Lies w w.heap.size 5 A l.length (l.flatMap Qu.Op.cells) := by
  have hag : ∀ cs, v ≠ .agg cs := fun cs e => by subst e; simp [Value.okWide, Try.underlying25, Cell.okWide, Cell.ok] at hv
  exact open_slice (enc := enc) (w := w) (base := base) (spare := spare) (held := held) Qu.Op.cells 5 Qu.Op.ty ⟨0, 0, ⟨0, 0, 0⟩⟩ Try.underlying25 (by kernel_rfl) (by decide) (fun _ => rfl) (fun hl ht => trod_qop hl ht) hag h
end
theorem qop_add (a : Addr) (x j : Nat) : (a.add x).add j = a.add (x + j) := by
  unfold Addr.add
  by_cases hj : j = 0
  · subst hj; simp
  · by_cases hx : x = 0
    · subst hx; simp [hj]
    · have : ¬ x + j = 0 := by omega
      simp [hj, hx, this, Nat.add_assoc]
theorem qop_at {w : World} {B n : Nat} {ad : Addr} {l : List Qu.Op} (h : Lies w B 5 (some ad) n (l.flatMap Qu.Op.cells)) (hn : n = l.length) (f : Nat) (hf : f < l.length) (j : Nat) (hj : j < 5) : w.cell? ((ad.add (f * 5)).add j) = (l[f]).cells[j]? := by
  have h1 := flat_at (cells := Qu.Op.cells) (c := 5) (fun _ => rfl) l f j hf (by omega)
  have h2 : (l[f]).cells[j]? = some ((l[f]).cells[j]'(by show j < 5; exact hj)) := List.getElem?_eq_getElem _
  rw [h2] at h1 ⊢
  have := h.cell ad rfl (by omega) (f * 5 + j) _ h1
  rw [qop_add]
  exact this
end Go.Proofs.Ytcohbkgimlojpaa
namespace Qu
open Go Go.RowKit
theorem at_is {m : M} {f : Int} (d : Nat) (hd : f - m.from_ = d) : at_ m f = atN m d 64 := by
  unfold at_
  rw [if_neg (by omega), hd]; rfl
theorem put_last (m : M) (f : Int) (i : Gm.In) : (put m f i).last = m.last := by unfold put; split <;> rfl
end Qu
namespace Go.Proofs.Ytcohbkgimlojpaa
open Go.RowKit
set_option linter.unusedVariables false
set_option linter.unusedSimpArgs false
theorem in_same (i : Gm.In) (w : World) : (binOp .eql 24 (.agg (Qu.inCells i)) (.agg (Qu.inCells i))).run Try.prog w = .ok (.bool true) w := by
  obtain ⟨x, y, b⟩ := i
  unfold Qu.inCells
  dsimp only
  have h : (Op.equalIn 10000 24 (.agg #[.int .i8 x, .int .i8 y, .int .u8 b]) (.agg #[.int .i8 x, .int .i8 y, .int .u8 b])).run Try.prog w = .ok true w := by go_simp <;> simp
  generalize #[Value.int .i8 x, .int .i8 y, .int .u8 b] = F at *
  go_simp
theorem in_notsame (i : Gm.In) (w : World) : (binOp .neq 24 (.agg (Qu.inCells i)) (.agg (Qu.inCells i))).run Try.prog w = .ok (.bool false) w := by
  obtain ⟨x, y, b⟩ := i
  unfold Qu.inCells
  dsimp only
  have h : (Op.equalIn 10000 24 (.agg #[.int .i8 x, .int .i8 y, .int .u8 b]) (.agg #[.int .i8 x, .int .i8 y, .int .u8 b])).run Try.prog w = .ok true w := by go_simp <;> simp
  generalize #[Value.int .i8 x, .int .i8 y, .int .u8 b] = F at *
  go_simp
set_option maxRecDepth 100000 in
set_option maxHeartbeats 4000000 in
theorem repeats14_law {LP : QuP} (C : QueueC LP) (last : Gm.In) (hlast : Gm.tyIn last) (A : Option Addr) (c : Nat) (l : List Qu.Op) (num : Int) (w : World) (hty : ∀ q ∈ l, q.ty) (hnm : l.length ≤ maxLen) (hL : Lies w w.heap.size 5 A l.length (l.flatMap Qu.Op.cells)) :
    Calls Try.prog 4 #[.agg (Qu.inCells last), .slice A l.length c, .int .i64 num] w fun e w' => e = .returned (.bool true) ∧ Below w.heap.size w w' := by
  obtain ⟨X1, hX1⟩ : ∃ X1, X1 = w.alloc (.cells (Qu.inCells last) 24) := ⟨_, rfl⟩
  obtain ⟨P0, hP0⟩ : ∃ P0, P0 = w.heap.size := ⟨_, rfl⟩
  have BL := Lib.hid (show Box X1 P0 24 (Qu.inCells last) by rw [hX1, hP0]; exact Box.made w _ _)
  have KX := Lib.hid (show Below w.heap.size w X1 by rw [hX1]; exact one_below w _)
  have KG := Lib.hid (show ∀ j, j = P0 → w.heap.size ≤ j ∧ j < X1.heap.size by intro j hj; rw [hj, hX1, hP0]; simp)
  have c0 := Lib.hid (P14.new C (LP := LP) (X := X1) (w := w) (G := fun j => j = P0) 100 last (by decide) hlast KX.out KG.out)
  have ct := fun X => Lib.hid (told14_law C X)
  have HL := Lib.hid hL
  have HTY := Lib.hid hty
  clear hL hty
  unfold maxLen at hnm
  obtain ⟨n, hn⟩ : ∃ n, n = l.length := ⟨_, rfl⟩
  have NL := Lib.hid hn
  rw [← hn] at hnm ⊢
  have hL2 := HL.out
  rw [← hn] at hL2
  have HL2 := Lib.hid hL2
  clear hL2 hn HL
  obtain ⟨N, hN, hN2⟩ := modN num 90 (by decide)
  have HNN := Lib.hid hN
  clear hN
  have k00 : X1.cell? ⟨P0, 0, none⟩ = some (.int .i8 last.x) := BL.out.cell 0
  have k01 : X1.cell? ⟨P0, 1, none⟩ = some (.int .i8 last.y) := BL.out.cell 1
  have k02 : X1.cell? ⟨P0, 2, none⟩ = some (.int .u8 last.b) := BL.out.cell 2
  unfold Qu.inCells at c0 ⊢
  go_enter Try.func4, Try.ntmps4
  go_upto_region 1 with fail
  rw [show w.alloc (.cells #[.int .i8 last.x, .int .i8 last.y, .int .u8 last.b] 24) = X1 from hX1.symm, ← hP0]
  clear hX1 hP0
  go_upto_region 4 with (go_at_call 7; ((with_reducible refine c0.out.mono ?_); rintro e w0 ⟨B, rfl, h0, k'⟩; have H0 := Lib.hid h0; have B0 := Lib.hid (BL.out.below k' BL.out.lt); clear h0 k'))
  clear k00 k01 k02 c0 BL KX KG
  by_cases h40 : (40 : Int) < n
  · go_wp2_with (go_at_call 9; ((with_reducible refine (ct _).out.mono ?_); rintro e w3 ⟨rfl, h3⟩; have H3 := Lib.hid (HoldO.below C.ob H0.out h3); clear h3))
    go_ret
    exact ⟨rfl, H3.out.down⟩
  · go_wp2_with fail
    go_loopw [8, 9, 10, 11, 12, 13, 14] (fun i _ _ _ _ _ _ wr => ∃ (k : Nat) (M : Qu.M), k ≤ n ∧ i = .int .i64 k ∧ M.Ok ∧ M.from_ = 100 ∧ M.last = last ∧ Box wr P0 24 (Qu.inCells last) ∧ P14 LP w B M (fun j => j = P0) wr) (fun i _ _ _ _ _ _ _ => n - (intOf i).toNat)
    case atStart => exact ⟨0, Qu.new 100 last, Nat.zero_le _, rfl, Qu.new_ok (by decide) hlast, rfl, rfl, B0.out, H0.out⟩
    case round =>
      obtain ⟨k, M, hk, rfl, hM, hfr, hla, hB, hP⟩ := hrel
      have HP := Lib.hid hP
      have HM := Lib.hid hM
      have HB := Lib.hid hB
      have HFR := Lib.hid hfr
      have HLA := Lib.hid hla
      clear hP hM hB hfr hla H0 B0
      by_cases hlt : k < n
      · have hkn : (k : Int) < n := by omega
        obtain ⟨ad, rfl, hadl⟩ := HL2.out.start (by omega)
        have nb := NL.out
        obtain ⟨q, hqe⟩ : ∃ q, q = l[k]'(by omega) := ⟨_, rfl⟩
        have q0 := Lib.hid (show ∀ W, Below w.heap.size w W → ∀ j, j < 5 → W.cell? ((ad.add (k * 5)).add j) = q.cells[j]? from fun W hW j hj => by rw [hqe]; exact qop_at (HL2.out.below hW) nb k (by omega) j hj)
        have hq : q.ty := by rw [hqe]; exact HTY.out _ (List.getElem_mem _)
        clear hqe nb
        obtain ⟨qk, qf, qi⟩ := q
        obtain ⟨t1, t2, t3⟩ := hq
        dsimp only at t1 t2 t3
        have o1 : wr.cell? ⟨(ad.add (k * 5)).block, (ad.add (k * 5)).off + 1, none⟩ = some (.int .i64 qf) := q0.out wr HP.out.down 1 (by decide)
        obtain ⟨K, hK, hK2⟩ := modN qf 64 (by decide)
        have HKK := Lib.hid hK
        clear hK
        have hK0 : (0 : Int) ≤ (K : Int) := by omega
        obtain ⟨f, hf⟩ : ∃ f, f = 100 + (K : Int) := ⟨_, rfl⟩
        have W1 := Lib.hid (show IntKind.i64.wrap (100 + (K : Int)) = f by rw [IntKind.wrap_i64, hf]; omega)
        have W2 := Lib.hid (show wrap64 (100 + (K : Int)) = f by rw [hf]; exact IntWalk.wrap64_in _ (by omega))
        have hfd : f - M.from_ = (K : Int) := by rw [hf, HFR.out]; omega
        have c1 := fun X hX => P14.at_ (LP := LP) (w := w) (B := B) (m := M) (G := fun j => j = P0) (X := X) C HM.out f (by omega) hX
        rw [Qu.at_is K hfd] at c1
        have hflag := Qu.atN_flag (m := M) (d := K) (n := 64) (by omega)
        have c2 := fun G X hX => P14.put (LP := LP) (w := w) (B := B) (m := M) (G := G) (X := X) C HM.out f qi (by omega) t3 hX
        have HO2 := Lib.hid (Qu.put_ok HM.out f t3)
        have c3 := fun G X hX => P14.at_ (LP := LP) (w := w) (B := B) (m := Qu.put M f qi) (G := G) (X := X) C HO2.out f (by omega) hX
        have hL2' := Qu.put_last M f qi
        have hF2' : (Qu.put M f qi).from_ = M.from_ := by unfold Qu.put; split <;> rfl
        rw [Qu.at_is K (by rw [hF2']; exact hfd)] at c3
        have HL3 := Lib.hid (hL2'.trans HLA.out)
        have HF3 := Lib.hid (hF2'.trans HFR.out)
        have hok : (Qu.putOk M f qi = true ∧ (Qu.atN M K 64).2 = false ∧ Qu.atN (Qu.put M f qi) K 64 = (qi, true)) ∨ (Qu.putOk M f qi = false ∧ Qu.put M f qi = M) := by
          cases hp : Qu.putOk M f qi
          · refine .inr ⟨rfl, ?_⟩
            unfold Qu.put
            rw [if_neg (by rw [hp]; decide)]
          · refine .inl ⟨rfl, ?_, ?_⟩
            · rw [hflag]
              unfold Qu.putOk at hp
              rw [Bool.and_eq_true] at hp
              have := hp.2
              rw [show (f - M.from_).toNat = K by omega] at this
              cases h : M.known K with
              | none => rfl
              | some v => rw [h] at this; cases this
            · refine Qu.atN_known (v := qi) ?_ (by omega)
              unfold Qu.put
              rw [if_pos hp]
              show Qu.upd M.known (f - M.from_).toNat (some qi) K = some qi
              rw [show (f - M.from_).toNat = K by omega, Qu.upd_same]
        clear hf hfd hflag hL2' hF2'
        have hK := HKK.out
        have w1 := W1.out
        have w2 := W2.out
        clear HKK W1 W2
        have C1 := Lib.hid c1
        have C2 := Lib.hid c2
        have C3 := Lib.hid c3
        clear c1 c2 c3
        have ns := fun i W => in_notsame i W
        unfold Qu.inCells at ns
        rcases hok with ⟨g1, g2, g3⟩ | ⟨g1, g2⟩
        · rw [g1] at C2
          rw [g2] at C1
          rw [g3] at C3
          clear g1 g2 g3
          generalize Qu.put M f qi = M2 at *
          generalize (Qu.atN M K 64).1 = v1 at *
          have ns2 := ns qi
          clear ns
          unfold Qu.inCells at C1 C2 C3
          try dsimp only at C1 C3
          go_upto_region 11 with (go_at_call 14; ((with_reducible refine (C1.out _ HP.out).mono ?_); rintro e X2 ⟨rfl, h', k'⟩; have H2 := Lib.hid (HoldO.alloc C.ob h' (.cells (Qu.inCells v1) 24)); have B02 := Lib.hid ((HB.out.below k' HB.out.lt).alloc (.cells (Qu.inCells v1) 24)); have B12 := Lib.hid (Box.made X2 24 (Qu.inCells v1)); clear h' k'))
          rw [show X2.alloc (.cells #[.int .i8 v1.x, .int .i8 v1.y, .int .u8 v1.b] 24) = X2.alloc (.cells (Qu.inCells v1) 24) from rfl]
          generalize X2.heap.size = P1 at *
          generalize X2.alloc (.cells (Qu.inCells v1) 24) = X3 at *
          have z2 : X3.cell? ⟨(ad.add (k * 5)).block, (ad.add (k * 5)).off + 2, none⟩ = some (.int .i8 qi.x) := q0.out X3 H2.out.down 2 (by decide)
          have z3 : X3.cell? ⟨(ad.add (k * 5)).block, (ad.add (k * 5)).off + 2 + 1, none⟩ = some (.int .i8 qi.y) := q0.out X3 H2.out.down 3 (by decide)
          have z4 : X3.cell? ⟨(ad.add (k * 5)).block, (ad.add (k * 5)).off + 2 + 2, none⟩ = some (.int .u8 qi.b) := q0.out X3 H2.out.down 4 (by decide)
          clear o1
          go_upto_region 12 with (go_at_call 10; ((with_reducible refine (C2.out _ _ H2.out).mono ?_); rintro e X4 ⟨rfl, h', k'⟩; have H4 := Lib.hid h'; have B04 := Lib.hid (k'.box (.inl rfl) B02.out); have B14 := Lib.hid (k'.box (.inr rfl) B12.out); clear h' k'))
          clear z2 z3 z4 H2 B02 B12
          go_upto_region 13 with (go_at_call 14; ((with_reducible refine (C3.out _ _ H4.out).mono ?_); rintro e X5 ⟨rfl, h', k'⟩; have H5 := Lib.hid (HoldO.alloc C.ob h' (.cells (Qu.inCells qi) 24)); have B05 := Lib.hid ((B04.out.below k' B04.out.lt).alloc (.cells (Qu.inCells qi) 24)); have B15 := Lib.hid ((B14.out.below k' B14.out.lt).alloc (.cells (Qu.inCells qi) 24)); have B25 := Lib.hid (Box.made X5 24 (Qu.inCells qi)); clear h' k'))
          rw [show X5.alloc (.cells #[.int .i8 qi.x, .int .i8 qi.y, .int .u8 qi.b] 24) = X5.alloc (.cells (Qu.inCells qi) 24) from rfl]
          clear H4 B04 B14
          generalize X5.heap.size = P2 at *
          generalize X5.alloc (.cells (Qu.inCells qi) 24) = X6 at *
          have a0 : X6.cell? ⟨P1, 0, none⟩ = some (.int .i8 v1.x) := B15.out.cell 0
          have a1 : X6.cell? ⟨P1, 1, none⟩ = some (.int .i8 v1.y) := B15.out.cell 1
          have a2 : X6.cell? ⟨P1, 2, none⟩ = some (.int .u8 v1.b) := B15.out.cell 2
          have b0 : X6.cell? ⟨P2, 0, none⟩ = some (.int .i8 qi.x) := B25.out.cell 0
          have b1 : X6.cell? ⟨P2, 1, none⟩ = some (.int .i8 qi.y) := B25.out.cell 1
          have b2 : X6.cell? ⟨P2, 2, none⟩ = some (.int .u8 qi.b) := B25.out.cell 2
          have z2 : X6.cell? ⟨(ad.add (k * 5)).block, (ad.add (k * 5)).off + 2, none⟩ = some (.int .i8 qi.x) := q0.out X6 H5.out.down 2 (by decide)
          have z3 : X6.cell? ⟨(ad.add (k * 5)).block, (ad.add (k * 5)).off + 2 + 1, none⟩ = some (.int .i8 qi.y) := q0.out X6 H5.out.down 3 (by decide)
          have z4 : X6.cell? ⟨(ad.add (k * 5)).block, (ad.add (k * 5)).off + 2 + 2, none⟩ = some (.int .u8 qi.b) := q0.out X6 H5.out.down 4 (by decide)
          go_quiet (fail)
          go_wp2_with fail
          go_roundw
          case rel => exact ⟨k + 1, M2, by omega, by go_num, HO2.out, HF3.out, HL3.out, B05.out.below (draws_below (Below.refl _ _) _) B05.out.lt, (HoldO.below C.ob H5.out (draws_below (Below.refl _ _) _)).less fun j hj => .inl (.inl hj)⟩
          case measure => simp [intOf]; omega
        · rw [g1] at C2
          rw [g2] at C2 C3 HO2 HL3 HF3
          clear g1 g2
          generalize Qu.atN M K 64 = v at *
          obtain ⟨v1, fl⟩ := v
          have ns2 := ns v1
          clear ns
          dsimp only at C1 C3
          unfold Qu.inCells at C1 C2 C3
          try dsimp only at C1 C3
          go_upto_region 11 with (go_at_call 14; ((with_reducible refine (C1.out _ HP.out).mono ?_); rintro e X2 ⟨rfl, h', k'⟩; have H2 := Lib.hid (HoldO.alloc C.ob h' (.cells (Qu.inCells v1) 24)); have B02 := Lib.hid ((HB.out.below k' HB.out.lt).alloc (.cells (Qu.inCells v1) 24)); have B12 := Lib.hid (Box.made X2 24 (Qu.inCells v1)); clear h' k'))
          rw [show X2.alloc (.cells #[.int .i8 v1.x, .int .i8 v1.y, .int .u8 v1.b] 24) = X2.alloc (.cells (Qu.inCells v1) 24) from rfl]
          generalize X2.heap.size = P1 at *
          generalize X2.alloc (.cells (Qu.inCells v1) 24) = X3 at *
          have z2 : X3.cell? ⟨(ad.add (k * 5)).block, (ad.add (k * 5)).off + 2, none⟩ = some (.int .i8 qi.x) := q0.out X3 H2.out.down 2 (by decide)
          have z3 : X3.cell? ⟨(ad.add (k * 5)).block, (ad.add (k * 5)).off + 2 + 1, none⟩ = some (.int .i8 qi.y) := q0.out X3 H2.out.down 3 (by decide)
          have z4 : X3.cell? ⟨(ad.add (k * 5)).block, (ad.add (k * 5)).off + 2 + 2, none⟩ = some (.int .u8 qi.b) := q0.out X3 H2.out.down 4 (by decide)
          clear o1
          go_upto_region 12 with (go_at_call 10; ((with_reducible refine (C2.out _ _ H2.out).mono ?_); rintro e X4 ⟨rfl, h', k'⟩; have H4 := Lib.hid h'; have B04 := Lib.hid (k'.box (.inl rfl) B02.out); have B14 := Lib.hid (k'.box (.inr rfl) B12.out); clear h' k'))
          clear z2 z3 z4 H2 B02 B12
          go_upto_region 13 with (go_at_call 14; ((with_reducible refine (C3.out _ _ H4.out).mono ?_); rintro e X5 ⟨rfl, h', k'⟩; have H5 := Lib.hid (HoldO.alloc C.ob h' (.cells (Qu.inCells v1) 24)); have B05 := Lib.hid ((B04.out.below k' B04.out.lt).alloc (.cells (Qu.inCells v1) 24)); have B15 := Lib.hid ((B14.out.below k' B14.out.lt).alloc (.cells (Qu.inCells v1) 24)); have B25 := Lib.hid (Box.made X5 24 (Qu.inCells v1)); clear h' k'))
          rw [show X5.alloc (.cells #[.int .i8 v1.x, .int .i8 v1.y, .int .u8 v1.b] 24) = X5.alloc (.cells (Qu.inCells v1) 24) from rfl]
          clear H4 B04 B14
          generalize X5.heap.size = P2 at *
          generalize X5.alloc (.cells (Qu.inCells v1) 24) = X6 at *
          have a0 : X6.cell? ⟨P1, 0, none⟩ = some (.int .i8 v1.x) := B15.out.cell 0
          have a1 : X6.cell? ⟨P1, 1, none⟩ = some (.int .i8 v1.y) := B15.out.cell 1
          have a2 : X6.cell? ⟨P1, 2, none⟩ = some (.int .u8 v1.b) := B15.out.cell 2
          have b0 : X6.cell? ⟨P2, 0, none⟩ = some (.int .i8 v1.x) := B25.out.cell 0
          have b1 : X6.cell? ⟨P2, 1, none⟩ = some (.int .i8 v1.y) := B25.out.cell 1
          have b2 : X6.cell? ⟨P2, 2, none⟩ = some (.int .u8 v1.b) := B25.out.cell 2
          have z2 : X6.cell? ⟨(ad.add (k * 5)).block, (ad.add (k * 5)).off + 2, none⟩ = some (.int .i8 qi.x) := q0.out X6 H5.out.down 2 (by decide)
          have z3 : X6.cell? ⟨(ad.add (k * 5)).block, (ad.add (k * 5)).off + 2 + 1, none⟩ = some (.int .i8 qi.y) := q0.out X6 H5.out.down 3 (by decide)
          have z4 : X6.cell? ⟨(ad.add (k * 5)).block, (ad.add (k * 5)).off + 2 + 2, none⟩ = some (.int .u8 qi.b) := q0.out X6 H5.out.down 4 (by decide)
          have hfl : (fl != fl) = false := by cases fl <;> rfl
          go_quiet (fail)
          go_wp2_with fail
          go_roundw
          case rel => exact ⟨k + 1, M, by omega, by go_num, HO2.out, HF3.out, HL3.out, B05.out.below (draws_below (Below.refl _ _) _) B05.out.lt, (HoldO.below C.ob H5.out (draws_below (Below.refl _ _) _)).less fun j hj => .inl (.inl hj)⟩
          case measure => simp [intOf]; omega
      · obtain rfl : k = n := by omega
        have hkn : ¬ (k : Int) < k := by omega
        obtain ⟨f, hf⟩ : ∃ f, f = 101 + (N : Int) := ⟨_, rfl⟩
        have W1 := Lib.hid (show IntKind.i64.wrap (101 + (N : Int)) = f by rw [IntKind.wrap_i64, hf]; omega)
        have W2 := Lib.hid (show wrap64 (101 + (N : Int)) = f by rw [hf]; exact IntWalk.wrap64_in _ (by omega))
        obtain ⟨f', hf'⟩ : ∃ f', f' = f - 1 := ⟨_, rfl⟩
        have W3 := Lib.hid (show IntKind.i64.wrap (f - 1) = f' by rw [IntKind.wrap_i64, hf', hf]; omega)
        have W4 := Lib.hid (show wrap64 (f - 1) = f' by rw [hf', hf]; exact IntWalk.wrap64_in _ (by omega))
        have c1 := fun X hX => P14.at_ (LP := LP) (w := w) (B := B) (m := M) (G := fun j => j = P0) (X := X) C HM.out f (by omega) hX
        have c2 := fun G X hX => P14.at_ (LP := LP) (w := w) (B := B) (m := M) (G := G) (X := X) C HM.out f' (by omega) hX
        have c3 := fun G X hX => P14.at_ (LP := LP) (w := w) (B := B) (m := M) (G := G) (X := X) C HM.out 100 (by decide) hX
        rw [Qu.at_is (N + 1) (by rw [hf, HFR.out]; omega)] at c1
        rw [Qu.at_is N (by rw [hf', hf, HFR.out]; omega)] at c2
        rw [Qu.at_is 0 (by rw [HFR.out]; rfl)] at c3
        have hx : (Qu.atN M (N + 1) 64).2 = true ∨ ((Qu.atN M (N + 1) 64).2 = false ∧ (Qu.atN M (N + 1) 64).1 = (Qu.atN M N 64).1) := by
          cases hk1 : M.known (N + 1) with
          | some v =>
            have := (HM.out.known _ _ hk1).1
            exact .inl (by rw [Qu.atN_known hk1 this])
          | none =>
            have := Qu.atN_before (n := 64) hk1
            exact .inr ⟨this.2 (by omega), this.1⟩
        have hz : (Qu.atN M 0 64).2 = true ∨ ((Qu.atN M 0 64).2 = false ∧ (Qu.atN M 0 64).1 = last) := by
          cases hk1 : M.known 0 with
          | some v => exact .inl (by rw [Qu.atN_known hk1 (by decide)])
          | none =>
            refine .inr ?_
            rw [Qu.atN_far (n := 64) (d := 0) (by decide), Qu.atN_succ_none hk1]
            exact ⟨rfl, HLA.out⟩
        clear hf hf'
        generalize Qu.atN M (N + 1) 64 = vx at *
        generalize Qu.atN M N 64 = vy at *
        generalize Qu.atN M 0 64 = vz at *
        obtain ⟨x1, x2⟩ := vx
        obtain ⟨y1, y2⟩ := vy
        obtain ⟨z1, z2⟩ := vz
        dsimp only at c1 c2 c3 hx hz
        have C1 := Lib.hid c1
        have C2 := Lib.hid c2
        have C3 := Lib.hid c3
        clear c1 c2 c3
        have hK := HNN.out
        have w1 := W1.out
        have w2 := W2.out
        have w3 := W3.out
        have w4 := W4.out
        clear HNN W1 W2 W3 W4
        unfold Qu.inCells at C1 C2 C3
        go_upto_region 17 with (go_at_call 14; ((with_reducible refine (C1.out _ HP.out).mono ?_); rintro e X2 ⟨rfl, h', k'⟩; have H2 := Lib.hid (HoldO.alloc C.ob h' (.cells (Qu.inCells x1) 24)); have B02 := Lib.hid ((HB.out.below k' HB.out.lt).alloc (.cells (Qu.inCells x1) 24)); have B12 := Lib.hid (Box.made X2 24 (Qu.inCells x1)); clear h' k'))
        rw [show X2.alloc (.cells #[.int .i8 x1.x, .int .i8 x1.y, .int .u8 x1.b] 24) = X2.alloc (.cells (Qu.inCells x1) 24) from rfl]
        generalize X2.heap.size = P1 at *
        generalize X2.alloc (.cells (Qu.inCells x1) 24) = X3 at *
        go_upto_region 18 with (go_at_call 14; ((with_reducible refine (C2.out _ _ H2.out).mono ?_); rintro e X4 ⟨rfl, h', k'⟩; have H4 := Lib.hid (HoldO.alloc C.ob h' (.cells (Qu.inCells y1) 24)); have B04 := Lib.hid ((B02.out.below k' B02.out.lt).alloc (.cells (Qu.inCells y1) 24)); have B14 := Lib.hid ((B12.out.below k' B12.out.lt).alloc (.cells (Qu.inCells y1) 24)); have B24 := Lib.hid (Box.made X4 24 (Qu.inCells y1)); clear h' k'))
        rw [show X4.alloc (.cells #[.int .i8 y1.x, .int .i8 y1.y, .int .u8 y1.b] 24) = X4.alloc (.cells (Qu.inCells y1) 24) from rfl]
        clear H2 B02 B12
        generalize X4.heap.size = P2 at *
        generalize X4.alloc (.cells (Qu.inCells y1) 24) = X5 at *
        go_upto_region 19 with (go_at_call 14; ((with_reducible refine (C3.out _ _ H4.out).mono ?_); rintro e X6 ⟨rfl, h', k'⟩; have H6 := Lib.hid (HoldO.alloc C.ob h' (.cells (Qu.inCells z1) 24)); have B06 := Lib.hid ((B04.out.below k' B04.out.lt).alloc (.cells (Qu.inCells z1) 24)); have B16 := Lib.hid ((B14.out.below k' B14.out.lt).alloc (.cells (Qu.inCells z1) 24)); have B26 := Lib.hid ((B24.out.below k' B24.out.lt).alloc (.cells (Qu.inCells z1) 24)); have B36 := Lib.hid (Box.made X6 24 (Qu.inCells z1)); clear h' k'))
        rw [show X6.alloc (.cells #[.int .i8 z1.x, .int .i8 z1.y, .int .u8 z1.b] 24) = X6.alloc (.cells (Qu.inCells z1) 24) from rfl]
        clear H4 B04 B14 B24
        generalize X6.heap.size = P3 at *
        generalize X6.alloc (.cells (Qu.inCells z1) 24) = X7 at *
        have es := fun i W => in_same i W
        unfold Qu.inCells at es
        have es1 := es y1
        have es2 := es last
        clear es C1 C2 C3 w1 w2 w3 w4 hK
        rcases hx with rfl | ⟨rfl, rfl⟩
        · rcases hz with rfl | ⟨rfl, rfl⟩
          · go_wp2_with (go_at_call 9; ((with_reducible refine (ct _).out.mono ?_); rintro e X8 ⟨rfl, h'⟩; have H8 := Lib.hid (HoldO.below C.ob H6.out h'); have B08 := Lib.hid (B06.out.below h' B06.out.lt); have B18 := Lib.hid (B16.out.below h' B16.out.lt); have B28 := Lib.hid (B26.out.below h' B26.out.lt); have B38 := Lib.hid (B36.out.below h' B36.out.lt); clear h'; have a0 : X8.cell? ⟨P1, 0, none⟩ = some (.int .i8 x1.x) := B18.out.cell 0; have a1 : X8.cell? ⟨P1, 1, none⟩ = some (.int .i8 x1.y) := B18.out.cell 1; have a2 : X8.cell? ⟨P1, 2, none⟩ = some (.int .u8 x1.b) := B18.out.cell 2; have b0 : X8.cell? ⟨P2, 0, none⟩ = some (.int .i8 y1.x) := B28.out.cell 0; have b1 : X8.cell? ⟨P2, 1, none⟩ = some (.int .i8 y1.y) := B28.out.cell 1; have b2 : X8.cell? ⟨P2, 2, none⟩ = some (.int .u8 y1.b) := B28.out.cell 2; have c0 : X8.cell? ⟨P3, 0, none⟩ = some (.int .i8 z1.x) := B38.out.cell 0; have c1 : X8.cell? ⟨P3, 1, none⟩ = some (.int .i8 z1.y) := B38.out.cell 1; have c2 : X8.cell? ⟨P3, 2, none⟩ = some (.int .u8 z1.b) := B38.out.cell 2; have d0 : X8.cell? ⟨P0, 0, none⟩ = some (.int .i8 last.x) := B08.out.cell 0; have d1 : X8.cell? ⟨P0, 1, none⟩ = some (.int .i8 last.y) := B08.out.cell 1; have d2 : X8.cell? ⟨P0, 2, none⟩ = some (.int .u8 last.b) := B08.out.cell 2))
            go_ret
            exact ⟨rfl, H8.out.down⟩
          · go_wp2_with (go_at_call 9; ((with_reducible refine (ct _).out.mono ?_); rintro e X8 ⟨rfl, h'⟩; have H8 := Lib.hid (HoldO.below C.ob H6.out h'); have B08 := Lib.hid (B06.out.below h' B06.out.lt); have B18 := Lib.hid (B16.out.below h' B16.out.lt); have B28 := Lib.hid (B26.out.below h' B26.out.lt); have B38 := Lib.hid (B36.out.below h' B36.out.lt); clear h'; have a0 : X8.cell? ⟨P1, 0, none⟩ = some (.int .i8 x1.x) := B18.out.cell 0; have a1 : X8.cell? ⟨P1, 1, none⟩ = some (.int .i8 x1.y) := B18.out.cell 1; have a2 : X8.cell? ⟨P1, 2, none⟩ = some (.int .u8 x1.b) := B18.out.cell 2; have b0 : X8.cell? ⟨P2, 0, none⟩ = some (.int .i8 y1.x) := B28.out.cell 0; have b1 : X8.cell? ⟨P2, 1, none⟩ = some (.int .i8 y1.y) := B28.out.cell 1; have b2 : X8.cell? ⟨P2, 2, none⟩ = some (.int .u8 y1.b) := B28.out.cell 2; have c0 : X8.cell? ⟨P3, 0, none⟩ = some (.int .i8 z1.x) := B38.out.cell 0; have c1 : X8.cell? ⟨P3, 1, none⟩ = some (.int .i8 z1.y) := B38.out.cell 1; have c2 : X8.cell? ⟨P3, 2, none⟩ = some (.int .u8 z1.b) := B38.out.cell 2; have d0 : X8.cell? ⟨P0, 0, none⟩ = some (.int .i8 z1.x) := B08.out.cell 0; have d1 : X8.cell? ⟨P0, 1, none⟩ = some (.int .i8 z1.y) := B08.out.cell 1; have d2 : X8.cell? ⟨P0, 2, none⟩ = some (.int .u8 z1.b) := B08.out.cell 2))
            go_ret
            exact ⟨rfl, H8.out.down⟩
        · rcases hz with rfl | ⟨rfl, rfl⟩
          · go_wp2_with (go_at_call 9; ((with_reducible refine (ct _).out.mono ?_); rintro e X8 ⟨rfl, h'⟩; have H8 := Lib.hid (HoldO.below C.ob H6.out h'); have B08 := Lib.hid (B06.out.below h' B06.out.lt); have B18 := Lib.hid (B16.out.below h' B16.out.lt); have B28 := Lib.hid (B26.out.below h' B26.out.lt); have B38 := Lib.hid (B36.out.below h' B36.out.lt); clear h'; have a0 : X8.cell? ⟨P1, 0, none⟩ = some (.int .i8 x1.x) := B18.out.cell 0; have a1 : X8.cell? ⟨P1, 1, none⟩ = some (.int .i8 x1.y) := B18.out.cell 1; have a2 : X8.cell? ⟨P1, 2, none⟩ = some (.int .u8 x1.b) := B18.out.cell 2; have b0 : X8.cell? ⟨P2, 0, none⟩ = some (.int .i8 x1.x) := B28.out.cell 0; have b1 : X8.cell? ⟨P2, 1, none⟩ = some (.int .i8 x1.y) := B28.out.cell 1; have b2 : X8.cell? ⟨P2, 2, none⟩ = some (.int .u8 x1.b) := B28.out.cell 2; have c0 : X8.cell? ⟨P3, 0, none⟩ = some (.int .i8 z1.x) := B38.out.cell 0; have c1 : X8.cell? ⟨P3, 1, none⟩ = some (.int .i8 z1.y) := B38.out.cell 1; have c2 : X8.cell? ⟨P3, 2, none⟩ = some (.int .u8 z1.b) := B38.out.cell 2; have d0 : X8.cell? ⟨P0, 0, none⟩ = some (.int .i8 last.x) := B08.out.cell 0; have d1 : X8.cell? ⟨P0, 1, none⟩ = some (.int .i8 last.y) := B08.out.cell 1; have d2 : X8.cell? ⟨P0, 2, none⟩ = some (.int .u8 last.b) := B08.out.cell 2))
            go_ret
            exact ⟨rfl, H8.out.down⟩
          · go_wp2_with (go_at_call 9; ((with_reducible refine (ct _).out.mono ?_); rintro e X8 ⟨rfl, h'⟩; have H8 := Lib.hid (HoldO.below C.ob H6.out h'); have B08 := Lib.hid (B06.out.below h' B06.out.lt); have B18 := Lib.hid (B16.out.below h' B16.out.lt); have B28 := Lib.hid (B26.out.below h' B26.out.lt); have B38 := Lib.hid (B36.out.below h' B36.out.lt); clear h'; have a0 : X8.cell? ⟨P1, 0, none⟩ = some (.int .i8 x1.x) := B18.out.cell 0; have a1 : X8.cell? ⟨P1, 1, none⟩ = some (.int .i8 x1.y) := B18.out.cell 1; have a2 : X8.cell? ⟨P1, 2, none⟩ = some (.int .u8 x1.b) := B18.out.cell 2; have b0 : X8.cell? ⟨P2, 0, none⟩ = some (.int .i8 x1.x) := B28.out.cell 0; have b1 : X8.cell? ⟨P2, 1, none⟩ = some (.int .i8 x1.y) := B28.out.cell 1; have b2 : X8.cell? ⟨P2, 2, none⟩ = some (.int .u8 x1.b) := B28.out.cell 2; have c0 : X8.cell? ⟨P3, 0, none⟩ = some (.int .i8 z1.x) := B38.out.cell 0; have c1 : X8.cell? ⟨P3, 1, none⟩ = some (.int .i8 z1.y) := B38.out.cell 1; have c2 : X8.cell? ⟨P3, 2, none⟩ = some (.int .u8 z1.b) := B38.out.cell 2; have d0 : X8.cell? ⟨P0, 0, none⟩ = some (.int .i8 z1.x) := B08.out.cell 0; have d1 : X8.cell? ⟨P0, 1, none⟩ = some (.int .i8 z1.y) := B08.out.cell 1; have d2 : X8.cell? ⟨P0, 2, none⟩ = some (.int .u8 z1.b) := B08.out.cell 2))
            go_ret
            exact ⟨rfl, H8.out.down⟩
end Go.Proofs.Ytcohbkgimlojpaa
namespace Qu
open Go Go.RowKit
/-- So many frames are done. -/
def dn (m : M) (i : Gm.In) : Nat → M
  | 0 => m
  | k + 1 => done (dn m i k) i
theorem dn_from (m : M) (i : Gm.In) : ∀ k : Nat, (dn m i k).from_ = m.from_ + k
  | 0 => by show m.from_ = _; omega
  | k + 1 => by
    show (dn m i k).from_ + 1 = _
    rw [dn_from m i k]; push_cast; omega
theorem dn_last (m : M) (i : Gm.In) (k : Nat) (hk : 0 < k) : (dn m i k).last = i := by
  cases k with
  | zero => omega
  | succ k => rfl
theorem dn_known {m : M} (hm : m.Ok) (i : Gm.In) : ∀ k j : Nat, (dn m i k).known j = if j + k < 64 then m.known (j + k) else none
  | 0, j => by
    show m.known j = _
    split
    · rfl
    · cases h : m.known j with
      | none => rfl
      | some v => have := (hm.known j v h).1; omega
  | k + 1, j => by
    show (if j < 63 then (dn m i k).known (j + 1) else none) = _
    by_cases hj : j < 63
    · rw [if_pos hj, dn_known hm i k (j + 1), show j + 1 + k = j + (k + 1) by omega]
    · rw [if_neg hj, if_neg (by omega)]
theorem dn_ok {m : M} (hm : m.Ok) {i : Gm.In} (hi : Gm.tyIn i) (h0 : m.from_ = 0) : ∀ k : Nat, k ≤ 1000 → (dn m i k).Ok
  | 0, _ => hm
  | k + 1, hk => done_ok (dn_ok hm hi h0 k (by omega)) (by rw [dn_from, h0]; omega) hi
/-- What was, cell by cell, of the first so many. -/
def wf (m : M) (i : Nat) : Nat → Value := fun x => inAt (if x / 3 < i then (atN m (x / 3) 64).1 else none_) (x % 3)
def hf (m : M) (i : Nat) : Nat → Value := fun j => if j < i then .bool (m.known j).isSome else .bool false
theorem hf_next (m : M) (i : Nat) (j : Nat) : upd (hf m i) i (.bool (m.known i).isSome) j = hf m (i + 1) j := by
  unfold hf
  by_cases h : j = i
  · rw [h, upd_same, if_pos (Nat.lt_succ_self i)]
  · rw [upd_other _ _ h]
    by_cases h1 : j < i
    · rw [if_pos h1, if_pos (by omega)]
    · rw [if_neg h1, if_neg (by omega)]
theorem wf_next (m : M) (i : Nat) (x : Nat) : upd (upd (upd (wf m i) (i * 3) (.int .i8 (atN m i 64).1.x)) (i * 3 + 1) (.int .i8 (atN m i 64).1.y)) (i * 3 + 2) (.int .u8 (atN m i 64).1.b) x = wf m (i + 1) x := by
  by_cases h2 : x = i * 3 + 2
  · rw [h2, upd_same]
    unfold wf
    rw [show (i * 3 + 2) / 3 = i by omega, show (i * 3 + 2) % 3 = 2 by omega, if_pos (Nat.lt_succ_self i)]; rfl
  · rw [upd_other _ _ h2]
    by_cases h1 : x = i * 3 + 1
    · rw [h1, upd_same]
      unfold wf
      rw [show (i * 3 + 1) / 3 = i by omega, show (i * 3 + 1) % 3 = 1 by omega, if_pos (Nat.lt_succ_self i)]; rfl
    · rw [upd_other _ _ h1]
      by_cases h0 : x = i * 3
      · rw [h0, upd_same]
        unfold wf
        rw [show i * 3 / 3 = i by omega, show i * 3 % 3 = 0 by omega, if_pos (Nat.lt_succ_self i)]; rfl
      · rw [upd_other _ _ h0]
        unfold wf
        by_cases hx : x / 3 < i
        · rw [if_pos hx, if_pos (by omega)]
        · rw [if_neg hx, if_neg (by omega)]
theorem wf_at (m : M) {i j : Nat} (c : Nat) (hj : j < i) (hc : c < 3) : wf m i (j * 3 + c) = inAt (atN m j 64).1 c := by
  unfold wf
  rw [show (j * 3 + c) / 3 = j by omega, show (j * 3 + c) % 3 = c by omega, if_pos hj]
theorem hf_at (m : M) {i j : Nat} (hj : j < i) : hf m i j = .bool (m.known j).isSome := if_pos hj
/-- A frame ahead of the first is never put. -/
theorem put_ahead {m : M} {f : Int} {i : Gm.In} (h : f < m.from_) : putOk m f i = false := by
  unfold putOk
  rw [decide_eq_false (p := m.from_ ≤ f ∧ f - m.from_ ≤ 63) (by omega)]
  cases inB i <;> rfl
end Qu
namespace Go.Proofs.Ytcohbkgimlojpaa
open Go.RowKit
theorem ins_zero (m : Qu.M) : (Try.prog.info? 35).map (·.zero) = some (some (.agg (Qu.arr 192 (Qu.wf m 0)))) := by
  have h : (Try.prog.info? 35).map (·.zero) = some (some (.agg (Qu.arr 192 fun x => Qu.inAt Qu.none_ (x % 3)))) := by kernel_rfl
  rw [h]
  congr 3
theorem bools_zero' (m : Qu.M) : (Try.prog.info? 34).map (·.zero) = some (some (.agg (Qu.arr 64 (Qu.hf m 0)))) := by
  rw [bools_zero]
  congr 3
end Go.Proofs.Ytcohbkgimlojpaa
