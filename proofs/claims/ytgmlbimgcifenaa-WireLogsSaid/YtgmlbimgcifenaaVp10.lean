/-
Several texts in one: Zr Zs Zu.
-/
import Derived.Test.YtgmlbimgcifenaaVp9
namespace Ms
open Go
/-- A message without the places of its entries. -/
def plain (m : M) : M := { m with log := m.log.map fun s => ⟨s.e, none, 0⟩ }
/-- A number is read, if the kind has it. -/
def rdN (c : Int) (n : Nat) (set : M → Int → M) (q : M × List Int) : Option (M × List Int) := if (has q.1.kind).contains c then (Im.rdn n q.2).bind fun a => some (set q.1 a.1, a.2) else some q
def rdIns (q : M × List Int) : Option (M × List Int) := if (has q.1.kind).contains 105 then (Im.decL 1 decInW q.2).bind fun a => some ({ q.1 with ins := a.1 }, a.2) else some q
def rdLog (q : M × List Int) : Option (M × List Int) := if (has q.1.kind).contains 108 then (Im.decL 1 Go.Proofs.Ytgmlbimgcifenaa.decEntryW q.2).bind fun a => some ({ q.1 with log := a.1.map fun e => ⟨e, none, 0⟩ }, a.2) else some q
def rdData (q : M × List Int) : Option (M × List Int) := if (has q.1.kind).contains 100 then (Im.getB 1 q.2).bind fun a => some ({ q.1 with data := a.1 }, a.2) else some q
def rd_slot : M × List Int → Option (M × List Int) := rdN 115 1 fun m y => { m with slot := y }
def rd_gen : M × List Int → Option (M × List Int) := rdN 103 2 fun m y => { m with gen := y }
def rd_frame : M × List Int → Option (M × List Int) := rdN 102 4 fun m y => { m with frame := y }
def rd_code : M × List Int → Option (M × List Int) := rdN 99 1 fun m y => { m with code := y }
def rd_n : M × List Int → Option (M × List Int) := rdN 110 2 fun m y => { m with n := y }
def rd_of : M × List Int → Option (M × List Int) := rdN 111 2 fun m y => { m with of := y }
def rd_bits : M × List Int → Option (M × List Int) := rdN 98 4 fun m y => { m with bits := y }
def rd_sum : M × List Int → Option (M × List Int) := rdN 109 8 fun m y => { m with sum := y }
def NI (q : S) : Prop := q.ai = none ∧ q.ci = 0 ∧ q.m.ins = []
def NL (q : S) : Prop := q.al = none ∧ q.cl = 0 ∧ q.m.log = []
def ND (q : S) : Prop := q.ad = none ∧ q.cd = 0 ∧ q.m.data = []
end Ms
namespace Go.Proofs.Ytgmlbimgcifenaa
open Go.RowKit Go.Shelf
set_option linter.unusedVariables false
set_option linter.unusedSimpArgs false

/-- The inputs, the entries of a message that was read lie in rows of their own. -/
def RI (q : Ms.S) (X : World) : Prop := Ms.NI q ∨ ∃ S, q.ai = some ⟨S, 0, none⟩ ∧ q.ci = q.m.ins.length ∧ Box X S 50 (Gm.inCells q.m.ins).toArray
def RL (q : Ms.S) (X : World) : Prop := Ms.NL q ∨ ∃ S, q.al = some ⟨S, 0, none⟩ ∧ q.cl = q.m.log.length ∧ Box X S 53 (En.sCells q.m.log).toArray ∧ ∀ s ∈ q.m.log, ∃ S2, s.adr = some ⟨S2, 0, none⟩ ∧ s.cap = s.e.evs.length ∧ Box X S2 59 (En.evCells s.e.evs).toArray
def RD (q : Ms.S) (X : World) : Prop := Ms.ND q ∨ ∃ S, q.ad = some ⟨S, 0, none⟩ ∧ q.cd = q.m.data.length ∧ Box X S 5 (Im.u8s q.m.data).toArray
/-- A message being read. -/
structure Rs (b P tb tm tq : Nat) (q : Ms.S) (v : Value) (X : World) : Prop where
  box : Box X P 29 q.cells
  by_ : Box X tb 66 #[v]
  msg : Box X tm 69 #[.pointer (some ⟨P, 0, none⟩)]
  own : Box X tq 72 #[.int .i64 (Ms.own q.m.kind)]
  size : b ≤ X.heap.size
  ri : RI q X
  rl : RL q X
section
variable {b P tb tm tq : Nat} {q q' : Ms.S} {v : Value} {X X' : World}
theorem RI.kb {cs : Array Value} (h : RI q X) (hB : Box X P 29 cs) (hK : Kb P X X') : RI q X' := by
  rcases h with h | ⟨S, h1, h2, h3⟩
  · exact .inl h
  · exact .inr ⟨S, h1, h2, hK _ _ _ h3 (Box.apart h3 hB (by decide)) (by decide) (by decide)⟩
theorem RL.kb {cs : Array Value} (h : RL q X) (hB : Box X P 29 cs) (hK : Kb P X X') : RL q X' := by
  rcases h with h | ⟨S, h1, h2, h3, h4⟩
  · exact .inl h
  · refine .inr ⟨S, h1, h2, hK _ _ _ h3 (Box.apart h3 hB (by decide)) (by decide) (by decide), fun s hs => ?_⟩
    obtain ⟨S2, g1, g2, g3⟩ := h4 s hs
    exact ⟨S2, g1, g2, hK _ _ _ g3 (Box.apart g3 hB (by decide)) (by decide) (by decide)⟩
theorem Rs.kb (h : Rs b P tb tm tq q v X) (hk : q'.m.kind = q.m.kind) (hK : Kb P X X') (hs : X.heap.size ≤ X'.heap.size) (hB : Box X' P 29 q'.cells) (hi : RI q' X') (hl : RL q' X') : Rs b P tb tm tq q' v X' :=
  ⟨hB, hK _ _ _ h.by_ (Box.apart h.by_ h.box (by decide)) (by decide) (by decide), hK _ _ _ h.msg (Box.apart h.msg h.box (by decide)) (by decide) (by decide), by rw [hk]; exact hK _ _ _ h.own (Box.apart h.own h.box (by decide)) (by decide) (by decide), Nat.le_trans h.size hs, hi, hl⟩
end
/-- What is left behind a part. -/
def GotP (D : Option (Ms.M × List Int)) (b Bb Bp P tb tm tq : Nat) (q : Ms.S) (v : Value) (N : Ms.S → Prop) (X : World) (e : Ending) (w' : World) : Prop :=
  (∃ q' rest, D = some (Ms.plain q'.m, rest) ∧ e = .returned (.tuple #[]) ∧ Im.IsBytes rest ∧ Rd b Bb Bp rest w' ∧ Rs b P tb tm tq q' v w' ∧ q'.m.kind = q.m.kind ∧ Below b X w' ∧ Kb P X w' ∧ N q') ∨
  (D = none ∧ Pan e ∧ Below b X w' ∧ Kb P X w' ∧ ∃ cs', Box w' P 29 cs' ∧ cs'.size = 16)
theorem rs_slot (q : Ms.S) (P tb tm tq : Nat) (bs : List Int) (b Bb Bp : Nat) (X : World) (hBy : Im.IsBytes bs) (hbB : b ≤ Bb) (hbP : b ≤ P) (h : Rd b Bb Bp bs X) (hS : Rs b P tb tm tq q (.func (.func 60) #[] #[.pointer (some ⟨Bp, 0, none⟩)]) X) :
    Calls Try.prog 66 #[.int .i64 1, .func (.func 67) #[] #[.pointer (some ⟨tb, 0, none⟩), .pointer (some ⟨tm, 0, none⟩)], .pointer (some ⟨tq, 0, none⟩)] X (GotP (Ms.rd_slot (Ms.plain q.m, bs)) b Bb Bp P tb tm tq q (.func (.func 60) #[] #[.pointer (some ⟨Bp, 0, none⟩)]) (fun q' => (Ms.NI q → Ms.NI q') ∧ (Ms.NL q → Ms.NL q') ∧ (Ms.ND q → Ms.ND q')) X) := by
  refine pt2 _ (Ms.own q.m.kind) _ P tb tm tq X _ hS.by_ hS.msg hS.own (Ms.own_1 q.m.kind) (fun h0 => ?_) (fun h1 => ?_) (fun e w' hφ => ?_)
  · have hc : (Ms.has q.m.kind).contains 115 = false := by
      cases hc : (Ms.has q.m.kind).contains 115
      · rfl
      · rw [hc] at h0; exact absurd h0 (by decide)
    exact .inl ⟨q, bs, by show (if (Ms.has (Ms.plain q.m).kind).contains 115 = true then _ else _) = _; rw [show (Ms.plain q.m).kind = q.m.kind from rfl, hc]; rfl, rfl, hBy, h, hS, rfl, Below.refl _ _, Kb.refl _, fun h => h, fun h => h, fun h => h⟩
  · have hc : (Ms.has q.m.kind).contains 115 = true := by
      cases hc : (Ms.has q.m.kind).contains 115
      · rw [hc] at h1; exact absurd rfl h1
      · rfl
    have hD : Ms.rd_slot (Ms.plain q.m, bs) = (Im.rdn 1 bs).bind fun a => some ({ Ms.plain q.m with slot := a.1 }, a.2) := by
      show (if (Ms.has (Ms.plain q.m).kind).contains 115 = true then _ else _) = _
      rw [show (Ms.plain q.m).kind = q.m.kind from rfl, hc]; rfl
    have hk := (Kb.refl (B := P) X).call (one_below' X)
    have hb := (one_below' X).mono hS.size
    refine (part_int 1 1 rfl q.m.slot P 5 29 q.cells bs b Bb Bp X.drew (by decide) hBy hbB hbP hS.size (h.call (one_below' X) hS.size) hS.box.drew rfl (by decide) (by decide) (by decide)).mono ?_
    rintro e w' (⟨y, rest, hr, rfl, hI, hK, hB⟩ | ⟨hn, hp, hK, cs', hB, hs⟩)
    · have hKK := hk.trans hK.kb
      exact .inl ⟨{ q with m := { q.m with slot := y } }, rest, by rw [hD, hr]; rfl, rfl, (Im.rdn_inv hBy hr).2.2.2, hI, hS.kb rfl hKK hK.below.size hB (hS.ri.kb hS.box hKK) (hS.rl.kb hS.box hKK), rfl, hb.trans hK.below, hKK, fun h => h, fun h => h, fun h => h⟩
    · exact .inr ⟨by rw [hD, hn]; rfl, hp, hb.trans hK.below, hk.trans hK.kb, cs', hB, hs⟩
  · rcases hφ with ⟨q', rest, _, h1, _, _, h2, _⟩ | ⟨_, ⟨ss, h1⟩, _⟩
    · exact .inl ⟨h1, h2.by_, h2.msg⟩
    · exact .inr ⟨_, h1⟩
theorem rs_gen (q : Ms.S) (P tb tm tq : Nat) (bs : List Int) (b Bb Bp : Nat) (X : World) (hBy : Im.IsBytes bs) (hbB : b ≤ Bb) (hbP : b ≤ P) (h : Rd b Bb Bp bs X) (hS : Rs b P tb tm tq q (.func (.func 60) #[] #[.pointer (some ⟨Bp, 0, none⟩)]) X) :
    Calls Try.prog 66 #[.int .i64 2, .func (.func 68) #[] #[.pointer (some ⟨tb, 0, none⟩), .pointer (some ⟨tm, 0, none⟩)], .pointer (some ⟨tq, 0, none⟩)] X (GotP (Ms.rd_gen (Ms.plain q.m, bs)) b Bb Bp P tb tm tq q (.func (.func 60) #[] #[.pointer (some ⟨Bp, 0, none⟩)]) (fun q' => (Ms.NI q → Ms.NI q') ∧ (Ms.NL q → Ms.NL q') ∧ (Ms.ND q → Ms.ND q')) X) := by
  refine pt3 _ (Ms.own q.m.kind) _ P tb tm tq X _ hS.by_ hS.msg hS.own (Ms.own_2 q.m.kind) (fun h0 => ?_) (fun h1 => ?_) (fun e w' hφ => ?_)
  · have hc : (Ms.has q.m.kind).contains 103 = false := by
      cases hc : (Ms.has q.m.kind).contains 103
      · rfl
      · rw [hc] at h0; exact absurd h0 (by decide)
    exact .inl ⟨q, bs, by show (if (Ms.has (Ms.plain q.m).kind).contains 103 = true then _ else _) = _; rw [show (Ms.plain q.m).kind = q.m.kind from rfl, hc]; rfl, rfl, hBy, h, hS, rfl, Below.refl _ _, Kb.refl _, fun h => h, fun h => h, fun h => h⟩
  · have hc : (Ms.has q.m.kind).contains 103 = true := by
      cases hc : (Ms.has q.m.kind).contains 103
      · rw [hc] at h1; exact absurd rfl h1
      · rfl
    have hD : Ms.rd_gen (Ms.plain q.m, bs) = (Im.rdn 2 bs).bind fun a => some ({ Ms.plain q.m with gen := a.1 }, a.2) := by
      show (if (Ms.has (Ms.plain q.m).kind).contains 103 = true then _ else _) = _
      rw [show (Ms.plain q.m).kind = q.m.kind from rfl, hc]; rfl
    have hk := (Kb.refl (B := P) X).call (one_below' X)
    have hb := (one_below' X).mono hS.size
    refine (part_int 2 2 rfl q.m.gen P 6 29 q.cells bs b Bb Bp X.drew (by decide) hBy hbB hbP hS.size (h.call (one_below' X) hS.size) hS.box.drew rfl (by decide) (by decide) (by decide)).mono ?_
    rintro e w' (⟨y, rest, hr, rfl, hI, hK, hB⟩ | ⟨hn, hp, hK, cs', hB, hs⟩)
    · have hKK := hk.trans hK.kb
      exact .inl ⟨{ q with m := { q.m with gen := y } }, rest, by rw [hD, hr]; rfl, rfl, (Im.rdn_inv hBy hr).2.2.2, hI, hS.kb rfl hKK hK.below.size hB (hS.ri.kb hS.box hKK) (hS.rl.kb hS.box hKK), rfl, hb.trans hK.below, hKK, fun h => h, fun h => h, fun h => h⟩
    · exact .inr ⟨by rw [hD, hn]; rfl, hp, hb.trans hK.below, hk.trans hK.kb, cs', hB, hs⟩
  · rcases hφ with ⟨q', rest, _, h1, _, _, h2, _⟩ | ⟨_, ⟨ss, h1⟩, _⟩
    · exact .inl ⟨h1, h2.by_, h2.msg⟩
    · exact .inr ⟨_, h1⟩
theorem rs_frame (q : Ms.S) (P tb tm tq : Nat) (bs : List Int) (b Bb Bp : Nat) (X : World) (hBy : Im.IsBytes bs) (hbB : b ≤ Bb) (hbP : b ≤ P) (h : Rd b Bb Bp bs X) (hS : Rs b P tb tm tq q (.func (.func 60) #[] #[.pointer (some ⟨Bp, 0, none⟩)]) X) :
    Calls Try.prog 66 #[.int .i64 4, .func (.func 69) #[] #[.pointer (some ⟨tb, 0, none⟩), .pointer (some ⟨tm, 0, none⟩)], .pointer (some ⟨tq, 0, none⟩)] X (GotP (Ms.rd_frame (Ms.plain q.m, bs)) b Bb Bp P tb tm tq q (.func (.func 60) #[] #[.pointer (some ⟨Bp, 0, none⟩)]) (fun q' => (Ms.NI q → Ms.NI q') ∧ (Ms.NL q → Ms.NL q') ∧ (Ms.ND q → Ms.ND q')) X) := by
  refine pt4 _ (Ms.own q.m.kind) _ P tb tm tq X _ hS.by_ hS.msg hS.own (Ms.own_4 q.m.kind) (fun h0 => ?_) (fun h1 => ?_) (fun e w' hφ => ?_)
  · have hc : (Ms.has q.m.kind).contains 102 = false := by
      cases hc : (Ms.has q.m.kind).contains 102
      · rfl
      · rw [hc] at h0; exact absurd h0 (by decide)
    exact .inl ⟨q, bs, by show (if (Ms.has (Ms.plain q.m).kind).contains 102 = true then _ else _) = _; rw [show (Ms.plain q.m).kind = q.m.kind from rfl, hc]; rfl, rfl, hBy, h, hS, rfl, Below.refl _ _, Kb.refl _, fun h => h, fun h => h, fun h => h⟩
  · have hc : (Ms.has q.m.kind).contains 102 = true := by
      cases hc : (Ms.has q.m.kind).contains 102
      · rw [hc] at h1; exact absurd rfl h1
      · rfl
    have hD : Ms.rd_frame (Ms.plain q.m, bs) = (Im.rdn 4 bs).bind fun a => some ({ Ms.plain q.m with frame := a.1 }, a.2) := by
      show (if (Ms.has (Ms.plain q.m).kind).contains 102 = true then _ else _) = _
      rw [show (Ms.plain q.m).kind = q.m.kind from rfl, hc]; rfl
    have hk := (Kb.refl (B := P) X).call (one_below' X)
    have hb := (one_below' X).mono hS.size
    refine (part_int 4 4 rfl q.m.frame P 7 29 q.cells bs b Bb Bp X.drew (by decide) hBy hbB hbP hS.size (h.call (one_below' X) hS.size) hS.box.drew rfl (by decide) (by decide) (by decide)).mono ?_
    rintro e w' (⟨y, rest, hr, rfl, hI, hK, hB⟩ | ⟨hn, hp, hK, cs', hB, hs⟩)
    · have hKK := hk.trans hK.kb
      exact .inl ⟨{ q with m := { q.m with frame := y } }, rest, by rw [hD, hr]; rfl, rfl, (Im.rdn_inv hBy hr).2.2.2, hI, hS.kb rfl hKK hK.below.size hB (hS.ri.kb hS.box hKK) (hS.rl.kb hS.box hKK), rfl, hb.trans hK.below, hKK, fun h => h, fun h => h, fun h => h⟩
    · exact .inr ⟨by rw [hD, hn]; rfl, hp, hb.trans hK.below, hk.trans hK.kb, cs', hB, hs⟩
  · rcases hφ with ⟨q', rest, _, h1, _, _, h2, _⟩ | ⟨_, ⟨ss, h1⟩, _⟩
    · exact .inl ⟨h1, h2.by_, h2.msg⟩
    · exact .inr ⟨_, h1⟩
theorem rs_code (q : Ms.S) (P tb tm tq : Nat) (bs : List Int) (b Bb Bp : Nat) (X : World) (hBy : Im.IsBytes bs) (hbB : b ≤ Bb) (hbP : b ≤ P) (h : Rd b Bb Bp bs X) (hS : Rs b P tb tm tq q (.func (.func 60) #[] #[.pointer (some ⟨Bp, 0, none⟩)]) X) :
    Calls Try.prog 66 #[.int .i64 8, .func (.func 70) #[] #[.pointer (some ⟨tb, 0, none⟩), .pointer (some ⟨tm, 0, none⟩)], .pointer (some ⟨tq, 0, none⟩)] X (GotP (Ms.rd_code (Ms.plain q.m, bs)) b Bb Bp P tb tm tq q (.func (.func 60) #[] #[.pointer (some ⟨Bp, 0, none⟩)]) (fun q' => (Ms.NI q → Ms.NI q') ∧ (Ms.NL q → Ms.NL q') ∧ (Ms.ND q → Ms.ND q')) X) := by
  refine pt5 _ (Ms.own q.m.kind) _ P tb tm tq X _ hS.by_ hS.msg hS.own (Ms.own_8 q.m.kind) (fun h0 => ?_) (fun h1 => ?_) (fun e w' hφ => ?_)
  · have hc : (Ms.has q.m.kind).contains 99 = false := by
      cases hc : (Ms.has q.m.kind).contains 99
      · rfl
      · rw [hc] at h0; exact absurd h0 (by decide)
    exact .inl ⟨q, bs, by show (if (Ms.has (Ms.plain q.m).kind).contains 99 = true then _ else _) = _; rw [show (Ms.plain q.m).kind = q.m.kind from rfl, hc]; rfl, rfl, hBy, h, hS, rfl, Below.refl _ _, Kb.refl _, fun h => h, fun h => h, fun h => h⟩
  · have hc : (Ms.has q.m.kind).contains 99 = true := by
      cases hc : (Ms.has q.m.kind).contains 99
      · rw [hc] at h1; exact absurd rfl h1
      · rfl
    have hD : Ms.rd_code (Ms.plain q.m, bs) = (Im.rdn 1 bs).bind fun a => some ({ Ms.plain q.m with code := a.1 }, a.2) := by
      show (if (Ms.has (Ms.plain q.m).kind).contains 99 = true then _ else _) = _
      rw [show (Ms.plain q.m).kind = q.m.kind from rfl, hc]; rfl
    have hk := (Kb.refl (B := P) X).call (one_below' X)
    have hb := (one_below' X).mono hS.size
    refine (part_int 1 1 rfl q.m.code P 8 29 q.cells bs b Bb Bp X.drew (by decide) hBy hbB hbP hS.size (h.call (one_below' X) hS.size) hS.box.drew rfl (by decide) (by decide) (by decide)).mono ?_
    rintro e w' (⟨y, rest, hr, rfl, hI, hK, hB⟩ | ⟨hn, hp, hK, cs', hB, hs⟩)
    · have hKK := hk.trans hK.kb
      exact .inl ⟨{ q with m := { q.m with code := y } }, rest, by rw [hD, hr]; rfl, rfl, (Im.rdn_inv hBy hr).2.2.2, hI, hS.kb rfl hKK hK.below.size hB (hS.ri.kb hS.box hKK) (hS.rl.kb hS.box hKK), rfl, hb.trans hK.below, hKK, fun h => h, fun h => h, fun h => h⟩
    · exact .inr ⟨by rw [hD, hn]; rfl, hp, hb.trans hK.below, hk.trans hK.kb, cs', hB, hs⟩
  · rcases hφ with ⟨q', rest, _, h1, _, _, h2, _⟩ | ⟨_, ⟨ss, h1⟩, _⟩
    · exact .inl ⟨h1, h2.by_, h2.msg⟩
    · exact .inr ⟨_, h1⟩
theorem rs_n (q : Ms.S) (P tb tm tq : Nat) (bs : List Int) (b Bb Bp : Nat) (X : World) (hBy : Im.IsBytes bs) (hbB : b ≤ Bb) (hbP : b ≤ P) (h : Rd b Bb Bp bs X) (hS : Rs b P tb tm tq q (.func (.func 60) #[] #[.pointer (some ⟨Bp, 0, none⟩)]) X) :
    Calls Try.prog 66 #[.int .i64 16, .func (.func 71) #[] #[.pointer (some ⟨tb, 0, none⟩), .pointer (some ⟨tm, 0, none⟩)], .pointer (some ⟨tq, 0, none⟩)] X (GotP (Ms.rd_n (Ms.plain q.m, bs)) b Bb Bp P tb tm tq q (.func (.func 60) #[] #[.pointer (some ⟨Bp, 0, none⟩)]) (fun q' => (Ms.NI q → Ms.NI q') ∧ (Ms.NL q → Ms.NL q') ∧ (Ms.ND q → Ms.ND q')) X) := by
  refine pt6 _ (Ms.own q.m.kind) _ P tb tm tq X _ hS.by_ hS.msg hS.own (Ms.own_16 q.m.kind) (fun h0 => ?_) (fun h1 => ?_) (fun e w' hφ => ?_)
  · have hc : (Ms.has q.m.kind).contains 110 = false := by
      cases hc : (Ms.has q.m.kind).contains 110
      · rfl
      · rw [hc] at h0; exact absurd h0 (by decide)
    exact .inl ⟨q, bs, by show (if (Ms.has (Ms.plain q.m).kind).contains 110 = true then _ else _) = _; rw [show (Ms.plain q.m).kind = q.m.kind from rfl, hc]; rfl, rfl, hBy, h, hS, rfl, Below.refl _ _, Kb.refl _, fun h => h, fun h => h, fun h => h⟩
  · have hc : (Ms.has q.m.kind).contains 110 = true := by
      cases hc : (Ms.has q.m.kind).contains 110
      · rw [hc] at h1; exact absurd rfl h1
      · rfl
    have hD : Ms.rd_n (Ms.plain q.m, bs) = (Im.rdn 2 bs).bind fun a => some ({ Ms.plain q.m with n := a.1 }, a.2) := by
      show (if (Ms.has (Ms.plain q.m).kind).contains 110 = true then _ else _) = _
      rw [show (Ms.plain q.m).kind = q.m.kind from rfl, hc]; rfl
    have hk := (Kb.refl (B := P) X).call (one_below' X)
    have hb := (one_below' X).mono hS.size
    refine (part_int 2 2 rfl q.m.n P 9 29 q.cells bs b Bb Bp X.drew (by decide) hBy hbB hbP hS.size (h.call (one_below' X) hS.size) hS.box.drew rfl (by decide) (by decide) (by decide)).mono ?_
    rintro e w' (⟨y, rest, hr, rfl, hI, hK, hB⟩ | ⟨hn, hp, hK, cs', hB, hs⟩)
    · have hKK := hk.trans hK.kb
      exact .inl ⟨{ q with m := { q.m with n := y } }, rest, by rw [hD, hr]; rfl, rfl, (Im.rdn_inv hBy hr).2.2.2, hI, hS.kb rfl hKK hK.below.size hB (hS.ri.kb hS.box hKK) (hS.rl.kb hS.box hKK), rfl, hb.trans hK.below, hKK, fun h => h, fun h => h, fun h => h⟩
    · exact .inr ⟨by rw [hD, hn]; rfl, hp, hb.trans hK.below, hk.trans hK.kb, cs', hB, hs⟩
  · rcases hφ with ⟨q', rest, _, h1, _, _, h2, _⟩ | ⟨_, ⟨ss, h1⟩, _⟩
    · exact .inl ⟨h1, h2.by_, h2.msg⟩
    · exact .inr ⟨_, h1⟩
theorem rs_of (q : Ms.S) (P tb tm tq : Nat) (bs : List Int) (b Bb Bp : Nat) (X : World) (hBy : Im.IsBytes bs) (hbB : b ≤ Bb) (hbP : b ≤ P) (h : Rd b Bb Bp bs X) (hS : Rs b P tb tm tq q (.func (.func 60) #[] #[.pointer (some ⟨Bp, 0, none⟩)]) X) :
    Calls Try.prog 66 #[.int .i64 32, .func (.func 72) #[] #[.pointer (some ⟨tb, 0, none⟩), .pointer (some ⟨tm, 0, none⟩)], .pointer (some ⟨tq, 0, none⟩)] X (GotP (Ms.rd_of (Ms.plain q.m, bs)) b Bb Bp P tb tm tq q (.func (.func 60) #[] #[.pointer (some ⟨Bp, 0, none⟩)]) (fun q' => (Ms.NI q → Ms.NI q') ∧ (Ms.NL q → Ms.NL q') ∧ (Ms.ND q → Ms.ND q')) X) := by
  refine pt7 _ (Ms.own q.m.kind) _ P tb tm tq X _ hS.by_ hS.msg hS.own (Ms.own_32 q.m.kind) (fun h0 => ?_) (fun h1 => ?_) (fun e w' hφ => ?_)
  · have hc : (Ms.has q.m.kind).contains 111 = false := by
      cases hc : (Ms.has q.m.kind).contains 111
      · rfl
      · rw [hc] at h0; exact absurd h0 (by decide)
    exact .inl ⟨q, bs, by show (if (Ms.has (Ms.plain q.m).kind).contains 111 = true then _ else _) = _; rw [show (Ms.plain q.m).kind = q.m.kind from rfl, hc]; rfl, rfl, hBy, h, hS, rfl, Below.refl _ _, Kb.refl _, fun h => h, fun h => h, fun h => h⟩
  · have hc : (Ms.has q.m.kind).contains 111 = true := by
      cases hc : (Ms.has q.m.kind).contains 111
      · rw [hc] at h1; exact absurd rfl h1
      · rfl
    have hD : Ms.rd_of (Ms.plain q.m, bs) = (Im.rdn 2 bs).bind fun a => some ({ Ms.plain q.m with of := a.1 }, a.2) := by
      show (if (Ms.has (Ms.plain q.m).kind).contains 111 = true then _ else _) = _
      rw [show (Ms.plain q.m).kind = q.m.kind from rfl, hc]; rfl
    have hk := (Kb.refl (B := P) X).call (one_below' X)
    have hb := (one_below' X).mono hS.size
    refine (part_int 2 2 rfl q.m.of P 10 29 q.cells bs b Bb Bp X.drew (by decide) hBy hbB hbP hS.size (h.call (one_below' X) hS.size) hS.box.drew rfl (by decide) (by decide) (by decide)).mono ?_
    rintro e w' (⟨y, rest, hr, rfl, hI, hK, hB⟩ | ⟨hn, hp, hK, cs', hB, hs⟩)
    · have hKK := hk.trans hK.kb
      exact .inl ⟨{ q with m := { q.m with of := y } }, rest, by rw [hD, hr]; rfl, rfl, (Im.rdn_inv hBy hr).2.2.2, hI, hS.kb rfl hKK hK.below.size hB (hS.ri.kb hS.box hKK) (hS.rl.kb hS.box hKK), rfl, hb.trans hK.below, hKK, fun h => h, fun h => h, fun h => h⟩
    · exact .inr ⟨by rw [hD, hn]; rfl, hp, hb.trans hK.below, hk.trans hK.kb, cs', hB, hs⟩
  · rcases hφ with ⟨q', rest, _, h1, _, _, h2, _⟩ | ⟨_, ⟨ss, h1⟩, _⟩
    · exact .inl ⟨h1, h2.by_, h2.msg⟩
    · exact .inr ⟨_, h1⟩
theorem rs_bits (q : Ms.S) (P tb tm tq : Nat) (bs : List Int) (b Bb Bp : Nat) (X : World) (hBy : Im.IsBytes bs) (hbB : b ≤ Bb) (hbP : b ≤ P) (h : Rd b Bb Bp bs X) (hS : Rs b P tb tm tq q (.func (.func 60) #[] #[.pointer (some ⟨Bp, 0, none⟩)]) X) :
    Calls Try.prog 66 #[.int .i64 64, .func (.func 73) #[] #[.pointer (some ⟨tb, 0, none⟩), .pointer (some ⟨tm, 0, none⟩)], .pointer (some ⟨tq, 0, none⟩)] X (GotP (Ms.rd_bits (Ms.plain q.m, bs)) b Bb Bp P tb tm tq q (.func (.func 60) #[] #[.pointer (some ⟨Bp, 0, none⟩)]) (fun q' => (Ms.NI q → Ms.NI q') ∧ (Ms.NL q → Ms.NL q') ∧ (Ms.ND q → Ms.ND q')) X) := by
  refine pt8 _ (Ms.own q.m.kind) _ P tb tm tq X _ hS.by_ hS.msg hS.own (Ms.own_64 q.m.kind) (fun h0 => ?_) (fun h1 => ?_) (fun e w' hφ => ?_)
  · have hc : (Ms.has q.m.kind).contains 98 = false := by
      cases hc : (Ms.has q.m.kind).contains 98
      · rfl
      · rw [hc] at h0; exact absurd h0 (by decide)
    exact .inl ⟨q, bs, by show (if (Ms.has (Ms.plain q.m).kind).contains 98 = true then _ else _) = _; rw [show (Ms.plain q.m).kind = q.m.kind from rfl, hc]; rfl, rfl, hBy, h, hS, rfl, Below.refl _ _, Kb.refl _, fun h => h, fun h => h, fun h => h⟩
  · have hc : (Ms.has q.m.kind).contains 98 = true := by
      cases hc : (Ms.has q.m.kind).contains 98
      · rw [hc] at h1; exact absurd rfl h1
      · rfl
    have hD : Ms.rd_bits (Ms.plain q.m, bs) = (Im.rdn 4 bs).bind fun a => some ({ Ms.plain q.m with bits := a.1 }, a.2) := by
      show (if (Ms.has (Ms.plain q.m).kind).contains 98 = true then _ else _) = _
      rw [show (Ms.plain q.m).kind = q.m.kind from rfl, hc]; rfl
    have hk := (Kb.refl (B := P) X).call (one_below' X)
    have hb := (one_below' X).mono hS.size
    refine (part_u32 4 4 rfl q.m.bits P 11 29 q.cells bs b Bb Bp X.drew (by decide) hBy hbB hbP hS.size (h.call (one_below' X) hS.size) hS.box.drew rfl (by decide) (by decide) (by decide)).mono ?_
    rintro e w' (⟨y, rest, hr, rfl, hI, hK, hB⟩ | ⟨hn, hp, hK, cs', hB, hs⟩)
    · have hKK := hk.trans hK.kb
      exact .inl ⟨{ q with m := { q.m with bits := y } }, rest, by rw [hD, hr]; rfl, rfl, (Im.rdn_inv hBy hr).2.2.2, hI, hS.kb rfl hKK hK.below.size hB (hS.ri.kb hS.box hKK) (hS.rl.kb hS.box hKK), rfl, hb.trans hK.below, hKK, fun h => h, fun h => h, fun h => h⟩
    · exact .inr ⟨by rw [hD, hn]; rfl, hp, hb.trans hK.below, hk.trans hK.kb, cs', hB, hs⟩
  · rcases hφ with ⟨q', rest, _, h1, _, _, h2, _⟩ | ⟨_, ⟨ss, h1⟩, _⟩
    · exact .inl ⟨h1, h2.by_, h2.msg⟩
    · exact .inr ⟨_, h1⟩
theorem rs_sum (q : Ms.S) (P tb tm tq : Nat) (bs : List Int) (b Bb Bp : Nat) (X : World) (hBy : Im.IsBytes bs) (hbB : b ≤ Bb) (hbP : b ≤ P) (h : Rd b Bb Bp bs X) (hS : Rs b P tb tm tq q (.func (.func 60) #[] #[.pointer (some ⟨Bp, 0, none⟩)]) X) :
    Calls Try.prog 66 #[.int .i64 128, .func (.func 74) #[] #[.pointer (some ⟨tb, 0, none⟩), .pointer (some ⟨tm, 0, none⟩)], .pointer (some ⟨tq, 0, none⟩)] X (GotP (Ms.rd_sum (Ms.plain q.m, bs)) b Bb Bp P tb tm tq q (.func (.func 60) #[] #[.pointer (some ⟨Bp, 0, none⟩)]) (fun q' => (Ms.NI q → Ms.NI q') ∧ (Ms.NL q → Ms.NL q') ∧ (Ms.ND q → Ms.ND q')) X) := by
  refine pt9 _ (Ms.own q.m.kind) _ P tb tm tq X _ hS.by_ hS.msg hS.own (Ms.own_128 q.m.kind) (fun h0 => ?_) (fun h1 => ?_) (fun e w' hφ => ?_)
  · have hc : (Ms.has q.m.kind).contains 109 = false := by
      cases hc : (Ms.has q.m.kind).contains 109
      · rfl
      · rw [hc] at h0; exact absurd h0 (by decide)
    exact .inl ⟨q, bs, by show (if (Ms.has (Ms.plain q.m).kind).contains 109 = true then _ else _) = _; rw [show (Ms.plain q.m).kind = q.m.kind from rfl, hc]; rfl, rfl, hBy, h, hS, rfl, Below.refl _ _, Kb.refl _, fun h => h, fun h => h, fun h => h⟩
  · have hc : (Ms.has q.m.kind).contains 109 = true := by
      cases hc : (Ms.has q.m.kind).contains 109
      · rw [hc] at h1; exact absurd rfl h1
      · rfl
    have hD : Ms.rd_sum (Ms.plain q.m, bs) = (Im.rdn 8 bs).bind fun a => some ({ Ms.plain q.m with sum := a.1 }, a.2) := by
      show (if (Ms.has (Ms.plain q.m).kind).contains 109 = true then _ else _) = _
      rw [show (Ms.plain q.m).kind = q.m.kind from rfl, hc]; rfl
    have hk := (Kb.refl (B := P) X).call (one_below' X)
    have hb := (one_below' X).mono hS.size
    refine (part_u64 8 8 rfl q.m.sum P 12 29 q.cells bs b Bb Bp X.drew (by decide) hBy hbB hbP hS.size (h.call (one_below' X) hS.size) hS.box.drew rfl (by decide) (by decide) (by decide)).mono ?_
    rintro e w' (⟨y, rest, hr, rfl, hI, hK, hB⟩ | ⟨hn, hp, hK, cs', hB, hs⟩)
    · have hKK := hk.trans hK.kb
      exact .inl ⟨{ q with m := { q.m with sum := y } }, rest, by rw [hD, hr]; rfl, rfl, (Im.rdn_inv hBy hr).2.2.2, hI, hS.kb rfl hKK hK.below.size hB (hS.ri.kb hS.box hKK) (hS.rl.kb hS.box hKK), rfl, hb.trans hK.below, hKK, fun h => h, fun h => h, fun h => h⟩
    · exact .inr ⟨by rw [hD, hn]; rfl, hp, hb.trans hK.below, hk.trans hK.kb, cs', hB, hs⟩
  · rcases hφ with ⟨q', rest, _, h1, _, _, h2, _⟩ | ⟨_, ⟨ss, h1⟩, _⟩
    · exact .inl ⟨h1, h2.by_, h2.msg⟩
    · exact .inr ⟨_, h1⟩
theorem ins_flat : ∀ {l : List Gm.In} {Cs : List (List Value)}, AllGood 3 (fun (p : Gm.In) C => C = p.cells) l Cs → Cs.flatten = Gm.inCells l
  | [], [], _ => rfl
  | v :: l, C :: Cs, h => by
    rw [List.flatten_cons, ins_flat h.2.2, h.2.1]
    rfl
  | [], _ :: _, h => h.elim
  | _ :: _, [], h => h.elim
/-- Entries that were read, with their places. -/
theorem log_flat {X : World} : ∀ {l : List En.E} {Cs : List (List Value)}, AllGood 26 (GoodEn X) l Cs → ∃ L : List En.S, L.map (fun s => s.e) = l ∧ Cs.flatten = En.sCells L ∧ ∀ s ∈ L, ∃ S2, s.adr = some ⟨S2, 0, none⟩ ∧ s.cap = s.e.evs.length ∧ Box X S2 59 (En.evCells s.e.evs).toArray
  | [], [], _ => ⟨[], rfl, rfl, fun s h => by cases h⟩
  | v :: l, C :: Cs, h => by
    obtain ⟨L, h1, h2, h3⟩ := log_flat h.2.2
    obtain ⟨S2, hC, hB⟩ := h.2.1
    refine ⟨⟨v, some ⟨S2, 0, none⟩, v.evs.length⟩ :: L, by rw [List.map_cons, h1], ?_, fun s hs => ?_⟩
    · rw [List.flatten_cons, h2, hC]; rfl
    · rcases List.mem_cons.1 hs with rfl | hs
      · exact ⟨S2, rfl, rfl, hB⟩
      · exact h3 s hs
  | [], _ :: _, h => h.elim
  | _ :: _, [], h => h.elim
theorem rs_ins (q : Ms.S) (P tb tm tq : Nat) (bs : List Int) (b Bb Bp : Nat) (X : World) (hBy : Im.IsBytes bs) (hbB : b ≤ Bb) (hbP : b ≤ P) (hN : Ms.NI q) (h : Rd b Bb Bp bs X) (hS : Rs b P tb tm tq q (.func (.func 60) #[] #[.pointer (some ⟨Bp, 0, none⟩)]) X) :
    Calls Try.prog 66 #[.int .i64 256, .func (.func 76) #[] #[.pointer (some ⟨tb, 0, none⟩), .pointer (some ⟨tm, 0, none⟩)], .pointer (some ⟨tq, 0, none⟩)] X (GotP (Ms.rdIns (Ms.plain q.m, bs)) b Bb Bp P tb tm tq q (.func (.func 60) #[] #[.pointer (some ⟨Bp, 0, none⟩)]) (fun q' => (Ms.NL q → Ms.NL q') ∧ (Ms.ND q → Ms.ND q')) X) := by
  refine pt10 _ (Ms.own q.m.kind) _ P tb tm tq X _ hS.by_ hS.msg hS.own (Ms.own_256 q.m.kind) (fun h0 => ?_) (fun h1 => ?_) (fun e w' hφ => ?_)
  · have hc : (Ms.has q.m.kind).contains 105 = false := by
      cases hc : (Ms.has q.m.kind).contains 105
      · rfl
      · rw [hc] at h0; exact absurd h0 (by decide)
    exact .inl ⟨q, bs, by show (if (Ms.has (Ms.plain q.m).kind).contains 105 = true then _ else _) = _; rw [show (Ms.plain q.m).kind = q.m.kind from rfl, hc]; rfl, rfl, hBy, h, hS, rfl, Below.refl _ _, Kb.refl _, fun h => h, fun h => h⟩
  · have hc : (Ms.has q.m.kind).contains 105 = true := by
      cases hc : (Ms.has q.m.kind).contains 105
      · rw [hc] at h1; exact absurd rfl h1
      · rfl
    have hD : Ms.rdIns (Ms.plain q.m, bs) = (Im.decL 1 Ms.decInW bs).bind fun a => some ({ Ms.plain q.m with ins := a.1 }, a.2) := by
      show (if (Ms.has (Ms.plain q.m).kind).contains 105 = true then _ else _) = _
      rw [show (Ms.plain q.m).kind = q.m.kind from rfl, hc]; rfl
    have hk := (Kb.refl (B := P) X).call (one_below' X)
    have hb := (one_below' X).mono hS.size
    obtain ⟨n1, n2, n3⟩ := hN
    refine (listzin_r Ms.decInW (fun _ (p : Gm.In) C => C = p.cells) 1 1 rfl P 13 29 q.cells bs b Bb Bp X.drew hBy (by decide) hbB hbP hS.size (h.call (one_below' X) hS.size) hS.box.drew (by show some (Value.slice q.ai q.m.ins.length q.ci) = _; rw [n1, n2, n3]; rfl) (by decide) (by decide) (by decide) (fun _ _ _ _ _ _ _ _ h => h) (fun _ _ _ _ _ _ _ h => h) (eachin_r b Bb Bp X.drew hbB)).mono ?_
    rintro e w' (⟨l, rest, S, Cs, hD2, rfl, hy, hI, hK, hSz, hB, hE, hA⟩ | ⟨hn, hp, hK, hB⟩)
    · have hKK := hk.trans hK.kb
      refine .inl ⟨{ q with m := { q.m with ins := l }, ai := some ⟨S, 0, none⟩, ci := l.length }, rest, by rw [hD, hD2]; rfl, rfl, hy, hI, hS.kb rfl hKK hK.below.size hB (.inr ⟨S, rfl, rfl, by rw [← ins_flat hA]; exact hE⟩) (hS.rl.kb hS.box hKK), rfl, hb.trans hK.below, hKK, fun h => h, fun h => h⟩
    · exact .inr ⟨by rw [hD, hn]; rfl, hp, hb.trans hK.below, hk.trans hK.kb, _, hB, rfl⟩
  · rcases hφ with ⟨q', rest, _, h1, _, _, h2, _⟩ | ⟨_, ⟨ss, h1⟩, _⟩
    · exact .inl ⟨h1, h2.by_, h2.msg⟩
    · exact .inr ⟨_, h1⟩
theorem rs_log (q : Ms.S) (P tb tm tq : Nat) (bs : List Int) (b Bb Bp : Nat) (X : World) (hBy : Im.IsBytes bs) (hbB : b ≤ Bb) (hbP : b ≤ P) (hN : Ms.NL q) (h : Rd b Bb Bp bs X) (hS : Rs b P tb tm tq q (.func (.func 60) #[] #[.pointer (some ⟨Bp, 0, none⟩)]) X) :
    Calls Try.prog 66 #[.int .i64 512, .func (.func 79) #[] #[.pointer (some ⟨tb, 0, none⟩), .pointer (some ⟨tm, 0, none⟩)], .pointer (some ⟨tq, 0, none⟩)] X (GotP (Ms.rdLog (Ms.plain q.m, bs)) b Bb Bp P tb tm tq q (.func (.func 60) #[] #[.pointer (some ⟨Bp, 0, none⟩)]) (fun q' => (Ms.ND q → Ms.ND q')) X) := by
  refine pt11 _ (Ms.own q.m.kind) _ P tb tm tq X _ hS.by_ hS.msg hS.own (Ms.own_512 q.m.kind) (fun h0 => ?_) (fun h1 => ?_) (fun e w' hφ => ?_)
  · have hc : (Ms.has q.m.kind).contains 108 = false := by
      cases hc : (Ms.has q.m.kind).contains 108
      · rfl
      · rw [hc] at h0; exact absurd h0 (by decide)
    exact .inl ⟨q, bs, by show (if (Ms.has (Ms.plain q.m).kind).contains 108 = true then _ else _) = _; rw [show (Ms.plain q.m).kind = q.m.kind from rfl, hc]; rfl, rfl, hBy, h, hS, rfl, Below.refl _ _, Kb.refl _, fun h => h⟩
  · have hc : (Ms.has q.m.kind).contains 108 = true := by
      cases hc : (Ms.has q.m.kind).contains 108
      · rw [hc] at h1; exact absurd rfl h1
      · rfl
    have hD : Ms.rdLog (Ms.plain q.m, bs) = (Im.decL 1 decEntryW bs).bind fun a => some ({ Ms.plain q.m with log := a.1.map fun e => ⟨e, none, 0⟩ }, a.2) := by
      show (if (Ms.has (Ms.plain q.m).kind).contains 108 = true then _ else _) = _
      rw [show (Ms.plain q.m).kind = q.m.kind from rfl, hc]; rfl
    have hk := (Kb.refl (B := P) X).call (one_below' X)
    have hb := (one_below' X).mono hS.size
    obtain ⟨n1, n2, n3⟩ := hN
    refine (listzen_r decEntryW GoodEn 1 1 rfl P 14 29 q.cells bs b Bb Bp X.drew hBy (by decide) hbB hbP hS.size (h.call (one_below' X) hS.size) hS.box.drew (by show some (Value.slice q.al q.m.log.length q.cl) = _; rw [n1, n2, n3]; rfl) (by decide) (by decide) (by decide) (fun _ _ _ _ _ _ hB hK h => goodEn_kept hB (by decide) hK h) (fun _ _ _ _ _ hB hK h => goodEn_kept hB (by decide) hK h) (eachen_r b Bb Bp X.drew hbB)).mono ?_
    rintro e w' (⟨l, rest, S, Cs, hD2, rfl, hy, hI, hK, hSz, hB, hE, hA⟩ | ⟨hn, hp, hK, hB⟩)
    · have hKK := hk.trans hK.kb
      obtain ⟨L, hL1, hL2, hL3⟩ := log_flat hA
      have hlen : l.length = L.length := by rw [← hL1, List.length_map]
      refine .inl ⟨{ q with m := { q.m with log := L }, al := some ⟨S, 0, none⟩, cl := L.length }, rest, ?_, rfl, hy, hI, hS.kb rfl hKK hK.below.size (by rw [hlen] at hB; exact hB) (hS.ri.kb hS.box hKK) (.inr ⟨S, rfl, rfl, by rw [← hL2]; exact hE, hL3⟩), rfl, hb.trans hK.below, hKK, fun h => h⟩
      rw [hD, hD2, Option.bind_some, ← hL1, List.map_map]
      rfl
    · exact .inr ⟨by rw [hD, hn]; rfl, hp, hb.trans hK.below, hk.trans hK.kb, _, hB, rfl⟩
  · rcases hφ with ⟨q', rest, _, h1, _, _, h2, _⟩ | ⟨_, ⟨ss, h1⟩, _⟩
    · exact .inl ⟨h1, h2.by_, h2.msg⟩
    · exact .inr ⟨_, h1⟩
/-- What is left behind the last part. -/
def GotD (D : Option (Ms.M × List Int)) (b Bb Bp P tb tm tq : Nat) (q : Ms.S) (v : Value) (X : World) (e : Ending) (w' : World) : Prop :=
  (∃ q' rest, D = some (Ms.plain q'.m, rest) ∧ e = .returned (.tuple #[]) ∧ Im.IsBytes rest ∧ Rd b Bb Bp rest w' ∧ Rs b P tb tm tq q' v w' ∧ RD q' w' ∧ Below b X w' ∧ Kb P X w') ∨
  (D = none ∧ Pan e ∧ Below b X w' ∧ Kb P X w' ∧ ∃ cs', Box w' P 29 cs' ∧ cs'.size = 16)
theorem rs_data (q : Ms.S) (P tb tm tq : Nat) (bs : List Int) (b Bb Bp : Nat) (X : World) (hBy : Im.IsBytes bs) (hbB : b ≤ Bb) (hbP : b ≤ P) (hN : Ms.ND q) (h : Rd b Bb Bp bs X) (hS : Rs b P tb tm tq q (.func (.func 60) #[] #[.pointer (some ⟨Bp, 0, none⟩)]) X) :
    Calls Try.prog 66 #[.int .i64 1024, .func (.func 82) #[] #[.pointer (some ⟨tb, 0, none⟩), .pointer (some ⟨tm, 0, none⟩)], .pointer (some ⟨tq, 0, none⟩)] X (GotD (Ms.rdData (Ms.plain q.m, bs)) b Bb Bp P tb tm tq q (.func (.func 60) #[] #[.pointer (some ⟨Bp, 0, none⟩)]) X) := by
  refine pt12 _ (Ms.own q.m.kind) _ P tb tm tq X _ hS.by_ hS.msg hS.own (Ms.own_1024 q.m.kind) (fun h0 => ?_) (fun h1 => ?_) (fun e w' hφ => ?_)
  · have hc : (Ms.has q.m.kind).contains 100 = false := by
      cases hc : (Ms.has q.m.kind).contains 100
      · rfl
      · rw [hc] at h0; exact absurd h0 (by decide)
    exact .inl ⟨q, bs, by show (if (Ms.has (Ms.plain q.m).kind).contains 100 = true then _ else _) = _; rw [show (Ms.plain q.m).kind = q.m.kind from rfl, hc]; rfl, rfl, hBy, h, hS, .inl hN, Below.refl _ _, Kb.refl _⟩
  · have hc : (Ms.has q.m.kind).contains 100 = true := by
      cases hc : (Ms.has q.m.kind).contains 100
      · rw [hc] at h1; exact absurd rfl h1
      · rfl
    have hD : Ms.rdData (Ms.plain q.m, bs) = (Im.getB 1 bs).bind fun a => some ({ Ms.plain q.m with data := a.1 }, a.2) := by
      show (if (Ms.has (Ms.plain q.m).kind).contains 100 = true then _ else _) = _
      rw [show (Ms.plain q.m).kind = q.m.kind from rfl, hc]; rfl
    have hk := (Kb.refl (B := P) X).call (one_below' X)
    have hb := (one_below' X).mono hS.size
    obtain ⟨n1, n2, n3⟩ := hN
    have hv := h.isvar
    refine (listby_r [] none 0 0 1 1 rfl P 15 29 q.cells bs b Bb Bp X.drew hBy (by decide) hbB hbP hS.size (h.call (one_below' X) hS.size) hS.box.drew (by obtain ⟨A, n, c, hv⟩ := hv; exact Box.apart hS.box hv (by decide)) (by decide) (by show some (Value.slice q.ad q.m.data.length q.cd) = _; rw [n1, n2, n3]; rfl) (fun X _ => Lies.empty) (by decide) (by decide)).mono ?_
    rintro e w' (⟨l, rest, S, hD2, rfl, hyl, hy, hl, hI, hK, hSz, hB, hE, hO⟩ | ⟨hn, hp, hK, hB⟩)
    · have hKK := hk.trans hK.kb
      exact .inl ⟨{ q with m := { q.m with data := l }, ad := some ⟨S, 0, none⟩, cd := l.length }, rest, by rw [hD, hD2]; rfl, rfl, hy, hI, hS.kb rfl hKK hK.below.size hB (hS.ri.kb hS.box hKK) (hS.rl.kb hS.box hKK), .inr ⟨S, rfl, rfl, hE⟩, hb.trans hK.below, hKK⟩
    · exact .inr ⟨by rw [hD, hn]; rfl, hp, hb.trans hK.below, hk.trans hK.kb, _, hB, rfl⟩
  · rcases hφ with ⟨q', rest, _, h1, _, _, h2, _⟩ | ⟨_, ⟨ss, h1⟩, _⟩
    · exact .inl ⟨h1, h2.by_, h2.msg⟩
    · exact .inr ⟨_, h1⟩
end Go.Proofs.Ytgmlbimgcifenaa
namespace Ms
open Go
def decParts (q : M × List Int) : Option (M × List Int) := (rd_slot q).bind fun q => (rd_gen q).bind fun q => (rd_frame q).bind fun q => (rd_code q).bind fun q => (rd_n q).bind fun q => (rd_of q).bind fun q => (rd_bits q).bind fun q => (rd_sum q).bind fun q => (rdIns q).bind fun q => (rdLog q).bind fun q => rdData q
/-- A message of a kind, with what all have. -/
def start (k f s a n : Int) : M := ⟨k, f, s, a, n, 0, 0, 0, 0, 0, 0, 0, 0, [], [], []⟩
def decMsg (bs : List Int) : Option (M × List Int) := (Im.rdn 1 bs).bind fun k => (Im.rdn 1 k.2).bind fun f => (Im.rdn 2 f.2).bind fun s => (Im.rdn 2 s.2).bind fun a => (Im.rdn 4 a.2).bind fun n => if isKind k.1 then decParts (start k.1 f.1 s.1 a.1 n.1, n.2) else none
end Ms
namespace Go.Proofs.Ytgmlbimgcifenaa
open Go.RowKit Go.Shelf
set_option linter.unusedVariables false
set_option linter.unusedSimpArgs false

/-- What is left behind a message. -/
def GotM (D : Option (Ms.M × List Int)) (b Bb Bp P : Nat) (X : World) (e : Ending) (w' : World) : Prop :=
  (∃ q' rest, D = some (Ms.plain q'.m, rest) ∧ e = .returned (.tuple #[]) ∧ Im.IsBytes rest ∧ Rd b Bb Bp rest w' ∧ Box w' P 29 q'.cells ∧ RI q' w' ∧ RL q' w' ∧ RD q' w' ∧ Below b X w' ∧ Kb P X w') ∨
  (D = none ∧ Pan e ∧ Below b X w' ∧ Kb P X w' ∧ ∃ cs', Box w' P 29 cs' ∧ cs'.size = 16)
set_option maxRecDepth 100000 in
set_option maxHeartbeats 4000000 in
theorem layparts_r (q : Ms.S) (P : Nat) (bs : List Int) (b Bb Bp : Nat) (w : World) (hBy : Im.IsBytes bs) (hbB : b ≤ Bb) (hbP : b ≤ P) (hbw : b ≤ w.heap.size) (ni : Ms.NI q) (nl : Ms.NL q) (nd : Ms.ND q) (h : Rd b Bb Bp bs w) (hP : Box w P 29 q.cells) :
    Calls Try.prog 53 #[.func (.func 60) #[] #[.pointer (some ⟨Bp, 0, none⟩)], .int .i64 (Ms.own q.m.kind), .pointer (some ⟨P, 0, none⟩)] w (GotM (Ms.decParts (Ms.plain q.m, bs)) b Bb Bp P w) := by
  have hmf : ∀ (fn : Fn) (first cap : Array Value) (w : World), (Instr.makeFunc fn first cap).run Try.prog w = .ok (.func fn first cap) w := fun _ _ _ _ => rfl
  obtain ⟨W0, hW0⟩ : ∃ W0, W0 = ((w.alloc (.cells #[.func (.func 60) #[] #[.pointer (some ⟨Bp, 0, none⟩)]] 66)).alloc (.cells #[.int .i64 (Ms.own q.m.kind)] 72)).alloc (.cells #[.pointer (some ⟨P, 0, none⟩)] 69) := ⟨_, rfl⟩
  have BB : Below w.heap.size w W0 := by rw [hW0]; exact (((Below.refl w.heap.size w).alloc (Nat.le_refl _) _).alloc (by simp) _).alloc (by simp <;> omega) _
  have S0 := Lib.hid (show Rs b P w.heap.size (w.heap.size + 1 + 1) (w.heap.size + 1) q (.func (.func 60) #[] #[.pointer (some ⟨Bp, 0, none⟩)]) W0 from ⟨hP.below BB hP.lt, by rw [hW0]; exact ((Box.made w _ _).alloc _).alloc _, by rw [hW0]; exact Box.made_at _ _ _ (by simp), by rw [hW0]; exact (Box.made_at (n := w.heap.size + 1) (w.alloc _) _ _ (by simp)).alloc _, Nat.le_trans hbw BB.size, .inl ni, .inl nl⟩)
  have I0 := Lib.hid (h.call BB hbw)
  have D0 := Lib.hid (BB.mono hbw)
  have K0 := Lib.hid ((Kb.refl (B := P) w).call BB)
  have Y0 := Lib.hid hBy
  have E0 := Lib.hid ni
  have F0 := Lib.hid nl
  have G0 := Lib.hid nd
  have HD := Lib.hid (show Ms.decParts (Ms.plain q.m, bs) = (Ms.rd_slot (Ms.plain q.m, bs)).bind fun q => (Ms.rd_gen q).bind fun q => (Ms.rd_frame q).bind fun q => (Ms.rd_code q).bind fun q => (Ms.rd_n q).bind fun q => (Ms.rd_of q).bind fun q => (Ms.rd_bits q).bind fun q => (Ms.rd_sum q).bind fun q => (Ms.rdIns q).bind fun q => (Ms.rdLog q).bind fun q => Ms.rdData q from rfl)
  have c1 := fun (q : Ms.S) X bs hy hI hS => Lib.hid (rs_slot q P w.heap.size (w.heap.size + 1 + 1) (w.heap.size + 1) bs b Bb Bp X hy hbB hbP hI hS)
  have c2 := fun (q : Ms.S) X bs hy hI hS => Lib.hid (rs_gen q P w.heap.size (w.heap.size + 1 + 1) (w.heap.size + 1) bs b Bb Bp X hy hbB hbP hI hS)
  have c3 := fun (q : Ms.S) X bs hy hI hS => Lib.hid (rs_frame q P w.heap.size (w.heap.size + 1 + 1) (w.heap.size + 1) bs b Bb Bp X hy hbB hbP hI hS)
  have c4 := fun (q : Ms.S) X bs hy hI hS => Lib.hid (rs_code q P w.heap.size (w.heap.size + 1 + 1) (w.heap.size + 1) bs b Bb Bp X hy hbB hbP hI hS)
  have c5 := fun (q : Ms.S) X bs hy hI hS => Lib.hid (rs_n q P w.heap.size (w.heap.size + 1 + 1) (w.heap.size + 1) bs b Bb Bp X hy hbB hbP hI hS)
  have c6 := fun (q : Ms.S) X bs hy hI hS => Lib.hid (rs_of q P w.heap.size (w.heap.size + 1 + 1) (w.heap.size + 1) bs b Bb Bp X hy hbB hbP hI hS)
  have c7 := fun (q : Ms.S) X bs hy hI hS => Lib.hid (rs_bits q P w.heap.size (w.heap.size + 1 + 1) (w.heap.size + 1) bs b Bb Bp X hy hbB hbP hI hS)
  have c8 := fun (q : Ms.S) X bs hy hI hS => Lib.hid (rs_sum q P w.heap.size (w.heap.size + 1 + 1) (w.heap.size + 1) bs b Bb Bp X hy hbB hbP hI hS)
  have c9 := fun (q : Ms.S) X bs hy hN hI hS => Lib.hid (rs_ins q P w.heap.size (w.heap.size + 1 + 1) (w.heap.size + 1) bs b Bb Bp X hy hbB hbP hN hI hS)
  have c10 := fun (q : Ms.S) X bs hy hN hI hS => Lib.hid (rs_log q P w.heap.size (w.heap.size + 1 + 1) (w.heap.size + 1) bs b Bb Bp X hy hbB hbP hN hI hS)
  have c11 := fun (q : Ms.S) X bs hy hN hI hS => Lib.hid (rs_data q P w.heap.size (w.heap.size + 1 + 1) (w.heap.size + 1) bs b Bb Bp X hy hbB hbP hN hI hS)
  have HW0 := Lib.hid hW0.symm
  have ltP := hP.lt
  clear h hP hW0 BB hBy ni nl nd
  go_enter Try.func53, Try.ntmps53
  go_upto_region 2 with fail
  rw [HW0.out]
  go_wp2_with (go_at_call 66; first | ((with_reducible refine ((c1 q _ bs Y0.out I0.out S0.out).out).mono ?_); rintro e w1 (⟨q1, r1, hr, rfl, hy, hI, hS, hkd, hB, hK, ⟨n1, n2, n3⟩⟩ | ⟨hn, ⟨ss, rfl⟩, hB, hK, hC⟩); (all_goals first | (have R1 := Lib.hid hr; have Y1 := Lib.hid hy; have I1 := Lib.hid hI; have S1 := Lib.hid hS; have D1 := Lib.hid (D0.out.trans hB); have K1 := Lib.hid (K0.out.trans hK); have E1 := Lib.hid (n1 E0.out); have F1 := Lib.hid (n2 F0.out); have G1 := Lib.hid (n3 G0.out); clear hr hy hI hS hB hK n1 n2 n3 hkd) | (have N1 := Lib.hid hn; have D1 := Lib.hid (D0.out.trans hB); have K1 := Lib.hid (K0.out.trans hK); have B1 := Lib.hid hC; clear hn hB hK hC))) | ((with_reducible refine ((c2 q1 _ r1 Y1.out I1.out S1.out).out).mono ?_); rintro e w2 (⟨q2, r2, hr, rfl, hy, hI, hS, hkd, hB, hK, ⟨n1, n2, n3⟩⟩ | ⟨hn, ⟨ss, rfl⟩, hB, hK, hC⟩); (all_goals first | (have R2 := Lib.hid hr; have Y2 := Lib.hid hy; have I2 := Lib.hid hI; have S2 := Lib.hid hS; have D2 := Lib.hid (D1.out.trans hB); have K2 := Lib.hid (K1.out.trans hK); have E2 := Lib.hid (n1 E1.out); have F2 := Lib.hid (n2 F1.out); have G2 := Lib.hid (n3 G1.out); clear hr hy hI hS hB hK n1 n2 n3 hkd) | (have N2 := Lib.hid hn; have D2 := Lib.hid (D1.out.trans hB); have K2 := Lib.hid (K1.out.trans hK); have B2 := Lib.hid hC; clear hn hB hK hC))) | ((with_reducible refine ((c3 q2 _ r2 Y2.out I2.out S2.out).out).mono ?_); rintro e w3 (⟨q3, r3, hr, rfl, hy, hI, hS, hkd, hB, hK, ⟨n1, n2, n3⟩⟩ | ⟨hn, ⟨ss, rfl⟩, hB, hK, hC⟩); (all_goals first | (have R3 := Lib.hid hr; have Y3 := Lib.hid hy; have I3 := Lib.hid hI; have S3 := Lib.hid hS; have D3 := Lib.hid (D2.out.trans hB); have K3 := Lib.hid (K2.out.trans hK); have E3 := Lib.hid (n1 E2.out); have F3 := Lib.hid (n2 F2.out); have G3 := Lib.hid (n3 G2.out); clear hr hy hI hS hB hK n1 n2 n3 hkd) | (have N3 := Lib.hid hn; have D3 := Lib.hid (D2.out.trans hB); have K3 := Lib.hid (K2.out.trans hK); have B3 := Lib.hid hC; clear hn hB hK hC))) | ((with_reducible refine ((c4 q3 _ r3 Y3.out I3.out S3.out).out).mono ?_); rintro e w4 (⟨q4, r4, hr, rfl, hy, hI, hS, hkd, hB, hK, ⟨n1, n2, n3⟩⟩ | ⟨hn, ⟨ss, rfl⟩, hB, hK, hC⟩); (all_goals first | (have R4 := Lib.hid hr; have Y4 := Lib.hid hy; have I4 := Lib.hid hI; have S4 := Lib.hid hS; have D4 := Lib.hid (D3.out.trans hB); have K4 := Lib.hid (K3.out.trans hK); have E4 := Lib.hid (n1 E3.out); have F4 := Lib.hid (n2 F3.out); have G4 := Lib.hid (n3 G3.out); clear hr hy hI hS hB hK n1 n2 n3 hkd) | (have N4 := Lib.hid hn; have D4 := Lib.hid (D3.out.trans hB); have K4 := Lib.hid (K3.out.trans hK); have B4 := Lib.hid hC; clear hn hB hK hC))) | ((with_reducible refine ((c5 q4 _ r4 Y4.out I4.out S4.out).out).mono ?_); rintro e w5 (⟨q5, r5, hr, rfl, hy, hI, hS, hkd, hB, hK, ⟨n1, n2, n3⟩⟩ | ⟨hn, ⟨ss, rfl⟩, hB, hK, hC⟩); (all_goals first | (have R5 := Lib.hid hr; have Y5 := Lib.hid hy; have I5 := Lib.hid hI; have S5 := Lib.hid hS; have D5 := Lib.hid (D4.out.trans hB); have K5 := Lib.hid (K4.out.trans hK); have E5 := Lib.hid (n1 E4.out); have F5 := Lib.hid (n2 F4.out); have G5 := Lib.hid (n3 G4.out); clear hr hy hI hS hB hK n1 n2 n3 hkd) | (have N5 := Lib.hid hn; have D5 := Lib.hid (D4.out.trans hB); have K5 := Lib.hid (K4.out.trans hK); have B5 := Lib.hid hC; clear hn hB hK hC))) | ((with_reducible refine ((c6 q5 _ r5 Y5.out I5.out S5.out).out).mono ?_); rintro e w6 (⟨q6, r6, hr, rfl, hy, hI, hS, hkd, hB, hK, ⟨n1, n2, n3⟩⟩ | ⟨hn, ⟨ss, rfl⟩, hB, hK, hC⟩); (all_goals first | (have R6 := Lib.hid hr; have Y6 := Lib.hid hy; have I6 := Lib.hid hI; have S6 := Lib.hid hS; have D6 := Lib.hid (D5.out.trans hB); have K6 := Lib.hid (K5.out.trans hK); have E6 := Lib.hid (n1 E5.out); have F6 := Lib.hid (n2 F5.out); have G6 := Lib.hid (n3 G5.out); clear hr hy hI hS hB hK n1 n2 n3 hkd) | (have N6 := Lib.hid hn; have D6 := Lib.hid (D5.out.trans hB); have K6 := Lib.hid (K5.out.trans hK); have B6 := Lib.hid hC; clear hn hB hK hC))) | ((with_reducible refine ((c7 q6 _ r6 Y6.out I6.out S6.out).out).mono ?_); rintro e w7 (⟨q7, r7, hr, rfl, hy, hI, hS, hkd, hB, hK, ⟨n1, n2, n3⟩⟩ | ⟨hn, ⟨ss, rfl⟩, hB, hK, hC⟩); (all_goals first | (have R7 := Lib.hid hr; have Y7 := Lib.hid hy; have I7 := Lib.hid hI; have S7 := Lib.hid hS; have D7 := Lib.hid (D6.out.trans hB); have K7 := Lib.hid (K6.out.trans hK); have E7 := Lib.hid (n1 E6.out); have F7 := Lib.hid (n2 F6.out); have G7 := Lib.hid (n3 G6.out); clear hr hy hI hS hB hK n1 n2 n3 hkd) | (have N7 := Lib.hid hn; have D7 := Lib.hid (D6.out.trans hB); have K7 := Lib.hid (K6.out.trans hK); have B7 := Lib.hid hC; clear hn hB hK hC))) | ((with_reducible refine ((c8 q7 _ r7 Y7.out I7.out S7.out).out).mono ?_); rintro e w8 (⟨q8, r8, hr, rfl, hy, hI, hS, hkd, hB, hK, ⟨n1, n2, n3⟩⟩ | ⟨hn, ⟨ss, rfl⟩, hB, hK, hC⟩); (all_goals first | (have R8 := Lib.hid hr; have Y8 := Lib.hid hy; have I8 := Lib.hid hI; have S8 := Lib.hid hS; have D8 := Lib.hid (D7.out.trans hB); have K8 := Lib.hid (K7.out.trans hK); have E8 := Lib.hid (n1 E7.out); have F8 := Lib.hid (n2 F7.out); have G8 := Lib.hid (n3 G7.out); clear hr hy hI hS hB hK n1 n2 n3 hkd) | (have N8 := Lib.hid hn; have D8 := Lib.hid (D7.out.trans hB); have K8 := Lib.hid (K7.out.trans hK); have B8 := Lib.hid hC; clear hn hB hK hC))) | ((with_reducible refine ((c9 q8 _ r8 Y8.out E8.out I8.out S8.out).out).mono ?_); rintro e w9 (⟨q9, r9, hr, rfl, hy, hI, hS, hkd, hB, hK, ⟨n2, n3⟩⟩ | ⟨hn, ⟨ss, rfl⟩, hB, hK, hC⟩); (all_goals first | (have R9 := Lib.hid hr; have Y9 := Lib.hid hy; have I9 := Lib.hid hI; have S9 := Lib.hid hS; have D9 := Lib.hid (D8.out.trans hB); have K9 := Lib.hid (K8.out.trans hK); have F9 := Lib.hid (n2 F8.out); have G9 := Lib.hid (n3 G8.out); clear hr hy hI hS hB hK n2 n3 hkd) | (have N9 := Lib.hid hn; have D9 := Lib.hid (D8.out.trans hB); have K9 := Lib.hid (K8.out.trans hK); have B9 := Lib.hid hC; clear hn hB hK hC))) | ((with_reducible refine ((c10 q9 _ r9 Y9.out F9.out I9.out S9.out).out).mono ?_); rintro e w10 (⟨q10, r10, hr, rfl, hy, hI, hS, hkd, hB, hK, n3⟩ | ⟨hn, ⟨ss, rfl⟩, hB, hK, hC⟩); (all_goals first | (have R10 := Lib.hid hr; have Y10 := Lib.hid hy; have I10 := Lib.hid hI; have S10 := Lib.hid hS; have D10 := Lib.hid (D9.out.trans hB); have K10 := Lib.hid (K9.out.trans hK); have G10 := Lib.hid (n3 G9.out); clear hr hy hI hS hB hK n3 hkd) | (have N10 := Lib.hid hn; have D10 := Lib.hid (D9.out.trans hB); have K10 := Lib.hid (K9.out.trans hK); have B10 := Lib.hid hC; clear hn hB hK hC))) | ((with_reducible refine ((c11 q10 _ r10 Y10.out G10.out I10.out S10.out).out).mono ?_); rintro e w11 (⟨q11, r11, hr, rfl, hy, hI, hS, hRD, hB, hK⟩ | ⟨hn, ⟨ss, rfl⟩, hB, hK, hC⟩); (all_goals first | (have R11 := Lib.hid hr; have Y11 := Lib.hid hy; have I11 := Lib.hid hI; have S11 := Lib.hid hS; have D11 := Lib.hid (D10.out.trans hB); have K11 := Lib.hid (K10.out.trans hK); have RD11 := Lib.hid hRD; clear hr hy hI hS hB hK  hRD) | (have N11 := Lib.hid hn; have D11 := Lib.hid (D10.out.trans hB); have K11 := Lib.hid (K10.out.trans hK); have B11 := Lib.hid hC; clear hn hB hK hC))))
  · go_end0
    exact .inl ⟨q11, r11, by rw [HD.out, R1.out, Option.bind_some , R2.out, Option.bind_some , R3.out, Option.bind_some , R4.out, Option.bind_some , R5.out, Option.bind_some , R6.out, Option.bind_some , R7.out, Option.bind_some , R8.out, Option.bind_some , R9.out, Option.bind_some , R10.out, Option.bind_some , R11.out], rfl, Y11.out, I11.out, S11.out.box, S11.out.ri, S11.out.rl, RD11.out, D11.out, K11.out⟩
  · exact ⟨rfl, .inr ⟨by rw [HD.out, R1.out, Option.bind_some, R2.out, Option.bind_some, R3.out, Option.bind_some, R4.out, Option.bind_some, R5.out, Option.bind_some, R6.out, Option.bind_some, R7.out, Option.bind_some, R8.out, Option.bind_some, R9.out, Option.bind_some, R10.out, Option.bind_some, N11.out], ⟨_, rfl⟩, D11.out, K11.out, B11.out⟩⟩
  · exact ⟨rfl, .inr ⟨by rw [HD.out, R1.out, Option.bind_some, R2.out, Option.bind_some, R3.out, Option.bind_some, R4.out, Option.bind_some, R5.out, Option.bind_some, R6.out, Option.bind_some, R7.out, Option.bind_some, R8.out, Option.bind_some, R9.out, Option.bind_some, N10.out, Option.bind_none], ⟨_, rfl⟩, D10.out, K10.out, B10.out⟩⟩
  · exact ⟨rfl, .inr ⟨by rw [HD.out, R1.out, Option.bind_some, R2.out, Option.bind_some, R3.out, Option.bind_some, R4.out, Option.bind_some, R5.out, Option.bind_some, R6.out, Option.bind_some, R7.out, Option.bind_some, R8.out, Option.bind_some, N9.out, Option.bind_none], ⟨_, rfl⟩, D9.out, K9.out, B9.out⟩⟩
  · exact ⟨rfl, .inr ⟨by rw [HD.out, R1.out, Option.bind_some, R2.out, Option.bind_some, R3.out, Option.bind_some, R4.out, Option.bind_some, R5.out, Option.bind_some, R6.out, Option.bind_some, R7.out, Option.bind_some, N8.out, Option.bind_none], ⟨_, rfl⟩, D8.out, K8.out, B8.out⟩⟩
  · exact ⟨rfl, .inr ⟨by rw [HD.out, R1.out, Option.bind_some, R2.out, Option.bind_some, R3.out, Option.bind_some, R4.out, Option.bind_some, R5.out, Option.bind_some, R6.out, Option.bind_some, N7.out, Option.bind_none], ⟨_, rfl⟩, D7.out, K7.out, B7.out⟩⟩
  · exact ⟨rfl, .inr ⟨by rw [HD.out, R1.out, Option.bind_some, R2.out, Option.bind_some, R3.out, Option.bind_some, R4.out, Option.bind_some, R5.out, Option.bind_some, N6.out, Option.bind_none], ⟨_, rfl⟩, D6.out, K6.out, B6.out⟩⟩
  · exact ⟨rfl, .inr ⟨by rw [HD.out, R1.out, Option.bind_some, R2.out, Option.bind_some, R3.out, Option.bind_some, R4.out, Option.bind_some, N5.out, Option.bind_none], ⟨_, rfl⟩, D5.out, K5.out, B5.out⟩⟩
  · exact ⟨rfl, .inr ⟨by rw [HD.out, R1.out, Option.bind_some, R2.out, Option.bind_some, R3.out, Option.bind_some, N4.out, Option.bind_none], ⟨_, rfl⟩, D4.out, K4.out, B4.out⟩⟩
  · exact ⟨rfl, .inr ⟨by rw [HD.out, R1.out, Option.bind_some, R2.out, Option.bind_some, N3.out, Option.bind_none], ⟨_, rfl⟩, D3.out, K3.out, B3.out⟩⟩
  · exact ⟨rfl, .inr ⟨by rw [HD.out, R1.out, Option.bind_some, N2.out, Option.bind_none], ⟨_, rfl⟩, D2.out, K2.out, B2.out⟩⟩
  · exact ⟨rfl, .inr ⟨by rw [HD.out, N1.out, Option.bind_none], ⟨_, rfl⟩, D1.out, K1.out, B1.out⟩⟩

set_option maxRecDepth 100000 in
set_option maxHeartbeats 4000000 in
theorem laymsg_r (P : Nat) (bs : List Int) (b Bb Bp : Nat) (w : World) (hBy : Im.IsBytes bs) (hbB : b ≤ Bb) (hbP : b ≤ P) (hbw : b ≤ w.heap.size) (h : Rd b Bb Bp bs w) (hP : Box w P 29 (Ms.cells (Ms.start 0 0 0 0 0) (.slice none 0 0) (.slice none 0 0) (.slice none 0 0))) :
    Calls Try.prog 31 #[.func (.func 60) #[] #[.pointer (some ⟨Bp, 0, none⟩)], .pointer (some ⟨P, 0, none⟩)] w (GotM (Ms.decMsg bs) b Bb Bp P w) := by
  have c1 := fun bs X hy hb hI hB => Lib.hid (part_int 1 1 rfl 0 P 0 29 (Ms.cells (Ms.start 0 0 0 0 0) (.slice none 0 0) (.slice none 0 0) (.slice none 0 0)) bs b Bb Bp X (by decide) hy hbB hbP hb hI hB rfl (by decide) (by decide) (by decide))
  have c2 := fun (k : Int) bs X hy hb hI hB => Lib.hid (part_int 1 1 rfl 0 P 1 29 (Ms.cells (Ms.start k 0 0 0 0) (.slice none 0 0) (.slice none 0 0) (.slice none 0 0)) bs b Bb Bp X (by decide) hy hbB hbP hb hI hB rfl (by decide) (by decide) (by decide))
  have c3 := fun (k f : Int) bs X hy hb hI hB => Lib.hid (part_u16 2 2 rfl 0 P 2 29 (Ms.cells (Ms.start k f 0 0 0) (.slice none 0 0) (.slice none 0 0) (.slice none 0 0)) bs b Bb Bp X (by decide) hy hbB hbP hb hI hB rfl (by decide) (by decide) (by decide))
  have c4 := fun (k f s : Int) bs X hy hb hI hB => Lib.hid (part_u16 2 2 rfl 0 P 3 29 (Ms.cells (Ms.start k f s 0 0) (.slice none 0 0) (.slice none 0 0) (.slice none 0 0)) bs b Bb Bp X (by decide) hy hbB hbP hb hI hB rfl (by decide) (by decide) (by decide))
  have c5 := fun (k f s a : Int) bs X hy hb hI hB => Lib.hid (part_u32 4 4 rfl 0 P 4 29 (Ms.cells (Ms.start k f s a 0) (.slice none 0 0) (.slice none 0 0) (.slice none 0 0)) bs b Bb Bp X (by decide) hy hbB hbP hb hI hB rfl (by decide) (by decide) (by decide))
  have c6 : ∀ (k f s a n : Int) (bs : List Int) (X : World), Im.IsBytes bs → b ≤ X.heap.size → Rd b Bb Bp bs X → Box X P 29 (Ms.cells (Ms.start k f s a n) (.slice none 0 0) (.slice none 0 0) (.slice none 0 0)) → Hid (Calls Try.prog 53 #[.func (.func 60) #[] #[.pointer (some ⟨Bp, 0, none⟩)], .int .i64 (Ms.own k), .pointer (some ⟨P, 0, none⟩)] X (GotM (Ms.decParts (Ms.start k f s a n, bs)) b Bb Bp P X)) := fun k f s a n bs X hy hb hI hB => Lib.hid (layparts_r (⟨Ms.start k f s a n, none, 0, none, 0, none, 0⟩ : Ms.S) P bs b Bb Bp X hy hbB hbP hb ⟨rfl, rfl, rfl⟩ ⟨rfl, rfl, rfl⟩ ⟨rfl, rfl, rfl⟩ hI hB)
  have cp := fun k X => Lib.hid (partsof_any k X)
  have HD := Lib.hid (show Ms.decMsg bs = (Im.rdn 1 bs).bind fun k => (Im.rdn 1 k.2).bind fun f => (Im.rdn 2 f.2).bind fun s => (Im.rdn 2 s.2).bind fun a => (Im.rdn 4 a.2).bind fun n => if Ms.isKind k.1 then Ms.decParts (Ms.start k.1 f.1 s.1 a.1 n.1, n.2) else none from rfl)
  have I0 := Lib.hid h
  have Y0 := Lib.hid hBy
  have P0 := Lib.hid hP
  have K0 := Lib.hid (Rk.refl b Bb P w)
  have ltP := hP.lt
  clear h hP hBy
  go_enter Try.func31, Try.ntmps31
  go_upto_region 5 with (first | (go_at_call 51; first | ((with_reducible refine ((c1  bs _ Y0.out (Nat.le_trans hbw K0.out.below.size) I0.out P0.out).out).mono ?_); rintro e w1 (⟨k, r1, hr, rfl, hI, hK, hB⟩ | ⟨hn, ⟨ss, rfl⟩, hK, cs', hB, hs⟩); (all_goals first | (have R1 := Lib.hid hr; have Y1 := Lib.hid (Im.rdn_inv Y0.out hr).2.2.2; have P1 := Lib.hid (show Box w1 P 29 (Ms.cells (Ms.start k 0 0 0 0) (.slice none 0 0) (.slice none 0 0) (.slice none 0 0)) from hB); have I1 := Lib.hid hI; have K1 := Lib.hid (K0.out.trans hK); clear hr hI hK hB) | (have N1 := Lib.hid hn; have K1 := Lib.hid (K0.out.trans hK); have B1 := Lib.hid hB; have Z1 := Lib.hid hs; clear hn hK hB hs))) | ((with_reducible refine ((c2 k r1 _ Y1.out (Nat.le_trans hbw K1.out.below.size) I1.out P1.out).out).mono ?_); rintro e w2 (⟨f, r2, hr, rfl, hI, hK, hB⟩ | ⟨hn, ⟨ss, rfl⟩, hK, cs', hB, hs⟩); (all_goals first | (have R2 := Lib.hid hr; have Y2 := Lib.hid (Im.rdn_inv Y1.out hr).2.2.2; have P2 := Lib.hid (show Box w2 P 29 (Ms.cells (Ms.start k f 0 0 0) (.slice none 0 0) (.slice none 0 0) (.slice none 0 0)) from hB); have I2 := Lib.hid hI; have K2 := Lib.hid (K1.out.trans hK); clear hr hI hK hB) | (have N2 := Lib.hid hn; have K2 := Lib.hid (K1.out.trans hK); have B2 := Lib.hid hB; have Z2 := Lib.hid hs; clear hn hK hB hs)))) | (go_at_call 52; first | ((with_reducible refine ((c3 k f r2 _ Y2.out (Nat.le_trans hbw K2.out.below.size) I2.out P2.out).out).mono ?_); rintro e w3 (⟨s, r3, hr, rfl, hI, hK, hB⟩ | ⟨hn, ⟨ss, rfl⟩, hK, cs', hB, hs⟩); (all_goals first | (have R3 := Lib.hid hr; have Y3 := Lib.hid (Im.rdn_inv Y2.out hr).2.2.2; have P3 := Lib.hid (show Box w3 P 29 (Ms.cells (Ms.start k f s 0 0) (.slice none 0 0) (.slice none 0 0) (.slice none 0 0)) from hB); have I3 := Lib.hid hI; have K3 := Lib.hid (K2.out.trans hK); clear hr hI hK hB) | (have N3 := Lib.hid hn; have K3 := Lib.hid (K2.out.trans hK); have B3 := Lib.hid hB; have Z3 := Lib.hid hs; clear hn hK hB hs))) | ((with_reducible refine ((c4 k f s r3 _ Y3.out (Nat.le_trans hbw K3.out.below.size) I3.out P3.out).out).mono ?_); rintro e w4 (⟨a, r4, hr, rfl, hI, hK, hB⟩ | ⟨hn, ⟨ss, rfl⟩, hK, cs', hB, hs⟩); (all_goals first | (have R4 := Lib.hid hr; have Y4 := Lib.hid (Im.rdn_inv Y3.out hr).2.2.2; have P4 := Lib.hid (show Box w4 P 29 (Ms.cells (Ms.start k f s a 0) (.slice none 0 0) (.slice none 0 0) (.slice none 0 0)) from hB); have I4 := Lib.hid hI; have K4 := Lib.hid (K3.out.trans hK); clear hr hI hK hB) | (have N4 := Lib.hid hn; have K4 := Lib.hid (K3.out.trans hK); have B4 := Lib.hid hB; have Z4 := Lib.hid hs; clear hn hK hB hs)))) | (go_at_call 33; ((with_reducible refine ((c5 k f s a r4 _ Y4.out (Nat.le_trans hbw K4.out.below.size) I4.out P4.out).out).mono ?_); rintro e w5 (⟨n, r5, hr, rfl, hI, hK, hB⟩ | ⟨hn, ⟨ss, rfl⟩, hK, cs', hB, hs⟩); (all_goals first | (have R5 := Lib.hid hr; have Y5 := Lib.hid (Im.rdn_inv Y4.out hr).2.2.2; have P5 := Lib.hid (show Box w5 P 29 (Ms.cells (Ms.start k f s a n) (.slice none 0 0) (.slice none 0 0) (.slice none 0 0)) from hB); have I5 := Lib.hid hI; have K5 := Lib.hid (K4.out.trans hK); clear hr hI hK hB) | (have N5 := Lib.hid hn; have K5 := Lib.hid (K4.out.trans hK); have B5 := Lib.hid hB; have Z5 := Lib.hid hs; clear hn hK hB hs)))))
  rotate_left
  · exact ⟨rfl, .inr ⟨by rw [HD.out, R1.out, Option.bind_some, R2.out, Option.bind_some, R3.out, Option.bind_some, R4.out, Option.bind_some, N5.out, Option.bind_none], ⟨_, rfl⟩, K5.out.below, K5.out.kb, _, B5.out, Z5.out⟩⟩
  · exact ⟨rfl, .inr ⟨by rw [HD.out, R1.out, Option.bind_some, R2.out, Option.bind_some, R3.out, Option.bind_some, N4.out, Option.bind_none], ⟨_, rfl⟩, K4.out.below, K4.out.kb, _, B4.out, Z4.out⟩⟩
  · exact ⟨rfl, .inr ⟨by rw [HD.out, R1.out, Option.bind_some, R2.out, Option.bind_some, N3.out, Option.bind_none], ⟨_, rfl⟩, K3.out.below, K3.out.kb, _, B3.out, Z3.out⟩⟩
  · exact ⟨rfl, .inr ⟨by rw [HD.out, R1.out, Option.bind_some, N2.out, Option.bind_none], ⟨_, rfl⟩, K2.out.below, K2.out.kb, _, B2.out, Z2.out⟩⟩
  · exact ⟨rfl, .inr ⟨by rw [HD.out, N1.out, Option.bind_none], ⟨_, rfl⟩, K1.out.below, K1.out.kb, _, B1.out, Z1.out⟩⟩
  have p5 : w5.cell? ⟨P, 0, none⟩ = some (.int .i64 k) := P5.out.cell 0
  have cpk := cp k
  cases hk : Ms.isKind k with
  | true =>
    rw [hk] at cpk
    have HK := Lib.hid hk
    clear hk
    go_wp2_with (first | (go_at_call 34; ((with_reducible refine ((cpk _).out).mono ?_); rintro e wp ⟨rfl, rfl⟩)) | (go_at_call 30; ((with_reducible refine (need_yes _ _).mono ?_); rintro r wn ⟨rfl, rfl⟩)) | (go_at_call 53; ((with_reducible refine ((c6 k f s a n r5 w5 Y5.out (Nat.le_trans hbw K5.out.below.size) I5.out P5.out).out).mono ?_); rintro e w6 (⟨q', rest, hr, rfl, hy, hI, hB, hri, hrl, hrd, hb, hK⟩ | ⟨hn, ⟨ss, rfl⟩, hb, hK, hC⟩); (all_goals first | (have R6 := Lib.hid hr; have Y6 := Lib.hid hy; have I6 := Lib.hid hI; have P6 := Lib.hid hB; have RI6 := Lib.hid hri; have RL6 := Lib.hid hrl; have RD6 := Lib.hid hrd; have D6 := Lib.hid (K5.out.below.trans hb); have K6 := Lib.hid (K5.out.kb.trans hK); clear hr hy hI hB hri hrl hrd hb hK) | (have N6 := Lib.hid hn; have D6 := Lib.hid (K5.out.below.trans hb); have K6 := Lib.hid (K5.out.kb.trans hK); have B6 := Lib.hid hC; clear hn hb hK hC)))))
    · go_end0
      exact .inl ⟨q', rest, by rw [HD.out, R1.out, Option.bind_some, R2.out, Option.bind_some, R3.out, Option.bind_some, R4.out, Option.bind_some, R5.out, Option.bind_some, HK.out, if_pos rfl]; exact R6.out, rfl, Y6.out, I6.out, P6.out, RI6.out, RL6.out, RD6.out, D6.out, K6.out⟩
    · exact ⟨rfl, .inr ⟨by rw [HD.out, R1.out, Option.bind_some, R2.out, Option.bind_some, R3.out, Option.bind_some, R4.out, Option.bind_some, R5.out, Option.bind_some, HK.out, if_pos rfl]; exact N6.out, ⟨_, rfl⟩, D6.out, K6.out, B6.out⟩⟩
  | false =>
    rw [hk] at cpk
    have HK := Lib.hid hk
    clear hk
    go_wp2_with (first | (go_at_call 34; ((with_reducible refine ((cpk _).out).mono ?_); rintro e wp ⟨rfl, rfl⟩)) | (go_at_call 30; ((with_reducible refine (need_no _ _).mono ?_); rintro r wn ⟨rfl, rfl⟩)))
    exact ⟨rfl, .inr ⟨by rw [HD.out, R1.out, Option.bind_some, R2.out, Option.bind_some, R3.out, Option.bind_some, R4.out, Option.bind_some, R5.out, Option.bind_some, HK.out]; rfl, ⟨_, rfl⟩, K5.out.below, K5.out.kb, _, P5.out, rfl⟩⟩
end Go.Proofs.Ytgmlbimgcifenaa
namespace Im
open Go
theorem getB_inv {size : Nat} {bs l rest : List Int} (hB : IsBytes bs) (h : getB size bs = some (l, rest)) : bs = bytesOf size l.length ++ (l ++ rest) ∧ IsBytes l ∧ IsBytes rest ∧ (l.length : Int) < 2 ^ (8 * size) := by
  unfold getB at h
  cases h1 : rdn size bs with
  | none => rw [h1] at h; cases h
  | some q =>
    obtain ⟨n, r⟩ := q
    rw [h1, Option.bind_some] at h
    obtain ⟨e1, e2, e3, e4⟩ := rdn_inv hB h1
    dsimp only at h
    split at h
    · rename_i hle
      injection h with h
      injection h with ha hb
      have hl : (l.length : Int) = n := by rw [← ha, List.length_take]; omega
      refine ⟨by rw [hl, ← ha, ← hb, List.take_append_drop]; exact e1, by rw [← ha]; exact e4.take _, by rw [← hb]; exact e4.drop _, by rw [hl]; exact e3⟩
    · cases h
theorem getB_put {size : Nat} {l rest : List Int} (h : (l.length : Int) < 2 ^ (8 * size)) : getB size (bytesOf size l.length ++ (l ++ rest)) = some (l, rest) := by
  unfold getB
  rw [rdn_bytes, Option.bind_some, Int.emod_eq_of_lt (by omega) h]
  dsimp only
  rw [Int.toNat_natCast, if_pos (by simp)]
  simp
theorem decN_inv {α : Type} {dec : List Int → Option (α × List Int)} {f : α → List Int} {Q : α → Prop} (hd : ∀ bs v rest, IsBytes bs → dec bs = some (v, rest) → bs = f v ++ rest ∧ IsBytes rest ∧ Q v) : ∀ {n : Nat} {bs rest : List Int} {l : List α}, IsBytes bs → decN dec n bs = some (l, rest) → bs = l.flatMap f ++ rest ∧ IsBytes rest ∧ (∀ v ∈ l, Q v) ∧ l.length = n
  | 0, bs, rest, l, hB, h => by
    unfold decN at h
    injection h with h
    injection h with h1 h2
    subst h1 h2
    exact ⟨rfl, hB, fun v h => (by cases h), rfl⟩
  | n + 1, bs, rest, l, hB, h => by
    rw [decN] at h
    cases h1 : dec bs with
    | none => rw [h1] at h; cases h
    | some q =>
      obtain ⟨v, r⟩ := q
      rw [h1, Option.bind_some] at h
      obtain ⟨e1, e2, e3⟩ := hd bs v r hB h1
      cases h2 : decN dec n r with
      | none => rw [h2] at h; cases h
      | some q2 =>
        obtain ⟨l2, r2⟩ := q2
        rw [h2, Option.bind_some] at h
        injection h with h
        injection h with ha hb
        obtain ⟨g1, g2, g3, g4⟩ := decN_inv hd e2 h2
        dsimp only at ha hb
        subst ha hb
        refine ⟨by rw [e1, g1, List.flatMap_cons, List.append_assoc], g2, fun u hu => ?_, by rw [List.length_cons, g4]⟩
        rcases List.mem_cons.1 hu with rfl | hu
        · exact e3
        · exact g3 u hu
theorem decL_inv {α : Type} {size : Nat} {dec : List Int → Option (α × List Int)} {f : α → List Int} {Q : α → Prop} (hd : ∀ bs v rest, IsBytes bs → dec bs = some (v, rest) → bs = f v ++ rest ∧ IsBytes rest ∧ Q v) {bs rest : List Int} {l : List α} (hB : IsBytes bs) (h : decL size dec bs = some (l, rest)) : bs = (bytesOf size l.length ++ l.flatMap f) ++ rest ∧ IsBytes rest ∧ (∀ v ∈ l, Q v) ∧ (l.length : Int) < 2 ^ (8 * size) := by
  unfold decL at h
  cases h1 : rdn size bs with
  | none => rw [h1] at h; cases h
  | some q =>
    obtain ⟨n, r⟩ := q
    rw [h1, Option.bind_some] at h
    obtain ⟨e1, e2, e3, e4⟩ := rdn_inv hB h1
    obtain ⟨g1, g2, g3, g4⟩ := decN_inv hd e4 h
    have hl : (l.length : Int) = n := by rw [g4]; dsimp only; omega
    exact ⟨by rw [hl, List.append_assoc, ← g1]; exact e1, g2, g3, by rw [hl]; exact e3⟩
theorem decN_put {α β : Type} {dec : List Int → Option (α × List Int)} {f : β → List Int} {R : β → α → Prop} : ∀ (l : List β) (rest : List Int), (∀ v ∈ l, ∀ rest, ∃ u, dec (f v ++ rest) = some (u, rest) ∧ R v u) → ∃ l', decN dec l.length (l.flatMap f ++ rest) = some (l', rest) ∧ l'.length = l.length ∧ ∀ k (h : k < l.length) (h' : k < l'.length), R l[k] l'[k]
  | [], rest, _ => ⟨[], rfl, rfl, fun k h _ => (by simp at h)⟩
  | v :: l, rest, h => by
    obtain ⟨u, h1, h2⟩ := h v (by simp) (l.flatMap f ++ rest)
    obtain ⟨l', g1, g2, g3⟩ := decN_put l rest fun v hv => h v (by simp [hv])
    refine ⟨u :: l', ?_, by simp [g2], fun k hk hk' => ?_⟩
    · rw [List.length_cons, decN, List.flatMap_cons, List.append_assoc, h1, Option.bind_some, g1, Option.bind_some]
    · cases k with
      | zero => exact h2
      | succ k => exact g3 k (by simpa using hk) (by simpa using hk')
theorem decL_put {α β : Type} {size : Nat} {dec : List Int → Option (α × List Int)} {f : β → List Int} {R : β → α → Prop} (l : List β) (rest : List Int) (hl : (l.length : Int) < 2 ^ (8 * size)) (h : ∀ v ∈ l, ∀ rest, ∃ u, dec (f v ++ rest) = some (u, rest) ∧ R v u) : ∃ l', decL size dec ((bytesOf size l.length ++ l.flatMap f) ++ rest) = some (l', rest) ∧ l'.length = l.length ∧ ∀ k (h : k < l.length) (h' : k < l'.length), R l[k] l'[k] := by
  obtain ⟨l', g1, g2⟩ := decN_put l rest h
  refine ⟨l', ?_, g2⟩
  unfold decL
  rw [List.append_assoc, rdn_bytes, Option.bind_some, Int.emod_eq_of_lt (by omega) hl]
  dsimp only
  rw [Int.toNat_natCast]
  exact g1
end Im
namespace Ms
open Go Im
open Go.Proofs.Ytgmlbimgcifenaa
theorem decInW_inv {bs rest : List Int} {p : Gm.In} (hB : IsBytes bs) (h : decInW bs = some (p, rest)) : bs = En.inBytes p ++ rest ∧ IsBytes rest ∧ Gm.tyIn p := by
  unfold decInW at h
  cases h1 : rdn 1 bs with
  | none => rw [h1] at h; cases h
  | some x =>
    rw [h1, Option.bind_some] at h
    cases h2 : rdn 1 x.2 with
    | none => rw [h2] at h; cases h
    | some y =>
      rw [h2, Option.bind_some] at h
      cases h3 : rdn 1 y.2 with
      | none => rw [h3] at h; cases h
      | some z =>
        rw [h3, Option.bind_some] at h
        injection h with h
        injection h with ha hb
        obtain ⟨e1, x0, x1, b1⟩ := rdn_inv hB h1
        obtain ⟨e2, y0, y1, b2⟩ := rdn_inv b1 h2
        obtain ⟨e3, z0, z1, b3⟩ := rdn_inv b2 h3
        have i1 : ∀ v : Int, bytesOf 1 (IntKind.i8.wrap v) = bytesOf 1 v := fun v => by
          show [] ++ [IntKind.i8.wrap v / 2 ^ (8 * 0) % 256] = [] ++ [v / 2 ^ (8 * 0) % 256]
          rw [Im.wrap_i8]
          simp
          try omega
        subst ha hb
        refine ⟨?_, b3, ⟨by dsimp only; rw [Im.wrap_i8]; omega, by dsimp only; rw [Im.wrap_i8]; omega, by dsimp only; omega⟩⟩
        show bs = (bytesOf 1 (IntKind.i8.wrap x.1) ++ (bytesOf 1 (IntKind.i8.wrap y.1) ++ bytesOf 1 z.1)) ++ z.2
        rw [i1, i1, List.append_assoc, List.append_assoc, ← e3, ← e2]
        exact e1
theorem decInW_put {p : Gm.In} (h : Gm.tyIn p) (rest : List Int) : decInW (En.inBytes p ++ rest) = some (p, rest) := by
  obtain ⟨t1, t2, t3⟩ := h
  show decInW ((bytesOf 1 p.x ++ (bytesOf 1 p.y ++ bytesOf 1 p.b)) ++ rest) = _
  rw [List.append_assoc, List.append_assoc]
  unfold decInW
  rw [rdn_bytes, Option.bind_some, rdn_bytes, Option.bind_some, rdn_bytes, Option.bind_some]
  obtain ⟨x, y, b⟩ := p
  dsimp only at *
  rw [Im.wrap_i8, Im.wrap_i8]
  congr 3
  · omega
  · omega
  · omega
theorem decEntryW_inv {bs rest : List Int} {e : En.E} (hB : IsBytes bs) (h : decEntryW bs = some (e, rest)) : bs = logBytes ⟨e, none, 0⟩ ++ rest ∧ IsBytes rest ∧ (En.Ok e ∧ En.Ty e) := by
  unfold decEntryW at h
  cases h1 : getB 2 bs with
  | none => rw [h1] at h; cases h
  | some q =>
    obtain ⟨l, r⟩ := q
    rw [h1, Option.bind_some] at h
    obtain ⟨e1, e2, e3, e4⟩ := getB_inv hB h1
    dsimp only at h
    cases h2 : En.get l with
    | none => rw [h2] at h; cases h
    | some e' =>
      rw [h2, Option.bind_some] at h
      injection h with h
      injection h with ha hb
      obtain ⟨g1, g2, g3⟩ := En.get_some e2 h2
      subst ha hb
      refine ⟨?_, e3, g1, g2⟩
      show bs = (bytesOf 2 ((En.put e').length : Int) ++ En.put e') ++ r
      rw [g3, List.append_assoc]
      exact e1
theorem decEntryW_put {s : En.S} (h : En.Ok s.e) (ht : En.Ty s.e) (rest : List Int) : ∃ e', decEntryW (logBytes s ++ rest) = some (e', rest) ∧ En.Like s.e e' := by
  obtain ⟨e', h1, h2⟩ := En.get_put h ht
  refine ⟨e', ?_, h2⟩
  have := En.put_le h.count
  show decEntryW ((bytesOf 2 ((En.put s.e).length : Int) ++ En.put s.e) ++ rest) = _
  unfold decEntryW
  rw [List.append_assoc, getB_put (by omega), Option.bind_some]
  dsimp only
  rw [h1]
  rfl
theorem rdN_inv {c : Int} {n : Nat} {set : M → Int → M} {get : M → Int} {q : M × List Int} {m : M} {rest : List Int} (hset : ∀ m y, get (set m y) = y) (hB : IsBytes q.2) (h : rdN c n set q = some (m, rest)) : ((has q.1.kind).contains c = true ∧ q.2 = bytesOf n (get m) ++ rest ∧ 0 ≤ get m ∧ get m < 2 ^ (8 * n) ∧ m = set q.1 (get m) ∧ IsBytes rest) ∨ ((has q.1.kind).contains c = false ∧ m = q.1 ∧ rest = q.2) := by
  unfold rdN at h
  split at h
  · rename_i hc
    cases h1 : rdn n q.2 with
    | none => rw [h1] at h; cases h
    | some a =>
      rw [h1, Option.bind_some] at h
      injection h with h
      injection h with ha hb
      obtain ⟨e1, e2, e3, e4⟩ := rdn_inv hB h1
      subst ha hb
      rw [hset]
      exact .inl ⟨hc, e1, e2, e3, rfl, e4⟩
  · rename_i hc
    injection h with h
    exact .inr ⟨by simpa using hc, by rw [h], by rw [h]⟩
theorem inv_slot {q : M × List Int} {m : M} {rest : List Int} (hB : IsBytes q.2) (h : rd_slot q = some (m, rest)) : ∃ y, m = { q.1 with slot := y } ∧ q.2 = sel q.1.kind 115 (bytesOf 1 m.slot) ++ rest ∧ IsBytes rest ∧ ((0 ≤ y ∧ y ≤ 255) ∨ y = q.1.slot) := by
  rcases rdN_inv (get := fun m => m.slot) (fun _ _ => rfl) hB h with ⟨hc, h1, h2, h3, h4, h5⟩ | ⟨hc, h1, h2⟩
  · exact ⟨m.slot, h4, by rw [sel_yes hc]; exact h1, h5, .inl ⟨h2, by have h6 : m.slot < 2 ^ (8 * 1) := h3; omega⟩⟩
  · exact ⟨q.1.slot, h1, by rw [sel_no hc, h2]; rfl, by rw [h2]; exact hB, .inr rfl⟩
theorem fwd_slot (q : M) (m : M) (rest : List Int) (hk : q.kind = m.kind) (hx : (has m.kind).contains 115 = true → 0 ≤ m.slot ∧ m.slot ≤ 255) (h0 : (has m.kind).contains 115 = false → m.slot = q.slot) : rd_slot (q, sel m.kind 115 (bytesOf 1 m.slot) ++ rest) = some ({ q with slot := m.slot }, rest) := by
  unfold rd_slot rdN
  dsimp only
  have hk' : has q.kind = has m.kind := by rw [hk]
  rw [hk']
  cases hc : (has m.kind).contains 115 with
  | true =>
    have := hx hc
    rw [sel_yes hc, if_pos rfl, rdn_bytes, Option.bind_some, Int.emod_eq_of_lt this.1 (by show m.slot < _; omega)]
  | false =>
    rw [sel_no hc, h0 hc, if_neg (by decide)]
    rfl
theorem inv_gen {q : M × List Int} {m : M} {rest : List Int} (hB : IsBytes q.2) (h : rd_gen q = some (m, rest)) : ∃ y, m = { q.1 with gen := y } ∧ q.2 = sel q.1.kind 103 (bytesOf 2 m.gen) ++ rest ∧ IsBytes rest ∧ ((0 ≤ y ∧ y ≤ 65535) ∨ y = q.1.gen) := by
  rcases rdN_inv (get := fun m => m.gen) (fun _ _ => rfl) hB h with ⟨hc, h1, h2, h3, h4, h5⟩ | ⟨hc, h1, h2⟩
  · exact ⟨m.gen, h4, by rw [sel_yes hc]; exact h1, h5, .inl ⟨h2, by have h6 : m.gen < 2 ^ (8 * 2) := h3; omega⟩⟩
  · exact ⟨q.1.gen, h1, by rw [sel_no hc, h2]; rfl, by rw [h2]; exact hB, .inr rfl⟩
theorem fwd_gen (q : M) (m : M) (rest : List Int) (hk : q.kind = m.kind) (hx : (has m.kind).contains 103 = true → 0 ≤ m.gen ∧ m.gen ≤ 65535) (h0 : (has m.kind).contains 103 = false → m.gen = q.gen) : rd_gen (q, sel m.kind 103 (bytesOf 2 m.gen) ++ rest) = some ({ q with gen := m.gen }, rest) := by
  unfold rd_gen rdN
  dsimp only
  have hk' : has q.kind = has m.kind := by rw [hk]
  rw [hk']
  cases hc : (has m.kind).contains 103 with
  | true =>
    have := hx hc
    rw [sel_yes hc, if_pos rfl, rdn_bytes, Option.bind_some, Int.emod_eq_of_lt this.1 (by show m.gen < _; omega)]
  | false =>
    rw [sel_no hc, h0 hc, if_neg (by decide)]
    rfl
theorem inv_frame {q : M × List Int} {m : M} {rest : List Int} (hB : IsBytes q.2) (h : rd_frame q = some (m, rest)) : ∃ y, m = { q.1 with frame := y } ∧ q.2 = sel q.1.kind 102 (bytesOf 4 m.frame) ++ rest ∧ IsBytes rest ∧ ((0 ≤ y ∧ y ≤ 4294967295) ∨ y = q.1.frame) := by
  rcases rdN_inv (get := fun m => m.frame) (fun _ _ => rfl) hB h with ⟨hc, h1, h2, h3, h4, h5⟩ | ⟨hc, h1, h2⟩
  · exact ⟨m.frame, h4, by rw [sel_yes hc]; exact h1, h5, .inl ⟨h2, by have h6 : m.frame < 2 ^ (8 * 4) := h3; omega⟩⟩
  · exact ⟨q.1.frame, h1, by rw [sel_no hc, h2]; rfl, by rw [h2]; exact hB, .inr rfl⟩
theorem fwd_frame (q : M) (m : M) (rest : List Int) (hk : q.kind = m.kind) (hx : (has m.kind).contains 102 = true → 0 ≤ m.frame ∧ m.frame ≤ 4294967295) (h0 : (has m.kind).contains 102 = false → m.frame = q.frame) : rd_frame (q, sel m.kind 102 (bytesOf 4 m.frame) ++ rest) = some ({ q with frame := m.frame }, rest) := by
  unfold rd_frame rdN
  dsimp only
  have hk' : has q.kind = has m.kind := by rw [hk]
  rw [hk']
  cases hc : (has m.kind).contains 102 with
  | true =>
    have := hx hc
    rw [sel_yes hc, if_pos rfl, rdn_bytes, Option.bind_some, Int.emod_eq_of_lt this.1 (by show m.frame < _; omega)]
  | false =>
    rw [sel_no hc, h0 hc, if_neg (by decide)]
    rfl
theorem inv_code {q : M × List Int} {m : M} {rest : List Int} (hB : IsBytes q.2) (h : rd_code q = some (m, rest)) : ∃ y, m = { q.1 with code := y } ∧ q.2 = sel q.1.kind 99 (bytesOf 1 m.code) ++ rest ∧ IsBytes rest ∧ ((0 ≤ y ∧ y ≤ 255) ∨ y = q.1.code) := by
  rcases rdN_inv (get := fun m => m.code) (fun _ _ => rfl) hB h with ⟨hc, h1, h2, h3, h4, h5⟩ | ⟨hc, h1, h2⟩
  · exact ⟨m.code, h4, by rw [sel_yes hc]; exact h1, h5, .inl ⟨h2, by have h6 : m.code < 2 ^ (8 * 1) := h3; omega⟩⟩
  · exact ⟨q.1.code, h1, by rw [sel_no hc, h2]; rfl, by rw [h2]; exact hB, .inr rfl⟩
theorem fwd_code (q : M) (m : M) (rest : List Int) (hk : q.kind = m.kind) (hx : (has m.kind).contains 99 = true → 0 ≤ m.code ∧ m.code ≤ 255) (h0 : (has m.kind).contains 99 = false → m.code = q.code) : rd_code (q, sel m.kind 99 (bytesOf 1 m.code) ++ rest) = some ({ q with code := m.code }, rest) := by
  unfold rd_code rdN
  dsimp only
  have hk' : has q.kind = has m.kind := by rw [hk]
  rw [hk']
  cases hc : (has m.kind).contains 99 with
  | true =>
    have := hx hc
    rw [sel_yes hc, if_pos rfl, rdn_bytes, Option.bind_some, Int.emod_eq_of_lt this.1 (by show m.code < _; omega)]
  | false =>
    rw [sel_no hc, h0 hc, if_neg (by decide)]
    rfl
theorem inv_n {q : M × List Int} {m : M} {rest : List Int} (hB : IsBytes q.2) (h : rd_n q = some (m, rest)) : ∃ y, m = { q.1 with n := y } ∧ q.2 = sel q.1.kind 110 (bytesOf 2 m.n) ++ rest ∧ IsBytes rest ∧ ((0 ≤ y ∧ y ≤ 65535) ∨ y = q.1.n) := by
  rcases rdN_inv (get := fun m => m.n) (fun _ _ => rfl) hB h with ⟨hc, h1, h2, h3, h4, h5⟩ | ⟨hc, h1, h2⟩
  · exact ⟨m.n, h4, by rw [sel_yes hc]; exact h1, h5, .inl ⟨h2, by have h6 : m.n < 2 ^ (8 * 2) := h3; omega⟩⟩
  · exact ⟨q.1.n, h1, by rw [sel_no hc, h2]; rfl, by rw [h2]; exact hB, .inr rfl⟩
theorem fwd_n (q : M) (m : M) (rest : List Int) (hk : q.kind = m.kind) (hx : (has m.kind).contains 110 = true → 0 ≤ m.n ∧ m.n ≤ 65535) (h0 : (has m.kind).contains 110 = false → m.n = q.n) : rd_n (q, sel m.kind 110 (bytesOf 2 m.n) ++ rest) = some ({ q with n := m.n }, rest) := by
  unfold rd_n rdN
  dsimp only
  have hk' : has q.kind = has m.kind := by rw [hk]
  rw [hk']
  cases hc : (has m.kind).contains 110 with
  | true =>
    have := hx hc
    rw [sel_yes hc, if_pos rfl, rdn_bytes, Option.bind_some, Int.emod_eq_of_lt this.1 (by show m.n < _; omega)]
  | false =>
    rw [sel_no hc, h0 hc, if_neg (by decide)]
    rfl
theorem inv_of {q : M × List Int} {m : M} {rest : List Int} (hB : IsBytes q.2) (h : rd_of q = some (m, rest)) : ∃ y, m = { q.1 with of := y } ∧ q.2 = sel q.1.kind 111 (bytesOf 2 m.of) ++ rest ∧ IsBytes rest ∧ ((0 ≤ y ∧ y ≤ 65535) ∨ y = q.1.of) := by
  rcases rdN_inv (get := fun m => m.of) (fun _ _ => rfl) hB h with ⟨hc, h1, h2, h3, h4, h5⟩ | ⟨hc, h1, h2⟩
  · exact ⟨m.of, h4, by rw [sel_yes hc]; exact h1, h5, .inl ⟨h2, by have h6 : m.of < 2 ^ (8 * 2) := h3; omega⟩⟩
  · exact ⟨q.1.of, h1, by rw [sel_no hc, h2]; rfl, by rw [h2]; exact hB, .inr rfl⟩
theorem fwd_of (q : M) (m : M) (rest : List Int) (hk : q.kind = m.kind) (hx : (has m.kind).contains 111 = true → 0 ≤ m.of ∧ m.of ≤ 65535) (h0 : (has m.kind).contains 111 = false → m.of = q.of) : rd_of (q, sel m.kind 111 (bytesOf 2 m.of) ++ rest) = some ({ q with of := m.of }, rest) := by
  unfold rd_of rdN
  dsimp only
  have hk' : has q.kind = has m.kind := by rw [hk]
  rw [hk']
  cases hc : (has m.kind).contains 111 with
  | true =>
    have := hx hc
    rw [sel_yes hc, if_pos rfl, rdn_bytes, Option.bind_some, Int.emod_eq_of_lt this.1 (by show m.of < _; omega)]
  | false =>
    rw [sel_no hc, h0 hc, if_neg (by decide)]
    rfl
theorem inv_bits {q : M × List Int} {m : M} {rest : List Int} (hB : IsBytes q.2) (h : rd_bits q = some (m, rest)) : ∃ y, m = { q.1 with bits := y } ∧ q.2 = sel q.1.kind 98 (bytesOf 4 m.bits) ++ rest ∧ IsBytes rest ∧ ((0 ≤ y ∧ y ≤ 4294967295) ∨ y = q.1.bits) := by
  rcases rdN_inv (get := fun m => m.bits) (fun _ _ => rfl) hB h with ⟨hc, h1, h2, h3, h4, h5⟩ | ⟨hc, h1, h2⟩
  · exact ⟨m.bits, h4, by rw [sel_yes hc]; exact h1, h5, .inl ⟨h2, by have h6 : m.bits < 2 ^ (8 * 4) := h3; omega⟩⟩
  · exact ⟨q.1.bits, h1, by rw [sel_no hc, h2]; rfl, by rw [h2]; exact hB, .inr rfl⟩
theorem fwd_bits (q : M) (m : M) (rest : List Int) (hk : q.kind = m.kind) (hx : (has m.kind).contains 98 = true → 0 ≤ m.bits ∧ m.bits ≤ 4294967295) (h0 : (has m.kind).contains 98 = false → m.bits = q.bits) : rd_bits (q, sel m.kind 98 (bytesOf 4 m.bits) ++ rest) = some ({ q with bits := m.bits }, rest) := by
  unfold rd_bits rdN
  dsimp only
  have hk' : has q.kind = has m.kind := by rw [hk]
  rw [hk']
  cases hc : (has m.kind).contains 98 with
  | true =>
    have := hx hc
    rw [sel_yes hc, if_pos rfl, rdn_bytes, Option.bind_some, Int.emod_eq_of_lt this.1 (by show m.bits < _; omega)]
  | false =>
    rw [sel_no hc, h0 hc, if_neg (by decide)]
    rfl
theorem inv_sum {q : M × List Int} {m : M} {rest : List Int} (hB : IsBytes q.2) (h : rd_sum q = some (m, rest)) : ∃ y, m = { q.1 with sum := y } ∧ q.2 = sel q.1.kind 109 (bytesOf 8 m.sum) ++ rest ∧ IsBytes rest ∧ ((0 ≤ y ∧ y ≤ 18446744073709551615) ∨ y = q.1.sum) := by
  rcases rdN_inv (get := fun m => m.sum) (fun _ _ => rfl) hB h with ⟨hc, h1, h2, h3, h4, h5⟩ | ⟨hc, h1, h2⟩
  · exact ⟨m.sum, h4, by rw [sel_yes hc]; exact h1, h5, .inl ⟨h2, by have h6 : m.sum < 2 ^ (8 * 8) := h3; omega⟩⟩
  · exact ⟨q.1.sum, h1, by rw [sel_no hc, h2]; rfl, by rw [h2]; exact hB, .inr rfl⟩
theorem fwd_sum (q : M) (m : M) (rest : List Int) (hk : q.kind = m.kind) (hx : (has m.kind).contains 109 = true → 0 ≤ m.sum ∧ m.sum ≤ 18446744073709551615) (h0 : (has m.kind).contains 109 = false → m.sum = q.sum) : rd_sum (q, sel m.kind 109 (bytesOf 8 m.sum) ++ rest) = some ({ q with sum := m.sum }, rest) := by
  unfold rd_sum rdN
  dsimp only
  have hk' : has q.kind = has m.kind := by rw [hk]
  rw [hk']
  cases hc : (has m.kind).contains 109 with
  | true =>
    have := hx hc
    rw [sel_yes hc, if_pos rfl, rdn_bytes, Option.bind_some, Int.emod_eq_of_lt this.1 (by show m.sum < _; omega)]
  | false =>
    rw [sel_no hc, h0 hc, if_neg (by decide)]
    rfl
theorem inv_ins {q : M × List Int} {m : M} {rest : List Int} (hB : IsBytes q.2) (h : rdIns q = some (m, rest)) : ∃ y, m = { q.1 with ins := y } ∧ q.2 = sel q.1.kind 105 (bytesOf 1 (m.ins.length : Int) ++ m.ins.flatMap En.inBytes) ++ rest ∧ IsBytes rest ∧ (((∀ p ∈ y, Gm.tyIn p) ∧ y.length ≤ 255) ∨ y = q.1.ins) := by
  unfold rdIns at h
  split at h
  · rename_i hc
    cases h1 : decL 1 decInW q.2 with
    | none => rw [h1] at h; cases h
    | some a =>
      obtain ⟨l, r⟩ := a
      rw [h1, Option.bind_some] at h
      injection h with h
      injection h with ha hb
      obtain ⟨e1, e2, e3, e4⟩ := decL_inv (f := En.inBytes) (Q := Gm.tyIn) (fun bs v rest hb h => decInW_inv hb h) hB h1
      subst ha hb
      exact ⟨l, rfl, by rw [sel_yes hc]; exact e1, e2, .inl ⟨e3, by have h6 : (l.length : Int) < 256 := e4; omega⟩⟩
  · rename_i hc
    injection h with h
    have hc' : (has q.1.kind).contains 105 = false := by simpa using hc
    exact ⟨q.1.ins, by rw [h], by rw [sel_no hc', h]; rfl, by rw [h] at hB; exact hB, .inr rfl⟩
theorem inv_log {q : M × List Int} {m : M} {rest : List Int} (hB : IsBytes q.2) (h : rdLog q = some (m, rest)) : ∃ y, m = { q.1 with log := y } ∧ q.2 = sel q.1.kind 108 (bytesOf 1 (m.log.length : Int) ++ m.log.flatMap logBytes) ++ rest ∧ IsBytes rest ∧ (((∀ s ∈ y, En.Ok s.e ∧ En.Ty s.e) ∧ y.length ≤ 255) ∨ y = q.1.log) := by
  unfold rdLog at h
  split at h
  · rename_i hc
    cases h1 : decL 1 decEntryW q.2 with
    | none => rw [h1] at h; cases h
    | some a =>
      obtain ⟨l, r⟩ := a
      rw [h1, Option.bind_some] at h
      injection h with h
      injection h with ha hb
      obtain ⟨e1, e2, e3, e4⟩ := decL_inv (f := fun e => logBytes ⟨e, none, 0⟩) (Q := fun e => En.Ok e ∧ En.Ty e) (fun bs v rest hb h => decEntryW_inv hb h) hB h1
      subst ha hb
      refine ⟨_, rfl, ?_, e2, .inl ⟨fun s hs => ?_, ?_⟩⟩
      · rw [sel_yes hc]
        dsimp only
        rw [List.length_map, List.flatMap_map]
        exact e1
      · obtain ⟨e, he, rfl⟩ := List.mem_map.1 hs
        exact e3 e he
      · rw [List.length_map]
        have h6 : (l.length : Int) < 256 := e4
        have h7 : l.length ≤ 255 := by omega
        exact h7
  · rename_i hc
    injection h with h
    have hc' : (has q.1.kind).contains 108 = false := by simpa using hc
    exact ⟨q.1.log, by rw [h], by rw [sel_no hc', h]; rfl, by rw [h] at hB; exact hB, .inr rfl⟩
theorem inv_data {q : M × List Int} {m : M} {rest : List Int} (hB : IsBytes q.2) (h : rdData q = some (m, rest)) : ∃ y, m = { q.1 with data := y } ∧ q.2 = sel q.1.kind 100 (bytesOf 1 (m.data.length : Int) ++ m.data) ++ rest ∧ IsBytes rest ∧ ((IsBytes y ∧ y.length ≤ 255) ∨ y = q.1.data) := by
  unfold rdData at h
  split at h
  · rename_i hc
    cases h1 : getB 1 q.2 with
    | none => rw [h1] at h; cases h
    | some a =>
      obtain ⟨l, r⟩ := a
      rw [h1, Option.bind_some] at h
      injection h with h
      injection h with ha hb
      obtain ⟨e1, e2, e3, e4⟩ := getB_inv hB h1
      subst ha hb
      exact ⟨l, rfl, by rw [sel_yes hc, List.append_assoc]; exact e1, e3, .inl ⟨e2, by have h6 : (l.length : Int) < 256 := e4; omega⟩⟩
  · rename_i hc
    injection h with h
    have hc' : (has q.1.kind).contains 100 = false := by simpa using hc
    exact ⟨q.1.data, by rw [h], by rw [sel_no hc', h]; rfl, by rw [h] at hB; exact hB, .inr rfl⟩
theorem fwd_ins (q : M) (m : M) (rest : List Int) (hk : q.kind = m.kind) (hT : ∀ p ∈ m.ins, Gm.tyIn p) (hx : (has m.kind).contains 105 = true → m.ins.length ≤ 16) (h0 : (has m.kind).contains 105 = false → m.ins = q.ins) : rdIns (q, sel m.kind 105 (bytesOf 1 (m.ins.length : Int) ++ m.ins.flatMap En.inBytes) ++ rest) = some ({ q with ins := m.ins }, rest) := by
  unfold rdIns
  dsimp only
  have hk' : has q.kind = has m.kind := by rw [hk]
  rw [hk']
  cases hc : (has m.kind).contains 105 with
  | true =>
    have := hx hc
    obtain ⟨l', h1, h2, h3⟩ := decL_put (size := 1) (R := fun (a b : Gm.In) => a = b) m.ins rest (show (m.ins.length : Int) < 256 by omega) (fun v hv rest => ⟨v, decInW_put (hT v hv) rest, rfl⟩)
    have e : l' = m.ins := (List.ext_getElem h2.symm fun k h h' => h3 k h h').symm
    rw [sel_yes hc, if_pos rfl, h1, Option.bind_some, e]
  | false =>
    rw [sel_no hc, h0 hc, if_neg (by decide)]
    rfl
theorem fwd_log (q : M) (m : M) (rest : List Int) (hk : q.kind = m.kind) (hT : ∀ s ∈ m.log, En.Ok s.e ∧ En.Ty s.e) (hx : (has m.kind).contains 108 = true → m.log.length ≤ 16) (h0 : (has m.kind).contains 108 = false → m.log = [] ∧ q.log = []) : ∃ L : List En.S, rdLog (q, sel m.kind 108 (bytesOf 1 (m.log.length : Int) ++ m.log.flatMap logBytes) ++ rest) = some ({ q with log := L }, rest) ∧ L.length = m.log.length ∧ ∀ k (h : k < m.log.length) (h' : k < L.length), En.Like m.log[k].e L[k].e := by
  unfold rdLog
  dsimp only
  have hk' : has q.kind = has m.kind := by rw [hk]
  rw [hk']
  cases hc : (has m.kind).contains 108 with
  | true =>
    have := hx hc
    obtain ⟨l', h1, h2, h3⟩ := decL_put (size := 1) (R := fun (a : En.S) (b : En.E) => En.Like a.e b) m.log rest (show (m.log.length : Int) < 256 by omega) (fun v hv rest => decEntryW_put (hT v hv).1 (hT v hv).2 rest)
    refine ⟨l'.map fun e => ⟨e, none, 0⟩, ?_, by rw [List.length_map, h2], fun k h h' => ?_⟩
    · rw [sel_yes hc, if_pos rfl, h1, Option.bind_some]
    · rw [List.getElem_map]
      exact h3 k h (by rw [h2]; exact h)
  | false =>
    obtain ⟨a, b⟩ := h0 hc
    refine ⟨[], ?_, by rw [a], fun k h h' => by rw [a] at h; simp at h⟩
    rw [sel_no hc, if_neg (by decide)]
    obtain ⟨⟩ := q
    dsimp only at b ⊢
    rw [b]
    rfl
theorem fwd_data (q : M) (m : M) (rest : List Int) (hk : q.kind = m.kind) (hx : (has m.kind).contains 100 = true → m.data.length ≤ 64) (h0 : (has m.kind).contains 100 = false → m.data = q.data) : rdData (q, sel m.kind 100 (bytesOf 1 (m.data.length : Int) ++ m.data) ++ rest) = some ({ q with data := m.data }, rest) := by
  unfold rdData
  dsimp only
  have hk' : has q.kind = has m.kind := by rw [hk]
  rw [hk']
  cases hc : (has m.kind).contains 100 with
  | true =>
    have := hx hc
    rw [sel_yes hc, if_pos rfl, List.append_assoc, getB_put (size := 1) (show (m.data.length : Int) < 256 by omega), Option.bind_some]
  | false =>
    rw [sel_no hc, h0 hc, if_neg (by decide)]
    rfl
theorem decMsg_inv {bs rest : List Int} {m : M} (hB : IsBytes bs) (h : decMsg bs = some (m, rest)) : bs = body m ++ rest ∧ Ty m ∧ IsBytes rest ∧ isKind m.kind = true ∧ m.ins.length ≤ 255 ∧ m.log.length ≤ 255 ∧ m.data.length ≤ 255 ∧ ∀ s ∈ m.log, En.Ok s.e := by
  unfold decMsg at h
  obtain ⟨⟨k, r0⟩, k1, h⟩ := Option.bind_eq_some_iff.1 h
  obtain ⟨⟨f, r1⟩, k2, h⟩ := Option.bind_eq_some_iff.1 h
  obtain ⟨⟨s, r2⟩, k3, h⟩ := Option.bind_eq_some_iff.1 h
  obtain ⟨⟨a, r3⟩, k4, h⟩ := Option.bind_eq_some_iff.1 h
  obtain ⟨⟨n, r4⟩, k5, h⟩ := Option.bind_eq_some_iff.1 h
  dsimp only at h k2 k3 k4 k5
  obtain ⟨E1, a1, b1, B1⟩ := rdn_inv hB k1
  obtain ⟨E2, a2, b2, B2⟩ := rdn_inv B1 k2
  obtain ⟨E3, a3, b3, B3⟩ := rdn_inv B2 k3
  obtain ⟨E4, a4, b4, B4⟩ := rdn_inv B3 k4
  obtain ⟨E5, a5, b5, B5⟩ := rdn_inv B4 k5
  split at h
  · rename_i hk
    unfold decParts at h
    obtain ⟨⟨m1, p1⟩, h1, h⟩ := Option.bind_eq_some_iff.1 h
    obtain ⟨⟨m2, p2⟩, h2, h⟩ := Option.bind_eq_some_iff.1 h
    obtain ⟨⟨m3, p3⟩, h3, h⟩ := Option.bind_eq_some_iff.1 h
    obtain ⟨⟨m4, p4⟩, h4, h⟩ := Option.bind_eq_some_iff.1 h
    obtain ⟨⟨m5, p5⟩, h5, h⟩ := Option.bind_eq_some_iff.1 h
    obtain ⟨⟨m6, p6⟩, h6, h⟩ := Option.bind_eq_some_iff.1 h
    obtain ⟨⟨m7, p7⟩, h7, h⟩ := Option.bind_eq_some_iff.1 h
    obtain ⟨⟨m8, p8⟩, h8, h⟩ := Option.bind_eq_some_iff.1 h
    obtain ⟨⟨m9, p9⟩, h9, h⟩ := Option.bind_eq_some_iff.1 h
    obtain ⟨⟨m10, p10⟩, h10, h⟩ := Option.bind_eq_some_iff.1 h
    obtain ⟨y1, e1, g1, c1, z1⟩ := inv_slot (q := (Ms.start k f s a n, r4)) B5 h1
    dsimp only at e1 g1 z1
    obtain ⟨y2, e2, g2, c2, z2⟩ := inv_gen (q := (m1, p1)) c1 h2
    dsimp only at e2 g2 z2
    obtain ⟨y3, e3, g3, c3, z3⟩ := inv_frame (q := (m2, p2)) c2 h3
    dsimp only at e3 g3 z3
    obtain ⟨y4, e4, g4, c4, z4⟩ := inv_code (q := (m3, p3)) c3 h4
    dsimp only at e4 g4 z4
    obtain ⟨y5, e5, g5, c5, z5⟩ := inv_n (q := (m4, p4)) c4 h5
    dsimp only at e5 g5 z5
    obtain ⟨y6, e6, g6, c6, z6⟩ := inv_of (q := (m5, p5)) c5 h6
    dsimp only at e6 g6 z6
    obtain ⟨y7, e7, g7, c7, z7⟩ := inv_bits (q := (m6, p6)) c6 h7
    dsimp only at e7 g7 z7
    obtain ⟨y8, e8, g8, c8, z8⟩ := inv_sum (q := (m7, p7)) c7 h8
    dsimp only at e8 g8 z8
    obtain ⟨y9, e9, g9, c9, z9⟩ := inv_ins (q := (m8, p8)) c8 h9
    dsimp only at e9 g9 z9
    obtain ⟨y10, e10, g10, c10, z10⟩ := inv_log (q := (m9, p9)) c9 h10
    dsimp only at e10 g10 z10
    obtain ⟨y11, e11, g11, c11, z11⟩ := inv_data (q := (m10, p10)) c10 h
    dsimp only at e11 g11 z11
    subst e1 e2 e3 e4 e5 e6 e7 e8 e9 e10 e11
    unfold start at *
    dsimp only at g1 z1 g2 z2 g3 z3 g4 z4 g5 z5 g6 z6 g7 z7 g8 z8 g9 z9 g10 z10 g11 z11 ⊢
    have b1' : k < 256 := b1
    have b2' : f < 256 := b2
    have b3' : s < 65536 := b3
    have b4' : a < 65536 := b4
    have b5' : n < 4294967296 := b5
    refine ⟨?_, ⟨⟨by dsimp only; omega, by dsimp only; omega⟩, ⟨by dsimp only; omega, by dsimp only; omega⟩, ⟨by dsimp only; omega, by dsimp only; omega⟩, ⟨by dsimp only; omega, by dsimp only; omega⟩, ⟨by dsimp only; omega, by dsimp only; omega⟩, ⟨by dsimp only; omega, by dsimp only; omega⟩, ⟨by dsimp only; omega, by dsimp only; omega⟩, ⟨by dsimp only; omega, by dsimp only; omega⟩, ⟨by dsimp only; omega, by dsimp only; omega⟩, ⟨by dsimp only; omega, by dsimp only; omega⟩, ⟨by dsimp only; omega, by dsimp only; omega⟩, ⟨by dsimp only; omega, by dsimp only; omega⟩, ⟨by dsimp only; omega, by dsimp only; omega⟩, ?_, ?_, ?_⟩, c11, hk, ?_, ?_, ?_, ?_⟩
    · rw [body_sel, E1, E2, E3, E4, E5]
      unfold head
      simp only [List.append_assoc]
      rw [g1, g2, g3, g4, g5, g6, g7, g8, g9, g10, g11]
      try simp only [List.append_assoc]
    · rcases z9 with h | h
      · exact h.1
      · rw [h]; intro p hp; cases hp
    · rcases z10 with h | h
      · exact fun s hs => (h.1 s hs).2
      · rw [h]; intro p hp; cases hp
    · rcases z11 with h | h
      · exact h.1
      · rw [h]; intro p hp; cases hp
    · rcases z9 with h | h
      · exact h.2
      · rw [h]; exact Nat.zero_le _
    · rcases z10 with h | h
      · exact h.2
      · rw [h]; exact Nat.zero_le _
    · rcases z11 with h | h
      · exact h.2
      · rw [h]; exact Nat.zero_le _
    · rcases z10 with h | h
      · exact fun s hs => (h.1 s hs).1
      · rw [h]; intro p hp; cases hp
  · cases h
theorem decMsg_log {bs rest : List Int} {m : M} (hB : IsBytes bs) (h : decMsg bs = some (m, rest)) : ∀ s ∈ m.log, En.Ok s.e := (decMsg_inv hB h).2.2.2.2.2.2.2
/-- The same message, but for the places of its entries, and for what nobody sees of these. -/
structure Sim (m n : M) : Prop where
  eq : n = { m with log := n.log }
  len : n.log.length = m.log.length
  log : ∀ k (h : k < m.log.length) (h' : k < n.log.length), En.Like m.log[k].e n.log[k].e
theorem decMsg_put {m : M} (hT : Ty m) (hok : Ok m) (rest : List Int) : ∃ n, decMsg (body m ++ rest) = some (n, rest) ∧ Sim m n := by
  have bd := hok.bd
  have h1 := no1_iff.1 hok.n1
  obtain ⟨hk, hf, bb, _⟩ := h1
  obtain ⟨z115, z103, z102, z99, z110, z111, z98, z109, z105, z108, z100⟩ := bare_iff.1 bb
  have hkind : isKind m.kind = true := by unfold isKind; simp; omega
  have N : ∀ {c : Int} {P : Prop}, ((has m.kind).contains c = true ∨ P) → (has m.kind).contains c = false → P := fun h e => by
    rcases h with h | h
    · rw [e] at h; cases h
    · exact h
  have hlog : ∀ s ∈ m.log, En.Ok s.e ∧ En.Ty s.e := fun s hs => by
    obtain ⟨k, hk, rfl⟩ := List.mem_iff_getElem.1 hs
    exact ⟨(hok.log k hk).1, hT.log _ (List.getElem_mem hk)⟩
  unfold decMsg
  rw [body_sel]
  unfold head
  simp only [List.append_assoc]
  have t1 := hT.serial
  have t2 := hT.ack
  have t3 := hT.seen
  rw [rdn_bytes, Option.bind_some, rdn_bytes, Option.bind_some, rdn_bytes, Option.bind_some, rdn_bytes, Option.bind_some, rdn_bytes, Option.bind_some]
  dsimp only
  rw [Int.emod_eq_of_lt (a := m.kind) (b := 2 ^ (8 * 1)) (by omega) (show m.kind < 256 by omega), Int.emod_eq_of_lt (a := m.frm) (b := 2 ^ (8 * 1)) (by omega) (show m.frm < 256 by omega), Int.emod_eq_of_lt (a := m.serial) (b := 2 ^ (8 * 2)) (by omega) (show m.serial < 65536 by omega), Int.emod_eq_of_lt (a := m.ack) (b := 2 ^ (8 * 2)) (by omega) (show m.ack < 65536 by omega), Int.emod_eq_of_lt (a := m.seen) (b := 2 ^ (8 * 4)) (by omega) (show m.seen < 4294967296 by omega)]
  rw [if_pos hkind]
  unfold decParts start
  rw [fwd_slot (⟨m.kind, m.frm, m.serial, m.ack, m.seen, 0, 0, 0, 0, 0, 0, 0, 0, [], [], []⟩ : M) m _ rfl (fun _ => by have := bd.slot; omega) (N z115), Option.bind_some]
  dsimp only
  rw [fwd_gen (⟨m.kind, m.frm, m.serial, m.ack, m.seen, m.slot, 0, 0, 0, 0, 0, 0, 0, [], [], []⟩ : M) m _ rfl (fun hc => by have := bd.gen (List.contains_iff_mem.1 hc); omega) (N z103), Option.bind_some]
  dsimp only
  rw [fwd_frame (⟨m.kind, m.frm, m.serial, m.ack, m.seen, m.slot, m.gen, 0, 0, 0, 0, 0, 0, [], [], []⟩ : M) m _ rfl (fun _ => by have := bd.frame; omega) (N z102), Option.bind_some]
  dsimp only
  rw [fwd_code (⟨m.kind, m.frm, m.serial, m.ack, m.seen, m.slot, m.gen, m.frame, 0, 0, 0, 0, 0, [], [], []⟩ : M) m _ rfl (fun _ => by have := bd.code; omega) (N z99), Option.bind_some]
  dsimp only
  rw [fwd_n (⟨m.kind, m.frm, m.serial, m.ack, m.seen, m.slot, m.gen, m.frame, m.code, 0, 0, 0, 0, [], [], []⟩ : M) m _ rfl (fun _ => by have := bd.n; omega) (N z110), Option.bind_some]
  dsimp only
  rw [fwd_of (⟨m.kind, m.frm, m.serial, m.ack, m.seen, m.slot, m.gen, m.frame, m.code, m.n, 0, 0, 0, [], [], []⟩ : M) m _ rfl (fun hc => by have := bd.of (List.contains_iff_mem.1 hc); omega) (N z111), Option.bind_some]
  dsimp only
  rw [fwd_bits (⟨m.kind, m.frm, m.serial, m.ack, m.seen, m.slot, m.gen, m.frame, m.code, m.n, m.of, 0, 0, [], [], []⟩ : M) m _ rfl (fun _ => hT.bits) (N z98), Option.bind_some]
  dsimp only
  rw [fwd_sum (⟨m.kind, m.frm, m.serial, m.ack, m.seen, m.slot, m.gen, m.frame, m.code, m.n, m.of, m.bits, 0, [], [], []⟩ : M) m _ rfl (fun _ => hT.sum) (N z109), Option.bind_some]
  dsimp only
  have L : ∀ {α : Type} {l : List α}, (l.length : Int) = 0 → l = [] := fun h => List.eq_nil_of_length_eq_zero (by omega)
  rw [fwd_ins (⟨m.kind, m.frm, m.serial, m.ack, m.seen, m.slot, m.gen, m.frame, m.code, m.n, m.of, m.bits, m.sum, [], [], []⟩ : M) m _ rfl hT.ins (fun hc => bd.ins (List.contains_iff_mem.1 hc)) (fun e => L (N z105 e)), Option.bind_some]
  dsimp only
  obtain ⟨l', g1, g2, g3⟩ := fwd_log (⟨m.kind, m.frm, m.serial, m.ack, m.seen, m.slot, m.gen, m.frame, m.code, m.n, m.of, m.bits, m.sum, m.ins, [], []⟩ : M) m (sel m.kind 100 (bytesOf 1 (m.data.length : Int) ++ m.data) ++ rest) rfl hlog (fun hc => bd.log (List.contains_iff_mem.1 hc)) (fun e => ⟨L (N z108 e), rfl⟩)
  try dsimp only at g1
  first
  | rw [g1, Option.bind_some]
  | (simp only [List.append_assoc] at g1 ⊢; rw [g1, Option.bind_some])
  try dsimp only
  have d1 := fwd_data (⟨m.kind, m.frm, m.serial, m.ack, m.seen, m.slot, m.gen, m.frame, m.code, m.n, m.of, m.bits, m.sum, m.ins, l', []⟩ : M) m rest rfl (fun hc => bd.data (List.contains_iff_mem.1 hc)) (fun e => L (N z100 e))
  try dsimp only at d1
  first
  | rw [d1]
  | (simp only [List.append_assoc] at d1 ⊢; rw [d1])
  exact ⟨_, rfl, ⟨rfl, g2, g3⟩⟩
end Ms
