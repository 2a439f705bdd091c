/-
GameSlots' walk.
-/
import Derived.Test.YtbihnmingedgfaaWi
import Derived.Test.YtbihnmingedgfaaSl
import Derived.Outline
import Derived.BigQuiet
import Derived.Deep.QuietTactic
import Derived.Deep.RegionWith
import Derived.Deep.CutRange
import Derived.Deep.CutBlock
import Derived.Deep.DeepCutAuto
namespace Go.Proofs.Ytbihnmingedgfaa
open Go.RowKit Go.Shelf
set_option linter.unusedVariables false
set_option linter.unusedSimpArgs false

/-- The inputs of a frame: of every slot before k; of those among them who are there. -/
def inUp (ps : Nat → Gm.In) (k : Nat) (p : Gm.In) : Nat → Gm.In := fun j => if j = k then p else ps j
def xin (l : List Gm.In) (f j : Nat) : Gm.In := ⟨(l.getD f ⟨0, 0, 0⟩).x, (l.getD ((f + j) % l.length) ⟨0, 0, 0⟩).y, 0⟩
def aIn (l : List Gm.In) (f : Nat) : Nat → Nat → Gm.In
  | 0 => noIn
  | k + 1 => inUp (aIn l f k) k (xin l f k)
def bIn (l : List Gm.In) (f : Nat) (m : Int) : Nat → Nat → Gm.In
  | 0 => noIn
  | k + 1 => if Gm.bit m k = true then inUp (bIn l f m k) k (xin l f k) else bIn l f m k
theorem noIn_ok (j : Nat) : Gm.tyIn (noIn j) := show Gm.tyIn ⟨0, 0, 0⟩ from ⟨by decide, by decide, by decide⟩
theorem xin_ty {l : List Gm.In} (h : ∀ x ∈ l, Gm.tyIn x) (f j : Nat) : Gm.tyIn (xin l f j) := ⟨(getD_ty h _).1, (getD_ty h _).2.1, by show (0 : Int) ≤ 0 ∧ (0 : Int) ≤ 255; decide⟩
theorem aIn_at (l : List Gm.In) (f : Nat) : ∀ k j, aIn l f k j = if j < k then xin l f j else noIn j
  | 0, j => by rw [if_neg (by omega)]; rfl
  | k + 1, j => by
    show inUp _ _ _ _ = _
    unfold inUp
    by_cases e : j = k
    · rw [if_pos e, if_pos (by omega), e]
    · rw [if_neg e, aIn_at l f k j]
      by_cases hlt : j < k
      · rw [if_pos hlt, if_pos (by omega)]
      · rw [if_neg hlt, if_neg (by omega)]
theorem bIn_at (l : List Gm.In) (f : Nat) (m : Int) : ∀ k j, bIn l f m k j = if j < k ∧ Gm.bit m j = true then xin l f j else noIn j
  | 0, j => by rw [if_neg (by omega)]; rfl
  | k + 1, j => by
    show (if Gm.bit m k = true then inUp (bIn l f m k) k (xin l f k) else bIn l f m k) j = _
    by_cases hb : Gm.bit m k = true
    · rw [if_pos hb]
      unfold inUp
      by_cases e : j = k
      · rw [if_pos e, if_pos ⟨by omega, by rw [e]; exact hb⟩, e]
      · rw [if_neg e, bIn_at l f m k j]
        by_cases hlt : j < k ∧ Gm.bit m j = true
        · rw [if_pos hlt, if_pos ⟨by omega, hlt.2⟩]
        · rw [if_neg hlt, if_neg (fun h => hlt ⟨by omega, h.2⟩)]
    · rw [if_neg hb, bIn_at l f m k j]
      by_cases hlt : j < k ∧ Gm.bit m j = true
      · rw [if_pos hlt, if_pos ⟨by omega, hlt.2⟩]
      · rw [if_neg hlt, if_neg (fun h => hlt ⟨by
          have : j ≠ k := fun e => hb (by rw [← e]; exact h.2)
          omega, h.2⟩)]
theorem aIn_ty {l : List Gm.In} (h : ∀ x ∈ l, Gm.tyIn x) (f k j : Nat) : Gm.tyIn (aIn l f k j) := by
  rw [aIn_at]; split
  · exact xin_ty h f j
  · exact noIn_ok j
theorem bIn_ty {l : List Gm.In} (h : ∀ x ∈ l, Gm.tyIn x) (f : Nat) (m : Int) (k j : Nat) : Gm.tyIn (bIn l f m k j) := by
  rw [bIn_at]; split
  · exact xin_ty h f j
  · exact noIn_ok j
theorem aIn_b (l : List Gm.In) (f k j : Nat) : (aIn l f k j).b = 0 := by rw [aIn_at]; split <;> rfl
theorem insSet (ps : Nat → Gm.In) (k : Nat) (hk : k < 8) (p : Gm.In) : ((((Gm.insCells ps).toArray.setIfInBounds (k * 3) (.int .i8 p.x)).setIfInBounds (k * 3 + 1) (.int .i8 p.y)).setIfInBounds (k * 3 + 2) (.int .u8 p.b)) = (Gm.insCells (inUp ps k p)).toArray := by
  match k, hk with
  | 0, _ | 1, _ | 2, _ | 3, _ | 4, _ | 5, _ | 6, _ | 7, _ => rfl

theorem tame_any (a : Int) (ha : -128 ≤ a ∧ a ≤ 127) (w : World) : Calls Try.prog 26 #[.int .i8 a] w fun e w' => e = .returned (.int .i8 (Gf.tame a)) ∧ Below w.heap.size w w' := by
  by_cases h : a = -128
  · have e : Gf.tame a = -127 := by unfold Gf.tame; rw [if_pos h]
    rw [e]
    go_enter Try.func26, Try.ntmps26
    go_wp2
    go_ret
    exact ⟨rfl, by repeat (first | exact Below.refl _ _ | apply Below.drew)⟩
  · rw [Gf.tame_same h]
    go_enter Try.func26, Try.ntmps26
    go_wp2
    go_ret
    exact ⟨rfl, by repeat (first | exact Below.refl _ _ | apply Below.drew)⟩

/-- Two games that are the same, in blocks of their own. -/
structure SlotsAt (BG BH : Nat) (w0 : World) (m : Int) (f : Nat) (w : World) : Prop where
  has : ∃ g A1 A2 c1 c2, Gm.Good g ∧ g.frame = f ∧ g.shots = [] ∧ (∀ j, j < 8 → (g.ship j).on = Gm.bit m j) ∧ Box w BG 30 (Gm.cells g (.slice A1 0 c1)) ∧ Box w BH 30 (Gm.cells g (.slice A2 0 c2))
  below : Below w0.heap.size w0 w
/-- Beside them the inputs, in blocks of their own. -/
structure SlotsIn (BG BH BA BB : Nat) (w0 w1 : World) (CG CH : Array Value) (ps qs : Nat → Gm.In) (w : World) : Prop where
  g : Box w BG 30 CG
  h : Box w BH 30 CH
  a : Box w BA 38 (Gm.insCells ps).toArray
  b : Box w BB 38 (Gm.insCells qs).toArray
  ge : w0.heap.size ≤ w1.heap.size ∧ w1.heap.size ≤ BA ∧ w1.heap.size ≤ BB ∧ BA ≠ BB ∧ BG < w1.heap.size ∧ BH < w1.heap.size
  below : Below w0.heap.size w0 w
  since : Below w1.heap.size w1 w
theorem SlotsIn.goes {BG BH BA BB : Nat} {w0 w1 : World} {CG CH : Array Value} {ps qs : Nat → Gm.In} {w w' : World} (h : SlotsIn BG BH BA BB w0 w1 CG CH ps qs w) (hb : Below w.heap.size w w') : SlotsIn BG BH BA BB w0 w1 CG CH ps qs w' :=
  ⟨h.g.below hb h.g.lt, h.h.below hb h.h.lt, h.a.below hb h.a.lt, h.b.below hb h.b.lt, h.ge, h.below.trans (hb.mono h.below.size), h.since.trans (hb.mono h.since.size)⟩
theorem SlotsIn.setA {BG BH BA BB : Nat} {w0 w1 : World} {CG CH : Array Value} {ps qs : Nat → Gm.In} {w : World} (h : SlotsIn BG BH BA BB w0 w1 CG CH ps qs w) (k : Nat) (hk : k < 8) (p : Gm.In) :
    SlotsIn BG BH BA BB w0 w1 CG CH (inUp ps k p) qs (((w.setCell ⟨BA, k * 3, none⟩ (.int .i8 p.x)).setCell ⟨BA, k * 3 + 1, none⟩ (.int .i8 p.y)).setCell ⟨BA, k * 3 + 2, none⟩ (.int .u8 p.b)) := by
  obtain ⟨g1, g2, g3, g4, g5, g6⟩ := h.ge
  have n1 : BG ≠ BA := by omega
  have n2 : BH ≠ BA := by omega
  refine ⟨((h.g.far n1 _).far n1 _).far n1 _, ((h.h.far n2 _).far n2 _).far n2 _, ?_, ((h.b.far (Ne.symm g4) _).far (Ne.symm g4) _).far (Ne.symm g4) _, h.ge, ((h.below.setCell (by show w0.heap.size ≤ BA; omega) _).setCell (by show w0.heap.size ≤ BA; omega) _).setCell (by show w0.heap.size ≤ BA; omega) _, ((h.since.setCell g2 _).setCell g2 _).setCell g2 _⟩
  rw [← insSet ps k hk p]; exact ((h.a.put _ _).put _ _).put _ _
theorem SlotsIn.setB {BG BH BA BB : Nat} {w0 w1 : World} {CG CH : Array Value} {ps qs : Nat → Gm.In} {w : World} (h : SlotsIn BG BH BA BB w0 w1 CG CH ps qs w) (k : Nat) (hk : k < 8) (p : Gm.In) :
    SlotsIn BG BH BA BB w0 w1 CG CH ps (inUp qs k p) (((w.setCell ⟨BB, k * 3, none⟩ (.int .i8 p.x)).setCell ⟨BB, k * 3 + 1, none⟩ (.int .i8 p.y)).setCell ⟨BB, k * 3 + 2, none⟩ (.int .u8 p.b)) := by
  obtain ⟨g1, g2, g3, g4, g5, g6⟩ := h.ge
  have n1 : BG ≠ BB := by omega
  have n2 : BH ≠ BB := by omega
  refine ⟨((h.g.far n1 _).far n1 _).far n1 _, ((h.h.far n2 _).far n2 _).far n2 _, ((h.a.far g4 _).far g4 _).far g4 _, ?_, h.ge, ((h.below.setCell (by show w0.heap.size ≤ BB; omega) _).setCell (by show w0.heap.size ≤ BB; omega) _).setCell (by show w0.heap.size ≤ BB; omega) _, ((h.since.setCell g3 _).setCell g3 _).setCell g3 _⟩
  rw [← insSet qs k hk p]; exact ((h.b.put _ _).put _ _).put _ _

/-- What holds while 'g, h = u, v' goes on. -/
structure SwapK (BG BH BU BV : Nat) (w0 : World) (CH CU CV : Array Value) (X : World) : Prop where
  g : ∃ g' A' m' c', Box X BG 30 (Gm.cells g' (.slice A' m' c'))
  h : Box X BH 30 CH
  u : Box X BU 30 CU
  v : Box X BV 30 CV
  below : Below w0.heap.size w0 X

set_option maxRecDepth 100000 in
set_option maxHeartbeats 2000000 in
theorem slots_big (s : ByteArray) (m : Int) (A : Option Addr) (n c : Nat) (w : World) (hs : s.size ≤ maxLen) (hn : n ≤ maxLen) (hbig : 20 < s.size ∨ 30 < n) :
    Calls Try.prog 4 #[.string s, .int .i64 m, .slice A n c] w fun e w' => e = .returned (.bool true) ∧ Kept w w' := by
  have ct := fun X => Lib.hid (told6_any X)
  by_cases h : 20 < s.size
  · have h1 : (20 : Int) < s.size := by omega
    go_enter Try.func4, Try.ntmps4
    go_wp2_with (first | (go_at_call 14; ((with_reducible refine ((ct _).out).mono ?_); rintro e w1 ⟨rfl, hb⟩)))
    go_ret
    exact ⟨rfl, hb⟩
  · have h1 : ¬ (20 : Int) < s.size := by omega
    have h2 : (30 : Int) < n := by omega
    go_enter Try.func4, Try.ntmps4
    go_wp2_with (first | (go_at_call 14; ((with_reducible refine ((ct _).out).mono ?_); rintro e w1 ⟨rfl, hb⟩)))
    go_ret
    exact ⟨rfl, hb⟩

set_option maxRecDepth 100000 in
set_option maxHeartbeats 8000000 in
theorem slots_small (s : ByteArray) (m : Int) (A : Option Addr) (c n : Nat) (l : List Gm.In) (w : World) (hs : s.size ≤ 20) (hnl : n = l.length) (hn : n ≤ 30) (hl : ∀ x ∈ l, Gm.tyIn x) (hL : Lies w w.heap.size 3 A n (Gm.inCells l)) :
    Calls Try.prog 4 #[.string s, .int .i64 m, .slice A n c] w fun e w' => e = .returned (.bool true) ∧ Kept w w' := by
  have h1 : ¬ (20 : Int) < s.size := by omega
  have h2 : ¬ (30 : Int) < n := by omega
  have ct := fun X => Lib.hid (told6_any X)
  have hd : 0 ≤ Dn.seed s.data.toList ∧ Dn.seed s.data.toList ≤ 18446744073709551615 := Dn.seed_bd _
  have cp := Lib.hid (play_any s m (by unfold maxLen; omega) w)
  have fr := Gm.fresh_to m (Dn.seed s.data.toList) hd 8 (by omega)
  generalize Dn.seed s.data.toList = d at *
  obtain ⟨g0, hg0⟩ : ∃ g, g = Gm.spawnTo m (Gm.new d) 8 := ⟨_, rfl⟩
  rw [← hg0] at cp fr
  have FR := Lib.hid fr
  have HL := Lib.hid hL
  have HT := Lib.hid hl
  have NL := Lib.hid hnl
  clear hg0 hd fr hL hl hs hnl
  go_enter Try.func4, Try.ntmps4
  go_wp2_with (first | ((with_reducible refine wpList_alloc_game rfl rfl ?_)) | ((with_reducible refine wpList_store_game_new rfl rfl rfl rfl rfl rfl ?_)) | (go_at_call 22; ((with_reducible refine (cp.out).mono ?_); rintro e w1 ⟨A0, c0, rfl, hb⟩; have sz1 := hb.size; have HB1 := Lib.hid ((hb.alloc hb.size (.cells (Gm.cells g0 (.slice A0 0 c0)) 30)).alloc (by simp <;> omega) (.cells (Gm.cells g0 (.slice A0 0 c0)) 30)); have P1 := Lib.hid (Box.made w1 30 (Gm.cells g0 (.slice A0 0 c0))); have P2 := Lib.hid ((Box.made w1 30 (Gm.cells g0 (.slice A0 0 c0))).alloc (.cells (Gm.cells g0 (.slice A0 0 c0)) 30)); have Q2 := Lib.hid (Box.made_at (w1.alloc (.cells (Gm.cells g0 (.slice A0 0 c0)) 30)) 30 (Gm.cells g0 (.slice A0 0 c0)) (n := w1.heap.size + 1) (by simp)); clear hb)) | ((with_reducible refine load_gate rfl rfl ?_); apply LoadGame.mk rfl; (with_reducible exact P1.out)))
  generalize (w1.alloc (.cells (Gm.cells g0 (.slice A0 0 c0)) 30)).alloc (.cells (Gm.cells g0 (.slice A0 0 c0)) 30) = V at *
  have hne : w1.heap.size ≠ w1.heap.size + 1 := by omega
  have szG : w.heap.size ≤ w1.heap.size := sz1
  have szH : w.heap.size ≤ w1.heap.size + 1 := by omega
  generalize w1.heap.size + 1 = BH at *
  generalize w1.heap.size = BG at *
  clear cp P1 sz1
  go_loopw [10, 11, 12, 13, 14, 15, 16, 17, 18, 19, 20, 21] (fun i _ _ _ _ _ _ _ _ _ _ _ wr => ∃ f : Nat, f ≤ n ∧ i = .int .i64 f ∧ SlotsAt BG BH w m f wr) (fun i _ _ _ _ _ _ _ _ _ _ _ _ => n - (intOf i).toNat)
  case atStart => exact ⟨0, Nat.zero_le _, rfl, ⟨⟨g0, A0, A0, c0, c0, ⟨FR.out.ok, FR.out.dice⟩, FR.out.frame, FR.out.shots, fun j hj => by rw [FR.out.on j]; simp [hj], P2.out, Q2.out⟩, HB1.out⟩⟩
  case round =>
    obtain ⟨f, hf, rfl, hS⟩ := hrel
    obtain ⟨⟨g, A1, A2, c1, c2, hgood, hfr, hsh, hon, hG, hH⟩, hY⟩ := hS
    clear P2 Q2 HB1 FR
    have KY := Lib.hid hY
    by_cases hlt : f < n
    · have hf8 : (f : Int) < n := by omega
      have hfw : IntKind.i64.wrap (f : Int) = (f : Int) := by rw [IntKind.wrap_i64]; omega
      obtain ⟨ad, rfl, hadl⟩ := HL.out.start (by omega)
      have nb := NL.out
      have cell : ∀ X, Below w.heap.size w X → ∀ k, k < n → X.cell? (ad.add (k * 3)) = some (.int .i8 (l.getD k ⟨0, 0, 0⟩).x) ∧ X.cell? ⟨(ad.add (k * 3)).block, (ad.add (k * 3)).off + 1, none⟩ = some (.int .i8 (l.getD k ⟨0, 0, 0⟩).y) := fun X hX k hk => by
        have hL2 := HL.out.below hX
        rw [nb] at hL2 hk
        exact ⟨(ins_at' hL2 k hk).1, (ins_at' hL2 k hk).2.1⟩
      have CELL := Lib.hid cell
      clear nb
      have hsl : g.shots.length = 0 := by rw [hsh]; rfl
      have lz : ∀ X, Lies X X.heap.size 6 A1 0 (Gm.shotCells g.shots) := fun X => by rw [hsh]; exact Lies.empty
      have lz2 : ∀ X, Lies X X.heap.size 6 A2 0 (Gm.shotCells g.shots) := fun X => by rw [hsh]; exact Lies.empty
      have cs1 := fun X => Lib.hid (step_yes (aIn l f 8) g A1 0 c1 X hgood.ok (by omega) hgood.dice (fun i _ => aIn_ty HT.out f 8 i) hsl.symm (lz X))
      have cs2 := fun X => Lib.hid (step_yes (bIn l f m 8) g A2 0 c2 X hgood.ok (by omega) hgood.dice (fun i _ => bIn_ty HT.out f m 8 i) hsl.symm (lz2 X))
      have hcg : Gm.step (bIn l f m 8) g = Gm.step (aIn l f 8) g := (Gm.step_congr (fun i hi hoi => by rw [aIn_at, bIn_at, if_pos hi, if_pos ⟨hi, (hon i hi).symm.trans hoi⟩])).symm
      rw [hcg] at cs2
      obtain ⟨good', fr', rise⟩ := Gm.step_good (ps := aIn l f 8) hgood (by omega)
      obtain ⟨sh', dice', ships'⟩ := Gm.step_calm (a := aIn l f 8) (g := g) (fun i => aIn_b l f 8 i) hsh
      have hon' : ∀ j, j < 8 → ((Gm.step (aIn l f 8) g).ship j).on = Gm.bit m j := fun j hj => by rw [← hon j hj]; exact (rise j hj).1
      obtain ⟨G, hGe⟩ : ∃ G, G = Gm.step (aIn l f 8) g := ⟨_, rfl⟩
      simp only [← hGe] at cs1 cs2 good' fr' sh' ships' hon'
      have GOOD := Lib.hid good'
      have GFR := Lib.hid (fr'.trans (by rw [hfr]))
      have GSH := Lib.hid sh'
      have GON := Lib.hid hon'
      have SHIPS := Lib.hid ships'
      have OK := Lib.hid hgood.ok
      have HON := Lib.hid hon
      have gl0 : G.shots.length = 0 := by rw [sh']; rfl
      have cu1 := fun X => Lib.hid (show Calls Try.prog 19 #[.agg (Gm.cells g (.slice A1 0 c1)), .agg (Gm.insCells (aIn l f 8)).toArray] X (fun e w' => ∃ A3 c3, e = .returned (.tuple #[.agg (Gm.cells G (.slice A3 0 c3)), .int .i64 0]) ∧ Below X.heap.size X w') from (cs1 X).out.mono (fun e w' ⟨A3, c3, h1, _, h2⟩ => ⟨A3, c3, by rw [gl0] at h1; exact h1, h2⟩))
      have cu2 := fun X => Lib.hid (show Calls Try.prog 19 #[.agg (Gm.cells g (.slice A2 0 c2)), .agg (Gm.insCells (bIn l f m 8)).toArray] X (fun e w' => ∃ A3 c3, e = .returned (.tuple #[.agg (Gm.cells G (.slice A3 0 c3)), .int .i64 0]) ∧ Below X.heap.size X w') from (cs2 X).out.mono (fun e w' ⟨A3, c3, h1, _, h2⟩ => ⟨A3, c3, by rw [gl0] at h1; exact h1, h2⟩))
      have csame := fun A3 A4 c3 c4 X => Lib.hid (same_yes G G A3 A4 0 0 c3 c4 X gl0.symm gl0.symm (by rw [sh']; exact Lies.empty) (by rw [sh']; exact Lies.empty) (by omega) (Gm.Eq.refl G))
      clear cs1 cs2
      clear hGe good' fr' sh' hon' ships' dice' rise hcg hgood hsl lz lz2 cell
      have hge : ∀ X, Below wr.heap.size wr X → SlotsIn BG BH wr.heap.size (wr.heap.size + 1) w wr (Gm.cells g (.slice A1 0 c1)) (Gm.cells g (.slice A2 0 c2)) noIn noIn ((wr.alloc (.cells (Gm.insCells noIn).toArray 38)).alloc (.cells (Gm.insCells noIn).toArray 38)) := fun X _ =>
        ⟨(hG.alloc _).alloc _, (hH.alloc _).alloc _, (Box.made _ _ _).alloc _, Box.made_at _ _ _ (by simp), ⟨hY.size, Nat.le_refl _, Nat.le_succ _, by omega, hG.lt, hH.lt⟩, (hY.alloc hY.size _).alloc (by have := hY.size; simp <;> omega) _, ((Below.refl _ _).alloc (Nat.le_refl _) _).alloc (by simp) _⟩
      have SI := Lib.hid (hge wr (Below.refl _ _))
      clear hge hfr hsh hon hG hH hY
      go_wp2_with (first | ((with_reducible refine wpList_alloc_z (t := 38) (cs := (Gm.insCells noIn).toArray) rfl rfl ins_zero rfl ?_)))
      generalize (wr.alloc (.cells (Gm.insCells noIn).toArray 38)).alloc (.cells (Gm.insCells noIn).toArray 38) = W0 at *
      generalize wr.heap.size + 1 = BB at *
      obtain ⟨BA, hBA⟩ : ∃ B, B = wr.heap.size := ⟨_, rfl⟩
      rw [← hBA] at SI
      try rw [← hBA]
      clear hBA
      obtain ⟨wo, rfl⟩ : ∃ x, x = wr := ⟨_, rfl⟩
      go_loopw [13, 14] (fun s _ wx => ∃ k : Nat, k ≤ 8 ∧ s = .int .i64 k ∧ SlotsIn BG BH BA BB w wo (Gm.cells g (.slice A1 0 c1)) (Gm.cells g (.slice A2 0 c2)) (aIn l f k) (bIn l f m k) wx) (fun s _ _ => 8 - (intOf s).toNat)
      case atStart => exact ⟨0, Nat.zero_le _, rfl, SI.out⟩
      case round =>
        obtain ⟨k, hk, rfl, hI⟩ := hrel
        clear SI
        by_cases hk8 : k < 8
        · have k8 : (k : Int) < 8 := by omega
          have hw1 : IntKind.i64.wrap ((f : Int) + k) = (f : Int) + k := by rw [IntKind.wrap_i64]; omega
          have hq2 : ((f : Int) + k) % (n : Int) = (((f + k) % n : Nat) : Int) := by push_cast; rfl
          have hq : ((f : Int) + k).tmod n = (((f + k) % n : Nat) : Int) := by rw [Int.tmod_eq_emod_of_nonneg (by omega)]; exact hq2
          have hqn : (f + k) % n < n := Nat.mod_lt _ (by omega)
          have hn0 : (n : Int) ≠ 0 := by omega
          have hxi : xin l f k = ⟨(l.getD f ⟨0, 0, 0⟩).x, (l.getD ((f + k) % n) ⟨0, 0, 0⟩).y, 0⟩ := by rw [NL.out]; rfl
          generalize (f + k) % n = q at *
          have q0 := fun X hX => (CELL.out X hX f hlt).1
          have q1 := fun X hX => (CELL.out X hX q hqn).2
          have Ea : aIn l f (k + 1) = inUp (aIn l f k) k (xin l f k) := rfl
          have Eb : bIn l f m (k + 1) = if Gm.bit m k = true then inUp (bIn l f m k) k (xin l f k) else bIn l f m k := rfl
          rw [hxi] at Ea Eb
          generalize (l.getD f ⟨0, 0, 0⟩).x = px at *
          generalize (l.getD q ⟨0, 0, 0⟩).y = py at *
          have q2 := q0 _ hI.below
          have q3 := q1 _ hI.below
          have q4 := q0 _ (hI.below.alloc hI.below.size (.cells #[.int .i8 0, .int .i8 0, .int .u8 0] 37))
          have q5 := q1 _ (hI.below.alloc hI.below.size (.cells #[.int .i8 0, .int .i8 0, .int .u8 0] 37))
          have hqi : (q : Int) < n := by omega
          have had : ad.block < wr.heap.size := Nat.lt_of_lt_of_le hadl hI.below.size
          have hqw : IntKind.i64.wrap (q : Int) = (q : Int) := by rw [IntKind.wrap_i64]; omega
          have HI := Lib.hid hI
          have EA := Lib.hid Ea
          have EB := Lib.hid Eb
          clear hI Ea Eb hxi q0 q1
          go_upto_region 14 with fail
          go_cut [14] from 46 to 77 (fun x wx => ∃ X, x = .pointer (some ⟨X, 0, none⟩) ∧ wr.heap.size ≤ X ∧ Below wr.heap.size wr wx ∧ Box wx X 37 #[.int .i8 px, .int .i8 py, .int .u8 0])
          case first =>
            go_region
            all_goals
              go_wp2_with fail
              go_meet
              exact ⟨_, rfl, Nat.le_refl _, (one_below _ _).drew, (Box.made _ _ _).drew⟩
          case rest =>
          obtain ⟨X, rfl, hX, hbx, bX⟩ := hcut
          have HJ := Lib.hid (HI.out.goes hbx)
          have ne1 : X ≠ BA := by have := HI.out.a.lt; omega
          have ne2 : X ≠ BB := by have := HI.out.b.lt; omega
          clear q2 q3 q4 q5 had HI hbx
          have xc := bX.cell
          have ac := HJ.out.a.cell
          have af := HJ.out.a.free
          have al := HJ.out.a.lt
          have i0 : (Gm.insCells (aIn l f k)).toArray[k * 3]? = some (.int .i8 (aIn l f k k).x) := Gm.insCells_at _ k 0 hk8 (by omega)
          have i1 : (Gm.insCells (aIn l f k)).toArray[k * 3 + 1]? = some (.int .i8 (aIn l f k k).y) := Gm.insCells_at _ k 1 hk8 (by omega)
          have i2 : (Gm.insCells (aIn l f k)).toArray[k * 3 + 2]? = some (.int .u8 (aIn l f k k).b) := Gm.insCells_at _ k 2 hk8 (by omega)
          go_upto_region 16 with fail
          obtain ⟨U, hU⟩ : ∃ U, U = ((wc.setCell ⟨BA, k * 3, none⟩ (.int .i8 px)).setCell ⟨BA, k * 3 + 1, none⟩ (.int .i8 py)).setCell ⟨BA, k * 3 + 2, none⟩ (.int .u8 0) := ⟨_, rfl⟩
          rw [← hU]
          have HK := HJ.out.setA k hk8 ⟨px, py, 0⟩
          dsimp only at HK
          rw [← hU, ← EA.out] at HK
          have bU : Box U X 37 #[.int .i8 px, .int .i8 py, .int .u8 0] := by rw [hU]; exact ((bX.far ne1 _).far ne1 _).far ne1 _
          have HKH := Lib.hid HK
          clear hU HK xc ac af al i0 i1 i2 HJ bX
          have xc := bU.cell
          have bc := HKH.out.b.cell
          have bf := HKH.out.b.free
          have bl := HKH.out.b.lt
          have i0 : (Gm.insCells (bIn l f m k)).toArray[k * 3]? = some (.int .i8 (bIn l f m k k).x) := Gm.insCells_at _ k 0 hk8 (by omega)
          have i1 : (Gm.insCells (bIn l f m k)).toArray[k * 3 + 1]? = some (.int .i8 (bIn l f m k k).y) := Gm.insCells_at _ k 1 hk8 (by omega)
          have i2 : (Gm.insCells (bIn l f m k)).toArray[k * 3 + 2]? = some (.int .u8 (bIn l f m k k).b) := Gm.insCells_at _ k 2 hk8 (by omega)
          have hwk : IntKind.u64.wrap (k : Int) = (k : Int) := by rw [IntKind.wrap_u64]; omega
          cases hbit : Gm.bit m k
          · have hb : (bits .and .i64 (m / 2 ^ k) 1 == 1) = false := hbit
            have EB2 := Lib.hid (show bIn l f m (k + 1) = bIn l f m k by rw [EB.out, hbit]; rfl)
            clear hbit
            go_wp2_with fail
            all_goals
              go_roundw
              case rel => exact ⟨k + 1, by omega, by go_num, by rw [EB2.out]; exact HKH.out⟩
              case measure => simp [intOf]; omega
          · have hb : (bits .and .i64 (m / 2 ^ k) 1 == 1) = true := hbit
            have EB2 := Lib.hid (show bIn l f m (k + 1) = inUp (bIn l f m k) k ⟨px, py, 0⟩ by rw [EB.out, hbit]; rfl)
            clear hbit
            go_wp2_with fail
            all_goals
              go_roundw
              case rel => exact ⟨k + 1, by omega, by go_num, by rw [EB2.out]; exact HKH.out.setB k hk8 ⟨px, py, 0⟩⟩
              case measure => simp [intOf]; omega
        · obtain rfl : k = 8 := by omega
          have k8 : ¬ (8 : Int) < 8 := by omega
          have ge := hI.ge
          have lG := hI.g.lt
          have S5 := Lib.hid hI
          have HG := Lib.hid hI.g
          have HH := Lib.hid hI.h
          have HA := Lib.hid hI.a
          clear hI
          go_upto_region 19 with (first | ((with_reducible refine load_gate rfl rfl ?_); apply LoadGame.mk rfl; (with_reducible exact HG.out)) | ((with_reducible refine ins_gate rfl rfl ?_); apply LoadIns.mk rfl; (with_reducible exact HA.out)) | ((with_reducible refine wpList_alloc_game rfl rfl ?_)) | ((with_reducible refine wpList_store_game_new rfl rfl rfl rfl rfl rfl ?_)) | (go_at_call 19; ((with_reducible refine ((cu1 _).out).mono ?_); rintro e w6 ⟨A3, c3, rfl, hb⟩; have S6 := Lib.hid ((S5.out.goes hb).goes (one_below w6 (.cells (Gm.cells G (.slice A3 0 c3)) 30))); have U6 := Lib.hid (Box.made w6 30 (Gm.cells G (.slice A3 0 c3))); have szU : wo.heap.size ≤ w6.heap.size := Nat.le_trans S5.out.since.size hb.size; clear hb)))
          generalize w6.heap.size = BU at *
          generalize w6.alloc (.cells (Gm.cells G (.slice A3 0 c3)) 30) = V6 at *
          have HH6 := Lib.hid S6.out.h
          have HB6 := Lib.hid S6.out.b
          clear HG HH HA S5
          go_upto_region 20 with (first | ((with_reducible refine load_gate rfl rfl ?_); apply LoadGame.mk rfl; (with_reducible exact HH6.out)) | ((with_reducible refine ins_gate rfl rfl ?_); apply LoadIns.mk rfl; (with_reducible exact HB6.out)) | ((with_reducible refine wpList_alloc_game rfl rfl ?_)) | ((with_reducible refine wpList_store_game_new rfl rfl rfl rfl rfl rfl ?_)) | (go_at_call 19; ((with_reducible refine ((cu2 _).out).mono ?_); rintro e w7 ⟨A4, c4, rfl, hb⟩; have S7 := Lib.hid ((S6.out.goes hb).goes (one_below w7 (.cells (Gm.cells G (.slice A4 0 c4)) 30))); have U7 := Lib.hid ((U6.out.below hb U6.out.lt).alloc (.cells (Gm.cells G (.slice A4 0 c4)) 30)); have V7' := Lib.hid (Box.made w7 30 (Gm.cells G (.slice A4 0 c4))); have szV : wo.heap.size ≤ w7.heap.size := Nat.le_trans S6.out.since.size hb.size; clear hb)))
          generalize w7.heap.size = BV at *
          generalize w7.alloc (.cells (Gm.cells G (.slice A4 0 c4)) 30) = V7 at *
          clear HH6 HB6 S6 U6
          have cs := fun X => csame A3 A4 c3 c4 X
          go_upto_region 22 with (first | ((with_reducible refine load_gate_g ?_ rfl ?_); (focus first | rfl | kernel_rfl | simp [Region.wanted, yielded]); apply LoadGame.mk rfl; (with_reducible exact U7.out)) | ((with_reducible refine load_gate_g ?_ rfl ?_); (focus first | rfl | kernel_rfl | simp [Region.wanted, yielded]); apply LoadGame.mk rfl; (with_reducible exact V7'.out)) | (go_at_call 23; ((with_reducible refine ((cs _).out).mono ?_); rintro e w8 ⟨rfl, hb⟩; have S8 := Lib.hid (S7.out.goes hb); have U8 := Lib.hid (U7.out.below hb U7.out.lt); have V8 := Lib.hid (V7'.out.below hb V7'.out.lt); clear hb)))
          go_wp2_with fail
          go_loopw [19, 20, 21] (fun s _ _ wx => ∃ k : Nat, k ≤ 8 ∧ s = .int .i64 k ∧ SlotsIn BG BH BA BB w wo (Gm.cells g (.slice A1 0 c1)) (Gm.cells g (.slice A2 0 c2)) (aIn l f 8) (bIn l f m 8) wx ∧ Box wx BU 30 (Gm.cells G (.slice A3 0 c3)) ∧ Box wx BV 30 (Gm.cells G (.slice A4 0 c4))) (fun s _ _ _ => 8 - (intOf s).toNat)
          case atStart => exact ⟨0, Nat.zero_le _, rfl, S8.out, U8.out, V8.out⟩
          case round =>
            obtain ⟨k, hk, rfl, hI, hU, hV⟩ := hrel
            clear S7 U7 V7' S8 U8 V8
            by_cases hk8 : k < 8
            · have k8 : (k : Int) < 8 := by omega
              have eqs := SHIPS.out k hk8
              have kC := fun i hi => (hI.g.cell (2 + k * 7 + i)).trans (Gm.cells_ship g (.slice A1 0 c1) k i hk8 hi)
              have uC := fun i hi => (hU.cell (2 + k * 7 + i)).trans (Gm.cells_ship G (.slice A3 0 c3) k i hk8 hi)
              have kl := hI.g.lt
              have ul := hU.lt
              have k0 := kC 0 (by omega)
              have k1 := kC 1 (by omega)
              have k2 := kC 2 (by omega)
              have k3 := kC 3 (by omega)
              have k4 := kC 4 (by omega)
              have k5 := kC 5 (by omega)
              have k6 := kC 6 (by omega)
              have u0 := uC 0 (by omega)
              have u1 := uC 1 (by omega)
              have u2 := uC 2 (by omega)
              have u3 := uC 3 (by omega)
              have u4 := uC 4 (by omega)
              have u5 := uC 5 (by omega)
              have u6 := uC 6 (by omega)
              simp only [Gm.Ship.cells, List.getElem?_cons_zero, List.getElem?_cons_succ, Nat.add_zero] at k0 k1 k2 k3 k4 k5 k6 u0 u1 u2 u3 u4 u5 u6
              have HI := Lib.hid hI
              have HU := Lib.hid hU
              have HV := Lib.hid hV
              have ES := Lib.hid eqs
              clear kC uC hI hU hV eqs
              go_upto_region 25 with fail
              go_cut [20, 21] from 102 to 148 (fun p q wx => ∃ P Q, p = .pointer (some ⟨P, 0, none⟩) ∧ q = .pointer (some ⟨Q, 0, none⟩) ∧ Below wr.heap.size wr wx ∧ Box wx P 26 (g.ship k).cells.toArray ∧ Box wx Q 26 (G.ship k).cells.toArray)
              case first =>
                go_region
                all_goals
                  go_wp2_with fail
                  go_meet
                  first | exact ⟨_, _, rfl, rfl, (two_below' _ _ _).drew, ((Box.made _ _ _).alloc _).drew, (Box.made_at _ _ _ (by simp)).drew⟩ | exact ⟨_, _, rfl, rfl, (two_below' _ _ _).drew, (Box.made_at _ _ _ (by simp)).drew, ((Box.made _ _ _).alloc _).drew⟩
              case rest =>
              obtain ⟨P, Q, rfl, rfl, hb, bP, bQ⟩ := hcut
              have HJ := Lib.hid (HI.out.goes hb)
              have UJ := Lib.hid (HU.out.below hb HU.out.lt)
              have VJ := Lib.hid (HV.out.below hb HV.out.lt)
              clear HI HU HV hb k0 k1 k2 k3 k4 k5 k6 u0 u1 u2 u3 u4 u5 u6 kl ul
              have okp := OK.out.2.2.2.1 k hk8
              cases hon : (g.ship k).on
              · have y0 : ∀ q : Ext wc.heap.size wc, q.w.cell? ⟨P, 0, none⟩ = some (.bool false) := fun q => q.cell bP.lt ((bP.cell 0).trans (by rw [← hon]; rfl))
                clear okp bP bQ hon
                go_upto_region 26 with fail
                refine wp_region_ext wc.heap.size wc (by kernel_rfl) (by kernel_rfl) (Below.refl _ _) ?_
                repeat (go_big_quiet_step (fail))
                refine wpQuiet_nil ?_
                intro _ hw'
                obtain ⟨q5, hw''⟩ := hw'
                subst hw''
                have H5 := Lib.hid (HJ.out.goes q5.h)
                have U5 := Lib.hid (UJ.out.below q5.h UJ.out.lt)
                have V5 := Lib.hid (VJ.out.below q5.h VJ.out.lt)
                clear HJ UJ VJ y0
                go_wp2_with fail
                go_roundw
                case rel => exact ⟨k + 1, by omega, by go_num, H5.out, U5.out, V5.out⟩
                case measure => simp [intOf]; omega
              · obtain ⟨m1, m2, m3, m4, m5⟩ := Gm.moved_on (p := aIn l f 8 k) (n := 0) hon
                rw [← ES.out] at m1 m2 m3 m4 m5
                have ax := aIn_ty HT.out f 8 k
                have tb := Gf.tame_bd ax.1
                have pv := Gf.push_bd (g.ship k).vx (Gf.tame (aIn l f 8 k).x)
                have pw := Gf.push_bd (g.ship k).vy (Gf.tame (aIn l f 8 k).y)
                rw [← m2] at pv
                rw [← m3] at pw
                have ob : (0 ≤ (g.ship k).x ∧ (g.ship k).x < 16777216) ∧ (0 ≤ (g.ship k).y ∧ (g.ship k).y < 16777216) ∧ (-524288 ≤ (g.ship k).vx ∧ (g.ship k).vx ≤ 524288) := ⟨okp.2.1, okp.2.2.1, okp.2.2.2.1⟩
                have cmx := fun X => Lib.hid (fldmove_any (g.ship k).x (G.ship k).vx (by omega) (by omega) X)
                have cmy := fun X => Lib.hid (fldmove_any (g.ship k).y (G.ship k).vy (by omega) (by omega) X)
                have ctm := fun X => Lib.hid (tame_any (aIn l f 8 k).x ax.1 X)
                have cpu := fun X => Lib.hid (fldpush_any (g.ship k).vx (Gf.tame (aIn l f 8 k).x) (by omega) (by omega) X)
                rw [← m4] at cmx
                rw [← m5] at cmy
                rw [← m2] at cpu
                have y0 : ∀ q : Ext wc.heap.size wc, q.w.cell? ⟨P, 0, none⟩ = some (.bool true) := fun q => q.cell bP.lt ((bP.cell 0).trans (by rw [← hon]; rfl))
                have y1 : ∀ q : Ext wc.heap.size wc, q.w.cell? ⟨P, 1, none⟩ = some (.int .i32 (g.ship k).x) := fun q => q.cell bP.lt ((bP.cell 1).trans rfl)
                have y2 : ∀ q : Ext wc.heap.size wc, q.w.cell? ⟨P, 2, none⟩ = some (.int .i32 (g.ship k).y) := fun q => q.cell bP.lt ((bP.cell 2).trans rfl)
                have y3 : ∀ q : Ext wc.heap.size wc, q.w.cell? ⟨P, 3, none⟩ = some (.int .i32 (g.ship k).vx) := fun q => q.cell bP.lt ((bP.cell 3).trans rfl)
                have z1 : ∀ q : Ext wc.heap.size wc, q.w.cell? ⟨Q, 1, none⟩ = some (.int .i32 (G.ship k).x) := fun q => q.cell bQ.lt ((bQ.cell 1).trans rfl)
                have z2 : ∀ q : Ext wc.heap.size wc, q.w.cell? ⟨Q, 2, none⟩ = some (.int .i32 (G.ship k).y) := fun q => q.cell bQ.lt ((bQ.cell 2).trans rfl)
                have z3 : ∀ q : Ext wc.heap.size wc, q.w.cell? ⟨Q, 3, none⟩ = some (.int .i32 (G.ship k).vx) := fun q => q.cell bQ.lt ((bQ.cell 3).trans rfl)
                have z4 : ∀ q : Ext wc.heap.size wc, q.w.cell? ⟨Q, 4, none⟩ = some (.int .i32 (G.ship k).vy) := fun q => q.cell bQ.lt ((bQ.cell 4).trans rfl)
                have za : ∀ q : Ext wc.heap.size wc, q.w.cell? ⟨BA, k * 3, none⟩ = some (.int .i8 (aIn l f 8 k).x) := fun q => q.cell HJ.out.a.lt ((HJ.out.a.cell (k * 3)).trans (Gm.insCells_at _ k 0 hk8 (by omega)))
                clear okp bP bQ hon m1 m2 m3 m4 m5 tb pv pw ob ax
                generalize (aIn l f 8 k).x = sx at *
                generalize Gf.tame sx = tx at *
                generalize (g.ship k).x = px at *
                generalize (g.ship k).y = py at *
                generalize (g.ship k).vx = pvx at *
                generalize (G.ship k).x = qx at *
                generalize (G.ship k).y = qy at *
                generalize (G.ship k).vx = qvx at *
                generalize (G.ship k).vy = qvy at *
                go_upto_region 26 with fail
                refine wp_region_ext wc.heap.size wc (by kernel_rfl) (by kernel_rfl) (Below.refl _ _) ?_
                repeat (go_big_quiet_step ((first | (go_at_call 24; with_reducible exact Calls.ext_of (Nat.le_refl _) (cmx _).out) | (go_at_call 24; with_reducible exact Calls.ext_of (Nat.le_refl _) (cmy _).out) | (go_at_call 25; with_reducible exact Calls.ext_of (Nat.le_refl _) (cpu _).out) | (go_at_call 26; with_reducible exact Calls.ext_of (Nat.le_refl _) (ctm _).out))))
                refine wpQuiet_nil ?_
                intro _ hw'
                obtain ⟨q5, hw''⟩ := hw'
                subst hw''
                have H5 := Lib.hid (HJ.out.goes q5.h)
                have U5 := Lib.hid (UJ.out.below q5.h UJ.out.lt)
                have V5 := Lib.hid (VJ.out.below q5.h VJ.out.lt)
                clear HJ UJ VJ y0 y1 y2 y3 z1 z2 z3 z4 za cmx cmy ctm cpu
                go_wp2_with fail
                go_roundw
                case rel => exact ⟨k + 1, by omega, by go_num, H5.out, U5.out, V5.out⟩
                case measure => simp [intOf]; omega
            · obtain rfl : k = 8 := by omega
              have k8 : ¬ (8 : Int) < 8 := by omega
              have HK := Lib.hid (show SwapK BG BH BU BV w (Gm.cells g (.slice A2 0 c2)) (Gm.cells G (.slice A3 0 c3)) (Gm.cells G (.slice A4 0 c4)) wr from ⟨⟨_, _, _, _, hI.g⟩, hI.h, hU, hV, hI.below⟩)
              have n1 : BH ≠ BG := Ne.symm hne
              have n2 : BU ≠ BG := by omega
              have n3 : BV ≠ BG := by omega
              clear hI hU hV
              go_upto_region 28 with fail
              refine Rz.wp_region_z (by kernel_rfl) 2 3 (by kernel_rfl) (fun X => SwapK BG BH BU BV w (Gm.cells g (.slice A2 0 c2)) (Gm.cells G (.slice A3 0 c3)) (Gm.cells G (.slice A4 0 c4)) X) (fun _ _ X => Box X BG 30 (Gm.cells G (.slice A3 0 c3))) ?hK ?hvd ?_
              case hK => exact ⟨⟨_, _, _, _, HK.out.g.choose_spec.choose_spec.choose_spec.choose_spec.drew⟩, HK.out.h.drew, HK.out.u.drew, HK.out.v.drew, HK.out.below.drew⟩
              case hvd => intro j vm vm' X _ _ _ h; exact h
              simp only [List.take_succ_cons, List.take_zero, List.drop_succ_cons, List.drop_zero, Nat.reduceSub]
              apply Rz.head_op
              focus (intro W hW; exact exec_load_game rfl rfl hW.u)
              apply Rz.head_op
              focus (intro W hW; exact exec_load_game rfl rfl hW.v)
              refine Rz.head_split (fun A => True) trivial ?_ (fun _ _ => trivial) ?_
              · intro vm X hX hV
                simp only [Rz.putAll]
                clear hV
                obtain ⟨g', A', m', c', hg⟩ := hX.g
                refine gives_skip (exec_store_game (B := BG) (g := G) (A := A3) (m := 0) (c := c3) rfl ?_ ?_ hg) ⟨hg.row _, ⟨⟨_, _, _, _, hg.row _⟩, hX.h.row_far n1 _, hX.u.row_far n2 _, hX.v.row_far n3 _, Below.setRow' hX.below szG _⟩, fun j _ _ hj h => hg.row _⟩
                · rw [Rz.put_none]; rfl
                · rw [Rz.put_none]; rfl
              · intro vm X hX hV
                have hG' := Lib.hid (hV 2 (by omega) (by omega))
                have XH := Lib.hid hX.h
                have KX := Lib.hid hX.below
                clear hV hX HK
                simp only [Rz.putAll, Nat.reduceAdd]
                generalize vm 2 = v2
                go_wp2_with (first | ((with_reducible refine store_gate rfl rfl ?_); apply StoreGame.mk rfl rfl rfl; focus (with_reducible exact XH.out)))
                go_roundw
                case rel => exact ⟨f + 1, by omega, by go_num, ⟨⟨G, A3, A4, c3, c4, GOOD.out, GFR.out, GSH.out, GON.out, hG'.out.row_far hne _, XH.out.row _⟩, Below.setRow' KX.out szH _⟩⟩
                case measure => simp [intOf]; omega
    · have hf8 : ¬ (f : Int) < n := by omega
      have HX := Lib.hid hG
      have e58 := fun s => Gm.cells_58 g s
      clear hG hH hY hgood hfr hsh hon
      go_wp2_with (first | (go_at_call 14; ((with_reducible refine ((ct _).out).mono ?_); rintro e w9 ⟨rfl, hb⟩; have K9 := Lib.hid (KY.out.trans (hb.mono KY.out.size)); have c9 := (HX.out.below hb HX.out.lt).cell; clear hb)))
      go_ret
      exact ⟨rfl, K9.out⟩

theorem slots_law (s : ByteArray) (m : Int) (A : Option Addr) (c : Nat) (l : List Gm.In) (w : World) (hs : s.size ≤ maxLen) (hn : l.length ≤ maxLen) (hl : ∀ x ∈ l, Gm.tyIn x) (hL : Lies w w.heap.size 3 A l.length (Gm.inCells l)) :
    Calls Try.prog 4 #[.string s, .int .i64 m, .slice A l.length c] w fun e w' => e = .returned (.bool true) ∧ Kept w w' := by
  by_cases h : 20 < s.size ∨ 30 < l.length
  · exact slots_big s m A _ c w hs hn h
  · exact slots_small s m A c _ l w (by omega) rfl (by omega) hl hL
end Go.Proofs.Ytbihnmingedgfaa
